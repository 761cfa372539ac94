import PyProof.Rows.All
import Wide.All
import OpenK.AllK
import Wide.FinOn
import PyProof.EqAt
import PyProof.EqKinds
import PyProof.TupleCall
import KE.KDictSum
import KE.KRevIter
import KE.KRevSl
import KE.KDictLaws
import PyProof.StrLawsFirst
import KE.LcSums
import PyProof.EnumMake
import PyProof.TupleIter
import PyProof.StationsW
import PyProof.Rows.Own
import PyProof.NsDelKeeps
import PyProof.RulesAs
import PyProof.ExcAttrAll.ValueError
import KE.KIsAll
import PyProof.ExcBaseAll.ValueError
import PyProof.Rows.FStr
import PyProof.FString
import PyProof.Rows.StrNews
import PyProof.StrLawsTight
import PyProof.StrLawsChain
import PyProof.ExcInit
import PyProof.ExcClass3
import PyProof.InstStoreFacts
import PySem.SetTable
import PySem.SetOps
import PyProof.TupleKey
import PyProof.SetKind
import PyProof.IsRules
import KE.KSortTup
import PyProof.Rows.SortRun
import PyProof.Rows.SortShell
import PyProof.DictWalks
import PyProof.DictTruth
import PySem.Challenge.RW_wornband_k30_searches_told
open And renaming intro→EX
open Array renaming getElem?_toList→yV,getElem?_eq_getElem→zl,length_toList→zm,getD_eq_getD_getElem?→zG,toList_append→zK,getElem?_eq_some_iff→Az,toList_push→AR,getD→AS,getElem?_eq_none→Br,toList_setIfInBounds→BJ,toList_eraseIdxIfInBounds→Cq,toList_reverse→CK,size_setIfInBounds→Dr,replicate→DP,toArray_toList→E6,forIn_toList→Ez,toList_map→EZ,toList_inj→F3,toList→G2
open Bool renaming false_ne_true→z8,false_eq_true→zz,eq_iff_iff→B7,not_true→CC,not_eq_true'→Dk,and_eq_true→Dv,not_false→E8,or_eq_true→Ff,false_and→Fo,and_assoc→FG
open Classical renaming byContradiction→BR,not_forall→CI,not_imp→Dh
open False renaming elim→Bo
open ForInStep renaming done→zp,yield→zy
open Iff renaming rfl→G4
open Int renaming emod_lt_of_pos→zI,emod_nonneg→zW,toNat_natCast→A3
open List renaming getElem?_eq_getElem→yM,getElem?_eq_some_iff→yR,getElem?_map→yT,size_toArray→z9,getElem?_append_left→zc,getElem?_append_right→zd,length_map→ze,mem_cons_of_mem→zh,append_assoc→zj,mem_cons_self→zk,mem_cons→zq,mem_of_getElem?→zr,mem_append_right→zw,mem_map→zD,mem_append→zE,getElem?_take_of_lt→zL,nodup_iff_pairwise_ne→zO,getElem?_eq_none_iff→zQ,getElem?_eq_none→zT,map_cons→zY,getElem?_drop→zZ,getD_eq_getElem?_getD→A2,pairwise_append→Af,range→Aj,ext_getElem?→Al,append_nil→Ao,lookup_cons→Aq,getElem?_cons_succ→Ar,getElem?_cons_zero→As,mem_iff_getElem→Au,Nodup→AA,nodup_cons→AB,length_set→AD,pairwise_iff_getElem→AE,getElem_mem→AG,mem_reverse→AH,length_cons→AI,replicate→AK,getElem?_set→AQ,not_mem_nil→AU,perm_append_comm→B0,drop_eq_getElem_cons→B6,length_zip→B8,pairwise_map→Bb,filterMap_cons→Bh,length_eq_zero_iff→Bj,length_append→Bp,map_map→Bq,find?_cons→Bu,mem_iff_getElem?→Bx,mem_range→BE,length→BH,drop_length→BP,length_erase_of_mem→BY,of_mem_zip→C1,nil_append→C2,mem_filterMap→C3,set_cons_zero→C6,mem_singleton→C7,pairwise_singleton→C9,eraseIdx_append_of_length_le→Cb,map_nil→Ce,take_of_length_le→Cg,nodup_nil→Co,length_singleton→Cr,mem_of_mem_erase→Cs,length_take→Cu,cons_append→Cy,any_cons→CB,mem_append_left→CD,length_eraseIdx→CG,eraseIdx_set_eq→CH,length_nil→CS,pairwise_cons→D6,set_cons_succ→D9,getElem?_zip_eq_some→Dc,mem_or_eq_of_mem_set→Dd,filterMap_cons_some→Dp,zipIdx_cons→Dw,pairwise_mergeSort→Dx,getElem?_set_self→DB,drop_eq_nil_of_le→DF,pairwise_lt_range→DH,mem_filter→DI,foldl_cons→DM,forIn_cons→DN,take_append_drop→DT,getElem?_set_ne→DY,drop_zero→E1,forIn_nil→E2,map_congr_left→Eb,mergeSort_perm→Ec,getElem?_range→Ed,reverse_append→Ee,lookup_append→Ex,nodup_append→EM,length_drop→ES,all_eq_true→EW,perm_middle→F0,map_snd_zip→F4,any_eq_true→F6,zipIdx_nil→Fe,drop_drop→Fx,all_cons→FN
open List.Nodup renaming not_mem_erase→BX,length_le_of_subset→CA
open List.Pairwise renaming nil→BA,map→GC
open List.Perm renaming append_right→A5,append_left→Ab,eq_of_pairwise→Dn
open List.cons renaming injEq→DR
open Nat renaming le_refl→yP,lt_of_lt_of_le→z7,ne_of_lt→zg,zero_le→zo,lt_irrefl→Ah,le_trans→Aw,zero_add→Ba,le_add_right→Bl,le_of_lt→BN,ne_of_gt→Cc,lt_succ_of_lt→Ci,sub_self→Cj,lt_succ_self→Cw,mod_lt→D5,lt_trans→DE,div_div_eq_div_mul→DG,le_succ→E3,reduceAdd→Em,reduceSub→En,le_succ_of_le→EL,div_eq_of_lt→EY,strongRecOn→Fg,add_assoc→FV
open Ne renaming symm→AZ
open Option renaming map_eq_some_iff→zM,map_some→Bv,ne_none_iff_exists'→BI,getD_some→Cv,isSome_iff_exists→Dl,getD_none→Du,isSome→Ei,isSome_some→Eu
open Option.some renaming inj→zR,injEq→Dj
open Or renaming inr→yX,inl→yY
open Prod renaming ext→D4
open PyProof.Rows renaming wpS_bind→yQ,wpS_pure→yZ,Keyed→z5,boot_isinstance→zv,wpS_forRange→A0,SortSt→Ak,wpS_modify→Ap,wpS_mono→Bn,boot_list→Bs,boot_int→By,callWith_type1→Bz,mem_zip_self→BQ,boot_sorted→BZ,boot_tuple→Ca,wpS_get→Cm,boot_bool→Cp,boot_abs→Ct,SortKind→CJ,AllBare→De,wpS_lift→Dz,subscriptTail_builtinR→DC,boot_str→DX,listUpdate_at→Ek,IntsAre→EC,callWith_builtin1→ER,seqEpoch_at→Fc,entry_list_sort→Fj,Subscript_→Fq,size_push'→Fz,slot_list_sort→FC,args_list_sort→FD,sortedHeap_old→FE,sortedHeap_at→FX,boot_all→G6
open PyProof.Rows.SortSt renaming mk'→BL
open PySem renaming wpAny_bind→yF,Value→yH,wpAny_pure→yJ,Shared→yK,Program→zf,World→zt,FuncData→zu,wpAny_call_entry→zH,sizeLine_eq→zN,Around→zP,wpAny_callSpecial?_slot→zU,wpAny_mono→zX,SetTable→A7,wpAny_newObj_type→Ac,wpAny_holding→Ai,wpAny_setState_of→Am,wpAny_seqItems→Ax,wpAny_field→AM,wpAny_typeNameOfWhole_keyiter→AN,wpAny_setField_rec→AX,IsTupleKey→AY,wpAny_truthy_bool→B9,wpAny_standAt→Bc,wpAny_rule→Bd,wpAny_typeNameOf_keyiter→Be,NameKind→Bi,wpAny_setField→Bk,wpAny_askSetting→Bm,wpAny_attempt→Bw,Builtin→BB,Scope→BF,wpAny_isInstance→BO,wpAny_comprehension_free→BW,wpAny_passesOwn→C0,IsPair→C4,DictEntry→C8,wpAny_pyIter_slot→Ck,wpAny_dictEntries→Cn,wpAny_updateSeq_pair→CF,pushCells_keeps→CN,wpAny_ite_split→CO,wpAny_setEntries_of→CT,codeAny_mono→CU,wpAny_Call_Name_kw→CZ,isSubtype_stop→D3,wpAny_fieldsOf→D8,wpAny_pyIter_list→Df,wpAny_onRaise→Dm,wpAny_eqBool_int→Dt,wpAny_forIn_list→Dy,Model→DJ,wpAny_execs_nil→DK,wpAny_specialOf→DL,IsZip→DO,wpAny_dictEpoch→DQ,wpAny_isSame_ref_self→DS,builtinLookup_eq_fast→DU,wpAny_isOneOf_keyiter→DW,sliceRange_one→DZ,wpAny_of_eq→E4,wpAny_letGo→E5,isSubtype_type→E7,wpAny_handled→Eg,Comprehension→Eh,wpAny_newList→El,PlainAttrs→Et,wpAny_pyIter_ascii→Ew,wpAny_assign_Name→EA,BindsTo→EB,seqIndex_neg→ED,slot_list_getitem→EE,Keyword→EF,wpAny_pyIter_wide→EG,wpAny_storeSet_of→EJ,wpAny_execs_cons→EO,wpAny_pyIter_zip→EU,seqIndex_of→F8,wpAny_throw→F9,wpAny_loadPart'→Fd,typeLookup_type→Fh,wpAny_Name→Fn,Result→Fp,typeIs_str→Ft,wpAny_newTuple→Fv,entryFor_alias→Fy,intBits_le_64→FK,evalPart_none→FL,call_list_seq→FO,signature?_of→FT,Draws→G0,CellsOk→G3,Params→Gz
open PySem.Builtin.Dict renaming showsAll→DV,dictSlotNone→FH,pendingCount→FI
open PySem.Builtin.Dict_items renaming ownsTuple→CP
open PySem.Builtin.Frozenset renaming oneOther→FA,sizeOf→FU,addrOf→FW,slot0→G1
open PySem.Builtin.List renaming listLengthHint→CV
open PySem.Builtin.Range renaming rangeSize→FZ
open PySem.Builtin.SmallTypes renaming nextOf→zV,ownedTupleIsFree→An,ownedTupleHandOut→BU
open PySem.Builtin.Str renaming strSliceIndices→Av,tooLong→Gr
open PySem.Calls renaming call_function_entry→BS,Name_function_global→CY,callWith_builtin→DD
open PySem.Data renaming cell→Ea,seq→Fu,fields→Gb
open PySem.F renaming slot_dict_keyiterator_next→A8,args_dict_keyiterator_next_1→Cz,entry_dict_keyiterator_next→CL,slot_dict_keyiterator_iter→CQ,slot_dict_iter→F5,slot_set_iter→Fi
open PySem.Heap renaming get?_push_of_some→yN,lt_size→yW,get?_push_size→z6,SameBut→zC,get?_update_self→AF,size_push→AL,get?_update_other→Cf,ExtBut→Dg,get?_push_ne→Di,size_update→F2
open PySem.Heap.IsSliceOf renaming new→Gu
open PySem.Heap.Ns renaming new→Gg
open PySem.Heap.SameBut renaming update→Aa
open PySem.NameKind renaming free→A9,cell→Ef
open PySem.Obj renaming mapSeq→AW,putSet→D7,mapFields→Dq,data_mapFields→Ey
open PySem.PassesOwn renaming never→zS
open PySem.SeqAt renaming EqAt→Gw
open PySem.SeqAt.EqAt renaming int_str→Ep,str_int→Es,none_bool→Gd,bool_none→Ge,bool_bool→Gf,none_int→Gh,none_str→Gi,bool_int→Gj,bool_str→Gk,int_none→Gm,int_bool→Gn,str_none→Gp,str_bool→Gq,int_int→Gx,str_str→Gy,same→GJ
open PySem.SeqAt.RcAt renaming lists_lengths→FY,lists→GF
open PySem.SetTable renaming leap→zx,bits→zA,runEnd→zF,below→A6,insertAt→Ad,turns→Ae,grown→BK,sizeAbove→C5,fill→Ej,has→EI,fresh→FF,slot→FP,laid→FQ,fits→FR
open PySem.SetTable.below renaming go→BC
open PySem.SetTable.layClean renaming free→Ay
open PySem.SetTable.probe renaming go→BD
open PySem.Str renaming ofString→yO,length→Gv
open PySem.Txt renaming find→D0,slice→ET,mul→GB
open PySem.Value renaming none→A1,ref→A4,int→Ds,type→DA,str→EN,bool→Fm,isStrOf→FJ,isInt→G7,float→Ga
open PySem.W renaming looks_findIn→EH,looks_mroIn→Fb,looks_find→Fw
open PySem.W.WData renaming int→GD
open PySem.W.WShape renaming has→GA
open PySem.pickOrder renaming go→EK
open Sum renaming inl→Bf,inr→Bg
open Sum.inl renaming inj→G8
open Sum.inr renaming inj→G9
open True renaming intro→BG
set_option Elab.async false
set_option linter.all false
set_option maxRecDepth 100000
namespace L2
open PySem PySem.Spec PyProof.Rows
abbrev Key:=Sum Int Str
def eR:Key→yH→Bool
 | .inl k,v=>G7 k v
 | .inr x,v=>FJ x v
def p7 (w:zt):Key→Int
 | .inl k=>hashInt k
 | .inr x=>hashStr w x
theorem bw:∀{k:Key} {v:yH},eR k v=true→(∃i t,k=Bf i∧v=Ds i t)∨(∃x t,k=Bg x∧v=EN x t)
 | .inl i, v, h => by
  obtain⟨t,e⟩:=Value.isInt_shape (k:=i) (v:=v) h
  exact .inl ⟨i,t,rfl,e⟩
 | .inr x, v, h => by
  obtain⟨t,e⟩:=Value.isStrOf_shape (x:=x) (v:=v) h
  exact .inr ⟨x,t,rfl,e⟩
theorem fe (i:Int) (t:Tok):eR (.inl i) (.int i t)=true:=by simp[eR,G7]
theorem ff (x:Str) (t:Tok):eR (.inr x) (.str x t)=true:=by simp[eR,FJ]
theorem uG (a b:Int):decide ((Bf a:Key)=Bf b)=(a == b):=by
 by_cases e:a=b
 ·subst e;simp
 ·have h:¬(Bf a:Key)=Bf b:=fun q=>e (G8 q)
  rw[decide_eq_false h]
  exact(beq_eq_false_iff_ne.mpr e).symm
theorem uH (a b:Str):decide ((Bg a:Key)=Bg b)=decide (a=b):=by
 by_cases e:a=b
 ·subst e;simp
 ·have h:¬(Bg a:Key)=Bg b:=fun q=>e (G9 q)
  rw[decide_eq_false h,decide_eq_false e]
theorem uI (a:Int) (b:Str):decide ((Bf a:Key)=Bg b)=false:=decide_eq_false (fun q=>nomatch q)
theorem uJ (a:Str) (b:Int):decide ((Bg a:Key)=Bf b)=false:=decide_eq_false (fun q=>nomatch q)
def mixKind (prog:zf) (w:zt):PySem.KeyKind prog w Key where
 is:=eR
 hash:=p7 w
 inj:=fun v a b ha hb=>by
  rcases bw ha with⟨i,t,rfl,rfl⟩ | ⟨x,t,rfl,rfl⟩
  ·rcases bw hb with⟨j,u,rfl,e⟩ | ⟨y,u,rfl,e⟩
   ·injection e with e1 _;rw[e1]
   ·exact nomatch e
  ·rcases bw hb with⟨j,u,rfl,e⟩ | ⟨y,u,rfl,e⟩
   ·exact nomatch e
   ·injection e with e1 _;rw[e1]
 byValue:=fun k v h=>by
  rcases bw h with⟨i,t,rfl,rfl⟩ | ⟨x,t,rfl,rfl⟩ <;> rfl
 pyHash:=fun hv h=>by
  rcases bw hv with⟨i,t,rfl,rfl⟩ | ⟨x,t,rfl,rfl⟩
  ·exact wpAny_pyHash_int h
  ·exact wpAny_pyHash_str h
 eqBool:=fun hu hv h=>by
  rcases bw hu with⟨i,t,rfl,rfl⟩ | ⟨x,t,rfl,rfl⟩
  ·rcases bw hv with⟨j,u,rfl,rfl⟩ | ⟨y,u,rfl,rfl⟩
   ·rw[uG]at h;exact Dt h
   ·rw[uI]at h;exact Ep i t y u _ _ _ _ h
  ·rcases bw hv with⟨j,u,rfl,rfl⟩ | ⟨y,u,rfl,rfl⟩
   ·rw[uJ]at h;exact Es x t j u _ _ _ _ h
   ·rw[uH]at h;exact wpAny_eqBool_str h
 «strs» :=fun k x t v h=>by
  rcases bw h with⟨i,u,rfl,e⟩ | ⟨y,u,rfl,e⟩
  ·exact nomatch e
  ·injection e with e1 _
   subst e1
   cases v <;> rfl
theorem k6 (prog:zf) (w:zt) (i:Int) (t:Tok):(mixKind prog w).is (.inl i) (.int i t)=true:=fe i t
theorem k9 (prog:zf) (w:zt) (x:Str) (t:Tok):(mixKind prog w).is (.inr x) (.str x t)=true:=ff x t
inductive V where
 | non | bl (b:Bool) | int (i:Int) | str (x:Str) | byt (b:Array UInt8) | flt (b:UInt64) | ref (a:Addr) | ty (n:String)
 deriving DecidableEq
def RelV:V→yH→Prop
 | .non,u=>u=A1
 | .bl b,u=>u=Fm b
 | .int i,u=>∃t,u=Ds i t
 | .str x,u=>∃t,u=EN x t
 | .byt b,u=>∃t,u=Value.bytes b t
 | .flt b,u=>∃t,u=Ga b t
 | .ref a,u=>u=A4 a
 | .ty n,u=>u=DA n
abbrev Vals:List V→List yH→Prop:=Paired RelV
theorem Vals.length {xs:List V} {us:List yH} (r:Vals xs us):xs.length=us.length:=Paired.length r
theorem Vals.get:∀{xs:List V} {us:List yH} {i:Nat} {x:V},Vals xs us→xs[i]? =some x→∃u,us[i]? =some u∧RelV x u
 | _,_,_,_,.nil,e=>by simp at e
 | _,_,0,_,.cons r _,e=>by simp at e;subst e;exact⟨_,rfl,r⟩
 | _, _, i + 1, x, .cons _ t, e => by
  obtain⟨u,h1,h2⟩:=Vals.get (i:=i) (x:=x) t (by simpa using e)
  exact⟨u,by simpa using h1,h2⟩
theorem Vals.set {x:V} {u:yH} (r:RelV x u):∀{xs:List V} {us:List yH} (i:Nat),Vals xs us→Vals (xs.set i x) (us.set i u)
 | _,_,_,.nil=>.nil
 | _,_,0,.cons _ t=>.cons r t
 | _,_,i+1,.cons q t=>.cons q (Vals.set r i t)
theorem Vals.append:∀{xs ys:List V} {us ws:List yH},Vals xs us→Vals ys ws→Vals (xs++ys) (us++ws)
 | _,_,_,_,.nil,s=>s
 | _,_,_,_,.cons r t,s=>.cons r (Vals.append t s)
theorem Vals.take:∀{xs:List V} {us:List yH} (n:Nat),Vals xs us→Vals (xs.take n) (us.take n)
 | _,_,0,_=>.nil
 | _,_,_+1,.nil=>.nil
 | _,_,n+1,.cons r t=>.cons r (Vals.take n t)
theorem Vals.drop:∀{xs:List V} {us:List yH} (n:Nat),Vals xs us→Vals (xs.drop n) (us.drop n)
 | _,_,0,r=>r
 | _,_,_+1,.nil=>.nil
 | _,_,n+1,.cons _ t=>Vals.drop n t
def RelO:Option V→Option yH→Prop
 | some v,some u=>RelV v u
 | none,none=>True
 | _,_=>False
def KV {κ:Type} :List (κ×V)→List (κ×yH)→Prop:=Paired fun(p:κ×V) (q:κ×yH)=>p.1=q.1∧RelV p.2 q.2
def kV:Key→V
 | .inl i=>.int i
 | .inr x=>.str x
inductive HO where
 | lst (xs:List V)
 | tup (xs:List V)
 | dK (kvs:List (Key×V)) | dT (kvs:List (List Key×V))
 | set (S:Int→Bool) (n:Nat)
 | ins (C dx:Addr) (fs:List (Str×V))
 | own (x:Addr)
 | xd (fs:List (Str×V))
 | met (f x:Addr)
 | rng (lo hi:Int)
 | frz (o:Obj) (u:HO)
 | tbl (ps:Array yH)
 | ext (φ:Heap→Prop)
abbrev Hp:=Addr→Option HO
def cA (H:Hp) (a:Addr) (o:HO):Hp:=fun b=>if b=a then some o else H b
theorem aF {H:Hp} {a:Addr} {o:HO} :cA H a o a=some o:=by unfold cA;rw[if_pos rfl]
theorem aL {H:Hp} {a b:Addr} {o:HO} (h:b≠a):cA H a o b=H b:=by unfold cA;rw[if_neg h]
theorem bP {H:Hp} {a b:Addr} {o:HO} (h:H a=some o) (h':H b=none):a≠b:=by
 intro e;subst e;rw[h]at h';cases h'
def IsTupD (h:Heap) (a:Addr) (items:Array yH):Prop:=∃o,h.get? a=some o∧(o.cls=.type "tuple" ∧o.dict=none)∧∃n,o.data=.seq items n
theorem IsTupD.tup {h:Heap} {a:Addr} {items:Array yH} (t:IsTupD h a items):IsTup h a items:=let ⟨o,e,c,n,d⟩:=t;⟨o,e,c.1,n,d⟩
theorem IsTupD.new (h:Heap) (items:Array yH):IsTupD (h.push {cls:=.type "tuple",data:=.seq items}) h.objs.size items:=⟨_,z6 h rfl,⟨rfl,rfl⟩,0,rfl⟩
section
variable (P:zf) (w:zt)
def ObjOk (H:Hp) (h:Heap) (a:Addr):HO→Prop
 | .lst xs=>xs.length≤sizeLine∧∃(its:List yH) (n:Nat),Vals xs its∧h.get? a=some {cls:=.type "list",data:=.seq its.toArray n}
 | .tup xs=>xs.length≤sizeLine∧∃its:List yH,Vals xs its∧IsTupD h a its.toArray
 | .dK kvs=>kvs.length≤sizeLine∧(a == sysModules)=false∧∃vs,KV kvs vs∧h.DictOf (mixKind P w) a vs
 | .dT kvs=>kvs.length≤sizeLine∧(a == sysModules)=false∧∃xs:List (List Key×Addr×yH),
   Paired (fun(p:List Key×V) (q:List Key×Addr×yH)=>p.1=q.1∧H q.2.1=some (.tup (p.1.map kV))∧RelV p.2 q.2.2) kvs xs∧
   ∃o es ep,h.get? a=some o∧o.ExactDict∧o.data=.dict es ep∧es.toList=xs.map (entryOfKey (tupleKind (mixKind P w)))∧(xs.map (·.1)).Nodup
 | .set S n=>h.SetOf (intKind P w) a S n
 | .ins C dx fs=>H dx=some (.own a)∧fs.length≤1000∧dx≠a∧h.get? a=some (PySem.W.instObj C dx)∧
   ∃mA,h.Ns1 dx mA∧(∀f,RelO (fs.lookup f) (mA f))∧PySem.Within mA (fs.map (·.1))
 | .own _=>∃o,h.get? a=some o
 | .xd fs=>∃mA,h.Ns1 a mA∧∀f,RelO (fs.lookup f) (mA f)
 | .rng lo hi=>∃t u v,h.get? a=some {cls:=.type "range",data:=.fields #[.int lo t,.int hi u,.int 1 v]}
 | .frz o u=>h.get? a=some o∧ObjOk H h a u
 | .tbl ps=>h.get? a=some {cls:=.none,data:=.fields ps}
 | .met f x=>h.get? a=some (PySem.W.methodObj (.ref f) (.ref x))
 | .ext φ=>φ h∧(∃o,h.get? a=some o)∧∀h1 h2:Heap,φ h1→(∀o,h1.get? a=some o→h2.get? a=some o)→φ h2
def HOk (H:Hp) (h:Heap):Prop:=∀a o,H a=some o→ObjOk P w H h a o
end
section
variable {P:zf} {w:zt} {H H':Hp} {h h':Heap} {a:Addr} {o:HO}
theorem ObjOk.lt (x:ObjOk P w H h a o):a< h.objs.size:=by
 cases o with
 | lst xs=>obtain⟨_,_,_,_,e⟩:=x;exact yW e
 | tup xs=>obtain⟨_,_,_,p⟩:=x;exact p.tup.lt
 | dK kvs=>obtain⟨_,_,_,_,o,_,_,e,_⟩:=x;exact yW e
 | dT kvs=>obtain⟨_,_,_,_,o,_,_,e,_⟩:=x;exact yW e
 | set S n=>obtain⟨o,_,_,_,e,_⟩:=x;exact yW e
 | ins C dx fs=>obtain⟨_,_,_,e,_⟩:=x;exact yW e
 | own y=>obtain⟨_,e⟩:=x;exact yW e
 | xd fs=>obtain⟨_,⟨_,_,_,e,_⟩,_⟩:=x;exact yW e
 | rng lo hi=>obtain⟨_,_,_,e⟩:=x;exact yW e
 | frz ob u=>obtain⟨e,_⟩:=x;exact yW e
 | tbl ps=>exact yW (show h.get? a=some _ from x)
 | met f y=>exact yW (show h.get? a=some _ from x)
 | ext φ=>obtain⟨_,⟨_,e⟩,_⟩:=x;exact yW e
theorem Paired.mapP {α β:Type} {F G:α→β→Prop} :∀{l₁:List α} {l₂:List β},Paired F l₁ l₂→(∀a b,F a b→G a b)→Paired G l₁ l₂
 | _,_,.nil,_=>.nil
 | _,_,.cons r t,f=>.cons (f _ _ r) (Paired.mapP t f)
theorem ObjOk.stay (x:ObjOk P w H h a o) (k:∀b u,(b=a∨H b=some (.own a))→h.get? b=some u→h'.get? b=some u)
  (ho:∀b,H b=some (.own a)→H' b=some (.own a)) (ht:∀b xs,H b=some (.tup xs)→H' b=some (.tup xs)):ObjOk P w H' h' a o:=by
 induction o with
 | lst xs=>obtain⟨z,its,n,r,e⟩:=x;exact⟨z,its,n,r,k _ _ (.inl rfl) e⟩
 | tup xs=>obtain⟨z,its,r,ob,e,c⟩:=x;exact⟨z,its,r,ob,k _ _ (.inl rfl) e,c⟩
 | dK kvs=>obtain⟨z,y,vs,r,ob,es,ep,e,c⟩:=x;exact⟨z,y,vs,r,ob,es,ep,k _ _ (.inl rfl) e,c⟩
 | dT kvs =>
  obtain⟨z,y,xs,r,ob,es,ep,e,c⟩:=x
  exact⟨z,y,xs,Paired.mapP r fun p q z=>⟨z.1,ht _ _ z.2.1,z.2.2⟩,ob,es,ep,k _ _ (.inl rfl) e,c⟩
 | set S n=>obtain⟨ob,es,ep,t,e,c⟩:=x;exact⟨ob,es,ep,t,k _ _ (.inl rfl) e,c⟩
 | ins C dx fs =>
  obtain⟨d,z,ne,e,mA,⟨od,es,ep,e2,c⟩,r⟩:=x
  exact⟨ho _ d,z,ne,k _ _ (.inl rfl) e,mA,⟨od,es,ep,k _ _ (.inr d) e2,c⟩,r⟩
 | own y=>obtain⟨ob,e⟩:=x;exact⟨ob,k _ _ (.inl rfl) e⟩
 | xd fs=>obtain⟨mA,⟨od,es,ep,e,c⟩,r⟩:=x;exact⟨mA,⟨od,es,ep,k _ _ (.inl rfl) e,c⟩,r⟩
 | rng lo hi=>obtain⟨t,u,v,e⟩:=x;exact⟨t,u,v,k _ _ (.inl rfl) e⟩
 | frz ob u ih=>obtain⟨e,q⟩:=x;exact⟨k _ _ (.inl rfl) e,ih q⟩
 | tbl ps =>
  have e:h.get? a=some {cls:=.none,data:=.fields ps} :=x
  show h'.get? a=some {cls:=.none,data:=.fields ps}
  exact k a _ (.inl rfl) e
 | met f y =>
  have e:h.get? a=some (PySem.W.methodObj (.ref f) (.ref y)):=x
  show h'.get? a=some (PySem.W.methodObj (.ref f) (.ref y))
  exact k a _ (.inl rfl) e
 | ext φ=>obtain⟨p,⟨o,e⟩,st⟩:=x;exact⟨st _ _ p fun o q=>k _ _ (.inl rfl) q,⟨o,k _ _ (.inl rfl) e⟩,st⟩
theorem HOk.lt (x:HOk P w H h) (e:H a=some o):a< h.objs.size:=(x a o e).lt
theorem HOk.fresh (x:HOk P w H h) (e:h.objs.size≤a):H a=none:=by
 cases q:H a with
 | none=>rfl
 | some u=>exact absurd (z7 (x.lt q) e) (Ah _)
theorem HOk.kept (x:HOk P w H h) (k:∀b u,h.get? b=some u→h'.get? b=some u):HOk P w H h':=fun a o e=>
 (x a o e).stay (fun b u _ q=>k b u q) (fun _ q=>q) fun _ _ q=>q
theorem HOk.laid (x:HOk P w H h) (k:∀b u,h.get? b=some u→h'.get? b=some u) (hp:h.objs.size≤a) (new:ObjOk P w (cA H a o) h' a o):HOk P w (cA H a o) h':=fun b u e=>by
 have hn:=x.fresh hp
 by_cases hb:b=a
 ·subst hb;rw[aF]at e;cases e;exact new
 ·rw[aL hb]at e
  exact(x b u e).stay (fun c v _ q=>k c v q) (fun c q=>by rw[aL (bP q hn)];exact q) fun c xs q=>by rw[aL (bP q hn)];exact q
end
def Rd (H:Hp) (a:Addr) (u:HO):Prop:=H a=some u∨∃o,H a=some (.frz o u)
theorem Rd.ok {P:zf} {w:zt} {H:Hp} {h:Heap} {a:Addr} {u:HO} (r:Rd H a u) (x:HOk P w H h):ObjOk P w H h a u:=by
 rcases r with r | ⟨o,r⟩
 ·exact x a u r
 ·obtain⟨_,q⟩:=x a _ r
  exact q
def vZ:Option HO→Prop
 | some (.lst _)=>True
 | some (.dK _)=>True
 | some (.dT _)=>True
 | some (.set _ _)=>True
 | some (.ins _ _ _)=>True
 | some (.ext _)=>True
 | _=>False
section
variable {P:zf} {w:zt} {H:Hp} {h h':Heap} {x e:Addr} {o':HO}
theorem HOk.write (ok:HOk P w H h) (mu:vZ (H x)) (he:e=x∨H e=some (.own x)) (k:∀b u,b≠e→h.get? b=some u→h'.get? b=some u) (heo:∃u,h'.get? e=some u)
  (new:ObjOk P w (cA H x o') h' x o'):HOk P w (cA H x o') h':=fun b u q=>by
 have nown:∀c y,H c=some (.own y)→c≠x:=fun c y r z=>by subst z;rw[r]at mu;exact mu
 have ntup:∀c xs,H c=some (.tup xs)→c≠x:=fun c xs r z=>by subst z;rw[r]at mu;exact mu
 by_cases hb:b=x
 ·subst hb;rw[aF]at q;cases q;exact new
 ·rw[aL hb]at q
  by_cases hbe:b=e
  ·have q':H b=some (.own x):=by
    rcases he with z | z
    ·exact absurd (hbe.trans z) hb
    ·rw[hbe];exact z
   rw[q]at q';cases q'
   obtain⟨v,hv⟩:=heo
   exact⟨v,by rw[hbe];exact hv⟩
  ·refine(ok b u q).stay (fun c v hc r=>k c v ?_ r) (fun c r=>by rw[aL (nown c b r)];exact r) fun c xs r=>by rw[aL (ntup c xs r)];exact r
   rcases hc with rfl | hc
   ·exact hbe
   ·rintro rfl
    rcases he with z | z
    ·exact nown c b hc z
    ·rw[hc]at z;cases z;exact hb rfl
end
structure Un (fs ex:List Addr) (H H':Hp) (h h':Heap):Prop where
 keep:∀b o,h.get? b=some o→H b=none→b∉fs→b∉ex→h'.get? b=some o
 slot:∀b o,h.get? b=some o→H b=none→b∈fs→b∉ex→∃sl,h'.get? b=some {o with slots:=sl}
 free:∀b o,h.get? b=some o→H b=none→b∉ex→H' b=none
 there:∀b o,h.get? b=some o→b∉ex→∃o',h'.get? b=some o'
 tups:∀b xs,H b=some (.tup xs)→H' b=some (.tup xs)
 frzs:∀b o u,H b=some (.frz o u)→H' b=some (.frz o u)
 tbls:∀b ps,H b=some (.tbl ps)→∃more,H' b=some (.tbl (ps++more))
section
variable {fs fs' ex ex':List Addr} {H H1 H2:Hp} {h h1 h2 h':Heap} {a x e:Addr} {o:HO}
theorem Un.any (u:Un fs ex H H1 h h1) {b:Addr} {ob:Obj} (q:h.get? b=some ob) (n:H b=none) (hx:b∉ex):∃sl,h1.get? b=some {ob with slots:=sl} :=by
 by_cases hb:b∈fs
 ·exact u.slot b ob q n hb hx
 ·exact⟨ob.slots,u.keep b ob q n hb hx⟩
theorem Un.kept (k:∀b u,h.get? b=some u→h'.get? b=some u):Un fs ex H H h h':=
 ⟨fun b ob q _ _ _=>k b ob q,fun b ob q _ _ _=>⟨ob.slots,k b ob q⟩,fun _ _ _ n _=>n,fun b ob q _=>⟨ob,k b ob q⟩,fun _ _ q=>q,fun _ _ _ q=>q,fun _ ps q=>⟨#[],by rw[q];simp⟩⟩
theorem Un.refl:Un fs ex H H h h:=Un.kept fun _ _ q=>q
theorem Un.laid (k:∀b u,h.get? b=some u→h'.get? b=some u) (hp:h.objs.size≤a) (hn:H a=none):Un fs ex H (cA H a o) h h' where
 keep:=fun b u q _ _ _=>k b u q
 slot:=fun b u q _ _ _=>⟨u.slots,k b u q⟩
 free:=fun b u q n _=>by rw[aL (zg (z7 (yW q) hp))];exact n
 there:=fun b u q _=>⟨u,k b u q⟩
 tups:=fun b xs q=>by rw[aL (bP q hn)];exact q
 frzs:=fun b u xs q=>by rw[aL (bP q hn)];exact q
 tbls:=fun b ps q=>⟨#[],by rw[aL (bP q hn),q];simp⟩
theorem Un.write (mu:vZ (H x)) (he:e=x∨H e=some (.own x)) (k:∀b u,b≠e→h.get? b=some u→h'.get? b=some u) (heo:∃u,h'.get? e=some u):Un fs ex H (cA H x o) h h':=by
 have hx:∀b,H b=none→b≠x:=fun b n z=>by subst z;rw[n]at mu;exact mu
 have hb:∀b,H b=none→b≠e:=fun b n z=>by
  subst z
  rcases he with r | r
  ·exact hx b n r
  ·rw[n]at r;cases r
 have hm:∀b u,H b=some u→¬vZ (some u)→b≠x:=fun b u q nm z=>by subst z;rw[q]at mu;exact nm mu
 refine⟨fun b u q n _ _=>k b u (hb b n) q,fun b u q n _ _=>⟨u.slots,k b u (hb b n) q⟩,fun b u q n _=>by rw[aL (hx b n)];exact n,fun b u q _=>?_,
  fun b xs q=>by rw[aL (hm b _ q fun z=>z)];exact q,fun b u xs q=>by rw[aL (hm b _ q fun z=>z)];exact q,fun b ps q=>⟨#[],by rw[aL (hm b _ q fun z=>z),q];simp⟩⟩
 by_cases hbe:b=e
 ·subst hbe;exact heo
 ·exact⟨u,k b u hbe q⟩
end
def ls (h:Heap) (H:Hp):List Addr:=(Aj h.objs.size).filter fun a=>(H a).isSome
def jl (h:Heap) (H:Hp):Heap:=PySem.W.hideAll h (ls h H)
theorem nK (h:Heap) (H:Hp):(jl h H).objs.size=h.objs.size:=PySem.W.hideAll_size _ _
theorem p8 {h:Heap} {H:Hp} {b:Addr} {o:Obj} (e:h.get? b=some o) (n:H b=none):(jl h H).get? b=some o:=
 PySem.W.hideAll_get _ e fun hm=>by
  have q:(H b).isSome=true:=(DI.mp hm).2
  rw[n]at q;simp at q
theorem sq {h:Heap} {H:Hp} {b:Addr} {o:Obj} (e:(jl h H).get? b=some o):h.get? b=some o∧H b=none:=by
 have e':h.get? b=some o:=PySem.W.of_hideAll (ls h H) e
 refine⟨e',?_⟩
 cases q:H b with
 | none=>rfl
 | some x =>
  have hm:b∈ls h H:=DI.mpr ⟨BE.mpr (yW e'),by simp[q]⟩
  have z:(jl h H).get? b=none:=PySem.W.hideAll_none (ls h H) hm
  rw[z]at e;cases e
structure Mod (K:PySem.W.Frag) (mg:Str→Option yH) (base:Heap):Prop where
 kin:K.In base
 glob:base.Ns mainGlobals mg
 blt:∃mb,base.Ns builtinsNs mb∧∀x:Str,x≠"__name__" →mb x=bootBuiltins x
 nolimit:base.NoLimit
structure Cx where
 prog:zf
 w:zt
 K:PySem.W.Frag
 mg:Str→Option yH
 base:Heap
 A:zP
 N:List Str
 s₀:yK
 H₀:Hp
 env:Env
 outer:List Env
 stack:List Env
 ex:List Addr
 fn:Str→Bool
 calm:Bool
 pn:List (Addr×Obj)
 xe:yH→yK→Prop
def frs (l:List Env):List Addr:=l.filterMap (·.frame)
abbrev Cx.fs (X:Cx):List Addr:=frs X.outer
def Vis (sc:BF) (x:Str):Prop:=sc.names.lookup x=some .local∨sc.names.lookup x=some .cell∨sc.names.lookup x=some .free
def w4 (sc:BF) (x:Str):Prop:=sc.names.lookup x=some .local∨sc.names.lookup x=some .cell
def Look (env:Env) (h:Heap) (m:Str→Option yH) (x:Str) (u:yH):Prop:=
 (env.kindOf x=some .local∧m x=some u)∨((env.kindOf x=some .cell∨env.kindOf x=some .free)∧∃c,env.cells.lookup x=some c∧h.IsCell c (some u))
structure Cx.Ok (X:Cx):Prop where
 mod:Mod X.K X.mg X.base
 kind:X.env.scope.kind=.function
 glob:X.env.globals=mainGlobals
 blt:X.env.builtins=builtinsNs
 above:X.s₀.heap.objs.size≤X.env.locals
 inj:∀x y c,X.env.cells.lookup x=some c→X.env.cells.lookup y=some c→x=y
 has:∀x,(X.env.kindOf x=some .cell∨X.env.kindOf x=some .free)→∃c,X.env.cells.lookup x=some c
 cab:∀x c,X.fn x=true→X.env.cells.lookup x=some c→X.s₀.heap.objs.size≤c
 hd:X.calm=true→X.A.handled=none
 frames:X.A.frames=some X.stack
 stk:X.stack=X.outer∨(X.stack=X.env::X.outer∧X.env.frame=some X.env.locals)
 exf:∀b∈X.ex,b≠X.env.locals∧∀x c,X.env.cells.lookup x=some c→c≠b
 bs:∀b o,X.base.get? b=some o→X.s₀.heap.get? b=some o∧X.H₀ b=none
 bsz:X.base.objs.size≤X.s₀.heap.objs.size
 noex:∀b o,X.base.get? b=some o→b∉X.ex
 exfs:∀b∈X.ex,b∉X.fs
 funs:X.s₀.heap.FunFrames X.base X.outer
 frf:∀b∈X.fs,X.H₀ b=none
structure Inv (X:Cx) (pins:List (Addr×Obj)) (σ:List (Option V)) (H:Hp) (s:yK):Prop where
 ok:X.Ok
 os:s.os=X.s₀.os
 bare:De s.gens
 base:Un X.fs X.ex X.H₀ H X.s₀.heap s.heap
 loc:∃m,s.heap.Ns X.env.locals m∧∀(i:Nat) (x:Str) (v:V),X.N[i]? =some x→σ[i]? =some (some v)→Vis X.env.scope x→∃u,RelV v u∧Look X.env s.heap m x u
 cell:∀x c,X.env.cells.lookup x=some c→∃v,s.heap.IsCell c v
 free:H X.env.locals=none
 freeC:∀x c,X.env.cells.lookup x=some c→H c=none
 pin:∀p∈X.pn++pins,s.heap.get? p.1=some p.2∧H p.1=none∧p.1≠X.env.locals∧p.1∉X.fs∧∀v,p.2.data≠.cell v
 hok:HOk X.prog X.w H s.heap
 len:σ.length=X.N.length
section
variable {X:Cx} {pins:List (Addr×Obj)} {σ:List (Option V)} {H H':Hp} {s:yK} {h':Heap}
theorem Cx.Ok.nofr (ok:X.Ok) {b:Addr} {o:Obj} (e:X.base.get? b=some o):b∉X.fs:=fun hb=>by
 have:=(ok.funs.mem hb).1
 rw[e]at this;cases this
theorem Inv.bs (I:Inv X pins σ H s):∀b o,X.base.get? b=some o→s.heap.get? b=some o∧H b=none:=fun b o e=>
 ⟨I.base.keep b o (I.ok.bs b o e).1 (I.ok.bs b o e).2 (I.ok.nofr e) (I.ok.noex b o e),I.base.free b o (I.ok.bs b o e).1 (I.ok.bs b o e).2 (I.ok.noex b o e)⟩
theorem Inv.bk (I:Inv X pins σ H s):∀b o,X.base.get? b=some o→s.heap.get? b=some o:=fun b o e=>(I.bs b o e).1
theorem Inv.mod (I:Inv X pins σ H s):Mod X.K X.mg X.base:=I.ok.mod
theorem Inv.kIn (I:Inv X pins σ H s):X.K.In s.heap:=I.ok.mod.kin.keeps I.bk
theorem Inv.lt (I:Inv X pins σ H s):X.env.locals< s.heap.objs.size:=let ⟨_,hn,_⟩:=I.loc;hn.lt
theorem Inv.sz (I:Inv X pins σ H s):X.s₀.heap.objs.size≤s.heap.objs.size:=Aw I.ok.above (BN I.lt)
theorem Inv.nofs (I:Inv X pins σ H s) {a:Addr} (h:s.heap.objs.size≤a):a∉X.fs:=fun hb=>by
 obtain⟨_,o,ho,_⟩:=I.ok.funs.mem hb
 exact absurd (z7 (yW ho) (Aw I.sz h)) (Ah _)
theorem Inv.cne (I:Inv X pins σ H s):∀x c,X.env.cells.lookup x=some c→c≠X.env.locals:=fun x c e z=>by
 obtain⟨v,o,ho,hd⟩:=I.cell x c e
 obtain⟨m,⟨o',es,ep,ho',hd',_⟩,_⟩:=I.loc
 rw[z,ho']at ho;cases ho;rw[hd']at hd;cases hd
theorem Inv.funs (I:Inv X pins σ H s):s.heap.FunFrames X.base X.outer:=by
 have all:∀(l:List Env),(∀b∈frs l,b∈X.fs)→X.s₀.heap.FunFrames X.base l→s.heap.FunFrames X.base l:=by
  intro l
  induction l with
  | nil=>intro _ _;trivial
  | cons env r ih =>
   intro hs hl
   obtain⟨hk,⟨L,o,hf,hn,ho,hd⟩,hr⟩:=hl
   have hL:L∈X.fs:=hs L (by unfold frs;rw[Bh,hf];exact zk)
   obtain⟨sl,e⟩:=I.base.slot L o ho (I.ok.frf L hL) hL fun z=>I.ok.exfs L z hL
   exact⟨hk,⟨L,_,hf,hn,e,hd⟩,ih (fun b hb=>hs b (by unfold frs;rw[Bh,hf];exact zh _ hb)) hr⟩
 exact all X.outer (fun _ hb=>hb) I.ok.funs
theorem Inv.stack (I:Inv X pins σ H s):s.heap.FunFrames X.base X.stack:=by
 rcases I.ok.stk with e | ⟨e,hf⟩
 ·rw[e];exact I.funs
 ·rw[e]
  obtain⟨m,hn,_⟩:=I.loc
  refine .cons (by rw[I.ok.kind];decide) hf hn ?_ I.funs
  exact Heap.get?_none_of_le (Aw I.ok.bsz I.ok.above)
theorem Inv.stkSub (I:Inv X pins σ H s):∀b∈frs X.stack,b∈X.env.locals::X.fs:=fun b hb=>by
 rcases I.ok.stk with e | ⟨e,hf⟩
 ·rw[e]at hb;exact zh _ hb
 ·rw[e]at hb
  unfold frs at hb
  rw[Bh,hf]at hb
  exact hb
theorem Inv.stkFree (I:Inv X pins σ H s):∀b∈frs X.stack,H b=none:=fun b hb=>by
 rcases zq.mp (I.stkSub b hb)with e | hb
 ·rw[e];exact I.free
 ·obtain⟨_,o,ho,_⟩:=I.ok.funs.mem hb
  exact I.base.free b o ho (I.ok.frf b hb) fun z=>I.ok.exfs b z hb
theorem Inv.step {g':Array GenState} {t':Nat} {d':Drawn} {ch:List Addr} (I:Inv X pins σ H s)
  (hch:∀b∈ch,(b∈X.ex∨X.s₀.heap.objs.size≤b)∧b≠X.env.locals∧(∀x c,X.env.cells.lookup x=some c→c≠b)∧∀p∈X.pn++pins,p.1≠b)
  (keep:∀b o,b≠X.env.locals→b∉X.fs→b∉ch→s.heap.get? b=some o→H b=none→h'.get? b=some o)
  (slot:∀b o,b≠X.env.locals→b∈X.fs→b∉ch→s.heap.get? b=some o→H b=none→∃sl,h'.get? b=some {o with slots:=sl}) (free:∀b o,b∉ch→s.heap.get? b=some o→H b=none→H' b=none)
  (there:∀b o,b∉ch→s.heap.get? b=some o→∃o',h'.get? b=some o')
  (tups:∀b xs,H b=some (.tup xs)→H' b=some (.tup xs)) (frzs:∀b o u,H b=some (.frz o u)→H' b=some (.frz o u)) (tbls:∀b ps,H b=some (.tbl ps)→∃more,H' b=some (.tbl (ps++more)))
  (ns:∀m,s.heap.Ns X.env.locals m→h'.Ns X.env.locals m) (hok:HOk X.prog X.w H' h') (hg:De g'):
  Inv X pins σ H' {s with heap:=h',gens:=g',drawn:=d',toks:=t'} :=by
 have neL:∀b o,X.s₀.heap.get? b=some o→b≠X.env.locals:=fun b o e=>zg (z7 (yW e) I.ok.above)
 have neC:∀b o,X.s₀.heap.get? b=some o→b∉X.ex→b∉ch:=fun b o e hx hb=>by
  rcases (hch b hb).1 with z | z
  ·exact hx z
  ·exact absurd (z7 (yW e) z) (Ah _)
 have cellK:∀x c,X.env.cells.lookup x=some c→∀v,s.heap.IsCell c v→h'.IsCell c v:=fun x c e v ⟨o,ho,hd⟩=>by
  have nch:c∉ch:=fun z=>(hch c z).2.2.1 x c e rfl
  by_cases hc:c∈X.fs
  ·obtain⟨sl,q⟩:=slot c o (I.cne x c e) hc nch ho (I.freeC x c e)
   exact⟨_,q,hd⟩
  ·exact⟨o,keep c o (I.cne x c e) hc nch ho (I.freeC x c e),hd⟩
 refine⟨I.ok,I.os,hg,⟨fun b o e n hb hx=>?_,fun b o e n hb hx=>?_,fun b o e n hx=>?_,fun b o e hx=>?_,fun b xs e=>tups b xs (I.base.tups b xs e),fun b o xs e=>frzs b o xs (I.base.frzs b o xs e),fun b ps e=>?_⟩,?_,fun x c e=>?_,?_,fun x c e=>?_,fun p hp=>?_,hok,I.len⟩
 ·exact keep b o (neL b o e) hb (neC b o e hx) (I.base.keep b o e n hb hx) (I.base.free b o e n hx)
 ·obtain⟨sl,e1⟩:=I.base.slot b o e n hb hx
  obtain⟨sl',e2⟩:=slot b _ (neL b o e) hb (neC b o e hx) e1 (I.base.free b o e n hx)
  exact⟨sl',e2⟩
 ·obtain⟨o',e1⟩:=I.base.there b o e hx
  exact free b o' (neC b o e hx) e1 (I.base.free b o e n hx)
 ·obtain⟨o',e1⟩:=I.base.there b o e hx
  exact there b o' (neC b o e hx) e1
 ·obtain⟨m1,e1⟩:=I.base.tbls b ps e
  obtain⟨m2,e2⟩:=tbls b _ e1
  exact⟨m1++m2,by rw[e2,Array.append_assoc]⟩
 ·obtain⟨m,hn,hl⟩:=I.loc
  refine⟨m,ns m hn,fun i x v e1 e2 e3=>?_⟩
  obtain⟨u,r,l⟩:=hl i x v e1 e2 e3
  refine⟨u,r,?_⟩
  rcases l with l | ⟨k,c,e,z⟩
  ·exact .inl l
  ·exact .inr ⟨k,c,e,cellK x c e _ z⟩
 ·obtain⟨v,z⟩:=I.cell x c e
  exact⟨v,cellK x c e v z⟩
 ·obtain⟨m,⟨o,_,_,ho,_⟩,_⟩:=I.loc
  exact free _ o (fun z=>(hch _ z).2.1 rfl) ho I.free
 ·obtain⟨v,o,ho,hd⟩:=I.cell x c e
  exact free c o (fun z=>(hch c z).2.2.1 x c e rfl) ho (I.freeC x c e)
 ·obtain⟨e,n,ne,nf,d⟩:=I.pin p hp
  have nch:p.1∉ch:=fun z=>(hch p.1 z).2.2.2 p hp rfl
  exact⟨keep p.1 p.2 ne nf nch e n,free p.1 p.2 nch e n,ne,nf,d⟩
theorem Inv.un {t':Nat} (I:Inv X pins σ H s) (u:Un X.fs [] H H' s.heap h') (hok:HOk X.prog X.w H' h'):Inv X pins σ H' {s with heap:=h',toks:=t'} :=by
 obtain⟨m,⟨o,es,ep,ho,r⟩,_⟩:=id I.loc
 obtain⟨sl,hL⟩:=u.any ho I.free (by simp)
 exact I.step (g':=s.gens) (d':=s.drawn) (ch:=[]) (fun _ z=>nomatch z) (fun b o _ hb _ e n=>u.keep b o e n hb (by simp)) (fun b o _ hb _ e n=>u.slot b o e n hb (by simp)) (fun b o _ e n=>u.free b o e n (by simp)) (fun b o _ e=>u.there b o e (by simp)) u.tups u.frzs u.tbls (fun m' hm=>by
  obtain⟨o',es',ep',ho',r'⟩:=hm
  rw[ho]at ho';cases ho'
  exact⟨_,es',ep',hL,r'⟩) hok I.bare
theorem Inv.call {g':Array GenState} {t':Nat} {d':Drawn} {ch:List Addr} (I:Inv X pins σ H s) (u:Un (frs X.stack) ch H H' s.heap h') (hok:HOk X.prog X.w H' h') (hg:De g')
  (hch:∀b∈ch,(b∈X.ex∨X.s₀.heap.objs.size≤b)∧b≠X.env.locals∧(∀x c,X.env.cells.lookup x=some c→c≠b)∧∀p∈X.pn++pins,p.1≠b):
  Inv X pins σ H' {s with heap:=h',gens:=g',drawn:=d',toks:=t'} :=by
 obtain⟨m,⟨o,es,ep,ho,r⟩,_⟩:=id I.loc
 obtain⟨sl,hL⟩:=u.any ho I.free fun z=>(hch _ z).2.1 rfl
 exact I.step (ch:=ch) hch (fun b o hL hb hc e n=>u.keep b o e n (fun z=>(zq.mp (I.stkSub b z)).elim hL hb) hc) (fun b o _ _ hc e n=>u.any e n hc) (fun b o hc e n=>u.free b o e n hc) (fun b o hc e=>u.there b o e hc) u.tups u.frzs u.tbls (fun m' hm=>by
  obtain⟨o',es',ep',ho',r'⟩:=hm
  rw[ho]at ho';cases ho'
  exact⟨_,es',ep',hL,r'⟩) hok hg
theorem Inv.turned {t':Nat} {it:Addr} (I:Inv X pins σ H s) (k:∀b o,b≠it→s.heap.get? b=some o→h'.get? b=some o) (hn:H it=none) (hL:it≠X.env.locals)
  (h1:it∈X.ex∨X.s₀.heap.objs.size≤it) (h2:∀x c,X.env.cells.lookup x=some c→c≠it) (h3:∀p∈X.pn++pins,p.1≠it):Inv X pins σ H {s with heap:=h',toks:=t'} :=by
 have nit:∀b u,H b=some u→b≠it:=fun b u e z=>by rw[z,hn]at e;cases e
 refine I.step (g':=s.gens) (d':=s.drawn) (ch:=[it]) (fun b hb=>?_) (fun b o _ _ hc e _=>k b o (fun z=>hc (by simp[z])) e) (fun b o _ _ hc e _=>⟨o.slots,k b o (fun z=>hc (by simp[z])) e⟩) (fun _ _ _ _ n=>n)
  (fun b o hc e=>⟨o,k b o (fun z=>hc (by simp[z])) e⟩) (fun _ _ e=>e) (fun _ _ _ e=>e) (fun b ps e=>⟨#[],by rw[e];simp⟩) (fun m hm=>?_) (fun b u e=>?_) I.bare
 ·have e:b=it:=by simpa using hb
  subst e
  exact⟨h1,hL,h2,h3⟩
 ·obtain⟨o,es,ep,ho,r⟩:=hm
  exact⟨o,es,ep,k _ o (AZ hL) ho,r⟩
 ·refine(I.hok b u e).stay (fun c v hc q=>k c v ?_ q) (fun _ q=>q) fun _ _ q=>q
  rcases hc with z | z
  ·rw[z];exact nit b u e
  ·exact nit c _ z
theorem Inv.tok (I:Inv X pins σ H s) (t:Nat):Inv X pins σ H {s with toks:=t} :=I.un (h':=s.heap) (t':=t) Un.refl I.hok
theorem Inv.kept {t':Nat} (I:Inv X pins σ H s) (k:∀b u,s.heap.get? b=some u→h'.get? b=some u):Inv X pins σ H {s with heap:=h',toks:=t'} :=I.un (Un.kept k) (I.hok.kept k)
theorem Inv.laid {a:Addr} {o:HO} {t':Nat} (I:Inv X pins σ H s) (k:∀b u,s.heap.get? b=some u→h'.get? b=some u) (hp:s.heap.objs.size≤a) (new:ObjOk X.prog X.w (cA H a o) h' a o):
  Inv X pins σ (cA H a o) {s with heap:=h',toks:=t'} :=I.un (Un.laid k hp (I.hok.fresh hp)) (I.hok.laid k hp new)
theorem Inv.write {x e:Addr} {o:HO} {t':Nat} (I:Inv X pins σ H s) (mu:vZ (H x)) (he:e=x∨H e=some (.own x)) (k:∀b u,b≠e→s.heap.get? b=some u→h'.get? b=some u) (heo:∃u,h'.get? e=some u)
  (new:ObjOk X.prog X.w (cA H x o) h' x o):Inv X pins σ (cA H x o) {s with heap:=h',toks:=t'} :=I.un (Un.write mu he k heo) (I.hok.write mu he k heo new)
theorem Inv.weak {σ':List (Option V)} (I:Inv X pins σ H s) (hl:σ'.length=σ.length) (w:∀(i:Nat) v,σ'[i]? =some (some v)→σ[i]? =some (some v)):Inv X pins σ' H s:=
 ⟨I.ok,I.os,I.bare,I.base,let ⟨m,hn,hl'⟩:=I.loc;⟨m,hn,fun i x v e1 e2 e3=>hl' i x v e1 (w i v e2) e3⟩,I.cell,I.free,I.freeC,I.pin,I.hok,hl.trans I.len⟩
theorem Inv.pins_of {pins':List (Addr×Obj)} (I:Inv X pins σ H s) (h:∀p∈pins',s.heap.get? p.1=some p.2∧H p.1=none∧p.1≠X.env.locals∧p.1∉X.fs∧∀v,p.2.data≠.cell v):Inv X pins' σ H s:=
 ⟨I.ok,I.os,I.bare,I.base,I.loc,I.cell,I.free,I.freeC,fun p hp=>(zE.mp hp).elim (fun z=>I.pin p (CD _ z)) (h p),I.hok,I.len⟩
theorem kf {N:List Str} (hN:N.Nodup) {i j:Nat} {x:Str} (a:N[i]? =some x) (b:N[j]? =some x):i=j:=by
 obtain⟨h1,e1⟩:=yR.mp a
 obtain⟨h2,e2⟩:=yR.mp b
 exact(List.getElem_inj hN).mp (e1.trans e2.symm)
theorem iX {M:DJ} {A:zP} {E:yH→yK→Prop} {i:Nat} {x:Str} {v:V} {u:yH} {Q:Unit→yK→Prop} (I:Inv X pins σ H s) (hN:X.N.Nodup) (hi:X.N[i]? =some x) (hx:w4 X.env.scope x) (r:RelV v u)
  (h:∀s',Inv X pins (σ.set i (some v)) H s'→(∃a,zC a s.heap s'.heap∧(a=X.env.locals∨X.env.cells.lookup x=some a))→Q () s') (hf:X.fn x=true∨X.env.scope.names.lookup x=some .local:=by first | exact .inl rfl | exact .inr rfl | assumption):wpAny M A (storeName X.env x u) Q E s:=by
 obtain⟨m,hn,hl⟩:=id I.loc
 have hcls:(X.env.scope.kind == .class || (X.env.scope.kind == .module && X.env.locals != X.env.globals))=false:=by rw[I.ok.kind];rfl
 have hiσ:i< σ.length:=by rw[I.len];exact(yR.mp hi).1
 have cne:=I.cne
 have tracked:∀{a:Addr} {h':Heap},(∃o,s.heap.get? a=some o∧H a=none)→zC a s.heap h'→HOk X.prog X.w H h':=fun {a h'} ha hs b ob e=>by
  obtain⟨_,_,hfree⟩:=ha
  refine(I.hok b ob e).stay (fun c w' hc q=>(hs.2 c ?_).trans q) (fun _ q=>q) fun _ _ q=>q
  rintro rfl
  rcases hc with rfl | hc
  ·rw[hfree]at e;cases e
  ·rw[hfree]at hc;cases hc
 rcases hx with hk | hk
 ·refine wpAny_storeName_local hk hn (fun h' hn' hs=>?_) hcls
  obtain⟨oL,_,_,hoL,_⟩:=id hn
  refine h _ ⟨I.ok,I.os,I.bare,⟨fun b o e n hb hx=>?_,fun b o e n hb hx=>?_,I.base.free,fun b o e hx=>?_,I.base.tups,I.base.frzs,I.base.tbls⟩,⟨_,hn',fun j y v' e1 e2 e3=>?_⟩,fun y c e=>?_,I.free,I.freeC,fun p hp=>?_,tracked ⟨oL,hoL,I.free⟩ hs,by simpa using I.len⟩ ⟨_,hs,.inl rfl⟩
  ·exact(hs.2 b (zg (z7 (yW e) I.ok.above))).trans (I.base.keep b o e n hb hx)
  ·obtain⟨sl,e1⟩:=I.base.slot b o e n hb hx
   exact⟨sl,(hs.2 b (zg (z7 (yW e) I.ok.above))).trans e1⟩
  ·obtain⟨o',e1⟩:=I.base.there b o e hx
   exact⟨o',(hs.2 b (zg (z7 (yW e) I.ok.above))).trans e1⟩
  ·by_cases hj:j=i
   ·subst hj
    rw[hi]at e1;cases e1
    rw[DB hiσ]at e2
    cases e2
    exact⟨u,r,.inl ⟨hk,by simp⟩⟩
   ·rw[DY (AZ hj)]at e2
    obtain⟨u',r',q⟩:=hl j y v' e1 e2 e3
    refine⟨u',r',?_⟩
    rcases q with⟨k,e⟩ | ⟨k,c,e,z⟩
    ·refine .inl ⟨k,?_⟩
     have:y≠x:=fun e=>hj (kf hN e1 (e▸hi))
     simp[this,e]
    ·exact .inr ⟨k,c,e,z.sameBut hs (cne y c e)⟩
  ·obtain⟨w',z⟩:=I.cell y c e
   exact⟨w',z.sameBut hs (cne y c e)⟩
  ·obtain⟨e,n,ne,nf,d⟩:=I.pin p hp
   exact⟨(hs.2 p.1 ne).trans e,n,ne,nf,d⟩
 ·have hfn:X.fn x=true:=by
   rcases hf with z | z
   ·exact z
   ·rw[z]at hk;cases hk
  obtain⟨c,hc⟩:=I.ok.has x (.inl hk)
  obtain⟨w',z⟩:=I.cell x c hc
  refine wpAny_storeName_cell I.ok.kind hk hc z (fun h' hc' hs=>?_)
  obtain⟨oc,hoc,hocd⟩:=id z
  refine h {s with heap:=h'} ⟨I.ok,I.os,I.bare,⟨fun b o e n hb hx=>?_,fun b o e n hb hx=>?_,I.base.free,fun b o e hx=>?_,I.base.tups,I.base.frzs,I.base.tbls⟩,⟨m,hn.sameBut hs (AZ (cne x c hc)),fun j y v' e1 e2 e3=>?_⟩,fun y c' e=>?_,I.free,I.freeC,fun p hp=>?_,tracked ⟨oc,hoc,I.freeC x c hc⟩ hs,by simpa using I.len⟩ ⟨c,hs,.inr hc⟩
  ·exact(hs.2 b (zg (z7 (yW e) (I.ok.cab x c hfn hc)))).trans (I.base.keep b o e n hb hx)
  ·obtain⟨sl,e1⟩:=I.base.slot b o e n hb hx
   exact⟨sl,(hs.2 b (zg (z7 (yW e) (I.ok.cab x c hfn hc)))).trans e1⟩
  ·obtain⟨o',e1⟩:=I.base.there b o e hx
   exact⟨o',(hs.2 b (zg (z7 (yW e) (I.ok.cab x c hfn hc)))).trans e1⟩
  ·by_cases hj:j=i
   ·subst hj
    rw[hi]at e1;cases e1
    rw[DB hiσ]at e2
    cases e2
    exact⟨u,r,.inr ⟨.inl hk,c,hc,hc'⟩⟩
   ·rw[DY (AZ hj)]at e2
    obtain⟨u',r',q⟩:=hl j y v' e1 e2 e3
    refine⟨u',r',?_⟩
    rcases q with q | ⟨k,c',e,z'⟩
    ·exact .inl q
    ·refine .inr ⟨k,c',e,z'.sameBut hs ?_⟩
     rintro rfl
     exact hj (kf hN e1 (I.ok.inj _ _ _ e hc▸hi))
  ·by_cases hcc:c'=c
   ·subst hcc;exact⟨_,hc'⟩
   ·obtain⟨w2,z2⟩:=I.cell y c' e
    exact⟨w2,z2.sameBut hs hcc⟩
  ·obtain⟨e,n,ne,nf,d⟩:=I.pin p hp
   refine⟨(hs.2 p.1 ?_).trans e,n,ne,nf,d⟩
   intro q
   rw[q,hoc]at e
   have q':oc=p.2:=zR e
   exact d w' (by rw[←q'];exact hocd)
theorem kg {M:DJ} {A:zP} {E:yH→yK→Prop} {i:Nat} {x:Str} {v:V} {u:yH} {Q:Unit→yK→Prop} (I:Inv X pins σ H s) (hN:X.N.Nodup) (hi:X.N[i]? =some x) (hx:w4 X.env.scope x) (r:RelV v u)
  (h:∀s',Inv X pins (σ.set i (some v)) H s'→Q () s') (hf:X.fn x=true∨X.env.scope.names.lookup x=some .local:=by first | exact .inl rfl | exact .inr rfl | assumption):wpAny M A (storeName X.env x u) Q E s:=
 iX I hN hi hx r (fun s' I' _=>h s' I') hf
theorem Inv.call' {s':yK} {ch:List Addr} (I:Inv X pins σ H s) (ho:s'.os=s.os) (u:Un (frs X.stack) ch H H' s.heap s'.heap) (hok:HOk X.prog X.w H' s'.heap) (hg:De s'.gens)
  (hch:∀b∈ch,(b∈X.ex∨X.s₀.heap.objs.size≤b)∧b≠X.env.locals∧(∀x c,X.env.cells.lookup x=some c→c≠b)∧∀p∈X.pn++pins,p.1≠b):Inv X pins σ H' s':=by
 obtain⟨h',g',d',t',o'⟩:=s'
 have e:o'=s.os:=ho
 subst e
 exact I.call (g':=g') (t':=t') (d':=d') u hok hg hch
end
abbrev XK:=yH→Option Addr→Hp→Prop
abbrev St:=List (Option V)
abbrev VK:=V→Hp→Prop
abbrev TE:=St→Hp→VK→Prop
abbrev TT:=St→Hp→(Bool→Hp→Prop)→Prop
abbrev TA:=St→Hp→(List V→Hp→Prop)→Prop
structure Ends where
 nx:St→Hp→Prop
 rt:VK
 bk:St→Hp→Prop:=fun _ _=>False
 ct:St→Hp→Prop:=fun _ _=>False
abbrev TS:=Ends→St→Hp→Prop
def EP (X:Cx) (pins:List (Addr×Obj)) (σ:St) (Q:VK) (u:yH) (s':yK):Prop:=∃v H',Inv X pins σ H' s'∧RelV v u∧Q v H'
def TP (X:Cx) (pins:List (Addr×Obj)) (σ:St) (Q:Bool→Hp→Prop) (b:Bool) (s':yK):Prop:=∃H',Inv X pins σ H' s'∧Q b H'
def AP (X:Cx) (pins:List (Addr×Obj)) (σ:St) (Q:List V→Hp→Prop) (us:List yH) (s':yK):Prop:=∃vs H',Inv X pins σ H' s'∧Vals vs us∧Q vs H'
def SP (X:Cx) (pins:List (Addr×Obj)) (D:Ends) (f:Flow) (s':yK):Prop:=
 match f with
 | .next=>∃σ' H',Inv X pins σ' H' s'∧D.nx σ' H'
 | .brk=>∃σ' H',Inv X pins σ' H' s'∧D.bk σ' H'
 | .cont=>∃σ' H',Inv X pins σ' H' s'∧D.ct σ' H'
 | .ret u=>∃v σ' H',Inv X pins σ' H' s'∧RelV v u∧D.rt v H'
def PE (X:Cx) (e:Expr) (t:TE):Prop:=
 ∀(pins:List (Addr×Obj)) (s:yK) (σ:St) (H:Hp) (Q:VK),Inv X pins σ H s→t σ H Q→wpAny (model X.prog X.w) X.A (eval e X.env) (EP X pins σ Q) X.xe s
def PT (X:Cx) (e:Expr) (t:TT):Prop:=
 ∀(pins:List (Addr×Obj)) (s:yK) (σ:St) (H:Hp) (Q:Bool→Hp→Prop),Inv X pins σ H s→t σ H Q→wpAny (model X.prog X.w) X.A (isTrue e X.env (eval e X.env)) (TP X pins σ Q) X.xe s
def PW (X:Cx) (e:Expr) (t:TT):Prop:=
 ∀(whole:Sem yH) (pins:List (Addr×Obj)) (s:yK) (σ:St) (H:Hp) (Q:Bool→Hp→Prop),Inv X pins σ H s→t σ H Q→wpAny (model X.prog X.w) X.A (isTrue e X.env whole) (TP X pins σ Q) X.xe s
theorem PW.pt {X:Cx} {e:Expr} {t:TT} (h:PW X e t):PT X e t:=h _
def PA (X:Cx) (es:List Expr) (t:TA):Prop:=
 ∀(pos:Pos) (pins:List (Addr×Obj)) (s:yK) (σ:St) (H:Hp) (Q:List V→Hp→Prop),Inv X pins σ H s→t σ H Q→wpAny (model X.prog X.w) X.A (spliced (backTo pos (starEach es X.env))) (AP X pins σ Q) X.xe s
def PS (X:Cx) (st:Stmt) (t:TS):Prop:=
 ∀(pins:List (Addr×Obj)) (s:yK) (σ:St) (H:Hp) (D:Ends),Inv X pins σ H s→t D σ H→wpAny (model X.prog X.w) X.A (exec st X.env) (SP X pins D) X.xe s
def PSs (X:Cx) (st:List Stmt) (t:TS):Prop:=
 ∀(pins:List (Addr×Obj)) (s:yK) (σ:St) (H:Hp) (D:Ends),Inv X pins σ H s→t D σ H→wpAny (model X.prog X.w) X.A (execs st X.env) (SP X pins D) X.xe s
theorem bV {α:Type} {t:Sem α} {Q Q':α→yK→Prop} {M:DJ} {A:zP} {E:yH→yK→Prop} {s:yK} (h:wpAny M A t Q E s) (hQ:∀a s,Q a s→Q' a s):wpAny M A t Q' E s:=zX h hQ fun _ _ x=>x
section
variable {X:Cx}
def bt (i:Nat):TE:=fun σ H Q=>∃v,σ[i]? =some (some v)∧Q v H
def tC (v:V):TE:=fun _ H Q=>Q v H
theorem uK {i:Nat} {x:Str} {pos:Pos} (hN:X.N[i]? =some x) (hv:Vis X.env.scope x) (hd:(x == ("__debug__" :Str))=false:=by decide) (hcd:(x == ("__classdict__" :Str))=false:=by decide):PE X (.Name x pos) (bt i):=by
 intro pins s σ H Q I h
 obtain⟨v,e,h⟩:=h
 obtain⟨m,hn,hl⟩:=I.loc
 obtain⟨u,r,l⟩:=hl i x v hN e hv
 have fin:EP X pins σ Q u s:=⟨v,H,I,r,h⟩
 rcases l with⟨hk,hm⟩ | ⟨hk,c,hc,hcell⟩
 ·exact Fn (wpAny_loadName_local I.ok.kind hk hn hm fin) hd
 ·rcases hk with hk | hk
  ·exact Fn (wpAny_loadName_cell I.ok.kind hk hc hcell fin) hd
  ·exact Fn (wpAny_loadName_free I.ok.kind hk hc hcell fin hcd) hd
theorem aa {i j pos} :PE X (.Constant (.int i) j pos) (tC (.int i)):=fun _ _ _ H _ I h=>wpAny_Constant_int ⟨.int i,H,I.tok _,⟨_,rfl⟩,h⟩
theorem fw {b j pos} :PE X (.Constant (.bool b) j pos) (tC (.bl b)):=fun _ _ _ H _ I h=>Constant_bool ⟨.bl b,H,I,rfl,h⟩
theorem uL {j pos} :PE X (.Constant .none j pos) (tC .non):=fun _ _ _ H _ I h=>Constant_none ⟨.non,H,I,rfl,h⟩
theorem aX {x j pos} :PE X (.Constant (.str x) j pos) (tC (.str x)):=fun _ _ _ H _ I h=>Calls.Constant_str ⟨.str x,H,I.tok _,⟨_,rfl⟩,h⟩
def Gl (X:Cx) (x:Str):Prop:=X.env.kindOf x=some .globalImplicit
theorem mv {E:yH→yK→Prop} {pins:List (Addr×Obj)} {s:yK} {σ:St} {H:Hp} {x:Str} {u:yH} {pos:Pos} {Q:yH→yK→Prop} (I:Inv X pins σ H s) (hg:Gl X x) (hm:X.mg x=some u) (h:Q u s)
  (hd:(x == ("__debug__" :Str))=false:=by decide):wpAny (model X.prog X.w) X.A (eval (.Name x pos) X.env) Q E s:=
 CY I.ok.kind hg (Calls.loadGlobal_global (by rw[I.ok.glob];exact I.mod.glob.keeps I.bk) hm h) hd
theorem gX {E:yH→yK→Prop} {pins:List (Addr×Obj)} {s:yK} {σ:St} {H:Hp} {x:Str} {u:yH} {pos:Pos} {Q:yH→yK→Prop} (I:Inv X pins σ H s) (hg:Gl X x) (hm:X.mg x=none) (hv:bootBuiltins x=some u) (h:Q u s)
  (hn:x≠"__name__" :=by decide) (hd:(x == ("__debug__" :Str))=false:=by decide):wpAny (model X.prog X.w) X.A (eval (.Name x pos) X.env) Q E s:=by
 obtain⟨mb,h1,h2⟩:=I.mod.blt
 exact CY I.ok.kind hg (Calls.loadGlobal_builtin (by rw[I.ok.glob];exact I.mod.glob.keeps I.bk) hm (by rw[I.ok.blt];exact h1.keeps I.bk) ((h2 x hn).trans hv) h) hd
theorem df {x:Str} {v:V} {u:yH} {pos:Pos} (hg:Gl X x) (hm:X.mg x=some u) (r:RelV v u) (hd:(x == ("__debug__" :Str))=false:=by decide):PE X (.Name x pos) (tC v):=
 fun _ _ _ H _ I h=>mv I hg hm ⟨v,H,I,r,h⟩ hd
theorem cN {x:Str} {v:V} {u:yH} {pos:Pos} (hg:Gl X x) (hm:X.mg x=none) (hv:bootBuiltins x=some u) (r:RelV v u) (hn:x≠"__name__" :=by decide) (hd:(x == ("__debug__" :Str))=false:=by decide):PE X (.Name x pos) (tC v):=
 fun _ _ _ H _ I h=>gX I hg hm hv ⟨v,H,I,r,h⟩ hn hd
variable {a b:Expr} {ta tb:TE} {pos:Pos}
def tB (t:TE):TT:=fun σ H Q=>t σ H fun x H1=>∃c,x=.bl c∧Q c H1
theorem cO {e:Expr} {t:TE} (h:PE X e t) (he:∀whole,isTrue e X.env whole=(do let v ←whole;standAt e.pos;holding [v] (truthy v)):=by intro _;rfl):PT X e (tB t):=by
 intro pins s σ H Q I hw
 refine isTrue_plain (bV (h pins s σ H _ I hw) fun v s1 ⟨x,H1,I1,r1,q1⟩=>?_) (he _)
 obtain⟨d,rfl,q⟩:=q1
 cases r1
 exact B9 ⟨H1,I1,q⟩
variable {tA tB':TT} {rest:List Expr}
def ci (t u:TT):TT:=fun σ H Q=>t σ H fun c H1=>if c=true then u σ H1 Q else Q false H1
def eO (t u:TT):TT:=fun σ H Q=>t σ H fun c H1=>if c=true then Q true H1 else u σ H1 Q
def cj (t:TT):TT:=fun σ H Q=>t σ H fun c H1=>Q (!c) H1
theorem dg (ha:PT X a tA):PW X (.BoolOp .And [a] pos) tA:=by
 intro wh pins s σ H Q I h
 refine isTrue_and (bV (ha pins s σ H Q I h) fun c s1 e=>?_)
 cases c with
 | true=>exact isTrue_and_nil e
 | false=>exact e
theorem lu (ha:PT X a tA):PW X (.BoolOp .Or [a] pos) tA:=by
 intro wh pins s σ H Q I h
 refine isTrue_or (bV (ha pins s σ H Q I h) fun c s1 e=>?_)
 cases c with
 | false=>exact isTrue_or_nil e
 | true=>exact e
theorem eg (ha:PT X a tA) (hb:PW X (.BoolOp .And (b::rest) pos) tB'):PW X (.BoolOp .And (a::b::rest) pos) (ci tA tB'):=by
 intro wh pins s σ H Q I h
 refine isTrue_and (bV (ha pins s σ H _ I h) fun c s1 ⟨H1,I1,q1⟩=>?_)
 cases c with
 | true=>exact hb wh pins s1 σ H1 Q I1 q1
 | false=>exact⟨H1,I1,q1⟩
theorem mw (ha:PT X a tA) (hb:PW X (.BoolOp .Or (b::rest) pos) tB'):PW X (.BoolOp .Or (a::b::rest) pos) (eO tA tB'):=by
 intro wh pins s σ H Q I h
 refine isTrue_or (bV (ha pins s σ H _ I h) fun c s1 ⟨H1,I1,q1⟩=>?_)
 cases c with
 | true=>exact⟨H1,I1,q1⟩
 | false=>exact hb wh pins s1 σ H1 Q I1 q1
theorem gY (ha:PT X a tA):PT X (.UnaryOp .Not a pos) (cj tA):=by
 intro pins s σ H Q I h
 exact isTrue_not (ha pins s σ H (fun c H1=>Q (!c) H1) I h)
def bj (ta tb:TE):TE:=fun σ H Q=>ta σ H fun x H1=>∃c,x=.bl c∧if c=true then tb σ H1 Q else Q (.bl false) H1
def cm (ta tb:TE):TE:=fun σ H Q=>ta σ H fun x H1=>∃c,x=.bl c∧if c=true then Q (.bl true) H1 else tb σ H1 Q
def bo (ta:TE):TE:=fun σ H Q=>ta σ H fun x H1=>∃c,x=.bl c∧Q (.bl (!c)) H1
theorem gh {op} {t:TE} (h:PE X a t):PE X (.BoolOp op [a] pos) t:=fun pins s σ H Q I hw=>BoolOp_one (h pins s σ H Q I hw)
theorem gi (ha:PE X a ta) (hb:PE X (.BoolOp .And (b::rest) pos) tb):PE X (.BoolOp .And (a::b::rest) pos) (bj ta tb):=by
 intro pins s σ H Q I h
 refine BoolOp_and (bV (ha pins s σ H _ I h) fun v s1 ⟨x,H1,I1,r1,q1⟩=>?_)
 obtain⟨c,rfl,q1⟩:=q1
 cases r1
 refine B9 ?_
 cases c with
 | true=>exact hb pins s1 σ H1 Q I1 q1
 | false=>exact⟨.bl false,H1,I1,rfl,q1⟩
theorem w5 (ha:PE X a ta) (hb:PE X (.BoolOp .Or (b::rest) pos) tb):PE X (.BoolOp .Or (a::b::rest) pos) (cm ta tb):=by
 intro pins s σ H Q I h
 refine BoolOp_or (bV (ha pins s σ H _ I h) fun v s1 ⟨x,H1,I1,r1,q1⟩=>?_)
 obtain⟨c,rfl,q1⟩:=q1
 cases r1
 refine B9 ?_
 cases c with
 | false=>exact hb pins s1 σ H1 Q I1 q1
 | true=>exact⟨.bl true,H1,I1,rfl,q1⟩
theorem uM (ha:PE X a ta):PE X (.UnaryOp .Not a pos) (bo ta):=by
 intro pins s σ H Q I h
 refine UnaryOp_ (bV (ha pins s σ H _ I h) fun v s1 ⟨x,H1,I1,r1,q1⟩=>?_)
 obtain⟨c,rfl,q1⟩:=q1
 cases r1
 exact not_of (B9 ⟨.bl (!c),H1,I1,rfl,q1⟩)
def eI (t:TT) (ta tb:TE):TE:=fun σ H Q=>t σ H fun c H1=>if c=true then ta σ H1 Q else tb σ H1 Q
theorem dP {c:Expr} (hc:PT X c tA) (ha:PE X a ta) (hb:PE X b tb):PE X (.IfExp c a b pos) (eI tA ta tb):=by
 intro pins s σ H Q I h
 refine wpAny_IfExp (bV (hc pins s σ H _ I h) fun d s1 ⟨H1,I1,q1⟩=>?_)
 cases d with
 | true=>exact ha pins s1 σ H1 Q I1 q1
 | false=>exact hb pins s1 σ H1 Q I1 q1
end
def SqL (K:PySem.W.Frag) (H:Hp) (a:Addr) (xs:List V):Prop:=
 Rd H a (.lst xs)∨
  ∃(o:Obj) (its:Array yH) (n:Nat),K.lookup a=some o∧o.cls=.type "list" ∧o.dict=none∧o.data=.seq its n∧its.size≤sizeLine∧Vals xs its.toList
def SqT (K:PySem.W.Frag) (H:Hp) (a:Addr) (xs:List V):Prop:=
 Rd H a (.tup xs)∨
  ∃(o:Obj) (its:Array yH) (n:Nat),K.lookup a=some o∧(o.cls=.type "tuple" ∧o.dict=none)∧o.data=.seq its n∧its.size≤sizeLine∧Vals xs its.toList
def xx:yH→Option V
 | .none=>some .non
 | .bool b=>some (.bl b)
 | .int i _=>some (.int i)
 | .str x _=>some (.str x)
 | .bytes b _=>some (.byt b)
 | .float b _=>some (.flt b)
 | .ref a=>some (.ref a)
 | .type n=>some (.ty n)
 | _=>none
theorem RelV.abs {x:V} {u:yH} (r:RelV x u):xx u=some x:=by
 cases x with
 | non=>cases r;rfl
 | bl _=>cases r;rfl
 | int _=>obtain⟨t,rfl⟩:=r;rfl
 | str _=>obtain⟨t,rfl⟩:=r;rfl
 | byt _=>obtain⟨t,rfl⟩:=r;rfl
 | flt _=>obtain⟨t,rfl⟩:=r;rfl
 | ref _=>cases r;rfl
 | ty _=>cases r;rfl
theorem RelV.inj {x y:V} {u:yH} (r:RelV x u) (q:RelV y u):x=y:=zR (r.abs.symm.trans q.abs)
theorem Vals.inj:∀{xs ys:List V} {us:List yH},Vals xs us→Vals ys us→xs=ys
 | _,_,_,.nil,.nil=>rfl
 | _,_,_,.cons r t,.cons r' t'=>by rw[r.inj r',Vals.inj t t']
section
variable {X:Cx} {pins:List (Addr×Obj)} {σ:St} {H:Hp} {s:yK} {a:Addr} {xs ys:List V}
theorem SqL.of {K:PySem.W.Frag} (h:H a=some (.lst xs)):SqL K H a xs:=.inl (.inl h)
theorem SqT.of {K:PySem.W.Frag} (h:H a=some (.tup xs)):SqT K H a xs:=.inl (.inl h)
theorem Inv.list (I:Inv X pins σ H s) (h:SqL X.K H a xs):∃its:List yH,Vals xs its∧PlainL s.heap a its.toArray∧xs.length≤sizeLine:=by
 rcases h with h | ⟨o,its,n,hk,hc,hd,hs,hz,r⟩
 ·obtain⟨z,its,n,r,e⟩:=h.ok I.hok
  exact⟨its,r,⟨_,n,e,rfl,rfl,rfl⟩,z⟩
 ·refine⟨its.toList,r,⟨o,n,I.kIn a o hk,hc,hd,by simpa using hs⟩,?_⟩
  have e:=r.length
  simp only[zm]at e
  omega
theorem Inv.tuple (I:Inv X pins σ H s) (h:SqT X.K H a xs):∃its:List yH,Vals xs its∧IsTup s.heap a its.toArray∧xs.length≤sizeLine:=by
 rcases h with h | ⟨o,its,n,hk,hc,hs,hz,r⟩
 ·obtain⟨z,its,r,p⟩:=h.ok I.hok
  exact⟨its,r,p.tup,z⟩
 ·refine⟨its.toList,r,⟨o,I.kIn a o hk,hc.1,n,by simpa using hs⟩,?_⟩
  have e:=r.length
  simp only[zm]at e
  omega
theorem Inv.list_inj (I:Inv X pins σ H s) (h:SqL X.K H a xs) (h':SqL X.K H a ys):xs=ys:=by
 obtain⟨its,r,⟨o,n,e,_,_,d⟩,_⟩:=I.list h
 obtain⟨its',r',⟨o',n',e',_,_,d'⟩,_⟩:=I.list h'
 rw[e]at e';cases e'
 rw[d]at d'
 injection d' with d1 _
 have:its=its':=by simpa using congrArg G2 d1
 subst this
 exact r.inj r'
theorem Inv.tuple_inj (I:Inv X pins σ H s) (h:SqT X.K H a xs) (h':SqT X.K H a ys):xs=ys:=by
 obtain⟨its,r,⟨o,e,_,n,d⟩,_⟩:=I.tuple h
 obtain⟨its',r',⟨o',e',_,n',d'⟩,_⟩:=I.tuple h'
 rw[e]at e';cases e'
 rw[d]at d'
 injection d' with d1 _
 have:its=its':=by simpa using congrArg G2 d1
 subst this
 exact r.inj r'
end
abbrev Cx.wish (X:Cx) (E:yH→yK→Prop):Cx:={X with xe:=E}
abbrev Cx.nox (X:Cx):Cx:=X.wish fun _ _=>False
theorem Cx.Ok.wish {X:Cx} (ok:X.Ok) (E:yH→yK→Prop):(X.wish E).Ok:=
 ⟨ok.mod,ok.kind,ok.glob,ok.blt,ok.above,ok.inj,ok.has,ok.cab,ok.hd,ok.frames,ok.stk,ok.exf,ok.bs,ok.bsz,ok.noex,ok.exfs,ok.funs,ok.frf⟩
theorem Cx.Ok.unwish {X:Cx} {E:yH→yK→Prop} (ok:(X.wish E).Ok):X.Ok:=
 ⟨ok.mod,ok.kind,ok.glob,ok.blt,ok.above,ok.inj,ok.has,ok.cab,ok.hd,ok.frames,ok.stk,ok.exf,ok.bs,ok.bsz,ok.noex,ok.exfs,ok.funs,ok.frf⟩
section
variable {X:Cx} {pins:List (Addr×Obj)} {σ:St} {H:Hp} {s:yK} {E:yH→yK→Prop}
theorem Inv.wish (I:Inv X pins σ H s) (E:yH→yK→Prop):Inv (X.wish E) pins σ H s:=⟨I.ok.wish E,I.os,I.bare,I.base,I.loc,I.cell,I.free,I.freeC,I.pin,I.hok,I.len⟩
theorem Inv.unwish (I:Inv (X.wish E) pins σ H s):Inv X pins σ H s:=⟨I.ok.unwish,I.os,I.bare,I.base,I.loc,I.cell,I.free,I.freeC,I.pin,I.hok,I.len⟩
theorem SP.unwish {D:Ends} {f:Flow} {s':yK} (h:SP (X.wish E) pins D f s'):SP X pins D f s':=by
 cases f with
 | next=>obtain⟨σ',H',I,q⟩:=h;exact⟨σ',H',I.unwish,q⟩
 | brk=>obtain⟨σ',H',I,q⟩:=h;exact⟨σ',H',I.unwish,q⟩
 | cont=>obtain⟨σ',H',I,q⟩:=h;exact⟨σ',H',I.unwish,q⟩
 | ret u=>obtain⟨v,σ',H',I,r,q⟩:=h;exact⟨v,σ',H',I.unwish,r,q⟩
theorem PSs.nox {st:List Stmt} {t:TS} (h:PSs X.nox st t):PSs X st t:=fun pins s σ H D I hw=>
 zX (h pins s σ H D (I.wish _) hw) (fun _ _ q=>q.unwish) fun _ _ z=>Bo z
end
section
variable {X:Cx} {st:Stmt} {rest:List Stmt} {t u:TS} {e:Expr} {te:TE} {pos:Pos}
def aE:TS:=fun D σ H=>D.nx σ H
def dQ (t u:TS):TS:=fun D σ H=>t {D with nx:=u D} σ H
theorem aM:PSs X [] aE:=fun _ _ σ H _ I h=>DK ⟨σ,H,I,h⟩
theorem af (h1:PS X st t) (h2:PSs X rest u):PSs X (st::rest) (dQ t u):=by
 intro pins s σ H D I h
 refine EO (bV (h1 pins s σ H {D with nx:=u D} I h) fun f s1 q=>?_)
 cases f with
 | next =>
  obtain⟨σ',H',I',q⟩:=q
  exact h2 pins s1 σ' H' D I' q
 | ret v=>exact q
 | brk=>exact q
 | cont=>exact q
theorem ag (h1:PS X st t):PSs X [st] t:=by
 intro pins s σ H D I h
 refine EO (bV (h1 pins s σ H D I h) fun f s1 q=>?_)
 cases f with
 | next=>exact DK q
 | ret v=>exact q
 | brk=>exact q
 | cont=>exact q
theorem Inv.quiet {pins:List (Addr×Obj)} {σ:St} {H:Hp} {s:yK} (I:Inv X pins σ H s):interactive X.env=false:=by simp[interactive,I.ok.kind]
def b6 (te:TE):TS:=fun D σ H=>te σ H fun _ H1=>D.nx σ H1
theorem cP (he:PE X e te) (hs:swapsWith e none pos.line X.env=pure false:=by rfl):PS X (.Expr e pos) (b6 te):=by
 intro pins s σ H D I h
 exact wpAny_Expr_any (bV (he pins s σ H _ I h) fun v s1 ⟨x,H1,I1,r1,q1⟩=>⟨σ,H1,I1,q1⟩) I.quiet hs
def bQ (te:TE):TS:=fun D σ H=>te σ H D.rt
theorem aB (he:PE X e te):PS X (.Return (some e) pos) (bQ te):=by
 intro pins s σ H D I h
 exact wpAny_Return_some (bV (he pins s σ H _ I h) fun v s1 ⟨x,H1,I1,r1,q1⟩=>⟨x,σ,H1,I1,r1,q1⟩)
def gF (c:TT) (t u:TS):TS:=fun D σ H=>c σ H fun b H1=>if b=true then t D σ H1 else u D σ H1
theorem bq {c:Expr} {a b:List Stmt} {tc:TT} (hc:PT X c tc) (ha:PSs X a t) (hb:PSs X b u):PS X (.If c a b pos) (gF tc t u):=by
 intro pins s σ H D I h
 refine wpAny_If (bV (hc pins s σ H _ I h) fun d s1 ⟨H1,I1,q1⟩=>?_)
 cases d with
 | true=>exact ha pins s1 σ H1 D I1 q1
 | false=>exact hb pins s1 σ H1 D I1 q1
end
abbrev TG:=V→St→Hp→(St→Hp→Prop)→Prop
abbrev um:=List V→St→Hp→(St→Hp→Prop)→Prop
def PG (X:Cx) (target:Expr) (t:TG):Prop:=
 ∀ (pins : List (Addr × Obj)) (s : yK) (σ : St) (H : Hp) (v : V) (u : yH) (Q : St → Hp → Prop), Inv X pins σ H s → RelV v u → t v σ H Q →
  wpAny (model X.prog X.w) X.A (assign target X.env u) (fun _ s'=>∃σ' H',Inv X pins σ' H' s'∧Q σ' H') X.xe s
def w6 (X:Cx) (ts:List Expr) (t:um):Prop:=
 ∀ (pins : List (Addr × Obj)) (s : yK) (σ : St) (H : Hp) (vs : List V) (us : List yH) (Q : St → Hp → Prop), Inv X pins σ H s → Vals vs us → t vs σ H Q →
  wpAny (model X.prog X.w) X.A (assignInOrder ((assignEach ts X.env).map (·.2)) us) (fun _ s'=>∃σ' H',Inv X pins σ' H' s'∧Q σ' H') X.xe s
abbrev uN:=V→V→V→Hp→(Hp→Prop)→Prop
def w8 (X:Cx) (t:uN):Prop:=
 ∀ (pins : List (Addr × Obj)) (s : yK) (σ : St) (H : Hp) (o i v : V) (ov iv u : yH) (Q : Hp → Prop), Inv X pins σ H s → RelV o ov → RelV i iv → RelV v u → t o i v H Q →
  wpAny (model X.prog X.w) X.A (setItem ov iv u) (fun _ s'=>∃H',Inv X pins σ H' s'∧Q H') X.xe s
section
variable {X:Cx} {pos:Pos}
def aO (i:Nat):TG:=fun v σ H Q=>Q (σ.set i (some v)) H
theorem aq {i:Nat} {x:Str} (hN:X.N.Nodup) (hi:X.N[i]? =some x) (hx:w4 X.env.scope x) (hf:X.fn x=true∨X.env.scope.names.lookup x=some .local:=by first | exact .inl rfl | exact .inr rfl | assumption):PG X (.Name x pos) (aO i):=by
 intro pins s σ H v u Q I r h
 exact EA (kg I hN hi hx r (fun s' I'=>⟨_,H,I',h⟩) hf)
def bW:um:=fun vs σ H Q=>vs=[]∧Q σ H
def be (t:TG) (u:um):um:=fun vs σ H Q=>∃v r,vs=v::r∧t v σ H fun σ' H'=>u r σ' H' Q
theorem bR:w6 X [] bW:=by
 intro pins s σ H vs us Q I r h
 obtain⟨e,h⟩:=h
 subst e
 cases r
 exact assignInOrder_nil ⟨σ,H,I,h⟩
theorem az {e:Expr} {es:List Expr} {t:TG} {u:um} (h1:PG X e t) (h2:w6 X es u)
  (hs:(assignEach (e::es) X.env).map (·.2)=assign e X.env::(assignEach es X.env).map (·.2):=by rfl):w6 X (e::es) (be t u):=by
 intro pins s σ H vs us Q I r h
 obtain⟨v,vr,e1,h⟩:=h
 subst e1
 cases r with
 | cons r rr =>
  rw[hs]
  refine assignInOrder_cons (bV (h1 pins s σ H _ _ _ I r h) fun _ s1 ⟨σ1,H1,I1,q1⟩=>?_)
  exact h2 pins s1 σ1 H1 _ _ Q I1 rr q1
def bS (K:PySem.W.Frag) (n:Nat) (t:um):TG:=fun v σ H Q=>∃a xs,v=.ref a∧SqT K H a xs∧xs.length=n∧t xs σ H Q
theorem uO {es:List Expr} {k:Nat} {t:um} {n:Nat} (hc:X.calm=true) (h:w6 X es t)
  (hn:(assignEach es X.env).length=n:=by rfl) (hst:(assignEach es X.env).findIdx? (·.1)=none:=by rfl):PG X (.Tuple es k pos) (bS X.K n t):=by
 intro pins s σ H v u Q I r hw
 obtain⟨a,xs,e1,hq,hl,hw⟩:=hw
 subst e1
 cases r
 obtain⟨its,rv,ht,hz⟩:=I.tuple hq
 refine assign_Tuple_tuple (I.ok.hd hc) ht (by simp[hn,←hl,rv.length]) hst fun h' hx=>?_
 have I1:Inv X pins σ H {s with heap:=h'} :=I.kept (t':=s.toks) fun b o e=>hx b o (zg (yW e)) e
 exact h pins _ σ H xs _ Q I1 (by simpa using rv) hw
def w9 (to ti:TE) (t:uN):TG:=fun v σ H Q=>to σ H fun o H1=>ti σ H1 fun i H2=>t o i v H2 fun H3=>Q σ H3
theorem lw {o i:Expr} {to ti:TE} {t:uN} (ho:PE X o to) (hi:PE X i ti) (hs:w8 X t)
  (ha:∀v,assign (.Subscript o i pos) X.env v=(do
   let ov ←holding [v] (eval o X.env)
   let iv ←holding [v,ov] (eval i X.env)
   standAt pos
   holding [v,ov,iv] (setItem ov iv v)
   release [v,ov,iv] []):=by intro _;rfl):PG X (.Subscript o i pos) (w9 to ti t):=by
 intro pins s σ H v u Q I r h
 rw[ha]
 refine yF (Ai (bV (ho pins s σ H _ I h) fun ov s1 ⟨x,H1,I1,r1,q1⟩=>?_))
 refine yF (Ai (bV (hi pins s1 σ H1 _ I1 q1) fun iv s2 ⟨y,H2,I2,r2,q2⟩=>?_))
 refine yF (Bc (yF (Ai (bV (hs pins s2 σ H2 x y v ov iv u _ I2 r1 r2 r q2) fun _ s3 ⟨H3,I3,q3⟩=>?_))))
 exact wpAny_release ⟨σ,H3,I3,q3⟩
def bz (te:TE) (g:TG):TS:=fun D σ H=>te σ H fun x H1=>g x σ H1 D.nx
theorem ei {tg e:Expr} {te:TE} {g:TG} (he:PE X e te) (hg:PG X tg g) (hs:swapsWithSole [tg] e pos.line X.env=pure false:=by rfl) (hw:swappedStores [tg] e X.env=pure none:=by rfl)
  (h1:(assignEach [tg] X.env).map (·.2)=[assign tg X.env]:=by rfl):PS X (.Assign [tg] e pos) (bz te g):=by
 intro pins s σ H D I h
 refine wpAny_Assign_stores (bV (he pins s σ H _ I h) fun v s1 ⟨x,H1,I1,r1,q1⟩=>?_) hs hw
 rw[h1]
 exact bV (hg pins s1 σ H1 x v _ I1 r1 q1) fun _ s2 q=>q
theorem am {i:Nat} {x:Str} {e:Expr} {te:TE} {pos':Pos} (hN:X.N.Nodup) (hi:X.N[i]? =some x) (hx:w4 X.env.scope x) (he:PE X e te) (hs:swapsWith e (some (.Name x pos')) pos.line X.env=pure false:=by rfl) (hf:X.fn x=true∨X.env.scope.names.lookup x=some .local:=by first | exact .inl rfl | exact .inr rfl | assumption):
  PS X (.Assign [.Name x pos'] e pos) (bz te (aO i)):=by
 intro pins s σ H D I h
 refine wpAny_Assign_Name (bV (he pins s σ H _ I h) fun v s1 ⟨y,H1,I1,r1,q1⟩=>?_) hs
 exact kg I1 hN hi hx r1 (fun s2 I2=>⟨_,H1,I2,q1⟩) hf
end
structure It where
 go:Nat→Hp→Prop
 yld:Nat→Hp→V→Hp→Prop
 stop:Nat→Hp→Prop
def FpOk (X:Cx) (pins:List (Addr×Obj)) (H:Hp) (b:Addr):Prop:=
 H b=none∧b≠X.env.locals∧b∉X.fs∧(b∈X.ex∨X.s₀.heap.objs.size≤b)∧(∀x c,X.env.cells.lookup x=some c→c≠b)∧∀p∈X.pn++pins,p.1≠b
theorem Inv.fpOk {X:Cx} {pins:List (Addr×Obj)} {σ:St} {H H':Hp} {s:yK} {b:Addr} (I:Inv X pins σ H s) (hb:s.heap.objs.size≤b) (hn:H' b=none):FpOk X pins H' b:=by
 refine⟨hn,Cc (z7 I.lt hb),I.nofs hb,.inr (Aw I.sz hb),fun x c e z=>?_,fun p hp z=>?_⟩
 ·obtain⟨v,q⟩:=I.cell x c e
  exact absurd (z7 q.lt (by rw[z];exact hb)) (Ah _)
 ·exact absurd (z7 (yW (I.pin p hp).1) (by rw[z];exact hb)) (Ah _)
structure Turn (P:zf) (w:zt) (K:PySem.W.Frag) (tg:Expr) (J:It) (fp:List Addr) (it:Addr) (tn:Nat→Heap→Prop):Prop where
 mem:it∈fp
 obj:∀i h,tn i h→∀b∈fp,∃o,h.get? b=some o∧∀v,o.data≠.cell v
 keep:∀i h h',tn i h→(∀b∈fp,∀o,h.get? b=some o→h'.get? b=some o)→tn i h'
 item:∀(X:Cx),X.prog=P→X.w=w→X.K=K→X.calm=true→∀(i:Nat) (pins:List (Addr×Obj)) (s:yK) (σ:St) (H:Hp) (E:yH→yK→Prop),Inv X pins σ H s→(∀b∈fp,FpOk X pins H b)→tn i s.heap→J.go i H→
  wpAny (model P w) X.A (pyNext (.ref it)) (fun r s1=>∃u,r=some u∧
   wpAny (model P w) X.A (letOwnedTupleGo tg (.ref it) u) (fun _ s2=>∃x H',Inv X pins σ H' s2∧RelV x u∧J.yld i H x H'∧tn (i+1) s2.heap∧∀b∈fp,H' b=none) E s1) E s
 done:∀(X:Cx),X.prog=P→X.w=w→X.K=K→X.calm=true→∀(i:Nat) (pins:List (Addr×Obj)) (s:yK) (σ:St) (H:Hp) (E:yH→yK→Prop),Inv X pins σ H s→(∀b∈fp,FpOk X pins H b)→tn i s.heap→J.stop i H→
  wpAny (model P w) X.A (pyNext (.ref it)) (fun r s1=>r=none∧Inv X pins σ H s1) E s
 self:∀(A:zP) (i:Nat) (s:yK) (Q:yH→yK→Prop) (E:yH→yK→Prop),tn i s.heap→Q (.ref it) s→wpAny (model P w) A (pyIter (.ref it)) Q E s
abbrev TI:=St→Hp→(It→Hp→Prop)→Prop
def xA (X:Cx) (pins:List (Addr×Obj)) (σ:St) (tg:Expr) (R:It→Hp→Prop) (itv:yH) (s2:yK):Prop:=
 ∃(it:Addr) (fp:List Addr) (tn:Nat→Heap→Prop) (J:It) (H':Hp),itv=.ref it∧Inv X pins σ H' s2∧Turn X.prog X.w X.K tg J fp it tn∧tn 0 s2.heap∧(∀b∈fp,FpOk X pins H' b)∧R J H'
def PI (X:Cx) (tg iter:Expr) (wi:TI):Prop:=
 ∀ (pins : List (Addr × Obj)) (s : yK) (σ : St) (H : Hp) (R : It → Hp → Prop), Inv X pins σ H s → wi σ H R →
  wpAny (model X.prog X.w) X.A (eval iter X.env) (fun v s1=>wpAny (model X.prog X.w) X.A (pyIter v) (xA X pins σ tg R) X.xe s1) X.xe s
theorem p9 {M:DJ} {A:zP} {E:yH→yK→Prop} {s:yK} {tg:Expr} {it:Addr} {u:yH} {o:Obj} {n:String} {vs:Array yH} {Q:Unit→yK→Prop} (ho:s.heap.get? it=some o) (hc:o.cls=.type n) (hd:o.data=.fields vs)
    (hn: ["enumerate","zip","dict_itemiterator","dict_reverseitemiterator","odict_iterator","itertools.zip_longest","itertools.pairwise"].contains n=false) (hQ:Q () s):wpAny M A (letOwnedTupleGo tg (.ref it) u) Q E s:=by
  unfold letOwnedTupleGo
  cases tg <;> first
    | exact yJ hQ
    | (cases u <;> first
        | exact yJ hQ
        | (refine yF (wpAny_load ho ?_)
           rw[hc,hd]
           show wpAny M A (if(["enumerate","zip","dict_itemiterator","dict_reverseitemiterator","odict_iterator","itertools.zip_longest","itertools.pairwise"].contains n && vs[0]? == some (rawInt _))=true then _ else _) Q E s
           rw[if_neg (by intro h;rw[hn,Fo]at h;cases h)]
           exact yJ hQ))
def xN (K:PySem.W.Frag) (a:Addr):It:=
 ⟨fun i H=>∃xs x,SqL K H a xs∧xs[i]? =some x,fun i H x H'=>H'=H∧∀xs,SqL K H a xs→xs[i]? =some x,fun i H=>∃xs,SqL K H a xs∧xs.length≤i⟩
def xB (lo:Int) (n:Nat):It:=⟨fun i _=>i< n,fun i H x H'=>H'=H∧x=.int (lo+i),fun i _=>n≤i⟩
theorem nL {P:zf} {w:zt} {K:PySem.W.Frag} {tg:Expr} (a it:Addr):Turn P w K tg (xN K a) [it] it (fun i h=>h.IsListIter it a i) where
 mem:=by simp
 obj:=fun i h st b hb=>by
  have e:b=it:=by simpa using hb
  subst e
  obtain⟨o,e,c,d⟩:=st
  exact⟨o,e,fun v z=>by rw[d]at z;cases z⟩
 keep:=fun i h h' st k=>st.at fun o e=>k it (by simp) o e
 item:=by
  intro X hP hw hK hc i pins s σ H E I hf st hg
  subst hP hw hK
  obtain⟨xs,x,hq,hx⟩:=hg
  obtain⟨its,rv,p,hz⟩:=I.list hq
  obtain⟨u,hu,ru⟩:=rv.get hx
  obtain⟨f0,f1,f2,f3,f4,f5⟩:=hf it (by simp)
  refine wpAny_pyNext_list_item st p.isList (x:=u) (by simpa using hu) fun h' st' sb=>?_
  have I1:Inv X pins σ H {s with heap:=h'} :=I.turned (t':=s.toks) (fun b o hb e=>(sb.2 b hb).trans e) f0 f1 f3 f4 f5
  obtain⟨o,e,c,d⟩:=id st'
  exact⟨u,rfl,p9 (s:={s with heap:=h'}) e c d (by decide) ⟨x,H,I1,ru,⟨rfl,fun ys hy=>by rw[I.list_inj hy hq];exact hx⟩,st',fun b hb=>(hf b hb).1⟩⟩
 done:=by
  intro X hP hw hK hc i pins s σ H E I hf st hg
  subst hP hw hK
  obtain⟨xs,hq,hx⟩:=hg
  obtain⟨its,rv,p,hz⟩:=I.list hq
  obtain⟨f0,f1,f2,f3,f4,f5⟩:=hf it (by simp)
  have hl:=rv.length
  exact wpAny_pyNext_list_end (I.ok.hd hc) st p.isList (by simp;omega) fun h' eb=>⟨rfl,I.turned (t':=s.toks) (fun b o hb e=>eb b o hb e) f0 f1 f3 f4 f5⟩
 self:=fun _ _ _ _ _ st h=>wpAny_pyIter_listiter st h
theorem lx {P:zf} {w:zt} {K:PySem.W.Frag} {tg:Expr} (it:Addr) (lo:Int) (n:Nat):Turn P w K tg (xB lo n) [it] it (fun i h=>IsRangeIter h it (lo+(i:Nat)*1) ((n:Int)- (i:Nat)) 1) where
 mem:=by simp
 obj:=fun i h st b hb=>by
  have e:b=it:=by simpa using hb
  subst e
  exact⟨_,st,fun v z=>by
   have z':Gb _=Ea v:=z
   cases z'⟩
 keep:=fun i h h' st k=>k it (by simp) _ st
 item:=by
  intro X hP hw hK hc i pins s σ H E I hf st hg
  subst hP hw hK
  obtain⟨f0,f1,f2,f3,f4,f5⟩:=hf it (by simp)
  have W:=Walks.range (prog:=X.prog) (w:=X.w) (I.ok.hd hc) it lo 1 n
  refine W.item i s _ _ hg st fun v h' tk hv st' kk=>?_
  obtain⟨t,rfl⟩:=hv
  have I1:Inv X pins σ H {s with heap:=h',toks:=tk} :=I.turned (fun b o hb e=>kk b o (by simpa using hb) e) f0 f1 f3 f4 f5
  refine⟨_,rfl,p9 (s:={s with heap:=h',toks:=tk}) (n:="range_iterator") st' rfl rfl (by decide) ⟨.int (lo+i),H,I1,⟨t,?_⟩,⟨rfl,rfl⟩,st',fun b hb=>(hf b hb).1⟩⟩
  rw[Int.mul_one]
 done:=by
  intro X hP hw hK hc i pins s σ H E I hf st hg
  subst hP hw hK
  obtain⟨f0,f1,f2,f3,f4,f5⟩:=hf it (by simp)
  exact wpAny_pyNext_range_end (I.ok.hd hc) st (by have:n≤i:=hg;omega) fun h' eb=>⟨rfl,I.turned (t':=s.toks) (fun b o hb e=>eb b o hb e) f0 f1 f3 f4 f5⟩
 self:=fun _ _ _ _ _ st h=>wpAny_pyIter_rangeiter st h
section
variable {X:Cx} {tg:Expr}
def pc (K:PySem.W.Frag) (tl:TE):TI:=fun σ H R=>tl σ H fun x H1=>∃a,x=.ref a∧(∃xs,SqL K H1 a xs)∧R (xN K a) H1
theorem sr {l:Expr} {tl:TE} (hl:PE X l tl):PI X tg l (pc X.K tl):=by
 intro pins s σ H R I h
 refine bV (hl pins s σ H _ I h) fun v s1 ⟨x,H1,I1,r1,q1⟩=>?_
 obtain⟨a,e,⟨xs,hq⟩,q⟩:=q1
 subst e
 cases r1
 obtain⟨its,rv,p,hz⟩:=I1.list hq
 refine Df p.isList ?_
 refine⟨s1.heap.objs.size,[s1.heap.objs.size],_,_,H1,rfl,I1.kept (t':=s1.toks) fun b o e=>yN _ e,nL a _,⟨_,z6 _ rfl,rfl,rfl⟩,fun b hb=>?_,q⟩
 have e:b=s1.heap.objs.size:=by simpa using hb
 subst e
 exact I1.fpOk (yP _) (I1.hok.fresh (yP _))
theorem pf {pins:List (Addr×Obj)} {σ:St} {H:Hp} {s:yK} {R:It→Hp→Prop} {E:yH→yK→Prop} {lo hi:Int} {t u v:Tok} {tk:Nat} (I:Inv X pins σ H s) (h1: -(2^62)≤lo) (h2:lo< 2^62) (h3: -(2^62)≤hi) (h4:hi< 2^62)
  (q:R (xB lo (hi- lo).toNat) H):wpAny (model X.prog X.w) X.A (pyIter (.ref s.heap.objs.size)) (xA X pins σ tg R) E {s with heap:=s.heap.push {cls:=.type "range",data:=.fields #[.int lo t,.int hi u,.int 1 v]},toks:=tk} :=by
 refine wpAny_pyIter_range (IsRange.new ..) (small_one h1 h2 h3 h4) ?_
 have I1:Inv X pins σ H {s with heap:=s.heap.push {cls:=.type "range",data:=.fields #[.int lo t,.int hi u,.int 1 v]},toks:=tk} :=I.kept fun b o e=>yN _ e
 refine⟨(s.heap.push {cls:=.type "range",data:=.fields #[.int lo t,.int hi u,.int 1 v]}).objs.size,[(s.heap.push {cls:=.type "range",data:=.fields #[.int lo t,.int hi u,.int 1 v]}).objs.size],_,_,H,rfl,
  I1.kept (t':=tk) fun b o e=>yN _ e,lx _ lo (hi- lo).toNat,?_,fun b hb=>?_,q⟩
 ·have e1:lo+((0:Nat):Int)*1=lo:=by simp
  have e2:(((hi- lo).toNat:Nat):Int)- ((0:Nat):Int)=FZ lo hi 1:=by rw[rangeSize_one];split <;> omega
  show IsRangeIter _ _ (lo+((0:Nat):Int)*1) ((((hi- lo).toNat:Nat):Int)- ((0:Nat):Int)) 1
  rw[e1,e2]
  exact z6 _ rfl
 ·have e:b=(s.heap.push {cls:=.type "range",data:=.fields #[.int lo t,.int hi u,.int 1 v]}).objs.size:=by simpa using hb
  subst e
  exact I1.fpOk (yP _) (I1.hok.fresh (yP _))
def uo (ta:TA):TI:=fun σ H R=>ta σ H fun vs H1=>∃j:Int,vs=[.int j]∧ -(2^62)≤j∧j< 2^62∧R (xB 0 j.toNat) H1
theorem gj {a:Expr} {ta:TA} {p pos:Pos} (hg:Gl X "range") (hm:X.mg "range" =none) (ha:PA X [a] ta) (hs:starEach [a] X.env=[(false,eval a X.env)]:=by rfl):PI X tg (.Call (.Name "range" p) [a] [] pos) (uo ta):=by
 intro pins s σ H R I h
 refine Call_ (gX I hg hm boot_range (Bz (bV (ha pos pins s σ H _ I h) fun us s1 ⟨vs,H1,I1,r1,q1⟩=>?_) hs rfl))
 obtain⟨j,e,q1,q2,q⟩:=q1
 subst e
 cases r1 with
 | cons r rr =>
  cases rr
  obtain⟨t,rfl⟩:=r
  exact call_range_1 (pf I1 (by omega) (by omega) q1 q2 (by simpa using q))
def ph (wi:TI) (g:TG) (tb:TS):TS:=fun D σ H=>wi σ H fun J H1=>∃W:Nat→Nat→St→Hp→Prop,(∃m,W 0 m σ H1)∧∀i m σ H,W i m σ H→
 (J.stop i H∧D.nx σ H)∨(J.go i H∧∃N:St→Hp→Prop,(∀σ' H',N σ' H'→∃m',m'< m∧W (i+1) m' σ' H')∧∀x H',J.yld i H x H'→g x σ H' fun σ2 H2=>tb {D with nx:=N,ct:=N,bk:=D.nx} σ2 H2)
def gk (fp:List Addr) (h:Heap):List (Addr×Obj):=fp.filterMap fun b=>(h.get? b).map fun o=>(b,o)
theorem dv {fp:List Addr} {h:Heap} {b:Addr} {o:Obj} (hb:b∈fp) (e:h.get? b=some o):(b,o)∈gk fp h:=C3.mpr ⟨b,hb,by rw[e];rfl⟩
theorem nM {fp:List Addr} {h:Heap} {p:Addr×Obj} (hp:p∈gk fp h):p.1∈fp∧h.get? p.1=some p.2:=by
 obtain⟨b,hb,e⟩:=C3.mp hp
 cases q:h.get? b with
 | none=>rw[q]at e;cases e
 | some o =>
  rw[q]at e
  have e':(b,o)=p:=zR e
  subst e'
  exact⟨hb,q⟩
theorem Inv.pinned {pins:List (Addr×Obj)} {σ:St} {H:Hp} {s:yK} {fp:List Addr} (I:Inv X pins σ H s) (hf:∀b∈fp,FpOk X pins H b) (ho:∀b∈fp,∃o,s.heap.get? b=some o∧∀v,o.data≠.cell v):Inv X (pins++gk fp s.heap) σ H s:=
 I.pins_of fun p hp=>(zE.mp hp).elim (fun z=>I.pin p (zw _ z)) fun z=>by
  obtain⟨hb,e⟩:=nM z
  obtain⟨f0,f1,f2,_⟩:=hf p.1 hb
  obtain⟨o,e',d⟩:=ho p.1 hb
  rw[e]at e';cases e'
  exact⟨e,f0,f1,f2,d⟩
theorem Inv.unpinned {pins pl:List (Addr×Obj)} {σ:St} {H:Hp} {s:yK} (I:Inv X (pins++pl) σ H s):Inv X pins σ H s:=I.pins_of fun p hp=>I.pin p (zw _ (CD _ hp))
theorem cF {iter:Expr} {body:List Stmt} {wi:TI} {g:TG} {tb:TS} {pos:Pos} (hp:PassesOwn (model X.prog X.w) X.A X.env X.xe) (hc:X.calm=true) (hi:PI X tg iter wi) (hg:PG X tg g) (hb:PSs X body tb)
  (hs:∀x,foldedSetIterable iter X.env x=pure x:=by intro _;rfl):PS X (.For tg iter body [] pos) (ph wi g tb):=by
 intro pins s σ H D I h
 refine wpAny_For (bV (hi pins s σ H _ I h) fun v s1 h1=>bV h1 fun itv s2 h2=>?_) hs
 obtain⟨it,fp,tn,J,H2,e,I2,T,st2,f2,W,⟨m0,w0⟩,turn⟩:=h2
 subst e
 have stat:∀{H':Hp},(∀b∈fp,H' b=none)→∀b∈fp,FpOk X pins H' b:=fun hn b hb=>⟨hn b hb,(f2 b hb).2⟩
 refine codeAny_forLoop_any (fun n s'=>∃i σ' H',Inv X pins σ' H' s'∧tn i s'.heap∧(∀b∈fp,H' b=none)∧W i n σ' H') ?_ m0 ⟨0,σ,H2,I2,st2,fun b hb=>(f2 b hb).1,w0⟩
 rintro n s3 ⟨i,σ3,H3,I3,st3,fr3,w3⟩
 rcases turn i n σ3 H3 w3 with⟨stop,qn⟩ | ⟨go,N,hN,step⟩
 ·refine C0 hp (bV (T.done X rfl rfl rfl hc i pins s3 σ3 H3 X.xe I3 (stat fr3) st3 stop) fun r s4 ⟨hr,I4⟩=>?_)
  subst hr
  exact DK ⟨σ3,H3,I4,qn⟩
 ·refine C0 hp (bV (T.item X rfl rfl rfl hc i pins s3 σ3 H3 X.xe I3 (stat fr3) st3 go) fun r s4 ⟨u,hr,h4⟩=>?_)
  subst hr
  refine C0 hp (bV h4 fun _ s5 ⟨x,H5,I5,r5,y5,st5,fr5⟩=>?_)
  have I5':=I5.pinned (stat fr5) (T.obj _ _ st5)
  refine C0 hp (bV (hg _ s5 σ3 H5 x u _ I5' r5 (step x H5 y5)) fun _ s6 ⟨σ6,H6,I6,q6⟩=>?_)
  refine C0 hp (bV (hb _ s6 σ6 H6 _ I6 q6) fun f s7 q7=>?_)
  have again:∀{σ7:St} {H7:Hp},Inv X (pins++gk fp s5.heap) σ7 H7 s7→N σ7 H7→∃m,m< n∧∃i σ' H',Inv X pins σ' H' s7∧tn i s7.heap∧(∀b∈fp,H' b=none)∧W i m σ' H':=fun {σ7 H7} I7 n7=>by
   obtain⟨m',hm,w7⟩:=hN σ7 H7 n7
   refine⟨m',hm,i+1,σ7,H7,I7.unpinned,T.keep _ _ _ st5 fun b hb o e=>(I7.pin (b,o) (zw _ (zw _ (dv hb e)))).1,fun b hb=>?_,w7⟩
   obtain⟨o,e,d⟩:=T.obj _ _ st5 b hb
   exact(I7.pin (b,o) (zw _ (zw _ (dv hb e)))).2.1
  cases f with
  | next=>obtain⟨σ7,H7,I7,n7⟩:=q7;exact again I7 n7
  | cont=>obtain⟨σ7,H7,I7,n7⟩:=q7;exact again I7 n7
  | brk=>obtain⟨σ7,H7,I7,q7⟩:=q7;exact⟨σ7,H7,I7.unpinned,q7⟩
  | ret v=>obtain⟨x7,σ7,H7,I7,r7,q7⟩:=q7;exact⟨x7,σ7,H7,I7.unpinned,r7,q7⟩
end
abbrev R2:=V→V→Hp→VK→Prop
def OpR (X:Cx) (f:yH→yH→Sem yH) (r:R2):Prop:=
 ∀ (pins : List (Addr × Obj)) (s : yK) (σ : St) (H : Hp) (x y : V) (v u : yH) (Q : VK), Inv X pins σ H s → RelV x v → RelV y u → r x y H Q →
  wpAny (model X.prog X.w) X.A (f v u) (EP X pins σ Q) X.xe s
def xC (X:Cx) (f:yH→Sem yH) (r:V→Hp→VK→Prop):Prop:=
 ∀ (pins : List (Addr × Obj)) (s : yK) (σ : St) (H : Hp) (x : V) (v : yH) (Q : VK), Inv X pins σ H s → RelV x v → r x H Q →
  wpAny (model X.prog X.w) X.A (f v) (EP X pins σ Q) X.xe s
def cX (X:Cx) (f:yH) (r:List V→Hp→VK→Prop):Prop:=
 ∀ (pins : List (Addr × Obj)) (s : yK) (σ : St) (H : Hp) (xs : List V) (us : List yH) (Q : VK), Inv X pins σ H s → Vals xs us → r xs H Q →
  wpAny (model X.prog X.w) X.A (call f us) (EP X pins σ Q) X.xe s
def cI (r:R2) (ta tb:TE):TE:=fun σ H Q=>ta σ H fun x H1=>tb σ H1 fun y H2=>r x y H2 Q
def eJ (r:V→Hp→VK→Prop) (ta:TE):TE:=fun σ H Q=>ta σ H fun x H1=>r x H1 Q
def rI (C:Int→Int→Prop) (g:Int→Int→V):R2:=fun x y H Q=>∃i j,x=.int i∧y=.int j∧C i j∧Q (g i j) H
def dD (g:Int→Int→V):R2:=fun x y H Q=>∃i j,x=.int i∧y=.int j∧Q (g i j) H
def rU (g:Int→V):V→Hp→VK→Prop:=fun x H Q=>∃i,x=.int i∧Q (g i) H
section
variable {X:Cx} {a b c:Expr} {ta tb tc:TE} {pos:Pos}
theorem uP (ha:PE X a ta) (hb:PE X b tb) {pins:List (Addr×Obj)} {s:yK} {σ:St} {H:Hp} {R:V→V→Hp→Prop} (I:Inv X pins σ H s)
  (h:ta σ H fun x H1=>tb σ H1 fun y H2=>R x y H2) {Q:yH→yK→Prop} {f:yH→yH→Sem yH}
  (hf:∀v u s2 x y H2,Inv X pins σ H2 s2→RelV x v→RelV y u→R x y H2→wpAny (model X.prog X.w) X.A (f v u) Q X.xe s2):
  wpAny (model X.prog X.w) X.A (eval a X.env) (fun v s₁=>wpAny (model X.prog X.w) X.A (eval b X.env) (fun u s₂=>wpAny (model X.prog X.w) X.A (f v u) Q X.xe s₂) X.xe s₁) X.xe s:=by
 refine bV (ha pins s σ H _ I h) fun v s1 ⟨x,H1,I1,r1,q1⟩=>?_
 refine bV (hb pins s1 σ H1 _ I1 q1) fun u s2 ⟨y,H2,I2,r2,q2⟩=>?_
 exact hf v u s2 x y H2 I2 r1 r2 q2
theorem ah {op:Operator} {r:R2} (ho:OpR X (binaryOp op) r) (ha:PE X a ta) (hb:PE X b tb):PE X (.BinOp a op b pos) (cI r ta tb):=by
 intro pins s σ H Q I h
 exact wpAny_BinOp (uP ha hb I h fun v u s2 x y H2 I2 rx ry q=>ho pins s2 σ H2 x y v u Q I2 rx ry q)
theorem my {op:UnaryOp} {r:V→Hp→VK→Prop} (ho:xC X (unaryOp op) r) (ha:PE X a ta):PE X (.UnaryOp op a pos) (eJ r ta):=by
 intro pins s σ H Q I h
 exact UnaryOp_ (bV (ha pins s σ H _ I h) fun v s1 ⟨x,H1,I1,r1,q1⟩=>ho pins s1 σ H1 x v Q I1 r1 q1)
theorem wO {f:yH→yH→Sem yH} {C:Int→Int→Prop} {g:Int→Int→Int}
  (rule:∀(i j:Int) (t u:Tok) (s:yK) (Q:yH→yK→Prop) (E:yH→yK→Prop),C i j→Q (.int (g i j) s.toks) {s with toks:=s.toks+1}→wpAny (model X.prog X.w) X.A (f (.int i t) (.int j u)) Q E s):
  OpR X f (rI C fun i j=>.int (g i j)):=by
 intro pins s σ H x y v u Q I rx ry h
 obtain⟨i,j,rfl,rfl,hc,q⟩:=h
 obtain⟨t,rfl⟩:=rx
 obtain⟨t',rfl⟩:=ry
 exact rule i j t t' s _ _ hc ⟨.int (g i j),H,I.tok _,⟨_,rfl⟩,q⟩
theorem wa {f:yH→yH→Sem yH} {g:Int→Int→Int}
  (rule:∀(i j:Int) (t u:Tok) (s:yK) (Q:yH→yK→Prop) (E:yH→yK→Prop),Q (.int (g i j) s.toks) {s with toks:=s.toks+1}→wpAny (model X.prog X.w) X.A (f (.int i t) (.int j u)) Q E s):
  OpR X f (dD fun i j=>.int (g i j)):=by
 intro pins s σ H x y v u Q I rx ry h
 obtain⟨i,j,rfl,rfl,q⟩:=h
 obtain⟨t,rfl⟩:=rx
 obtain⟨t',rfl⟩:=ry
 exact rule i j t t' s _ _ ⟨.int (g i j),H,I.tok _,⟨_,rfl⟩,q⟩
theorem ss {f:yH→yH→Sem yH} {g:Int→Int→Bool}
  (rule:∀(i j:Int) (t u:Tok) (s:yK) (Q:yH→yK→Prop) (E:yH→yK→Prop),Q (.bool (g i j)) s→wpAny (model X.prog X.w) X.A (f (.int i t) (.int j u)) Q E s):
  OpR X f (dD fun i j=>.bl (g i j)):=by
 intro pins s σ H x y v u Q I rx ry h
 obtain⟨i,j,rfl,rfl,q⟩:=h
 obtain⟨t,rfl⟩:=rx
 obtain⟨t',rfl⟩:=ry
 exact rule i j t t' s _ _ ⟨.bl (g i j),H,I,rfl,q⟩
def wb (i j:Int):Prop:=0< j∧j< 1073741824
def wc (i j:Int):Prop:=0≤j∧j≤1000000∧i.natAbs< 2^64
def CMul (i j:Int):Prop:=(-(2^64)< i∧i< 2^64)∨(-(2^64)< j∧j< 2^64)
theorem CMul.ok {i j:Int} (h:CMul i j):IntMulOk i j:=by
 rcases h with⟨h1,h2⟩ | ⟨h1,h2⟩
 ·exact .of_left (FK h1 h2)
 ·exact .of_right (FK h1 h2)
theorem bi:OpR X (binaryOp .Add) (dD fun i j=>.int (i+j)):=wa fun _ _ _ _ _ _ _ q=>add_int q
theorem gl:OpR X (binaryOp .Sub) (dD fun i j=>.int (i- j)):=wa fun _ _ _ _ _ _ _ q=>sub_int q
theorem dM:OpR X (binaryOp .Mult) (rI CMul fun i j=>.int (i*j)):=wO fun _ _ _ _ _ _ _ hc q=>mul_int q hc.ok
theorem aU:OpR X (binaryOp .FloorDiv) (rI wb fun i j=>.int (i/ j)):=wO fun i j _ _ _ _ _ hc q=>by
 have h1:(0:Int)< j:=hc.1
 have h2:j< 1073741824:=hc.2
 exact floordiv_int (by omega) (by rw[Int.fdiv_eq_ediv_of_nonneg i (by omega)];exact q) (.inl (PyProof.noPylong_small (by omega)))
theorem aw:OpR X (binaryOp .Mod) (rI (fun _ j=>0< j) fun i j=>.int (i% j)):=wO fun i j _ _ _ _ _ hc q=>by
 have h1:(0:Int)< j:=hc
 exact mod_int' (by omega) (by rw[Int.fmod_eq_emod_of_nonneg i (by omega)];exact q)
theorem uQ:OpR X (binaryOp .Pow) (rI wc fun i j=>.int (i^j.toNat)):=wO fun _ _ _ _ _ _ _ hc q=>pow_int_small hc.1 hc.2.1 hc.2.2 q
theorem xQ {f:yH→Sem yH} {g:Int→Int}
  (rule:∀(i:Int) (t:Tok) (s:yK) (Q:yH→yK→Prop) (E:yH→yK→Prop),Q (.int (g i) s.toks) {s with toks:=s.toks+1}→wpAny (model X.prog X.w) X.A (f (.int i t)) Q E s):
  xC X f (rU fun i=>.int (g i)):=by
 intro pins s σ H x v Q I rx h
 obtain⟨i,rfl,q⟩:=h
 obtain⟨t,rfl⟩:=rx
 exact rule i t s _ _ ⟨.int (g i),H,I.tok _,⟨_,rfl⟩,q⟩
theorem jm:xC X (unaryOp .USub) (rU fun i=>.int (-i)):=xQ fun _ _ _ _ _ q=>neg_int q
end
def cn:V→V→Bool
 | .non,.non=>true | .non,.int _=>true | .int _,.non=>true | .non,.bl _=>true | .bl _,.non=>true | .non,.str _=>true | .str _,.non=>true
 | .int _,.int _=>true | .bl _,.bl _=>true | .str _,.str _=>true | .byt _,.byt _=>true
 | .int _,.str _=>true | .str _,.int _=>true | .bl _,.str _=>true | .str _,.bl _=>true
 | _,_=>false
def eK:R2:=fun x y H Q=>cn x y=true∧Q (.bl (decide (x=y))) H
def eL:R2:=fun x y H Q=>cn x y=true∧Q (.bl (!decide (x=y))) H
theorem mz {i j:Int} :decide (V.int i=V.int j)=(i == j):=by
 rw[B7]
 simp
theorem pi {i j:Bool} :decide (V.bl i=V.bl j)=(i == j):=by
 rw[B7]
 simp
theorem mC {i j:Str} :decide (V.str i=V.str j)=(i == j):=by
 rw[B7]
 simp
theorem mD {i j:Array UInt8} :decide (V.byt i=V.byt j)=(i.toList == j.toList):=by
 rw[B7]
 cases i
 cases j
 simp
section
variable {X:Cx} {a b c:Expr} {ta tb tc:TE} {pos:Pos}
theorem aP {pins:List (Addr×Obj)} {σ:St} {H:Hp} {s:yK} {Q:VK} {k k':Bool} (I:Inv X pins σ H s) (q:Q (.bl k) H) (e:k=k'):EP X pins σ Q (.bool k') s:=by
 subst e
 exact⟨.bl k,H,I,rfl,q⟩
theorem bE:OpR X (compareOp .Eq) eK:=by
 intro pins s σ H x y v u Q I rx ry h
 obtain⟨hs,q⟩:=h
 cases x with
 | non =>
  cases rx
  cases y with
  | non=>cases ry;exact PySem.EqNone.eq_none_none (aP I q (by simp))
  | bl j=>cases ry;exact PySem.EqNone.eq_none_bool (aP I q (by simp))
  | int j=>obtain⟨t',rfl⟩:=ry;exact PySem.EqNone.eq_none_int (aP I q (by simp))
  | str j=>obtain⟨t',rfl⟩:=ry;exact PySem.EqNone.eq_none_str (aP I q (by simp))
  | _=>exact absurd (show false=true from hs) z8
 | bl i =>
  cases rx
  cases y with
  | non=>cases ry;exact PySem.EqNone.eq_bool_none (aP I q (by simp))
  | bl j=>cases ry;exact eq_bool (aP I q pi)
  | str j=>obtain⟨t',rfl⟩:=ry;exact PySem.EqMixed.eq_bool_str (aP I q (by simp))
  | _=>exact absurd (show false=true from hs) z8
 | int i =>
  obtain⟨t,rfl⟩:=rx
  cases y with
  | non=>cases ry;exact PySem.EqNone.eq_int_none (aP I q (by simp))
  | int j=>obtain⟨t',rfl⟩:=ry;exact eq_int (aP I q mz)
  | str j=>obtain⟨t',rfl⟩:=ry;exact PySem.EqMixed.eq_int_str (aP I q (by simp))
  | _=>exact absurd (show false=true from hs) z8
 | str i =>
  obtain⟨t,rfl⟩:=rx
  cases y with
  | non=>cases ry;exact PySem.EqNone.eq_str_none (aP I q (by simp))
  | bl j=>cases ry;exact PySem.EqMixed.eq_str_bool (aP I q (by simp))
  | int j=>obtain⟨t',rfl⟩:=ry;exact PySem.EqMixed.eq_str_int (aP I q (by simp))
  | str j=>obtain⟨t',rfl⟩:=ry;exact eq_str (aP I q mC)
  | _=>exact absurd (show false=true from hs) z8
 | byt i =>
  obtain⟨t,rfl⟩:=rx
  cases y with
  | byt j=>obtain⟨t',rfl⟩:=ry;exact PySem.W.eq_bytes (aP I q mD)
  | _=>exact absurd (show false=true from hs) z8
 | _=>cases y <;> exact absurd (show false=true from hs) z8
theorem mE:OpR X (compareOp .NotEq) eL:=by
 intro pins s σ H x y v u Q I rx ry h
 obtain⟨hs,q⟩:=h
 cases x with
 | non =>
  cases rx
  cases y with
  | non=>cases ry;exact PySem.EqNone.ne_none_none (aP I q (by simp))
  | bl j=>cases ry;exact PySem.EqNone.ne_none_bool (aP I q (by simp))
  | int j=>obtain⟨t',rfl⟩:=ry;exact PySem.EqNone.ne_none_int (aP I q (by simp))
  | str j=>obtain⟨t',rfl⟩:=ry;exact PySem.EqNone.ne_none_str (aP I q (by simp))
  | _=>exact absurd (show false=true from hs) z8
 | bl i =>
  cases rx
  cases y with
  | non=>cases ry;exact PySem.EqNone.ne_bool_none (aP I q (by simp))
  | bl j=>cases ry;exact ne_bool (aP I q (congrArg not pi))
  | str j=>obtain⟨t',rfl⟩:=ry;exact PySem.EqMixed.ne_bool_str (aP I q (by simp))
  | _=>exact absurd (show false=true from hs) z8
 | int i =>
  obtain⟨t,rfl⟩:=rx
  cases y with
  | non=>cases ry;exact PySem.EqNone.ne_int_none (aP I q (by simp))
  | int j=>obtain⟨t',rfl⟩:=ry;exact ne_int (aP I q (congrArg not mz))
  | str j=>obtain⟨t',rfl⟩:=ry;exact PySem.EqMixed.ne_int_str (aP I q (by simp))
  | _=>exact absurd (show false=true from hs) z8
 | str i =>
  obtain⟨t,rfl⟩:=rx
  cases y with
  | non=>cases ry;exact PySem.EqNone.ne_str_none (aP I q (by simp))
  | bl j=>cases ry;exact PySem.EqMixed.ne_str_bool (aP I q (by simp))
  | int j=>obtain⟨t',rfl⟩:=ry;exact PySem.EqMixed.ne_str_int (aP I q (by simp))
  | str j=>obtain⟨t',rfl⟩:=ry;exact ne_str (aP I q (congrArg not mC))
  | _=>exact absurd (show false=true from hs) z8
 | byt i =>
  obtain⟨t,rfl⟩:=rx
  cases y with
  | byt j=>obtain⟨t',rfl⟩:=ry;exact PySem.W.ne_bytes (aP I q (congrArg not mD))
  | _=>exact absurd (show false=true from hs) z8
 | _=>cases y <;> exact absurd (show false=true from hs) z8
theorem mF:OpR X (compareOp .Lt) (dD fun i j=>.bl (decide (i< j))):=ss fun _ _ _ _ _ _ _ q=>lt_int q
theorem mG:OpR X (compareOp .LtE) (dD fun i j=>.bl (decide (i≤j))):=ss fun _ _ _ _ _ _ _ q=>le_int q
theorem mH:OpR X (compareOp .Gt) (dD fun i j=>.bl (decide (j< i))):=ss fun _ _ _ _ _ _ _ q=>gt_int q
theorem pj:OpR X (compareOp .GtE) (dD fun i j=>.bl (decide (j≤i))):=ss fun _ _ _ _ _ _ _ q=>ge_int q
theorem op_isN:OpR X (compareOp .Is) (fun x y H Q=>y=.non∧Q (.bl (decide (x=.non))) H):=by
 intro pins s σ H x y v u Q I rx ry h
 obtain⟨rfl,q⟩:=h
 cases ry
 refine is_none_gen (aP I q ?_)
 cases x <;> first
  | (cases rx;rfl)
  | (obtain⟨t,rfl⟩:=rx;rfl)
theorem OpR.or {f:yH→yH→Sem yH} {r r':R2} (h:OpR X f r) (h':OpR X f r'):OpR X f (fun x y H Q=>r x y H Q∨r' x y H Q):=by
 intro pins s σ H x y v u Q I rx ry q
 rcases q with q | q
 ·exact h pins s σ H x y v u Q I rx ry q
 ·exact h' pins s σ H x y v u Q I rx ry q
theorem ay (b:Expr) {op:CmpOp} (h:op≠.In:=by decide) (h2:op≠.NotIn:=by decide):behindInMarks op b=false:=by
 have e1:(op == CmpOp.In)=false:=by cases op <;> first | rfl | exact absurd rfl h
 have e2:(op == CmpOp.NotIn)=false:=by cases op <;> first | rfl | exact absurd rfl h2
 cases b <;> simp[behindInMarks,e1,e2]
theorem cx {op:CmpOp} {r:R2} (ho:OpR X (compareOp op) r) (ha:PE X a ta) (hb:PE X b tb) (hm:behindInMarks op b=false):PE X (.Compare a [op] [b] pos) (cI r ta tb):=by
 intro pins s σ H Q I h
 exact wpAny_Compare1 (uP ha hb I h fun v u s2 x y H2 I2 rx ry q=>ho pins s2 σ H2 x y v u Q I2 rx ry q) hm
def bm (t:TE):TT:=fun σ H Q=>t σ H fun x H'=>∃k,x=.bl k∧Q k H'
theorem aA {op:CmpOp} {r:R2} (ho:OpR X (compareOp op) r) (ha:PE X a ta) (hb:PE X b tb) (hm:behindInMarks op b=false):PT X (.Compare a [op] [b] pos) (bm (cI r ta tb)):=by
 intro pins s σ H Q I h
 refine wpAny_isTrue_Compare1 (bV (ha pins s σ H _ I h) fun v s1 ⟨x,H1,I1,r1,q1⟩=>bV (hb pins s1 σ H1 _ I1 q1) fun u s2 ⟨y,H2,I2,r2,q2⟩=>
  bV (ho pins s2 σ H2 x y v u _ I2 r1 r2 q2) fun c s3 ⟨z,H3,I3,r3,k,e,q3⟩=>?_) hm
 subst e
 cases r3
 exact B9 ⟨H3,I3,q3⟩
theorem gZ:(sizeLine:Nat)< 2^63:=by rw[zN];decide
theorem cZ:OpR X (binaryOp .Add) (fun x y H Q=>∃i j,x=.str i∧y=.str j∧i.length+j.length≤sizeLine∧Q (.str (i++j)) H):=by
 intro pins s σ H x y v u Q I rx ry h
 obtain⟨i,j,rfl,rfl,hz,q⟩:=h
 obtain⟨t,rfl⟩:=rx
 obtain⟨t',rfl⟩:=ry
 exact add_str (fun t' tk=>⟨.str (i++j),H,I.tok _,⟨_,rfl⟩,q⟩) hz
theorem dF {x:V} {us:List yH} (r:Vals [x] us):∃u,us=[u]∧RelV x u:=by
 cases r with
 | cons r1 r2=>cases r2;exact⟨_,rfl,r1⟩
theorem ur {x y:V} {us:List yH} (r:Vals [x,y] us):∃u w',us=[u,w']∧RelV x u∧RelV y w':=by
 cases r with
 | cons r1 r2 =>
  cases r2 with
  | cons r3 r4=>cases r4;exact⟨_,_,rfl,r1,r3⟩
theorem hV:cX X (.builtin "abs") (fun xs H Q=>∃i,xs=[.int i]∧Q (.int (if i< 0 then -i else i)) H):=by
 intro pins s σ H xs us Q I r h
 obtain⟨i,rfl,q⟩:=h
 obtain⟨u,rfl,t,rfl⟩:=dF r
 exact call_abs_int fun u tk=>⟨.int (if i< 0 then -i else i),H,I.tok _,⟨_,rfl⟩,q⟩
theorem iY:cX X (.type "int") (fun xs H Q=>(∃i,xs=[.int i]∧Q (.int i) H)∨∃k,xs=[.bl k]∧Q (.int (if k then 1 else 0)) H):=by
 intro pins s σ H xs us Q I r h
 rcases h with⟨i,rfl,q⟩ | ⟨k,rfl,q⟩
 ·obtain⟨u,rfl,t,rfl⟩:=dF r
  exact call_int_int ⟨.int i,H,I,⟨_,rfl⟩,q⟩
 ·obtain⟨u,rfl,r1⟩:=dF r
  cases r1
  exact call_int_bool ⟨.int (if k then 1 else 0),H,I.tok _,⟨_,rfl⟩,q⟩
def nN (K:PySem.W.Frag) (x:V) (H:Hp) (n:Nat):Prop:=
 match x with
 | .str y=>y.length≤sizeLine∧n=y.length
 | .byt y=>y.size≤sizeLine∧n=y.size
 | .ref p=>(∃xs,SqL K H p xs∧n=xs.length)∨∃xs,SqT K H p xs∧n=xs.length
 | _=>False
theorem pp:cX X (.builtin "len") (fun xs H Q=>∃x n,xs=[x]∧nN X.K x H n∧Q (.int n) H):=by
 intro pins s σ H xs us Q I r h
 obtain⟨x,n,rfl,e,q⟩:=h
 obtain⟨u,rfl,rx⟩:=dF r
 have hl:=gZ
 have hs:sizeLine=16777216:=zN
 cases x with
 | str y =>
  obtain⟨t,rfl⟩:=rx
  obtain⟨hy,e'⟩:y.length≤sizeLine∧n=y.length:=e
  subst e'
  exact len_str (by omega) ⟨.int _,H,I.tok _,⟨_,rfl⟩,q⟩
 | byt y =>
  obtain⟨t,rfl⟩:=rx
  obtain⟨hy,e'⟩:y.size≤sizeLine∧n=y.size:=e
  subst e'
  exact PySem.W.len_bytes (by omega) ⟨.int _,H,I.tok _,⟨_,rfl⟩,q⟩
 | ref p =>
  cases rx
  have e':(∃xs,SqL X.K H p xs∧n=xs.length)∨∃xs,SqT X.K H p xs∧n=xs.length:=e
  rcases e' with⟨xs,hx,e'⟩ | ⟨xs,hx,e'⟩
  ·subst e'
   obtain⟨its,r',pl,hz⟩:=I.list hx
   have hlen:=r'.length
   exact Calls.call_len_list pl.isList (by simp only[z9];omega) ⟨.int xs.length,H,I.tok _,⟨_,by simp only[z9];rw[hlen]⟩,q⟩
  ·subst e'
   obtain⟨its,r',pl,hz⟩:=I.tuple hx
   have hlen:=r'.length
   exact len_tuple pl (by simp only[z9];omega) ⟨.int xs.length,H,I.tok _,⟨_,by simp only[z9];rw[hlen]⟩,q⟩
 | _=>exact(show False from e).elim
end
structure ObjM (h:Heap) (x dx C:Addr) (mA:Str→Option yH):Prop where
 obj:h.get? x=some (PySem.W.instObj C dx)
 ns:h.Ns1 dx mA
 ne:dx≠x
theorem nO {h:Heap} {dx:Addr} {mA:Str→Option yH} (n:h.Ns1 dx mA):∃od,h.get? dx=some od∧∀name,PySem.W.lookIn name od=some (mA name):=by
 obtain⟨o,es,ep,ho,hd,hk,_,hm⟩:=n
 refine⟨o,ho,fun name=>?_⟩
 have e:=hm name
 unfold nsFind findBy at e
 rw[←Array.find?_toList]at e
 unfold PySem.W.lookIn
 rw[hd]
 dsimp only
 split
 ·rename_i y q
  rw[q]at e
  exact congrArg some e
 ·rename_i q
  rw[q]at e
  have a:es.toList.any (·.refKey)=false:=by
   rw[List.any_eq_false]
   intro y hy
   obtain⟨z,t,hkey⟩:=hk y (Array.mem_toList_iff.mp hy)
   simp[DictEntry.refKey,hkey]
  have a':¬es.toList.any (·.refKey)=true:=by rw[a];exact z8
  rw[if_neg a']
  exact congrArg some e
theorem ObjM.look {h:Heap} {x dx C:Addr} {mA:Str→Option yH} (I:ObjM h x dx C mA):∃od,PySem.W.InstAt h x (PySem.W.instObj C dx) C (some od)∧∀name,PySem.W.lookIn name od=some (mA name):=
 let ⟨od,ho,hl⟩:=nO I.ns
 ⟨od,⟨I.obj,rfl,rfl,ho⟩,hl⟩
theorem RelO.some_of {v:V} {o:Option yH} (r:RelO (some v) o):∃u,o=some u∧RelV v u:=by
 cases o with
 | none=>exact(show False from r).elim
 | some u=>exact⟨u,rfl,r⟩
section
variable {P:zf} {w:zt} {H H':Hp} {h h':Heap} {a C dx:Addr} {fs fs':List (Str×V)}
theorem su (hok:HOk P w H h) (e:H a=some (.ins C dx fs)):∃mA,ObjM h a dx C mA∧(∀f,RelO (fs.lookup f) (mA f))∧PySem.Within mA (fs.map (·.1))∧fs.length≤1000∧H dx=some (.own a):=by
 obtain⟨d,z,ne,ob,mA,n,r,q⟩:=(show ObjOk P w H h a (.ins C dx fs)from hok a _ e)
 exact⟨mA,⟨ob,n,ne⟩,r,q,z,d⟩
end
structure Cls (K:PySem.W.Frag) (C:Addr):Prop where
 pg:PySem.W.plainGet K C Str.empty=true
 hd:PySem.W.hasDictIn K C=true
 po:PySem.W.plainOver K C=true
 sa:PySem.W.findIn K (.ref C) "__setattr__" =some (some (.builtin "object.__setattr__"))
theorem Cls.get {K:PySem.W.Frag} {C:Addr} (c:Cls K C) (f:Str):PySem.W.plainGet K C f=true:=c.pg
section
variable {X:Cx} {pins:List (Addr×Obj)} {σ:St} {H:Hp} {s:yK} {A:zP} {E:yH→yK→Prop} {Q:yH→yK→Prop} {c:yH} {b:Bool}
inductive TyOf (K:PySem.W.Frag) (H:Hp):V→yH→Prop where
 | non:TyOf K H .non (.type "NoneType")
 | bl (x:Bool):TyOf K H (.bl x) (.type "bool")
 | int (i:Int):TyOf K H (.int i) (.type "int")
 | str (x:Str):TyOf K H (.str x) (.type "str")
 | flt (x:UInt64):TyOf K H (.flt x) (.type "float")
 | lst {a:Addr} {xs:List V} (e:H a=some (.lst xs)):TyOf K H (.ref a) (.type "list")
 | frz {a:Addr} {o:Obj} {xs:List V} (e:H a=some (.frz o (.lst xs))):TyOf K H (.ref a) (.type "list")
 | tup {a:Addr} {xs:List V} (e:SqT K H a xs):TyOf K H (.ref a) (.type "tuple")
 | dK {a:Addr} {kvs:List (Key×V)} (e:H a=some (.dK kvs)):TyOf K H (.ref a) (.type "dict")
 | dT {a:Addr} {kvs:List (List Key×V)} (e:H a=some (.dT kvs)):TyOf K H (.ref a) (.type "dict")
 | ins {a C dx:Addr} {fs:List (Str×V)} (e:H a=some (.ins C dx fs)) (cl:Cls K C) (ha:PySem.W.findIn K (.ref C) "__class__" =some (some (.builtin "object.__class__")))
   (hn:PySem.W.specialIn K (.builtin "object.__class__") "__get__" =some (some (.builtin "getset_descriptor.__get__"))) (htk:PySem.W.takesIn K (.builtin "object.__class__")=some true)
   (hm:PySem.W.mroIn K C (.type "object")=some true):TyOf K H (.ref a) (.ref C)
theorem nP {x:V} {u t:yH} (I:Inv X pins σ H s) (rx:RelV x u) (ty:TyOf X.K H x t) (e:PySem.W.kitOne X.K t c=some b) (h:∀tk,Q (.bool b) {s with toks:=tk}):
  wpAny (model X.prog X.w) A (call (.builtin "isinstance") [u,c]) Q E s:=by
 cases ty with
 | non=>cases (show u=A1 from rx);exact PySem.W.kia_one PySem.W.kitx_none I.kIn BG e (fun z=>nomatch z) h
 | bl y=>cases (show u=Fm y from rx);exact PySem.W.kia_one PySem.W.kitx_bool I.kIn BG e (fun z=>nomatch z) h
 | int i=>obtain⟨t,q⟩:=(show ∃t,u=Ds i t from rx);cases q;exact PySem.W.kia_one PySem.W.kitx_int I.kIn BG e (fun z=>nomatch z) h
 | str y=>obtain⟨t,q⟩:=(show ∃t,u=EN y t from rx);cases q;exact PySem.W.kia_one PySem.W.kitx_str I.kIn BG e (fun z=>nomatch z) h
 | flt y=>obtain⟨t,q⟩:=(show ∃t,u=Ga y t from rx);cases q;exact PySem.W.kia_one PySem.W.kitx_float I.kIn BG e (fun z=>nomatch z) h
 | @lst a xs ea =>
  cases (show u=A4 a from rx)
  obtain⟨_,_,n,_,h1⟩:=(show ObjOk X.prog X.w H s.heap a (.lst xs)from I.hok a _ ea)
  exact PySem.W.kia_one PySem.W.kitx_list I.kIn ⟨_,h1,rfl⟩ e (fun z=>nomatch z) h
 | @frz a ob xs ea =>
  cases (show u=A4 a from rx)
  obtain⟨_,_,_,n,_,h1⟩:=(show ObjOk X.prog X.w H s.heap a (.frz ob (.lst xs))from I.hok a _ ea)
  exact PySem.W.kia_one PySem.W.kitx_list I.kIn ⟨_,h1,rfl⟩ e (fun z=>nomatch z) h
 | @tup a xs ea =>
  cases (show u=A4 a from rx)
  obtain⟨_,_,p,_⟩:=I.tuple ea
  obtain⟨o,h1,h2,_⟩:=p
  exact PySem.W.kia_one PySem.W.kitx_tuple I.kIn ⟨o,h1,h2⟩ e (fun z=>nomatch z) h
 | @dK a kvs ea =>
  cases (show u=A4 a from rx)
  obtain⟨_,_,vs,_,p⟩:=(show ObjOk X.prog X.w H s.heap a (.dK kvs)from I.hok a _ ea)
  obtain⟨o,es,ep,h1,h2,_⟩:=p
  exact PySem.W.kia_one PySem.W.kitx_dict I.kIn ⟨o,h1,h2.1⟩ e (fun z=>nomatch z) h
 | @dT a kvs ea =>
  cases (show u=A4 a from rx)
  obtain⟨_,_,xs,_,o,es,ep,h1,h2,_⟩:=(show ObjOk X.prog X.w H s.heap a (.dT kvs)from I.hok a _ ea)
  exact PySem.W.kia_one PySem.W.kitx_dict I.kIn ⟨o,h1,h2.1⟩ e (fun z=>nomatch z) h
 | @ins a C dx fs ea cl ha hn htk hm =>
  cases (show u=A4 a from rx)
  obtain⟨mA,O,_⟩:=su I.hok ea
  obtain⟨od,J,_⟩:=O.look
  exact PySem.W.kia_one (PySem.W.kitx_own (cl.get _) cl.hd ha hn htk hm) I.kIn J e (fun z=>nomatch z) h
end
structure Room (k:Nat) (A:zP):Prop where
 hd:A.handled=none
 dp:A.depth+3*k+5< recursionLimit
 un:A.units+16*k+200< cLine
theorem Room.mono {j k:Nat} {A:zP} (r:Room k A) (h:j≤k):Room j A:=⟨r.hd,by have:=r.dp;omega,by have:=r.un;omega⟩
theorem Room.deeper {k:Nat} {A:zP} (r:Room (k+1) A) (env:Env):Room k (A.deeper env):=
 ⟨r.hd,by have:=r.dp;show A.depth+1+3*k+5< _;omega,by have:=r.un;show A.units+3+16*k+200< _;omega⟩
theorem Room.depth {k:Nat} {A:zP} (r:Room k A):A.depth< recursionLimit:=by have:=r.dp;omega
theorem Room.units0 {k:Nat} {A:zP} (r:Room k A):A.units< cLine:=by have:=r.un;omega
def aS:TA:=fun _ H Q=>Q [] H
def ak (ta:TE) (tr:TA):TA:=fun σ H Q=>ta σ H fun x H1=>tr σ H1 fun xs H2=>Q (x::xs) H2
section
variable {X:Cx} {e:Expr} {es:List Expr} {te:TE} {t:TA} {pos:Pos}
theorem ae:PA X [] aS:=fun _ _ _ _ H Q I h=>Calls.spliced_nil ⟨[],H,I,.nil,h⟩
theorem a5 (ha:PE X e te) (hr:PA X es t) (hs:starEach (e::es) X.env=(false,eval e X.env)::starEach es X.env:=by rfl):PA X (e::es) (ak te t):=by
 intro pos pins s σ H Q I h
 rw[hs]
 show wpAny _ _ (spliced ((false,eval e X.env)::backTo pos (starEach es X.env))) _ _ s
 refine Calls.spliced_cons (bV (ha pins s σ H _ I h) fun u s1 ⟨x,H1,I1,r1,q1⟩=>?_)
 exact bV (hr pos pins s1 σ H1 _ I1 q1) fun us s2 ⟨xs,H2,I2,r2,q2⟩=>⟨x::xs,H2,I2,.cons r1 r2,q2⟩
def bX (t:TA):TE:=fun σ H Q=>t σ H fun xs H1=>xs.length≤sizeLine∧∀p,H1 p=none→Q (.ref p) (cA H1 p (.tup xs))
def bK (t:TA):TE:=fun σ H Q=>t σ H fun xs H1=>xs.length≤sizeLine∧∀p,H1 p=none→Q (.ref p) (cA H1 p (.lst xs))
theorem bL {x1} (h:PA X es t):PE X (.Tuple es x1 pos) (bX t):=by
 intro pins s σ H Q I hq
 refine wpAny_Tuple_spliced (bV (h pos pins s σ H _ I hq) fun us s1 ⟨xs,H1,I1,r,z,q⟩=>⟨by rw[←r.length];exact z,?_⟩)
 have hf:H1 s1.heap.objs.size=none:=I1.hok.fresh (yP _)
 refine⟨.ref s1.heap.objs.size,cA H1 s1.heap.objs.size (.tup xs),I1.laid (t':=s1.toks) (fun b u e=>yN _ e) (yP _) ?_,rfl,q _ hf⟩
 exact⟨z,us,r,⟨_,z6 _ rfl,⟨rfl,rfl⟩,_,rfl⟩⟩
theorem cB (h:PA X es t):PE X (.List es pos) (bK t):=by
 intro pins s σ H Q I hq
 refine wpAny_List_spliced (bV (h pos pins s σ H _ I hq) fun us s1 ⟨xs,H1,I1,r,z,q⟩=>⟨by rw[←r.length];exact z,?_⟩)
 have hf:H1 s1.heap.objs.size=none:=I1.hok.fresh (yP _)
 refine⟨.ref s1.heap.objs.size,cA H1 s1.heap.objs.size (.lst xs),I1.laid (t':=s1.toks) (fun b u e=>yN _ e) (yP _) ?_,rfl,q _ hf⟩
 exact⟨z,us,0,r,z6 _ rfl⟩
end
abbrev Sp:=List V→Hp→VK→XK→Prop
abbrev CXT:=List Env→Hp→yK→XK→yH→yK→Prop
structure Env0 (P:zf) (w:zt) (K:PySem.W.Frag) (mg:Str→Option yH) (base:Heap) (A:zP) (outer:List Env) (s:yK) (H:Hp):Prop where
 frames:A.frames=some outer
 mod:Mod K mg base
 bs:∀b o,base.get? b=some o→s.heap.get? b=some o∧H b=none
 bsz:base.objs.size≤s.heap.objs.size
 funs:s.heap.FunFrames base outer
 frf:∀b∈frs outer,H b=none
 hok:HOk P w H s.heap
 bare:De s.gens
def CE (outer:List Env) (P:zf) (w:zt) (H:Hp) (s:yK) (Q:VK) (u:yH) (s':yK):Prop:=
 ∃v H',s'.os=s.os∧De s'.gens∧Un (frs outer) [] H H' s.heap s'.heap∧HOk P w H' s'.heap∧RelV v u∧Q v H'
def CR (CX:CXT) (outer:List Env) (P:zf) (w:zt) (H:Hp) (s:yK) (Q:VK) (E:XK) (r:Fp) (s':yK):Prop:=
 match r with
 | .ok (.ret u)=>CE outer P w H s Q u s'
 | .ok _=>False
 | .error e=>CX outer H s E e s'
structure FnOk (P:zf) (w:zt) (K:PySem.W.Frag) (mg:Str→Option yH) (base:Heap) (CX:CXT) (k:Nat) (f:Addr) (fd:zu) (ps:List Str) (sp:Sp):Prop where
 len:∀vs H Q E,sp vs H Q E→vs.length=ps.length
 run:∀(A:zP) (outer:List Env) (s:yK) (H:Hp) (args:Args) (us:List yH) (vs:List V) (Q:VK) (E:XK),Room k A→Env0 P w K mg base A outer s H→EB s fd args (ps.zip us)→Vals vs us→sp vs H Q E→
  codeAny (model P w) A (.call (.ref f) args) (CR CX outer P w H s Q E) s
theorem FnOk.imp {P:zf} {w:zt} {K:PySem.W.Frag} {mg:Str→Option yH} {base:Heap} {CX:CXT} {k:Nat} {f:Addr} {fd:zu} {ps:List Str} {sp sp':Sp} (F:FnOk P w K mg base CX k f fd ps sp)
  (h:∀vs H Q E,sp' vs H Q E→sp vs H Q E):FnOk P w K mg base CX k f fd ps sp':=
 ⟨fun vs H Q E q=>F.len vs H Q E (h _ _ _ _ q),fun A outer s H args us vs Q E hr he hb hv hs=>F.run A outer s H args us vs Q E hr he hb hv (h _ _ _ _ hs)⟩
section
variable {X:Cx} {pins:List (Addr×Obj)} {σ:St} {H:Hp} {s s':yK}
theorem Inv.env0 (I:Inv X pins σ H s):Env0 X.prog X.w X.K X.mg X.base X.A X.stack s H:=
 ⟨I.ok.frames,I.ok.mod,I.bs,Aw I.ok.bsz I.sz,I.stack,I.stkFree,I.hok,I.bare⟩
theorem Inv.after {Q:VK} {u:yH} (I:Inv X pins σ H s) (h:CE X.stack X.prog X.w H s Q u s'):EP X pins σ Q u s':=by
 obtain⟨v,H',os,bare,un,hok,r,q⟩:=h
 obtain⟨hh,g,d,t,os'⟩:=s'
 obtain rfl:os'=s.os:=os
 exact⟨v,H',I.call (h':=hh) (g':=g) (d':=d) (t':=t) (ch:=[]) un hok bare (fun b z=>absurd z (by simp)),r,q⟩
end
def aV (sp:Sp) (dvs:List V) (E:XK) (t:TA):TE:=fun σ H Q=>t σ H fun vs H1=>sp (vs++dvs) H1 Q E
def Binds (K:PySem.W.Frag) (fd:zu) (ps:List Str) (ds:List yH):Prop:=
 ∀(s:yK) (us:List yH),K.In s.heap→(us++ds).length=ps.length→EB s fd ⟨us,[]⟩ (ps.zip (us++ds))
theorem Binds.all {K:PySem.W.Frag} {fd:zu} {ps:List Str} (h:∀us:List yH,us.length=ps.length→bindArgs fd ⟨us,[]⟩=pure (ps.zip us)):Binds K fd ps []:=fun s us _ hl=>by
 rw[Ao]at hl ⊢
 exact .of_eq (h us hl)
def ly (CX:CXT) (X:Cx) (E:XK):Prop:=∀(pins:List (Addr×Obj)) (σ:St) (H:Hp) (s:yK) (e:yH) (s':yK),Inv X pins σ H s→CX X.stack H s E e s'→X.xe e s'
section
variable {X:Cx} {CX:CXT} {k:Nat} {f C:Addr} {fd:zu} {ps:List Str} {sp:Sp} {dvs:List V} {ds:List yH} {E:XK} {x m:Str} {p pos apos:Pos} {e o:Expr} {es:List Expr} {ta:TE} {t:TA}
theorem uR {pins:List (Addr×Obj)} {σ:St} {H:Hp} {s:yK} {Q:VK} {us:List yH} {vs:List V} (F:FnOk X.prog X.w X.K X.mg X.base CX k f fd ps sp) (hr:Room k X.A) (hb:Binds X.K fd ps ds) (hd:Vals dvs ds) (hx:ly CX X E)
  (I:Inv X pins σ H s) (r:Vals vs us) (h:sp (vs++dvs) H Q E):wpAny (model X.prog X.w) X.A (call (.ref f) us) (EP X pins σ Q) X.xe s:=by
 have r2:Vals (vs++dvs) (us++ds):=r.append hd
 have hl:(us++ds).length=ps.length:=by rw[←r2.length];exact F.len _ _ _ _ h
 refine wpAny_call (CU (F.run X.A X.stack s H ⟨us,[]⟩ (us++ds) (vs++dvs) Q E hr I.env0 (hb s us I.kIn hl) r2 h) fun r s' hq=>?_)
 cases r with
 | error e=>exact hx pins σ H s e s' I hq
 | ok fl =>
  cases fl with
  | ret u=>exact I.after hq
  | next=>exact Bo hq
  | brk=>exact Bo hq
  | cont=>exact Bo hq
theorem sv (F:FnOk X.prog X.w X.K X.mg X.base CX k f fd ps sp) (hr:Room k X.A) (hg:Gl X x) (hm:X.mg x=some (.ref f)) (hk:PySem.W.keepIn X.K (.ref f)=true) (hb:Binds X.K fd ps ds) (hd:Vals dvs ds) (hx:ly CX X E)
  (ha:PA X (e::es) t) (hdb:(x == ("__debug__" :Str))=false:=by decide) (he:starEach (e::es) X.env=(false,eval e X.env)::starEach es X.env:=by rfl) (hpl:(backTo pos (starEach es X.env)).any (·.1)=false:=by rfl):
  PE X (.Call (.Name x p) (e::es) [] pos) (aV sp dvs E t):=by
 intro pins s σ H Q I h
 refine CZ (mv I hg hm ?_ hdb)
 refine PySem.W.callWith_K (h₀:=X.base) I.ok.mod.kin hk (bV (ha pos pins s σ H _ I h) fun us s1 ⟨vs,H1,I1,r,q⟩=>⟨I1.kIn,?_⟩) he hpl
 exact uR F hr hb hd hx I1 r q
end
structure FnScope (N P:List Str) (sc:BF):Prop where
 kind:sc.kind=.function
 co:sc.isCoroutine=false
 gen:sc.isGenerator=false
 nd:N.Nodup
 pre:N.take P.length=P
 par:∀x∈P,sc.names.lookup x=some .local∨sc.names.lookup x=some .cell
 nofree:∀y∈sc.names,y.2≠.free
theorem iZ {kindOf:Str→Option Bi} {x:Str} :∀{binds:List (Str×yH)} {m:Str→Option yH},(∀v,(x,v)∉binds)→bindL kindOf binds m x=m x
 | [],_,_=>rfl
 | (n, v) :: r, m, h => by
  unfold bindL
  rw[iZ fun w hw=>h w (zh _ hw)]
  split
  ·have:x≠n:=by rintro rfl;exact h v zk
   simp[this]
  ·rfl
theorem j3 {kindOf:Str→Option Bi} {x:Str} :∀{binds:List (Str×yH)} {m:Str→Option yH},(∀v,(x,v)∉binds)→bindC kindOf binds m x=m x
 | [],_,_=>rfl
 | (n, v) :: r, m, h => by
  unfold bindC
  rw[j3 fun w hw=>h w (zh _ hw)]
  split
  ·rfl
  ·have:x≠n:=by rintro rfl;exact h v zk
   simp[this]
theorem j4 {kindOf:Str→Option Bi} {x:Str} {v:yH} :∀{P:List Str} {vs:List yH} {i:Nat} {m:Str→Option yH},P.Nodup→P[i]? =some x→vs[i]? =some v→kindOf x=some .local→
  bindL kindOf (P.zip vs) m x=some v
 | [],_,_,_,_,h,_,_=>by simp at h
 | _::_,[],_,_,_,_,h,_=>by simp at h
 | p :: P, w :: vs, 0, m, nd, h1, h2, hk => by
  simp at h1 h2;subst h1;subst h2
  show bindL kindOf ((p,w)::P.zip vs) m p=_
  unfold bindL
  rw[iZ fun v hv=>(AB.mp nd).1 (C1 hv).1,if_pos hk]
  simp
 | p :: P, w :: vs, i + 1, m, nd, h1, h2, hk => by
  show bindL kindOf ((p,w)::P.zip vs) m x=_
  unfold bindL
  exact j4 (i:=i) (AB.mp nd).2 (by simpa using h1) (by simpa using h2) hk
theorem j5 {kindOf:Str→Option Bi} {x:Str} {v:yH} :∀{P:List Str} {vs:List yH} {i:Nat} {m:Str→Option yH},P.Nodup→P[i]? =some x→vs[i]? =some v→kindOf x≠some .local→
  bindC kindOf (P.zip vs) m x=some v
 | [],_,_,_,_,h,_,_=>by simp at h
 | _::_,[],_,_,_,_,h,_=>by simp at h
 | p :: P, w :: vs, 0, m, nd, h1, h2, hk => by
  simp at h1 h2;subst h1;subst h2
  show bindC kindOf ((p,w)::P.zip vs) m p=_
  unfold bindC
  rw[j3 fun v hv=>(AB.mp nd).1 (C1 hv).1,if_neg hk]
  simp
 | p :: P, w :: vs, i + 1, m, nd, h1, h2, hk => by
  show bindC kindOf ((p,w)::P.zip vs) m x=_
  unfold bindC
  exact j5 (i:=i) (AB.mp nd).2 (by simpa using h1) (by simpa using h2) hk
def start (N:List Str) (vs:List V):St:=vs.map some++AK (N.length- vs.length) none
def nQ (CX:CXT) (P:zf) (w:zt) (K:PySem.W.Frag) (mg:Str→Option yH) (base:Heap) (N:List Str) (qual:Str) (scope:BF) (f:Addr) (cd:yH) (A:zP) (outer:List Env) (s:yK) (H:Hp) (E:XK):Cx where
 prog:=P
 w:=w
 K:=K
 mg:=mg
 base:=base
 A:=A.deeper (envOfC qual scope s.heap.objs.size f cd)
 N:=N
 s₀:=s
 H₀:=H
 env:=envOfC qual scope s.heap.objs.size f cd
 outer:=outer
 stack:=envOfC qual scope s.heap.objs.size f cd::outer
 ex:=[]
 calm:=true
 fn:=fun _=>true
 pn:=[]
 xe:=fun e s'=>wpAny (model P w) (A.deeper (envOfC qual scope s.heap.objs.size f cd)) (leaving (envOfC qual scope s.heap.objs.size f cd) e) (fun _ s''=>CX outer H s E e s'') (fun e' s''=>CX outer H s E e' s'') s'
theorem ko {sc:BF} {n:Nat} {x:Str} (h:sc.names.lookup x=some .cell):∃c,(cellsFrom n sc.names []).lookup x=some c:=by
 have q:=PySem.W.cellsFrom_some sc.names n [] (.inl h)
 exact Dl.mp q
theorem nR {CX:CXT} {P:zf} {w:zt} {K:PySem.W.Frag} {mg:Str→Option yH} {base:Heap} {N ps:List Str} {qual:Str} {scope:BF} {f:Addr} {cd:yH} {A:zP} {outer:List Env} {s s1:yK} {H:Hp} {E:XK} {us:List yH} {vs:List V}
  (S:FnScope N ps scope) (hd:A.handled=none) (e0:Env0 P w K mg base A outer s H) (hl:vs.length=ps.length) (r:Vals vs us)
  (x:InCallC s s.heap.objs.size (bindL (envOfC qual scope s.heap.objs.size f cd).kindOf (ps.zip us) fun _=>none) (cellsFrom (s.heap.objs.size+1) scope.names []) (bindC (envOfC qual scope s.heap.objs.size f cd).kindOf (ps.zip us) fun _=>none) s1):
  Inv (nQ CX P w K mg base N qual scope f cd A outer s H E) [] (start N vs) H s1:=by
 have hpl:ps.length≤N.length:=by have:=congrArg BH S.pre;rw[Cu]at this;omega
 obtain⟨h1,tk,rfl,hk⟩:=x.done
 have noA:∀b:Addr,b∉(nQ CX P w K mg base N qual scope f cd A outer s H E).ex:=fun b z=>absurd (show b∈([]:List Addr)from z) (by simp)
 refine⟨⟨e0.mod,S.kind,rfl,rfl,yP _,fun y z c h1 h2=>?_,fun y hy=>?_,fun y c _ h=>?_,fun _=>hd,Around.frames_deeper e0.frames,.inr ⟨rfl,rfl⟩,fun b z=>absurd z (noA b),e0.bs,e0.bsz,fun b _ _=>noA b,fun b z=>absurd z (noA b),e0.funs,e0.frf⟩,
  rfl,e0.bare,Un.kept hk,⟨_,x.toInCall.ns,fun i y v h1 h2 h3=>?_⟩,fun y c h=>⟨_,x.cell y c h⟩,e0.hok.fresh (yP _),fun y c h=>?_,fun p hp=>absurd (show p∈([]:List (Addr×Obj))from hp) (by simp),e0.hok.kept hk,?_⟩
 ·exact name_of_addr x.apart (PySem.mem_of_lookup h1) (PySem.mem_of_lookup h2)
 ·have hy:scope.names.lookup y=some .cell∨scope.names.lookup y=some .free:=hy
  rcases hy with hy | hy
  ·exact ko hy
  ·exact absurd rfl (S.nofree _ (PySem.mem_of_lookup hy))
 ·exact BN (x.above y c (PySem.mem_of_lookup h))
 ·have hi:i< vs.length:=by
   unfold start at h2
   by_cases hi:i< vs.length
   ·exact hi
   ·rw[zd (by simpa using hi)]at h2
    rw[List.getElem?_replicate]at h2
    split at h2 <;> cases h2
  have ha:vs[i]? =some v:=by
   unfold start at h2
   rw[zc (by simpa using hi),yT]at h2
   cases e:vs[i]? with
   | none=>rw[e]at h2;cases h2
   | some a=>rw[e]at h2;cases h2;rfl
  obtain⟨u,hu,rv⟩:=r.get ha
  have hp:ps[i]? =some y:=by
   rw[←S.pre,zL (by omega)];exact h1
  have ndP:ps.Nodup:=by rw[←S.pre];exact S.nd.sublist (List.take_sublist _ _)
  refine⟨u,rv,?_⟩
  rcases S.par y (zr hp)with k | k
  ·exact .inl ⟨k,j4 ndP hp hu k⟩
  ·obtain⟨c,e⟩:=ko (n:=s.heap.objs.size+1) k
   refine .inr ⟨.inl k,c,e,?_⟩
   have q:=x.cell y c e
   rw[j5 ndP hp hu (by show scope.names.lookup y≠_;rw[k];decide)]at q
   exact q
 ·exact e0.hok.fresh (BN (x.above y c (PySem.mem_of_lookup h)))
 ·unfold start
  show _=N.length
  rw[Bp,ze,List.length_replicate]
  omega
theorem wd {CX:CXT} {P:zf} {w:zt} {K:PySem.W.Frag} {mg:Str→Option yH} {base:Heap} {k:Nat} {f:Addr} {name qual:Str} {params:Arguments} {body:List Stmt} {scope:BF} {dV kV doc pm cdv ct oc:yH} {an od:Option Addr}
  {osl:Array (Option yH)} {N ps:List Str} {sp:Sp} (lk:K.lookup f=some ⟨oc,od,.func (PySem.W.fnOf name qual params body scope dV kV doc pm an cdv ct),osl⟩) (hcd:PySem.W.codeIn K cdv qual=true) (S:FnScope N ps scope)
  (len:∀vs H Q E,sp vs H Q E→vs.length=ps.length)
  (hbody:∀(A:zP) (outer:List Env) (s:yK) (H:Hp) (vs:List V) (Q:VK) (E:XK),Room k (A.deeper (envOfC qual scope s.heap.objs.size f cdv))→sp vs H Q E→
   ∃t,PSs (nQ CX P w K mg base N qual scope f cdv A outer s H E) body t∧t {nx:=fun _ H'=>Q .non H',rt:=Q} (start N vs) H):
  FnOk P w K mg base CX (k+1) f (PySem.W.fnOf name qual params body scope dV kV doc pm an cdv ct) ps sp:=by
 refine⟨len,fun A outer s H args us vs Q E hr e0 hb r hsp=>?_⟩
 have hl:=len _ _ _ _ hsp
 have KX:K.In s.heap:=e0.mod.kin.keeps fun b o e=>(e0.bs b o e).1
 have lim:s.heap.NoLimit:=e0.mod.nolimit.keeps fun b o e=>(e0.bs b o e).1
 have hkind:∀y∈ps.zip us,scope.names.lookup y.1=some .local∨(scope.names.lookup y.1=some .cell∧((cellsFrom (s.heap.objs.size+1) scope.names []).lookup y.1).isSome=true):=fun⟨n,v⟩ hy=>by
  rcases S.par n (C1 hy).1 with q | q
  ·exact .inl q
  ·exact .inr ⟨q,PySem.W.cellsFrom_some _ _ _ (.inl q)⟩
 refine codeAny_call_function hr.depth (KX _ _ lk) rfl S.co S.gen rfl (PySem.W.codeRec_of KX hcd) (hb _ _ _ _ ?_)
 refine wpAny_newFunctionEnv_cells S.kind hkind fun env he s1 x=>?_
 subst he
 refine⟨lim.keeps x.toInCall.keep,codeAny_func ?_⟩
 obtain⟨t,ht,hq⟩:=hbody A outer s H vs Q E (hr.deeper _) hsp
 have I:Inv (nQ CX P w K mg base N qual scope f cdv A outer s H E) [] (start N vs) H s1:=nR S hr.hd e0 hl r x
 refine zX (ht [] s1 (start N vs) H _ I hq) (fun fl s' hs=>?_) fun e s' hs=>hs
 have fin:∀{σ':St} {H':Hp} {v:V} {u:yH},Inv (nQ CX P w K mg base N qual scope f cdv A outer s H E) [] σ' H' s'→RelV v u→Q v H'→CE outer P w H s Q u s':=
  fun {σ' H' v u} J rv q=>⟨v,H',J.os,J.bare,J.base,J.hok,rv,q⟩
 cases fl with
 | ret u =>
  obtain⟨v,σ',H',J,rv,q⟩:=hs
  exact fin J rv q
 | next =>
  obtain⟨σ',H',J,q⟩:=hs
  exact fin (v:=V.non) (u:=A1) J rfl q
 | brk =>
  obtain⟨_,_,_,q⟩:=hs
  exact Bo q
 | cont =>
  obtain⟨_,_,_,q⟩:=hs
  exact Bo q
section
variable {X:Cx} {x:Str} {p pos:Pos} {e:Expr} {es:List Expr} {t:TA} {id T:String} {r:List V→Hp→VK→Prop}
def dh (r:List V→Hp→VK→Prop) (t:TA):TE:=fun σ H Q=>t σ H fun vs H1=>r vs H1 Q
theorem aK (hc:cX X (.builtin id) r) (hg:Gl X x) (hm:X.mg x=none) (hv:bootBuiltins x=some (.builtin id)) (ha:PA X (e::es) t) (hn:x≠"__name__" :=by decide) (hdb:(x == ("__debug__" :Str))=false:=by decide)
  (he:starEach (e::es) X.env=(false,eval e X.env)::starEach es X.env:=by rfl) (hpl:(backTo pos (starEach es X.env)).any (·.1)=false:=by rfl):PE X (.Call (.Name x p) (e::es) [] pos) (dh r t):=by
 intro pins s σ H Q I h
 refine CZ (gX I hg hm hv ?_ hn hdb)
 exact ER (bV (ha pos pins s σ H _ I h) fun us s1 ⟨vs,H1,I1,r1,q1⟩=>hc pins s1 σ H1 vs us Q I1 r1 q1) he hpl
theorem dR (hc:cX X (.type T) r) (hg:Gl X x) (hm:X.mg x=none) (hv:bootBuiltins x=some (.type T)) (ha:PA X (e::es) t) (hn:x≠"__name__" :=by decide) (hdb:(x == ("__debug__" :Str))=false:=by decide)
  (he:starEach (e::es) X.env=(false,eval e X.env)::starEach es X.env:=by rfl) (hpl:(backTo pos (starEach es X.env)).any (·.1)=false:=by rfl):PE X (.Call (.Name x p) (e::es) [] pos) (dh r t):=by
 intro pins s σ H Q I h
 refine CZ (gX I hg hm hv ?_ hn hdb)
 exact Bz (bV (ha pos pins s σ H _ I h) fun us s1 ⟨vs,H1,I1,r1,q1⟩=>hc pins s1 σ H1 vs us Q I1 r1 q1) he hpl
end
end L2
open L2.PW renaming pt→E9
open L2.SqL renaming of→AJ
open L2.SqT renaming of→G5
open L2.V renaming int→BM,str→CM,bl→GG
namespace HT
open PySem PyProof.Rows
section
open PySem.SeqAt
open PySem.AutoSeq1 (wpAny_loadPart')
open PySem.MeetsSeq PySem.MeetsSeq2 PySem.MeetsSeq3
end
section
variable {prog:zf} {w:zt} {A:zP} {E:yH→yK→Prop} {s:yK}
def sIx (n d:Nat):Option Int→Nat
 | none=>d
 | some v=>if v< 0 then(v+(n:Int)).toNat else min v.toNat n
theorem sIx_le (n d:Nat) (hd:d≤n) (o:Option Int):sIx n d o≤n:=by
 cases o with
 | none=>exact hd
 | some v =>
  show(if v< 0 then(v+(n:Int)).toNat else min v.toNat n)≤n
  by_cases hv:v< 0
  ·rw[if_pos hv];omega
  ·rw[if_neg hv];exact Nat.min_le_right _ _
end
end HT
namespace L2
open PySem PySem.Spec PyProof.Rows
abbrev TO:=St→Hp→(Option Int→Hp→Prop)→Prop
def PO (X:Cx) (e:Option Expr) (t:TO):Prop:=
 ∀ (pins : List (Addr × Obj)) (s : yK) (σ : St) (H : Hp) (Q : Option Int → Hp → Prop), Inv X pins σ H s → t σ H Q →
  wpAny (model X.prog X.w) X.A (evalPart e X.env) (fun u s'=>∃o H',Inv X pins σ H' s'∧IsPart u o∧Q o H') X.xe s
def aH:TO:=fun _ H Q=>Q none H
def bn (t:TE):TO:=fun σ H Q=>t σ H fun x H1=>∃i,x=.int i∧Q (some i) H1
theorem lA {ns:List Int} :∀{us:List yH},Vals (ns.map BM) us→EC us ns:=by
 induction ns with
 | nil=>intro us r;rw[Ce]at r;cases r;exact .nil
 | cons n ns ih =>
  intro us r
  rw[zY]at r
  cases r with
  | cons r1 r2 =>
   obtain⟨t,e⟩:=r1
   subst e
   exact .cons n t (ih r2)
section
variable {X:Cx} {e:Expr} {te:TE} {lo hi:Option Expr} {tl th:TO} {pos p2:Pos}
theorem jn:PO X none aH:=by
 intro pins s σ H Q I h
 rw[FL]
 exact yJ ⟨none,H,I,.none,h⟩
theorem jo (h:PE X e te):PO X (some e) (bn te):=by
 intro pins s σ H Q I hw
 rw[evalPart_some]
 refine bV (h pins s σ H _ I hw) fun u s1 ⟨x,H1,I1,r1,q1⟩=>?_
 obtain⟨i,rfl,q⟩:=q1
 obtain⟨t,rfl⟩:=r1
 exact⟨some i,H1,I1,.int i t,q⟩
def wP (X:Cx) (r:V→Option Int→Option Int→Hp→VK→Prop):Prop:=
 ∀ (pins : List (Addr × Obj)) (s : yK) (σ : St) (H : Hp) (x : V) (v vl vu : yH) (lo hi : Option Int) (sl : Addr) (Q : VK), Inv X pins σ H s → RelV x v → s.heap.IsSliceOf sl vl vu .none → IsPart vl lo → IsPart vu hi → r x lo hi H Q →
  ∃T id,typeLookup (.type T) "__getitem__" =pure (some (.builtin id))∧s.TypeIs v T∧wpAny (model X.prog X.w) X.A (getItem v (.ref sl)) (EP X pins σ Q) X.xe s
def eu (r:V→Option Int→Option Int→Hp→VK→Prop) (te:TE) (tl th:TO):TE:=fun σ H Q=>te σ H fun x H1=>tl σ H1 fun l H2=>th σ H2 fun u H3=>r x l u H3 Q
theorem hW {r:V→Option Int→Option Int→Hp→VK→Prop} (hr:wP X r) (he:PE X e te) (hl:PO X lo tl) (hu:PO X hi th):PE X (.Subscript e (.Slice lo hi none p2) pos) (eu r te tl th):=by
 intro pins s σ H Q I h
 refine Fq (bV (he pins s σ H _ I h) fun v s1 ⟨x,H1,I1,r1,q1⟩=>?_)
 refine wpAny_Slice (bV (hl pins s1 σ H1 _ I1 q1) fun vl s2 ⟨l,H2,I2,pl,q2⟩=>bV (hu pins s2 σ H2 _ I2 q2) fun vu s3 ⟨u,H3,I3,pu,q3⟩=>?_)
 rw[FL]
 refine yJ ?_
 have I4:Inv X pins σ H3 {s3 with heap:=s3.heap.push {cls:=.type "slice",data:=.fields #[vl,vu,.none]}} :=I3.kept (t':=s3.toks) fun b ob q=>yN _ q
 obtain⟨T,id,hT,ht,hg⟩:=hr pins {s3 with heap:=s3.heap.push {cls:=.type "slice",data:=.fields #[vl,vu,.none]}} σ H3 x v vl vu l u s3.heap.objs.size Q I4 r1 (Gu ..) pl pu q3
 show wpAny (model X.prog X.w) X.A (subscriptTail e (.Slice lo hi none p2) v (.ref s3.heap.objs.size)) (EP X pins σ Q) X.xe {s3 with heap:=s3.heap.push {cls:=.type "slice",data:=.fields #[vl,vu,.none]}}
 exact tail_any (ops:=[.ref s3.heap.objs.size,v]) ht hT hg (by with_unfolding_all rfl)
def lB (xs:List V) (lo hi:Option Int):List V:=(xs.drop (HT.sIx xs.length 0 lo)).take (HT.sIx xs.length xs.length hi- HT.sIx xs.length 0 lo)
theorem kt (xs:List V) (lo hi:Option Int):(lB xs lo hi).length≤xs.length:=by
 unfold lB
 rw[Cu,ES]
 omega
end
def ixN (n:Nat) (i:Int):Option Nat:=if 0≤i then(if i< n then some i.toNat else none)else if -(n:Int)≤i then some (i+n).toNat else none
def atI {α:Type} (xs:List α) (i:Int):Option α:=(ixN xs.length i).bind fun j=>xs[j]?
theorem mI {n:Nat} {i:Int} {j:Nat} (h:ixN n i=some j):seqIndex? i n=some j∧j< n∧ -(n:Int)≤i∧i< n:=by
 unfold ixN at h
 by_cases h0:0≤i
 ·rw[if_pos h0]at h
  by_cases h1:i< n
  ·rw[if_pos h1]at h
   have e:i.toNat=j:=zR h
   exact⟨by rw[F8 h0 h1,e],by omega,by omega,h1⟩
  ·rw[if_neg h1]at h;cases h
 ·rw[if_neg h0]at h
  by_cases h1: -(n:Int)≤i
  ·rw[if_pos h1]at h
   have e:(i+n).toNat=j:=zR h
   exact⟨by rw[ED (by omega) h1,e],by omega,h1,by omega⟩
  ·rw[if_neg h1]at h;cases h
theorem jp {α:Type} {xs:List α} {i:Int} {v:α} (h:atI xs i=some v):∃j,seqIndex? i xs.length=some j∧xs[j]? =some v∧j< xs.length∧ -(xs.length:Int)≤i∧i< xs.length:=by
 unfold atI at h
 cases e:ixN xs.length i with
 | none=>rw[e]at h;cases h
 | some j =>
  rw[e]at h
  obtain⟨h1,h2,h3,h4⟩:=mI e
  exact⟨j,h1,h,h2,h3,h4⟩
def sw (b:Expr):Prop:=∀o i,subscripted b false o i=operate [o,i] (getItem o i)
def vP (X:Cx) (r:R2):Prop:=
 ∀ (value slice : Expr) (pins : List (Addr × Obj)) (s : yK) (σ : St) (H : Hp) (x y : V) (v u : yH) (Q : VK), Inv X pins σ H s → RelV x v → RelV y u → r x y H Q →
  subscripted slice false v u=operate [v,u] (getItem v u)→wpAny (model X.prog X.w) X.A (subscriptTail value slice v u) (EP X pins σ Q) X.xe s
def uS (X:Cx) (id:String) (r:V→List V→Hp→VK→Prop):Prop:=
 ∀ (pins : List (Addr × Obj)) (s : yK) (σ : St) (H : Hp) (x : V) (xs : List V) (v : yH) (us : List yH) (Q : VK), Inv X pins σ H s → RelV x v → Vals xs us → r x xs H Q →
  wpAny (model X.prog X.w) X.A (call (.builtin id) (v::us)) (EP X pins σ Q) X.xe s
section
variable {X:Cx} {a b:Expr} {ta tb:TE} {pos:Pos}
theorem ax {r:R2} (hr:vP X r) (ha:PE X a ta) (hb:PE X b tb) (hs:sw b):PE X (.Subscript a b pos) (cI r ta tb):=by
 intro pins s σ H Q I h
 exact Fq (uP ha hb I h fun v u s2 x y H2 I2 rx ry q=>hr a b pins s2 σ H2 x y v u Q I2 rx ry q (hs _ _))
def bM (K:PySem.W.Frag):R2:=fun x y H Q=>∃p xs i v,x=.ref p∧y=.int i∧SqL K H p xs∧atI xs i=some v∧Q v H
def bY (K:PySem.W.Frag):R2:=fun x y H Q=>∃p xs i v,x=.ref p∧y=.int i∧SqT K H p xs∧atI xs i=some v∧Q v H
def cq:R2:=fun x y H Q=>∃z i c,x=.str z∧y=.int i∧z.length≤sizeLine∧atI z.cps.toList i=some c∧Q (.str ⟨#[c]⟩) H
theorem sx:vP X (bM X.K):=by
 intro value slice pins s σ H x y v u Q I rx ry h hs
 obtain⟨p,xs,i,z,rfl,rfl,hq,he,q⟩:=h
 cases rx
 obtain⟨t,rfl⟩:=ry
 obtain⟨its,r,pl,hz⟩:=I.list hq
 obtain⟨j,h1,h2,h3,h4,h5⟩:=jp he
 obtain⟨w,ew,rw'⟩:=r.get h2
 have hl:=r.length
 have hn:=gZ
 have fin:EP X pins σ Q w s:=⟨z,H,I,rw',q⟩
 by_cases h0:0≤i
 ·have hj:i.toNat=j:=by
   rw[F8 h0 h5]at h1
   exact zR h1
  exact item_listR pl.isList h0 (by omega) (by rw[hj];simpa using ew) fin hs
 ·have hj:(i+(its.toArray.size:Int)).toNat=j:=by
   rw[ED (by omega) h4]at h1
   rw[z9,←hl]
   exact zR h1
  exact DC (x:=w) pl.isList.typeIs EE.lookup
   (wpAny_getItem_list_neg (Q:=fun r s'=>r=w∧EP X pins σ Q r s') pl.isList (by omega) (by rw[z9] <;> omega) (by omega) (by rw[hj];simpa using ew) ⟨rfl,fin⟩) hs
theorem uT:vP X (bY X.K):=by
 intro value slice pins s σ H x y v u Q I rx ry h hs
 obtain⟨p,xs,i,z,rfl,rfl,hq,he,q⟩:=h
 cases rx
 obtain⟨t,rfl⟩:=ry
 obtain⟨its,r,pl,hz⟩:=I.tuple hq
 obtain⟨j,h1,h2,h3,h4,h5⟩:=jp he
 obtain⟨w,ew,rw'⟩:=r.get h2
 have hl:=r.length
 have hn:=gZ
 have fin:EP X pins σ Q w s:=⟨z,H,I,rw',q⟩
 exact DC (x:=w) pl.typeIs slot_tuple_getitem.lookup
  (getItem_tuple (j:=j) (Q:=fun r s'=>r=w∧EP X pins σ Q r s') pl (by omega) (by omega) (by rw[z9,←hl];exact h1) (by simpa using ew) ⟨rfl,fin⟩) hs
theorem bA:vP X cq:=by
 intro value slice pins s σ H x y v u Q I rx ry h hs
 obtain⟨z,i,c,rfl,rfl,hz,he,q⟩:=h
 obtain⟨t,rfl⟩:=rx
 obtain⟨t',rfl⟩:=ry
 obtain⟨j,h1,h2,h3,h4,h5⟩:=jp he
 have hl:z.cps.toList.length=z.length:=by simp[Gv]
 rw[hl]at h1 h4 h5
 have hn:=gZ
 exact tail_any (Ft s z t) slot_str_getitem.lookup (getItem_str (c:=c) (by
  have e1:decide (i< -(2^63:Int))=false:=decide_eq_false (by omega)
  have e2:decide (i≥2^63)=false:=decide_eq_false (by omega)
  rw[e1,e2,Bool.or_false]) (by rw[h1];simpa using h2) ⟨.str ⟨#[c]⟩,H,I.tok _,⟨_,rfl⟩,q⟩) hs
theorem lC (its:List yH) (n j:Nat) (u:yH):AW (·.setIfInBounds j u) {cls:=.type "list",data:=.seq its.toArray n} ={cls:=.type "list",data:=.seq (its.set j u).toArray n} :=by
 simp[AW]
theorem Inv.lst {pins:List (Addr×Obj)} {σ:St} {H:Hp} {s:yK} {p:Addr} {xs:List V} (I:Inv X pins σ H s) (h:H p=some (.lst xs)):
  ∃(its:List yH) (n:Nat),Vals xs its∧s.heap.get? p=some {cls:=.type "list",data:=.seq its.toArray n}∧xs.length≤sizeLine:=by
 obtain⟨z,its,n,r,e⟩:=I.hok p _ h
 exact⟨its,n,r,e,z⟩
theorem Inv.lstUpd {pins:List (Addr×Obj)} {σ:St} {H:Hp} {s:yK} {p:Addr} {xs ys:List V} {its its':List yH} {n n':Nat} {f:Obj→Obj} (I:Inv X pins σ H s) (h:H p=some (.lst xs))
  (ho:s.heap.get? p=some {cls:=.type "list",data:=.seq its.toArray n}) (hf:f {cls:=.type "list",data:=.seq its.toArray n} ={cls:=.type "list",data:=.seq its'.toArray n'}) (r:Vals ys its') (hz:ys.length≤sizeLine) (t:Nat):
  Inv X pins σ (cA H p (.lst ys)) {s with heap:=s.heap.update p f,toks:=t} :=by
 have e:(s.heap.update p f).get? p=some {cls:=.type "list",data:=.seq its'.toArray n'} :=by
  rw[AF f ho (by rw[hf] <;> rfl),hf]
 refine I.write (x:=p) (e:=p) (by rw[h];trivial) (.inl rfl) (fun b u hb q=>(Cf _ _ (AZ hb)).trans q) ⟨_,e⟩ ?_
 exact⟨hz,its',n',r,e⟩
def ut:V→V→V→Hp→(Hp→Prop)→Prop:=fun o i v H Q=>∃p xs k j,o=.ref p∧i=.int k∧H p=some (.lst xs)∧ixN xs.length k=some j∧Q (cA H p (.lst (xs.set j v)))
theorem hX:w8 X ut:=by
 intro pins s σ H o i v ov iv u Q I ro ri rv h
 obtain⟨p,xs,k,j,rfl,rfl,hp,hj,q⟩:=h
 cases ro
 obtain⟨t,rfl⟩:=ri
 obtain⟨its,n,r,ho,hz⟩:=I.lst hp
 obtain⟨h1,h2,h3,h4⟩:=mI hj
 have hl:=r.length
 have hn:=gZ
 have I':Inv X pins σ (cA H p (.lst (xs.set j v))) {s with heap:=s.heap.update p (AW (·.setIfInBounds j u))} :=
  I.lstUpd hp ho (lC its n j u) (r.set rv j) (by rw[AD];exact hz) s.toks
 by_cases h0:0≤k
 ·have hk:k.toNat=j:=by
   rw[F8 h0 h4]at h1
   exact zR h1
  exact PySem.W.ki_setAt ho h0 (by omega) (by rw[z9,←hl];exact h4) (by rw[hk];exact⟨_,I',q⟩)
 ·have hk:(k+(its.toArray.size:Int)).toNat=j:=by
   rw[ED (by omega) h3]at h1
   rw[z9,←hl]
   exact zR h1
  exact PySem.W.ki_setBack ho (by omega) (by rw[z9,←hl];exact h3) (by omega) (by rw[hk];exact⟨_,I',q⟩)
theorem jq (lo hi:Option Int) (n:Nat):(sliceBounds lo hi none n).1=((HT.sIx n 0 lo:Nat):Int)∧(sliceBounds lo hi none n).2.1=((HT.sIx n n hi:Nat):Int)∧(sliceBounds lo hi none n).2.2=1:=by
 refine⟨?_,?_,rfl⟩
 ·cases lo with
  | none=>simp[sliceBounds,HT.sIx]
  | some i =>
   simp only[sliceBounds,HT.sIx,Du,show(1:Int)> 0 by decide,if_true]
   by_cases h:i< 0
   ·simp only[h,if_true] <;> omega
   ·simp only[h,if_false] <;> omega
 ·cases hi with
  | none=>simp[sliceBounds,HT.sIx]
  | some i =>
   simp only[sliceBounds,HT.sIx,Du,show(1:Int)> 0 by decide,if_true]
   by_cases h:i< 0
   ·simp only[h,if_true] <;> omega
   ·simp only[h,if_false] <;> omega
theorem iN (its:List yH) (lo hi:Option Int):slicePick its.toArray lo hi none=((its.drop (HT.sIx its.length 0 lo)).take (HT.sIx its.length its.length hi- HT.sIx its.length 0 lo)).toArray:=by
 obtain⟨h1,h2,h3⟩:=jq lo hi its.toArray.size
 unfold slicePick
 rw[h1,h2,h3]
 simp only[DZ,pick_run,z9] <;> rfl
def bZ (K:PySem.W.Frag):V→Option Int→Option Int→Hp→VK→Prop:=fun x lo hi H Q=>∃a xs,x=.ref a∧SqL K H a xs∧∀p,H p=none→Q (.ref p) (cA H p (.lst (lB xs lo hi)))
theorem sy:wP X (bZ X.K):=by
 intro pins s σ H x v vl vu lo hi sl Q I rx hs pl pu h
 obtain⟨a,xs,rfl,hx,q⟩:=h
 cases rx
 obtain⟨its,r,ht,hz⟩:=I.list hx
 have hlen:=r.length
 refine⟨"list",_,EE.lookup,ht.isList.typeIs,?_⟩
 refine wpAny_getItem_list_slice ht.isList hs pl pu .none (by simp) ?_ (by rw[z9] <;> omega)
 rw[iN,←hlen]
 refine⟨.ref s.heap.objs.size,_,I.laid (t':=s.toks) (o:=.lst (lB xs lo hi)) (fun b ob q=>yN _ q) (yP _) ?_,rfl,q _ (I.hok.fresh (yP _))⟩
 exact⟨Aw (kt xs lo hi) hz,_,0,(r.drop (HT.sIx xs.length 0 lo)).take (HT.sIx xs.length xs.length hi- HT.sIx xs.length 0 lo),z6 _ rfl⟩
def flatV:V→Bool
 | .non=>true
 | .bl _=>true
 | .int _=>true
 | .str _=>true
 | _=>false
def eqV:V→V→Bool
 | .non,.non=>true
 | .bl a,.bl b=>a == b
 | .bl a,.int b=>(if a then 1 else 0) == b
 | .int a,.bl b=>a == (if b then 1 else 0)
 | .int a,.int b=>a == b
 | .str a,.str b=>a == b
 | _,_=>false
theorem uU {A:zP} {s:yK} {y x:V} {u v:yH} (ry:RelV y u) (rx:RelV x v) (fy:flatV y=true) (fx:flatV x=true):Gw A s u v (eqV y x):=by
 cases y with
 | non =>
  cases ry
  cases x with
  | non=>cases rx;exact GJ _
  | bl b=>cases rx;exact Gd b
  | int b=>obtain⟨t,rfl⟩:=rx;exact Gh b t
  | str b=>obtain⟨t,rfl⟩:=rx;exact Gi b t
  | _=>exact absurd (show false=true from fx) z8
 | bl a =>
  cases ry
  cases x with
  | non=>cases rx;exact Ge a
  | bl b=>cases rx;exact Gf a b
  | int b=>obtain⟨t,rfl⟩:=rx;exact Gj a b t
  | str b=>obtain⟨t,rfl⟩:=rx;exact Gk a b t
  | _=>exact absurd (show false=true from fx) z8
 | int a =>
  obtain⟨t',rfl⟩:=ry
  cases x with
  | non=>cases rx;exact Gm a t'
  | bl b=>cases rx;exact Gn a t' b
  | int b=>obtain⟨t,rfl⟩:=rx;exact Gx a t' b t
  | str b=>obtain⟨t,rfl⟩:=rx;exact Ep a t' b t
  | _=>exact absurd (show false=true from fx) z8
 | str a =>
  obtain⟨t',rfl⟩:=ry
  cases x with
  | non=>cases rx;exact Gp a t'
  | bl b=>cases rx;exact Gq a t' b
  | int b=>obtain⟨t,rfl⟩:=rx;exact Es a t' b t
  | str b=>obtain⟨t,rfl⟩:=rx;exact Gy a t' b t
  | _=>exact absurd (show false=true from fx) z8
 | _=>exact absurd (show false=true from fy) z8
def sA (x:V) (u:yH):Bool:=match u with
 | .none=>eqV .non x
 | .bool b=>eqV (.bl b) x
 | .int i _=>eqV (.int i) x
 | .str z _=>eqV (.str z) x
 | _=>false
theorem pq {x y:V} {u:yH} (r:RelV y u) (f:flatV y=true):sA x u=eqV y x:=by
 cases y with
 | non=>cases r;rfl
 | bl b=>cases r;rfl
 | int i=>obtain⟨t,rfl⟩:=r;rfl
 | str z=>obtain⟨t,rfl⟩:=r;rfl
 | _=>exact absurd (show false=true from f) z8
theorem jr {x:V} :∀{xs:List V} {us:List yH},Vals xs us→xs.all flatV=true→us.any (sA x)=xs.any fun y=>eqV y x
 | _,_,.nil,_=>rfl
 | y :: xs, u :: us, .cons r t, f => by
  rw[FN,Dv]at f
  rw[CB,CB,pq r f.1,jr t f.2]
theorem hZ {A:zP} {s:yK} {x:V} {v:yH} (rx:RelV x v) (fx:flatV x=true):∀{xs:List V} {us:List yH},Vals xs us→xs.all flatV=true→∀u∈us,Gw A s u v (sA x u)
 | _,_,.nil,_=>fun u hu=>by cases hu
 | y :: xs, u :: us, .cons r t, f => fun u' hu => by
  rw[FN,Dv]at f
  rcases zq.mp hu with rfl | hu
  ·rw[pq r f.1];exact uU r rx f.1 fx
  ·exact hZ rx fx t f.2 u' hu
def wQ (x:V) (xs:List V):Bool:=xs.any fun y=>eqV y x
def eM (K:PySem.W.Frag) (neg:Bool):R2:=fun x y H Q=>∃p xs,y=.ref p∧(SqL K H p xs∨SqT K H p xs)∧flatV x=true∧xs.all flatV=true∧Q (.bl (if neg then !wQ x xs else wQ x xs)) H
theorem js:OpR X (compareOp .NotIn) (eM X.K true):=by
 intro pins s σ H x y v u Q I rx ry h
 obtain⟨p,xs,rfl,hq,fx,fs,q⟩:=h
 cases ry
 rcases hq with hq | hq
 ·obtain⟨its,r,pl,hz⟩:=I.list hq
  refine SeqAt.notIn_listAt (sA x) pl.isList (fun w hw=>hZ rx fx r fs w (by simpa using hw)) ⟨.bl _,H,I,rfl,?_⟩
  rw[show its.toArray.any (sA x)=its.any (sA x) by simp,jr r fs]
  exact q
 ·obtain⟨its,r,pl,hz⟩:=I.tuple hq
  refine SeqAt.notIn_tupleAt (sA x) pl (fun w hw=>hZ rx fx r fs w (by simpa using hw)) ⟨.bl _,H,I,rfl,?_⟩
  rw[show its.toArray.any (sA x)=its.any (sA x) by simp,jr r fs]
  exact q
theorem jt:cX X (.type "list") (fun xs H Q=>∃p ys,xs=[.ref p]∧(SqL X.K H p ys∨SqT X.K H p ys)∧∀l,H l=none→Q (.ref l) (cA H l (.lst ys))):=by
 intro pins s σ H xs us Q I r h
 obtain⟨p,ys,rfl,hq,q⟩:=h
 obtain⟨u,rfl,rx⟩:=dF r
 cases rx
 have fin:∀(its:List yH),Vals ys its→ys.length≤sizeLine→∀(h':Heap) (c':Nat),(∀b o',s.heap.get? b=some o'→h'.get? b=some o')→
   h'.get? s.heap.objs.size=some {cls:=.type "list",dict:=none,data:=.seq its.toArray c',slots:= #[]}→EP X pins σ Q (.ref s.heap.objs.size) {s with heap:=h'} :=fun its r' hz h' c' kp e=>
  ⟨.ref s.heap.objs.size,_,I.laid (t':=s.toks) kp (yP _) (show ObjOk X.prog X.w _ h' _ (.lst ys)from⟨hz,its,c',r',e⟩),rfl,q _ (I.hok.fresh (yP _))⟩
 rcases hq with hq | hq
 ·obtain⟨its,r',pl,hz⟩:=I.list hq
  have hlen:=r'.length
  obtain⟨o,ho,hc,n,hd⟩:=pl.isList
  exact FO p (.inl rfl) ho hc hd (fun h' c' kp e=>fin its r' hz h' c' kp e) (by simp only[z9] <;> omega)
 ·obtain⟨its,r',pl,hz⟩:=I.tuple hq
  have hlen:=r'.length
  obtain⟨o,ho,hc,n,hd⟩:=pl
  exact FO p (.inr rfl) ho hc hd (fun h' c' kp e=>fin its r' hz h' c' kp e) (by simp only[z9] <;> omega)
theorem iO:cX X (.type "tuple") (fun xs H Q=>∃p ys,xs=[.ref p]∧((SqL X.K H p ys∧∀l,H l=none→Q (.ref l) (cA H l (.tup ys)))∨(SqT X.K H p ys∧Q (.ref p) H))):=by
 intro pins s σ H xs us Q I r h
 obtain⟨p,ys,rfl,h⟩:=h
 obtain⟨u,rfl,rx⟩:=dF r
 cases rx
 rcases h with⟨hq,q⟩ | ⟨hq,q⟩
 ·obtain⟨its,r',pl,hz⟩:=I.list hq
  have hlen:=r'.length
  refine call_tuple_list pl.isList (fun h' kp=>?_) (by simp only[z9] <;> omega)
  have I1:Inv X pins σ H {s with heap:=h'} :=I.kept (t':=s.toks) kp
  have I2:Inv X pins σ (cA H h'.objs.size (.tup ys)) {s with heap:=h'.push {cls:=.type "tuple",data:=.seq its.toArray}} :=
   I1.laid (t':=s.toks) (fun b o e=>yN _ e) (yP _) (show ObjOk X.prog X.w _ _ _ (.tup ys)from⟨hz,its,r',IsTupD.new _ _⟩)
  exact⟨.ref h'.objs.size,_,I2,rfl,q _ (I1.hok.fresh (yP _))⟩
 ·obtain⟨its,r',pl,hz⟩:=I.tuple hq
  exact call_tuple_same pl ⟨.ref p,H,I,rfl,q⟩
def wR (K:PySem.W.Frag) (T:String) (x:V) (H:Hp):Prop:=match x with
 | .str _=>T="str"
 | .int _=>T="int"
 | .ref p=>(T="list" ∧∃xs,SqL K H p xs)∨(T="tuple" ∧((∃o,K.lookup p=some o∧o.cls=.type "tuple" ∧o.dict=none)∨∃xs,SqT K H p xs))∨
   (T="dict" ∧((∃kvs,H p=some (.dK kvs))∨∃kvs,H p=some (.dT kvs)))∨(T="set" ∧∃S n,H p=some (.set S n))
 | _=>False
theorem pr {pins:List (Addr×Obj)} {σ:St} {H:Hp} {s:yK} {T:String} {x:V} {v:yH} (I:Inv X pins σ H s) (r:RelV x v) (ty:wR X.K T x H):
  s.TypeIs v T∧∀a,v=.ref a→∃ob,s.heap.get? a=some ob∧ob.dict=none:=by
 cases x with
 | str z =>
  obtain⟨t,rfl⟩:=r
  cases (show T="str" from ty)
  exact⟨Ft s z t,fun _ e=>nomatch e⟩
 | int i =>
  obtain⟨t,rfl⟩:=r
  cases (show T="int" from ty)
  exact⟨typeIs_int s i t,fun _ e=>nomatch e⟩
 | ref p =>
  cases r
  rcases ty with⟨rfl,xs,hq⟩ | ⟨rfl,⟨o,hk,hc,hd⟩ | ⟨xs,hq⟩⟩ | ⟨rfl,hk⟩ | ⟨rfl,S,n,hk⟩
  ·obtain⟨its,_,pl,_⟩:=I.list hq
   refine⟨pl.isList.typeIs,fun a e=>?_⟩
   cases e
   obtain⟨o,n,e,c,hd,_⟩:=pl
   exact⟨o,e,hd⟩
  ·refine⟨⟨o,I.kIn p o hk,hc⟩,fun a e=>?_⟩
   cases e
   exact⟨o,I.kIn _ o hk,hd⟩
  ·obtain⟨o,e1,c1,d1⟩:∃o,s.heap.get? p=some o∧o.cls=.type "tuple" ∧o.dict=none:=by
    rcases hq with hq | ⟨o,its,n,hk,hc,_⟩
    ·obtain⟨_,_,_,o,e1,⟨c1,d1⟩,_⟩:=hq.ok I.hok
     exact⟨o,e1,c1,d1⟩
    ·exact⟨o,I.kIn p o hk,hc.1,hc.2⟩
   refine⟨⟨o,e1,c1⟩,fun a e=>?_⟩
   cases e
   exact⟨o,e1,d1⟩
  ·have z:∃o,s.heap.get? p=some o∧o.ExactDict:=by
    rcases hk with⟨kvs,hk⟩ | ⟨kvs,hk⟩
    ·obtain⟨_,_,_,_,o,_,_,e,ex,_⟩:=I.hok p _ hk
     exact⟨o,e,ex⟩
    ·obtain⟨_,_,_,_,o,_,_,e,ex,_⟩:=I.hok p _ hk
     exact⟨o,e,ex⟩
   obtain⟨o,e,ex⟩:=z
   refine⟨⟨o,e,ex.1⟩,fun a e2=>?_⟩
   cases e2
   exact⟨o,e,ex.2.1⟩
  ·obtain⟨o,_,_,_,e,ex,_⟩:=I.hok p _ hk
   refine⟨⟨o,e,ex.1⟩,fun a e2=>?_⟩
   cases e2
   exact⟨o,e,ex.2.1⟩
 | _=>exact Bo ty
def bT (K:PySem.W.Frag) (T:String) (r:V→List V→Hp→VK→Prop) (to:TE):TE:=fun σ H Q=>to σ H fun x H1=>wR K T x H1∧r x [] H1 Q
def dq (K:PySem.W.Frag) (T:String) (r:V→List V→Hp→VK→Prop) (to:TE) (t:TA):TE:=fun σ H Q=>to σ H fun x H1=>wR K T x H1∧t σ H1 fun xs H2=>r x xs H2 Q
variable {o e:Expr} {es:List Expr} {to:TE} {t:TA} {name:Str} {apos cpos:Pos} {T id:String} {r:V→List V→Hp→VK→Prop}
theorem uV (pa:Et T) (slot:Slot T name id) (hty:typeOf (.builtin id)=pure (.type "method_descriptor")) (hm:uS X id r) (ho:PE X o to)
  (hbase:attributeBase o name X.env (eval o X.env)=eval o X.env:=by rfl) (hline:(apos.endLine == cpos.line)=true:=by rfl):PE X (.Call (.Attribute o name apos) [] [] cpos) (bT X.K T r to):=by
 intro pins s σ H Q I h
 refine wpAny_Call_method0_late hbase hline (bV (ho pins s σ H _ I h) fun v s1 ⟨x,H1,I1,r1,ty,q1⟩=>?_)
 obtain⟨h1,h2⟩:=pr I1 r1 ty
 exact⟨T,id,pa,slot,hty,h1,h2,DD rfl (PySem.evalArgs_none (hm pins s1 σ H1 x [] v [] Q I1 r1 .nil q1))⟩
theorem we (pa:Et T) (slot:Slot T name id) (hty:typeOf (.builtin id)=pure (.type "method_descriptor")) (hm:uS X id r) (ho:PE X o to) (ha:PA X (e::es) t)
  (hbase:attributeBase o name X.env (eval o X.env)=eval o X.env:=by rfl)
  (hfew:((backTo cpos (starEach (e::es) X.env)).all (fun x=> !x.1) && (backToKw cpos (keywordEach [] X.env)).all (fun x=>x.1.isSome)
   && decide ((e::es).length+([]:List EF).length+(if([]:List EF).isEmpty then 0 else 1)< 30))=true:=by rfl)
  (hline:(apos.endLine == cpos.line)=true:=by rfl) (hs:starEach (e::es) X.env=(false,eval e X.env)::starEach es X.env:=by rfl) (hplain:(backTo cpos (starEach es X.env)).any (·.1)=false:=by rfl):
  PE X (.Call (.Attribute o name apos) (e::es) [] cpos) (dq X.K T r to t):=by
 intro pins s σ H Q I h
 refine wpAny_Call_method_late hbase hfew hline rfl (bV (ho pins s σ H _ I h) fun v s1 ⟨x,H1,I1,r1,ty,q1⟩=>?_)
 obtain⟨h1,h2⟩:=pr I1 r1 ty
 refine⟨T,id,pa,slot,hty,h1,h2,?_⟩
 have hA:=ha cpos pins s1 σ H1 _ I1 q1
 rw[hs]at hA ⊢
 refine DD (by show(false || (backTo cpos (starEach es X.env)).any (·.1))=false;rw[hplain] <;> rfl) (Calls.evalArgs_plain ?_)
 exact bV hA fun us s2 ⟨vs,H2,I2,r2,q2⟩=>hm pins s2 σ H2 x vs v us Q I2 r1 r2 q2
end
def xO (X:Cx) (id:String) (r:V→List V→Hp→VK→Prop):Prop:=
 ∀ (pins : List (Addr × Obj)) (s : yK) (σ : St) (H : Hp) (x : V) (xs : List V) (v : yH) (us : List yH) (Q : VK), Inv X pins σ H s → RelV x v → Vals xs us → r x xs H Q →
  wpAny (model X.prog X.w) X.A (call (.builtin id) (v::us)) (EP X pins σ Q) X.xe s
theorem Vals.one:∀{x:V} {us:List yH},Vals [x] us→∃u,us=[u]∧RelV x u
 | _,_,.cons r .nil=>⟨_,rfl,r⟩
theorem Vals.zero:∀{us:List yH},Vals [] us→us=[]
 | _,.nil=>rfl
section
variable {X:Cx} {pins:List (Addr×Obj)} {σ:St} {H:Hp} {s:yK} {l b:Addr} {xs ys zs:List V}
theorem Inv.lset {its its':List yH} {n:Nat} {f:Array yH→Array yH} {t':Nat} (I:Inv X pins σ H s) (hH:H l=some (.lst xs))
  (e:s.heap.get? l=some {cls:=.type "list",data:=.seq its.toArray n}) (hf:f its.toArray=its'.toArray) (hv:Vals ys its') (hz:ys.length≤sizeLine):
  Inv X pins σ (cA H l (.lst ys)) {s with heap:=s.heap.update l (AW f),toks:=t'} :=by
 have q:=PySem.IsL.update e f
 rw[hf]at q
 refine I.write (x:=l) (e:=l) (by rw[hH];exact trivial) (.inl rfl) (fun b' u hb hu=>(Cf s.heap (AW f) (AZ hb)).trans hu) ⟨_,q⟩ ?_
 exact⟨hz,its',_,hv,q⟩
theorem Inv.lstM (I:Inv X pins σ H s) (hH:H l=some (.lst xs)):xs.length≤sizeLine∧∃(its:List yH) (n:Nat),Vals xs its∧xs.length=its.length∧s.heap.get? l=some {cls:=.type "list",data:=.seq its.toArray n} :=by
 obtain⟨z,its,n,r,e⟩:=I.hok l _ hH
 exact⟨z,its,n,r,r.length,e⟩
end
section
variable {X:Cx}
def au:V→List V→Hp→VK→Prop:=fun x vs H Q=>∃l xs y,x=.ref l∧vs=[y]∧H l=some (.lst xs)∧xs.length< sizeLine∧Q .non (cA H l (.lst (xs++ [y])))
theorem nS:xO X "list.append" au:=by
 intro pins s σ H x vs v us Q I rx rv h
 obtain⟨l,xs,y,rfl,rfl,hH,hz,q⟩:=h
 cases rx
 obtain⟨u,rfl,ru⟩:=rv.one
 obtain⟨z,its,n,r,hl,e⟩:=I.lstM hH
 refine call_meets F.slot_list_append ⟨_,e,rfl⟩ F.entry_list_append (F.args_list_append_2 _ _) (PySem.list_append l its.toArray n u (by rw[z9];omega)) ⟨e,?_⟩
 refine⟨.non,_,I.lset (its':=its++ [u]) hH e (by simp) (r.append (.cons ru .nil)) ?_,rfl,q⟩
 rw[Bp,Cr]
 omega
def aQ:V→List V→Hp→VK→Prop:=fun x vs H Q=>∃l xs,x=.ref l∧vs=[]∧H l=some (.lst xs)∧Q .non (cA H l (.lst []))
theorem pA:xO X "list.clear" aQ:=by
 intro pins s σ H x vs v us Q I rx rv h
 obtain⟨l,xs,rfl,rfl,hH,q⟩:=h
 cases rx
 have hus:=rv.zero
 subst hus
 obtain⟨z,its,n,r,hl,e⟩:=I.lstM hH
 refine call_meets F.slot_list_clear ⟨_,e,rfl⟩ F.entry_list_clear (F.args_list_clear_1 _) (AutoSeq1.list_clear_list_0 l its.toArray n (by rw[z9];omega)) ⟨e,?_⟩
 exact⟨.non,_,I.lset (its':=[]) (ys:=[]) hH e rfl .nil (zo _),rfl,q⟩
end
section
variable {κ:Type} [DecidableEq κ]
def iP (kvs:List (κ×V)) (k:κ):Option V:=(kvs.find? fun kv=>decide (kv.1=k)).map (·.2)
def nU (kvs:List (κ×V)) (k:κ) (v:V):List (κ×V):=
 if(kvs.any fun kv=>decide (kv.1=k))=true then kvs.map (fun kv=>if kv.1=k then(kv.1,v)else kv)else kvs++ [(k,v)]
theorem fK {p:κ×V} {r:List (κ×V)} {k:κ} (e:p.1=k):iP (p::r) k=some p.2:=by simp[iP,Bu,e]
theorem fL {p:κ×V} {r:List (κ×V)} {k:κ} (e:¬p.1=k):iP (p::r) k=iP r k:=by simp[iP,Bu,e]
theorem ku (k:κ):∀kvs:List (κ×V),(kvs.any fun kv=>decide (kv.1=k))=(iP kvs k).isSome
 | []=>rfl
 | p :: r => by
  rw[CB]
  by_cases e:p.1=k
  ·simp only[fK e,decide_eq_true e,Bool.true_or,Eu]
  ·rw[fL e,decide_eq_false e,Bool.false_or];exact ku k r
theorem RelO.isSome_eq {o:Option V} {u:Option yH} (r:RelO o u):o.isSome=u.isSome:=by
 cases o with
 | none => cases u with
  | none=>rfl
  | some _=>exact(show False from r).elim
 | some _ => cases u with
  | none=>exact(show False from r).elim
  | some _=>rfl
theorem KV.val {kvs:List (κ×V)} {vs:List (κ×yH)} (r:KV kvs vs) (k:κ):RelO (iP kvs k) (valueAt vs k):=by
 unfold KV at r
 induction r with
 | nil=>exact BG
 | @cons p q ps qs h t ih =>
  obtain⟨h1,h2⟩:=h
  by_cases e:p.1=k
  ·have e':q.1=k:=h1.symm.trans e
   have b:valueAt (q::qs) k=some q.2:=by simp[valueAt,Bu,e']
   rw[fK e,b];exact h2
  ·have e':¬q.1=k:=fun z=>e (h1.trans z)
   have b:valueAt (q::qs) k=valueAt qs k:=by simp[valueAt,Bu,e']
   rw[fL e,b];exact ih
end
theorem uv {P:zf} {w:zt} {k:Key} {u:yH} (r:RelV (kV k) u):(mixKind P w).is k u=true:=by
 cases k with
 | inl i=>obtain⟨t,e⟩:=(show ∃t,u=Ds i t from r);subst e;exact k6 P w i t
 | inr x=>obtain⟨t,e⟩:=(show ∃t,u=EN x t from r);subst e;exact k9 P w x t
theorem j6 {P:zf} {w:zt} :∀{ks:List Key} {us:List yH},Vals (ks.map kV) us→ItemsAre (mixKind P w) ks us
 | [],_,r=>by rw[Ce]at r;cases r;exact .nil
 | k :: ks, _, r => by
  rw[zY]at r
  cases r with
  | cons h t=>exact .cons (uv h) (j6 t)
section
variable {X:Cx} {pins:List (Addr×Obj)} {σ:St} {H:Hp} {s:yK} {a:Addr} {y v:V} {u r:yH} {o:Option V} {A:zP} {E:yH→yK→Prop}
theorem Inv.big (I:Inv X pins σ H s):sysModules< s.heap.objs.size:=by
 have h:mainGlobals< s.heap.objs.size:=(I.mod.glob.keeps I.bk).lt
 exact DE (by decide) h
theorem sB {h':Heap} {t':Nat} {ob:HO} (I:Inv X pins σ H s) (mu:vZ (H a)) (hs:zC a s.heap h') (he:∃q,h'.get? a=some q) (new:ObjOk X.prog X.w (cA H a ob) h' a ob):
  Inv X pins σ (cA H a ob) {s with heap:=h',toks:=t'} :=
 I.write (x:=a) (e:=a) mu (.inl rfl) (fun b q hb z=>(hs.2 b hb).trans z) he new
end
def uW (i:Expr):Prop:=∀ov iv,subscripted i false ov iv=operate [ov,iv] (getItem ov iv)
theorem sC {prog:zf} {w:zt} {A:zP} {E:yH→yK→Prop} {s:yK} {env:Env} {value slice:Expr} {pos:Pos} {T id:String} {Q:yH→yK→Prop}
  (hl:typeLookup (.type T) "__getitem__" =pure (some (.builtin id))) (hs:uW slice)
  (h:wpAny (model prog w) A (eval value env) (fun o s₁=>wpAny (model prog w) A (eval slice env) (fun i s₂=>s₂.TypeIs o T∧wpAny (model prog w) A (getItem o i) Q E s₂) E s₁) E s):
  wpAny (model prog w) A (eval (.Subscript value slice pos) env) Q E s:=by
 refine Fq (zX h (fun o s₁ h₁=>zX h₁ (fun i s₂ h₂=>?_) fun _ _ x=>x) fun _ _ x=>x)
 obtain⟨hT,h₂⟩:=h₂
 unfold subscriptTail
 refine yF ?_
 rw[getitemInPython_of_ne hT.not_modules]
 refine yF (DL hT hl ?_)
 have fin:wpAny (model prog w) A (subscripted slice false o i) (fun r s₃=>wpAny (model prog w) A (letTemporaryGo value o r >>= fun _=>pure r) Q E s₃) E s₂:=by
  rw[hs o i]
  exact wpAny_operating (zX h₂ (fun r s₃ h₃=>yF (wpAny_letTemporaryGo (yJ h₃))) fun _ _ x=>x)
 first
  | exact yJ (yF fin)
  | exact yF (yJ (yF fin))
  | exact yF fin
end L2
namespace Att
open PySem PySem.W PySem.Calls PyProof.Rows
theorem gG {P:Gz} {h:Heap} :∀(ns:List Int) (vs:List yH),WellAll P h vs (ns.map GD)→EC vs ns:=by
 intro ns
 induction ns with
 | nil =>
  intro vs w
  rw[Ce]at w
  cases w
  exact .nil
 | cons n ns ih =>
  intro vs w
  rw[zY]at w
  cases w with
  | cons a b =>
   cases a
   exact .cons _ _ (ih _ b)
theorem nV {l:OpenLaw} {n:Nat} (hn:l.most=some n) {P:Gz} {h:Heap} {args:List WData} {vals:List yH}
  (hpre:l.row.toRowW.claim.pre args=true) (hwl:WellAll P h vals args):
  ∃a vs ns,vals=[A4 a]∧args=[WData.list (ns.map GD)]∧h.get? a=some {cls:=.type "list",data:=.seq vs.toArray}∧EC vs ns∧ns.length≤n:=by
 have hsh:WShape.hasAll [] args [.list .int]=true:=(pre_splitW hpre).1
 have hc:l.pre.holds [] {args:=args} =true:=(pre_splitW hpre).2
 obtain⟨d,r,rfl,h1,h2⟩:=hasAllW_cons hsh
 obtain rfl:=hasAllW_nil h2
 obtain⟨xs,rfl,h3⟩:=hasW_list h1
 obtain⟨ns,rfl⟩:=items_int h3
 have hlen:ns.length≤n:=by
  unfold OpenLaw.pre at hc
  have h4:(WTm.not (.lt (.lit (.int (n:Int))) (.len (.arg 0)))).holds [] {args:=[.list (ns.map .int)]} =true:=by
   have h4:=(holds_andW hc).1
   rw[hn]at h4
   exact h4
  have h5:=condW_of h4 (w_not (w_lt w_lit (w_len_list (w_arg rfl))))
  rw[ze]at h5
  refine Nat.le_of_not_lt fun q=>?_
  have q':(n:Int)< ((ns.length:Nat):Int):=by omega
  first
   | (rw[decide_eq_true q']at h5;exact absurd h5 (by decide))
   | (simp at h5;omega)
 cases hwl with
 | cons w1 w2 =>
  cases w2
  cases w1 with
  | list ho hall=>exact⟨_,_,ns,rfl,rfl,ho,gG ns _ hall,hlen⟩
theorem nW (l:OpenLaw) (args:List WData):l.row.toRowW.claim.post args (.bool true) args=true:=
 postW_of (r:=l.row.toRowW) (X:=(true == true))
  (show GA [] (.bool true) .bool=true by first | rfl | decide | simp[GA,WShape.arms,WShape.armsAll])
  (show(WTm.eq .res (.lit (.bool true))).value [] {args:=args,res:=some (.bool true),after:=args} =some (.bool (true == true))from w_eq_bool (w_res rfl) w_lit) rfl
theorem attach_call {l:OpenLaw} {n:Nat} {q:zf} {loose:List Str} {XP:(Str→Option yH)→Heap→Prop} {YP:zt→Heap→Prop} {d:DefRec}
  (hn:l.most=some n) (hdf:d.params.defaults=[])
  (call:∀(w:zt) (s₀ s₁:yK) (mg mb:Str→Option yH) (fa:Addr) (o:Obj) (pm cd doc:yH) (a:Addr) (vs:List yH) (ns:List Int),
   Ground q loose [] XP w s₀ mg mb s₁.heap→YP w s₁.heap→
   s₁.heap.get? fa=some o→o.data=.func (docDef d.name d.params d.body d.scope pm cd doc)→s₁.heap.CodeRec cd d.name→mg d.name=some (.ref fa)→
   s₁.heap.get? a=some {cls:=.type "list",data:=.seq vs.toArray}→EC vs ns→ns.length≤n→s₁.gens= #[]→
   codeAny (model l.prog w) callerA (.call (.ref fa) ⟨[.ref a],[]⟩) (fun r s'=>r=.ok (.ret (.bool true))∧OldK s₁.heap s'.heap∧s'.os=s₁.os∧De s'.gens) s₁):
  WalkO q loose XP YP l.row.toRowW d [] (fun f vs=>PySem.call f vs):=by
 intro w s₀ s₁ mg mb G Y fa o pm cd doc dV kV ho hd hcd hD hmg hg args vals as hpre hlay hrd hwl hlo
 obtain rfl:dV=.none:=Dflts.none hD hdf
 obtain rfl:kV=.none:=Dflts.noKw hD
 obtain⟨a,vs,ns,rfl,rfl,hobj,hints,hlen⟩:=nV hn hpre hwl
 refine enter_call (CU (call w s₀ s₁ mg mb fa o pm cd doc a vs ns G Y ho (fd_plain hd) hcd hmg hobj hints hlen hg) fun r s' hq=>?_)
 obtain⟨rfl,h2,h3,h4⟩:=hq
 exact⟨.inl ⟨.bool true,.bool true,[],rfl,fun _=>rfl,.bool true,nW l _,fun _=>⟨BA,fun _ hm=>(nomatch hm)⟩⟩,h2,h3,h4⟩
end Att
namespace L2
open PySem PySem.Spec PyProof.Rows
theorem gm:∀{vs:List yH} {ns:List Int},EC vs ns→Vals (ns.map BM) vs
 | _,_,.nil=>.nil
 | _,_,.cons n t h=>.cons ⟨t,rfl⟩ (gm h)
def uX (H:Hp):Prop:=∀b,H b=none∨∃o xs,H b=some (.frz o (.lst xs))
theorem pD {P:zf} {w:zt} {K:PySem.W.Frag} {mg mb:Str→Option yH} {CX:CXT} {k:Nat} {fa a:Addr} {fd:zu} {x:Str} {sp:Sp} {s₁:yK} {vs:List yH} {ns:List Int}
  (KX:K.In s₁.heap) (hns:s₁.heap.Ns mainGlobals mg) (hb:s₁.heap.Ns builtinsNs mb) (hbb:∀x:Str,x≠"__name__" →mb x=bootBuiltins x) (hlim:s₁.heap.NoLimit) (hg:s₁.gens= #[])
  (ha:s₁.heap.get? a=some {cls:=.type "list",data:=.seq vs.toArray}) (hi:EC vs ns) (hl:ns.length≤sizeLine) (hr:Room k callerA)
  (F:∀base:Heap,K.In base→base.Ns mainGlobals mg→FnOk P w K mg base CX k fa fd [x] sp) (hbind:∀(s:yK) (u:yH),EB s fd ⟨[u],[]⟩ [(x,u)])
  (hsp:∀H:Hp,uX H→SqL K H a (ns.map BM)→sp [.ref a] H (fun v _=>v=.bl true) fun _ _ _=>False)
  (hCX:∀H e s',CX [] H s₁ (fun _ _ _=>False) e s'→False):
  codeAny (model P w) callerA (.call (.ref fa) ⟨[.ref a],[]⟩) (fun r s'=>r=.ok (.ret (.bool true))∧OldK s₁.heap s'.heap∧s'.os=s₁.os∧De s'.gens) s₁:=by
 have rv:=gm hi
 have lenV:=hi.length
 have core:∀H:Hp,uX H→SqL K H a (ns.map BM)→HOk P w H s₁.heap→(∀b,H b≠none→b=a)→(H a≠none→K.lookup a=none)→
   codeAny (model P w) callerA (.call (.ref fa) ⟨[.ref a],[]⟩) (fun r s'=>r=.ok (.ret (.bool true))∧OldK s₁.heap s'.heap∧s'.os=s₁.os∧De s'.gens) s₁:=by
  intro H hO hS hok hA hK
  have base_of:∀{b:Addr} {o:Obj},s₁.heap.get? b=some o→H b=none→(jl s₁.heap H).get? b=some o:=fun e n=>p8 e n
  have noA:∀{b:Addr} {o:Obj} {es:Array C8} {ep:Nat},s₁.heap.get? b=some o→o.data=.dict es ep→H b=none:=fun {b o es ep} e d=>by
   cases q:H b with
   | none=>rfl
   | some u =>
    have e':b=a:=hA b (by rw[q];simp)
    subst e'
    rw[ha]at e;cases e
    have d':Fu vs.toArray _=Data.dict es ep:=d
    cases d'
  have nsK:∀{b:Addr} {m:Str→Option yH},s₁.heap.Ns b m→(jl s₁.heap H).Ns b m:=fun {b m} ⟨o,es,ep,e,d,r⟩=>⟨o,es,ep,base_of e (noA e d),d,r⟩
  have hKb:K.In (jl s₁.heap H):=fun b o e=>base_of (KX b o e) (by
   cases q:H b with
   | none=>rfl
   | some u =>
    have e':b=a:=hA b (by rw[q];simp)
    subst e'
    rw[hK (by rw[q];simp)]at e;cases e)
  have hM:Mod K mg (jl s₁.heap H):=⟨hKb,nsK hns,⟨mb,nsK hb,hbb⟩,let ⟨mc,h1,h2⟩:=hlim;⟨mc,nsK h1,h2⟩⟩
  have e0:Env0 P w K mg (jl s₁.heap H) callerA [] s₁ H:=⟨rfl,hM,fun b o e=>sq e,Nat.le_of_eq (nK _ _),trivial,fun b hb=>absurd (show b∈([]:List Addr)from hb) (by simp),hok,.of_eq hg⟩
  refine CU ((F _ hKb (nsK hns)).run callerA [] s₁ H ⟨[.ref a],[]⟩ [.ref a] [.ref a] _ _ hr e0 (hbind s₁ (.ref a)) (.cons rfl .nil) (hsp H hO hS)) fun r s' h=>?_
  cases r with
  | error e=>exact(hCX H e s' h).elim
  | ok fl =>
   cases fl with
   | next=>exact Bo h
   | brk=>exact Bo h
   | cont=>exact Bo h
   | ret u =>
    obtain⟨v,H',os,bare,un,hok',r',q⟩:=h
    have q':v=.bl true:=q
    subst q'
    obtain rfl:u=Fm true:=r'
    refine⟨rfl,OldK.of_keep fun b o e=>?_,os,bare⟩
    cases q:H b with
    | none=>exact un.keep b o e q (by intro z;exact absurd (show b∈([]:List Addr)from z) (by simp)) (by simp)
    | some u =>
     rcases hO b with z | ⟨ob,xs,z⟩
     ·rw[q]at z;cases z
     ·have z2:=un.frzs b ob _ z
      obtain⟨e1,_⟩:=hok b _ z
      obtain⟨e2,_⟩:=hok' b _ z2
      rw[e]at e1;cases e1
      exact e2
 cases hk:K.lookup a with
 | some o =>
  have e:=KX a o hk
  rw[ha]at e
  cases e
  refine core (fun _=>none) (fun _=>.inl rfl) (.inr ⟨_,vs.toArray,_,hk,rfl,rfl,rfl,by rw[z9,lenV];exact hl,by simpa using rv⟩) (fun b u z=>by have z':(none:Option HO)=some u:=z;cases z') (fun b z=>absurd rfl z) fun z=>absurd rfl z
 | none =>
  refine core (fun b=>if b=a then some (.frz {cls:=.type "list",data:=.seq vs.toArray} (.lst (ns.map BM)))else none) (fun b=>?_) (.inl (.inr ⟨{cls:=.type "list",data:=.seq vs.toArray},if_pos rfl⟩)) (fun b u z=>?_) (fun b z=>?_) fun _=>hk
  ·by_cases hb:b=a
   ·exact .inr ⟨_,_,if_pos hb⟩
   ·exact .inl (if_neg hb)
  ·by_cases hb:b=a
   ·have z':=(if_pos hb).symm.trans z
    cases z'
    subst hb
    exact⟨ha,by rw[ze];exact hl,vs,_,rv,ha⟩
   ·have z':=(if_neg hb).symm.trans z
    cases z'
  ·by_cases hb:b=a
   ·exact hb
   ·exact absurd (if_neg hb) z
theorem walk_of {l:PySem.W.OpenLaw} {n k:Nat} {q:zf} {loose:List Str} {XP:(Str→Option yH)→Heap→Prop} {YP:zt→Heap→Prop} {d:DefRec} {K:Gz→PySem.W.Frag} {CX:zt→CXT} {sp:zt→Sp} {x:Str}
  (hn:l.most=some n) (hn2:n≤sizeLine) (hdf:d.params.defaults=[]) (hr:Room k callerA)
  (hY:∀(w:zt) (h:Heap),YP w h→(K w.params).In h)
  (F:∀(w:zt) (mg:Str→Option yH) (fa:Addr) (h:Heap),(K w.params).In h→h.Ns mainGlobals mg→mg d.name=some (.ref fa)→
   ∃ fd : zu, (∀ (s : yK) (u : yH), EB s fd ⟨[u], []⟩ [(x, u)]) ∧
    ∀base:Heap,(K w.params).In base→base.Ns mainGlobals mg→FnOk l.prog w (K w.params) mg base (CX w) k fa fd [x] (sp w))
  (hsp:∀(w:zt) (H:Hp) (a:Addr) (ns:List Int),ns.length≤n→uX H→SqL (K w.params) H a (ns.map BM)→sp w [.ref a] H (fun v _=>v=.bl true) fun _ _ _=>False)
  (hCX:∀(w:zt) (H:Hp) (s:yK) (e:yH) (s':yK),CX w [] H s (fun _ _ _=>False) e s'→False):
  PySem.W.WalkO q loose XP YP l.row.toRowW d [] (fun f vs=>PySem.call f vs):=by
 refine Att.attach_call hn hdf fun w s₀ s₁ mg mb fa o pm cd doc a vs ns G Y ho hd hcd hmg hobj hints hlen hg=>?_
 have KX:=hY w _ Y
 obtain⟨fd,hb,hF⟩:=F w mg fa _ KX G.T.g hmg
 exact pD KX G.T.g G.T.b G.T.builtins G.T.nolimit hg hobj hints (Aw hlen hn2) hr hF hb (fun H hO hS=>hsp w H a ns hlen hO hS) fun H e s'=>hCX w H s₁ e s'
def defArgs (s:Stmt):Arguments:=match s with
 | .FunctionDef _ a _ _ _ _ _ _ _ _=>a
 | _=>{posonlyargs:=[],args:=[],vararg:=none,kwonlyargs:=[],kw_defaults:=[],kwarg:=none,defaults:=[]}
def defBody (s:Stmt):List Stmt:=match s with
 | .FunctionDef _ _ b _ _ _ _ _ _ _=>b
 | _=>[]
def defScope (s:Stmt):BF:=match s with
 | .FunctionDef _ _ _ _ _ _ sc _ _ _=>sc
 | _=>{kind:=.function,names:=[],isGenerator:=false,isCoroutine:=false}
abbrev CX0:CXT:=fun _ _ _ _ _ _=>False
abbrev E0:XK:=fun _ _ _=>False
theorem wf {X:Cx} :ly CX0 X E0:=fun _ _ _ _ _ _ _ h=>h.elim
structure Fun (K:PySem.W.Frag) (x qual:Str) (st:Stmt) (f:Addr) (fd:zu):Prop where
 ex:∃(oc:yH) (od:Option Addr) (kV doc pm:yH) (an:Option Addr) (cdv ct:yH) (osl:Array (Option yH)),
  fd=PySem.W.fnOf x qual (defArgs st) (defBody st) (defScope st) .none kV doc pm an cdv ct∧K.lookup f=some ⟨oc,od,.func fd,osl⟩∧PySem.W.codeIn K cdv qual=true
 kp:PySem.W.keepIn K (.ref f)=true
section
variable {P:zf} {w:zt} {K:PySem.W.Frag} {mg:Str→Option yH} {base:Heap}
theorem Fun.ok {x qual:Str} {st:Stmt} {f:Addr} {fd:zu} {N ps:List Str} {k:Nat} {sp:Sp} (F:Fun K x qual st f fd) (S:FnScope N ps (defScope st)) (len:∀vs H Q E,sp vs H Q E→vs.length=ps.length)
  (hbody:∀(cdv:yH) (A:zP) (outer:List Env) (s:yK) (H:Hp) (vs:List V) (Q:VK) (E:XK),Room k (A.deeper (envOfC qual (defScope st) s.heap.objs.size f cdv))→sp vs H Q E→
   ∃t,PSs (nQ CX0 P w K mg base N qual (defScope st) f cdv A outer s H E).nox (defBody st) t∧t {nx:=fun _ H'=>Q .non H',rt:=Q} (start N vs) H):FnOk P w K mg base CX0 (k+1) f fd ps sp:=by
 obtain⟨oc,od,kV,doc,pm,an,cdv,ct,osl,rfl,lk,hcd⟩:=F.ex
 refine wd lk hcd S len fun A outer s H vs Q E hr hsp=>?_
 obtain⟨t,h,q⟩:=hbody cdv A outer s H vs Q E hr hsp
 exact⟨t,h.nox,q⟩
theorem Fun.binds {x qual:Str} {st:Stmt} {f:Addr} {fd:zu} {ps:List Str} (F:Fun K x qual st f fd)
  (h:∀(kV doc pm:yH) (an:Option Addr) (cdv ct:yH) (us:List yH),us.length=ps.length→bindArgs (PySem.W.fnOf x qual (defArgs st) (defBody st) (defScope st) .none kV doc pm an cdv ct) ⟨us,[]⟩=pure (ps.zip us)):Binds K fd ps []:=by
 obtain⟨oc,od,kV,doc,pm,an,cdv,ct,osl,rfl,lk,hcd⟩:=F.ex
 exact .all (h kV doc pm an cdv ct)
theorem aW {x qual:Str} {st:Stmt} {f:Addr} {oc:yH} {od an:Option Addr} {osl:Array (Option yH)} {kV doc pm cdv ct:yH} (l:K.lookup f=some ⟨oc,od,.func (PySem.W.fnOf x qual (defArgs st) (defBody st) (defScope st) .none kV doc pm an cdv ct),osl⟩)
  (c:PySem.W.codeIn K cdv qual=true) (k:PySem.W.keepIn K (.ref f)=true):Fun K x qual st f (PySem.W.fnOf x qual (defArgs st) (defBody st) (defScope st) .none kV doc pm an cdv ct):=⟨⟨oc,od,kV,doc,pm,an,cdv,ct,osl,rfl,l,c⟩,k⟩
end
section
variable {X:Cx}
theorem pv (i:Nat) {x:Str} {pos:Pos} (hN:X.N[i]? =some x:=by rfl) (hv:Vis X.env.scope x:=by first | exact yY rfl | exact yX (yY rfl) | exact yX (yX rfl)) (hd:(x == ("__debug__" :Str))=false:=by decide)
  (hcd:(x == ("__classdict__" :Str))=false:=by decide):PE X (.Name x pos) (bt i):=uK hN hv hd hcd
end
def Same (H H':Hp):Prop:=∀b o,H b=some o→H' b=some o
theorem Same.refl (H:Hp):Same H H:=fun _ _ h=>h
theorem Same.trans {H H1 H2:Hp} (a:Same H H1) (b:Same H1 H2):Same H H2:=fun c o h=>b c o (a c o h)
theorem Same.seq {K:PySem.W.Frag} {H H':Hp} {a:Addr} {xs:List V} (e:Same H H') (h:SqL K H a xs):SqL K H' a xs:=by
 rcases h with(h | ⟨o,h⟩) | h
 ·exact .inl (.inl (e _ _ h))
 ·exact .inl (.inr ⟨o,e _ _ h⟩)
 ·exact .inr h
end L2
set_option maxHeartbeats 4000000
namespace L2
open PySem PySem.Spec PyProof.Rows
abbrev ap (l:List Nat):Str:=⟨l.toArray⟩
theorem dG (l:List Nat):(ap l).length=l.length:=by simp[Gv,ap]
theorem mJ (l:List Nat):(ap l).cps.toList=l:=by simp[ap]
theorem lD (a b:List Nat):ap a++ap b=ap (a++b):=by
 apply PySem.Str.ext'
 rw[PySem.Str.cps_append]
 simp[ap]
theorem mK {a b:List Nat} (h:ap a=ap b):a=b:=by
 have:=congrArg (fun x=>x.cps.toList) h
 simpa [ap] using this
theorem pE (x:Str):x=ap x.cps.toList:=by cases x;simp[ap]
def DictK (K:PySem.W.Frag) (w:zt) (a:Addr) (kvs:List (Key×V)):Prop:=
 kvs.length≤1000∧(a == sysModules)=false∧(kvs.map (·.1)).Nodup∧∃(es:Array C8) (ep:Nat),K.lookup a=some {cls:=.type "dict",data:=.dict es ep}∧
  Paired (fun(p:Key×V) (e:C8)=>eR p.1 e.key=true∧e.hash=p7 w p.1∧RelV p.2 e.val) kvs es.toList
theorem kw {P:zf} {w:zt} {kvs:List (Key×V)} {es:List C8} (r:Paired (fun(p:Key×V) (e:C8)=>eR p.1 e.key=true∧e.hash=p7 w p.1∧RelV p.2 e.val) kvs es):
  ∀e∈es,∃k,eR k e.key=true∧e.hash=p7 w k:=by
 induction r with
 | nil=>intro e h;cases h
 | @cons p e ps es h t ih =>
  intro e' h'
  rcases zq.mp h' with rfl | h'
  ·exact⟨p.1,h.1,h.2.1⟩
  ·exact ih e' h'
theorem ju {P:zf} {w:zt} {kvs:List (Key×V)} {es:List C8} (r:Paired (fun(p:Key×V) (e:C8)=>eR p.1 e.key=true∧e.hash=p7 w p.1∧RelV p.2 e.val) kvs es):
  ∃vs,KV kvs vs∧Pairs (mixKind P w) es vs∧vs.map (·.1)=kvs.map (·.1):=by
 induction r with
 | nil=>exact⟨[],.nil,.nil,rfl⟩
 | @cons p e ps es h t ih =>
  obtain⟨vs,h1,h2,h3⟩:=ih
  exact⟨(p.1,e.val)::vs,.cons ⟨rfl,h.2.2⟩ h1,.cons h.1 rfl h2,by simp[h3]⟩
theorem DictK.of {P:zf} {w:zt} {K:PySem.W.Frag} {a:Addr} {kvs:List (Key×V)} {h:Heap} (d:DictK K w a kvs) (x:K.In h):(a == sysModules)=false∧∃vs,KV kvs vs∧h.DictOf (mixKind P w) a vs:=by
 obtain⟨hz,hs,nd,es,ep,lk,r⟩:=d
 obtain⟨vs,h1,h2,h3⟩:=ju (P:=P) r
 refine⟨hs,vs,h1,_,es,ep,x _ _ lk,⟨rfl,rfl,rfl⟩,rfl,fun e he=>kw (P:=P) r e (by simpa using he),h2,by rw[h3];exact nd⟩
section
variable {X:Cx} {o i e:Expr} {pos:Pos} {td ty:TE}
def aN (K:PySem.W.Frag) (w:zt) (td ty:TE):TE:=fun σ H Q=>td σ H fun x H1=>ty σ H1 fun y H2=>∃a kvs k v,x=.ref a∧DictK K w a kvs∧y=kV k∧iP kvs k=some v∧Q v H2
theorem pF (ho:PE X o td) (hi:PE X i ty) (hs:uW i):PE X (.Subscript o i pos) (aN X.K X.w td ty):=by
 intro pins s σ H Q I h
 refine sC PySem.F.slot_dict_getitem.lookup hs (bV (ho pins s σ H _ I h) fun u s1 ⟨x,H1,I1,rx,q1⟩=>bV (hi pins s1 σ H1 _ I1 q1) fun iv s2 ⟨y,H2,I2,ry,a,kvs,k,v,ex,dk,ey,ev,q2⟩=>?_)
 subst ex ey
 obtain rfl:u=A4 a:=rx
 obtain⟨hd,vs,rel,dd⟩:=dk.of (P:=X.prog) I2.kIn
 refine⟨dd.typeIs,?_⟩
 obtain⟨w',hw,rw'⟩:=RelO.some_of (v:=v) (o:=valueAt vs k) (by rw[←ev];exact rel.val k)
 exact wpAny_getItem_of (uv ry) dd.mapOf hw ⟨v,H2,I2.tok _,rw',q2⟩
end
section
variable {X:Cx}
theorem i3:OpR X (compareOp .Is) (fun x y H Q=>∃c,y=.bl c∧Q (.bl (decide (x=.bl c))) H):=by
 intro pins s σ H x y v u Q I rx ry h
 obtain⟨c,rfl,q⟩:=h
 cases ry
 cases x with
 | bl b=>cases rx;exact is_bool (aP I q (by cases b <;> cases c <;> simp))
 | non=>cases rx;exact yJ (aP I q (by simp))
 | int i=>obtain⟨t,rfl⟩:=rx;exact yJ (aP I q (by simp))
 | str i=>obtain⟨t,rfl⟩:=rx;exact yJ (aP I q (by simp))
 | byt i=>obtain⟨t,rfl⟩:=rx;exact yJ (aP I q (by simp))
 | flt i=>obtain⟨t,rfl⟩:=rx;exact yJ (aP I q (by simp))
 | ref a=>cases rx;exact yJ (aP I q (by simp))
 | ty a=>cases rx;exact yJ (aP I q (by simp))
theorem lE:OpR X (binaryOp .Mult) (fun x y H Q=>∃c n,x=.str (ap [c])∧y=.int n∧0≤n∧n≤100000∧Q (.str (ap (AK n.toNat c))) H):=by
 intro pins s σ H x y v u Q I rx ry h
 obtain⟨c,n,rfl,rfl,h0,h1,q⟩:=h
 obtain⟨t,rfl⟩:=rx
 obtain⟨t',rfl⟩:=ry
 have hl:(ap [c]).length=1:=dG [c]
 refine SB.mul ?_ fun t' k=>?_
 ·refine⟨?_,fun _ _=>?_,fun _ _=>?_⟩
  ·have e1:decide (n< -(2^63:Int))=false:=decide_eq_false (by omega)
   have e2:decide (n≥2^63)=false:=decide_eq_false (by omega)
   rw[e1,e2];rfl
  ·rw[hl]
   have h2:1≤n:=by omega
   have:(1:Int)≤(2^63- 1)/ n:=(Int.le_ediv_iff_mul_le (by omega)).mpr (by omega)
   omega
  ·rw[hl]
   unfold Gr
   have:=zN
   simp
   omega
 ·have e:GB (ap [c]) n=ap (AK n.toNat c):=by
   rw[pE (GB (ap [c]) n)]
   show ap ((GB ⟨#[c]⟩ n).cps.toList)=_
   rw[mul_one_list]
  exact⟨.str _,H,I.tok _,⟨t',rfl⟩,by rw[e];exact q⟩
end
section
variable {X:Cx}
def gH (l:List Nat) (lo hi:Option Int):List Nat:=(l.drop (HT.sIx l.length 0 lo)).take (HT.sIx l.length l.length hi- HT.sIx l.length 0 lo)
theorem i4 (lo hi:Option Int) (n:Nat):Av lo hi 1 n=sliceRange ((HT.sIx n 0 lo:Nat):Int) ((HT.sIx n n hi:Nat):Int) 1:=by
 unfold Av
 have e1:(match lo with | none=>(0:Int) | some i=>max 0 (min (if i< 0 then i+(n:Int)else i) n))=((HT.sIx n 0 lo:Nat):Int):=by
  cases lo with
  | none=>simp[HT.sIx]
  | some i=>simp only[HT.sIx];by_cases h:i< 0 <;> simp only[h,if_true,if_false] <;> omega
 have e2:(match hi with | none=>(n:Int) | some i=>max 0 (min (if i< 0 then i+(n:Int)else i) n))=((HT.sIx n n hi:Nat):Int):=by
  cases hi with
  | none=>simp[HT.sIx]
  | some i=>simp only[HT.sIx];by_cases h:i< 0 <;> simp only[h,if_true,if_false] <;> omega
 simp only[show(1:Int)> 0 by decide,if_true]
 rw[←e1,←e2]
 cases lo <;> cases hi <;> rfl
theorem nX (l:List Nat) (lo hi:Option Int):ET (ap l) lo hi=ap (gH l lo hi):=by
 have hn:(ap l).length=l.length:=dG l
 have hk:(Av lo hi 1 l.length).filterMap ((ap l).cps[·]?)=gH l lo hi:=by
  rw[i4,DZ,pick_run]
  simp[gH]
 have hlen:(Av lo hi 1 l.length).length=(gH l lo hi).length:=by
  rw[i4,DZ]
  have h1:=HT.sIx_le l.length 0 (zo _) lo
  have h2:=HT.sIx_le l.length l.length (yP _) hi
  simp[gH]
  omega
 unfold ET
 rw[hn]
 split
 ·rename_i h
  have h:(Av lo hi 1 l.length).length=l.length:=by simpa using h
  have hl:=hlen.symm.trans h
  have e:gH l lo hi=l:=by
   have h3:(gH l lo hi).length≤(l.drop (HT.sIx l.length 0 lo)).length:=by unfold gH;simp;omega
   have h4:HT.sIx l.length 0 lo=0∨l.length=0:=by
    rw[ES]at h3;omega
   rcases h4 with h4 | h4
   ·unfold gH at hl ⊢
    rw[h4]at hl ⊢
    rw[E1]at hl ⊢
    rw[Cu]at hl
    exact Cg (by omega)
   ·have:l=[]:=Bj.mp h4
    subst this
    simp[gH]
  rw[e]
 ·rw[hk]
theorem pG:wP X (fun x lo hi H Q=>∃l,x=.str (ap l)∧l.length≤sizeLine∧Q (.str (ap (gH l lo hi))) H):=by
 intro pins s σ H x v vl vu lo hi sl Q I rx hs pl pu h
 obtain⟨l,rfl,hz,q⟩:=h
 obtain⟨t,rfl⟩:=rx
 obtain⟨a1,rfl,e1⟩:∃a:Option (Int×Tok),vl=partValue a∧a.map (·.1)=lo:=by
  cases pl with
  | none=>exact⟨none,rfl,rfl⟩
  | int i t=>exact⟨some (i,t),rfl,rfl⟩
 obtain⟨a2,rfl,e2⟩:∃a:Option (Int×Tok),vu=partValue a∧a.map (·.1)=hi:=by
  cases pu with
  | none=>exact⟨none,rfl,rfl⟩
  | int i t=>exact⟨some (i,t),rfl,rfl⟩
 have hle:(ET (ap l) lo hi).length≤sizeLine:=Aw (Txt.slice_le _ _ _) (by rw[dG];exact hz)
 refine⟨"str",_,PySem.F.slot_str_getitem.lookup,Ft _ _ _,wpAny_getItem_str_slice (l:=a1) (u:=a2) (st:=none) hs rfl ?_⟩
 subst e1 e2
 refine post_val_or_str ⟨hle,fun t' k=>⟨.str _,H,I.tok _,⟨t',rfl⟩,?_⟩⟩
 have:=nX l (a1.map (·.1)) (a2.map (·.1))
 unfold ET at this
 show Q (.str (if _ then _ else _)) H
 exact this▸q
theorem pH (hc:X.calm=true):uS X "str.index" (fun x xs H Q=>∃a b,x=.str a∧xs=[.str b]∧0≤D0 a b∧Q (.int (D0 a b)) H):=by
 intro pins s σ H x xs v us Q I rx rs h
 obtain⟨a,b,rfl,rfl,h0,q⟩:=h
 obtain⟨t,rfl⟩:=rx
 obtain⟨u,rfl,t',rfl⟩:=dF rs
 refine index_or (I.ok.hd hc) (fun e=>?_) fun _ _=>⟨.int _,H,I.tok _,⟨_,rfl⟩,q⟩
 omega
theorem lF {ys:List (List Nat)} :∀{us:List yH},Vals (ys.map fun y=>CM (ap y)) us→StrsAre us (ys.map ap):=by
 induction ys with
 | nil=>intro us r;cases r;exact .nil
 | cons y ys ih =>
  intro us r
  cases r with
  | cons r1 r2 =>
   obtain⟨t,e⟩:=r1
   subst e
   exact .cons _ t (ih r2)
theorem lG (ys:List (List Nat)):Txt.join (ap []) (ys.map ap)=ap ys.flatten:=by
 have key:∀(r:List (List Nat)) (acc:List Nat),(r.map ap).foldl (fun acc p=>acc++(ap []).cps++p.cps) acc.toArray=(acc++r.flatten).toArray:=by
  intro r
  induction r with
  | nil=>intro acc;simp
  | cons a r ih =>
   intro acc
   rw[zY,DM,List.flatten_cons,←zj,←ih (acc++a)]
   simp[ap]
 cases ys with
 | nil=>rfl
 | cons a r =>
  show Str.mk (((r.map ap)).foldl (fun acc p=>acc++(ap []).cps++p.cps) a.toArray)=_
  rw[key]
  rfl
theorem sD:uS X "str.join" (fun x xs H Q=>∃(p:Addr) (ys:List (List Nat)),x=.str (ap [])∧xs=[.ref p]∧SqL X.K H p (ys.map fun y=>CM (ap y))∧ys.flatten.length≤100000∧Q (.str (ap ys.flatten)) H):=by
 intro pins s σ H x xs v us Q I rx rs h
 obtain⟨p,ys,rfl,rfl,hp,hl,q⟩:=h
 obtain⟨t,rfl⟩:=rx
 obtain⟨u,rfl,r1⟩:=dF rs
 cases r1
 obtain⟨its,r,pl,hz⟩:=I.list hp
 refine join_list pl.isList (by simpa using lF r) ?_ fun t' k=>⟨.str _,H,I.tok _,⟨t',rfl⟩,by rw[lG];exact q⟩
 have e:((ys.map ap).map (·.length)).sum=ys.flatten.length:=by
  rw[Bq,List.length_flatten]
  congr 1
  all_goals exact Eb fun y _=>dG y
 have e2:(ap []).length=0:=dG []
 rw[e,e2]
 omega
theorem kA:cX X (.builtin "isinstance") (fun xs H Q=>∃x T t b,xs=[x,.ty T]∧TyOf X.K H x t∧PySem.W.kitOne X.K t (.type T)=some b∧Q (.bl b) H):=by
 intro pins s σ H xs us Q I r h
 obtain⟨x,T,t,b,rfl,ty,e,q⟩:=h
 obtain⟨u,w',rfl,rx,rT⟩:=ur r
 obtain rfl:w'=.type T:=rT
 exact nP I rx ty e fun tk=>⟨.bl b,H,I.tok _,rfl,q⟩
def xP (l:List Nat):It:=⟨fun i _=>i< l.length,fun i H x H'=>H'=H∧∃c,l[i]? =some c∧x=.str (ap [c]),fun i _=>l.length≤i⟩
def wg (tl:TE):TI:=fun σ H R=>tl σ H fun x H1=>∃l,x=.str (ap l)∧R (xP l) H1
end
theorem pI {P:zf} {w:zt} {K:PySem.W.Frag} {tg:Expr} (l:List Nat) (it:Addr) (ty:String) (t:Tok) (hty:ty="str_ascii_iterator" ∨ty="str_iterator")
  (W:∀A':zP,A'.handled=none→Walks P w A' it [it] [it] l.length (SignAt (ap l)) (fun i h=>h.IsStrIter it ty (ap l) t i)):
  Turn P w K tg (xP l) [it] it (fun i h=>i≤l.length∧h.IsStrIter it ty (ap l) t i) where
 mem:=by simp
 obj:=fun i h st b hb=>by
  have e:b=it:=by simpa using hb
  subst e
  obtain⟨_,o,e,c,d⟩:=st
  exact⟨o,e,fun v z=>by rw[d]at z;cases z⟩
 keep:=fun i h h' st k=>⟨st.1,by obtain⟨o,e,r⟩:=st.2;exact⟨o,k it (by simp) o e,r⟩⟩
 item:=by
  intro X hP hw hK hc i pins s σ H E I hf st hg
  subst hP hw hK
  obtain⟨f0,f1,f2,f3,f4,f5⟩:=hf it (by simp)
  refine(W X.A (I.ok.hd hc)).item i s _ _ hg st.2 fun v h' tk hv st' kk=>?_
  obtain⟨c,u,hc',rfl⟩:=hv
  have I1:Inv X pins σ H {s with heap:=h',toks:=tk} :=I.turned (fun b o hb e=>kk b o (by simpa using hb) e) f0 f1 f3 f4 f5
  obtain⟨o,e,c1,d⟩:=id st'
  refine⟨_,rfl,p9 (s:={s with heap:=h',toks:=tk}) (n:=ty) e c1 d (by rcases hty with rfl | rfl <;> decide) ⟨.str (ap [c]),H,I1,⟨u,rfl⟩,⟨rfl,c,?_,rfl⟩,⟨hg,st'⟩,fun b hb=>(hf b hb).1⟩⟩
  simpa [ap] using hc'
 done:=by
  intro X hP hw hK hc i pins s σ H E I hf st hg
  subst hP hw hK
  obtain⟨f0,f1,f2,f3,f4,f5⟩:=hf it (by simp)
  have e:i=l.length:=Nat.le_antisymm st.1 hg
  subst e
  exact(W X.A (I.ok.hd hc)).done s _ _ st.2 fun h' tk kk=>⟨rfl,I.turned (fun b o hb e=>kk b o (by simpa using hb) e) f0 f1 f3 f4 f5⟩
 self:=fun A i s Q E st h=>by
  rcases hty with rfl | rfl
  ·exact wpAny_pyIter_striter_ascii st.2 h
  ·exact wpAny_pyIter_striter_wide st.2 h
theorem i5 {X:Cx} {tg l:Expr} {tl:TE} (hl:PE X l tl):PI X tg l (wg tl):=by
 intro pins s σ H R I h
 refine bV (hl pins s σ H _ I h) fun v s1 ⟨x,H1,I1,r1,q1⟩=>?_
 obtain⟨y,e,q⟩:=q1
 subst e
 obtain⟨t,rfl⟩:=r1
 have hn:(ap y).cps.size=y.length:=by simp[ap]
 have fin:∀(ob:Obj) (ty:String),(ty="str_ascii_iterator" ∨ty="str_iterator")→(∀A':zP,A'.handled=none→Walks X.prog X.w A' s1.heap.objs.size [s1.heap.objs.size] [s1.heap.objs.size] y.length (SignAt (ap y)) (fun i h=>h.IsStrIter s1.heap.objs.size ty (ap y) t i))→
   (s1.heap.push ob).IsStrIter s1.heap.objs.size ty (ap y) t 0→xA X pins σ tg R (.ref s1.heap.objs.size) {s1 with heap:=s1.heap.push ob} :=fun ob ty hty W st=>by
  refine⟨s1.heap.objs.size,[s1.heap.objs.size],_,_,H1,rfl,I1.kept (t':=s1.toks) fun b o e=>yN _ e,pI y _ ty t hty W,⟨zo _,st⟩,fun b hb=>?_,q⟩
  have e:b=s1.heap.objs.size:=by simpa using hb
  subst e
  exact I1.fpOk (yP _) (I1.hok.fresh (yP _))
 cases ha:(ap y).cps.all (· <128)
 ·exact EG ha (fin _ "str_iterator" (.inr rfl) (fun A' hA=>hn▸Walks.strWide hA _ (ap y) t) ⟨_,z6 _ rfl,rfl,rfl⟩)
 ·exact Ew ha (fin _ "str_ascii_iterator" (.inl rfl) (fun A' hA=>hn▸Walks.strAscii hA _ (ap y) t) ⟨_,z6 _ rfl,rfl,rfl⟩)
def bI (env:Env):List (Str×Bi)→List (Str×Addr)→List (Str×Addr)
 | [],acc=>acc
 | (n,k)::r,acc=>bI env r (if(k == .free)=true then(n,(env.cells.lookup n).getD 0)::acc else acc)
theorem dN {scope:BF} {env:Env} (h:∀x∈scope.names,x.2=.free→∃c,env.cells.lookup x.1=some c):closureFor scope env=pure (bI env scope.names []):=by
 simp only[closureFor]
 have key:∀(names:List (Str×Bi)) (acc:List (Str×Addr)),(∀x∈names,x.2=.free→∃c,env.cells.lookup x.1=some c)→
   (forIn names acc fun(x:Str×Bi) (cs:List (Str×Addr))=>if(x.2 == .free)=true then(do let a ←cellOf env x.1;pure (zy ((x.1,a)::cs)))else pure (zy cs))=(pure (bI env names acc):Sem _):=by
  intro names
  induction names with
  | nil=>intro acc _;rfl
  | cons x r ih =>
   intro acc hx
   obtain⟨n,k⟩:=x
   rw[DN]
   have hr:∀y∈r,y.2=.free→∃c,env.cells.lookup y.1=some c:=fun y hy=>hx y (zh _ hy)
   unfold bI
   by_cases hk:(k == A9)=true
   ·obtain⟨c,hc⟩:=hx (n,k) zk (by simpa using hk)
    have hc:env.cells.lookup n=some c:=hc
    simp only[hk,if_true]
    unfold cellOf
    simp only[hc,Cv]
    exact ih _ hr
   ·simp only[hk,if_false]
    exact ih _ hr
 have:=key scope.names [] h
 rw[this]
 rfl
theorem eS {env:Env} {x:Str} {c:Addr} :∀(names:List (Str×Bi)) (acc:List (Str×Addr)),(∀y∈names,y.2=.free→∃c,env.cells.lookup y.1=some c)→(bI env names acc).lookup x=some c→
  ((x,A9)∈names∧env.cells.lookup x=some c)∨acc.lookup x=some c
 | [],_,_,h=>.inr h
 | (n, k) :: r, acc, hx, h => by
  unfold bI at h
  rcases eS r _ (fun y hy=>hx y (zh _ hy)) h with⟨q1,q2⟩ | q
  ·exact .inl ⟨zh _ q1,q2⟩
  ·by_cases hk:(k == A9)=true
   ·rw[if_pos hk]at q
    have hk':k=.free:=by simpa using hk
    subst hk'
    rw[Aq]at q
    cases hb:x == n with
    | true =>
     rw[hb]at q
     have e:x=n:=beq_iff_eq.mp hb
     subst e
     obtain⟨c',hc⟩:=hx (x,.free) zk rfl
     have hc:env.cells.lookup x=some c':=hc
     rw[hc]at q
     simp at q
     subst q
     exact .inl ⟨zk,hc⟩
    | false=>rw[hb]at q;exact .inr q
   ·rw[if_neg hk]at q;exact .inr q
theorem gz {env:Env} {x:Str} {c:Addr} :∀(names:List (Str×Bi)) (acc:List (Str×Addr)),acc.lookup x=some c→env.cells.lookup x=some c→(bI env names acc).lookup x=some c
 | [],_,h,_=>h
 | (n, k) :: r, acc, h, he => by
  unfold bI
  refine gz r _ ?_ he
  by_cases hk:(k == A9)=true
  ·rw[if_pos hk,Aq]
   cases hb:x == n with
   | true =>
    have e:x=n:=beq_iff_eq.mp hb
    subst e
    simp[he]
   | false=>exact h
  ·rw[if_neg hk];exact h
theorem gA {env:Env} {x:Str} {c:Addr} :∀(names:List (Str×Bi)) (acc:List (Str×Addr)),(x,A9)∈names→env.cells.lookup x=some c→(bI env names acc).lookup x=some c
 | (n, k) :: r, acc, h, he => by
  unfold bI
  rcases zq.mp h with e | h
  ·cases e
   exact gz r _ (by simp[he]) he
  ·exact gA r _ h he
theorem cf:∀(names:List (Str×Bi)) (n:Nat) (acc:List (Str×Addr)),cellsFrom n names acc=cellsFrom n names []++acc
 | [],_,_=>rfl
 | (x, k) :: r, n, acc => by
  unfold cellsFrom
  split
  ·rw[cf r _ ((x,n)::acc),cf r _ [(x,n)],zj];rfl
  ·exact cf r n acc
theorem dc:∀(names:List (Str×Bi)) (n:Nat) {x:Str} {c:Addr},(x,c)∈cellsFrom n names []→(x,Ef)∈names
 | [],_,_,_,h=>by cases h
 | (y, k) :: r, n, x, c, h => by
  unfold cellsFrom at h
  split at h
  ·rename_i hk
   rw[cf]at h
   rcases zE.mp h with h | h
   ·exact zh _ (dc r _ h)
   ·have e:(x,c)=(y,n):=by simpa using h
    cases e
    have hk':k=.cell:=by simpa using hk
    subst hk'
    exact zk
  ·exact zh _ (dc r _ h)
theorem i6 {M:DJ} {A:zP} {E:yH→yK→Prop} {s:yK} {scope:BF} {env:Env} {cl:List (Str×Addr)} {Q:Env→yK→Prop}
  (hQ:Q (newEnv scope s.heap.objs.size env.globals (cellsFrom (s.heap.objs.size+1) scope.names cl) env.qual none .none (some env) builtinsNs) {s with heap:=pushCells (s.heap.push {cls:=.type "dict",data:=.dict #[]}) scope.names}):
  wpAny M A (newFunctionEnv scope env.globals cl [] env.qual none .none (some env)) Q E s:=by
 simp only[newFunctionEnv,Eu,if_true]
 refine yF (wpAny_alloc ?_)
 refine yF (wpAny_layCells _ (fun name kind cells=>by cases hkc:kind == Ef <;> simp[hkc]) _ _ _ _ ?_)
 rw[show({s with heap:=s.heap.push {cls:=.type "dict",data:=.dict #[]}} :yK).heap.objs.size=s.heap.objs.size+1 from AL ..]
 simp only[E2]
 exact yF (yJ (yJ hQ))
section
variable {prog:zf} {w:zt} {A:zP} {R:Fp→yK→Prop} {s:yK}
theorem jv {elt target iter:Expr} {ifs:List Expr} {scope:BF} {pos:Pos} {it acc:yH} {env:Env} (I:Nat→yK→Prop)
  (turn:∀n s,I n s→wpAny (model prog w) A (pyNext it) (fun r s₁=>match r with
   | none=>R (.ok .next) s₁
   | some v=>wpAny (model prog w) A (letOwnedTupleGo target it v) (fun _ s₁'=>wpAny (model prog w) A (assign target env v) (fun _ s₂=>
     wpAny (model prog w) A (forIn ifs true fun c r=>if r=true then do let ok ←isTrue c env (eval c env);pure (zy ok)else pure (zy r)) (fun ok s₃=>
      if ok=true then wpAny (model prog w) A (eval elt env) (fun x s₄=>
       wpAny (model prog w) A (call (.builtin "list.append") [acc,x]) (fun _ s₅=>∃m,m< n∧I m s₅) (fun _ _=>False) s₄) (fun _ _=>False) s₃
      else ∃m,m< n∧I m s₃) (fun _ _=>False) s₂) (fun _ _=>False) s₁') (fun _ _=>False) s₁) (fun _ _=>False) s)
  (n:Nat) (h:I n s):codeAny (model prog w) A (.compLoop (.ListComp elt [⟨target,iter,ifs,0⟩] scope pos) 0 it acc env) R s:=by
 refine codeAny_loop rfl I (fun n s hI=>?_) n h
 show wpAny _ A ((compTurn (.ListComp elt [⟨target,iter,ifs,0⟩] scope pos) 0 it acc env).onRaise (fun x=>do noteFrame x env;theTreesLotGoes x)) _ _ s
 refine wpAny_noted ?_
 rw[compTurn_list]
 refine yF (Bc (yF (zX (turn n s hI) (fun r s₁ h₁=>?_) fun _ _ h'=>h'.elim)))
 cases r with
 | none=>exact yJ h₁
 | some v =>
  refine yF (zX h₁ (fun _ s₁' h₁'=>?_) fun _ _ h'=>h'.elim)
  refine yF (zX h₁' (fun _ s₂ h₂=>yF (zX h₂ (fun ok s₃ h₃=>?_) fun _ _ h'=>h'.elim)) fun _ _ h'=>h'.elim)
  cases ok with
  | true =>
   rw[if_pos rfl]at h₃
   exact yF (yF (zX h₃ (fun x s₄ h₄=>yF (zX h₄ (fun _ s₅ h₅=>yJ (yJ ⟨rfl,h₅⟩)) fun _ _ h'=>h'.elim)) fun _ _ h'=>h'.elim))
  | false =>
   rw[if_neg z8]at h₃
   exact yJ ⟨rfl,h₃⟩
end
def pJ (scope:BF) (x:Str):Bool:=scope.names.lookup x == some .local || scope.names.lookup x == some .cell
def aD (X:Cx) (scope:BF) (N:List Str) (s:yK) (H:Hp) (C:Addr) (fp:List Addr):Cx:=
 {X with N:=N,s₀:=s,H₀:=H,env:=compEnvC scope (cellsFrom (C+1) scope.names (bI X.env scope.names [])) C X.env,outer:=X.stack,ex:=fp,fn:=pJ scope,pn:=[],xe:=fun _ _=>False}
def bB (cap:List (Option Nat)) (σ:St):St:=cap.map fun o=>o.bind fun j=>(σ[j]?).bind id
structure CompScope (X:Cx) (scope:BF) (N:List Str) (cap:List (Option Nat)):Prop where
 kind:scope.kind=.function
 nd:N.Nodup
 len:cap.length=N.length
 uniq:(scope.names.map (·.1)).Nodup
 free:∀x∈scope.names,x.2=.free→(X.env.kindOf x.1=some .cell∨X.env.kindOf x.1=some .free)
 cap:∀(k:Nat) (x:Str) (j:Nat),N[k]? =some x→cap[k]? =some (some j)→X.N[j]? =some x∧(x,A9)∈scope.names
theorem cy {α:Type} :∀{l:List (Str×α)} {x:Str} {k:α},(l.map (·.1)).Nodup→(x,k)∈l→l.lookup x=some k
 | (y, j) :: r, x, k, nd, h => by
  obtain⟨n1,n2⟩:=AB.mp (show(y::r.map (·.1)).Nodup from nd)
  rw[Aq]
  rcases zq.mp h with e | h
  ·cases e;simp
  ·have:(x == y)=false:=beq_eq_false_iff_ne.mpr fun e=>n1 (e▸zD.mpr ⟨(x,k),h,rfl⟩)
   rw[this]
   exact cy n2 h
theorem dw {env:Env} :∀{names:List (Str×Bi)} {x:Str},(names.map fun(p:Str×Bi)=>if(p.2 == A9 && env.scope.kind == .function && env.kindOf p.1 == some .cell)=true then(p.1,Ef)else(p.1,p.2)).lookup x=
  (names.lookup x).map fun k=>if(k == A9 && env.scope.kind == .function && env.kindOf x == some .cell)=true then .cell else k
 | [],_=>rfl
 | (n, k) :: r, x => by
  rw[zY]
  have ih:= @dw env r x
  by_cases hx:x=n
  ·subst hx
   by_cases hc:(k == A9 && env.scope.kind == .function && env.kindOf x == some .cell)=true
   ·simp only[hc,if_true,Aq,beq_self_eq_true,Bv]
   ·rw[if_neg hc,Aq,Aq,beq_self_eq_true];simp only[Bv];rw[if_neg hc]
  ·have hb:(x == n)=false:=beq_eq_false_iff_ne.mpr hx
   by_cases hc:(k == A9 && env.scope.kind == .function && env.kindOf n == some .cell)=true
   ·simp only[hc,if_true,Aq,hb];exact ih
   ·rw[if_neg hc,Aq,Aq,hb];exact ih
def pK (X:Cx) (ifs:List Expr) (t:TT):Prop:=
 ∀ (pins : List (Addr × Obj)) (s : yK) (σ : St) (H : Hp) (Q : Bool → Hp → Prop), Inv X pins σ H s → t σ H Q →
  wpAny (model X.prog X.w) X.A (forIn ifs true fun c r=>if r=true then do let ok ←isTrue c X.env (eval c X.env);pure (zy ok)else pure (zy r)) (TP X pins σ Q) X.xe s
def uY:TT:=fun _ H Q=>Q true H
theorem di {X:Cx} :pK X [] uY:=fun _ _ _ H _ I h=>wpAny_tests_nil ⟨H,I,h⟩
theorem sE {X:Cx} {c:Expr} {t:TT} (h:PT X c t):pK X [c] t:=fun pins s σ H Q I hq=>wpAny_tests_one (h pins s σ H Q I hq)
def Keep:St→St→Prop
 | [],_=>True
 | none::a,_::b=>Keep a b
 | some v::a,some u::b=>v=u∧Keep a b
 | _,_=>False
theorem Keep.get:∀{a b:St} {j:Nat} {v:V},Keep a b→a[j]? =some (some v)→b[j]? =some (some v)
 | [],_,_,_,_,h=>by simp at h
 | none::a,_::b,0,_,_,h=>by simp at h
 | none::a,_::b,j+1,v,k,h=>Keep.get (j:=j) (a:=a) (b:=b) k h
 | some w :: a, some u :: b, 0, v, k, h => by
  have e:w=u:=k.1
  subst e
  exact h
 | some w::a,some u::b,j+1,v,k,h=>Keep.get (j:=j) (a:=a) (b:=b) k.2 h
 | none::_,[],_,_,k,_=>k.elim
 | some _::_,[],_,_,k,_=>k.elim
 | some _::_,none::_,_,_,k,_=>k.elim
def wj (cap:List (Option Nat)) (g:TG) (tf:TT) (te:TE) (σ:St) (H1:Hp) (Q:VK) (J:It):Prop:=∃W:Nat→Nat→List V→Hp→Prop,(∃m,W 0 m [] H1)∧∀i m ys H,W i m ys H→ys.length< sizeLine∧
  ((J.stop i H∧∀D,H D=none→Q (.ref D) (cA H D (.lst ys)))∨
   (J.go i H∧∃N:List V→Hp→Prop,(∀ys' H',N ys' H'→∃m',m'< m∧W (i+1) m' ys' H')∧∀x H',J.yld i H x H'→g x (bB cap σ) H' fun σ2 H2=>Keep (bB cap σ) σ2∧tf σ2 H2 fun b H3=>if b=true then te σ2 H3 fun y H4=>N (ys++ [y]) H4 else N ys H3))
def mL (cap:List (Option Nat)) (wi:TI) (g:TG) (tf:TT) (te:TE):TE:=fun σ H Q=>wi σ H fun J H1=>wj cap g tf te σ H1 Q J
theorem cG {X:Cx} {scope:BF} {C:Addr} {x:Str} {c:Addr} (frc:∀x∈scope.names,x.2=.free→∃c,X.env.cells.lookup x.1=some c)
  (h:(cellsFrom (C+1) scope.names (bI X.env scope.names [])).lookup x=some c):(x,c)∈cellsFrom (C+1) scope.names []∨((x,A9)∈scope.names∧X.env.cells.lookup x=some c):=by
 rw[cf,Ex]at h
 cases e:(cellsFrom (C+1) scope.names []).lookup x with
 | some d =>
  rw[e]at h
  have h:some d=some c:=h
  cases h
  exact .inl (PySem.mem_of_lookup e)
 | none =>
  rw[e]at h
  have h:(bI X.env scope.names []).lookup x=some c:=h
  rcases eS _ _ frc h with q | q
  ·exact .inr q
  ·cases q
theorem kB {X:Cx} {scope:BF} {C:Addr} {x:Str} {c:Addr} (uq:(scope.names.map (·.1)).Nodup) (hx:(x,A9)∈scope.names) (hc:X.env.cells.lookup x=some c):
  (cellsFrom (C+1) scope.names (bI X.env scope.names [])).lookup x=some c:=by
 rw[cf,Ex]
 cases e:(cellsFrom (C+1) scope.names []).lookup x with
 | some d =>
  have h1:=cy uq (dc _ _ (PySem.mem_of_lookup e))
  have h2:=cy uq hx
  rw[h1]at h2;cases h2
 | none=>exact gA _ _ hx hc
section
variable {X:Cx} {scope:BF} {N:List Str} {cap:List (Option Nat)} {pins:List (Addr×Obj)} {σ:St} {H:Hp} {s:yK} {C:Addr} {fp:List Addr}
theorem nY {h4:Heap} (S:CompScope X scope N cap) (I:Inv X pins σ H s) (hC:s.heap.objs.size≤C) (ck:G3 h4 (C+1) (cellsFrom (C+1) scope.names []))
  (hf:∀b∈fp,FpOk X pins H b) (hlt:∀b∈fp,b< C):(aD X scope N s H C fp).Ok:=by
 have frc:∀x∈scope.names,x.2=.free→∃c,X.env.cells.lookup x.1=some c:=fun x hx hk=>I.ok.has x.1 (S.free x hx hk)
 have old:∀x c,X.env.cells.lookup x=some c→c< C:=fun x c e=>by
  obtain⟨v,q⟩:=I.cell x c e
  exact z7 q.lt hC
 have own:∀x c,(x,c)∈cellsFrom (C+1) scope.names []→C< c:=fun x c e=>(ck.empty x c e).2
 refine⟨I.ok.mod,S.kind,I.ok.glob,I.ok.blt,hC,fun x y c h1 h2=>?_,fun x hx=>?_,fun x c hfn h=>?_,I.ok.hd,I.ok.frames,.inl rfl,fun b hb=>⟨zg (hlt b hb),fun x c h=>?_⟩,I.bs,Aw I.ok.bsz I.sz,fun b o e hb=>?_,fun b hb z=>?_,I.stack,I.stkFree⟩
 ·rcases cG frc h1 with a | ⟨a1,a2⟩ <;> rcases cG frc h2 with b | ⟨b1,b2⟩
  ·exact name_of_addr ck.apart a b
  ·exact absurd (DE (own x c a) (old y c b2)) (Ah _)
  ·exact absurd (DE (own y c b) (old x c a2)) (Ah _)
  ·exact I.ok.inj x y c a2 b2
 ·have hx:(relabel scope X.env).names.lookup x=some .cell∨(relabel scope X.env).names.lookup x=some .free:=hx
  have e:(relabel scope X.env).names.lookup x=_:=dw (env:=X.env) (names:=scope.names) (x:=x)
  rw[e]at hx
  cases q:scope.names.lookup x with
  | none=>rw[q]at hx;rcases hx with z | z <;> cases z
  | some k =>
   have hm:=PySem.mem_of_lookup q
   by_cases hk:k=.free
   ·subst hk
    obtain⟨c,hc⟩:=frc _ hm rfl
    exact⟨c,kB S.uniq hm hc⟩
   ·have hk':(k == A9)=false:=by simpa using hk
    rw[q]at hx
    simp only[Bv,hk',Fo,zz,if_false]at hx
    have hkc:k=.cell:=by
     rcases hx with z | z
     ·exact zR z
     ·exact absurd (zR z) hk
    subst hkc
    exact Dl.mp (PySem.W.cellsFrom_some scope.names (C+1) _ (.inl q))
 ·rcases cG frc h with a | ⟨a1,a2⟩
  ·exact Aw hC (BN (own x c a))
  ·have q:=cy S.uniq a1
   have z:pJ scope x=true:=hfn
   unfold pJ at z
   rw[q]at z
   exact absurd z (by decide)
 ·rcases cG frc h with a | ⟨a1,a2⟩
  ·exact Cc (DE (hlt b hb) (own x c a))
  ·exact(hf b hb).2.2.2.2.1 x c a2
 ·rcases (hf b hb).2.2.2.1 with z | z
  ·exact I.ok.noex b o e z
  ·exact absurd (z7 (z7 (yW e) I.ok.bsz) z) (Ah _)
 ·rcases zq.mp (I.stkSub b z)with q | q
  ·exact(hf b hb).2.1 q
  ·exact(hf b hb).2.2.1 q
theorem i7 {s4:yK} (S:CompScope X scope N cap) (I:Inv X pins σ H s) (hC:s.heap.objs.size≤C) (ck:G3 s4.heap (C+1) (cellsFrom (C+1) scope.names []))
  (hf:∀b∈fp,FpOk X pins H b) (hlt:∀b∈fp,b< C) (h4:∃h' tk,s4={s with heap:=h',toks:=tk}) (hn:s4.heap.Ns C fun _=>none) (hk:∀b o,s.heap.get? b=some o→s4.heap.get? b=some o):
  Inv (aD X scope N s H C fp) [] (bB cap σ) H s4:=by
 have frc:∀x∈scope.names,x.2=.free→∃c,X.env.cells.lookup x.1=some c:=fun x hx hk=>I.ok.has x.1 (S.free x hx hk)
 obtain⟨h',tk,rfl⟩:=h4
 refine⟨nY S I hC ck hf hlt,rfl,I.bare,Un.kept hk,⟨_,hn,fun i x v e1 e2 e3=>?_⟩,fun x c h=>?_,I.hok.fresh hC,fun x c h=>?_,fun p hp=>absurd (show p∈([]:List (Addr×Obj))from hp) (by simp),I.hok.kept hk,?_⟩
 ·have e1:N[i]? =some x:=e1
  unfold bB at e2
  rw[yT]at e2
  cases q:cap[i]? with
  | none=>rw[q]at e2;cases e2
  | some o =>
   cases o with
   | none=>rw[q]at e2;cases e2
   | some j =>
    rw[q]at e2
    obtain⟨hj,hm⟩:=S.cap i x j e1 q
    have e2:σ[j]?.bind id=some v:=zR e2
    have e2':σ[j]? =some (some v):=by
     cases z:σ[j]? with
     | none=>rw[z]at e2;cases e2
     | some o=>rw[z]at e2;exact congrArg some e2
    have kd:=S.free _ hm rfl
    obtain⟨m,_,hl⟩:=I.loc
    obtain⟨u,r,lk⟩:=hl j x v hj e2' (by rcases kd with z | z;exact .inr (.inl z);exact .inr (.inr z))
    refine⟨u,r,.inr ?_⟩
    rcases lk with⟨z,_⟩ | ⟨_,c,hc,hcell⟩
    ·rcases kd with q | q <;> · rw[show X.env.kindOf x=_ from q]at z;cases z
    ·refine⟨?_,c,kB S.uniq hm hc,hcell.keeps hk⟩
     have e:(relabel scope X.env).names.lookup x=_:=dw (env:=X.env) (names:=scope.names) (x:=x)
     rw[cy S.uniq hm]at e
     simp only[Bv]at e
     show(relabel scope X.env).names.lookup x=some .cell∨(relabel scope X.env).names.lookup x=some .free
     rw[e]
     split
     ·exact .inl rfl
     ·exact .inr rfl
 ·rcases cG frc h with a | ⟨a1,a2⟩
  ·exact⟨_,(ck.empty x c a).1⟩
  ·obtain⟨v,q⟩:=I.cell x c a2
   exact⟨v,q.keeps hk⟩
 ·rcases cG frc h with a | ⟨a1,a2⟩
  ·exact I.hok.fresh (Aw hC (BN (ck.empty x c a).2))
  ·exact I.freeC x c a2
 ·show(bB cap σ).length=N.length
  unfold bB
  rw[ze,S.len]
end
abbrev fC (its:List yH) (k:Nat):Obj:={cls:=.type "list",data:=.seq its.toArray k}
section
variable {X:Cx} {scope:BF} {N:List Str} {cap:List (Option Nat)} {tg iter elt:Expr} {ifs:List Expr} {pos:Pos} {wi:TI} {g:TG} {tf:TT} {te:TE}
theorem j7 (S:CompScope X scope N cap) (hc:X.calm=true)
  (hg:∀s H C fp,PG (aD X scope N s H C fp) tg g) (hf:∀s H C fp,pK (aD X scope N s H C fp) ifs tf) (he:∀s H C fp,PE (aD X scope N s H C fp) elt te)
  {pins:List (Addr×Obj)} {σ:St} {H2:Hp} {s2:yK} {it:Addr} {fp:List Addr} {tn:Nat→Heap→Prop} {J:It} {Qv:VK} {E:yH→yK→Prop} {RR:yH→Addr→Fp→yK→Prop}
  (I2:Inv X pins σ H2 s2) (T:Turn X.prog X.w X.K tg J fp it tn) (st2:tn 0 s2.heap) (f2:∀b∈fp,FpOk X pins H2 b) {W:Nat→Nat→List V→Hp→Prop} (w0:∃m,W 0 m [] H2)
  (turn:∀i m ys H,W i m ys H→ys.length< sizeLine∧((J.stop i H∧∀D,H D=none→Qv (.ref D) (cA H D (.lst ys)))∨
   (J.go i H∧∃N:List V→Hp→Prop,(∀ys' H',N ys' H'→∃m',m'< m∧W (i+1) m' ys' H')∧∀x H',J.yld i H x H'→g x (bB cap σ) H' fun σ2 H2=>Keep (bB cap σ) σ2∧tf σ2 H2 fun b H3=>if b=true then te σ2 H3 fun y H4=>N (ys++ [y]) H4 else N ys H3)))
  (fin:∀(D C:Addr) (σ':St) (H':Hp) (s':yK) (its:List yH) (k:Nat) (ys:List V),s2.heap.objs.size≤D→s2.heap.objs.size≤C→D≠C→Inv (aD X scope N s2 H2 C fp) [(D,fC its k)] σ' H' s'→Vals ys its→ys.length≤sizeLine→
   Qv (.ref D) (cA H' D (.lst ys))→RR (.ref D) C (.ok .next) s'):
  wpAny (model X.prog X.w) X.A (newList []) (fun acc s₃=>wpAny (model X.prog X.w) X.A (newFunctionEnv scope X.env.globals (bI X.env scope.names []) [] X.env.qual none .none (some X.env)) (fun cenv s₄=>
   codeAny (model X.prog X.w) X.A (.compStart (.ListComp elt [⟨tg,iter,ifs,0⟩] scope pos) 0 (.ref it) acc {cenv with scope:=relabel scope X.env}) (RR acc cenv.locals) s₄) E s₃) E s2:=by
 refine Ac (i6 ?_)
 generalize hD:s2.heap.objs.size=D
 generalize hH3:s2.heap.push {cls:=.type "list",dict:=none,data:=.seq ([]:List yH).toArray} =h3
 have hz3:h3.objs.size=D+1:=by rw[←hH3,AL,hD]
 dsimp only
 have eC:({s2 with heap:=h3} :yK).heap.objs.size=D+1:=hz3
 rw[show h3.objs.size=D+1 from hz3]
 generalize hH4:pushCells (h3.push {cls:=.type "dict",data:=.dict #[]}) scope.names=h4
 have hz3':(h3.push {cls:=.type "dict",data:=.dict #[]}).objs.size=D+1+1:=by rw[AL,hz3]
 have ck:G3 h4 (D+1+1) (cellsFrom (D+1+1) scope.names []):=by
  have:=cellsFrom_ok scope.names (h3.push {cls:=.type "dict",data:=.dict #[]}) (D+1+1) [] ⟨fun _ _ hm=>(nomatch hm),BA⟩ (by rw[hz3'];exact yP _)
  rw[hz3',hH4]at this
  exact this
 have k23:∀b o,s2.heap.get? b=some o→h3.get? b=some o:=fun b o e=>by rw[←hH3];exact yN _ e
 have k34:∀b o,h3.get? b=some o→h4.get? b=some o:=fun b o e=>by rw[←hH4];exact CN _ _ b o (yN _ e)
 have hD4:h4.get? D=some (fC [] 0):=k34 _ _ (by rw[←hH3,←hD];exact z6 _ rfl)
 have hn4:h4.Ns (D+1) fun _=>none:=by
  rw[←hH4,←hz3]
  exact(Gg h3 (.type "dict")).keeps (CN _ _)
 have fpD:∀b∈fp,b< D:=fun b hb=>by
  obtain⟨o,e,_⟩:=T.obj _ _ st2 b hb
  rw[←hD];exact yW e
 have hlt:∀b∈fp,b< D+1:=fun b hb=>Ci (fpD b hb)
 have hDC:s2.heap.objs.size≤D+1:=by rw[hD];exact E3 _
 have hDs:s2.heap.objs.size≤D:=by rw[hD];exact yP _
 have IC:Inv (aD X scope N s2 H2 (D+1) fp) [] (bB cap σ) H2 {s2 with heap:=h4} :=
  i7 S I2 hDC ck f2 hlt ⟨_,_,rfl⟩ hn4 fun b o e=>k34 b o (k23 b o e)
 have okC:=IC.ok
 have nfs:∀{b:Addr},s2.heap.objs.size≤b→b∉frs X.stack:=fun {b} hb hm=>by
  obtain⟨_,o,ho,_⟩:=I2.stack.mem hm
  exact absurd (z7 (yW ho) hb) (Ah _)
 have frc:∀x∈scope.names,x.2=.free→∃c,X.env.cells.lookup x.1=some c:=fun x hx hk=>I2.ok.has x.1 (S.free x hx hk)
 have cellsD:∀x c,(aD X scope N s2 H2 (D+1) fp).env.cells.lookup x=some c→c≠D:=fun x c e=>by
  rcases cG frc e with a | ⟨_,a⟩
  ·have q:D+1+1≤c:=(ck.empty x c a).2
   exact Cc (z7 (z7 (Cw D) (E3 _)) q)
  ·obtain⟨v,q⟩:=I2.cell x c a
   have:=q.lt
   rw[hD]at this
   exact zg this
 have fpO:∀{H':Hp} {its:List yH} {k:Nat},(∀b∈fp,H' b=none)→∀b∈fp,FpOk (aD X scope N s2 H2 (D+1) fp) [(D,fC its k)] H' b:=fun {H' its k} hn b hb=>
  ⟨hn b hb,zg (hlt b hb),okC.exfs b hb,.inl hb,(okC.exf b hb).2,fun p hp=>by
   have e:p=(D,fC its k):=by simpa [aD] using hp
   subst e
   exact Cc (fpD b hb)⟩
 have pinD:∀{σ':St} {H':Hp} {s':yK} {its:List yH} {k:Nat},Inv (aD X scope N s2 H2 (D+1) fp) [] σ' H' s'→s'.heap.get? D=some (fC its k)→H' D=none→Inv (aD X scope N s2 H2 (D+1) fp) [(D,fC its k)] σ' H' s':=fun {σ' H' s' its k} J e n=>
  J.pins_of fun p hp=>by
   have e':p=(D,fC its k):=by simpa using hp
   subst e'
   exact⟨e,n,zg (Cw _),nfs hDs,fun v z=>by
    have z':Fu its.toArray k=Ea v:=z
    cases z'⟩
 have loop:codeAny (model X.prog X.w) X.A (.compLoop (.ListComp elt [⟨tg,iter,ifs,0⟩] scope pos) 0 (.ref it) (.ref D) (aD X scope N s2 H2 (D+1) fp).env) (RR (.ref D) (D+1)) {s2 with heap:=h4} :=by
  obtain⟨m0,w0⟩:=w0
  refine jv (fun n s'=>∃i ys its k σ' H',Inv (aD X scope N s2 H2 (D+1) fp) [(D,fC its k)] σ' H' s'∧tn i s'.heap∧(∀b∈fp,H' b=none)∧Vals ys its∧(∀(j:Nat) (v:V),(bB cap σ)[j]? =some (some v)→σ'[j]? =some (some v))∧W i n ys H') ?_ m0
   ⟨0,[],[],0,bB cap σ,H2,pinD IC hD4 (I2.hok.fresh hDs),T.keep _ _ _ st2 fun b hb o e=>k34 b o (k23 b o e),fun b hb=>(f2 b hb).1,.nil,fun _ _ e=>e,w0⟩
  rintro n s3 ⟨i,ys,its,k,σ3,H3,I3,st3,fr3,rv,kp,w3⟩
  obtain⟨hyl,tr⟩:=turn i n ys H3 w3
  have pin3:=I3.pin (D,fC its k) (zw _ zk)
  rcases tr with⟨stop,qn⟩ | ⟨go,NN,hNN,step⟩
  ·refine bV (T.done (aD X scope N s2 H2 (D+1) fp) rfl rfl rfl hc i _ s3 σ3 H3 _ I3 (fpO fr3) st3 stop) fun r s4 ⟨hr,I4⟩=>?_
   subst hr
   exact fin D (D+1) σ3 H3 s4 its k ys hDs hDC (zg (Cw _)) I4 rv (BN hyl) (qn D pin3.2.1)
  ·have I3':Inv (aD X scope N s2 H2 (D+1) fp) [(D,fC its k)] (bB cap σ) H3 s3:=I3.weak (by rw[I3.len,IC.len]) kp
   refine bV (T.item (aD X scope N s2 H2 (D+1) fp) rfl rfl rfl hc i _ s3 _ H3 _ I3' (fpO fr3) st3 go) fun r s4 ⟨u,hr,h4⟩=>?_
   subst hr
   refine bV h4 fun _ s5 ⟨x,H5,I5,r5,y5,st5,fr5⟩=>?_
   have I5':=I5.pinned (fpO fr5) (T.obj _ _ st5)
   refine bV (hg _ _ _ _ _ s5 _ H5 x u _ I5' r5 (step x H5 y5)) fun _ s6 ⟨σ6,H6,I6,kp6,q6⟩=>?_
   refine bV (hf _ _ _ _ _ s6 σ6 H6 _ I6 q6) fun ok s7 ⟨H7,I7,q7⟩=>?_
   have back:∀{s8:yK} {H8:Hp},Inv (aD X scope N s2 H2 (D+1) fp) ([(D,fC its k)]++gk fp s5.heap) σ6 H8 s8→tn (i+1) s8.heap∧(∀b∈fp,H8 b=none)∧s8.heap.get? D=some (fC its k)∧H8 D=none:=fun {s8 H8} I8=>by
    have at_:∀b∈fp,∀o,s5.heap.get? b=some o→s8.heap.get? b=some o∧H8 b=none:=fun b hb o e=>by
     have z:=I8.pin (b,o) (zw _ (zw _ (dv hb e)))
     exact⟨z.1,z.2.1⟩
    have pd:=I8.pin (D,fC its k) (zw _ (CD _ zk))
    refine⟨T.keep _ _ _ st5 fun b hb o e=>(at_ b hb o e).1,fun b hb=>?_,pd.1,pd.2.1⟩
    obtain⟨o,e,d⟩:=T.obj _ _ st5 b hb
    exact(at_ b hb o e).2
   cases ok with
   | false =>
    rw[if_neg z8]at q7 ⊢
    obtain⟨m',hm,w'⟩:=hNN _ _ q7
    obtain⟨t7,f7,d7,n7⟩:=back I7
    exact⟨m',hm,i+1,ys,its,k,σ6,H7,I7.unpinned,t7,f7,rv,fun j v e=>Keep.get kp6 e,w'⟩
   | true =>
    rw[if_pos rfl]at q7 ⊢
    refine bV (he _ _ _ _ _ s7 σ6 H7 _ I7 q7) fun y8 s8 ⟨y,H8,I8,r8,q8⟩=>?_
    obtain⟨m',hm,w'⟩:=hNN _ _ q8
    obtain⟨t8,f8,d8,n8⟩:=back I8
    refine append_at (D:=D) (its:=its.toArray) (n:=k) d8 (fun h' hs' hD'=>?_) (by rw[z9,←rv.length];exact BN hyl)
    have J0:Inv (aD X scope N s2 H2 (D+1) fp) [] σ6 H8 s8:=I8.pins_of fun p hp=>by cases hp
    have J1:Inv (aD X scope N s2 H2 (D+1) fp) [] σ6 H8 {s8 with heap:=h'} :=J0.turned (it:=D) (t':=s8.toks) (fun b o hb e=>(hs'.2 b hb).trans e) n8 (zg (Cw _)) (.inr hDs) cellsD fun p hp=>by
     have:p∈([]:List (Addr×Obj)):=hp
     cases this
    refine⟨m',hm,i+1,ys++ [y],its++ [y8],k+1,σ6,H8,pinD J1 (by simpa using hD') n8,T.keep _ _ _ t8 fun b hb o e=>(hs'.2 b (zg (fpD b hb))).trans e,f8,rv.append (.cons r8 .nil),fun j v e=>Keep.get kp6 e,w'⟩
 exact codeAny_compStart_list loop (zX (T.self _ 0 _ _ _ (T.keep _ _ _ st2 fun b hb o e=>k34 b o (k23 b o e)) loop) (fun _ _ h=>h) fun _ _ h=>h)
end
section
variable {X:Cx} {scope:BF} {N:List Str} {cap:List (Option Nat)} {tg iter elt:Expr} {ifs:List Expr} {pos:Pos} {wi:TI} {g:TG} {tf:TT} {te:TE}
theorem kC {pins:List (Addr×Obj)} {σ σ':St} {H2 H':Hp} {s2 s':yK} {fp:List Addr} {D C:Addr} {its:List yH} {k:Nat} {ys:List V} {h':Heap} (I2:Inv X pins σ H2 s2) (f2:∀b∈fp,FpOk X pins H2 b)
  (hD:s2.heap.objs.size≤D) (hC:s2.heap.objs.size≤C) (hDC:D≠C) (I':Inv (aD X scope N s2 H2 C fp) [(D,fC its k)] σ' H' s') (rv:Vals ys its) (hl:ys.length≤sizeLine) (hs:zC C s'.heap h'):
  Inv X pins σ (cA H' D (.lst ys)) {s' with heap:=h'} :=by
 have pd:=I'.pin (D,fC its k) (zw _ zk)
 have nD:H' D=none:=pd.2.1
 have nC:H' C=none:=I'.free
 have lt2:∀b o,s2.heap.get? b=some o→b≠D∧b≠C:=fun b o e=>⟨zg (z7 (yW e) hD),zg (z7 (yW e) hC)⟩
 have hk:∀b o,b≠C→s'.heap.get? b=some o→h'.get? b=some o:=fun b o hb e=>(hs.2 b hb).trans e
 have B:Un (frs X.stack) fp H2 H' s2.heap s'.heap:=I'.base
 have tr:∀b u,H' b=some u→b≠D∧b≠C:=fun b u e=>⟨fun z=>(by rw[z,nD]at e;cases e),fun z=>(by rw[z,nC]at e;cases e)⟩
 refine I2.call' (ch:=fp) I'.os ⟨fun b o e n hb hx=>?_,fun b o e n hb hx=>?_,fun b o e n hx=>?_,fun b o e hx=>?_,fun b xs e=>?_,fun b o u e=>?_,fun b ps e=>?_⟩ (fun b u e=>?_) I'.bare fun b hb=>⟨(f2 b hb).2.2.2.1,(f2 b hb).2.1,(f2 b hb).2.2.2.2.1,(f2 b hb).2.2.2.2.2⟩
 ·exact hk b o (lt2 b o e).2 (B.keep b o e n hb hx)
 ·obtain⟨sl,q⟩:=B.slot b o e n hb hx
  exact⟨sl,hk b _ (lt2 b o e).2 q⟩
 ·rw[aL (lt2 b o e).1];exact B.free b o e n hx
 ·obtain⟨o',q⟩:=B.there b o e hx
  exact⟨o',hk b _ (lt2 b o e).2 q⟩
 ·rw[aL (tr b _ (B.tups b xs e)).1];exact B.tups b xs e
 ·rw[aL (tr b _ (B.frzs b o u e)).1];exact B.frzs b o u e
 ·obtain⟨more,q⟩:=B.tbls b ps e
  exact⟨more,by rw[aL (tr b _ q).1];exact q⟩
 ·by_cases hb:b=D
  ·subst hb
   rw[aF]at e;cases e
   exact⟨hl,its,k,rv,hk _ _ hDC pd.1⟩
  ·rw[aL hb]at e
   refine(I'.hok b u e).stay (fun c w' hc q=>hk c w' ?_ q) (fun c q=>by rw[aL (tr c _ q).1];exact q) fun c xs q=>by rw[aL (tr c _ q).1];exact q
   rcases hc with z | z
   ·rw[z];exact(tr b u e).2
   ·exact(tr c _ z).2
theorem fD (S:CompScope X scope N cap):∀x∈scope.names,x.2=.local→scope.names.lookup x.1=some .local:=fun x hx hl=>cy S.uniq (by rw[←hl];exact hx)
theorem eA (S:CompScope X scope N cap) (hc:X.calm=true) (hi:PI X tg iter wi)
  (hg:∀s H C fp,PG (aD X scope N s H C fp) tg g) (hf:∀s H C fp,pK (aD X scope N s H C fp) ifs tf) (he:∀s H C fp,PE (aD X scope N s H C fp) elt te)
  (hs:∀x,foldedSetIterable iter X.env x=pure x:=by intro _;rfl):PE X (.ListComp elt [⟨tg,iter,ifs,0⟩] scope pos) (mL cap wi g tf te):=by
 intro pins s σ H Q I h
 rw[eval_ListComp]
 have frc:∀x∈scope.names,x.2=.free→∃c,X.env.cells.lookup x.1=some c:=fun x hx hk=>I.ok.has x.1 (S.free x hx hk)
 refine BW (use:=none) rfl hs (dN frc) S.kind (fD S) (bV (hi pins s σ H _ I h) fun v s1 h1=>bV h1 fun itv s2 h2=>?_)
 obtain⟨it,fp,tn,J,H2,rfl,I2,T,st2,f2,W,w0,turn⟩:=h2
 refine j7 (RR:=fun acc C=>compPost (model X.prog X.w) X.A X.xe none (EP X pins σ Q) acc C) S hc hg hf he I2 T st2 f2 w0 turn fun D C σ' H' s' its k ys hD hC hDC I' rv hl q=>?_
 obtain⟨m,hn,_⟩:=I'.loc
 exact⟨m,hn,fun h' hs'=>⟨.ref D,_,kC I2 f2 hD hC hDC I' rv hl hs',rfl,q⟩⟩
end
section
variable {X:Cx} {scope:BF} {N:List Str} {cap:List (Option Nat)} {tg iter elt:Expr} {ifs:List Expr} {pos spos py:Pos} {wi:TI} {g:TG} {tf:TT} {te:TE} {i:Nat} {y:Str}
theorem lH (hN:X.N.Nodup) (hi':X.N[i]? =some y) (hy:w4 X.env.scope y) (S:CompScope X scope N cap) (hc:X.calm=true) (hi:PI X tg iter wi)
  (hg:∀s H C fp,PG (aD X scope N s H C fp) tg g) (hf:∀s H C fp,pK (aD X scope N s H C fp) ifs tf) (he:∀s H C fp,PE (aD X scope N s H C fp) elt te)
  (hsw:swapsWith (.ListComp elt [⟨tg,iter,ifs,0⟩] scope pos) (some (.Name y py)) spos.line X.env=pure true:=by rfl)
  (hs:∀x,foldedSetIterable iter X.env x=pure x:=by intro _;rfl) (hfn:X.fn y=true∨X.env.scope.names.lookup y=some .local:=by first | exact .inl rfl | exact .inr rfl | assumption):
  PS X (.Assign [.Name y py] (.ListComp elt [⟨tg,iter,ifs,0⟩] scope pos) spos) (bz (mL cap wi g tf te) (aO i)):=by
 intro pins s σ H D I h
 rw[exec_Assign_Name_used _ _ _ _ hsw]
 refine yF (Bc (yF ?_))
 show wpAny _ X.A (do let _ ←comprehension (.ListComp elt [⟨tg,iter,ifs,0⟩] scope pos) scope X.env _ (newList []) false (eval iter X.env) (some (assign (.Name y py) X.env))) _ _ s
 have frc:∀x∈scope.names,x.2=.free→∃c,X.env.cells.lookup x.1=some c:=fun x hx hk=>I.ok.has x.1 (S.free x hx hk)
 refine yF (zX (BW (use:=some (assign (.Name y py) X.env)) (Q:=fun _ s'=>SP X pins D .next s') rfl hs (dN frc) S.kind (fD S) (bV (hi pins s σ H _ I h) fun v s1 h1=>bV h1 fun itv s2 h2=>?_)) (fun _ s' hq=>yJ (yJ hq)) fun _ _ e=>e)
 obtain⟨it,fp,tn,J,H2,rfl,I2,T,st2,f2,W,w0,turn⟩:=h2
 refine j7 (Qv:=fun x H1=>aO i x σ H1 D.nx) (RR:=fun acc C=>compPost (model X.prog X.w) X.A X.xe (some (assign (.Name y py) X.env)) (fun _ s'=>SP X pins D .next s') acc C) S hc hg hf he I2 T st2 f2 w0 turn fun d C σ' H' s' its k ys hD hC hDC I' rv hl q=>?_
 obtain⟨m,hn,_⟩:=I'.loc
 have I3:Inv X pins σ (cA H' d (.lst ys)) s':=kC (h':=s'.heap) I2 f2 hD hC hDC I' rv hl (.refl ..)
 have nC:(cA H' d (.lst ys)) C=none:=by rw[aL (AZ hDC)];exact I'.free
 have cL:C≠X.env.locals:=fun z=>absurd (z7 I2.lt hC) (by rw[z];exact Ah _)
 have cc:∀x c,X.env.cells.lookup x=some c→c≠C:=fun x c e z=>by
  obtain⟨v,q⟩:=I2.cell x c e
  exact absurd (z7 q.lt hC) (by rw[z];exact Ah _)
 show wpAny _ X.A (assign (.Name y py) X.env (.ref d)) _ _ _
 refine EA (iX (v:=.ref d) I3 hN hi' hy rfl (fun s4 I4 ⟨a,sb,ha⟩=>?_) hfn)
 have aC:C≠a:=by
  rcases ha with z | z
  ·rw[z];exact cL
  ·exact AZ (cc _ _ z)
 refine⟨m,hn.sameBut sb aC,fun h' hs'=>?_⟩
 exact⟨_,_,I4.turned (it:=C) (t':=s4.toks) (fun b o hb e=>(hs'.2 b hb).trans e) nC cL (.inr (Aw I2.sz hC)) cc (fun p hp z=>absurd (z7 (yW (I2.pin p hp).1) hC) (by rw[z];exact Ah _)),q⟩
end
inductive Src where
 | lst (a:Addr) | tup (a:Addr) | str (l:List Nat)
def Src.has (K:PySem.W.Frag) (H:Hp):Src→List V→Prop
 | .lst a,xs=>SqL K H a xs
 | .tup a,xs=>SqT K H a xs
 | .str l,xs=>xs=l.map fun c=>CM (ap [c])
def Src.at (it:Addr) (i:Nat) (h:Heap):Src→Prop
 | .lst a=>h.IsListIter it a i
 | .tup a=>h.IsTupleIter it a i
 | .str l=>∃t,h.IsStrIter it "str_ascii_iterator" (ap l) t i∨h.IsStrIter it "str_iterator" (ap l) t i
def Src.val:Src→V
 | .lst a=>.ref a
 | .tup a=>.ref a
 | .str l=>.str (ap l)
section
variable {P:zf} {w:zt} {A:zP} {E:yH→yK→Prop} {s:yK}
theorem jw {j a:Addr} {k:Nat} {us:Array yH} {x:yH} {Q:yH→yK→Prop} (g:s.heap.IsTupleIter j a k) (ga:s.heap.IsTuple a us) (gx:us[k]? =some x)
  (q:∀h',h'.IsTupleIter j a (k+1)→zC j s.heap h'→Q x {s with heap:=h'}):wpAny (model P w) A (zV (.ref j)) Q E s:=by
 obtain⟨ob,e1,e2,e3⟩:=id g;obtain⟨ot,f1,_,nn,f3⟩:=ga
 unfold zV
 refine yF (zU (name:=yO "__next__") g.typeIs PySem.F.slot_tuple_iterator_next (zH PySem.F.slot_tuple_iterator_next g.typeIs PySem.F.entry_tuple_iterator_next ?_ (PySem.F.args_tuple_iterator_next_1 _)))
 show wpAny (model P w) _ (field (.ref j) 0 >>= _) _ _ s
 refine yF (AM e1 e3 (x:=.ref a) rfl ?_)
 show wpAny (model P w) _ (if(A4 a == A1)=true then _ else _) _ _ s
 rw[if_neg (show ¬((A4 a == A1)=true)from z8)]
 show wpAny (model P w) _ (field (.ref j) 1 >>= _) _ _ s
 refine yF (AM e1 e3 (x:=.int k 0) rfl ?_)
 show wpAny (model P w) _ (seqItems? (.ref a) >>= _) _ _ s
 refine yF (Ax f1 f3 ?_)
 simp only[A3,gx]
 refine yF (Bk e1 e3 (by simp) (yJ ⟨x,rfl,yJ (q _ ⟨_,AF _ e1 (Obj.isFreed_of_fields (Ey e3 _)),(Obj.cls_mapFields ..).trans e2,(by rw[Ey e3];simp[rawInt])⟩ (Aa ..))⟩))
theorem kD {j a:Addr} {k:Nat} {us:Array yH} {Q:yH→yK→Prop} (hh:A.handled=none) (g:s.heap.IsTupleIter j a k) (ga:s.heap.IsTuple a us) (gx:us[k]? =none)
  (q:∀h' e,Dg j s.heap h'→(∃o,h'.get? e=some o∧o.cls=.type "StopIteration")→E (.ref e) {s with heap:=h'}):wpAny (model P w) A (zV (.ref j)) Q E s:=by
 obtain⟨ob,e1,e2,e3⟩:=id g;obtain⟨ot,f1,_,nn,f3⟩:=ga
 unfold zV
 refine yF (zU (name:=yO "__next__") g.typeIs PySem.F.slot_tuple_iterator_next (zH PySem.F.slot_tuple_iterator_next g.typeIs PySem.F.entry_tuple_iterator_next ?_ (PySem.F.args_tuple_iterator_next_1 _)))
 show wpAny (model P w) _ (field (.ref j) 0 >>= _) _ _ s
 refine yF (AM e1 e3 (x:=.ref a) rfl ?_)
 show wpAny (model P w) _ (if(A4 a == A1)=true then _ else _) _ _ s
 rw[if_neg (show ¬((A4 a == A1)=true)from z8)]
 show wpAny (model P w) _ (field (.ref j) 1 >>= _) _ _ s
 refine yF (AM e1 e3 (x:=.int k 0) rfl ?_)
 show wpAny (model P w) _ (seqItems? (.ref a) >>= _) _ _ s
 refine yF (Ax f1 f3 ?_)
 simp only[A3,gx]
 refine yF (Bd (yF (Bk e1 e3 (by simp) ?_)))
 show wpAny (model P w) _ (newExc (.type "StopIteration") [] >>= _) _ _ _
 refine yF ?_;simp only[newExc,newTuple]
 refine yF (Ac (yF (m:=firstArgMember _ _) (E4 (a:=A1) (by first | rfl | (simp only[firstArgMember];rfl)) (Ac ?_ (by size_fits)))) (by size_fits))
 simp only[raiseNew];refine yF (Eg ?_)
 first | rw[show A.in1.handled=none from hh] | rw[hh]
 exact yF (yJ (F9 (q _ _ (((Aa ..).extBut.push _).push _) ⟨_,z6 _ rfl,rfl⟩)))
theorem pL (hh:A.handled=none) (j a:Addr) (ne:a≠j) (us:Array yH):G0 P w A j [j,a] us.size (fun k v=>us[k]? =some v) (fun k h=>h.IsTupleIter j a k∧h.IsTuple a us) where
 live:=fun _ _ st=>by obtain⟨⟨o,e,_⟩,_⟩:=st;exact⟨o,e⟩
 frame:=fun _ _ _ st hk=>⟨st.1.at fun o e=>hk j (by simp) o e,by obtain⟨o,e,r⟩:=st.2;exact⟨o,hk a (by simp) o e,r⟩⟩
 item:=fun k s Q E hk st q=>jw st.1 st.2 (x:=us[k]) (by simp[hk]) fun h' g' sb=>q _ h' s.toks (by simp[hk]) ⟨g',by obtain⟨o,e,r⟩:=st.2;exact⟨o,(sb.2 a ne).trans e,r⟩⟩ sb
 done:=fun s Q E st q=>kD hh st.1 st.2 (by simp) q
theorem Src.draws {X:Cx} {pins:List (Addr×Obj)} {σ:St} {H:Hp} {s0:yK} {c:Src} {xs:List V} {it:Addr} {i:Nat} (hh:A.handled=none) (I:Inv X pins σ H s0) (hs:c.has X.K H xs) (ht:c.at it i s0.heap) (hit:H it=none):
  ∃ (fp : List Addr) (Pt : Nat → yH → Prop) (St : Nat → Heap → Prop), G0 X.prog X.w A it fp xs.length Pt St ∧ St i s0.heap ∧ (∀ k v, Pt k v → ∃ x, xs[k]? = some x ∧ RelV x v) ∧ (∀ k h, St k h → c.at it k h) ∧ it ∈ fp ∧
   ∀b∈fp,b=it∨H b≠none∨∃o,X.base.get? b=some o:=by
 cases c with
 | lst a =>
  obtain⟨its,rv,p,hz⟩:=I.list hs
  have ne:a≠it:=fun z=>by
   obtain⟨o,e,c1,_⟩:=(show s0.heap.IsListIter it a i from ht)
   obtain⟨o2,e2,c2,_⟩:=p.isList
   rw[z,e]at e2;cases e2;rw[c1]at c2;exact absurd c2 (by decide)
  have dr:=Draws.list (prog:=X.prog) (w:=X.w) hh it a ne its.toArray
  rw[z9,←rv.length]at dr
  refine⟨_,_,_,dr,⟨ht,p.isList⟩,fun k v e=>?_,fun k h st=>st.1,by simp,fun b hb=>?_⟩
  ·have e:its[k]? =some v:=by simpa using e
   have hk:k< xs.length:=by rw[rv.length];exact(yR.mp e).1
   obtain⟨u,hu,ru⟩:=rv.get (i:=k) (x:=xs[k]) (by simp[hk])
   rw[e]at hu;cases hu
   exact⟨_,by simp[hk],ru⟩
  ·rcases zq.mp hb with z | z
   ·exact .inl z
   ·have z:b=a:=by simpa using z
    subst z
    rcases (show SqL X.K H b xs from hs)with(z | ⟨o,z⟩) | ⟨o,_,_,z,_⟩
    ·exact .inr (.inl (by rw[z];simp))
    ·exact .inr (.inl (by rw[z];simp))
    ·exact .inr (.inr ⟨_,I.mod.kin _ _ z⟩)
 | tup a =>
  obtain⟨its,rv,p,hz⟩:=I.tuple hs
  have p:s0.heap.IsTuple a its.toArray:=p
  have ne:a≠it:=fun z=>by
   obtain⟨o,e,c1,_⟩:=(show s0.heap.IsTupleIter it a i from ht)
   obtain⟨o2,e2,c2,_⟩:=id p
   rw[z,e]at e2;cases e2;rw[c1]at c2;exact absurd c2 (by decide)
  have dr:=pL (P:=X.prog) (w:=X.w) hh it a ne its.toArray
  rw[z9,←rv.length]at dr
  refine⟨_,_,_,dr,⟨ht,p⟩,fun k v e=>?_,fun k h st=>st.1,by simp,fun b hb=>?_⟩
  ·have e:its[k]? =some v:=by simpa using e
   have hk:k< xs.length:=by rw[rv.length];exact(yR.mp e).1
   obtain⟨u,hu,ru⟩:=rv.get (i:=k) (x:=xs[k]) (by simp[hk])
   rw[e]at hu;cases hu
   exact⟨_,by simp[hk],ru⟩
  ·rcases zq.mp hb with z | z
   ·exact .inl z
   ·have z:b=a:=by simpa using z
    subst z
    rcases (show SqT X.K H b xs from hs)with(z | ⟨o,z⟩) | ⟨o,_,_,z,_⟩
    ·exact .inr (.inl (by rw[z];simp))
    ·exact .inr (.inl (by rw[z];simp))
    ·exact .inr (.inr ⟨_,I.mod.kin _ _ z⟩)
 | str l =>
  have hs:xs=l.map fun c=>CM (ap [c]):=hs
  obtain⟨t,ht⟩:=(show ∃t,s0.heap.IsStrIter it "str_ascii_iterator" (ap l) t i∨s0.heap.IsStrIter it "str_iterator" (ap l) t i from ht)
  have hn:(ap l).cps.size=xs.length:=by rw[hs];simp[ap]
  have sg:∀(k:Nat) (v:yH),(∃c u,(ap l).cps[k]? =some c∧v=.str ⟨#[c]⟩ u)→∃x,xs[k]? =some x∧RelV x v:=fun k v ⟨c,u,e,ev⟩=>by
   have e:l[k]? =some c:=by simpa [ap] using e
   exact⟨.str (ap [c]),by rw[hs];simp[e],⟨u,ev⟩⟩
  rcases ht with ht | ht
  ·exact⟨_,_,_,hn▸Draws.strAscii hh it (ap l) t,ht,sg,fun k h st=>⟨t,.inl st⟩,by simp,fun b hb=>.inl (by simpa using hb)⟩
  ·exact⟨_,_,_,hn▸Draws.strWide hh it (ap l) t,ht,sg,fun k h st=>⟨t,.inr st⟩,by simp,fun b hb=>.inl (by simpa using hb)⟩
end
def i8 (v:yH) (h:Heap) (o:Obj):Prop:=∀(prog:zf) (w:zt) (A:zP) (E:yH→yK→Prop) (Q:yH→yK→Prop) (s:yK),s.heap=h→Q (.ref h.objs.size) {s with heap:=h.push o}→wpAny (model prog w) A (pyIter v) Q E s
def wk (h:Heap) (o1 o2:Obj):Heap:=((h.push o1).push o2).push {cls:=.type "tuple",data:=.seq #[.ref h.objs.size,.ref (h.push o1).objs.size]}
def wl (h:Heap) (o1 o2:Obj):Heap:=(wk h o1 o2).push {cls:=.type "tuple",data:=.seq #[.none,.none]}
def vQ (h:Heap) (o1 o2:Obj):Heap:=(wl h o1 o2).push {cls:=.type "zip",data:=.fields #[.none,.bool false,.bool false,.ref ((h.push o1).push o2).objs.size,.ref (wk h o1 o2).objs.size]}
theorem jx (v1 v2:yH) (o1 o2:Obj):Meets (BB.«zip.__new__» ⟨[.type "zip",v1,v2],[]⟩) (fun _ R s=>i8 v1 s.heap o1∧i8 v2 (s.heap.push o1) o2∧R (.ok (.ret (.ref (wl s.heap o1 o2).objs.size))) {s with heap:=vQ s.heap o1 o2}):=
 .of_wp fun prog w A R s h=>by
  obtain⟨hp,g,d,tk,os⟩:=s;obtain⟨i1,i2,h⟩:=h
  have hsub:=sub_zip
  have j1:=fun(A:zP) (E:yH→yK→Prop) (Q:yH→yK→Prop) (q:Q _ _)=>i1 prog w A E Q ⟨hp,g,d,tk,os⟩ rfl q
  have j2:=fun(A:zP) (E:yH→yK→Prop) (Q:yH→yK→Prop) (q:Q _ _)=>i2 prog w A E Q ⟨hp.push o1,g,d,tk,os⟩ rfl q
  wp_walk using j1 _ _ _,j2 _ _ _
  exact⟨_,rfl,h⟩
theorem nZ {P:zf} {w:zt} {A:zP} {E:yH→yK→Prop} {s:yK} {v1 v2:yH} {o1 o2:Obj} {Q:yH→yK→Prop} (i1:i8 v1 s.heap o1) (i2:i8 v2 (s.heap.push o1) o2)
  (f1:o1.isFreed=false) (f2:o2.isFreed=false)
  (q:∀h',DO h' (s.heap.objs.size+4) (s.heap.objs.size+2) (s.heap.objs.size+3) .none→C4 h' (s.heap.objs.size+2) (.ref s.heap.objs.size) (.ref (s.heap.objs.size+1))→C4 h' (s.heap.objs.size+3) .none .none→
   h'.get? s.heap.objs.size=some o1→h'.get? (s.heap.objs.size+1)=some o2→(∀c o,s.heap.get? c=some o→h'.get? c=some o)→Q (.ref (s.heap.objs.size+4)) {s with heap:=h'}):
  wpAny (model P w) A (call (.type "zip") [v1,v2]) Q E s:=by
 refine callType_new PySem.F.called_zip (by decide) (PySem.F.typeCall_zip_2 _ _) (PySem.F.newCall_zip_2 _ _) (fun obj=>PySem.F.args_object_init_3 obj _ _) PySem.F.entry_zip_new (jx v1 v2 o1 o2) ⟨i1,i2,?_⟩
 have z1:(s.heap.push o1).objs.size=s.heap.objs.size+1:=AL ..
 have z2:((s.heap.push o1).push o2).objs.size=s.heap.objs.size+2:=by rw[AL,z1]
 have z3:(wk s.heap o1 o2).objs.size=s.heap.objs.size+3:=by unfold wk;rw[AL,z2]
 have z4:(wl s.heap o1 o2).objs.size=s.heap.objs.size+4:=by unfold wl;rw[AL,z3]
 have g5:(vQ s.heap o1 o2).get? (wl s.heap o1 o2).objs.size=some _:=z6 _ rfl
 have g4:(vQ s.heap o1 o2).get? (wk s.heap o1 o2).objs.size=some _:=yN _ (z6 _ rfl)
 have g3:(vQ s.heap o1 o2).get? ((s.heap.push o1).push o2).objs.size=some _:=yN _ (yN _ (z6 _ rfl))
 have g2:(vQ s.heap o1 o2).get? (s.heap.push o1).objs.size=some o2:=yN _ (yN _ (yN _ (z6 _ f2)))
 have g1:(vQ s.heap o1 o2).get? s.heap.objs.size=some o1:=yN _ (yN _ (yN _ (yN _ (z6 _ f1))))
 show _∧_
 rw[z2,z3,z4]at g5
 rw[z1,z2]at g3
 rw[z3]at g4
 rw[z1]at g2
 rw[z4]
 exact⟨⟨_,g5,rfl⟩,q _ g5 g3 g4 g1 g2 fun c o x=>yN _ (yN _ (yN _ (yN _ (yN _ x))))⟩
theorem Src.iter {X:Cx} {pins:List (Addr×Obj)} {σ:St} {H:Hp} {s:yK} {c:Src} {xs:List V} {v:yH} {h:Heap} (I:Inv X pins σ H s) (hs:c.has X.K H xs) (rv:RelV c.val v) (k:∀b o,s.heap.get? b=some o→h.get? b=some o):
  ∃o,i8 v h o∧o.isFreed=false∧(∀h':Heap,h'.get? h.objs.size=some o→c.at h.objs.size 0 h'):=by
 cases c with
 | lst a =>
  obtain⟨its,r,p,hz⟩:=I.list hs
  cases (show v=.ref a from rv)
  obtain⟨o,e,r2⟩:=p.isList
  refine⟨{cls:=.type "list_iterator",data:=.fields #[.ref a,.int 0 0]},fun prog w A E Q s' e' q=>?_,rfl,fun h' e'=>⟨_,e',rfl,rfl⟩⟩
  subst e'
  exact Df ⟨o,k a o e,r2⟩ q
 | tup a =>
  obtain⟨its,r,p,hz⟩:=I.tuple hs
  cases (show v=.ref a from rv)
  obtain⟨o,e,r2⟩:=p
  refine⟨{cls:=.type "tuple_iterator",data:=.fields #[.ref a,.int 0 0]},fun prog w A E Q s' e' q=>?_,rfl,fun h' e'=>⟨_,e',rfl,rfl⟩⟩
  subst e'
  exact wpAny_pyIter_tuple ⟨o,k a o e,r2⟩ q
 | str l =>
  obtain⟨t,rfl⟩:=(show ∃t,v=.str (ap l) t from rv)
  cases ha:(ap l).cps.all (· <128)
  ·exact⟨{cls:=.type "str_iterator",data:=.fields #[.str (ap l) t,.int 0 0]},fun prog w A E Q s' e' q=>by subst e';exact EG ha q,rfl,fun h' e'=>⟨t,.inr ⟨_,e',rfl,rfl⟩⟩⟩
  ·exact⟨{cls:=.type "str_ascii_iterator",data:=.fields #[.str (ap l) t,.int 0 0]},fun prog w A E Q s' e' q=>by subst e';exact Ew ha q,rfl,fun h' e'=>⟨t,.inl ⟨_,e',rfl,rfl⟩⟩⟩
section
variable {P:zf} {w:zt} {A:zP} {E:yH→yK→Prop} {s:yK} {z TI TO i1 i2:Addr} {fp1 fp2:List Addr} {n1 n2 k:Nat} {P1 P2:Nat→yH→Prop} {S1 S2:Nat→Heap→Prop} {a b:yH}
structure ZApart (z TI TO i1 i2:Addr) (fp1 fp2:List Addr):Prop where
 c1:TI≠z
 c2:TO≠z
 c3:i1≠z
 c4:i2≠z
 c5:TI≠TO
 c6:TI≠i1
 c7:TI≠i2
 c8:TO≠i1
 c9:TO≠i2
 d1:z∉fp1∧TO∉fp1∧i2∉fp1
 d2:z∉fp2∧TO∉fp2∧i1∉fp2
theorem bN {n:Nat} {it:Addr} {fp:List Addr} {Pt:Nat→yH→Prop} {S:Nat→Heap→Prop} (D:G0 P w A it fp n Pt S) {j:Nat} {h h':Heap} {c:Addr} (st:S j h) (sb:zC c h h') (hc:c∉fp):S j h':=
 D.frame _ _ _ st fun b hb o e=>(sb.2 b fun q=>hc (q▸hb)).trans e
theorem o0 {Q:Option yH→yK→Prop} (D1:G0 P w A.in1 i1 fp1 n1 P1 S1) (D2:G0 P w A.in1 i2 fp2 n2 P2 S2) (Z:ZApart z TI TO i1 i2 fp1 fp2) (h1:k< n1) (h2:k< n2) (hz:DO s.heap z TI TO .none)
  (hI:C4 s.heap TI (.ref i1) (.ref i2)) (hO:C4 s.heap TO a b) (t1:S1 k s.heap) (t2:S2 k s.heap)
  (q:∀x y h' tk T,P1 k x→P2 k y→T=s.heap.objs.size→DO h' z TI TO (rawInt T)→C4 h' TO x y→S1 (k+1) h'→S2 (k+1) h'→C4 h' T x y→
   (∀c o,c≠z→c≠TO→c≠i1→c≠i2→s.heap.get? c=some o→h'.get? c=some o)→Q (some (.ref T)) {s with heap:=h',toks:=tk}):
  wpAny (model P w) A (pyNext (.ref z)) Q E s:=by
 have hT:s.TypeIs (.ref z) "zip" :=⟨_,hz,rfl⟩
 unfold pyNext
 refine yF (Bw (zU (name:=yO "__next__") hT PySem.F.slot_zip_next (zH PySem.F.slot_zip_next hT PySem.F.entry_zip_next ?_ (PySem.F.args_zip_next_1 _))))
 obtain⟨hp,gg,dd,tk0,os⟩:=s
 show wpAny (model P w) _ (field (.ref z) 2 >>= _) _ _ _
 refine yF (AM hz rfl (x:=.bool false) rfl ?_)
 show wpAny (model P w) _ (field (.ref z) 3 >>= _) _ _ _
 refine yF (AM hz rfl (x:=.ref TI) rfl (yF (Ax hI rfl ?_)))
 show wpAny (model P w) _ (An (.ref z) >>= _) _ _ _
 refine yF ?_;unfold An
 refine yF (AM hz rfl (x:=.none) rfl (yJ ?_));simp only[if_true]
 refine yF (Bd (yF (AM hz rfl (x:=.ref TO) rfl (yF (AX hz (by simp) fun g1 y1 b1=>?_)))))
 replace y1:DO g1 z TI TO .ellipsis:=y1
 replace b1:zC z hp g1:=b1
 refine yF ?_;simp only[Dw,Fe,DN,E2]
 refine yF (yF (Dm ?_))
 show wpAny (model P w) _ (zV (.ref i1) >>= _) _ _ _
 refine yF (D1.item k _ _ _ h1 (bN D1 t1 b1 Z.d1.1) fun x g2 tk2 px u1 b2=>yJ ?_)
 replace b2:zC i1 g1 g2:=b2
 have O2:C4 g2 TO a b:=b2.extBut _ _ Z.c8 (b1.extBut _ _ Z.c2 hO)
 refine yF (Ax O2 rfl (yF (CF O2 fun g3 O3 b3=>?_)))
 replace O3:C4 g3 TO x b:=O3
 replace b3:zC TO g2 g3:=b3
 refine yF (E5 (yJ (yF (yF (Dm ?_)))))
 show wpAny (model P w) _ (zV (.ref i2) >>= _) _ _ _
 refine yF (D2.item k _ _ _ h2 (bN D2 (bN D2 (bN D2 t2 b1 Z.d2.1) b2 Z.d2.2.2) b3 Z.d2.2.1) fun y g4 tk4 py u2 b4=>yJ ?_)
 replace b4:zC i2 g3 g4:=b4
 have O4:C4 g4 TO x b:=b4.extBut _ _ Z.c9 O3
 refine yF (Ax O4 rfl (yF (CF O4 fun g5 O5 b5=>?_)))
 replace O5:C4 g5 TO x y:=O5
 replace b5:zC TO g4 g5:=b5
 refine yF (E5 (yJ (yJ (yF (Ax O5 rfl (yF (Fv ?_)))))))
 have sz:g5.objs.size=hp.objs.size:=by rw[b5.1,b4.1,b3.1,b2.1,b1.1]
 have y5:DO g5 z TI TO .ellipsis:=b5.extBut _ _ Z.c2.symm (b4.extBut _ _ Z.c4.symm (b3.extBut _ _ Z.c2.symm (b2.extBut _ _ Z.c3.symm y1)))
 have k5:∀c o,c≠z→c≠TO→c≠i1→c≠i2→hp.get? c=some o→g5.get? c=some o:=fun c o e1 e2 e3 e4 e=>b5.extBut _ _ e2 (b4.extBut _ _ e4 (b3.extBut _ _ e2 (b2.extBut _ _ e3 (b1.extBut _ _ e1 e))))
 have v1:S1 (k+1) g5:=bN D1 (bN D1 (bN D1 u1 b3 Z.d1.2.1) b4 Z.d1.2.2) b5 Z.d1.2.1
 have v2:S2 (k+1) g5:=bN D2 u2 b5 Z.d2.2.1
 have lz:z< g5.objs.size:=yW y5
 show wpAny (model P w) _ (BU (.ref z) (.ref g5.objs.size) >>= _) _ _ _
 refine yF ?_;unfold BU
 have y6:DO (g5.push {cls:=.type "tuple",data:=.seq #[x,y]}) z TI TO .ellipsis:=yN _ y5
 refine yF (AX y6 (by simp) fun g7 y7 b7=>?_)
 replace y7:DO g7 z TI TO (rawInt g5.objs.size):=y7
 replace b7:zC z (g5.push {cls:=.type "tuple",data:=.seq #[x,y]}) g7:=b7
 refine AX y7 (by simp) fun g8 y8 b8=>?_
 replace y8:DO g8 z TI TO (rawInt g5.objs.size):=y8
 replace b8:zC z g7 g8:=b8
 have up:∀c o,c≠z→g5.get? c=some o→g8.get? c=some o:=fun c o e1 e=>b8.extBut _ _ e1 (b7.extBut _ _ e1 (yN _ e))
 have T8:C4 g8 g5.objs.size x y:=b8.extBut _ _ (Cc lz) (b7.extBut _ _ (Cc lz) (z6 _ rfl))
 refine yJ ⟨_,rfl,yJ (q x y g8 _ g5.objs.size px py sz y8 (up _ _ Z.c2 O5) (D1.frame _ _ _ v1 fun b hb o e=>up b o (fun q=>Z.d1.1 (q▸hb)) e) (D2.frame _ _ _ v2 fun b hb o e=>up b o (fun q=>Z.d2.1 (q▸hb)) e) T8 fun c o e1 e2 e3 e4 e=>up c o e1 (k5 c o e1 e2 e3 e4 e))⟩
theorem pM {Q:Option yH→yK→Prop} (hh:A.handled=none) (D1:G0 P w A.in1 i1 fp1 n1 P1 S1) (D2:G0 P w A.in1 i2 fp2 n2 P2 S2) (Z:ZApart z TI TO i1 i2 fp1 fp2) (hk:k=n1∨(k< n1∧k=n2)) (hz:DO s.heap z TI TO .none)
  (hI:C4 s.heap TI (.ref i1) (.ref i2)) (hO:C4 s.heap TO a b) (t1:S1 k s.heap) (t2:S2 k s.heap)
  (q:∀h' tk,(∀c o,c≠z→c≠TO→c≠i1→c≠i2→s.heap.get? c=some o→h'.get? c=some o)→Q none {s with heap:=h',toks:=tk}):
  wpAny (model P w) A (pyNext (.ref z)) Q E s:=by
 have hT:s.TypeIs (.ref z) "zip" :=⟨_,hz,rfl⟩
 unfold pyNext
 refine yF (Bw (zU (name:=yO "__next__") hT PySem.F.slot_zip_next (zH PySem.F.slot_zip_next hT PySem.F.entry_zip_next ?_ (PySem.F.args_zip_next_1 _))))
 obtain⟨hp,gg,dd,tk0,os⟩:=s
 show wpAny (model P w) _ (field (.ref z) 2 >>= _) _ _ _
 refine yF (AM hz rfl (x:=.bool false) rfl ?_)
 show wpAny (model P w) _ (field (.ref z) 3 >>= _) _ _ _
 refine yF (AM hz rfl (x:=.ref TI) rfl (yF (Ax hI rfl ?_)))
 show wpAny (model P w) _ (An (.ref z) >>= _) _ _ _
 refine yF ?_;unfold An
 refine yF (AM hz rfl (x:=.none) rfl (yJ ?_));simp only[if_true]
 refine yF (Bd (yF (AM hz rfl (x:=.ref TO) rfl (yF (AX hz (by simp) fun g1 y1 b1=>?_)))))
 replace y1:DO g1 z TI TO .ellipsis:=y1
 replace b1:zC z hp g1:=b1
 refine yF ?_;simp only[Dw,Fe,DN,E2]
 refine yF (yF (Dm ?_))
 show wpAny (model P w) _ (zV (.ref i1) >>= _) _ _ _
 rcases hk with hk | ⟨hk1,hk2⟩
 ·subst hk
  refine yF (D1.done _ _ _ (bN D1 t1 b1 Z.d1.1) fun g2 e b2 he=>?_)
  obtain⟨oe,hoe,hce⟩:=he
  replace b2:Dg i1 g1 g2:=b2
  have y2:DO g2 z TI TO .ellipsis:=b2 _ _ Z.c3.symm y1
  have ez:e≠z:=fun x=>by subst x;rw[y2]at hoe;cases hoe;simp at hce
  refine AX y2 (by simp) fun g3 _ b3=>?_
  exact yF (BO (T:="StopIteration") (b:=true) ⟨oe,b3.extBut _ _ ez hoe,hce⟩ D3 (yJ (q g3 _ fun c o e1 _ e3 _ x=>b3.extBut _ _ e1 (b2 _ _ e3 (b1.extBut _ _ e1 x)))))
 ·subst hk2
  refine yF (D1.item k _ _ _ hk1 (bN D1 t1 b1 Z.d1.1) fun x g2 tk2 px u1 b2=>yJ ?_)
  replace b2:zC i1 g1 g2:=b2
  have O2:C4 g2 TO a b:=b2.extBut _ _ Z.c8 (b1.extBut _ _ Z.c2 hO)
  refine yF (Ax O2 rfl (yF (CF O2 fun g3 O3 b3=>?_)))
  replace b3:zC TO g2 g3:=b3
  refine yF (E5 (yJ (yF (yF (Dm ?_)))))
  show wpAny (model P w) _ (zV (.ref i2) >>= _) _ _ _
  refine yF (D2.done _ _ _ (bN D2 (bN D2 (bN D2 t2 b1 Z.d2.1) b2 Z.d2.2.2) b3 Z.d2.2.1) fun g4 e b4 he=>?_)
  obtain⟨oe,hoe,hce⟩:=he
  replace b4:Dg i2 g3 g4:=b4
  have y4:DO g4 z TI TO .ellipsis:=b4 _ _ Z.c4.symm (b3.extBut _ _ Z.c2.symm (b2.extBut _ _ Z.c3.symm y1))
  have ez:e≠z:=fun x=>by subst x;rw[y4]at hoe;cases hoe;simp at hce
  refine AX y4 (by simp) fun g5 _ b5=>?_
  exact yF (BO (T:="StopIteration") (b:=true) ⟨oe,b5.extBut _ _ ez hoe,hce⟩ D3 (yJ (q g5 _ fun c o e1 e2 e3 e4 x=>b5.extBut _ _ e1 (b4 _ _ e4 (b3.extBut _ _ e2 (b2.extBut _ _ e3 (b1.extBut _ _ e1 x)))))))
end
def wm (K:PySem.W.Frag) (c1 c2:Src):It:=
  ⟨fun i H=>∃xs ys x y,c1.has K H xs∧c2.has K H ys∧xs[i]? =some x∧ys[i]? =some y,
   fun i H v H'=>∃p x y,H p=none∧v=.ref p∧(∀xs,c1.has K H xs→xs[i]? =some x)∧(∀ys,c2.has K H ys→ys[i]? =some y)∧H'=cA H p (.tup [x,y]),
   fun i H=>∃xs ys,c1.has K H xs∧c2.has K H ys∧(i=xs.length∨(i< xs.length∧i=ys.length))⟩
theorem Src.inj {X:Cx} {pins:List (Addr×Obj)} {σ:St} {H:Hp} {s:yK} {c:Src} {xs ys:List V} (I:Inv X pins σ H s) (h1:c.has X.K H xs) (h2:c.has X.K H ys):xs=ys:=by
 cases c with
 | lst a=>exact I.list_inj h1 h2
 | tup a=>exact I.tuple_inj h1 h2
 | str l=>exact Eq.trans h1 (Eq.symm h2)
theorem Src.at_keep {c:Src} {it:Addr} {i:Nat} {h h':Heap} (st:c.at it i h) (k:∀o,h.get? it=some o→h'.get? it=some o):c.at it i h':=by
 cases c with
 | lst a=>obtain⟨o,e,r⟩:=st;exact⟨o,k o e,r⟩
 | tup a=>obtain⟨o,e,r⟩:=st;exact⟨o,k o e,r⟩
 | str l =>
  obtain⟨t,st⟩:=st
  rcases st with⟨o,e,r⟩ | ⟨o,e,r⟩
  ·exact⟨t,.inl ⟨o,k o e,r⟩⟩
  ·exact⟨t,.inr ⟨o,k o e,r⟩⟩
theorem Src.at_obj {c:Src} {it:Addr} {i:Nat} {h:Heap} (st:c.at it i h):∃o,h.get? it=some o∧∃vs,o.data=.fields vs:=by
 cases c with
 | lst a=>obtain⟨o,e,_,r⟩:=st;exact⟨o,e,_,r⟩
 | tup a=>obtain⟨o,e,_,r⟩:=st;exact⟨o,e,_,r⟩
 | str l =>
  obtain⟨t,st⟩:=st
  rcases st with⟨o,e,_,r⟩ | ⟨o,e,_,r⟩
  ·exact⟨o,e,_,r⟩
  ·exact⟨o,e,_,r⟩
def xR (c1 c2:Src) (z TI TO i1 i2:Addr) (i:Nat) (h:Heap):Prop:=DO h z TI TO .none∧C4 h TI (.ref i1) (.ref i2)∧(∃a b,C4 h TO a b)∧c1.at i1 i h∧c2.at i2 i h
structure ZIds (z TI TO i1 i2:Addr):Prop where
 c1:TI≠z
 c2:TO≠z
 c3:i1≠z
 c4:i2≠z
 c5:TI≠TO
 c6:TI≠i1
 c7:TI≠i2
 c8:TO≠i1
 c9:TO≠i2
 c10:i1≠i2
theorem pN {X:Cx} {pins:List (Addr×Obj)} {σ:St} {H:Hp} {s:yK} {z TI TO i1 i2:Addr} {fp1 fp2:List Addr} (I:Inv X pins σ H s) (Z:ZIds z TI TO i1 i2) (hf:∀b∈[z,TI,TO,i1,i2],FpOk X pins H b)
  (g1:∀b∈fp1,b=i1∨H b≠none∨∃o,X.base.get? b=some o) (g2:∀b∈fp2,b=i2∨H b≠none∨∃o,X.base.get? b=some o):ZApart z TI TO i1 i2 fp1 fp2:=by
 have no:∀b∈[z,TI,TO,i1,i2],¬(H b≠none∨∃o,X.base.get? b=some o):=fun b hb q=>by
  rcases q with q | ⟨o,q⟩
  ·exact q (hf b hb).1
  ·rcases (hf b hb).2.2.2.1 with y | y
   ·exact I.ok.noex b o q y
   ·exact absurd (z7 (z7 (yW q) I.ok.bsz) y) (Ah _)
 refine⟨Z.c1,Z.c2,Z.c3,Z.c4,Z.c5,Z.c6,Z.c7,Z.c8,Z.c9,⟨fun m=>?_,fun m=>?_,fun m=>?_⟩,⟨fun m=>?_,fun m=>?_,fun m=>?_⟩⟩
 ·exact(g1 _ m).elim (fun e=>Z.c3 e.symm) (no z (by simp))
 ·exact(g1 _ m).elim (fun e=>Z.c8 e) (no TO (by simp))
 ·exact(g1 _ m).elim (fun e=>Z.c10 e.symm) (no i2 (by simp))
 ·exact(g2 _ m).elim (fun e=>Z.c4 e.symm) (no z (by simp))
 ·exact(g2 _ m).elim (fun e=>Z.c9 e) (no TO (by simp))
 ·exact(g2 _ m).elim (fun e=>Z.c10 e) (no i1 (by simp))
theorem pO {P:zf} {w:zt} {K:PySem.W.Frag} {elts:List Expr} {kk:Nat} {tp:Pos} (c1 c2:Src) (z TI TO i1 i2:Addr) (Z:ZIds z TI TO i1 i2):
  Turn P w K (.Tuple elts kk tp) (wm K c1 c2) [z,TI,TO,i1,i2] z (xR c1 c2 z TI TO i1 i2) where
 mem:=by simp
 obj:=fun i h st b hb=>by
  obtain⟨hz,hI,⟨a,b',hO⟩,t1,t2⟩:=st
  obtain⟨o1,e1,v1,d1⟩:=Src.at_obj t1
  obtain⟨o2,e2,v2,d2⟩:=Src.at_obj t2
  simp only[zq,AU,or_false]at hb
  rcases hb with rfl | rfl | rfl | rfl | rfl
  ·exact⟨_,hz,fun v q=>by cases (show Gb _=Ea v from q)⟩
  ·exact⟨_,hI,fun v q=>by cases (show Fu _ _=Ea v from q)⟩
  ·exact⟨_,hO,fun v q=>by cases (show Fu _ _=Ea v from q)⟩
  ·exact⟨_,e1,fun v q=>by rw[d1]at q;cases q⟩
  ·exact⟨_,e2,fun v q=>by rw[d2]at q;cases q⟩
 keep:=fun i h h' st k=>by
  obtain⟨hz,hI,⟨a,b',hO⟩,t1,t2⟩:=st
  exact⟨k z (by simp) _ hz,k TI (by simp) _ hI,⟨a,b',k TO (by simp) _ hO⟩,Src.at_keep t1 (k i1 (by simp)),Src.at_keep t2 (k i2 (by simp))⟩
 item:=by
  intro X hP hw hK hc i pins s σ H E I hf st hg
  subst hP hw hK
  obtain⟨xs,ys,x,y,hx,hy,ex,ey⟩:=hg
  obtain⟨hz,hI,⟨a,b',hO⟩,t1,t2⟩:=st
  have hh:X.A.in1.handled=none:=I.ok.hd hc
  obtain⟨fp1,P1,S1,D1,u1,r1,a1,_,g1⟩:=Src.draws (A:=X.A.in1) hh I hx t1 (hf i1 (by simp)).1
  obtain⟨fp2,P2,S2,D2,u2,r2,a2,_,g2⟩:=Src.draws (A:=X.A.in1) hh I hy t2 (hf i2 (by simp)).1
  have ZA:=pN I Z hf g1 g2
  refine o0 D1 D2 ZA (yR.mp ex).1 (yR.mp ey).1 hz hI hO u1 u2 fun vx vy h' tk T px py hT hz' hO' w1 w2 hTp kp=>?_
  obtain⟨x',ex',rx⟩:=r1 i vx px
  obtain⟨y',ey',ry⟩:=r2 i vy py
  rw[ex]at ex';cases ex'
  rw[ey]at ey';cases ey'
  have nT:H T=none:=by rw[hT];exact I.hok.fresh (yP _)
  refine⟨_,rfl,wpAny_letOwnedTupleGo_zip hz' fun h2 hz2 sb=>?_⟩
  have lt:∀{c o},s.heap.get? c=some o→c≠T:=fun e=>by rw[hT];exact zg (yW e)
  have up:∀c o,c≠z→h'.get? c=some o→h2.get? c=some o:=fun c o hc e=>(sb.2 c hc).trans e
  have kp2:∀b o,b∉[z,TO,i1,i2]→s.heap.get? b=some o→h2.get? b=some o:=fun b o hb e=>by
   simp only[zq,AU,or_false,not_or]at hb
   exact up b o hb.1 (kp b o hb.1 hb.2.1 hb.2.2.1 hb.2.2.2 e)
  have ch:∀b∈[z,TO,i1,i2],b∈[z,TI,TO,i1,i2]:=fun b hb=>by
   simp only[zq,AU,or_false]at hb ⊢
   rcases hb with h | h | h | h <;> simp[h]
  have ls:∀b u,H b=some u→b∉[z,TO,i1,i2]∧b≠T:=fun b u e=>⟨fun hb=>(by rw[(hf b (ch b hb)).1]at e;cases e),fun q=>(by rw[q,nT]at e;cases e)⟩
  have I2:Inv X pins σ (cA H T (.tup [x,y])) {s with heap:=h2,gens:=s.gens,drawn:=s.drawn,toks:=tk} :=by
   refine I.step (g':=s.gens) (d':=s.drawn) (t':=tk) (ch:=[z,TO,i1,i2]) (fun b hb=>⟨(hf b (ch b hb)).2.2.2.1,(hf b (ch b hb)).2.1,(hf b (ch b hb)).2.2.2.2.1,(hf b (ch b hb)).2.2.2.2.2⟩) (fun b o _ _ hb e _=>kp2 b o hb e) (fun b o _ _ hb e _=>⟨o.slots,kp2 b o hb e⟩)
    (fun b o hb e n=>by rw[aL (lt e)];exact n) (fun b o hb e=>⟨o,kp2 b o hb e⟩) (fun b xs e=>by rw[aL (ls b _ e).2];exact e) (fun b o u e=>by rw[aL (ls b _ e).2];exact e) (fun b ps e=>⟨#[],by rw[aL (ls b _ e).2,e];simp⟩) (fun m hm=>?_) (fun b u e=>?_) I.bare
   ·obtain⟨o,es,ep,ho,r⟩:=hm
    exact⟨o,es,ep,kp2 _ o (fun hb=>(hf _ (ch _ hb)).2.1 rfl) ho,r⟩
   ·by_cases hb:b=T
    ·subst hb
     rw[aF]at e;cases e
     refine⟨(by show 2≤sizeLine;rw[zN];decide),[vx,vy],.cons rx (.cons ry .nil),⟨_,up _ _ ?_ hTp,⟨rfl,rfl⟩,_,rfl⟩⟩
     exact fun q=>lt hz q.symm
    ·rw[aL hb]at e
     refine(I.hok b u e).stay (fun c v hc q=>kp2 c v ?_ q) (fun c q=>by rw[aL (ls c _ q).2];exact q) fun c xs q=>by rw[aL (ls c _ q).2];exact q
     rcases hc with q | q
     ·rw[q];exact(ls b u e).1
     ·exact(ls c _ q).1
  refine⟨.ref T,_,I2,rfl,⟨T,x,y,nT,rfl,fun xs' h=>by rw[Src.inj I h hx];exact ex,fun ys' h=>by rw[Src.inj I h hy];exact ey,rfl⟩,⟨hz2,up _ _ Z.c1 (kp _ _ Z.c1 Z.c5 Z.c6 Z.c7 hI),⟨_,_,up _ _ Z.c2 hO'⟩,Src.at_keep (a1 _ _ w1) fun o e=>up _ o Z.c3 e,Src.at_keep (a2 _ _ w2) fun o e=>up _ o Z.c4 e⟩,fun b hb=>?_⟩
  have hbT:b≠T:=by
   obtain⟨o,e⟩:∃o,s.heap.get? b=some o:=by
    obtain⟨o1,e1,_⟩:=Src.at_obj t1
    obtain⟨o2,e2,_⟩:=Src.at_obj t2
    simp only[zq,AU,or_false]at hb
    rcases hb with rfl | rfl | rfl | rfl | rfl
    ·exact⟨_,hz⟩
    ·exact⟨_,hI⟩
    ·exact⟨_,hO⟩
    ·exact⟨_,e1⟩
    ·exact⟨_,e2⟩
   exact lt e
  rw[aL hbT]
  exact(hf b hb).1
 done:=by
  intro X hP hw hK hc i pins s σ H E I hf st hg
  subst hP hw hK
  obtain⟨xs,ys,hx,hy,hend⟩:=hg
  obtain⟨hz,hI,⟨a,b',hO⟩,t1,t2⟩:=st
  have hh:X.A.in1.handled=none:=I.ok.hd hc
  obtain⟨fp1,P1,S1,D1,u1,r1,a1,_,g1⟩:=Src.draws (A:=X.A.in1) hh I hx t1 (hf i1 (by simp)).1
  obtain⟨fp2,P2,S2,D2,u2,r2,a2,_,g2⟩:=Src.draws (A:=X.A.in1) hh I hy t2 (hf i2 (by simp)).1
  have ZA:=pN I Z hf g1 g2
  have ch:∀b∈[z,TO,i1,i2],b∈[z,TI,TO,i1,i2]:=fun b hb=>by
   simp only[zq,AU,or_false]at hb ⊢
   rcases hb with h | h | h | h <;> simp[h]
  refine pM hh D1 D2 ZA hend hz hI hO u1 u2 fun h2 tk kp=>⟨rfl,?_⟩
  have kp2:∀b o,b∉[z,TO,i1,i2]→s.heap.get? b=some o→h2.get? b=some o:=fun b o hb e=>by
   simp only[zq,AU,or_false,not_or]at hb
   exact kp b o hb.1 hb.2.1 hb.2.2.1 hb.2.2.2 e
  refine I.step (g':=s.gens) (d':=s.drawn) (t':=tk) (ch:=[z,TO,i1,i2]) (fun b hb=>⟨(hf b (ch b hb)).2.2.2.1,(hf b (ch b hb)).2.1,(hf b (ch b hb)).2.2.2.2.1,(hf b (ch b hb)).2.2.2.2.2⟩) (fun b o _ _ hb e _=>kp2 b o hb e) (fun b o _ _ hb e _=>⟨o.slots,kp2 b o hb e⟩)
   (fun b o hb e n=>n) (fun b o hb e=>⟨o,kp2 b o hb e⟩) (fun b xs e=>e) (fun b o u e=>e) (fun b ps e=>⟨#[],by rw[e];simp⟩) (fun m hm=>?_) (fun b u e=>?_) I.bare
  ·obtain⟨o,es,ep,ho,r⟩:=hm
   exact⟨o,es,ep,kp2 _ o (fun hb=>(hf _ (ch _ hb)).2.1 rfl) ho,r⟩
  ·have ls:∀b u,H b=some u→b∉[z,TO,i1,i2]:=fun b u e hb=>by rw[(hf b (ch b hb)).1]at e;cases e
   refine(I.hok b u e).stay (fun c v hc q=>kp2 c v ?_ q) (fun c q=>q) fun c xs q=>q
   rcases hc with q | q
   ·rw[q];exact ls b u e
   ·exact ls c _ q
 self:=fun _ _ _ _ _ st h=>EU st.1 h
theorem sd (n a b:Nat) (h:a≠b): @Ne Nat (n+a) (n+b):=fun e=>h (Nat.add_left_cancel e)
def uZ (K:PySem.W.Frag) (t:TA):TI:=fun σ H R=>t σ H fun vs H1=>∃c1 c2 xs ys,vs=[c1.val,c2.val]∧c1.has K H1 xs∧c2.has K H1 ys∧R (wm K c1 c2) H1
theorem va {X:Cx} {a b:Expr} {ta:TA} {p pos tp:Pos} {elts:List Expr} {kk:Nat} (hg:Gl X "zip") (hm:X.mg "zip" =none) (ha:PA X [a,b] ta)
  (hs:starEach [a,b] X.env=[(false,eval a X.env),(false,eval b X.env)]:=by rfl) (hs2:starEach [b] X.env=[(false,eval b X.env)]:=by rfl):PI X (.Tuple elts kk tp) (.Call (.Name "zip" p) [a,b] [] pos) (uZ X.K ta):=by
 intro pins s σ H R I h
 refine Call_ (gX I hg hm boot_zip (Bz (bV (ha pos pins s σ H _ I h) fun us s1 ⟨vs,H1,I1,r1,q1⟩=>?_) (by rw[hs,hs2]) (by rw[hs2];rfl)))
 obtain⟨c1,c2,xs,ys,e,h1,h2,q⟩:=q1
 subst e
 obtain⟨v1,v2,rfl,ra,rb⟩:=ur r1
 obtain⟨o1,i1,f1,n1⟩:=Src.iter I1 h1 ra fun _ _ e=>e
 obtain⟨o2,i2,f2,n2⟩:=Src.iter (h:=s1.heap.push o1) I1 h2 rb fun _ _ e=>yN _ e
 have z1:(s1.heap.push o1).objs.size=s1.heap.objs.size+1:=AL ..
 rw[z1]at n2
 refine nZ i1 i2 f1 f2 fun h' hz hI hO e1 e2 kp=>?_
 refine EU hz ?_
 have zi:∀n:Nat,ZIds (n+4) (n+2) (n+3) n (n+1):=fun n=>⟨(sd n 2 4 (by decide)),(sd n 3 4 (by decide)),(sd n 0 4 (by decide)),(sd n 1 4 (by decide)),(sd n 2 3 (by decide)),(sd n 2 0 (by decide)),(sd n 2 1 (by decide)),(sd n 3 0 (by decide)),(sd n 3 1 (by decide)),(sd n 0 1 (by decide))⟩
 refine⟨s1.heap.objs.size+4,[s1.heap.objs.size+4,s1.heap.objs.size+2,s1.heap.objs.size+3,s1.heap.objs.size,s1.heap.objs.size+1],_,_,H1,rfl,I1.kept (t':=s1.toks) kp,pO c1 c2 _ _ _ _ _ (zi s1.heap.objs.size),⟨hz,hI,⟨_,_,hO⟩,n1 h' e1,n2 h' e2⟩,fun b hb=>?_,q⟩
 have hb':s1.heap.objs.size≤b:=by
  simp only[zq,AU,or_false]at hb
  rcases hb with z | z | z | z | z <;> rw[z]
  ·exact Bl _ 4
  ·exact Bl _ 2
  ·exact Bl _ 3
  ·exact yP _
  ·exact Bl _ 1
 exact I1.fpOk hb' (I1.hok.fresh hb')
theorem sF {K:PySem.W.Frag} {c1 c2:Src} {xs ys:List V} {g:TG} {tb:TS} {D:Ends} {σ:St} {H:Hp} (Pv:Nat→St→Hp→Prop) (h0:Pv 0 σ H) (hl:∀i σ H,Pv i σ H→c1.has K H xs∧c2.has K H ys) (hn:xs.length=ys.length)
  (hs:∀i x y p σ H,xs[i]? =some x→ys[i]? =some y→H p=none→Pv i σ H→g (.ref p) σ (cA H p (.tup [x,y])) fun σ2 H2=>tb {D with nx:=Pv (i+1),ct:=Pv (i+1),bk:=D.nx} σ2 H2) (hd:∀σ H,Pv xs.length σ H→D.nx σ H):
  ∃ W : Nat → Nat → St → Hp → Prop, (∃ m, W 0 m σ H) ∧ ∀ i m σ H, W i m σ H →
   ((wm K c1 c2).stop i H∧D.nx σ H)∨((wm K c1 c2).go i H∧∃N:St→Hp→Prop,(∀σ' H',N σ' H'→∃m',m'< m∧W (i+1) m' σ' H')∧∀x H',(wm K c1 c2).yld i H x H'→g x σ H' fun σ2 H2=>tb {D with nx:=N,ct:=N,bk:=D.nx} σ2 H2):=by
 refine⟨fun i m σ H=>m=xs.length- i∧i≤xs.length∧Pv i σ H,⟨xs.length,by simp,zo _,h0⟩,?_⟩
 rintro i m σ H ⟨rfl,hi,p⟩
 obtain⟨q1,q2⟩:=hl i σ H p
 by_cases hlt:i< xs.length
 ·refine .inr ⟨⟨xs,ys,xs[i],ys[i],q1,q2,by simp[hlt],by simp[←hn,hlt]⟩,Pv (i+1),fun σ' H' p'=>⟨xs.length- (i+1),by omega,rfl,hlt,p'⟩,fun v H' ⟨a,x,y,na,ev,ex,ey,eh⟩=>?_⟩
  subst ev eh
  exact hs i x y a σ H (ex xs q1) (ey ys q2) na p
 ·have e:i=xs.length:=by omega
  subst e
  exact .inl ⟨⟨xs,ys,q1,q2,.inl rfl⟩,hd σ H p⟩
structure Cal (P:zf) (w:zt) (K:PySem.W.Frag) (mg:Str→Option yH) (base:Heap) (x:Str) (ps:List Str) (k:Nat) (sp:Sp):Prop where
 ex:∃(f:Addr) (fd:zu),FnOk P w K mg base CX0 k f fd ps sp∧mg x=some (.ref f)∧PySem.W.keepIn K (.ref f)=true∧Binds K fd ps []
theorem ar {X:Cx} {x:Str} {ps:List Str} {k:Nat} {sp:Sp} {p pos:Pos} {e:Expr} {es:List Expr} {t:TA} (C:Cal X.prog X.w X.K X.mg X.base x ps k sp) (hr:Room k X.A) (hg:Gl X x) (ha:PA X (e::es) t)
  (hdb:(x == ("__debug__" :Str))=false:=by decide) (he:starEach (e::es) X.env=(false,eval e X.env)::starEach es X.env:=by rfl) (hpl:(backTo pos (starEach es X.env)).any (·.1)=false:=by rfl):
  PE X (.Call (.Name x p) (e::es) [] pos) (aV sp [] E0 t):=by
 obtain⟨f,fd,F,hm,hk,hb⟩:=C.ex
 exact sv F hr hg hm hk hb .nil wf ha hdb he hpl
theorem jy {X:Cx} {scope:BF} {N:List Str} {cap:List (Option Nat)} (kind:scope.kind=.function) (nd:N.Nodup) (len:cap.length=N.length) (uniq:(scope.names.map (·.1)).Nodup)
  (fr:(scope.names.all fun x=>x.2 != .free || (X.env.kindOf x.1 == some .cell || X.env.kindOf x.1 == some .free))=true)
  (cp:((N.zip cap).all fun p=>match p.2 with | none=>true | some j=>X.N[j]? == some p.1 && scope.names.contains (p.1,A9))=true):CompScope X scope N cap:=by
 refine⟨kind,nd,len,uniq,fun x hx hk=>?_,fun k x j h1 h2=>?_⟩
 ·have:=EW.mp fr x hx
  rw[hk]at this
  simpa using this
 ·have hm:(x,some j)∈N.zip cap:=by
   rw[Bx]
   exact⟨k,by rw[Dc];exact⟨h1,h2⟩⟩
  have:=EW.mp cp _ hm
  simpa using this
def flat:V→Bool
 | .non=>true
 | .bl _=>true
 | .int _=>true
 | .str _=>true
 | _=>false
theorem d9 {H:Hp} {p:Addr} {o:HO} (h:H p=none):Same H (cA H p o):=fun b u e=>by rw[aL (bP e h)];exact e
theorem eQ (x:String) (l:List Nat) (h:(yO x).cps.toList=l):yO x=ap l:=by rw[pE (yO x),h]
section
variable {X:Cx} {K:PySem.W.Frag} {w:zt}
theorem aJ (h:X.K=K):vP X (bY K):=h▸uT
theorem cu (h:X.K=K):vP X (bM K):=h▸sx
theorem cg (h:X.K=K):cX X (.builtin "len") (fun xs H Q=>∃x n,xs=[x]∧nN K x H n∧Q (.int n) H):=h▸pp
theorem bf (h:X.K=K):cX X (.builtin "isinstance") (fun xs H Q=>∃x T t b,xs=[x,.ty T]∧TyOf K H x t∧PySem.W.kitOne K t (.type T)=some b∧Q (.bl b) H):=h▸kA
theorem pP (h:X.K=K):uS X "str.join" (fun x xs H Q=>∃(p:Addr) (ys:List (List Nat)),x=.str (ap [])∧xs=[.ref p]∧SqL K H p (ys.map fun y=>CM (ap y))∧ys.flatten.length≤100000∧Q (.str (ap ys.flatten)) H):=h▸sD
theorem pQ (h:X.K=K):wP X (bZ K):=h▸sy
theorem j8 (h:X.K=K) (hw:X.w=w) {o i:Expr} {pos:Pos} {td ty:TE} (ho:PE X o td) (hi:PE X i ty) (hs:uW i):PE X (.Subscript o i pos) (aN K w td ty):=h▸hw▸pF ho hi hs
theorem bU (h:X.K=K) {pos:Pos} {es:List Expr} {k:Nat} {t:um} {n:Nat} (hc:X.calm=true) (hg:w6 X es t) (hn:(assignEach es X.env).length=n:=by rfl) (hst:(assignEach es X.env).findIdx? (·.1)=none:=by rfl):PG X (.Tuple es k pos) (bS K n t):=h▸uO hc hg hn hst
theorem cC (h:X.K=K) {tg l:Expr} {tl:TE} (hl:PE X l tl):PI X tg l (pc K tl):=h▸sr hl
theorem eB (h:X.K=K) {a b:Expr} {ta:TA} {p pos tp:Pos} {elts:List Expr} {kk:Nat} (hg:Gl X "zip") (hm:X.mg "zip" =none) (ha:PA X [a,b] ta)
  (hs:starEach [a,b] X.env=[(false,eval a X.env),(false,eval b X.env)]:=by rfl) (hs2:starEach [b] X.env=[(false,eval b X.env)]:=by rfl):PI X (.Tuple elts kk tp) (.Call (.Name "zip" p) [a,b] [] pos) (uZ K ta):=h▸va hg hm ha hs hs2
theorem lI (h:X.K=K) {o e:Expr} {es:List Expr} {to:TE} {t:TA} {name:Str} {apos cpos:Pos} {T id:String} {r:V→List V→Hp→VK→Prop} (pa:Et T) (slot:Slot T name id) (hty:typeOf (.builtin id)=pure (.type "method_descriptor")) (hm:uS X id r) (ho:PE X o to) (ha:PA X (e::es) t)
  (hbase:attributeBase o name X.env (eval o X.env)=eval o X.env:=by rfl)
  (hfew:((backTo cpos (starEach (e::es) X.env)).all (fun x=> !x.1) && (backToKw cpos (keywordEach [] X.env)).all (fun x=>x.1.isSome) && decide ((e::es).length+([]:List EF).length+(if([]:List EF).isEmpty then 0 else 1)< 30))=true:=by rfl)
  (hline:(apos.endLine == cpos.line)=true:=by rfl) (hs:starEach (e::es) X.env=(false,eval e X.env)::starEach es X.env:=by rfl) (hplain:(backTo cpos (starEach es X.env)).any (·.1)=false:=by rfl):
  PE X (.Call (.Attribute o name apos) (e::es) [] cpos) (dq K T r to t):=h▸we pa slot hty hm ho ha hbase hfew hline hs hplain
end
end L2
namespace Wb
open PySem L2
abbrev Rp (α:Type):=Hp→α→V→Prop
class Mono {α:Type} (R:Rp α):Prop where
 mono:∀{H H':Hp} {m:α} {v:V},Same H H'→R H m v→R H' m v
def LR {α:Type} (R:Rp α) (H:Hp) (ms:List α) (vs:List V):Prop:=vs.length=ms.length∧∀(i:Nat) (v:V) (m:α),vs[i]? =some v→ms[i]? =some m→R H m v
theorem LR.nil {α:Type} {R:Rp α} {H:Hp} :LR R H [] []:=⟨rfl,fun i v m e=>by simp at e⟩
theorem LR.same {α:Type} {R:Rp α} [Mono R] {H H':Hp} {ms:List α} {vs:List V} (h:LR R H ms vs) (e:Same H H'):LR R H' ms vs:=⟨h.1,fun i v m a b=>Mono.mono e (h.2 i v m a b)⟩
theorem LR.snoc {α:Type} {R:Rp α} {H:Hp} {ms:List α} {vs:List V} {m:α} {v:V} (h:LR R H ms vs) (r:R H m v):LR R H (ms++ [m]) (vs++ [v]):=by
 refine⟨by simp[h.1],fun i v' m' a b=>?_⟩
 by_cases hi:i< vs.length
 ·rw[zc hi]at a
  rw[zc (by rw[←h.1];exact hi)]at b
  exact h.2 i v' m' a b
 ·rw[zd (by omega)]at a
  rw[zd (by rw[←h.1];omega)]at b
  rw[←h.1]at b
  cases e:i- vs.length with
  | zero=>rw[e]at a b;simp at a b;subst a b;exact r
  | succ n=>rw[e]at a;simp at a
theorem LR.get {α:Type} {R:Rp α} {H:Hp} {ms:List α} {vs:List V} {i:Nat} {m:α} (h:LR R H ms vs) (e:ms[i]? =some m):∃v,vs[i]? =some v∧R H m v:=by
 have hi:i< vs.length:=by rw[h.1];exact(yR.mp e).1
 exact⟨vs[i],by simp[hi],h.2 i _ m (by simp[hi]) e⟩
theorem LR.got {α:Type} {R:Rp α} {H:Hp} {ms:List α} {vs:List V} {i:Nat} {v:V} (h:LR R H ms vs) (e:vs[i]? =some v):∃m,ms[i]? =some m∧R H m v:=by
 have hi:i< ms.length:=by rw[←h.1];exact(yR.mp e).1
 exact⟨ms[i],by simp[hi],h.2 i v _ e (by simp[hi])⟩
def isL {α:Type} (R:Rp α):Rp (List α):=fun H ms v=>∃p vs,v=.ref p∧H p=some (.lst vs)∧LR R H ms vs
instance zkeep1 {α:Type} {R:Rp α} [Mono R]:Mono (isL R):=⟨fun e ⟨p,vs,h1,h2,h3⟩=>⟨p,vs,h1,e _ _ h2,h3.same e⟩⟩
def isS:Rp (List Nat):=fun _ l v=>v=.str (ap l)
instance zkeep2:Mono isS:=⟨fun _ h=>h⟩
def isI:Rp Int:=fun _ l v=>v=.int l
instance zkeep4:Mono isI:=⟨fun _ h=>h⟩
theorem LR.str {H:Hp} {ms:List (List Nat)} {vs:List V} (h:LR isS H ms vs):vs=ms.map fun l=>CM (ap l):=by
 refine Al fun i=>?_
 rw[yT]
 cases e:ms[i]? with
 | none=>rw[zQ]at e;rw[zQ.mpr (by rw[h.1];exact e)];rfl
 | some m=>obtain⟨v,a,b⟩:=h.get e;rw[a];cases b;rfl
end Wb
open Wb.Mono renaming mono→yE
namespace L2
open PySem PySem.Spec PyProof.Rows
section
variable {X:Cx} {K:PySem.W.Frag} {w:zt}
theorem iQ (h:X.K=K):cX X (.type "list") (fun xs H Q=>∃p ys,xs=[.ref p]∧(SqL K H p ys∨SqT K H p ys)∧∀l,H l=none→Q (.ref l) (cA H l (.lst ys))):=h▸jt
theorem sG (h:X.K=K) {o:Expr} {to:TE} {name:Str} {apos cpos:Pos} {T id:String} {r:V→List V→Hp→VK→Prop} (pa:Et T) (slot:Slot T name id) (hty:typeOf (.builtin id)=pure (.type "method_descriptor")) (hm:uS X id r) (ho:PE X o to)
  (hbase:attributeBase o name X.env (eval o X.env)=eval o X.env:=by rfl) (hline:(apos.endLine == cpos.line)=true:=by rfl):PE X (.Call (.Attribute o name apos) [] [] cpos) (bT K T r to):=h▸uV pa slot hty hm ho hbase hline
end
end L2
namespace Wb
open PySem L2
theorem LR.take {α:Type} {R:Rp α} {H:Hp} {ms:List α} {vs:List V} (h:LR R H ms vs) (k:Nat):LR R H (ms.take k) (vs.take k):=by
 refine⟨by simp[h.1],fun i v m a b=>?_⟩
 rw[List.getElem?_take]at a b
 split at a
 ·rw[if_pos (by assumption)]at b;exact h.2 i v m a b
 ·cases a
theorem LR.drop {α:Type} {R:Rp α} {H:Hp} {ms:List α} {vs:List V} (h:LR R H ms vs) (k:Nat):LR R H (ms.drop k) (vs.drop k):=by
 refine⟨by simp[h.1],fun i v m a b=>?_⟩
 rw[zZ]at a b
 exact h.2 _ v m a b
theorem none_of {H H':Hp} {p:Addr} (e:Same H H') (h:H' p=none):H p=none:=by
 cases z:H p with
 | none=>rfl
 | some x=>have:=e _ _ z;rw[h]at this;cases this
theorem o6 {H H3:Hp} {p:Addr} {o:HO} (e:Same H H3) (h:H p=none):Same H (cA H3 p o):=fun a u z=>by
 rw[aL (bP z h)];exact e _ _ z
end Wb
namespace L2
open PySem PySem.Spec PyProof.Rows
theorem fM:∀(xs:List V) (us:List yH),us.length=xs.length→(∀(j:Nat) (x:V) (u:yH),xs[j]? =some x→us[j]? =some u→RelV x u)→Vals xs us
 | [],[],_,_=>.nil
 | x::xs,u::us,hl,h=>.cons (h 0 x u rfl rfl) (fM xs us (by simpa using hl) fun j x u a b=>h (j+1) x u (by simpa using a) (by simpa using b))
 | [],_::_,hl,_=>by simp at hl
 | _::_,[],hl,_=>by simp at hl
theorem fg {α β:Type} {F:α→β→Prop} :∀{l₁:List α} {l₂:List β},Paired F l₁ l₂→∀{j:Nat} {b:β},l₂[j]? =some b→∃a,l₁[j]? =some a∧F a b
 | _,_,.nil,j,b,h=>by simp at h
 | _,_,.cons r rs,0,b,h=>by simp at h;subst h;exact⟨_,rfl,r⟩
 | _,_,.cons r rs,j+1,b,h=>by simp at h;obtain⟨a,h1,h2⟩:=fg rs h;exact⟨a,by simpa using h1,h2⟩
section
variable {X:Cx} {K:PySem.W.Frag} {w:zt}
theorem jz (h:X.K=K):cX X (.builtin "sorted") (fun xs H Q=>∃(p:Addr) (ns:List Int),xs=[.ref p]∧SqL K H p (ns.map BM)∧ns.length< 64∧∀(q:Addr) (ns':List Int),H q=none→ns'.Perm ns→ns'.Pairwise (· ≤ ·)→Q (.ref q) (cA H q (.lst (ns'.map BM)))):=by
 subst h
 intro pins s σ H xs us Q I r h
 obtain⟨p,ns,rfl,hq,h64,q⟩:=h
 obtain⟨u,rfl,rx⟩:=dF r
 cases rx
 obtain⟨its,r',pl,hz⟩:=I.list hq
 have hi:=lA r'
 have hlen:=IntsAre.length hi
 refine sorted_ints pl.isList hi (by omega) fun out ns' a1 a2 a3=>?_
 obtain⟨e,he⟩:=sortedAll_at s.heap its out
 have hl':=a2.length_eq
 refine⟨.ref (s.heap.objs.size+1),_,I.laid (t':=s.toks) (fun _ _=>sortedAll_old) (E3 _) (show ObjOk X.prog X.w _ _ _ (.lst (ns'.map BM))from⟨by rw[ze,zN];omega,out.toList,e,gm a1,by rw[E6];exact he⟩),rfl,q _ ns' (I.hok.fresh (E3 _)) a2 a3⟩
theorem fA (h:X.K=K):OpR X (compareOp .NotIn) (eM K true):=h▸js
end
end L2
namespace L2
theorem pR {k:Nat} {A:PySem.Around} (r:Room k A):A.units+1< PySem.cLine:=by have:=r.un;omega
end L2
namespace L2
open PySem PySem.Spec PyProof.Rows
end L2
namespace Wb
open PySem L2
end Wb
namespace L2
open PySem PySem.Spec PyProof.Rows Wb
end L2
namespace L2
open PySem PySem.Spec PyProof.Rows
end L2
namespace Mi
inductive Res (α:Type) where
 | ok (a:α) | err (j:Nat) | stuck
namespace Res
variable {α β:Type}
def Ok (m:Res α) (P:α→Prop):Prop:=match m with | .ok a=>P a | _=>False
def bind (m:Res α) (f:α→Res β):Res β:=match m with | .ok a=>f a | .err j=>.err j | .stuck=>.stuck
theorem bind_ok {m:Res α} {f:α→Res β} {P:β→Prop} (h:m.Ok fun a=>(f a).Ok P):(m.bind f).Ok P:=by cases m <;> exact h
theorem Ok.imp {m:Res α} {P Q:α→Prop} (h:m.Ok P) (k:∀a,P a→Q a):m.Ok Q:=by cases m <;> first | exact k _ h | exact h
theorem Ok.ex {m:Res α} {P:α→Prop} (h:m.Ok P):∃a,m=.ok a∧P a:=by
 cases m with
 | ok a=>exact⟨a,rfl,h⟩
 | err j=>exact h.elim
 | stuck=>exact h.elim
def OkE (m:Res α) (Er:Nat→Prop) (P:α→Prop):Prop:=match m with | .ok a=>P a | .err j=>Er j | .stuck=>False
theorem okE_bind {m:Res α} {f:α→Res β} {Er:Nat→Prop} {P:β→Prop} (h:(m.bind f).OkE Er P):m.OkE Er fun a=>(f a).OkE Er P:=by cases m <;> exact h
theorem OkE.imp {m:Res α} {Er:Nat→Prop} {P Q:α→Prop} (h:m.OkE Er P) (k:∀a,P a→Q a):m.OkE Er Q:=by cases m <;> first | exact k _ h | exact h
theorem Ok.e {m:Res α} {Er:Nat→Prop} {P:α→Prop} (h:m.Ok P):m.OkE Er P:=by
 cases m with
 | ok a=>exact h
 | err j=>exact h.elim
 | stuck=>exact h.elim
@[simp] theorem bind_ok' (a:α) (f:α→Res β):(Res.ok a).bind f=f a:=rfl
end Res
abbrev cap:Nat:=100000
def dU (b:Prop) [Decidable b] {α:Type} (a:α):Res α:=if b then .ok a else .stuck
theorem br {b:Prop} [Decidable b] {α:Type} {a:α} (h:b):dU b a=.ok a:=if_pos h
theorem bg {b:Prop} [Decidable b] {α:Type} {a:α} {Er:Nat→Prop} {P:α→Prop} (h:(dU b a).OkE Er P):b∧P a:=by
 unfold dU at h
 by_cases hb:b
 ·rw[if_pos hb]at h;exact⟨hb,h⟩
 ·rw[if_neg hb]at h;exact h.elim
def sH {α:Type} :Option α→Res α
 | some a=>.ok a
 | none=>.stuck
theorem dl {α:Type} {o:Option α} {Er:Nat→Prop} {P:α→Prop} (h:(sH o).OkE Er P):∃a,o=some a∧P a:=by
 cases o with
 | none=>exact h.elim
 | some a=>exact⟨a,rfl,h⟩
abbrev Tx:=List Nat
def ca (i:Int):Int:=if i< 0 then -i else i
def i9 (i j:Int):Res Int:=dU ((-(2^64)< i∧i< 2^64)∨(-(2^64)< j∧j< 2^64)) (i*j)
def gB (i j:Int):Res Int:=dU (0< j∧j< 1073741824) (i/ j)
def iR (i j:Int):Res Int:=dU (0< j) (i% j)
def ixN (n:Nat) (i:Int):Option Nat:=if 0≤i then(if i< n then some i.toNat else none)else if -(n:Int)≤i then some (i+n).toNat else none
def p4 {α:Type} (xs:List α) (i:Int):Option α:=(ixN xs.length i).bind fun j=>xs[j]?
theorem sI {α:Type} {xs:List α} {j:Nat} {v:α} (h:xs[j]? =some v):p4 xs (j:Int)=some v:=by
 have hl:j< xs.length:=(yR.mp h).1
 unfold p4 ixN
 rw[if_pos (by omega),if_pos (by omega),A3]
 exact h
theorem pS {α:Type} {xs:List α} {i:Int} (h0:0≤i) (h1:i< xs.length):∃h:i.toNat< xs.length,p4 xs i=some xs[i.toNat]:=by
 have h2:i.toNat< xs.length:=by omega
 refine⟨h2,?_⟩
 have:=sI (xs:=xs) (j:=i.toNat) (v:=xs[i.toNat]) (by simp[h2])
 rw[Int.toNat_of_nonneg h0]at this
 exact this
def ic {α:Type} (xs:List α) (i:Int):Res α:=sH (p4 xs i)
def dC (x:Tx) (i:Int):Res Tx:=(dU (x.length≤cap) x).bind fun x=>(sH (p4 x i)).bind fun c=>.ok [c]
def iS (a b:Tx):Res Tx:=dU (a.length+b.length≤cap) (a++b)
def dz {α:Type} (a:List α) (x:α):Res (List α):=dU (a.length< cap) (a++ [x])
def vb (a:Tx) (n:Int):Res Tx:=match a with
 | [c]=>dU (0≤n∧n≤cap) (AK n.toNat c)
 | _=>.stuck
def sIx (n d:Nat):Option Int→Nat
 | none=>d
 | some v=>if v< 0 then(v+(n:Int)).toNat else min v.toNat n
def cut {α:Type} (l:List α) (lo hi:Option Int):List α:=(l.drop (sIx l.length 0 lo)).take (sIx l.length l.length hi- sIx l.length 0 lo)
def o7 (x:Tx) (lo hi:Option Int):Res Tx:=dU (x.length≤cap) (cut x lo hi)
def ie {α:Type} (xs:List α) (i:Int) (x:α):Res (List α):=(sH (ixN xs.length i)).bind fun j=>.ok (xs.set j x)
def pT (x:Tx) (c:Nat):Option Nat:=x.findIdx? (· == c)
def gp (x y:Tx):Res Int:=match y with
 | [c]=>(sH (pT x c)).bind fun j=>.ok (j:Int)
 | _=>.stuck
def kE (xs:List Tx):Res Tx:=dU (xs.flatten.length≤cap) xs.flatten
def look {κ α:Type} [DecidableEq κ] (kvs:List (κ×α)) (k:κ):Option α:=(kvs.find? fun p=>decide (p.1=k)).map (·.2)
def getD {κ α:Type} [DecidableEq κ] (kvs:List (κ×α)) (k:κ):Res α:=sH (look kvs k)
def gJ {α β:Type} (f:α→Res β):List α→Res (List β)
 | []=>.ok []
 | a::r=>(f a).bind fun b=>(gJ f r).bind fun bs=>.ok (b::bs)
def dA {α β:Type} (xs:List α) (f:α→Res β):Res (List β):=(dU (xs.length≤cap) xs).bind fun xs=>gJ f xs
def fN {α β:Type} (f:α→Res (Option β)):List α→Res (List β)
 | []=>.ok []
 | a::r=>(f a).bind fun b=>(fN f r).bind fun bs=>.ok (match b with | some b=>b::bs | none=>bs)
def mM {α β:Type} (xs:List α) (f:α→Res (Option β)):Res (List β):=(dU (xs.length≤cap) xs).bind fun xs=>fN f xs
def bF {α S:Type} (f:α→S→Res S):List α→S→Res S
 | [],s=>.ok s
 | a::r,s=>(f a s).bind fun s=>bF f r s
inductive Fl (γ S:Type) where
 | nx (s:S) | bk (s:S) | rt (r:γ)
def wn {S γ:Type} (k:S→Res (Fl γ S)):Fl γ S→Res (Fl γ S)
 | .nx s=>k s
 | .bk s=>.ok (.nx s)
 | .rt x=>.ok (.rt x)
def fP {α S γ:Type} (f:α→S→Res (Fl γ S)):List α→S→Res (Fl γ S)
 | [],s=>.ok (.nx s)
 | a::r,s=>(f a s).bind (wn (fP f r))
def ig (n:Int):List Int:=(Aj n.toNat).map fun(i:Nat)=>(i:Int)
def eT (n:Int):Res (List Int):=dU (-(2^62)≤n∧n< 2^62) (ig n)
def cv (x:Tx):List Tx:=x.map fun c=>[c]
def gq (xs:List Int):List Int:=xs.mergeSort fun a b=>decide (a≤b)
theorem gC (xs:List Int):(gq xs).Perm xs:=Ec _ _
theorem j9 (xs:List Int):(gq xs).Pairwise (· ≤ ·):=by
 have:=Dx (le:=fun a b:Int=>decide (a≤b)) (fun a b c h1 h2=>by simp at *;omega) (fun a b=>by simp;omega) xs
 exact this.imp fun h=>by simpa using h
theorem o8 {xs ys:List Int} (h:ys.Perm xs) (hs:ys.Pairwise (· ≤ ·)):ys=gq xs:=
 Dn (le:=(· ≤ ·)) (fun a b _ _ h1 h2=>by omega) hs (j9 xs) (h.trans (gC xs).symm)
def pU (xs:List Int):Res (List Int):=dU (xs.length< 64) (gq xs)
def vR {α:Type} [DecidableEq α] (a b:α):Res Bool:=if a=b then .ok true else .stuck
def vc {α:Type} :List α→Res (α×α×α)
 | [a,b,c]=>.ok (a,b,c)
 | _=>.stuck
theorem mN {α β:Type} {f:α→Res β} {g:α→β} :∀{xs:List α},(∀x∈xs,f x=.ok (g x))→gJ f xs=.ok (xs.map g)
 | [],_=>rfl
 | a :: r, h => by
  unfold gJ
  rw[h a (zk ..),Res.bind_ok',mN fun x hx=>h x (zh _ hx)]
  rfl
theorem eU {α β:Type} {f:α→Res β} {g:α→β} {xs:List α} (hl:xs.length≤cap) (h:∀x∈xs,f x=.ok (g x)):dA xs f=.ok (xs.map g):=by
 unfold dA;rw[br hl,Res.bind_ok',mN h]
end Mi
open Mi.Res renaming okE_bind→yG,bind_ok'→yI,ok→yL,stuck→GI
open Mi.Res.Ok renaming imp→Ag
open Mi.Res.OkE renaming imp→zB
namespace Wb
open PySem L2 Mi
variable {Er:Nat→Prop}
structure Wd where
 G:Hp
 H:Hp
 ok:Same G H
structure Ext (W W':Wd):Prop where
 g:Same W.G W'.G
 h:Same W.H W'.H
 k:∀p,W.H p≠none→W'.G p=W.G p
theorem Ext.refl (W:Wd):Ext W W:=⟨.refl _,.refl _,fun _ _=>rfl⟩
theorem Ext.trans {W W1 W2:Wd} (a:Ext W W1) (b:Ext W1 W2):Ext W W2:=⟨a.g.trans b.g,a.h.trans b.h,fun p hp=>by
 obtain⟨o,ho⟩:=BI.mp hp
 rw[b.k p (by rw[a.h p o ho];exact fun z=>nomatch z),a.k p hp]⟩
theorem Same.upd2 {G H:Hp} (h:Same G H) (p:Addr) (o:HO):Same (cA G p o) (cA H p o):=fun a u e=>by
 by_cases z:a=p
 ·subst z;rw[aF]at e ⊢;exact e
 ·rw[aL z]at e ⊢;exact h _ _ e
def Wd.new (W:Wd) (p:Addr) (o:HO):Wd:=⟨cA W.G p o,cA W.H p o,Same.upd2 W.ok p o⟩
theorem Wd.gnone (W:Wd) {p:Addr} (h:W.H p=none):W.G p=none:=none_of W.ok h
theorem Ext.new {W:Wd} {p:Addr} (o:HO) (h:W.H p=none):Ext W (W.new p o):=⟨d9 (W.gnone h),d9 h,fun q hq=>aL fun z=>hq (z▸h)⟩
def Wd.mut (W:Wd) (p:Addr) (o:HO) (h:W.G p=none):Wd:=⟨W.G,cA W.H p o,o6 W.ok h⟩
theorem Ext.own {W:Wd} {p:Addr} (o:HO) (h:W.H p=none):Ext W (W.mut p o (W.gnone h)):=⟨.refl _,d9 h,fun _ _=>rfl⟩
def Wd.frz (W:Wd) (p:Addr) (o:HO) (h:W.H p=some o):Wd:=⟨cA W.G p o,W.H,fun a u e=>by
 by_cases z:a=p
 ·subst z;rw[aF]at e;cases e;exact h
 ·rw[aL z]at e;exact W.ok _ _ e⟩
theorem Ext.mut {W0 W:Wd} {p:Addr} {o:HO} (e:Ext W0 W) (hp:W0.H p=none) (h:W.G p=none):Ext W0 (W.mut p o h):=
 ⟨e.g,fun a u z=>by show cA W.H p o a=_;rw[aL (bP z hp)];exact e.h _ _ z,e.k⟩
theorem Ext.frz {W0 W:Wd} {p:Addr} {o:HO} (e:Ext W0 W) (hp:W0.H p=none) (h:W.H p=some o) (hg:W.G p=none):Ext W0 (W.frz p o h):=
 ⟨e.g.trans (d9 hg),e.h,fun q hq=>by show cA W.G p o q=_;rw[aL (fun z=>hq (by rw[z];exact hp))];exact e.k q hq⟩
abbrev Rw (α:Type):=Wd→α→V→Prop
class MonoW {α:Type} (R:Rw α):Prop where
 mono:∀{W W':Wd} {a:α} {v:V},Ext W W'→R W a v→R W' a v
def sh {α:Type} (R:Rp α):Rw α:=fun W a v=>R W.G a v
instance zkeep8 {α:Type} {R:Rp α} [Mono R]:MonoW (sh R):=⟨fun e h=>yE (R:=R) e.g h⟩
def pk {α:Type} (R:Rp α):Rw (List α):=fun W xs v=>∃p vs,v=.ref p∧W.H p=some (.lst vs)∧LR R W.G xs vs
instance zkeep9 {α:Type} {R:Rp α} [Mono R]:MonoW (pk R):=⟨fun e ⟨p,vs,a,b,c⟩=>⟨p,vs,a,e.h _ _ b,c.same e.g⟩⟩
theorem pk.of {α:Type} {R:Rp α} {W:Wd} {xs:List α} {v:V} (h:isL R W.G xs v):pk R W xs v:=by
 obtain⟨p,vs,a,b,c⟩:=h
 exact⟨p,vs,a,W.ok _ _ b,c⟩
structure Ow {α:Type} (R:Rp α) (W:Wd) (p:Addr) (xs:List α):Prop where
 g:W.G p=none
 h:∃vs,W.H p=some (.lst vs)∧LR R W.G xs vs
theorem Ow.mono {α:Type} {R:Rp α} [Mono R] {W W':Wd} {p:Addr} {xs:List α} (o:Ow R W p xs) (e:Ext W W'):Ow R W' p xs:=by
 obtain⟨vs,a,b⟩:=o.h
 exact⟨by rw[e.k p (by rw[a];exact fun z=>nomatch z)];exact o.g,vs,e.h _ _ a,b.same e.g⟩
theorem Ow.pk {α:Type} {R:Rp α} {W:Wd} {p:Addr} {xs:List α} (o:Ow R W p xs):pk R W xs (.ref p):=by
 obtain⟨vs,a,b⟩:=o.h
 exact⟨p,vs,rfl,a,b⟩
theorem Ow.frz {α:Type} {R:Rp α} [Mono R] {W0 W:Wd} {p:Addr} {xs:List α} (o:Ow R W p xs) (e:Ext W0 W) (hp:W0.H p=none):
  ∃W',W'.H=W.H∧Ext W0 W'∧Same W.G W'.G∧isL R W'.G xs (.ref p)∧∀q,q≠p→W'.G q=W.G q:=by
 obtain⟨vs,a,b⟩:=o.h
 exact⟨W.frz p _ a,rfl,e.frz hp a o.g,d9 o.g,⟨p,vs,rfl,aF,b.same (d9 o.g)⟩,fun q hq=>aL hq⟩
theorem Ow.keep {α:Type} {R:Rp α} [Mono R] {W W':Wd} {q:Addr} {xs:List α} (o:Ow R W q xs) (hH:W'.H q=W.H q) (hs:Same W.G W'.G) (hg:W'.G q=W.G q):Ow R W' q xs:=by
 obtain⟨vs,a,b⟩:=o.h
 exact⟨by rw[hg];exact o.g,vs,by rw[hH];exact a,b.same hs⟩
def EV (Er:Nat→Prop) {α:Type} (t:TE) (σ:St) (W:Wd) (R:Rw α) (m:Res α):Prop:=∀W1,Ext W W1→∀Q:VK,m.OkE Er (fun a=>∀v W2,Ext W1 W2→R W2 a v→Q v W2.H)→t σ W1.H Q
def EVo (Er:Nat→Prop) {α:Type} (t:TE) (σ:St) (W:Wd) (R:Rp α) (m:Res (List α)):Prop:=∀W1,Ext W W1→∀Q:VK,m.OkE Er (fun xs=>∀p W2,Ext W1 W2→W1.H p=none→Ow R W2 p xs→Q (.ref p) W2.H)→t σ W1.H Q
def TV (Er:Nat→Prop) (t:TT) (σ:St) (W:Wd) (m:Res Bool):Prop:=∀W1,Ext W W1→∀Q:Bool→Hp→Prop,m.OkE Er (fun b=>∀W2,Ext W1 W2→Q b W2.H)→t σ W1.H Q
section
variable {α β γ:Type} {t ta tb:TE} {σ:St} {W W0 W':Wd} {K:PySem.W.Frag}
theorem EV.imp {R R':Rw α} {m:Res α} (h:EV Er t σ W R m) (f:∀W a v,R W a v→R' W a v):EV Er t σ W R' m:=fun W1 e1 Q k=>h W1 e1 Q (k.imp fun a ka v W2 e2 r=>ka v W2 e2 (f _ _ _ r))
theorem EVo.ev {R:Rp α} [Mono R] {m:Res (List α)} (h:EVo Er t σ W R m):EV Er t σ W (sh (isL R)) m:=fun W1 e1 Q k=>h W1 e1 Q (k.imp fun xs kx p W2 e2 hp o=>by
 obtain⟨W3,hH,e3,_,r,_⟩:=o.frz e2 hp
 rw[←hH]
 exact kx (.ref p) W3 e3 r)
theorem EVo.pk {R:Rp α} [Mono R] {m:Res (List α)} (h:EVo Er t σ W R m):EV Er t σ W (pk R) m:=fun W1 e1 Q k=>h W1 e1 Q (k.imp fun xs kx p W2 e2 hp o=>kx (.ref p) W2 e2 o.pk)
theorem EV.pk {R:Rp α} {m:Res (List α)} (h:EV Er t σ W (sh (isL R)) m):EV Er t σ W (pk R) m:=h.imp fun _ _ _ r=>pk.of r
theorem a8 {R:Rw α} [MonoW R] {i:Nat} {v:V} {a:α} (r:R W a v) (h:σ[i]? =some (some v):=by rfl):EV Er (bt i) σ W R (.ok a):=fun W1 e1 Q k=>⟨v,h,k v W1 (.refl _) (MonoW.mono e1 r)⟩
theorem eD {R:Rp α} [Mono R] {i:Nat} {p:Addr} {a:List α} (r:Ow R W p a) (h:σ[i]? =some (some (.ref p)):=by rfl):EV Er (bt i) σ W (pk R) (.ok a):=a8 r.pk h
def isB:Rp Bool:=fun _ b v=>v=.bl b
instance zkeep10:Mono isB:=⟨fun _ h=>h⟩
theorem ai {i:Int} :EV Er (tC (.int i)) σ W (sh isI) (.ok i):=fun W1 _ Q k=>k _ W1 (.refl _) rfl
theorem aZ {x:Str} {l:Tx} (h:x=ap l):EV Er (tC (.str x)) σ W (sh isS) (.ok l):=fun W1 _ Q k=>k _ W1 (.refl _) (by rw[h];rfl)
theorem pV {b:Bool} :EV Er (tC (.bl b)) σ W (sh isB) (.ok b):=fun W1 _ Q k=>k _ W1 (.refl _) rfl
theorem lJ {r:R2} {Ra:Rw α} [MonoW Ra] {Rb:Rw β} {R:Rw γ} {ma:Res α} {mb:Res β} {f:α→β→Res γ} (ha:EV Er ta σ W Ra ma) (hb:EV Er tb σ W Rb mb)
  (h:∀W a b x y Q,Ra W a x→Rb W b y→(f a b).OkE Er (fun c=>∀v W2,Ext W W2→R W2 c v→Q v W2.H)→r x y W.H Q):EV Er (cI r ta tb) σ W R (ma.bind fun a=>mb.bind fun b=>f a b):=fun W1 e1 Q k=>by
 refine ha W1 e1 _ ((yG k).imp fun a ka x W2 e2 hx=>?_)
 refine hb W2 (e1.trans e2) _ ((yG ka).imp fun b kb y W3 e3 hy=>?_)
 exact h W3 a b x y Q (MonoW.mono e3 hx) hy (kb.imp fun c kc v W4 e4 hv=>kc v W4 ((e2.trans e3).trans e4) hv)
theorem xT {r:V→Hp→VK→Prop} {Ra:Rw α} {R:Rw γ} {ma:Res α} {f:α→Res γ} (ha:EV Er ta σ W Ra ma)
  (h:∀W a x Q,Ra W a x→(f a).OkE Er (fun c=>∀v W2,Ext W W2→R W2 c v→Q v W2.H)→r x W.H Q):EV Er (eJ r ta) σ W R (ma.bind f):=fun W1 e1 Q k=>by
 refine ha W1 e1 _ ((yG k).imp fun a ka x W2 e2 hx=>?_)
 exact h W2 a x Q hx (ka.imp fun c kc v W4 e4 hv=>kc v W4 (e2.trans e4) hv)
section
variable {ma mb:Res Int}
theorem aY {g:Int→Int→Int} (ha:EV Er ta σ W (sh isI) ma) (hb:EV Er tb σ W (sh isI) mb):EV Er (cI (dD fun i j=>.int (g i j)) ta tb) σ W (sh isI) (ma.bind fun a=>mb.bind fun b=>.ok (g a b)):=
 lJ ha hb fun W a b x y Q hx hy k=>by cases hx;cases hy;exact⟨a,b,rfl,rfl,k _ W (.refl _) rfl⟩
theorem pW {C:Int→Int→Prop} {g:Int→Int→Int} {f:Int→Int→Res Int} (hf:∀a b P,(f a b).OkE Er P→C a b∧P (g a b)) (ha:EV Er ta σ W (sh isI) ma) (hb:EV Er tb σ W (sh isI) mb):
  EV Er (cI (rI C fun i j=>.int (g i j)) ta tb) σ W (sh isI) (ma.bind fun a=>mb.bind fun b=>f a b):=
 lJ ha hb fun W a b x y Q hx hy k=>by cases hx;cases hy;exact⟨a,b,rfl,rfl,(hf a b _ k).1,(hf a b _ k).2 _ W (.refl _) rfl⟩
theorem ii (ha:EV Er ta σ W (sh isI) ma) (hb:EV Er tb σ W (sh isI) mb):EV Er (cI (rI CMul fun i j=>.int (i*j)) ta tb) σ W (sh isI) (ma.bind fun a=>mb.bind fun b=>i9 a b):=pW (fun a b P h=>by unfold i9 at h;obtain⟨h1,h2⟩:=bg h;exact⟨h1,h2⟩) ha hb
theorem mO (ha:EV Er ta σ W (sh isI) ma) (hb:EV Er tb σ W (sh isI) mb):EV Er (cI (rI wb fun i j=>.int (i/ j)) ta tb) σ W (sh isI) (ma.bind fun a=>mb.bind fun b=>gB a b):=pW (fun a b P h=>by unfold gB at h;obtain⟨h1,h2⟩:=bg h;exact⟨h1,h2⟩) ha hb
theorem ij (ha:EV Er ta σ W (sh isI) ma) (hb:EV Er tb σ W (sh isI) mb):EV Er (cI (rI (fun _ j=>0< j) fun i j=>.int (i% j)) ta tb) σ W (sh isI) (ma.bind fun a=>mb.bind fun b=>iR a b):=pW (fun a b P h=>by unfold iR at h;obtain⟨h1,h2⟩:=bg h;exact⟨h1,h2⟩) ha hb
theorem aj {C:Int→Int→Prop} {g:Int→Int→Int} {n:Int} (hn:∀a,C a n) (ha:EV Er ta σ W (sh isI) ma):EV Er (cI (rI C fun i j=>.int (g i j)) ta (tC (.int n))) σ W (sh isI) (ma.bind fun a=>.ok (g a n)):=
 fun W1 e1 Q k=>ha W1 e1 _ ((yG k).imp fun a ka x W2 e2 hx=>by cases hx;exact⟨a,n,rfl,rfl,hn a,ka _ W2 e2 rfl⟩)
end
end
end Wb
open Wb.EV renaming pk→Eo
open Wb.EVo renaming ev→Bt,pk→F7
open Wb.Ext renaming new→CW
open Wb.MonoW renaming mono→zJ
namespace Wb
open PySem L2 Mi
variable {Er:Nat→Prop}
section
variable {α β γ δ:Type} {t ta tb tc:TE} {σ:St} {W W0 W':Wd} {K:PySem.W.Frag}
theorem pX {n:Nat} (h:n≤cap):n≤sizeLine:=by rw[zN];unfold cap at h;omega
section
variable {ma mb:Res Int}
theorem jA (ha:EV Er ta σ W (sh isI) ma):EV Er (eJ (rU fun i=>.int (-i)) ta) σ W (sh isI) (ma.bind fun a=>.ok (-a)):=
 xT ha fun W a x Q hx k=>by cases hx;exact⟨a,rfl,k _ W (.refl _) rfl⟩
theorem cH {g:Int→Int→Bool} (ha:EV Er ta σ W (sh isI) ma) (hb:EV Er tb σ W (sh isI) mb):EV Er (cI (dD fun i j=>.bl (g i j)) ta tb) σ W (sh isB) (ma.bind fun a=>mb.bind fun b=>.ok (g a b)):=
 lJ ha hb fun W a b x y Q hx hy k=>by cases hx;cases hy;exact⟨a,b,rfl,rfl,k _ W (.refl _) rfl⟩
end
theorem dI {a b:Int} :decide (BM a=BM b)=decide (a=b):=by rw[B7];simp
theorem dS {a b:Tx} :decide (CM (ap a)=CM (ap b))=decide (a=b):=by
 rw[B7,decide_eq_true_eq,decide_eq_true_eq]
 exact⟨fun h=>mK (CM.inj h),fun h=>by rw[h]⟩
theorem cw {ma mb:Res Int} (ha:EV Er ta σ W (sh isI) ma) (hb:EV Er tb σ W (sh isI) mb):EV Er (cI eK ta tb) σ W (sh isB) (ma.bind fun a=>mb.bind fun b=>.ok (decide (a=b))):=
 lJ ha hb fun W a b x y Q hx hy k=>by cases hx;cases hy;exact⟨rfl,by rw[dI];exact k _ W (.refl _) rfl⟩
theorem eV {ma mb:Res Tx} (ha:EV Er ta σ W (sh isS) ma) (hb:EV Er tb σ W (sh isS) mb):EV Er (cI eK ta tb) σ W (sh isB) (ma.bind fun a=>mb.bind fun b=>.ok (decide (a=b))):=
 lJ ha hb fun W a b x y Q hx hy k=>by cases hx;cases hy;exact⟨rfl,by rw[dS];exact k _ W (.refl _) rfl⟩
theorem vd {ma mb:Res Int} (ha:EV Er ta σ W (sh isI) ma) (hb:EV Er tb σ W (sh isI) mb):EV Er (cI eL ta tb) σ W (sh isB) (ma.bind fun a=>mb.bind fun b=>.ok (!decide (a=b))):=
 lJ ha hb fun W a b x y Q hx hy k=>by cases hx;cases hy;exact⟨rfl,by rw[dI];exact k _ W (.refl _) rfl⟩
theorem pY {ma mb:Res Tx} (ha:EV Er ta σ W (sh isS) ma) (hb:EV Er tb σ W (sh isS) mb):EV Er (cI eL ta tb) σ W (sh isB) (ma.bind fun a=>mb.bind fun b=>.ok (!decide (a=b))):=
 lJ ha hb fun W a b x y Q hx hy k=>by cases hx;cases hy;exact⟨rfl,by rw[dS];exact k _ W (.refl _) rfl⟩
theorem aI {m:Res Bool} (h:EV Er t σ W (sh isB) m):TV Er (bm t) σ W m:=fun W1 e1 Q k=>h W1 e1 _ (k.imp fun b kb v W2 e2 hv=>⟨b,hv,kb W2 e2⟩)
theorem lK {m:Res Bool} (h:EV Er t σ W (sh isB) m):TV Er (tB t) σ W m:=fun W1 e1 Q k=>h W1 e1 _ (k.imp fun b kb v W2 e2 hv=>⟨b,hv,kb W2 e2⟩)
theorem pZ {t:TT} {m:Res Bool} (h:TV Er t σ W m):TV Er (cj t) σ W (m.bind fun b=>.ok (!b)):=fun W1 e1 Q k=>h W1 e1 _ ((yG k).imp fun b kb W2 e2=>kb W2 e2)
theorem fE {t u:TT} {m n:Res Bool} (h:TV Er t σ W m) (g:TV Er u σ W n):TV Er (ci t u) σ W (m.bind fun b=>if b then n else .ok false):=fun W1 e1 Q k=>h W1 e1 _ ((yG k).imp fun b kb W2 e2=>by
 cases b with
 | true=>exact g W2 (e1.trans e2) _ (kb.imp fun c kc W3 e3=>kc W3 (e2.trans e3))
 | false=>exact kb W2 e2)
theorem uw {t u:TT} {m n:Res Bool} (h:TV Er t σ W m) (g:TV Er u σ W n):TV Er (eO t u) σ W (m.bind fun b=>if b then .ok true else n):=fun W1 e1 Q k=>h W1 e1 _ ((yG k).imp fun b kb W2 e2=>by
 cases b with
 | true=>exact kb W2 e2
 | false=>exact g W2 (e1.trans e2) _ (kb.imp fun c kc W3 e3=>kc W3 (e2.trans e3)))
theorem q0 {m n:Res Bool} (h:EV Er ta σ W (sh isB) m) (g:EV Er tb σ W (sh isB) n):EV Er (bj ta tb) σ W (sh isB) (m.bind fun b=>if b then n else .ok false):=fun W1 e1 Q k=>h W1 e1 _ ((yG k).imp fun b kb v W2 e2 hv=>⟨b,hv,by
 cases b with
 | true=>exact g W2 (e1.trans e2) _ (kb.imp fun c kc v W3 e3 hv=>kc v W3 (e2.trans e3) hv)
 | false=>exact kb _ W2 e2 rfl⟩)
theorem wo {m n:Res Bool} (h:EV Er ta σ W (sh isB) m) (g:EV Er tb σ W (sh isB) n):EV Er (cm ta tb) σ W (sh isB) (m.bind fun b=>if b then .ok true else n):=fun W1 e1 Q k=>h W1 e1 _ ((yG k).imp fun b kb v W2 e2 hv=>⟨b,hv,by
 cases b with
 | true=>exact kb _ W2 e2 rfl
 | false=>exact g W2 (e1.trans e2) _ (kb.imp fun c kc v W3 e3 hv=>kc v W3 (e2.trans e3) hv)⟩)
theorem kF {R:Rw α} {c:TT} {mc:Res Bool} {m n:Res α} (hc:TV Er c σ W mc) (h:EV Er ta σ W R m) (g:EV Er tb σ W R n):EV Er (eI c ta tb) σ W R (mc.bind fun b=>if b then m else n):=fun W1 e1 Q k=>hc W1 e1 _ ((yG k).imp fun b kb W2 e2=>by
 cases b with
 | true=>exact h W2 (e1.trans e2) _ (kb.imp fun c kc v W3 e3 hv=>kc v W3 (e2.trans e3) hv)
 | false=>exact g W2 (e1.trans e2) _ (kb.imp fun c kc v W3 e3 hv=>kc v W3 (e2.trans e3) hv))
theorem fh {ma mb:Res Tx} (ha:EV Er ta σ W (sh isS) ma) (hb:EV Er tb σ W (sh isS) mb):EV Er (cI (fun x y H Q=>∃i j,x=.str i∧y=.str j∧i.length+j.length≤sizeLine∧Q (.str (i++j)) H) ta tb) σ W (sh isS) (ma.bind fun a=>mb.bind fun b=>iS a b):=
 lJ ha hb fun W a b x y Q hx hy k=>by
  cases hx;cases hy
  obtain⟨h1,h2⟩:=bg k
  exact⟨_,_,rfl,rfl,by rw[dG,dG];exact pX h1,by rw[lD];exact h2 _ W (.refl _) rfl⟩
theorem sJ {ma:Res Tx} {mb:Res Int} (ha:EV Er ta σ W (sh isS) ma) (hb:EV Er tb σ W (sh isI) mb):EV Er (cI (fun x y H Q=>∃c n,x=.str (ap [c])∧y=.int n∧0≤n∧n≤100000∧Q (.str (ap (AK n.toNat c))) H) ta tb) σ W (sh isS) (ma.bind fun a=>mb.bind fun b=>vb a b):=
 lJ ha hb fun W a b x y Q hx hy k=>by
  cases hx;cases hy
  match a,k with
  | [c], k =>
   obtain⟨h1,h2⟩:=bg k
   exact⟨c,b,rfl,rfl,h1.1,h1.2,h2 _ W (.refl _) rfl⟩
theorem bC {ma:Res Tx} {mb:Res Int} (ha:EV Er ta σ W (sh isS) ma) (hb:EV Er tb σ W (sh isI) mb):EV Er (cI cq ta tb) σ W (sh isS) (ma.bind fun a=>mb.bind fun b=>dC a b):=
 lJ ha hb fun W a b x y Q hx hy k=>by
  cases hx;cases hy
  obtain⟨h1,h2⟩:=bg (yG k)
  obtain⟨c,h3,h4⟩:=dl (yG h2)
  exact⟨_,b,c,rfl,rfl,by rw[dG];exact pX h1,by rw[mJ];exact h3,h4 _ W (.refl _) rfl⟩
theorem wq {R:Rw α} {r:V→Option Int→Option Int→Hp→VK→Prop} {Ra:Rw β} [MonoW Ra] {ma:Res β} {tl th:TO} {ml mh:Res (Option Int)} {f:β→Option Int→Option Int→Res α} (ha:EV Er ta σ W Ra ma)
  (hl:∀W1,Ext W W1→∀Q:Option Int→Hp→Prop,ml.OkE Er (fun o=>∀W2,Ext W1 W2→Q o W2.H)→tl σ W1.H Q) (hh:∀W1,Ext W W1→∀Q:Option Int→Hp→Prop,mh.OkE Er (fun o=>∀W2,Ext W1 W2→Q o W2.H)→th σ W1.H Q)
  (h:∀W a x lo hi Q,Ra W a x→(f a lo hi).OkE Er (fun c=>∀v W2,Ext W W2→R W2 c v→Q v W2.H)→r x lo hi W.H Q):EV Er (eu r ta tl th) σ W R (ma.bind fun a=>ml.bind fun lo=>mh.bind fun hi=>f a lo hi):=fun W1 e1 Q k=>
 ha W1 e1 _ ((yG k).imp fun a ka x W2 e2 hx=>hl W2 (e1.trans e2) _ ((yG ka).imp fun lo kl W3 e3=>hh W3 ((e1.trans e2).trans e3) _ ((yG kl).imp fun hi kh W4 e4=>
  h W4 a x lo hi Q (zJ (e3.trans e4) hx) (kh.imp fun c kc v W5 e5 hv=>kc v W5 (((e2.trans e3).trans e4).trans e5) hv))))
theorem q9:∀W1,Ext W W1→∀Q:Option Int→Hp→Prop,(yL (none:Option Int)).OkE Er (fun o=>∀W2,Ext W1 W2→Q o W2.H)→aH σ W1.H Q:=fun W1 _ Q k=>k W1 (.refl _)
theorem qa {m:Res Int} (h:EV Er t σ W (sh isI) m):∀W1,Ext W W1→∀Q:Option Int→Hp→Prop,(m.bind fun i=>.ok (some i)).OkE Er (fun o=>∀W2,Ext W1 W2→Q o W2.H)→bn t σ W1.H Q:=fun W1 e1 Q k=>
 h W1 e1 _ ((yG k).imp fun i ki v W2 e2 hv=>⟨i,hv,ki W2 e2⟩)
theorem mP {ma:Res Tx} {tl th:TO} {ml mh:Res (Option Int)} (ha:EV Er ta σ W (sh isS) ma)
  (hl:∀W1,Ext W W1→∀Q:Option Int→Hp→Prop,ml.OkE Er (fun o=>∀W2,Ext W1 W2→Q o W2.H)→tl σ W1.H Q) (hh:∀W1,Ext W W1→∀Q:Option Int→Hp→Prop,mh.OkE Er (fun o=>∀W2,Ext W1 W2→Q o W2.H)→th σ W1.H Q):
  EV Er (eu (fun x lo hi H Q=>∃l,x=.str (ap l)∧l.length≤sizeLine∧Q (.str (ap (gH l lo hi))) H) ta tl th) σ W (sh isS) (ma.bind fun a=>ml.bind fun lo=>mh.bind fun hi=>o7 a lo hi):=
 wq ha hl hh fun W a x lo hi Q hx k=>by
  cases hx
  obtain⟨h1,h2⟩:=bg k
  exact⟨a,rfl,pX h1,h2 _ W (.refl _) rfl⟩
theorem wr (x:Tx) (c j:Nat) (h:pT x c=some j):D0 (ap x) (ap [c])=(j:Int):=by
 unfold pT at h
 rw[List.findIdx?_eq_some_iff_getElem]at h
 obtain⟨hj,h1,h2⟩:=h
 have hat:∀i,StrLaws.At (ap x) (ap [c]) (ap x).length i↔x[i]? =some c:=fun i=>by
  have:=StrLaws.subAt_one (ap x) c i
  rw[mJ]at this
  exact this
 unfold D0
 rcases StrLaws.occ_head (ap x) (ap [c]) 1 (yP _)with⟨_,hn⟩ | ⟨i,r,e,hi,hk⟩
 ·exact absurd ((hat j).mpr (by rw[yM hj];simpa using h1)) (hn j)
 ·rw[e]
  have e2:=(hat i).mp hi
  obtain⟨hil,e3⟩:=yR.mp e2
  have:i=j:=by
   rcases Nat.lt_trichotomy i j with z | z | z
   ·exact absurd e3 (by simpa using h2 i z)
   ·exact z
   ·exact absurd ((hat j).mpr (by rw[yM hj];simpa using h1)) (hk j z)
  rw[this]
theorem fQ {ma mb:Res Tx} {K:PySem.W.Frag} (ha:EV Er ta σ W (sh isS) ma) (hb:EV Er tb σ W (sh isS) mb):EV Er (dq K "str" (fun x xs H Q=>∃a b,x=.str a∧xs=[.str b]∧0≤D0 a b∧Q (.int (D0 a b)) H) ta (ak tb aS)) σ W (sh isI) (ma.bind fun a=>mb.bind fun b=>gp a b):=fun W1 e1 Q k=>
 ha W1 e1 _ ((yG k).imp fun a ka x W2 e2 hx=>by
  cases hx
  refine⟨rfl,hb W2 (e1.trans e2) _ ((yG ka).imp fun b kb y W3 e3 hy=>?_)⟩
  cases hy
  match b,kb with
  | [c], kb =>
   obtain⟨j,h1,h2⟩:=dl (yG kb)
   have e:=wr a c j h1
   exact⟨_,_,rfl,rfl,by rw[e];omega,by rw[e];exact h2 _ W3 (e2.trans e3) rfl⟩)
theorem Same.tup {H H':Hp} {a:Addr} {xs:List V} (e:Same H H') (h:SqT K H a xs):SqT K H' a xs:=by
 rcases h with(h | ⟨o,h⟩) | h
 ·exact .inl (.inl (e _ _ h))
 ·exact .inl (.inr ⟨o,e _ _ h⟩)
 ·exact .inr h
def isT2 (K:PySem.W.Frag) (R1:Rp α) (R2:Rp β):Rp (α×β):=fun H a v=>∃p x y,v=.ref p∧SqT K H p [x,y]∧R1 H a.1 x∧R2 H a.2 y
def isT3 (K:PySem.W.Frag) (R1:Rp α) (R2:Rp β) (R3:Rp γ):Rp (α×β×γ):=fun H a v=>∃p x y z,v=.ref p∧SqT K H p [x,y,z]∧R1 H a.1 x∧R2 H a.2.1 y∧R3 H a.2.2 z
instance zkeep14 {R1:Rp α} {R2:Rp β} [Mono R1] [Mono R2]:Mono (isT2 K R1 R2):=⟨fun e ⟨p,x,y,h0,h,h1,h2⟩=>⟨p,x,y,h0,Same.tup e h,yE e h1,yE e h2⟩⟩
instance zkeep15 {R1:Rp α} {R2:Rp β} {R3:Rp γ} [Mono R1] [Mono R2] [Mono R3]:Mono (isT3 K R1 R2 R3):=⟨fun e ⟨p,x,y,z,h0,h,h1,h2,h3⟩=>⟨p,x,y,z,h0,Same.tup e h,yE e h1,yE e h2,yE e h3⟩⟩
theorem eE {R1:Rp α} {R2:Rp β} [Mono R1] [Mono R2] {ma:Res α} {mb:Res β} (ha:EV Er ta σ W (sh R1) ma) (hb:EV Er tb σ W (sh R2) mb):EV Er (bX (ak ta (ak tb aS))) σ W (sh (isT2 K R1 R2)) (ma.bind fun a=>mb.bind fun b=>.ok (a,b)):=fun W1 e1 Q k=>
 ha W1 e1 _ ((yG k).imp fun a ka x W2 e2 hx=>hb W2 (e1.trans e2) _ ((yG ka).imp fun b kb y W3 e3 hy=>⟨(by show 2≤sizeLine;decide),fun p hp=>
  kb (.ref p) (W3.new p (.tup [x,y])) ((e2.trans e3).trans (.new _ hp)) ⟨p,x,y,rfl,G5 aF,yE (CW _ hp).g (yE (R:=R1) e3.g hx),yE (R:=R2) (CW _ hp).g hy⟩⟩))
theorem cz {R1:Rp α} {R2:Rp β} {R3:Rp γ} [Mono R1] [Mono R2] [Mono R3] {ma:Res α} {mb:Res β} {mc:Res γ} (ha:EV Er ta σ W (sh R1) ma) (hb:EV Er tb σ W (sh R2) mb) (hc:EV Er tc σ W (sh R3) mc):
  EV Er (bX (ak ta (ak tb (ak tc aS)))) σ W (sh (isT3 K R1 R2 R3)) (ma.bind fun a=>mb.bind fun b=>mc.bind fun c=>.ok (a,b,c)):=fun W1 e1 Q k=>
 ha W1 e1 _ ((yG k).imp fun a ka x W2 e2 hx=>hb W2 (e1.trans e2) _ ((yG ka).imp fun b kb y W3 e3 hy=>hc W3 ((e1.trans e2).trans e3) _ ((yG kb).imp fun c kc z W4 e4 hz=>⟨(by show 3≤sizeLine;decide),fun p hp=>
  kc (.ref p) (W4.new p (.tup [x,y,z])) (((e2.trans e3).trans e4).trans (.new _ hp)) ⟨p,x,y,z,rfl,G5 aF,yE (CW _ hp).g (yE (R:=R1) (e3.trans e4).g hx),yE (R:=R2) (CW _ hp).g (yE (R:=R2) e4.g hy),yE (R:=R3) (CW _ hp).g hz⟩⟩)))
theorem aT {R:Rp α} {Rt:Rp β} {m:Res β} {i:Int} {f:β→α} (h:∀H b v,Rt H b v→∃p xs x,v=.ref p∧SqT K H p xs∧L2.atI xs i=some x∧R H (f b) x) (ha:EV Er ta σ W (sh Rt) m):EV Er (cI (bY K) ta (tC (.int i))) σ W (sh R) (m.bind fun b=>.ok (f b)):=fun W1 e1 Q k=>
 ha W1 e1 _ ((yG k).imp fun b kb v W2 e2 hv=>by
  obtain⟨p,xs,x,h1,h2,h3,h4⟩:=h _ _ _ hv
  exact⟨p,xs,i,x,h1,rfl,Same.tup W2.ok h2,h3,kb _ W2 e2 h4⟩)
theorem ve {R1:Rp α} {R2:Rp β} :∀H b v,isT2 K R1 R2 H b v→∃p xs x,v=.ref p∧SqT K H p xs∧L2.atI xs 0=some x∧R1 H b.1 x:=fun _ _ _ ⟨p,x,y,h0,h,h1,h2⟩=>⟨p,_,x,h0,h,rfl,h1⟩
theorem xD {R1:Rp α} {R2:Rp β} :∀H b v,isT2 K R1 R2 H b v→∃p xs x,v=.ref p∧SqT K H p xs∧L2.atI xs 1=some x∧R2 H b.2 x:=fun _ _ _ ⟨p,x,y,h0,h,h1,h2⟩=>⟨p,_,y,h0,h,rfl,h2⟩
theorem jB {R1:Rp α} {R2:Rp β} {R3:Rp γ} :∀H b v,isT3 K R1 R2 R3 H b v→∃p xs x,v=.ref p∧SqT K H p xs∧L2.atI xs 0=some x∧R1 H b.1 x:=fun _ _ _ ⟨p,x,y,z,h0,h,h1,h2,h3⟩=>⟨p,_,x,h0,h,rfl,h1⟩
theorem gK {R1:Rp α} {R2:Rp β} {R3:Rp γ} :∀H b v,isT3 K R1 R2 R3 H b v→∃p xs x,v=.ref p∧SqT K H p xs∧L2.atI xs 1=some x∧R2 H b.2.1 x:=fun _ _ _ ⟨p,x,y,z,h0,h,h1,h2,h3⟩=>⟨p,_,y,h0,h,rfl,h2⟩
theorem ik {R1:Rp α} {R2:Rp β} {R3:Rp γ} :∀H b v,isT3 K R1 R2 R3 H b v→∃p xs x,v=.ref p∧SqT K H p xs∧L2.atI xs 2=some x∧R3 H b.2.2 x:=fun _ _ _ ⟨p,x,y,z,h0,h,h1,h2,h3⟩=>⟨p,_,z,h0,h,rfl,h3⟩
theorem mQ {R:Rp α} {H:Hp} {as:List α} {xs:List V} (h:LR R H as xs) {i:Int} {a:α} (e:p4 as i=some a):∃x,L2.atI xs i=some x∧R H a x:=by
 unfold p4 at e
 unfold L2.atI
 rw[h.1]
 cases z:Mi.ixN as.length i with
 | none=>rw[z]at e;cases e
 | some j =>
  rw[z]at e
  obtain⟨x,h1,h2⟩:=h.get (i:=j) e
  exact⟨x,by show(L2.ixN as.length i).bind _=_;rw[show L2.ixN as.length i=Mi.ixN as.length i from rfl,z];exact h1,h2⟩
theorem LR.three {R:Rp α} {H:Hp} {a b c:α} {x y z:V} (h1:R H a x) (h2:R H b y) (h3:R H c z):LR R H [a,b,c] [x,y,z]:=⟨rfl,fun i v m e1 e2=>by
 match i,e1,e2 with
 | 0,e1,e2=>cases e1;cases e2;exact h1
 | 1,e1,e2=>cases e1;cases e2;exact h2
 | 2,e1,e2=>cases e1;cases e2;exact h3⟩
theorem eW {R:Rp α} [Mono R] {ma:Res (List α)} {mb:Res Int} (ha:EV Er ta σ W (pk R) ma) (hb:EV Er tb σ W (sh isI) mb):EV Er (cI (bM K) ta tb) σ W (sh R) (ma.bind fun a=>mb.bind fun b=>ic a b):=
 lJ ha hb fun W a b x y Q hx hy k=>by
  cases hy
  obtain⟨p,vs,rfl,h,h1⟩:=hx
  obtain⟨c,h4,h5⟩:=dl k
  obtain⟨z,h6,h7⟩:=mQ h1 h4
  exact⟨p,_,b,z,rfl,rfl,AJ h,h6,h5 _ W (.refl _) h7⟩
theorem fj {R:Rp α} :EVo Er (bK aS) σ W R (.ok []):=fun W1 e1 Q k=>⟨by decide,fun p hp=>k p (W1.mut p (.lst []) (W1.gnone hp)) (.own _ hp) hp ⟨W1.gnone hp,[],aF,.nil⟩⟩
def AV (Er:Nat→Prop) (t:TA) (σ:St) (W:Wd) (R:Rp α) (n:Nat) (m:Res (List α)):Prop:=∀W1,Ext W W1→∀Q:List V→Hp→Prop,m.OkE Er (fun as=>∀vs W2,Ext W1 W2→vs.length=n→LR R W2.G as vs→Q vs W2.H)→t σ W1.H Q
theorem fF {R:Rp α} :AV Er aS σ W R 0 (.ok []):=fun W1 _ Q k=>k [] W1 (.refl _) rfl .nil
theorem LR.cons {R:Rp α} {H:Hp} {a:α} {v:V} {as:List α} {vs:List V} (h:R H a v) (r:LR R H as vs):LR R H (a::as) (v::vs):=⟨by simp[r.1],fun i x m e1 e2=>by
 cases i with
 | zero=>cases e1;cases e2;exact h
 | succ j=>exact r.2 j x m e1 e2⟩
theorem bJ {R:Rp α} [Mono R] {n:Nat} {ts:TA} {m:Res α} {ms:Res (List α)} (h:EV Er t σ W (sh R) m) (g:AV Er ts σ W R n ms):AV Er (ak t ts) σ W R (n+1) (m.bind fun a=>ms.bind fun as=>.ok (a::as)):=fun W1 e1 Q k=>
 h W1 e1 _ ((yG k).imp fun a ka v W2 e2 hv=>g W2 (e1.trans e2) _ ((yG ka).imp fun as kas vs W3 e3 hn hvs=>kas (v::vs) W3 (e2.trans e3) (by simp[hn]) (.cons (yE (R:=R) e3.g hv) hvs)))
theorem fG {R:Rp α} [Mono R] {n:Nat} {ts:TA} {ms:Res (List α)} (g:AV Er ts σ W R n ms) (hn:n≤cap:=by decide):EVo Er (bK ts) σ W R ms:=fun W1 e1 Q k=>
 g W1 e1 _ (k.imp fun as ka vs W2 e2 hv hvs=>⟨by rw[hv];exact pX hn,fun p hp=>ka p (W2.mut p (.lst vs) (W2.gnone hp)) (e2.trans (.own _ hp)) (none_of e2.h hp) ⟨W2.gnone hp,vs,aF,hvs⟩⟩)
theorem LR.cut {R:Rp α} {H:Hp} {as:List α} {vs:List V} (h:LR R H as vs) (lo hi:Option Int):LR R H (Mi.cut as lo hi) (lB vs lo hi):=by
 unfold Mi.cut lB
 rw[h.1]
 exact(h.drop _).take _
theorem sK {R:Rp α} [Mono R] {ma:Res (List α)} {tl th:TO} {ml mh:Res (Option Int)} (ha:EV Er ta σ W (pk R) ma)
  (hl:∀W1,Ext W W1→∀Q:Option Int→Hp→Prop,ml.OkE Er (fun o=>∀W2,Ext W1 W2→Q o W2.H)→tl σ W1.H Q) (hh:∀W1,Ext W W1→∀Q:Option Int→Hp→Prop,mh.OkE Er (fun o=>∀W2,Ext W1 W2→Q o W2.H)→th σ W1.H Q):
  EVo Er (eu (bZ K) ta tl th) σ W R (ma.bind fun a=>ml.bind fun lo=>mh.bind fun hi=>.ok (Mi.cut a lo hi)):=fun W1 e1 Q k=>
 ha W1 e1 _ ((yG k).imp fun a ka x W2 e2 hx=>hl W2 (e1.trans e2) _ ((yG ka).imp fun lo kl W3 e3=>hh W3 ((e1.trans e2).trans e3) _ ((yG kl).imp fun hi kh W4 e4=>by
  obtain⟨p,vs,rfl,h1,h2⟩:=zJ (e3.trans e4) hx
  have e5:=(e2.trans e3).trans e4
  exact⟨p,vs,rfl,AJ h1,fun r hr=>kh r (W4.mut r (.lst (lB vs lo hi)) (W4.gnone hr)) (e5.trans (.own _ hr)) (none_of e5.h hr) ⟨W4.gnone hr,_,aF,h2.cut lo hi⟩⟩)))
theorem lL {ma:Res Int} (ha:EV Er ta σ W (sh isI) ma):EV Er (dh (fun xs H Q=>∃i,xs=[.int i]∧Q (.int (if i< 0 then -i else i)) H) (ak ta aS)) σ W (sh isI) (ma.bind fun a=>.ok (ca a)):=fun W1 e1 Q k=>
 ha W1 e1 _ ((yG k).imp fun a ka x W2 e2 hx=>by cases hx;exact⟨a,rfl,ka _ W2 e2 rfl⟩)
theorem fk {R:Rp α} {ma:Res (List α)} (ha:EV Er ta σ W (pk R) ma):EV Er (dh (fun xs H Q=>∃x n,xs=[x]∧nN K x H n∧Q (.int n) H) (ak ta aS)) σ W (sh isI) (ma.bind fun a=>.ok (a.length:Int)):=fun W1 e1 Q k=>
 ha W1 e1 _ ((yG k).imp fun a ka x W2 e2 hx=>by
  obtain⟨p,vs,rfl,h1,h2⟩:=hx
  exact⟨_,a.length,rfl,.inl ⟨vs,AJ h1,h2.1.symm⟩,ka _ W2 e2 rfl⟩)
theorem jC {ma:Res (List Tx)} {x:Str} (hx:x=ap []) (ha:EV Er ta σ W (pk isS) ma):EV Er (dq K "str" (fun x xs H Q=>∃(p:Addr) (ys:List (List Nat)),x=.str (ap [])∧xs=[.ref p]∧SqL K H p (ys.map fun y=>CM (ap y))∧ys.flatten.length≤100000∧Q (.str (ap ys.flatten)) H) (tC (.str x)) (ak ta aS)) σ W (sh isS) (ma.bind fun a=>kE a):=fun W1 e1 Q k=>
 ⟨by show wR K "str" (.str x) W1.H;rfl,ha W1 e1 _ ((yG k).imp fun a ka v W2 e2 hv=>by
  obtain⟨p,vs,rfl,h1,h2⟩:=hv
  obtain⟨h3,h4⟩:=bg ka
  exact⟨p,a,by rw[hx],rfl,AJ (by rw[h1,h2.str]),h3,h4 _ W2 e2 rfl⟩)⟩
end
end Wb
open Wb.Same renaming tup→AO
namespace Wb
open PySem L2 Mi
variable {Er:Nat→Prop}
abbrev Rt (β:Type):=Wd→β→VK→Prop
def rs {β:Type} (R:Rp β):Rt β:=fun W r Q=>∀u W',Ext W W'→R W'.G r u→Q u W'.H
def ro {β:Type} (R:Rp β):Rt (List β):=fun W r Q=>∀p W',Ext W W'→W.H p=none→Ow R W' p r→Q (.ref p) W'.H
section
variable {α β γ δ ε ζ:Type}
def de (R1:Rp α) (rt:Rt β) (m:α→Res β):Sp:=fun vs H Q _=>∃(W:Wd) (a:α) (v:V),W.H=H∧vs=[v]∧R1 W.G a v∧∃Er:Nat→Prop,(m a).OkE Er fun r=>rt W r Q
def bu (R1:Rp α) (R2:Rp γ) (rt:Rt β) (m:α→γ→Res β):Sp:=fun vs H Q _=>∃(W:Wd) (a:α) (b:γ) (v u:V),W.H=H∧vs=[v,u]∧R1 W.G a v∧R2 W.G b u∧∃Er:Nat→Prop,(m a b).OkE Er fun r=>rt W r Q
def dE (R1:Rp α) (R2:Rp γ) (R3:Rp δ) (rt:Rt β) (m:α→γ→δ→Res β):Sp:=fun vs H Q _=>∃(W:Wd) (a:α) (b:γ) (c:δ) (v u w:V),W.H=H∧vs=[v,u,w]∧R1 W.G a v∧R2 W.G b u∧R3 W.G c w∧∃Er:Nat→Prop,(m a b c).OkE Er fun r=>rt W r Q
def gL (R1:Rp α) (R2:Rp γ) (R3:Rp δ) (R4:Rp ε) (rt:Rt β) (m:α→γ→δ→ε→Res β):Sp:=fun vs H Q _=>∃(W:Wd) (a:α) (b:γ) (c:δ) (d:ε) (v u w x:V),W.H=H∧vs=[v,u,w,x]∧R1 W.G a v∧R2 W.G b u∧R3 W.G c w∧R4 W.G d x∧∃Er:Nat→Prop,(m a b c d).OkE Er fun r=>rt W r Q
def iT (R1:Rp α) (R2:Rp γ) (R3:Rp δ) (R4:Rp ε) (R5:Rp ζ) (rt:Rt β) (m:α→γ→δ→ε→ζ→Res β):Sp:=fun vs H Q _=>∃(W:Wd) (a:α) (b:γ) (c:δ) (d:ε) (e:ζ) (v u w x y:V),W.H=H∧vs=[v,u,w,x,y]∧R1 W.G a v∧R2 W.G b u∧R3 W.G c w∧R4 W.G d x∧R5 W.G e y∧∃Er:Nat→Prop,(m a b c d e).OkE Er fun r=>rt W r Q
variable {t t1 t2 t3 t4 t5:TE} {σ:St} {W W0 W':Wd} {K:PySem.W.Frag}
section
variable {R1:Rp α} {R2:Rp γ} {R3:Rp δ} {R4:Rp ε} {R5:Rp ζ} [Mono R1] [Mono R2] [Mono R3] [Mono R4] [Mono R5] {m1:Res α} {m2:Res γ} {m3:Res δ} {m4:Res ε} {m5:Res ζ} {E:XK}
theorem cD {R:Rp β} {m:α→Res β} (h1:EV Er t1 σ W (sh R1) m1):EV Er (aV (de R1 (rs R) m) [] E (ak t1 aS)) σ W (sh R) (m1.bind fun a=>m a):=fun W1 e1 Q k=>
 h1 W1 e1 _ ((yG k).imp fun a ka v W2 e2 hv=>⟨W2,a,v,rfl,rfl,hv,Er,ka.imp fun r kr u W' e hu=>kr u W' (e2.trans e) hu⟩)
theorem aR {R:Rp β} {m:α→γ→Res β} (h1:EV Er t1 σ W (sh R1) m1) (h2:EV Er t2 σ W (sh R2) m2):EV Er (aV (bu R1 R2 (rs R) m) [] E (ak t1 (ak t2 aS))) σ W (sh R) (m1.bind fun a=>m2.bind fun b=>m a b):=fun W1 e1 Q k=>
 h1 W1 e1 _ ((yG k).imp fun a ka v W2 e2 hv=>h2 W2 (e1.trans e2) _ ((yG ka).imp fun b kb u W3 e3 hu=>⟨W3,a,b,v,u,rfl,rfl,zJ (R:=sh R1) e3 hv,hu,Er,kb.imp fun r kr u W' e hu=>kr u W' ((e2.trans e3).trans e) hu⟩))
theorem gr {R:Rp β} {m:α→γ→Res (List β)} (h1:EV Er t1 σ W (sh R1) m1) (h2:EV Er t2 σ W (sh R2) m2):EVo Er (aV (bu R1 R2 (ro R) m) [] E (ak t1 (ak t2 aS))) σ W R (m1.bind fun a=>m2.bind fun b=>m a b):=fun W1 e1 Q k=>
 h1 W1 e1 _ ((yG k).imp fun a ka v W2 e2 hv=>h2 W2 (e1.trans e2) _ ((yG ka).imp fun b kb u W3 e3 hu=>⟨W3,a,b,v,u,rfl,rfl,zJ (R:=sh R1) e3 hv,hu,Er,kb.imp fun r kr p W' e hp o=>kr p W' ((e2.trans e3).trans e) (none_of (e2.trans e3).h hp) o⟩))
theorem fR {R:Rp β} {m:α→γ→δ→Res β} (h1:EV Er t1 σ W (sh R1) m1) (h2:EV Er t2 σ W (sh R2) m2) (h3:EV Er t3 σ W (sh R3) m3):EV Er (aV (dE R1 R2 R3 (rs R) m) [] E (ak t1 (ak t2 (ak t3 aS)))) σ W (sh R) (m1.bind fun a=>m2.bind fun b=>m3.bind fun c=>m a b c):=fun W1 e1 Q k=>
 h1 W1 e1 _ ((yG k).imp fun a ka v W2 e2 hv=>h2 W2 (e1.trans e2) _ ((yG ka).imp fun b kb u W3 e3 hu=>h3 W3 ((e1.trans e2).trans e3) _ ((yG kb).imp fun c kc w W4 e4 hw=>
  ⟨W4,a,b,c,v,u,w,rfl,rfl,zJ (R:=sh R1) (e3.trans e4) hv,zJ (R:=sh R2) e4 hu,hw,Er,kc.imp fun r kr u W' e hu=>kr u W' (((e2.trans e3).trans e4).trans e) hu⟩)))
theorem dt {R:Rp β} {m:α→γ→δ→Res (List β)} (h1:EV Er t1 σ W (sh R1) m1) (h2:EV Er t2 σ W (sh R2) m2) (h3:EV Er t3 σ W (sh R3) m3):EVo Er (aV (dE R1 R2 R3 (ro R) m) [] E (ak t1 (ak t2 (ak t3 aS)))) σ W R (m1.bind fun a=>m2.bind fun b=>m3.bind fun c=>m a b c):=fun W1 e1 Q k=>
 h1 W1 e1 _ ((yG k).imp fun a ka v W2 e2 hv=>h2 W2 (e1.trans e2) _ ((yG ka).imp fun b kb u W3 e3 hu=>h3 W3 ((e1.trans e2).trans e3) _ ((yG kb).imp fun c kc w W4 e4 hw=>
  ⟨W4,a,b,c,v,u,w,rfl,rfl,zJ (R:=sh R1) (e3.trans e4) hv,zJ (R:=sh R2) e4 hu,hw,Er,kc.imp fun r kr p W' e hp o=>kr p W' (((e2.trans e3).trans e4).trans e) (none_of ((e2.trans e3).trans e4).h hp) o⟩)))
theorem qb {R:Rp β} {m:α→γ→δ→ε→Res β} (h1:EV Er t1 σ W (sh R1) m1) (h2:EV Er t2 σ W (sh R2) m2) (h3:EV Er t3 σ W (sh R3) m3) (h4:EV Er t4 σ W (sh R4) m4):EV Er (aV (gL R1 R2 R3 R4 (rs R) m) [] E (ak t1 (ak t2 (ak t3 (ak t4 aS))))) σ W (sh R) (m1.bind fun a=>m2.bind fun b=>m3.bind fun c=>m4.bind fun d=>m a b c d):=fun W1 e1 Q k=>
 h1 W1 e1 _ ((yG k).imp fun a ka v W2 e2 hv=>h2 W2 (e1.trans e2) _ ((yG ka).imp fun b kb u W3 e3 hu=>h3 W3 ((e1.trans e2).trans e3) _ ((yG kb).imp fun c kc w W4 e4 hw=>h4 W4 (((e1.trans e2).trans e3).trans e4) _ ((yG kc).imp fun d kd x W5 e5 hx=>
  ⟨W5,a,b,c,d,v,u,w,x,rfl,rfl,zJ (R:=sh R1) ((e3.trans e4).trans e5) hv,zJ (R:=sh R2) (e4.trans e5) hu,zJ (R:=sh R3) e5 hw,hx,Er,kd.imp fun r kr u W' e hu=>kr u W' ((((e2.trans e3).trans e4).trans e5).trans e) hu⟩))))
theorem o9 {R:Rp β} {m:α→γ→δ→ε→Res (List β)} (h1:EV Er t1 σ W (sh R1) m1) (h2:EV Er t2 σ W (sh R2) m2) (h3:EV Er t3 σ W (sh R3) m3) (h4:EV Er t4 σ W (sh R4) m4):EVo Er (aV (gL R1 R2 R3 R4 (ro R) m) [] E (ak t1 (ak t2 (ak t3 (ak t4 aS))))) σ W R (m1.bind fun a=>m2.bind fun b=>m3.bind fun c=>m4.bind fun d=>m a b c d):=fun W1 e1 Q k=>
 h1 W1 e1 _ ((yG k).imp fun a ka v W2 e2 hv=>h2 W2 (e1.trans e2) _ ((yG ka).imp fun b kb u W3 e3 hu=>h3 W3 ((e1.trans e2).trans e3) _ ((yG kb).imp fun c kc w W4 e4 hw=>h4 W4 (((e1.trans e2).trans e3).trans e4) _ ((yG kc).imp fun d kd x W5 e5 hx=>
  ⟨W5,a,b,c,d,v,u,w,x,rfl,rfl,zJ (R:=sh R1) ((e3.trans e4).trans e5) hv,zJ (R:=sh R2) (e4.trans e5) hu,zJ (R:=sh R3) e5 hw,hx,Er,kd.imp fun r kr p W' e hp o=>kr p W' ((((e2.trans e3).trans e4).trans e5).trans e) (none_of (((e2.trans e3).trans e4).trans e5).h hp) o⟩))))
theorem gu {R:Rp β} {m:α→γ→δ→ε→ζ→Res (List β)} (h1:EV Er t1 σ W (sh R1) m1) (h2:EV Er t2 σ W (sh R2) m2) (h3:EV Er t3 σ W (sh R3) m3) (h4:EV Er t4 σ W (sh R4) m4) (h5:EV Er t5 σ W (sh R5) m5):EVo Er (aV (iT R1 R2 R3 R4 R5 (ro R) m) [] E (ak t1 (ak t2 (ak t3 (ak t4 (ak t5 aS)))))) σ W R (m1.bind fun a=>m2.bind fun b=>m3.bind fun c=>m4.bind fun d=>m5.bind fun e=>m a b c d e):=fun W1 e1 Q k=>
 h1 W1 e1 _ ((yG k).imp fun a ka v W2 e2 hv=>h2 W2 (e1.trans e2) _ ((yG ka).imp fun b kb u W3 e3 hu=>h3 W3 ((e1.trans e2).trans e3) _ ((yG kb).imp fun c kc w W4 e4 hw=>h4 W4 (((e1.trans e2).trans e3).trans e4) _ ((yG kc).imp fun d kd x W5 e5 hx=>h5 W5 ((((e1.trans e2).trans e3).trans e4).trans e5) _ ((yG kd).imp fun e ke y W6 e6 hy=>
  ⟨W6,a,b,c,d,e,v,u,w,x,y,rfl,rfl,zJ (R:=sh R1) (((e3.trans e4).trans e5).trans e6) hv,zJ (R:=sh R2) ((e4.trans e5).trans e6) hu,zJ (R:=sh R3) (e5.trans e6) hw,zJ (R:=sh R4) e6 hx,hy,Er,ke.imp fun r kr p W' e hp o=>kr p W' (((((e2.trans e3).trans e4).trans e5).trans e6).trans e) (none_of ((((e2.trans e3).trans e4).trans e5).trans e6).h hp) o⟩)))))
end
def Yl (J:It) (W:Wd) (R:Rp α) (xs:List α):Prop:=∀W1:Wd,Same W.G W1.G→(∀(i:Nat) (a:α),xs[i]? =some a→J.go i W1.H∧∀x H',J.yld i W1.H x H'→∃W2:Wd,W2.H=H'∧Ext W1 W2∧R W2.G a x)∧J.stop xs.length W1.H
def IV (Er:Nat→Prop) (wi:TI) (σ:St) (W:Wd) (R:Rp α) (m:Res (List α)):Prop:=∀W1,Ext W W1→∀P:It→Hp→Prop,m.OkE Er (fun xs=>∀J W2,Ext W1 W2→Yl J W2 R xs→P J W2.H)→wi σ W1.H P
theorem d3 {R:Rp α} [Mono R] {m:Res (List α)} (h:EV Er t σ W (sh (isL R)) m):IV Er (pc K t) σ W R m:=fun W1 e1 P k=>
 h W1 e1 _ (k.imp fun xs kx v W2 e2 hv => by
  obtain⟨p,vs,rfl,h1,h2⟩:=hv
  refine⟨p,rfl,⟨vs,AJ (W2.ok _ _ h1)⟩,kx _ W2 e2 fun W3 e3=>⟨fun i a ha=>?_,vs,AJ (W3.ok _ _ (e3 _ _ h1)),by rw[h2.1];exact yP _⟩⟩
  obtain⟨x,hx,hr⟩:=h2.get ha
  refine⟨⟨vs,x,AJ (W3.ok _ _ (e3 _ _ h1)),hx⟩,fun y H' ⟨z1,z2⟩=>⟨W3,z1.symm,.refl _,?_⟩⟩
  have:=z2 vs (AJ (W3.ok _ _ (e3 _ _ h1)))
  rw[hx]at this
  cases this
  exact yE e3 hr)
theorem im {m:Res Tx} (h:EV Er t σ W (sh isS) m):IV Er (wg t) σ W isS (m.bind fun x=>.ok (cv x)):=fun W1 e1 P k=>
 h W1 e1 _ ((yG k).imp fun x kx v W2 e2 hv => by
  cases hv
  refine⟨x,rfl,kx _ W2 e2 fun W3 e3=>⟨fun i a ha=>?_,by show x.length≤(cv x).length;simp[cv]⟩⟩
  unfold cv at ha
  rw[yT]at ha
  cases hc:x[i]? with
  | none=>rw[hc]at ha;cases ha
  | some c =>
   rw[hc]at ha;cases ha
   refine⟨(yR.mp hc).1,fun y H' ⟨z1,c',z2,z3⟩=>⟨W3,z1.symm,.refl _,?_⟩⟩
   rw[hc]at z2;cases z2
   exact z3)
theorem io {m:Res Int} (h:EV Er t σ W (sh isI) m):IV Er (uo (ak t aS)) σ W isI (m.bind fun n=>eT n):=fun W1 e1 P k=>
 h W1 e1 _ ((yG k).imp fun n kn v W2 e2 hv => by
  cases hv
  obtain⟨hb,kn⟩:=bg kn
  refine⟨n,rfl,hb.1,hb.2,kn _ W2 e2 fun W3 e3=>⟨fun i a ha=>?_,by show n.toNat≤(ig n).length;simp[ig]⟩⟩
  unfold ig at ha
  rw[yT]at ha
  have hi:i< n.toNat:=by
   refine BR fun z=>?_
   rw[zQ.mpr (by simp;omega)]at ha;cases ha
  rw[Ed hi]at ha
  cases ha
  exact⟨hi,fun y H' ⟨z1,z2⟩=>⟨W3,z1.symm,.refl _,by rw[z2];show BM (0+(i:Int))=.int (i:Int);rw[Int.zero_add]⟩⟩)
def SrcR (K:PySem.W.Frag) (W:Wd) (R:Rp α) (xs:List α) (v:V):Prop:=∃(c:Src) (vs:List V),v=c.val∧(∀W1:Wd,Same W.G W1.G→c.has K W1.H vs)∧LR R W.G xs vs
theorem SrcR.mono {R:Rp α} [Mono R] {xs:List α} {v:V} (h:SrcR K W R xs v) (e:Same W.G W'.G):SrcR K W' R xs v:=by
 obtain⟨c,vs,h1,h2,h3⟩:=h
 exact⟨c,vs,h1,fun W1 e1=>h2 W1 (e.trans e1),h3.same e⟩
def SV (Er:Nat→Prop) (t:TE) (σ:St) (W:Wd) (K:PySem.W.Frag) (R:Rp α) (m:Res (List α)):Prop:=EV Er t σ W (fun W xs v=>SrcR K W R xs v) m
theorem eX {R:Rp α} [Mono R] {m:Res (List α)} (h:EV Er t σ W (sh (isL R)) m):SV Er t σ W K R m:=h.imp fun W xs v ⟨p,vs,h0,h1,h2⟩=>⟨.lst p,vs,h0,fun W1 e1=>AJ (W1.ok _ _ (e1 _ _ h1)),h2⟩
theorem gN {R:Rp α} {m:Res (α×α×α)} (h:EV Er t σ W (sh (isT3 K R R R)) m):SV Er t σ W K R (m.bind fun x=>.ok [x.1,x.2.1,x.2.2]):=fun W1 e1 Q k=>
 h W1 e1 _ ((yG k).imp fun x kx v W2 e2 hv => by
  obtain⟨p,a,b,c,h0,h,h1,h2,h3⟩:=hv
  exact kx _ W2 e2 ⟨.tup p,_,h0,fun W3 e3=>AO (e3.trans W3.ok) h,LR.three h1 h2 h3⟩)
theorem gv {R1:Rp α} {R2:Rp β} [Mono R1] [Mono R2] {m1:Res (List α)} {m2:Res (List β)} (h1:SV Er t1 σ W K R1 m1) (h2:SV Er t2 σ W K R2 m2):IV Er (uZ K (ak t1 (ak t2 aS))) σ W (isT2 K R1 R2) (m1.bind fun xs=>m2.bind fun ys=>.ok (xs.zip ys)):=fun W1 e1 P k=>
 h1 W1 e1 _ ((yG k).imp fun xs kx v W2 e2 hv=>h2 W2 (e1.trans e2) _ ((yG kx).imp fun ys ky u W3 e3 hu=>by
  obtain⟨c1,vs,rfl,a1,b1⟩:=SrcR.mono hv e3.g
  obtain⟨c2,us,rfl,a2,b2⟩:=hu
  refine⟨c1,c2,vs,us,rfl,a1 W3 (.refl _),a2 W3 (.refl _),ky _ W3 (e2.trans e3) fun W4 e4=>⟨fun i ab hab=>?_,?_⟩⟩
  ·rw[Dc]at hab
   obtain⟨x,hx,rx⟩:=b1.get hab.1
   obtain⟨y,hy,ry⟩:=b2.get hab.2
   refine⟨⟨vs,us,x,y,a1 W4 e4,a2 W4 e4,hx,hy⟩,fun z H' ⟨p,x',y',hp,z0,z1,z2,z3⟩=>⟨W4.new p (.tup [x',y']),by rw[z3];rfl,.new _ hp,p,x',y',z0,G5 aF,?_,?_⟩⟩
   ·have:=z1 vs (a1 W4 e4);rw[hx]at this;cases this
    exact yE (e4.trans (CW _ hp).g) rx
   ·have:=z2 us (a2 W4 e4);rw[hy]at this;cases this
    exact yE (e4.trans (CW _ hp).g) ry
  ·refine⟨vs,us,a1 W4 e4,a2 W4 e4,?_⟩
   rw[B8,b1.1,b2.1]
   omega))
theorem oa {f:α→Res β} {xs:List α} {i:Nat} {a:α} (h:xs[i]? =some a):gJ f (xs.drop i)=(f a).bind fun b=>(gJ f (xs.drop (i+1))).bind fun bs=>.ok (b::bs):=by
 obtain⟨hi,e⟩:=yR.mp h
 rw[B6 hi,e]
 rfl
theorem lM {f:α→Res (Option β)} {xs:List α} {i:Nat} {a:α} (h:xs[i]? =some a):fN f (xs.drop i)=(f a).bind fun b=>(fN f (xs.drop (i+1))).bind fun bs=>.ok (match b with | some b=>b::bs | none=>bs):=by
 obtain⟨hi,e⟩:=yR.mp h
 rw[B6 hi,e]
 rfl
theorem eF {cap:List (Option Nat)} {wi:TI} {g:TG} {te:TE} {R:Rp α} {R':Rp β} [Mono R'] {m:Res (List α)} {f:α→Res β} (hi:IV Er wi σ W R m)
  (hb:∀(W1:Wd) (a:α) (v:V),Ext W W1→R W1.G a v→∀Q:VK,(f a).OkE Er (fun b=>∀u W2,Ext W1 W2→R' W2.G b u→Q u W2.H)→g v (bB cap σ) W1.H fun σ2 H2=>Keep (bB cap σ) σ2∧te σ2 H2 Q):
  EVo Er (mL cap wi g uY te) σ W R' (m.bind fun xs=>dA xs f):=fun W1 e1 Q k=>by
 refine hi W1 e1 _ ((yG k).imp fun xs kx J W2 e2 hy=>?_)
 obtain⟨hl,kx⟩:=bg (yG kx)
 refine⟨fun i n ys H=>n=xs.length- i∧i≤xs.length∧ys.length≤i∧∃(W3:Wd) (bs:List β),W3.H=H∧Ext W2 W3∧LR R' W3.G bs ys∧(gJ f (xs.drop i)).OkE Er (fun r=>∀p W4,Ext W1 W4→W1.H p=none→Ow R' W4 p (bs++r)→Q (.ref p) W4.H),⟨xs.length,by simp,by simp,by simp,W2,[],rfl,.refl _,.nil,?_⟩,?_⟩
 ·simpa using kx
 ·rintro i n ys H ⟨rfl,hi1,hyl,W3,bs,rfl,e3,lr,q⟩
  refine⟨by rw[zN];unfold Mi.cap at hl;omega,?_⟩
  by_cases hlt:i< xs.length
  ·obtain⟨a,ha⟩:∃a,xs[i]? =some a:=⟨xs[i],by simp[hlt]⟩
   obtain⟨h1,h2⟩:=(hy W3 e3.g).1 i a ha
   refine .inr ⟨h1,fun ys' H'=>ys'.length≤i+1∧∃(W3:Wd) (bs:List β),W3.H=H'∧Ext W2 W3∧LR R' W3.G bs ys'∧(gJ f (xs.drop (i+1))).OkE Er (fun r=>∀p W4,Ext W1 W4→W1.H p=none→Ow R' W4 p (bs++r)→Q (.ref p) W4.H),fun ys' H' ⟨z1,z2⟩=>⟨xs.length- (i+1),by omega,rfl,hlt,z1,z2⟩,fun x H' hx=>?_⟩
   obtain⟨W4,rfl,e4,rx⟩:=h2 x H' hx
   rw[oa ha]at q
   have:=hb W4 a x (e1.trans ((e2.trans e3).trans e4)) rx (fun y H4=>(ys++ [y]).length≤i+1∧∃(W3:Wd) (bs:List β),W3.H=H4∧Ext W2 W3∧LR R' W3.G bs (ys++ [y])∧(gJ f (xs.drop (i+1))).OkE Er (fun r=>∀p W4,Ext W1 W4→W1.H p=none→Ow R' W4 p (bs++r)→Q (.ref p) W4.H))
    ((yG q).imp fun b kb u W5 e5 hu=>⟨by simp;exact hyl,W5,bs++ [b],rfl,(e3.trans e4).trans e5,(lr.same (e4.trans e5).g).snoc hu,(yG kb).imp fun r kr=>by rw[zj];exact kr⟩)
   exact this
  ·have e:i=xs.length:=by omega
   subst e
   rw[BP]at q
   refine .inl ⟨(hy W3 e3.g).2,fun D hD=>?_⟩
   have e13:=e2.trans e3
   have:=q D (W3.mut D (.lst ys) (W3.gnone hD)) (e13.trans (.own _ hD)) (none_of e13.h hD) ⟨W3.gnone hD,ys,aF,by rw[Ao];exact lr⟩
   exact this
theorem qc {cap:List (Option Nat)} {wi:TI} {g:TG} {tf:TT} {te:TE} {R:Rp α} {R':Rp β} [Mono R'] {m:Res (List α)} {f:α→Res (Option β)} (hi:IV Er wi σ W R m)
    (hb:∀(W1:Wd) (a:α) (v:V),Ext W W1→R W1.G a v→∀Q:Option V→Hp→Prop,(f a).OkE Er (fun b=>∀u W2,Ext W1 W2→(match b,u with | some b,some u=>R' W2.G b u | none,none=>True | _,_=>False)→Q u W2.H)→g v (bB cap σ) W1.H fun σ2 H2=>Keep (bB cap σ) σ2∧tf σ2 H2 fun b H3=>if b=true then te σ2 H3 (fun y H4=>Q (some y) H4)else Q none H3):
    EVo Er (mL cap wi g tf te) σ W R' (m.bind fun xs=>mM xs f):=fun W1 e1 Q k=>by
  refine hi W1 e1 _ ((yG k).imp fun xs kx J W2 e2 hy=>?_)
  obtain⟨hl,kx⟩:=bg (yG kx)
  refine⟨fun i n ys H=>n=xs.length- i∧i≤xs.length∧ys.length≤i∧∃(W3:Wd) (bs:List β),W3.H=H∧Ext W2 W3∧LR R' W3.G bs ys∧(fN f (xs.drop i)).OkE Er (fun r=>∀p W4,Ext W1 W4→W1.H p=none→Ow R' W4 p (bs++r)→Q (.ref p) W4.H),⟨xs.length,by simp,by simp,by simp,W2,[],rfl,.refl _,.nil,?_⟩,?_⟩
  · simpa using kx
  · rintro i n ys H ⟨rfl,hi1,hyl,W3,bs,rfl,e3,lr,q⟩
    refine⟨by rw[zN];unfold Mi.cap at hl;omega,?_⟩
    by_cases hlt:i< xs.length
    · obtain⟨a,ha⟩:∃a,xs[i]? =some a:=⟨xs[i],by simp[hlt]⟩
      obtain⟨h1,h2⟩:=(hy W3 e3.g).1 i a ha
      refine .inr ⟨h1,fun ys' H'=>ys'.length≤i+1∧∃(W3:Wd) (bs:List β),W3.H=H'∧Ext W2 W3∧LR R' W3.G bs ys'∧(fN f (xs.drop (i+1))).OkE Er (fun r=>∀p W4,Ext W1 W4→W1.H p=none→Ow R' W4 p (bs++r)→Q (.ref p) W4.H),fun ys' H' ⟨z1,z2⟩=>⟨xs.length- (i+1),by omega,rfl,hlt,z1,z2⟩,fun x H' hx=>?_⟩
      obtain⟨W4,rfl,e4,rx⟩:=h2 x H' hx
      rw[lM ha]at q
      have:=hb W4 a x (e1.trans ((e2.trans e3).trans e4)) rx (fun y H4=>(match y with | some y=>ys++ [y] | none=>ys).length≤i+1∧∃(W3:Wd) (bs:List β),W3.H=H4∧Ext W2 W3∧LR R' W3.G bs (match y with | some y=>ys++ [y] | none=>ys)∧(fN f (xs.drop (i+1))).OkE Er (fun r=>∀p W4,Ext W1 W4→W1.H p=none→Ow R' W4 p (bs++r)→Q (.ref p) W4.H))
        ((yG q).imp fun b kb u W5 e5 hu=>by
          match b,u,hu,kb with
          | some b,some u,hu,kb=>exact⟨by simp;exact hyl,W5,bs++ [b],rfl,(e3.trans e4).trans e5,(lr.same (e4.trans e5).g).snoc hu,(yG kb).imp fun r kr=>by rw[zj];exact kr⟩
          | none,none,hu,kb=>exact⟨by show ys.length≤i+1;omega,W5,bs,rfl,(e3.trans e4).trans e5,lr.same (e4.trans e5).g,(yG kb).imp fun r kr=>kr⟩)
      exact this
    · have e:i=xs.length:=by omega
      subst e
      rw[BP]at q
      refine .inl ⟨(hy W3 e3.g).2,fun D hD=>?_⟩
      have e13:=e2.trans e3
      have:=q D (W3.mut D (.lst ys) (W3.gnone hD)) (e13.trans (.own _ hD)) (none_of e13.h hD) ⟨W3.gnone hD,ys,aF,by rw[Ao];exact lr⟩
      exact this
end
end Wb
namespace Wb
open PySem L2 Mi
variable {Er:Nat→Prop}
section
variable {α β γ δ:Type} {t u:TS} {te ti:TE} {g:TG} {D:Ends} {σ:St} {W W0 W':Wd} {K:PySem.W.Frag} {i j k n:Nat} {P:St→Hp→Prop} {H:Hp} {v:V}
theorem gn {σ':St} (h:P σ' H) (hσ:σ.set i (some v)=σ':=by rfl):aO i v σ H P:=by subst hσ;exact h
theorem iU {σ':V→V→St} {R1:Rp α} {R2:Rp β} {ab:α×β} (h:isT2 K R1 R2 W.G ab v) (q:∀x y,R1 W.G ab.1 x→R2 W.G ab.2 y→P (σ' x y) W.H) (hσ:∀x y,(σ.set i (some x)).set j (some y)=σ' x y:=by intro _ _;rfl):bS K 2 (be (aO i) (be (aO j) bW)) v σ W.H P:=by
 obtain⟨p,x,y,h0,h,h1,h2⟩:=h
 exact⟨p,_,h0,AO W.ok h,rfl,x,_,rfl,y,_,rfl,rfl,by have:=q x y h1 h2;rw[←hσ]at this;exact this⟩
theorem sL {σ':V→V→V→St} {R1:Rp α} {R2:Rp β} {R3:Rp γ} {ab:α×β×γ} (h:isT3 K R1 R2 R3 W.G ab v) (q:∀x y z,R1 W.G ab.1 x→R2 W.G ab.2.1 y→R3 W.G ab.2.2 z→P (σ' x y z) W.H) (hσ:∀x y z,((σ.set i (some x)).set j (some y)).set k (some z)=σ' x y z:=by intro _ _ _;rfl):bS K 3 (be (aO i) (be (aO j) (be (aO k) bW))) v σ W.H P:=by
 obtain⟨p,x,y,z,h0,h,h1,h2,h3⟩:=h
 exact⟨p,_,h0,AO W.ok h,rfl,x,_,rfl,y,_,rfl,z,_,rfl,rfl,by have:=q x y z h1 h2 h3;rw[←hσ]at this;exact this⟩
theorem cr {σ':V→St} {R:Rw α} {m:Res α} (h:EV Er te σ W R m) (q:m.OkE Er fun a=>∀v W',Ext W W'→R W' a v→D.nx (σ' v) W'.H) (hσ:∀v,σ.set i (some v)=σ' v:=by intro _;rfl):bz te (aO i) D σ W.H:=h W (.refl _) _ (q.imp fun a k v W' e r=>by have:=k v W' e r;rw[←hσ]at this;exact this)
theorem sM {σ':Addr→St} {R:Rp α} {m:Res (List α)} (h:EVo Er te σ W R m) (q:m.OkE Er fun a=>∀p W',Ext W W'→W.H p=none→Ow R W' p a→D.nx (σ' p) W'.H) (hσ:∀p,σ.set i (some (.ref p))=σ' p:=by intro _;rfl):bz te (aO i) D σ W.H:=h W (.refl _) _ (q.imp fun a k p W' e hp r=>by have:=k p W' e hp r;rw[←hσ]at this;exact this)
theorem bh {R:Rw α} {m:Res α} (h:EV Er te σ W R m) (q:m.OkE Er fun a=>∀v W',Ext W W'→R W' a v→D.rt v W'.H):bQ te D σ W.H:=h W (.refl _) _ q
theorem jD {R:Rp α} {m:Res (List α)} (h:EVo Er te σ W R m) (q:m.OkE Er fun a=>∀p W',Ext W W'→W.H p=none→Ow R W' p a→D.rt (.ref p) W'.H):bQ te D σ W.H:=h W (.refl _) _ q
theorem wt {c:TT} {m:Res Bool} (h:TV Er c σ W m) (q:m.OkE Er fun b=>∀W',Ext W W'→if b=true then t D σ W'.H else u D σ W'.H):gF c t u D σ W.H:=h W (.refl _) _ q
theorem gw {S:Type} {c:TT} {m:Res Bool} {mA mB:Res S} {P:S→Prop} (Iv:S→Wd→St→Prop) (h:TV Er c σ W m) (q:(m.bind fun b=>if b then mA else mB).OkE Er P)
  (hA:∀W' (N:St→Hp→Prop),Ext W W'→(∀s W1 σ1,Same W.G W1.G→Iv s W1 σ1→P s→N σ1 W1.H)→mA.OkE Er P→t {D with nx:=N} σ W'.H)
  (hB:∀W' (N:St→Hp→Prop),Ext W W'→(∀s W1 σ1,Same W.G W1.G→Iv s W1 σ1→P s→N σ1 W1.H)→mB.OkE Er P→u {D with nx:=N} σ W'.H)
  (hd:∀s W1 σ1,Same W.G W1.G→Iv s W1 σ1→P s→D.nx σ1 W1.H):gF c t u D σ W.H:=h W (.refl _) _ ((yG q).imp fun b kb W' e=>by
 cases b with
 | true=>exact hA W' D.nx e hd kb
 | false=>exact hB W' D.nx e hd kb)
theorem Ow.ne {R:Rp α} {p q:Addr} {ys:List α} (o:Ow R W q ys) (hp:W.H p=none):q≠p:=by
 obtain⟨vs,a,b⟩:=o.h
 exact bP a hp
structure Mu (W W':Wd) (p:Addr):Prop where
 g:Same W.G W'.G
 e:∀W0:Wd,Ext W0 W→W0.H p=none→Ext W0 W'
 h:∀q,q≠p→W.H q≠none→W'.H q=W.H q∧W'.G q=W.G q
theorem Mu.of {W1:Wd} {p:Addr} {o:HO} (e1:Ext W W1) (hg:W1.G p=none):Mu W (W1.mut p o hg) p:=⟨e1.g,fun W0 e0 hp=>(e0.trans e1).mut hp hg,fun q hq hn=>by
 obtain⟨o',ho⟩:=BI.mp hn
 exact⟨by show cA W1.H p o q=_;rw[aL hq,e1.h _ _ ho,ho],e1.k q hn⟩⟩
theorem Mu.ow {R:Rp α} [Mono R] {p q:Addr} {ys:List α} (m:Mu W W' p) (hq:q≠p) (o:Ow R W q ys):Ow R W' q ys:=by
 obtain⟨vs,a,b⟩:=o.h
 obtain⟨h1,h2⟩:=m.h q hq (by rw[a];exact fun z=>nomatch z)
 exact⟨by rw[h2];exact o.g,vs,by rw[h1];exact a,b.same m.g⟩
theorem fH {R:Rp α} [Mono R] {p:Addr} {xs:List α} {m:Res α} (o:Ow R W p xs) (h:EV Er te σ W (sh R) m) (q:(m.bind fun a=>dz xs a).OkE Er fun ys=>∀W',Mu W W' p→Ow R W' p ys→D.nx σ W'.H) (hi:σ[i]? =some (some (.ref p)):=by rfl):b6 (dq K "list" au (bt i) (ak te aS)) D σ W.H:=by
 obtain⟨vs,h1,h2⟩:=o.h
 refine⟨.ref p,hi,.inl ⟨rfl,vs,AJ h1⟩,h W (.refl _) _ ((yG q).imp fun a ka v W2 e2 hv=>?_)⟩
 obtain⟨h3,h4⟩:=bg ka
 have hg:=(o.mono e2).g
 refine⟨p,vs,v,rfl,rfl,e2.h _ _ h1,by rw[h2.1,zN];unfold Mi.cap at h3;omega,h4 (W2.mut p (.lst (vs++ [v])) hg) (.of e2 hg) ⟨hg,_,aF,(h2.same e2.g).snoc hv⟩⟩
theorem LR.set {R:Rp α} {H:Hp} {as:List α} {vs:List V} {a:α} {v:V} (h:LR R H as vs) (r:R H a v) (j:Nat):LR R H (as.set j a) (vs.set j v):=⟨by simp[h.1],fun i x m e1 e2=>by
 rw[AQ]at e1 e2
 by_cases z:j=i
 ·rw[if_pos z]at e1 e2
  split at e1
  ·split at e2
   ·cases e1;cases e2;exact r
   ·cases e2
  ·cases e1
 ·rw[if_neg z]at e1 e2
  exact h.2 i x m e1 e2⟩
theorem jE {R:Rp α} [Mono R] {p:Addr} {xs:List α} {m:Res α} {mi:Res Int} (o:Ow R W p xs) (h:EV Er te σ W (sh R) m) (hj:EV Er ti σ W (sh isI) mi) (q:(m.bind fun a=>mi.bind fun j=>ie xs j a).OkE Er fun ys=>∀W',Mu W W' p→Ow R W' p ys→D.nx σ W'.H) (hi:σ[i]? =some (some (.ref p)):=by rfl):bz te (w9 (bt i) ti ut) D σ W.H:=by
 obtain⟨vs,h1,h2⟩:=o.h
 refine h W (.refl _) _ ((yG q).imp fun a ka v W2 e2 hv=>⟨.ref p,hi,hj W2 e2 _ ((yG ka).imp fun j kj x W3 e3 hx=>?_)⟩)
 cases hx
 obtain⟨l,h3,h4⟩:=dl (yG kj)
 have e:=e2.trans e3
 have hg:=(o.mono e).g
 exact⟨p,vs,j,l,rfl,rfl,e.h _ _ h1,by rw[h2.1];exact h3,h4 (W3.mut p (.lst (vs.set l v)) hg) (.of e hg) ⟨hg,_,aF,(h2.same e.g).set (yE (R:=R) e3.g hv) l⟩⟩
def qd {S:Type} (W:Wd) (Iv:S→Wd→St→Prop) (P:S→Prop):St→Hp→Prop:=fun σ' H'=>∃s' W',W'.H=H'∧Same W.G W'.G∧Iv s' W' σ'∧P s'
theorem ja {S:Type} {f:α→S→Res S} {xs:List α} {i:Nat} {a:α} {s:S} (h:xs[i]? =some a):bF f (xs.drop i) s=(f a s).bind fun s=>bF f (xs.drop (i+1)) s:=by
 obtain⟨hi,e⟩:=yR.mp h
 rw[B6 hi,e]
 rfl
theorem jF {S:Type} {wi:TI} {tb:TS} {R:Rp α} {m:Res (List α)} {f:α→S→Res S} {s0:S} {P:S→Prop} (Iv:S→Wd→St→Prop) (hi:IV Er wi σ W R m) (q:(m.bind fun xs=>bF f xs s0).OkE Er P)
  (h0:∀W1,Ext W W1→Iv s0 W1 σ)
  (hs:∀Wb W1 W2 a v s σ1 P',Same W.G W1.G→Same Wb.G W1.G→Iv s W1 σ1→Ext W1 W2→R W2.G a v→(f a s).OkE Er P'→g v σ1 W2.H fun σ2 H2=>tb {D with nx:=qd Wb Iv P',ct:=qd Wb Iv P',bk:=D.nx} σ2 H2)
  (hd:∀s W1 σ1,Same W.G W1.G→Iv s W1 σ1→P s→D.nx σ1 W1.H):ph wi g tb D σ W.H:=by
 refine hi W (.refl _) _ ((yG q).imp fun xs kx J W1 e1 hy=>?_)
 refine⟨fun i n σ' H'=>n=xs.length- i∧i≤xs.length∧∃s' W',W'.H=H'∧Same W1.G W'.G∧Iv s' W' σ'∧(bF f (xs.drop i) s').OkE Er P,⟨xs.length,by simp,by simp,s0,W1,rfl,.refl _,h0 W1 e1,by simpa using kx⟩,?_⟩
 rintro i n σ1 H1 ⟨rfl,hi1,s,W2,rfl,e2,iv,k⟩
 by_cases hlt:i< xs.length
 ·obtain⟨a,ha⟩:∃a,xs[i]? =some a:=⟨xs[i],by simp[hlt]⟩
  obtain⟨h1,h2⟩:=(hy W2 e2).1 i a ha
  refine .inr ⟨h1,qd W1 Iv fun s'=>(bF f (xs.drop (i+1)) s').OkE Er P,fun σ' H' ⟨s',W',z1,z2,z3,z4⟩=>⟨xs.length- (i+1),by omega,rfl,hlt,s',W',z1,z2,z3,z4⟩,fun x H' hx=>?_⟩
  obtain⟨W3,rfl,e3,rx⟩:=h2 x H' hx
  rw[ja ha]at k
  exact hs W1 W2 W3 a x s σ1 (fun s'=>(bF f (xs.drop (i+1)) s').OkE Er P) (e1.g.trans e2) e2 iv e3 rx (yG k)
 ·have e:i=xs.length:=by omega
  subst e
  rw[BP]at k
  exact .inl ⟨(hy W2 e2).2,hd s W2 σ1 (e1.g.trans e2) iv k⟩
theorem og {S:Type} {f:α→S→Res (Fl γ S)} {xs:List α} {i:Nat} {a:α} {s:S} (h:xs[i]? =some a):fP f (xs.drop i) s=(f a s).bind (wn (fP f (xs.drop (i+1)))):=by
 obtain⟨hi,e⟩:=yR.mp h
 rw[B6 hi,e]
 rfl
theorem sN {S:Type} {wi:TI} {tb:TS} {R:Rp α} {m:Res (List α)} {f:α→S→Res (Fl γ S)} {s0:S} {P:Fl γ S→Prop} (Iv:S→Wd→St→Prop) (hi:IV Er wi σ W R m) (q:(m.bind fun xs=>fP f xs s0).OkE Er P)
  (h0:∀W1,Ext W W1→Iv s0 W1 σ)
  (hs:∀Wb W1 W2 a v s σ1 P',Same W.G W1.G→Same Wb.G W1.G→Iv s W1 σ1→Ext W1 W2→R W2.G a v→(∀r,P' (.rt r)→P (.rt r))→(f a s).OkE Er P'→g v σ1 W2.H fun σ2 H2=>tb {D with nx:=qd Wb Iv fun s'=>P' (.nx s'),ct:=qd Wb Iv fun s'=>P' (.nx s'),bk:=D.nx} σ2 H2)
  (hd:∀s W1 σ1,Same W.G W1.G→Iv s W1 σ1→P (.nx s)→D.nx σ1 W1.H):ph wi g tb D σ W.H:=by
 refine hi W (.refl _) _ ((yG q).imp fun xs kx J W1 e1 hy=>?_)
 refine⟨fun i n σ' H'=>n=xs.length- i∧i≤xs.length∧∃s' W',W'.H=H'∧Same W1.G W'.G∧Iv s' W' σ'∧(fP f (xs.drop i) s').OkE Er P,⟨xs.length,by simp,by simp,s0,W1,rfl,.refl _,h0 W1 e1,by simpa using kx⟩,?_⟩
 rintro i n σ1 H1 ⟨rfl,hi1,s,W2,rfl,e2,iv,k⟩
 by_cases hlt:i< xs.length
 ·obtain⟨a,ha⟩:∃a,xs[i]? =some a:=⟨xs[i],by simp[hlt]⟩
  obtain⟨h1,h2⟩:=(hy W2 e2).1 i a ha
  refine .inr ⟨h1,qd W1 Iv fun s'=>(fP f (xs.drop (i+1)) s').OkE Er P,fun σ' H' ⟨s',W',z1,z2,z3,z4⟩=>⟨xs.length- (i+1),by omega,rfl,hlt,s',W',z1,z2,z3,z4⟩,fun x H' hx=>?_⟩
  obtain⟨W3,rfl,e3,rx⟩:=h2 x H' hx
  rw[og ha]at k
  exact hs W1 W2 W3 a x s σ1 (fun fl=>match fl with | .nx s'=>(fP f (xs.drop (i+1)) s').OkE Er P | .bk s'=>P (.nx s') | .rt r=>P (.rt r)) (e1.g.trans e2) e2 iv e3 rx (fun r h=>h) ((yG k).imp fun fl h=>by cases fl <;> exact h)
 ·have e:i=xs.length:=by omega
  subst e
  rw[BP]at k
  exact .inl ⟨(hy W2 e2).2,hd s W2 σ1 (e1.g.trans e2) iv k⟩
section
variable {r:TS}
theorem ao {σ':V→St} {R:Rw α} {m:Res α} (h:EV Er te σ W R m) (q:m.OkE Er fun a=>∀v W',Ext W W'→R W' a v→r D (σ' v) W'.H) (hσ:∀v,σ.set i (some v)=σ' v:=by intro _;rfl):dQ (bz te (aO i)) r D σ W.H:=cr (D:={D with nx:=r D}) h q hσ
theorem cJ {σ':Addr→St} {R:Rp α} {m:Res (List α)} (h:EVo Er te σ W R m) (q:m.OkE Er fun a=>∀p W',Ext W W'→W.H p=none→Ow R W' p a→r D (σ' p) W'.H) (hσ:∀p,σ.set i (some (.ref p))=σ' p:=by intro _;rfl):dQ (bz te (aO i)) r D σ W.H:=sM (D:={D with nx:=r D}) h q hσ
theorem dW {R:Rw α} {m:Res α} (h:EV Er te σ W R m) (q:m.OkE Er fun a=>∀v W',Ext W W'→R W' a v→g v σ W'.H (r D)):dQ (bz te g) r D σ W.H:=h W (.refl _) _ q
theorem fo {c:TT} {m:Res Bool} (h:TV Er c σ W m) (q:m.OkE Er fun b=>∀W',Ext W W'→if b=true then t {D with nx:=r D} σ W'.H else u {D with nx:=r D} σ W'.H):dQ (gF c t u) r D σ W.H:=h W (.refl _) _ q
theorem bv {S:Type} {c:TT} {m:Res Bool} {mA mB:Res S} {P:S→Prop} (Iv:S→Wd→St→Prop) (h:TV Er c σ W m) (q:(m.bind fun b=>if b then mA else mB).OkE Er P)
  (hA:∀W' (N:St→Hp→Prop),Ext W W'→(∀s W1 σ1,Same W.G W1.G→Iv s W1 σ1→P s→N σ1 W1.H)→mA.OkE Er P→t {D with nx:=N} σ W'.H)
  (hB:∀W' (N:St→Hp→Prop),Ext W W'→(∀s W1 σ1,Same W.G W1.G→Iv s W1 σ1→P s→N σ1 W1.H)→mB.OkE Er P→u {D with nx:=N} σ W'.H)
  (hd:∀s W1 σ1,Same W.G W1.G→Iv s W1 σ1→P s→r D σ1 W1.H):dQ (gF c t u) r D σ W.H:=gw (D:={D with nx:=r D}) Iv h q hA hB hd
theorem kG {R:Rp α} [Mono R] {p:Addr} {xs:List α} {m:Res α} (o:Ow R W p xs) (h:EV Er te σ W (sh R) m) (q:(m.bind fun a=>dz xs a).OkE Er fun ys=>∀W',Mu W W' p→Ow R W' p ys→r D σ W'.H) (hi:σ[i]? =some (some (.ref p)):=by rfl):dQ (b6 (dq K "list" au (bt i) (ak te aS))) r D σ W.H:=fH (D:={D with nx:=r D}) o h q hi
theorem cQ {S:Type} {wi:TI} {tb:TS} {R:Rp α} {m:Res (List α)} {f:α→S→Res S} {s0:S} {P:S→Prop} (Iv:S→Wd→St→Prop) (hi:IV Er wi σ W R m) (q:(m.bind fun xs=>bF f xs s0).OkE Er P)
  (h0:∀W1,Ext W W1→Iv s0 W1 σ)
  (hs:∀Wb W1 W2 a v s σ1 P',Same W.G W1.G→Same Wb.G W1.G→Iv s W1 σ1→Ext W1 W2→R W2.G a v→(f a s).OkE Er P'→g v σ1 W2.H fun σ2 H2=>tb {D with nx:=qd Wb Iv P',ct:=qd Wb Iv P',bk:=r D} σ2 H2)
  (hd:∀s W1 σ1,Same W.G W1.G→Iv s W1 σ1→P s→r D σ1 W1.H):dQ (ph wi g tb) r D σ W.H:=jF (D:={D with nx:=r D}) Iv hi q h0 hs hd
theorem jb {S:Type} {wi:TI} {tb:TS} {R:Rp α} {m:Res (List α)} {f:α→S→Res (Fl γ S)} {s0:S} {P:Fl γ S→Prop} (Iv:S→Wd→St→Prop) (hi:IV Er wi σ W R m) (q:(m.bind fun xs=>fP f xs s0).OkE Er P)
  (h0:∀W1,Ext W W1→Iv s0 W1 σ)
  (hs:∀Wb W1 W2 a v s σ1 P',Same W.G W1.G→Same Wb.G W1.G→Iv s W1 σ1→Ext W1 W2→R W2.G a v→(∀r,P' (.rt r)→P (.rt r))→(f a s).OkE Er P'→g v σ1 W2.H fun σ2 H2=>tb {D with nx:=qd Wb Iv fun s'=>P' (.nx s'),ct:=qd Wb Iv fun s'=>P' (.nx s'),bk:=r D} σ2 H2)
  (hd:∀s W1 σ1,Same W.G W1.G→Iv s W1 σ1→P (.nx s)→r D σ1 W1.H):dQ (ph wi g tb) r D σ W.H:=sN (D:={D with nx:=r D}) Iv hi q h0 hs hd
end
theorem cR {S:Type} {Wb W:Wd} {Iv:S→Wd→St→Prop} {P:S→Prop} (s:S) (hs:Same Wb.G W.G) (iv:Iv s W σ) (hq:P s):qd Wb Iv P σ W.H:=⟨s,W,rfl,hs,iv,hq⟩
end
end Wb
namespace L2
open PySem PySem.Spec PyProof.Rows
section
variable {X:Cx} {K:PySem.W.Frag} {w:zt}
theorem kH {ns:List Bool} :∀{us:List yH},Vals (ns.map GG) us→LSm.BoolsAre us ns:=by
 induction ns with
 | nil=>intro us r;cases r;exact .nil
 | cons b r ih=>intro us h;cases h with | cons h1 h2=>cases h1;exact .cons b (ih h2)
theorem oh (hc:X.calm=true) (hK:X.K=K):cX X (.builtin "all") (fun xs H Q=>∃(p:Addr) (bs:List Bool),xs=[.ref p]∧SqL K H p (bs.map GG)∧Q (.bl (bs.all id)) H):=by
 subst hK
 intro pins s σ H xs us Q I r h
 obtain⟨p,bs,rfl,hq,q⟩:=h
 obtain⟨u,rfl,rx⟩:=dF r
 cases rx
 obtain⟨its,r',pl,hz⟩:=I.list hq
 have hb:=kH r'
 have hl:=pl.isList
 have hlt:p< s.heap.objs.size:=by obtain⟨_,e,_⟩:=hl;exact yW e
 refine call_all_walk (Df hl ?_)
 refine⟨s.heap.objs.size,[s.heap.objs.size,p],[s.heap.objs.size],its.toArray.size,_,_,fun i=>(bs[i]?).getD true,rfl,Walks.list (A:=X.A.in1) (I.ok.hd hc) _ p (zg hlt) its.toArray,
  ⟨⟨_,z6 _ rfl,rfl,rfl⟩,hl.push _⟩,fun i v s' Q' E' hP hQ=>?_,fun h' tk hk=>?_⟩
 ·obtain⟨b,e,rfl⟩:=hb.get i v (by simpa using hP)
  simp only[e,Cv]at hQ
  exact B9 hQ
 ·have e:((Aj its.toArray.size).all fun i=>(bs[i]?).getD true)=bs.all id:=by
   rw[z9,hb.length];exact LSm.range_all bs
  rw[e]
  exact⟨.bl _,H,I.kept (LSm.kept_iter hk),rfl,q⟩
end
end L2
namespace Wb
open PySem L2 Mi
variable {Er:Nat→Prop}
section
variable {α β γ δ:Type} {t ta tb tc:TE} {σ:St} {W W0 W':Wd} {K:PySem.W.Frag} {w:zt}
theorem sO {a n r:Int} (hc:0≤n∧n≤1000000∧a.natAbs< 2^64) (hr:a^n.toNat=r):EV Er (cI (rI wc fun i j=>.int (i^j.toNat)) (tC (.int a)) (tC (.int n))) σ W (sh isI) (.ok r):=fun W1 e1 Q k=>⟨a,n,rfl,rfl,hc,by show Q (.int (a^n.toNat)) W1.H;rw[hr];exact k _ W1 (.refl _) rfl⟩
def isScr (K:PySem.W.Frag):Rp (List Int):=fun H ns v=>∃a,v=.ref a∧SqL K H a (ns.map BM)
instance zkeep17:Mono (isScr K):=⟨fun e ⟨a,h1,h2⟩=>⟨a,h1,e.seq h2⟩⟩
theorem jc {ma:Res (List Int)} (ha:EV Er ta σ W (sh (isScr K)) ma):EV Er (dh (fun xs H Q=>∃x n,xs=[x]∧nN K x H n∧Q (.int n) H) (ak ta aS)) σ W (sh isI) (ma.bind fun a=>.ok (a.length:Int)):=fun W1 e1 Q k=>
 ha W1 e1 _ ((yG k).imp fun a ka x W2 e2 hx=>by
  obtain⟨p,rfl,h1⟩:=hx
  exact⟨_,a.length,rfl,.inl ⟨_,W2.ok.seq h1,by simp⟩,ka _ W2 e2 rfl⟩)
theorem qe {ma:Res (List Int)} {mb:Res Int} (ha:EV Er ta σ W (sh (isScr K)) ma) (hb:EV Er tb σ W (sh isI) mb):EV Er (cI (bM K) ta tb) σ W (sh isI) (ma.bind fun a=>mb.bind fun b=>ic a b):=
 lJ ha hb fun W a b x y Q hx hy k=>by
  cases hy
  obtain⟨p,rfl,h1⟩:=hx
  obtain⟨c,h4,h5⟩:=dl k
  have lr:LR isI W.G a (a.map BM):=⟨by simp,fun i v m e1 e2=>by rw[yT,e2]at e1;cases e1;rfl⟩
  obtain⟨z,h6,h7⟩:=mQ lr h4
  exact⟨p,_,b,z,rfl,rfl,W.ok.seq h1,h6,h5 _ W (.refl _) h7⟩
theorem mR {ma:Res Bool} (ha:EV Er ta σ W (sh isB) ma):EV Er (dh (fun xs H Q=>(∃i,xs=[.int i]∧Q (.int i) H)∨∃k,xs=[.bl k]∧Q (.int (if k then 1 else 0)) H) (ak ta aS)) σ W (sh isI) (ma.bind fun a=>.ok (if a then(1:Int)else 0)):=fun W1 e1 Q k=>
 ha W1 e1 _ ((yG k).imp fun a ka x W2 e2 hx=>by cases hx;exact .inr ⟨a,rfl,ka _ W2 e2 rfl⟩)
theorem ip {R:Rp α} {W1 W2:Wd} {xs:List α} {vs:List V} {Q:VK} (h:LR R W2.G xs vs) (e:Ext W1 W2) (k:∀p W2,Ext W1 W2→W1.H p=none→Ow R W2 p xs→Q (.ref p) W2.H) (r:Addr) (hr:W2.H r=none):Q (.ref r) (cA W2.H r (.lst vs)):=
 k r (W2.mut r (.lst vs) (W2.gnone hr)) (e.trans (.own _ hr)) (none_of e.h hr) ⟨W2.gnone hr,vs,aF,h⟩
theorem qf {R:Rp α} {ma:Res (List α)} (ha:EV Er ta σ W (pk R) ma):EVo Er (dh (fun xs H Q=>∃p ys,xs=[.ref p]∧(SqL K H p ys∨SqT K H p ys)∧∀l,H l=none→Q (.ref l) (cA H l (.lst ys))) (ak ta aS)) σ W R ma:=fun W1 e1 Q k=>
 ha W1 e1 _ (k.imp fun a ka x W2 e2 hx=>by
  obtain⟨p,vs,rfl,h1,h2⟩:=hx
  exact⟨p,vs,rfl,.inl (AJ h1),fun l hl=>ip h2 e2 ka l hl⟩)
theorem LR.ints {H:Hp} {ns:List Int} {vs:List V} (h:LR isI H ns vs):vs=ns.map BM:=by
 refine Al fun i=>?_
 rw[yT]
 cases e:ns[i]? with
 | none=>rw[zQ]at e;rw[zQ.mpr (by rw[h.1];exact e)];rfl
 | some m=>obtain⟨v,a,b⟩:=h.get e;rw[a];cases b;rfl
theorem LR.bools {H:Hp} {ns:List Bool} {vs:List V} (h:LR isB H ns vs):vs=ns.map GG:=by
 refine Al fun i=>?_
 rw[yT]
 cases e:ns[i]? with
 | none=>rw[zQ]at e;rw[zQ.mpr (by rw[h.1];exact e)];rfl
 | some m=>obtain⟨v,a,b⟩:=h.get e;rw[a];cases b;rfl
theorem vf {ma:Res (List Bool)} (ha:EV Er ta σ W (pk isB) ma):EV Er (dh (fun xs H Q=>∃(p:Addr) (bs:List Bool),xs=[.ref p]∧SqL K H p (bs.map GG)∧Q (.bl (bs.all id)) H) (ak ta aS)) σ W (sh isB) (ma.bind fun a=>.ok (a.all id)):=fun W1 e1 Q k=>
 ha W1 e1 _ ((yG k).imp fun a ka x W2 e2 hx=>by
  obtain⟨p,vs,rfl,h1,h2⟩:=hx
  exact⟨p,a,rfl,AJ (by rw[h1,h2.bools]),ka _ W2 e2 rfl⟩)
theorem qg {f:α→V} {g:β→Key} [DecidableEq β] (hg:∀a b,g a=g b→a=b) (kvs:List (β×α)) (k:β):iP (kvs.map fun p=>(g p.1,f p.2)) (g k)=(look kvs k).map f:=by
 induction kvs with
 | nil=>rfl
 | cons p r ih =>
  unfold look at ih ⊢
  rw[zY]
  by_cases z:p.1=k
  ·rw[fK (by rw[z]),List.find?_cons_of_pos (by simpa using z)];rfl
  ·rw[fL (fun e=>z (hg _ _ e)),ih,List.find?_cons_of_neg (by simpa using z)]
theorem mS {R:Rp α} {Rk:Rp β} [DecidableEq β] {d:Addr} {kv:List (Key×V)} {kvs:List (β×α)} {f:α→V} {g:β→Key} (hg:∀a b,g a=g b→a=b) (hf:∀H a,R H a (f a)) (hk:∀H b v,Rk H b v→v=kV (g b)) (D:DictK K w d kv) (e:kv=kvs.map fun p=>(g p.1,f p.2)) {m:Res β} (h:EV Er t σ W (sh Rk) m):
  EV Er (aN K w (tC (.ref d)) t) σ W (sh R) (m.bind fun k=>getD kvs k):=fun W1 e1 Q k=>
 h W1 e1 _ ((yG k).imp fun b kb v W2 e2 hv => by
  obtain⟨a,h1,h2⟩:=dl kb
  refine⟨d,kv,g b,f a,rfl,D,hk _ _ _ hv,?_,h2 _ W2 e2 (hf _ _)⟩
  rw[e,qg hg,h1];rfl)
theorem xE:∀a b:Tx,(Bg (ap a):Key)=Bg (ap b)→a=b:=fun a b e=>mK (G9 e)
theorem xF:∀a b:Int,(Bf a:Key)=Bf b→a=b:=fun a b e=>G8 e
theorem oi {d:Addr} {kv:List (Key×V)} {kvs:List (Tx×Int)} (D:DictK K w d kv) (e:kv=kvs.map fun p=>(Bg (ap p.1),BM p.2)) {m:Res Tx} (h:EV Er t σ W (sh isS) m):EV Er (aN K w (tC (.ref d)) t) σ W (sh isI) (m.bind fun k=>getD kvs k):=mS (R:=isI) (f:=BM) (g:=fun a=>Bg (ap a)) xE (fun _ _=>rfl) (fun _ _ _ h=>h) D e h
theorem oj {d:Addr} {kv:List (Key×V)} {kvs:List (Int×Tx)} (D:DictK K w d kv) (e:kv=kvs.map fun p=>(Bf p.1,CM (ap p.2))) {m:Res Int} (h:EV Er t σ W (sh isI) m):EV Er (aN K w (tC (.ref d)) t) σ W (sh isS) (m.bind fun k=>getD kvs k):=mS (R:=isS) (f:=fun a=>CM (ap a)) (g:=fun a=>Bf a) xF (fun _ _=>rfl) (fun _ _ _ h=>h) D e h
theorem iq {ma:Res Int} {mb:Res (List Int)} (ha:EV Er ta σ W (sh isI) ma) (hb:EV Er tb σ W (pk isI) mb):EV Er (cI (eM K true) ta tb) σ W (sh isB) (ma.bind fun a=>mb.bind fun b=>.ok (!b.contains a)):=
 lJ ha hb fun W a b x y Q hx hy k=>by
  cases hx
  obtain⟨p,vs,rfl,h1,h2⟩:=hy
  refine⟨p,vs,rfl,.inl (AJ h1),rfl,by rw[h2.ints];simp[L2.flatV],?_⟩
  have e:wQ (.int a) vs=b.contains a:=by
   rw[h2.ints];unfold wQ
   rw[List.any_map,B7]
   simp[L2.eqV]
   try exact⟨fun⟨x,h,e⟩=>by subst e;exact h,fun h=>⟨a,h,rfl⟩⟩
  rw[if_pos rfl,e]
  exact k _ W (.refl _) rfl
theorem qh {R:Rp α} [Mono R] {ma:Res (List α)} (ha:EV Er ta σ W (pk R) ma):EV Er (dh (fun xs H Q=>∃p ys,xs=[.ref p]∧((SqL K H p ys∧∀l,H l=none→Q (.ref l) (cA H l (.tup ys)))∨(SqT K H p ys∧Q (.ref p) H))) (ak ta aS)) σ W (sh (isT3 K R R R)) (ma.bind fun a=>vc a):=fun W1 e1 Q k=>
 ha W1 e1 _ ((yG k).imp fun a ka x W2 e2 hx=>by
  obtain⟨p,vs,rfl,h1,h2⟩:=hx
  match a,ka,h2 with
  | [a, b, c], ka, h2 =>
   match vs,h2.1,h2,h1 with
   | [x, y, z], _, h2, h1 =>
    refine⟨p,_,rfl,.inl ⟨AJ h1,fun l hl=>ka (.ref l) (W2.new l (.tup [x,y,z])) (e2.trans (.new _ hl)) ⟨l,x,y,z,rfl,G5 aF,?_,?_,?_⟩⟩⟩
    ·exact yE (CW _ hl).g (h2.2 0 x a rfl rfl)
    ·exact yE (CW _ hl).g (h2.2 1 y b rfl rfl)
    ·exact yE (CW _ hl).g (h2.2 2 z c rfl rfl))
def EqK (K:PySem.W.Frag) (H:Hp):Nat→V→V→Prop
  | 0,v,u=>v=u∧flat v=true
  | n + 1, v, u => (v = u ∧ flat v = true) ∨ ∃ p q xs ys, v = .ref p ∧ u = .ref q ∧ ((H p = some (.lst xs) ∧ H q = some (.lst ys)) ∨ (SqT K H p xs ∧ SqT K H q ys)) ∧ xs.length = ys.length ∧
      ∀(i:Nat) (x y:V),xs[i]? =some x→ys[i]? =some y→EqK K H n x y
theorem EqK.same {H H':Hp} (e:Same H H'):∀{n:Nat} {v u:V},EqK K H n v u→EqK K H' n v u
 | 0,_,_,h=>h
 | n + 1, _, _, h => by
  rcases h with h | ⟨p,q,xs,ys,h1,h2,h3,h4,h5⟩
  ·exact .inl h
  ·refine .inr ⟨p,q,xs,ys,h1,h2,?_,h4,fun i x y e1 e2=>EqK.same e (h5 i x y e1 e2)⟩
   rcases h3 with⟨a,b⟩ | ⟨a,b⟩
   ·exact .inl ⟨e _ _ a,e _ _ b⟩
   ·exact .inr ⟨AO e a,AO e b⟩
theorem EqK.flat {H:Hp} {n:Nat} {v:V} (h:L2.flat v=true):EqK K H n v v:=by cases n with | zero=>exact⟨rfl,h⟩ | succ n=>exact .inl ⟨rfl,h⟩
class EqR (K:PySem.W.Frag) {α:Type} (R:Rp α) (n:outParam Nat):Prop where
 eq:∀H a v u m,n≤m→R H a v→R H a u→EqK K H m v u
instance zkeep18:EqR K isI 0:=⟨fun H a v u m _ h1 h2=>by cases h1;cases h2;exact .flat rfl⟩
instance zkeep19:EqR K isS 0:=⟨fun H a v u m _ h1 h2=>by cases h1;cases h2;exact .flat rfl⟩
instance zkeep23 {R:Rp α} {n:Nat} [EqR K R n]:EqR K (isL R) (n+1):=⟨fun H a v u m hm ⟨p,vs,h1,h2,h3⟩ ⟨q,us,g1,g2,g3⟩=>by
 cases m with
 | zero=>omega
 | succ m =>
  refine .inr ⟨p,q,vs,us,h1,g1,.inl ⟨h2,g2⟩,by rw[h3.1,g3.1],fun i x y e1 e2=>?_⟩
  obtain⟨b,hb,rb⟩:=h3.got e1
  exact EqR.eq H b x y m (by omega) rb (g3.2 i y b e2 hb)⟩
instance zkeep24 {R1:Rp α} {R2:Rp β} {n k:Nat} [EqR K R1 n] [EqR K R2 k]:EqR K (isT2 K R1 R2) (max n k+1):=⟨fun H a v u m hm ⟨p,x,y,h0,h,h1,h2⟩ ⟨q,x',y',g0,g,g1,g2⟩=>by
 cases m with
 | zero=>omega
 | succ m =>
  refine .inr ⟨p,q,_,_,h0,g0,.inr ⟨h,g⟩,rfl,fun i z z' e1 e2=>?_⟩
  match i,e1,e2 with
  | 0,e1,e2=>cases e1;cases e2;exact EqR.eq H _ _ _ m (by omega) h1 g1
  | 1,e1,e2=>cases e1;cases e2;exact EqR.eq H _ _ _ m (by omega) h2 g2⟩
instance zkeep25 {R1:Rp α} {R2:Rp β} {R3:Rp γ} {n k l:Nat} [EqR K R1 n] [EqR K R2 k] [EqR K R3 l]:EqR K (isT3 K R1 R2 R3) (max n (max k l)+1):=⟨fun H a v u m hm ⟨p,x,y,z,h0,h,h1,h2,h3⟩ ⟨q,x',y',z',g0,g,g1,g2,g3⟩=>by
 cases m with
 | zero=>omega
 | succ m =>
  refine .inr ⟨p,q,_,_,h0,g0,.inr ⟨h,g⟩,rfl,fun i w w' e1 e2=>?_⟩
  match i,e1,e2 with
  | 0,e1,e2=>cases e1;cases e2;exact EqR.eq H _ _ _ m (by omega) h1 g1
  | 1,e1,e2=>cases e1;cases e2;exact EqR.eq H _ _ _ m (by omega) h2 g2
  | 2,e1,e2=>cases e1;cases e2;exact EqR.eq H _ _ _ m (by omega) h3 g3⟩
end
end Wb
namespace L2
open PySem PySem.Spec PyProof.Rows
section
variable {X:Cx} {K:PySem.W.Frag} {w:zt} {o e:Expr} {to:TE} {t:TA} {apos cpos:Pos}
def wu (K:PySem.W.Frag):V→List V→Hp→VK→Prop:=fun x xs H Q=>∃(p:Addr) (ys:List (List Nat)),x=.str (ap [])∧xs=[.ref p]∧SqL K H p (ys.map fun y=>CM (ap y))∧ys.flatten.length≤100000∧Q (.str (ap ys.flatten)) H
def wv:V→List V→Hp→VK→Prop:=fun x xs H Q=>∃a b,x=.str a∧xs=[.str b]∧0≤D0 a b∧Q (.int (D0 a b)) H
abbrev xG (X:Cx) (cpos:Pos) (e:Expr):Prop:=((backTo cpos (starEach [e] X.env)).all (fun x=> !x.1) && (backToKw cpos (keywordEach [] X.env)).all (fun x=>x.1.isSome) && decide ([e].length+([]:List EF).length+(if([]:List EF).isEmpty then 0 else 1)< 30))=true
theorem ir (h:X.K=K):cX X (.type "tuple") (fun xs H Q=>∃p ys,xs=[.ref p]∧((SqL K H p ys∧∀l,H l=none→Q (.ref l) (cA H l (.tup ys)))∨(SqT K H p ys∧Q (.ref p) H))):=h▸iO
theorem iu (h:X.K=K) (ho:PE X o to) (ha:PA X [e] t) (hbase:attributeBase o "join" X.env (eval o X.env)=eval o X.env:=by rfl) (hfew:xG X cpos e:=by rfl) (hline:(apos.endLine == cpos.line)=true:=by rfl) (hs:starEach [e] X.env=(false,eval e X.env)::starEach [] X.env:=by rfl) (hplain:(backTo cpos (starEach [] X.env)).any (·.1)=false:=by rfl):
  PE X (.Call (.Attribute o "join" apos) [e] [] cpos) (dq K "str" (wu K) to t):=lI (K:=K) h PySem.F.plainAttrs_str PySem.F.slot_str_join PySem.F.type_str_join (pP (K:=K) h) ho ha hbase hfew hline hs hplain
theorem dX (h:X.K=K) (hc:X.calm=true) (ho:PE X o to) (ha:PA X [e] t) (hbase:attributeBase o "index" X.env (eval o X.env)=eval o X.env:=by rfl) (hfew:xG X cpos e:=by rfl) (hline:(apos.endLine == cpos.line)=true:=by rfl) (hs:starEach [e] X.env=(false,eval e X.env)::starEach [] X.env:=by rfl) (hplain:(backTo cpos (starEach [] X.env)).any (·.1)=false:=by rfl):
  PE X (.Call (.Attribute o "index" apos) [e] [] cpos) (dq K "str" wv to t):=lI (K:=K) h PySem.F.plainAttrs_str PySem.F.slot_str_index PySem.F.type_str_index (pH hc) ho ha hbase hfew hline hs hplain
theorem bH (h:X.K=K) (ho:PE X o to) (ha:PA X [e] t) (hbase:attributeBase o "append" X.env (eval o X.env)=eval o X.env:=by rfl) (hfew:xG X cpos e:=by rfl) (hline:(apos.endLine == cpos.line)=true:=by rfl) (hs:starEach [e] X.env=(false,eval e X.env)::starEach [] X.env:=by rfl) (hplain:(backTo cpos (starEach [] X.env)).any (·.1)=false:=by rfl):
  PE X (.Call (.Attribute o "append" apos) [e] [] cpos) (dq K "list" au to t):=lI (K:=K) h PySem.F.plainAttrs_list PySem.F.slot_list_append PySem.F.type_list_append nS ho ha hbase hfew hline hs hplain
end
end L2
namespace Wb
open PySem L2 Mi
variable {Er:Nat→Prop}
section
variable {α β γ δ:Type} {t t1 t2 t3 ta tb tc:TE} {σ:St} {W W0 W':Wd} {K:PySem.W.Frag} {w:zt}
theorem qi {ma:Res (List Int)} (ha:EV Er ta σ W (pk isI) ma):EVo Er (dh (fun xs H Q=>∃(p:Addr) (ns:List Int),xs=[.ref p]∧SqL K H p (ns.map BM)∧ns.length< 64∧∀(q:Addr) (ns':List Int),H q=none→ns'.Perm ns→ns'.Pairwise (· ≤ ·)→Q (.ref q) (cA H q (.lst (ns'.map BM)))) (ak ta aS)) σ W isI (ma.bind fun a=>pU a):=fun W1 e1 Q k=>
 ha W1 e1 _ ((yG k).imp fun a ka x W2 e2 hx=>by
  obtain⟨p,vs,rfl,h1,h2⟩:=hx
  obtain⟨h3,h4⟩:=bg ka
  refine⟨p,a,rfl,AJ (by rw[h1,h2.ints]),h3,fun q ns' hq hp hs=>?_⟩
  rw[o8 hp hs]
  exact ip (vs:=(gq a).map BM) ⟨by simp,fun i v m e1 e2=>by rw[yT,e2]at e1;cases e1;rfl⟩ e2 h4 q hq)
theorem kI {R1:Rp α} {R2:Rp β} {d:Addr} {x y:V} {a:α} {b:β} (T:∀H,SqT K H d [x,y]) (h1:∀H,R1 H a x) (h2:∀H,R2 H b y):EV Er (tC (.ref d)) σ W (sh (isT2 K R1 R2)) (.ok (a,b)):=fun W1 _ Q k=>k _ W1 (.refl _) ⟨d,x,y,rfl,T _,h1 _,h2 _⟩
theorem gI (i:Int):∀H,isI H i (.int i):=fun _=>rfl
end
end Wb
namespace Mi
theorem fS {a b:Int} (h:0< b):iR a b=.ok (a% b):=br h
theorem kJ {a b:Int} (h1:0< b) (h2:b< 1073741824):gB a b=.ok (a/ b):=br ⟨h1,h2⟩
theorem iw {a b:Int} (h1: -18446744073709551616< a) (h2:a< 18446744073709551616):i9 a b=.ok (a*b):=br (.inl ⟨h1,h2⟩)
theorem qj {a b:Int} (h1: -18446744073709551616< b) (h2:b< 18446744073709551616):i9 a b=.ok (a*b):=br (.inr ⟨h1,h2⟩)
theorem dH {α:Type} {xs:List α} {x:α} (h:xs.length< 100000):dz xs x=.ok (xs++ [x]):=br h
theorem jG {a b:Tx} (h:a.length+b.length≤100000):iS a b=.ok (a++b):=br h
theorem sP {c:Nat} {n:Int} (h0:0≤n) (h1:n≤100000):vb [c] n=.ok (AK n.toNat c):=br ⟨h0,h1⟩
theorem mT {a:Tx} {lo hi:Option Int} (h:a.length≤100000):o7 a lo hi=.ok (cut a lo hi):=br h
theorem kK {xs:List Tx} (h:xs.flatten.length≤100000):kE xs=.ok xs.flatten:=br h
theorem om {n:Nat} (h:n≤100000):eT (n:Int)=.ok ((Aj n).map fun(i:Nat)=>(i:Int)):=by
 unfold eT;rw[br ⟨by omega,by omega⟩];simp[ig]
theorem gO {α:Type} {xs:List α} {i:Int} (h0:0≤i) (h1:i< xs.length):∃x,ic xs i=.ok x∧xs[i.toNat]? =some x:=by
 obtain⟨h,e⟩:=pS h0 h1
 exact⟨xs[i.toNat],by unfold ic;rw[e];rfl,by simp[h]⟩
theorem fq {x:Tx} {i:Int} (h0:0≤i) (h1:i< x.length) (h2:x.length≤100000):∃c,dC x i=.ok [c]∧x[i.toNat]? =some c:=by
 obtain⟨h,e⟩:=pS h0 h1
 refine⟨x[i.toNat],?_,by simp[h]⟩
 unfold dC;rw[br h2];show(sH (p4 x i)).bind _=_;rw[e];rfl
theorem vg {x:Tx} {i:Int} (h0:0≤i) (h1:i< x.length) (h2:x.length≤100000):dC x i=.ok [x[i.toNat]?.getD 0]:=by
 obtain⟨c,e,h⟩:=fq h0 h1 h2
 rw[e,h];rfl
theorem sQ {α:Type} {xs:List α} {i:Int} {x:α} (h0:0≤i) (h1:i< xs.length):ie xs i x=.ok (xs.set i.toNat x):=by
 unfold ie ixN;rw[if_pos h0,if_pos h1];rfl
theorem lN {α:Type} [DecidableEq α] {a b:α} (h:a=b):vR a b=.ok true:=if_pos h
theorem qk {xs:List Int} (h:xs.length< 64):pU xs=.ok (gq xs):=br h
theorem da {α S:Type} {f:α→S→Res S} (I:List α→S→Prop) (xs:List α) (s0:S) (h0:I [] s0) (step:∀pre a post s,xs=pre++a::post→I pre s→∃s',f a s=.ok s'∧I (pre++ [a]) s'):
  ∃s,bF f xs s0=.ok s∧I xs s:=by
 have key:∀(post pre:List α) (s:S),xs=pre++post→I pre s→∃s',bF f post s=.ok s'∧I xs s':=by
  intro post
  induction post with
  | nil=>intro pre s e h;rw[Ao]at e;subst e;exact⟨s,rfl,h⟩
  | cons a r ih =>
   intro pre s e h
   obtain⟨s1,e1,h1⟩:=step pre a r s e h
   obtain⟨s2,e2,h2⟩:=ih (pre++ [a]) s1 (by rw[e];simp) h1
   exact⟨s2,by unfold bF;rw[e1];exact e2,h2⟩
 exact key xs [] s0 rfl h0
theorem kL {α β:Type} {f:α→Res (Option β)} {g:α→Option β} :∀{xs:List α},(∀x∈xs,f x=.ok (g x))→fN f xs=.ok (xs.filterMap g)
 | [],_=>rfl
 | a :: r, h => by
  unfold fN
  rw[h a (zk ..),yI,kL fun x hx=>h x (zh _ hx),yI,Bh]
  cases g a <;> rfl
theorem ql {α β:Type} {f:α→Res (Option β)} {g:α→Option β} {xs:List α} (hl:xs.length≤100000) (h:∀x∈xs,f x=.ok (g x)):mM xs f=.ok (xs.filterMap g):=by
 unfold mM;rw[br hl,yI,kL h]
theorem qm {α β:Type} {f:α→Res β} {P:α→β→Prop} {xs:List α} (hl:xs.length≤100000) (h:∀x∈xs,∃y,f x=.ok y∧P x y):∃ys,dA xs f=.ok ys∧ys.length=xs.length∧∀(i:Nat) x y,xs[i]? =some x→ys[i]? =some y→P x y:=by
 unfold dA
 rw[br hl,yI]
 clear hl
 induction xs with
 | nil=>exact⟨[],rfl,rfl,fun i x y e=>by simp at e⟩
 | cons a r ih =>
  obtain⟨b,e,hb⟩:=h a (zk ..)
  obtain⟨bs,e2,hl2,h2⟩:=ih fun x hx=>h x (zh _ hx)
  refine⟨b::bs,by unfold gJ;rw[e,yI,e2];rfl,by simp[hl2],fun i x y e3 e4=>?_⟩
  cases i with
  | zero=>cases e3;cases e4;exact hb
  | succ j=>exact h2 j x y e3 e4
theorem mU (l:List Nat):((l.map fun c=>[c]):List Tx).flatten=l:=by induction l with | nil=>rfl | cons a r ih=>simp[ih]
theorem kM {α:Type} (l:List α) (k:Nat):cut l none (some (k:Int))=l.take k:=by
 unfold cut sIx;simp only[]
 rw[if_neg (by omega),A3];simp[List.take_eq_take_iff]
theorem qo {α:Type} (l:List α) (k:Nat):cut l (some (k:Int)) none=l.drop k:=by
 unfold cut sIx;simp only[]
 rw[if_neg (by omega),A3]
 by_cases h:k≤l.length
 ·rw[Nat.min_eq_left h,Cg (by simp)]
 ·rw[Nat.min_eq_right (by omega),DF (by omega),DF (by omega)];simp
theorem ft {x:Tx} {t:Tx} (h:t∈cv x):∃c∈x,t=[c]:=by
 unfold cv at h;obtain⟨c,hc,e⟩:=zD.mp h;exact⟨c,hc,e.symm⟩
theorem sR (a:Int):0≤ca a:=by unfold ca;split <;> omega
section
variable {α β:Type} {P:α→Prop} {Q:β→Prop}
theorem gD {m:Res α} {f:α→Res β} (h:m.Ok fun a=>(f a).Ok Q):(m.bind f).Ok Q:=Res.bind_ok h
theorem xH {b:Bool} {A B:Res α} (h1:b=true→A.Ok P) (h2:b=false→B.Ok P):(if b=true then A else B).Ok P:=by
 cases b with
 | true=>exact h1 rfl
 | false=>exact h2 rfl
theorem jY {c:Prop} [Decidable c] {A B:Res α} (h1:c→A.Ok P) (h2:¬c→B.Ok P):(if decide c=true then A else B).Ok P:=by
 by_cases h:c
 ·rw[decide_eq_true h];exact h1 h
 ·rw[decide_eq_false h];exact h2 h
theorem eN {a:α} (h:P a):(yL a).Ok P:=h
end
end Mi
namespace L2
open PySem PySem.Spec PyProof.Rows Wb
end L2
namespace L2
open PySem PySem.Spec PyProof.Rows
end L2
namespace Wb
open PySem L2 Mi
variable {Er:Nat→Prop}
end Wb
namespace Mi
def gM {κ α:Type} [DecidableEq κ] (kvs:List (κ×α)) (k:κ) (a:α):List (κ×α):=
 if(kvs.any fun kv=>decide (kv.1=k))=true then kvs.map (fun kv=>if kv.1=k then(kv.1,a)else kv)else kvs++ [(k,a)]
end Mi
namespace PySem
open Sem (wp)
open AutoSeq1 (wpAny_loadPart')
end PySem
namespace L2
open PySem PySem.Spec PyProof.Rows
end L2
namespace L2
end L2
namespace Wb
open PySem L2 Mi
variable {Er:Nat→Prop}
section
variable {α β γ δ:Type} {t t1 t2 t3 t4 ta tb tc td:TE} {σ:St} {W W0 W':Wd} {K:PySem.W.Frag} {w:zt}
def fu (K:PySem.W.Frag):Nat→Sp
 | 0=>fun _ _ _ _=>False
 | n+1=>fun vs H Q _=>∃v u,vs=[v,u]∧((EqK K H n v u∧∀H',Same H H'→Q (.bl true) H')∨∃x y,v=.str x∧u=.str y∧Q (.bl (decide (CM x=CM y))) H)
theorem iy [DecidableEq α] {R:Rp α} [Mono R] {n N:Nat} [EqR K R n] {E:XK} {ma mb:Res α} (hn:n< N) (ha:EV Er ta σ W (sh R) ma) (hb:EV Er tb σ W (sh R) mb):EV Er (aV (fu K N) [] E (ak ta (ak tb aS))) σ W (sh isB) (ma.bind fun a=>mb.bind fun b=>vR a b):=fun W1 e1 Q k=>
 ha W1 e1 _ ((yG k).imp fun a ka x W2 e2 hx=>hb W2 (e1.trans e2) _ ((yG ka).imp fun b kb y W3 e3 hy=>by
  unfold vR at kb
  by_cases z:a=b
  ·rw[if_pos z]at kb
   subst z
   cases N with
   | zero=>omega
   | succ N =>
    refine⟨x,y,rfl,.inl ⟨EqR.eq W3.H a x y N (by omega) (yE W3.ok (yE (R:=R) e3.g hx)) (yE W3.ok hy),fun H' hs=>?_⟩⟩
    exact kb (.bl true) ⟨W3.G,H',W3.ok.trans hs⟩ ⟨e2.g.trans e3.g,(e2.h.trans e3.h).trans hs,fun p hp=>(e2.trans e3).k p hp⟩ rfl
  ·rw[if_neg z]at kb;exact kb.elim))
theorem EV.go {W1:Wd} {R:Rw α} {m:Res α} {Q:VK} (e:Ext W W1) (h:EV Er t σ W R m) (k:m.OkE Er fun a=>∀v W2,Ext W1 W2→R W2 a v→Q v W2.H):t σ W1.H Q:=h W1 e Q k
end
end Wb
namespace Mi
end Mi
namespace L2
open PySem PySem.Spec PyProof.Rows
end L2
namespace L2
open PySem PySem.Spec PySem.Calls PyProof.Rows
open PySem.W (findIn findObj mroIn looks_findIn looks_find looks_mroIn class_get KitX clsIn Frag)
end L2
namespace L2
open PySem PySem.Spec PySem.Calls PyProof.Rows
end L2
namespace L2
open PySem PySem.Spec PySem.Calls PyProof.Rows Mi
end L2
namespace Wb
open PySem L2 Mi
end Wb
namespace Wb
open PySem L2 Mi
open PySem.W (findIn findObj mroIn kitOne kitCls clsIn typeIn subIn specialIn takesIn Frag)
end Wb
namespace Wb
open PySem L2 Mi
end Wb
namespace L2
open PySem PySem.Spec PyProof.Rows
end L2
namespace Wb
open PySem L2 Mi
end Wb
namespace Mi
end Mi
namespace Wb
open PySem L2 Mi
end Wb
namespace L2
open PySem PySem.Spec PyProof.Rows
end L2
namespace Wb
open PySem L2 Mi
end Wb
namespace L2
open PySem PySem.Spec PySem.Calls PyProof.Rows Mi
end L2
namespace Wb
open PySem L2 Mi
end Wb
namespace L2
open PySem PySem.Spec PyProof.Rows
end L2
namespace Wb
open PySem L2 Mi
end Wb
namespace L2
open PySem PySem.Spec PyProof.Rows
end L2
namespace Wb
open PySem L2 Mi
end Wb
namespace Mi
def sS {α β:Type} (p:List β×(List β→α)) (j:Int):Res (β×(β→α)):=(sH (ixN p.1.length j)).bind fun k=>(sH p.1[k]?).bind fun b=>.ok (b,fun b'=>p.2 (p.1.set k b'))
end Mi
namespace Wb
open PySem L2 Mi
abbrev FS:=Addr→Prop
abbrev Rf (α:Type):=Wd→FS→α→V→Prop
theorem nn_of {H:Hp} {q:Addr} {o:HO} (h:H q=some o):H q≠none:=by rw[h];exact fun z=>nomatch z
structure MuF (F:FS) (W W':Wd):Prop where
 g:Same W.G W'.G
 h:∀q,¬F q→W.H q≠none→W'.H q=W.H q
 k:∀q,W.H q≠none→W'.G q=W.G q
 n:∀q,W.H q≠none→W'.H q≠none
section
variable {α β γ:Type} {K:PySem.W.Frag} {W W' W0 W1 W2:Wd} {F F' F1:FS}
theorem Ext.keepH (e:Ext W W') {q:Addr} (hn:W.H q≠none):W'.H q=W.H q:=by
 obtain⟨o,ho⟩:=BI.mp hn
 rw[ho];exact e.h _ _ ho
theorem Ext.muF (e:Ext W W'):MuF F W W':=⟨e.g,fun q _ hn=>e.keepH hn,e.k,fun q hn=>by rw[e.keepH hn];exact hn⟩
theorem MuF.trans (m:MuF F W W1) (m':MuF F1 W1 W2) (hF:∀q,F1 q→F q∨W.H q=none):MuF F W W2:=⟨m.g.trans m'.g,fun q hq hn=>by
 have h1:=m.h q hq hn
 have:¬F1 q:=fun z=>(hF q z).elim hq hn
 rw[m'.h q this (by rw[h1];exact hn),h1],fun q hn=>by rw[m'.k q (m.n q hn),m.k q hn],fun q hn=>m'.n q (m.n q hn)⟩
theorem MuF.of {p:Addr} {o:HO} (hF:F p) (hg:W.G p=none):MuF F W (W.mut p o hg):=⟨.refl _,fun q hq hn=>aL fun z=>hq (z▸hF),fun _ _=>rfl,fun q hn=>by
 show cA W.H p o q≠none
 by_cases z:q=p
 ·rw[z,aF];exact fun z=>nomatch z
 ·rw[aL z];exact hn⟩
class FrT (R:Rf α):Prop where
 fr:∀{W W':Wd} {F:FS} {a:α} {v:V},R W F a v→Same W.G W'.G→(∀q,F q→W'.H q=W.H q∧W'.G q=W.G q)→R W' F a v
 lv:∀{W:Wd} {F:FS} {a:α} {v:V},R W F a v→∀q,F q→W.G q=none∧W.H q≠none
theorem FrT.ext {R:Rf α} [FrT R] {a:α} {v:V} (t:R W F a v) (e:Ext W W'):R W' F a v:=FrT.fr t e.g fun q hq=>⟨e.keepH (FrT.lv t q hq).2,e.k q (FrT.lv t q hq).2⟩
theorem FrT.mu {R:Rf α} [FrT R] {a:α} {v:V} (t:R W F a v) (m:MuF F' W W') (dj:∀q,F q→F' q→False):R W' F a v:=FrT.fr t m.g fun q hq=>⟨m.h q (dj q hq) (FrT.lv t q hq).2,m.k q (FrT.lv t q hq).2⟩
class FzT (R:Rf α) (R':outParam (Rp α)):Prop where
 fz:∀{W W':Wd} {F:FS} {a:α} {v:V},R W F a v→Same W.G W'.G→(∀q,F q→W'.G q=W.H q)→R' W'.G a v
def fz (R:Rp α):Rf α:=fun W F a v=>(∀q,¬F q)∧R W.G a v
instance zkeep44 {R:Rp α} [Mono R]:FrT (fz R):=⟨fun h s _=>⟨h.1,yE s h.2⟩,fun h q hq=>absurd hq (h.1 q)⟩
instance zkeep45 {R:Rp α} [Mono R]:FzT (fz R) R:=⟨fun h s _=>yE s h.2⟩
structure TL (R:Rf α) (W:Wd) (Fs:Nat→FS) (xs:List α) (vs:List V):Prop where
 len:vs.length=xs.length
 el:∀i x u,xs[i]? =some x→vs[i]? =some u→R W (Fs i) x u
 rng:∀i q,Fs i q→i< xs.length
 dj:∀i j q,Fs i q→Fs j q→i=j
def oL (R:Rf α):Rf (List α):=fun W F xs v=>∃(p:Addr) (vs:List V) (Fs:Nat→FS),v=.ref p∧W.G p=none∧W.H p=some (.lst vs)∧TL R W Fs xs vs∧(∀i,¬Fs i p)∧∀q,F q↔q=p∨∃i,Fs i q
theorem TL.at2 {R:Rf α} {Fs:Nat→FS} {xs:List α} {vs:List V} (t:TL R W Fs xs vs) {i:Nat} {q:Addr} (h:Fs i q):∃x u,xs[i]? =some x∧vs[i]? =some u∧R W (Fs i) x u:=by
 have h1:=t.rng i q h
 have h2:i< vs.length:=by rw[t.len];exact h1
 exact⟨xs[i],vs[i],by simp[h1],by simp[h2],t.el i _ _ (by simp[h1]) (by simp[h2])⟩
instance zkeep46 {R:Rf α} [FrT R]:FrT (oL R):=⟨fun⟨p,vs,Fs,e,g,h,t,np,hF⟩ s k=>by
 have kp:=k p ((hF p).mpr (.inl rfl))
 exact⟨p,vs,Fs,e,by rw[kp.2];exact g,by rw[kp.1];exact h,⟨t.len,fun i x u a b=>FrT.fr (t.el i x u a b) s (fun q hq=>k q ((hF q).mpr (.inr ⟨i,hq⟩))),t.rng,t.dj⟩,np,hF⟩,fun⟨p,vs,Fs,e,g,h,t,np,hF⟩ q hq=>by
 rcases (hF q).mp hq with rfl | ⟨i,hi⟩
 ·exact⟨g,nn_of h⟩
 ·obtain⟨x,u,_,_,r⟩:=t.at2 hi
  exact FrT.lv r q hi⟩
instance zkeep47 {R:Rf α} {R':Rp α} [FzT R R']:FzT (oL R) (isL R'):=⟨fun⟨p,vs,Fs,e,g,h,t,np,hF⟩ s k=>⟨p,vs,e,by rw[k p ((hF p).mpr (.inl rfl))];exact h,t.len,fun i u x a b=>FzT.fz (t.el i x u b a) s fun q hq=>k q ((hF q).mpr (.inr ⟨i,hq⟩))⟩⟩
structure TC where
 {α:Type}
 R:Rf α
 a:α
 v:V
 i:FrT R
def tc (R:Rf α) [FrT R] (a:α) (v:V):TC:=⟨R,a,v,inferInstance⟩
def noT:Rf Unit:=fun _ F _ _=>∀q,¬F q
instance zkeep48:FrT noT:=⟨fun h _ _=>h,fun h q hq=>absurd hq (h q)⟩
def xI:TC:=tc noT () .non
structure SepF (W0 W:Wd) (Fs:Nat→FS) (cs:List TC):Prop where
 el:∀(i:Nat) (c:TC),cs[i]? =some c→c.R W (Fs i) c.a c.v
 rng:∀i q,Fs i q→i< cs.length
 dj:∀i j q,Fs i q→Fs j q→i=j
 nw:∀i q,Fs i q→W0.H q=none
def Sep (W0 W:Wd) (cs:List TC):Prop:=∃Fs,SepF W0 W Fs cs
variable {cs:List TC}
theorem Sep.nil:Sep W0 W []:=⟨fun _ _=>False,fun _ _ h=>by simp at h,fun _ _ h=>h.elim,fun _ _ _ h=>h.elim,fun _ _ h=>h.elim⟩
theorem SepF.lv {Fs:Nat→FS} (s:SepF W0 W Fs cs) {i:Nat} {q:Addr} (h:Fs i q):W.G q=none∧W.H q≠none:=by
 have h1:=s.rng i q h
 have:=s.el i cs[i] (by simp[h1])
 exact @FrT.lv _ _ cs[i].i _ _ _ _ this q h
theorem Sep.ext (s:Sep W0 W cs) (e:Ext W W'):Sep W0 W' cs:=by
 obtain⟨Fs,s⟩:=s
 exact⟨Fs,fun i c h=> @FrT.ext _ _ _ _ _ c.i _ _ (s.el i c h) e,s.rng,s.dj,s.nw⟩
theorem SepF.put {Fs:Nat→FS} {R:Rf β} [FrT R] {b:β} {u:V} {i:Nat} (s:SepF W0 W Fs cs) (E:Ext W0 W) (m:MuF (Fs i) W W') (hF:∀q,F q→Fs i q∨W.H q=none) (t:R W' F b u) (hi:i< cs.length):Sep W0 W' (cs.set i (tc R b u)):=by
 refine⟨fun j=>if j=i then F else Fs j,fun j c h=>?_,fun j q h=>?_,fun j k q h1 h2=>?_,fun j q h=>?_⟩
 ·rw[AQ]at h
  by_cases z:i=j
  ·subst z
   rw[if_pos rfl,if_pos hi]at h
   cases h
   simp only[if_true]
   exact t
  ·rw[if_neg z]at h
   simp only[if_neg (AZ z)]
   exact @FrT.mu _ _ _ _ _ _ c.i _ _ (s.el j c h) m fun q a b=>z (s.dj j i q a b).symm
 ·rw[AD]
  by_cases z:j=i
  ·rw[z];exact hi
  ·simp only[if_neg z]at h;exact s.rng j q h
 ·have key:∀j q,(if j=i then F else Fs j) q→(j=i∧F q)∨(j≠i∧Fs j q):=fun j q h=>by
   by_cases z:j=i
   ·exact .inl ⟨z,by simpa [if_pos z] using h⟩
   ·exact .inr ⟨z,by simpa [if_neg z] using h⟩
  rcases key j q h1 with⟨z1,a⟩ | ⟨z1,a⟩ <;> rcases key k q h2 with⟨z2,b⟩ | ⟨z2,b⟩
  ·rw[z1,z2]
  ·exact((hF q a).elim (fun y=>z2 (s.dj k i q b y)) fun y=>absurd y (s.lv b).2).elim
  ·exact((hF q b).elim (fun y=>z1 (s.dj j i q a y)) fun y=>absurd y (s.lv a).2).elim
  ·exact s.dj j k q a b
 ·by_cases z:j=i
  ·simp only[if_pos z]at h
   exact(hF q h).elim (s.nw i q) fun y=>none_of E.h y
  ·simp only[if_neg z]at h;exact s.nw j q h
theorem Sep.add {R:Rf β} [FrT R] {b:β} {u:V} (s:Sep W0 W cs) (E:Ext W0 W) (e:Ext W W') (hF:∀q,F q→W.H q=none) (t:R W' F b u):Sep W0 W' (cs++ [tc R b u]):=by
 obtain⟨Fs,s⟩:=s
 have hn:∀j q,j=cs.length→¬Fs j q:=fun j q z h=>by have:=s.rng j q h;omega
 have key:∀j q,(if j=cs.length then F else Fs j) q→(j=cs.length∧F q)∨(j< cs.length∧Fs j q):=fun j q h=>by
  by_cases z:j=cs.length
  ·exact .inl ⟨z,by simpa [if_pos z] using h⟩
  ·have h':Fs j q:=by simpa [if_neg z] using h
   exact .inr ⟨s.rng j q h',h'⟩
 refine⟨fun j=>if j=cs.length then F else Fs j,fun j c h=>?_,fun j q h=>?_,fun j k q h1 h2=>?_,fun j q h=>?_⟩
 ·by_cases z:j< cs.length
  ·rw[zc z]at h
   simp only[if_neg (zg z)]
   exact @FrT.ext _ _ _ _ _ c.i _ _ (s.el j c h) e
  ·rw[zd (by omega)]at h
   have:j- cs.length=0:=by
    refine BR fun y=>?_
    rw[zQ.mpr (by simp;omega)]at h;cases h
   rw[this]at h
   cases h
   have z2:j=cs.length:=by omega
   simp only[if_pos z2]
   exact t
 ·rw[Bp,Cr]
  rcases key j q h with⟨a,_⟩ | ⟨a,_⟩ <;> omega
 ·rcases key j q h1 with⟨z1,a⟩ | ⟨z1,a⟩ <;> rcases key k q h2 with⟨z2,b⟩ | ⟨z2,b⟩
  ·omega
  ·exact absurd (hF q a) (s.lv b).2
  ·exact absurd (hF q b) (s.lv a).2
  ·exact s.dj j k q a b
 ·rcases key j q h with⟨_,a⟩ | ⟨_,a⟩
  ·exact none_of E.h (hF q a)
  ·exact s.nw j q a
theorem SepF.del {Fs:Nat→FS} (s:SepF W0 W Fs cs) (i:Nat):Sep W0 W (cs.eraseIdx i):=by
 by_cases hi:i< cs.length
 ·have key:∀j q,(if j< i then Fs j else Fs (j+1)) q→(j< i∧Fs j q)∨(i≤j∧Fs (j+1) q):=fun j q h=>by
   by_cases z:j< i
   ·exact .inl ⟨z,by simpa [if_pos z] using h⟩
   ·exact .inr ⟨by omega,by simpa [if_neg z] using h⟩
  refine⟨fun j=>if j< i then Fs j else Fs (j+1),fun j c h=>?_,fun j q h=>?_,fun j k q h1 h2=>?_,fun j q h=>?_⟩
  ·by_cases z:j< i
   ·rw[List.getElem?_eraseIdx_of_lt z]at h
    simp only[if_pos z]
    exact s.el j c h
   ·rw[List.getElem?_eraseIdx_of_ge (by omega)]at h
    simp only[if_neg z]
    exact s.el (j+1) c h
  ·rw[CG,if_pos hi]
   rcases key j q h with⟨a,b⟩ | ⟨a,b⟩
   ·omega
   ·have:=s.rng _ q b;omega
  ·rcases key j q h1 with⟨z1,a⟩ | ⟨z1,a⟩ <;> rcases key k q h2 with⟨z2,b⟩ | ⟨z2,b⟩ <;> have:=s.dj _ _ q a b <;> omega
  ·rcases key j q h with⟨_,a⟩ | ⟨_,a⟩ <;> exact s.nw _ q a
 ·rw[List.eraseIdx_of_length_le (by omega)];exact⟨Fs,s⟩
theorem SepF.move {Fs:Nat→FS} {R:Rf β} [FrT R] {b:β} {u:V} {i j:Nat} (s:SepF W0 W Fs cs) (E:Ext W0 W) (m:MuF (fun q=>Fs i q∨Fs j q) W W') (hF:∀q,F q→Fs i q∨Fs j q∨W.H q=none) (t:R W' F b u) (hi:i< cs.length) (hij:i≠j):Sep W0 W' ((cs.set i (tc R b u)).eraseIdx j):=by
 have key:∀k q,(if k=i then F else if k=j then(fun _=>False)else Fs k) q→(k=i∧F q)∨(k≠i∧k≠j∧Fs k q):=fun k q h=>by
  by_cases z:k=i
  ·exact .inl ⟨z,by simpa [if_pos z] using h⟩
  ·rw[if_neg z]at h
   by_cases y:k=j
   ·simp[if_pos y]at h
   ·exact .inr ⟨z,y,by simpa [if_neg y] using h⟩
 have s2:SepF W0 W' (fun k=>if k=i then F else if k=j then(fun _=>False)else Fs k) ((cs.set i (tc R b u)).set j xI):=by
  refine⟨fun k c h=>?_,fun k q h=>?_,fun k l q h1 h2=>?_,fun k q h=>?_⟩
  ·rw[AQ]at h
   by_cases y:j=k
   ·subst y
    rw[if_pos rfl]at h
    split at h
    ·cases h
     simp only[if_neg (AZ hij),if_true]
     exact fun _ z=>z
    ·cases h
   ·rw[if_neg y,AQ]at h
    by_cases z:i=k
    ·subst z
     rw[if_pos rfl,if_pos hi]at h
     cases h
     simp only[if_true]
     exact t
    ·rw[if_neg z]at h
     simp only[if_neg (AZ z),if_neg (AZ y)]
     exact @FrT.mu _ _ _ _ _ _ c.i _ _ (s.el k c h) m fun q a b=>b.elim (fun b=>z (s.dj k i q a b).symm) fun b=>y (s.dj k j q a b).symm
  ·rw[AD,AD]
   rcases key k q h with⟨a,_⟩ | ⟨_,_,a⟩
   ·omega
   ·exact s.rng k q a
  ·rcases key k q h1 with⟨z1,a⟩ | ⟨z1,y1,a⟩ <;> rcases key l q h2 with⟨z2,b⟩ | ⟨z2,y2,b⟩
   ·omega
   ·exact((hF q a).elim (fun y=>z2 (s.dj l i q b y)) fun y=>y.elim (fun y=>y2 (s.dj l j q b y)) fun y=>absurd y (s.lv b).2).elim
   ·exact((hF q b).elim (fun y=>z1 (s.dj k i q a y)) fun y=>y.elim (fun y=>y1 (s.dj k j q a y)) fun y=>absurd y (s.lv a).2).elim
   ·exact s.dj k l q a b
  ·rcases key k q h with⟨_,a⟩ | ⟨_,_,a⟩
   ·exact(hF q a).elim (s.nw i q) fun y=>y.elim (s.nw j q) fun y=>none_of E.h y
   ·exact s.nw k q a
 have:=s2.del j
 rw[CH]at this
 exact this
open Classical in
theorem Sep.frz {R:Rf β} [FrT R] {R':Rp β} [FzT R R'] {b:β} {u:V} {i:Nat} (s:Sep W0 W cs) (E:Ext W0 W) (hc:cs[i]? =some (tc R b u)):∃W',W'.H=W.H∧Ext W0 W'∧Same W.G W'.G∧Sep W0 W' (cs.eraseIdx i)∧R' W'.G b u:=by
 obtain⟨Fs,s⟩:=s
 have hs:Same W.G fun q=>if Fs i q then W.H q else W.G q:=fun a o h=>by
  show(if Fs i a then _ else _)=_
  rw[if_neg fun z=>by have:=(s.lv z).1;rw[h]at this;cases this];exact h
 have ho:Same (fun q=>if Fs i q then W.H q else W.G q) W.H:=fun a o h=>by
  have h:(if Fs i a then W.H a else W.G a)=some o:=h
  split at h
  ·exact h
  ·exact W.ok _ _ h
 let W':Wd:=⟨_,W.H,ho⟩
 refine⟨W',rfl,⟨E.g.trans hs,E.h,fun q hq=>?_⟩,hs,?_,FzT.fz (R:=R) (s.el i _ hc) hs fun q hq=>if_pos hq⟩
 ·show(if Fs i q then _ else _)=_
  rw[if_neg fun z=>hq (s.nw i q z)];exact E.k q hq
 ·have s2:SepF W0 W' (fun k=>if k=i then(fun _=>False)else Fs k) (cs.set i xI):=by
   have key:∀k q,(if k=i then(fun _=>False)else Fs k) q→k≠i∧Fs k q:=fun k q h=>by
    by_cases z:k=i
    ·simp[if_pos z]at h
    ·exact⟨z,by simpa [if_neg z] using h⟩
   refine⟨fun k c h=>?_,fun k q h=>?_,fun k l q h1 h2=>s.dj k l q (key k q h1).2 (key l q h2).2,fun k q h=>s.nw k q (key k q h).2⟩
   ·rw[AQ]at h
    by_cases z:i=k
    ·subst z
     rw[if_pos rfl]at h
     split at h
     ·cases h
      simp only[if_true]
      exact fun _ z=>z
     ·cases h
    ·rw[if_neg z]at h
     simp only[if_neg (AZ z)]
     refine @FrT.fr _ _ c.i _ _ _ _ _ (s.el k c h) hs fun q hq=>⟨rfl,?_⟩
     show(if Fs i q then _ else _)=_
     rw[if_neg fun y=>z (s.dj i k q y hq)]
   ·rw[AD];exact s.rng k q (key k q h).2
  have:=s2.del i
  rw[CH]at this
  exact this
end
section
variable {Er:Nat→Prop} {α β γ δ ε ζ:Type} {K:PySem.W.Frag} {W W' W0 W1 W2:Wd} {F F' F1:FS} {cs:List TC} {σ:St} {t ta tb te ti tp t1 t2 t3 t4 t5:TE} {D:Ends} {i k:Nat} {r:TS}
def vw (R:Rf α):Rw α:=fun W a v=>∃F,R W F a v
instance zkeep49 {R:Rf α} [FrT R]:MonoW (vw R):=⟨fun e ⟨F,t⟩=>⟨F,FrT.ext t e⟩⟩
theorem Sep.vw {R:Rf α} [FrT R] {a:α} {v:V} (s:Sep W0 W cs) (hc:cs[k]? =some (tc R a v)):vw R W a v:=by
 obtain⟨Fs,s⟩:=s
 exact⟨Fs k,s.el k _ hc⟩
theorem sT {R:Rf α} [FrT R] {a:α} {v:V} (s:Sep W0 W cs) (hc:cs[k]? =some (tc R a v):=by rfl) (h:σ[i]? =some (some v):=by rfl):EV Er (bt i) σ W (vw R) (.ok a):=a8 (s.vw hc) h
theorem vh {xs:List α} {j:Int} {a:α} (h:p4 xs j=some a):∃l,Mi.ixN xs.length j=some l∧xs[l]? =some a:=by
 unfold p4 at h
 cases z:Mi.ixN xs.length j with
 | none=>rw[z]at h;cases h
 | some l=>rw[z]at h;exact⟨l,rfl,h⟩
theorem TL.ix {R:Rf α} {Fs:Nat→FS} {xs:List α} {vs:List V} (t:TL R W Fs xs vs) {j:Int} {l:Nat} {a:α} (h1:Mi.ixN xs.length j=some l) (h2:xs[l]? =some a):∃x,vs[l]? =some x∧L2.atI vs j=some x∧R W (Fs l) a x:=by
 have hl:l< vs.length:=by rw[t.len];exact(yR.mp h2).1
 refine⟨vs[l],by simp[hl],?_,t.el l a _ h2 (by simp[hl])⟩
 show(L2.ixN vs.length j).bind _=_
 rw[t.len,show L2.ixN xs.length j=Mi.ixN xs.length j from rfl,h1]
 simp[hl]
theorem sU {R:Rf α} [FrT R] {ma:Res (List α)} {mb:Res Int} (ha:EV Er ta σ W (vw (oL R)) ma) (hb:EV Er tb σ W (sh isI) mb):EV Er (cI (bM K) ta tb) σ W (vw R) (ma.bind fun a=>mb.bind fun b=>ic a b):=
 lJ ha hb fun W a b x y Q hx hy k=>by
  cases hy
  obtain⟨F,p,vs,Fs,rfl,g,h,t,np,hF⟩:=hx
  obtain⟨c,h4,h5⟩:=dl k
  obtain⟨l,h6,h7⟩:=vh h4
  obtain⟨z,h8,h9,h10⟩:=t.ix h6 h7
  exact⟨p,_,b,z,rfl,rfl,AJ h,h9,h5 _ W (.refl _) ⟨_,h10⟩⟩
theorem TL.lr {R:Rp α} {Fs:Nat→FS} {xs:List α} {vs:List V} (t:TL (fz R) W Fs xs vs):LR R W.G xs vs:=⟨t.len,fun i v m a b=>(t.el i m v b a).2⟩
theorem TL.of {R:Rp α} {xs:List α} {vs:List V} (t:LR R W.G xs vs):TL (fz R) W (fun _ _=>False) xs vs:=⟨t.1,fun i x u a b=>⟨fun _ z=>z,t.2 i u x b a⟩,fun _ _ z=>z.elim,fun _ _ _ z=>z.elim⟩
theorem sV {R:Rp α} {m:Res (List α)} (h:EV Er t σ W (vw (oL (fz R))) m):EV Er t σ W (pk R) m:=h.imp fun _ _ _ ⟨_,p,vs,Fs,e,g,h,t,_⟩=>⟨p,vs,e,h,t.lr⟩
def EVt (Er:Nat→Prop) (t:TE) (σ:St) (W:Wd) (R:Rf α) (m:Res α):Prop:=∀W1,Ext W W1→∀Q:VK,m.OkE Er (fun a=>∀v W2 F,Ext W1 W2→(∀q,F q→W1.H q=none)→R W2 F a v→Q v W2.H)→t σ W1.H Q
theorem oL.ofOw {R:Rp α} {p:Addr} {xs:List α} (o:Ow R W p xs):oL (fz R) W (· =p) xs (.ref p):=by
 obtain⟨vs,h1,h2⟩:=o.h
 exact⟨p,vs,fun _ _=>False,rfl,o.g,h1,.of h2,fun _ z=>z,fun q=>⟨.inl,fun z=>z.elim id fun⟨_,z⟩=>z.elim⟩⟩
theorem EVo.tr {R:Rp α} {m:Res (List α)} (h:EVo Er t σ W R m):EVt Er t σ W (oL (fz R)) m:=fun W1 e1 Q k=>h W1 e1 Q (k.imp fun xs kx p W2 e2 hp o=>kx _ W2 _ e2 (fun q hq=>by rw[hq];exact hp) (oL.ofOw o))
def wS (R:Rf β):Rt β:=fun W r Q=>∀u W' F,Ext W W'→(∀q,F q→W.H q=none)→R W' F r u→Q u W'.H
section
variable {R1:Rp α} {R2:Rp γ} {R3:Rp δ} {R4:Rp ε} {R5:Rp ζ} [Mono R1] [Mono R2] [Mono R3] [Mono R4] [Mono R5] {m1:Res α} {m2:Res γ} {m3:Res δ} {m4:Res ε} {m5:Res ζ} {E:XK}
theorem jd {R:Rf β} {m:α→γ→δ→ε→Res β} (h1:EV Er t1 σ W (sh R1) m1) (h2:EV Er t2 σ W (sh R2) m2) (h3:EV Er t3 σ W (sh R3) m3) (h4:EV Er t4 σ W (sh R4) m4):EVt Er (aV (gL R1 R2 R3 R4 (wS R) m) [] E (ak t1 (ak t2 (ak t3 (ak t4 aS))))) σ W R (m1.bind fun a=>m2.bind fun b=>m3.bind fun c=>m4.bind fun d=>m a b c d):=fun W1 e1 Q k=>
 h1 W1 e1 _ ((yG k).imp fun a ka v W2 e2 hv=>h2 W2 (e1.trans e2) _ ((yG ka).imp fun b kb u W3 e3 hu=>h3 W3 ((e1.trans e2).trans e3) _ ((yG kb).imp fun c kc w W4 e4 hw=>h4 W4 (((e1.trans e2).trans e3).trans e4) _ ((yG kc).imp fun d kd x W5 e5 hx=>
  ⟨W5,a,b,c,d,v,u,w,x,rfl,rfl,zJ (R:=sh R1) ((e3.trans e4).trans e5) hv,zJ (R:=sh R2) (e4.trans e5) hu,zJ (R:=sh R3) e5 hw,hx,Er,kd.imp fun r kr u W' F e hF o=>kr u W' F ((((e2.trans e3).trans e4).trans e5).trans e) (fun q hq=>none_of (((e2.trans e3).trans e4).trans e5).h (hF q hq)) o⟩))))
end
def Lens (W0:Wd) (C:α→List TC) (R:Rf β):Rw (β×(β→α)):=fun W bp u=>∃F,R W F bp.1 u∧(∀q,F q→W0.H q=none)∧∀W' F' b',MuF F W W'→(∀q,F' q→F q∨W.H q=none)→R W' F' b' u→Sep W0 W' (C (bp.2 b'))
instance zkeep50 {C:α→List TC} {R:Rf β} [FrT R]:MonoW (Lens W0 C R):=⟨fun e ⟨F,t,n,p⟩=>⟨F,FrT.ext t e,n,fun W' F' b' m hF t'=>p W' F' b' (e.muF.trans m fun q hq=>.inl hq) (fun q hq=>(hF q hq).imp id (none_of e.h)) t'⟩⟩
variable {C:α→List TC}
theorem qp {R:Rf α} [FrT R] {a:α} {v:V} (s:Sep W0 W (C a)) (E:Ext W0 W) (hc:(C a)[k]? =some (tc R a v):=by rfl) (hs:∀b,C b=(C a).set k (tc R b v):=by intro _;rfl) (h:σ[i]? =some (some v):=by rfl):EV Er (bt i) σ W (Lens W0 C R) (.ok (a,fun b=>b)):=by
 obtain⟨Fs,s⟩:=s
 exact a8 (R:=Lens W0 C R) ⟨Fs k,s.el k _ hc,s.nw k,fun W' F' b' m hF t=>by rw[hs];exact s.put E m hF t (yR.mp hc).1⟩ h
theorem MuF.up (m:MuF F W W') (h:∀q,F q→F' q):MuF F' W W':=⟨m.g,fun q hq hn=>m.h q (fun z=>hq (h q z)) hn,m.k,m.n⟩
theorem ww {R:Rf β} [FrT R] {ma:Res (List β×(List β→α))} {mb:Res Int} (ha:EV Er ta σ W (Lens W0 C (oL R)) ma) (hb:EV Er tb σ W (sh isI) mb):EV Er (cI (bM K) ta tb) σ W (Lens W0 C R) (ma.bind fun a=>mb.bind fun b=>sS a b):=
 lJ ha hb fun W a b x y Q hx hy k=>by
  cases hy
  obtain⟨F,⟨p,vs,Fs,rfl,g,h,t,np,hF⟩,n,pb⟩:=hx
  obtain⟨l,h1,k⟩:=dl (yG k)
  obtain⟨c,h2,k⟩:=dl (yG k)
  obtain⟨z,h8,h9,h10⟩:=t.ix h1 h2
  have hll:l< a.1.length:=(yR.mp h2).1
  refine⟨p,_,b,z,rfl,rfl,AJ h,h9,k _ W (.refl _) ⟨Fs l,h10,fun q hq=>n q ((hF q).mpr (.inr ⟨l,hq⟩)),fun W' F' b' m hF' t'=>?_⟩⟩
  have key:∀j q,(if j=l then F' else Fs j) q→(j=l∧F' q)∨(j≠l∧Fs j q):=fun j q h=>by
   by_cases z:j=l
   ·exact .inl ⟨z,by simpa [if_pos z] using h⟩
   ·exact .inr ⟨z,by simpa [if_neg z] using h⟩
  have lv:∀j q,Fs j q→W.H q≠none:=fun j q hq=>by
   obtain⟨x,u,_,_,r⟩:=t.at2 hq
   exact(FrT.lv r q hq).2
  refine pb W' (fun q=>q=p∨∃j,(if j=l then F' else Fs j) q) (a.1.set l b') (m.up fun q hq=>(hF q).mpr (.inr ⟨l,hq⟩)) (fun q hq=>?_) ⟨p,vs,fun j=>if j=l then F' else Fs j,rfl,by rw[m.k p (nn_of h)];exact g,by rw[m.h p (np l) (nn_of h)];exact h,⟨by rw[AD];exact t.len,fun j x u e1 e2=>?_,fun j q hq=>?_,fun j j2 q q1 q2=>?_⟩,fun j hj=>?_,fun q=>G4⟩
  ·rcases hq with rfl | ⟨j,hj⟩
   ·exact .inl ((hF _).mpr (.inl rfl))
   ·rcases key j q hj with⟨z1,z2⟩ | ⟨z1,z2⟩
    ·exact(hF' q z2).imp (fun y=>(hF q).mpr (.inr ⟨l,y⟩)) id
    ·exact .inl ((hF q).mpr (.inr ⟨j,z2⟩))
  ·rw[AQ]at e1
   by_cases z1:l=j
   ·subst z1
    rw[if_pos rfl,if_pos hll]at e1
    cases e1
    rw[h8]at e2;cases e2
    simp only[if_true]
    exact t'
   ·rw[if_neg z1]at e1
    simp only[if_neg (AZ z1)]
    exact FrT.mu (t.el j x u e1 e2) m fun q y1 y2=>z1 (t.dj l j q y2 y1)
  ·rw[AD]
   rcases key j q hq with⟨z1,z2⟩ | ⟨z1,z2⟩
   ·rw[z1];exact hll
   ·exact t.rng j q z2
  ·rcases key j q q1 with⟨z1,y1⟩ | ⟨z1,y1⟩ <;> rcases key j2 q q2 with⟨z2,y2⟩ | ⟨z2,y2⟩
   ·rw[z1,z2]
   ·exact((hF' q y1).elim (fun y=>z2 (t.dj j2 l q y2 y)) fun y=>absurd y (lv _ _ y2)).elim
   ·exact((hF' q y2).elim (fun y=>z1 (t.dj j l q y1 y)) fun y=>absurd y (lv _ _ y1)).elim
   ·exact t.dj j j2 q y1 y2
  ·rcases key j p hj with⟨z1,z2⟩ | ⟨z1,z2⟩
   ·exact(hF' p z2).elim (np l) fun y=>absurd y (nn_of h)
   ·exact np j z2
theorem Lens.lf {R:Rp β} [Mono R] {bp:List β×(List β→α)} {u:V} (E:Ext W0 W) (l:Lens W0 C (oL (fz R)) W bp u):∃p vs,u=.ref p∧W.H p=some (.lst vs)∧LR R W.G bp.1 vs∧∃hg:W.G p=none,∀vs' xs',LR R W.G xs' vs'→Ext W0 (W.mut p (.lst vs') hg)∧Sep W0 (W.mut p (.lst vs') hg) (C (bp.2 xs')):=by
 obtain⟨F,⟨p,vs,Fs,rfl,g,h,t,np,hF⟩,n,pb⟩:=l
 have hp:F p:=(hF p).mpr (.inl rfl)
 refine⟨p,vs,rfl,h,t.lr,g,fun vs' xs' lr=>⟨E.mut (n p hp) g,pb _ (· =p) xs' (MuF.of hp g) (fun q hq=>.inl (by rw[hq];exact hp)) ⟨p,vs',fun _ _=>False,rfl,g,aF,.of lr,fun _ z=>z,fun q=>⟨.inl,fun z=>z.elim id fun⟨_,z⟩=>z.elim⟩⟩⟩⟩
theorem sW {R:Rp β} [Mono R] {mp:Res (List β×(List β→α))} {m:Res β} (E:Ext W0 W) (hp:EV Er tp σ W (Lens W0 C (oL (fz R))) mp) (h:EV Er te σ W (sh R) m) (q:(mp.bind fun p=>m.bind fun x=>(dz p.1 x).bind fun b=>.ok (p.2 b)).OkE Er fun a'=>∀W',Same W.G W'.G→Ext W0 W'→Sep W0 W' (C a')→D.nx σ W'.H):
  b6 (dq K "list" au tp (ak te aS)) D σ W.H:=hp W (.refl _) _ ((yG q).imp fun p kp u W1 e1 l=>by
 obtain⟨p0,vs0,rfl,hH0,_,_⟩:=Lens.lf (E.trans e1) l
 refine⟨.inl ⟨rfl,vs0,AJ hH0⟩,h W1 e1 _ ((yG kp).imp fun x kx v W2 e2 hv=>?_)⟩
 obtain⟨p1,vs,ep,hH,lr,hg,back⟩:=Lens.lf ((E.trans e1).trans e2) (zJ e2 l)
 cases ep
 obtain⟨h3,h4⟩:=bg (yG kx)
 obtain⟨b1,b2⟩:=back (vs++ [v]) (p.1++ [x]) (lr.snoc hv)
 exact⟨p0,vs,v,rfl,rfl,hH,by rw[lr.1,zN];unfold Mi.cap at h3;omega,h4 (W2.mut p0 (.lst (vs++ [v])) hg) (e1.trans e2).g b1 b2⟩)
theorem on {R:Rp β} [Mono R] {mp:Res (List β×(List β→α))} {m:Res β} (E:Ext W0 W) (hp:EV Er tp σ W (Lens W0 C (oL (fz R))) mp) (h:EV Er te σ W (sh R) m) (q:(mp.bind fun p=>m.bind fun x=>(dz p.1 x).bind fun b=>.ok (p.2 b)).OkE Er fun a'=>∀W',Same W.G W'.G→Ext W0 W'→Sep W0 W' (C a')→r D σ W'.H):
  dQ (b6 (dq K "list" au tp (ak te aS))) r D σ W.H:=sW (D:={D with nx:=r D}) E hp h q
theorem sX {R:Rf β} [FrT R] {m:Res β} {σ':V→St} (S:Sep W0 W cs) (E:Ext W0 W) (h:EVt Er te σ W R m) (q:m.OkE Er fun a=>∀v W',Ext W W'→Sep W0 W' (cs++ [tc R a v])→D.nx (σ' v) W'.H) (hσ:∀v,σ.set i (some v)=σ' v:=by intro _;rfl):bz te (aO i) D σ W.H:=h W (.refl _) _ (q.imp fun a k v W' F e hF t=>by have:=k v W' e (S.add E e hF t);rw[←hσ]at this;exact this)
theorem je {R:Rf β} [FrT R] {m:Res β} {σ':V→St} (S:Sep W0 W cs) (E:Ext W0 W) (h:EVt Er te σ W R m) (q:m.OkE Er fun a=>∀v W',Ext W W'→Sep W0 W' (cs++ [tc R a v])→r D (σ' v) W'.H) (hσ:∀v,σ.set i (some v)=σ' v:=by intro _;rfl):dQ (bz te (aO i)) r D σ W.H:=sX (D:={D with nx:=r D}) S E h q hσ
theorem mV {R:Rf β} [FrT R] {b:β} {v:V} (S:Sep W0 W cs) (hc:cs[k]? =some (tc R b v)) (q:∀F,(∀q,F q→W0.H q=none)→R W F b v→D.rt v W.H) (hi:σ[i]? =some (some v):=by rfl):bQ (bt i) D σ W.H:=by
 obtain⟨Fs,s⟩:=S
 exact⟨v,hi,q (Fs k) (s.nw k) (s.el k _ hc)⟩
theorem qq {R:Rf β} [FrT R] {xs:List β} {b:β} {v u:V} {k l j:Nat} (S:Sep W0 W cs) (E:Ext W0 W) (hk:cs[k]? =some (tc (oL R) xs v)) (hl:cs[l]? =some (tc R b u)) (hkl:k≠l) (q:(dz xs b).OkE Er fun ys=>∀W',Same W.G W'.G→Ext W0 W'→Sep W0 W' ((cs.set k (tc (oL R) ys v)).eraseIdx l)→D.nx σ W'.H) (hi:σ[i]? =some (some v):=by rfl) (hj:σ[j]? =some (some u):=by rfl):
  b6 (dq K "list" au (bt i) (ak (bt j) aS)) D σ W.H:=by
 obtain⟨Fs,s⟩:=S
 obtain⟨p,vs,Gs,rfl,g,h,t,np,hF⟩:=(show oL R W (Fs k) xs v from s.el k _ hk)
 have tb:R W (Fs l) b u:=s.el l _ hl
 obtain⟨h3,h4⟩:=bg q
 have hp:Fs k p:=(hF p).mpr (.inl rfl)
 have kk:k< cs.length:=(yR.mp hk).1
 have lp:¬Fs l p:=fun z=>hkl (s.dj k l p hp z)
 refine⟨_,hi,.inl ⟨rfl,vs,AJ h⟩,_,hj,p,vs,u,rfl,rfl,h,by rw[t.len,zN];unfold Mi.cap at h3;omega,h4 (W.mut p (.lst (vs++ [u])) g) (.refl _) (E.mut (s.nw k p hp) g) ?_⟩
 have m1:MuF (· =p) W (W.mut p (.lst (vs++ [u])) g):=MuF.of (F:=(· =p)) rfl g
 have key:∀j q,(if j=xs.length then Fs l else Gs j) q→(j=xs.length∧Fs l q)∨(j< xs.length∧Gs j q):=fun j q h=>by
  by_cases z:j=xs.length
  ·exact .inl ⟨z,by simpa [if_pos z] using h⟩
  ·have h':Gs j q:=by simpa [if_neg z] using h
   exact .inr ⟨t.rng j q h',h'⟩
 refine s.move (F:=fun q=>q=p∨∃j,(if j=xs.length then Fs l else Gs j) q) E (m1.up fun q hq=>.inl (by rw[hq];exact hp)) (fun q hq=>?_) ⟨p,vs++ [u],fun j=>if j=xs.length then Fs l else Gs j,rfl,g,aF,⟨by simp[t.len],fun j x y e1 e2=>?_,fun j q hq=>?_,fun j j2 q q1 q2=>?_⟩,fun j hj=>?_,fun q=>G4⟩ kk hkl
 ·rcases hq with rfl | ⟨j,hj⟩
  ·exact .inl hp
  ·rcases key j q hj with⟨_,z⟩ | ⟨_,z⟩
   ·exact .inr (.inl z)
   ·exact .inl ((hF q).mpr (.inr ⟨j,z⟩))
 ·by_cases z:j< xs.length
  ·rw[zc z]at e1
   rw[zc (by rw[t.len];exact z)]at e2
   simp only[if_neg (zg z)]
   exact FrT.mu (t.el j x y e1 e2) m1 fun q a b=>np j (b▸a)
  ·rw[zd (by omega)]at e1
   rw[zd (by rw[t.len];omega),t.len]at e2
   have z2:j- xs.length=0:=by
    refine BR fun y=>?_
    rw[zQ.mpr (by simp;omega)]at e1;cases e1
   rw[z2]at e1 e2
   cases e1;cases e2
   have z3:j=xs.length:=by omega
   simp only[if_pos z3]
   exact FrT.mu tb m1 fun q a b=>lp (b▸a)
 ·rw[Bp,Cr]
  rcases key j q hq with⟨a,_⟩ | ⟨a,_⟩ <;> omega
 ·rcases key j q q1 with⟨z1,a⟩ | ⟨z1,a⟩ <;> rcases key j2 q q2 with⟨z2,b⟩ | ⟨z2,b⟩
  ·omega
  ·exact(hkl (s.dj k l q ((hF q).mpr (.inr ⟨_,b⟩)) a)).elim
  ·exact(hkl (s.dj k l q ((hF q).mpr (.inr ⟨_,a⟩)) b)).elim
  ·exact t.dj j j2 q a b
 ·rcases key j p hj with⟨_,z⟩ | ⟨_,z⟩
  ·exact lp z
  ·exact np j z
end
section
variable {Er:Nat→Prop} {α β γ:Type} {K:PySem.W.Frag} {W W' W0 W1 W2:Wd} {F F' F1:FS} {cs:List TC} {σ:St} {t ta tb te ti tp:TE} {D:Ends} {i k:Nat} {r:TS}
theorem qr {R:Rf α} :EVt Er (bK aS) σ W (oL R) (.ok []):=fun W1 e1 Q k=>⟨by decide,fun p hp=>k _ (W1.mut p (.lst []) (W1.gnone hp)) (· =p) (.own _ hp) (fun q hq=>by rw[hq];exact hp) ⟨p,[],fun _ _=>False,rfl,W1.gnone hp,aF,⟨rfl,fun i x u h=>by simp at h,fun _ _ z=>z.elim,fun _ _ _ z=>z.elim⟩,fun _ z=>z,fun q=>⟨.inl,fun z=>z.elim id fun⟨_,z⟩=>z.elim⟩⟩⟩
open Classical in
theorem xJ {R:Rf β} [FrT R] {R':Rp β} [FzT R R'] {b:β} {u:V} (t:R W F b u):∃Wf,Wf.H=W.H∧Same W.G Wf.G∧R' Wf.G b u∧(∀q,¬F q→Wf.G q=W.G q)∧∀W2,Ext Wf W2→∃W3,W3.H=W2.H∧Ext W W3:=by
 have lv:=fun q=>FrT.lv t q
 have hs:Same W.G fun q=>if F q then W.H q else W.G q:=fun a o h=>by
  show(if F a then _ else _)=_
  rw[if_neg fun z=>by have:=(lv a z).1;rw[h]at this;cases this];exact h
 have ho:Same (fun q=>if F q then W.H q else W.G q) W.H:=fun a o h=>by
  have h:(if F a then W.H a else W.G a)=some o:=h
  split at h
  ·exact h
  ·exact W.ok _ _ h
 let Wf:Wd:=⟨_,W.H,ho⟩
 refine⟨Wf,rfl,hs,FzT.fz t hs fun q hq=>if_pos hq,fun q hq=>if_neg hq,fun W2 e=>⟨⟨fun q=>if F q then none else W2.G q,W2.H,fun a o h=>?_⟩,rfl,fun a o h=>?_,e.h,fun q hq=>?_⟩⟩
 ·have h:(if F a then none else W2.G a)=some o:=h
  split at h
  ·cases h
  ·exact W2.ok _ _ h
 ·show(if F a then none else W2.G a)=_
  rw[if_neg fun z=>by have:=(lv a z).1;rw[h]at this;cases this]
  exact e.g _ _ (hs _ _ h)
 ·show(if F q then none else W2.G q)=_
  by_cases z:F q
  ·rw[if_pos z,(lv q z).1]
  ·rw[if_neg z,e.k q hq];exact if_neg z
theorem Sep.lend1 {R:Rf β} [FrT R] {R':Rp β} [FzT R R'] {b:β} {u:V} (s:Sep W0 W cs) (E:Ext W0 W) (hc:cs[k]? =some (tc R b u)):∃Wf,Wf.H=W.H∧Same W.G Wf.G∧Ext W0 Wf∧Sep W0 Wf (cs.eraseIdx k)∧R' Wf.G b u∧∀W2,Ext Wf W2→∃W3,W3.H=W2.H∧Ext W W3:=by
 obtain⟨Fs,s⟩:=s
 obtain⟨Wf,h1,h2,h3,h4,h5⟩:=xJ (R:=R) (s.el k _ hc)
 refine⟨Wf,h1,h2,⟨E.g.trans h2,by rw[h1];exact E.h,fun q hq=>by rw[h4 q fun z=>hq (s.nw k q z)];exact E.k q hq⟩,?_,h3,h5⟩
 have key:∀j q,(if j=k then(fun _=>False)else Fs j) q→j≠k∧Fs j q:=fun j q h=>by
  by_cases z:j=k
  ·simp[if_pos z]at h
  ·exact⟨z,by simpa [if_neg z] using h⟩
 have s2:SepF W0 Wf (fun j=>if j=k then(fun _=>False)else Fs j) (cs.set k xI):=by
  refine⟨fun j c h=>?_,fun j q h=>?_,fun j l q h1 h2=>s.dj j l q (key j q h1).2 (key l q h2).2,fun j q h=>s.nw j q (key j q h).2⟩
  ·rw[AQ]at h
   by_cases z:k=j
   ·subst z
    rw[if_pos rfl]at h
    split at h
    ·cases h
     simp only[if_true]
     exact fun _ z=>z
    ·cases h
   ·rw[if_neg z]at h
    simp only[if_neg (AZ z)]
    exact @FrT.fr _ _ c.i _ _ _ _ _ (s.el j c h) h2 fun q hq=>⟨by rw[h1],h4 q fun y=>z (s.dj k j q y hq)⟩
  ·rw[AD];exact s.rng j q (key j q h).2
 have:=s2.del k
 rw[CH]at this
 exact this
theorem EVt.ev {R:Rf α} [FrT R] {R':Rp α} [FzT R R'] {m:Res α} (h:EVt Er t σ W R m):EV Er t σ W (sh R') m:=fun W1 e1 Q k=>h W1 e1 Q (k.imp fun a ka v W2 F e2 hF o=>by
 have s:Sep W1 W2 [tc R a v]:=Sep.add (cs:=[]) (Sep.nil (W0:=W1) (W:=W1)) (.refl _) e2 hF o
 obtain⟨W3,hH,e3,_,_,r⟩:=Sep.frz (R:=R) (i:=0) s e2 rfl
 rw[←hH]
 exact ka v W3 e3 r)
theorem qt {R:Rf β} [FrT R] {R':Rp β} [FzT R R'] {b:β} {u:V} {m:Res Bool} {t:TT} (k:Nat) (s:Sep W0 W cs) (E:Ext W0 W) (hc:cs[k]? =some (tc R b u)) (h:∀Wf,Same W.G Wf.G→Ext W0 Wf→Sep W0 Wf (cs.eraseIdx k)→R' Wf.G b u→TV Er t σ Wf m):TV Er t σ W m:=fun W1 e1 Q kq=>by
 obtain⟨Wf,h1,h2,h3,h4,h5,h6⟩:=Sep.lend1 (R:=R) (s.ext e1) (E.trans e1) hc
 rw[←h1]
 refine h Wf (e1.g.trans h2) h3 h4 h5 Wf (.refl _) Q (kq.imp fun a ka W2 e2=>?_)
 obtain⟨W3,h7,h8⟩:=h6 W2 e2
 rw[←h7]
 exact ka W3 h8
end
end Wb
open Wb.FrT renaming lv→GK
namespace L2
open PySem PySem.Spec PyProof.Rows
def db (tg iter:Expr) (ifs:List Expr) (body:Sem Unit) (it:yH) (env:Env) (c:Code):Sem Fin:=do
 standAt iter.pos
 match ←pyNext it with
 | none=>pure (.done .next)
 | some v =>
  letOwnedTupleGo tg it v
  assign tg env v
  let mut ok:=true
  for c in ifs do
   if ok then ok ←isTrue c env (eval c env)
  if ok then body
  again c
structure CompE (e:Expr):Prop where
 a:∀(A:zP) (d:Nat) (it acc:yH) (env:Env),A.under (.compLoop e d it acc env)=A
 b:∀(A:zP) (d:Nat) (it acc:yH) (env:Env),A.under (.compStart e d it acc env)=A
 c:∀(prog:zf) (w:zt) (d:Nat) (it acc:yH) (env:Env),(model prog w).den (.compLoop e d it acc env)=(compTurn e d it acc env).onRaise (fun x=>do noteFrame x env;theTreesLotGoes x)
 d:∀(prog:zf) (w:zt) (d:Nat) (it acc:yH) (env:Env),(model prog w).den (.compStart e d it acc env)=(compStart e d it acc env).onRaise (fun x=>do noteFrame x env;standAt theWindowsPlace)
theorem CompE.set {k:Expr} {gs:List Eh} {sc:BF} {pos:Pos} :CompE (.SetComp k gs sc pos):=⟨fun _ _ _ _ _=>rfl,fun _ _ _ _ _=>rfl,fun _ _ _ _ _ _=>rfl,fun _ _ _ _ _ _=>rfl⟩
section
variable {prog:zf} {w:zt} {A:zP} {R:Fp→yK→Prop} {s:yK}
theorem iV {e:Expr} (ce:CompE e) {d:Nat} {tg iter:Expr} {ifs:List Expr} {it acc:yH} {env:Env} {body:Sem Unit} (ht:compTurn e d it acc env=db tg iter ifs body it env (.compLoop e d it acc env)) (I:Nat→yK→Prop)
  (turn:∀n s,I n s→wpAny (model prog w) A (pyNext it) (fun r s₁=>match r with
   | none=>R (.ok .next) s₁
   | some v=>wpAny (model prog w) A (letOwnedTupleGo tg it v) (fun _ s₁'=>wpAny (model prog w) A (assign tg env v) (fun _ s₂=>
     wpAny (model prog w) A (forIn ifs true fun c r=>if r=true then do let ok ←isTrue c env (eval c env);pure (zy ok)else pure (zy r)) (fun ok s₃=>
      if ok=true then wpAny (model prog w) A body (fun _ s₅=>∃m,m< n∧I m s₅) (fun _ _=>False) s₃
      else ∃m,m< n∧I m s₃) (fun _ _=>False) s₂) (fun _ _=>False) s₁') (fun _ _=>False) s₁) (fun _ _=>False) s)
  (n:Nat) (h:I n s):codeAny (model prog w) A (.compLoop e d it acc env) R s:=by
 refine codeAny_loop rfl I (fun n s hI=>?_) n h
 rw[ce.a,ce.c]
 refine wpAny_noted ?_
 rw[ht]
 unfold db
 refine yF (Bc (yF (zX (turn n s hI) (fun r s₁ h₁=>?_) fun _ _ h'=>h'.elim)))
 cases r with
 | none=>exact yJ h₁
 | some v =>
  refine yF (zX h₁ (fun _ s₁' h₁'=>?_) fun _ _ h'=>h'.elim)
  refine yF (zX h₁' (fun _ s₂ h₂=>yF (zX h₂ (fun ok s₃ h₃=>?_) fun _ _ h'=>h'.elim)) fun _ _ h'=>h'.elim)
  cases ok with
  | true =>
   rw[if_pos rfl]at h₃
   exact yF (zX h₃ (fun _ s₄ h₄=>yJ ⟨rfl,h₄⟩) fun _ _ h'=>h'.elim)
  | false =>
   rw[if_neg z8]at h₃
   exact yJ ⟨rfl,h₃⟩
theorem fB {e:Expr} (ce:CompE e) {d:Nat} {g:Eh} {it acc:yH} {env:Env} (hg:(clausesOf e)[d]? =some g) (ha:g.is_async=0)
  (h0:codeAny (model prog w) A (.compLoop e d it acc env) R s)
  (h:wpAny (model prog w) A (pyIter it) (fun it' s'=>codeAny (model prog w) A (.compLoop e d it' acc env) R s') (notedBy (model prog w) A env fun x s'=>R (.error x) s') s):
  codeAny (model prog w) A (.compStart e d it acc env) R s:=by
 refine codeAny_of_tree ?_
 rw[ce.b,ce.d]
 refine wpAny_notedAt ?_
 unfold compStart
 rw[hg]
 simp only[Option.elim_some,ha,bne_self_eq_false,zz,if_false]
 refine yF (Bm (wpAny_ite ?_))
 split
 ·first
   | exact yF (yJ (yJ (EX rfl h0)))
   | exact yJ (EX rfl h0)
 ·first
   | exact yF (Bd (yF (Bc (yF (zX h (fun it' s' h'=>yJ (EX rfl h')) fun _ _ x=>x)))))
   | (refine yF (Bd ?_);exact yF (Bc (yF (zX h (fun it' s' h'=>yJ (EX rfl h')) fun _ _ x=>x))))
end
def sY (iter:Expr) (e:Expr) (d:Nat) (env:Env) (acc:yH):Sem Unit:=do
        let x ←eval iter env
        standAt iter.pos
        let x ←foldedSetIterable iter env x
        let _ ←runOwn (.compStart e d (←holding [x] (pyIter x)) acc env) env
abbrev TB:=Addr→St→Hp→(Hp→Prop)→Prop
def PB (Y:Cx) (body:yH→Sem Unit) (tb:TB):Prop:=∀(D:Addr) (pins:List (Addr×Obj)) (s:yK) (σ:St) (H:Hp) (N:Hp→Prop),Inv Y pins σ H s→tb D σ H N→
 wpAny (model Y.prog Y.w) Y.A (body (.ref D)) (fun _ s'=>∃σ' H',Inv Y pins σ' H' s'∧(∀(j:Nat) (v:V),σ[j]? =some (some v)→σ'[j]? =some (some v))∧N H') (fun _ _=>False) s
def qu (g:TG) (tf:TT) (tb:TB) (D:Addr) (σ:St) (H1:Hp) (N:Hp→Prop) (J:It):Prop:=∃W:Nat→Nat→Hp→Prop,(∃m,W 0 m H1)∧∀i m H,W i m H→
 ((J.stop i H∧N H)∨(J.go i H∧∃M:Hp→Prop,(∀H',M H'→∃m',m'< m∧W (i+1) m' H')∧∀x H',J.yld i H x H'→g x σ H' fun σ2 H2=>Keep σ σ2∧tf σ2 H2 fun b H3=>if b=true then tb D σ2 H3 M else M H3))
def vi (wi:TI) (g:TG) (tf:TT) (tb:TB):TB:=fun D σ H N=>wi σ H fun J H1=>qu g tf tb D σ H1 N J
section
variable {Y:Cx} {tg iter elt kx vx:Expr} {ifs:List Expr} {g:TG} {tf:TT} {tb:TB} {body:yH→Sem Unit} {te tk tv:TE} {wi:TI}
theorem kN (hc:Y.calm=true) (hxe:Y.xe=fun _ _=>False) (hg:PG Y tg g) (hf:pK Y ifs tf) (hb:PB Y body tb) {e:Expr} (ce:CompE e) {d:Nat} {it:Addr} {fp:List Addr} {tn:Nat→Heap→Prop} {J:It} (T:Turn Y.prog Y.w Y.K tg J fp it tn)
  {pins:List (Addr×Obj)} {s:yK} {σ:St} {H:Hp} {D:Addr} {N:Hp→Prop} {R:Fp→yK→Prop} (I:Inv Y pins σ H s) (st:tn 0 s.heap) (f:∀b∈fp,FpOk Y pins H b) (w:qu g tf tb D σ H N J)
  (ht:compTurn e d (.ref it) (.ref D) Y.env=db tg iter ifs (body (.ref D)) (.ref it) Y.env (.compLoop e d (.ref it) (.ref D) Y.env))
  (fin:∀σ' H' s',Inv Y pins σ' H' s'→(∀(j:Nat) (v:V),σ[j]? =some (some v)→σ'[j]? =some (some v))→N H'→R (.ok .next) s'):
  codeAny (model Y.prog Y.w) Y.A (.compLoop e d (.ref it) (.ref D) Y.env) R s:=by
 obtain⟨W,⟨m0,w0⟩,turn⟩:=w
 have stat:∀{H':Hp},(∀b∈fp,H' b=none)→∀b∈fp,FpOk Y pins H' b:=fun hn b hb=>⟨hn b hb,(f b hb).2⟩
 refine iV ce ht (fun n s'=>∃i σ' H',Inv Y pins σ' H' s'∧tn i s'.heap∧(∀b∈fp,H' b=none)∧(∀(j:Nat) (v:V),σ[j]? =some (some v)→σ'[j]? =some (some v))∧W i n H') ?_ m0 ⟨0,σ,H,I,st,fun b hb=>(f b hb).1,fun _ _ e=>e,w0⟩
 rintro n s3 ⟨i,σ3,H3,I3,st3,fr3,kp,w3⟩
 rcases turn i n H3 w3 with⟨stop,qn⟩ | ⟨go,M,hM,step⟩
 ·refine bV (T.done Y rfl rfl rfl hc i pins s3 σ3 H3 _ I3 (stat fr3) st3 stop) fun r s4 ⟨hr,I4⟩=>?_
  subst hr
  exact fin σ3 H3 s4 I4 kp qn
 ·have I3':Inv Y pins σ H3 s3:=I3.weak (by rw[I3.len,I.len]) kp
  refine bV (T.item Y rfl rfl rfl hc i pins s3 σ H3 _ I3' (stat fr3) st3 go) fun r s4 ⟨u,hr,h4⟩=>?_
  subst hr
  refine bV h4 fun _ s5 ⟨x,H5,I5,r5,y5,st5,fr5⟩=>?_
  have I5':=I5.pinned (stat fr5) (T.obj _ _ st5)
  have hg':=hg _ s5 σ H5 x u _ I5' r5 (step x H5 y5)
  rw[hxe]at hg'
  refine bV hg' fun _ s6 ⟨σ6,H6,I6,kp6,q6⟩=>?_
  have hf':=hf _ s6 σ6 H6 _ I6 q6
  rw[hxe]at hf'
  refine bV hf' fun ok s7 ⟨H7,I7,q7⟩=>?_
  have again:∀{s8:yK} {σ7:St} {H7:Hp},Inv Y (pins++gk fp s5.heap) σ7 H7 s8→(∀(j:Nat) (v:V),σ6[j]? =some (some v)→σ7[j]? =some (some v))→M H7→∃m,m< n∧∃i σ' H',Inv Y pins σ' H' s8∧tn i s8.heap∧(∀b∈fp,H' b=none)∧(∀(j:Nat) (v:V),σ[j]? =some (some v)→σ'[j]? =some (some v))∧W i m H':=fun {s8 σ7 H7} I7 k7 n7=>by
   obtain⟨m',hm,w7⟩:=hM H7 n7
   refine⟨m',hm,i+1,σ7,H7,I7.unpinned,T.keep _ _ _ st5 fun b hb o e=>(I7.pin (b,o) (zw _ (zw _ (dv hb e)))).1,fun b hb=>?_,fun j v e=>k7 j v (Keep.get kp6 e),w7⟩
   obtain⟨o,e,d⟩:=T.obj _ _ st5 b hb
   exact(I7.pin (b,o) (zw _ (zw _ (dv hb e)))).2.1
  cases ok with
  | false =>
   rw[if_neg z8]at q7 ⊢
   exact again I7 (fun _ _ e=>e) q7
  | true =>
   rw[if_pos rfl]at q7 ⊢
   exact bV (hb D _ s7 σ6 H7 _ I7 q7) fun _ s8 ⟨σ8,H8,I8,k8,q8⟩=>again I8 k8 q8
theorem vj (hc:Y.calm=true) (hxe:Y.xe=fun _ _=>False) (hi:PI Y tg iter wi) (hg:PG Y tg g) (hf:pK Y ifs tf) {body:Env→yH→Sem Unit} (hb:PB Y (body Y.env) tb) {e:Expr} (ce:CompE e) {d:Nat} (hcl:(clausesOf e)[d]? =some ⟨tg,iter,ifs,0⟩)
  (ht:∀env it acc,compTurn e d it acc env=db tg iter ifs (body env acc) it env (.compLoop e d it acc env):=by intro _ _ _;rfl) (hs:∀x,foldedSetIterable iter Y.env x=pure x:=by intro _;rfl):
  PB Y (sY iter e d Y.env) (vi wi g tf tb):=by
 intro D pins s σ H N I h
 have hi':=hi pins s σ H _ I h
 rw[hxe]at hi'
 refine yF (bV hi' fun v s1 h1=>yF (Bc (yF (E4 (hs v) (yF (Ai (bV h1 fun itv s2 h2=>?_)))))))
 obtain⟨it,fp,tn,J,H2,rfl,I2,T,st2,f2,w⟩:=h2
 have lp:codeAny (model Y.prog Y.w) Y.A (.compLoop e d (.ref it) (.ref D) Y.env) (fun r s'=>match r with | .ok f=>(∃σ' H',Inv Y pins σ' H' s'∧(∀(j:Nat) (v:V),σ[j]? =some (some v)→σ'[j]? =some (some v))∧N H') | .error x=>cameBackBy (model Y.prog Y.w) Y.A Y.env (fun _ _=>False) x s') s2:=
  kN hc hxe hg hf hb ce T I2 st2 f2 w (ht _ _ _) fun σ' H' s' I' k' n'=>⟨σ',H',I',k',n'⟩
 refine yF (wpAny_runOwn (fB ce hcl rfl ?_ ?_))
 ·exact CU lp fun r s' h=>by
   cases r with
   | ok f=>exact yJ h
   | error x=>exact h
 ·refine T.self _ 0 _ _ _ st2 (CU lp fun r s' h=>by
   cases r with
   | ok f=>exact yJ h
   | error x=>exact h)
end
section
variable {X:Cx} {scope:BF} {N:List Str} {cap:List (Option Nat)} {tg iter:Expr} {ifs:List Expr} {pos:Pos} {wi:TI} {g:TG} {tf:TT} {tb:TB} {body:Env→yH→Sem Unit}
theorem oo {pins:List (Addr×Obj)} {σ σ':St} {H2 H':Hp} {s2 s':yK} {fp:List Addr} {C:Addr} {h':Heap} (I2:Inv X pins σ H2 s2) (f2:∀b∈fp,FpOk X pins H2 b)
  (hC:s2.heap.objs.size≤C) (I':Inv (aD X scope N s2 H2 C fp) [] σ' H' s') (hs:zC C s'.heap h'):Inv X pins σ H' {s' with heap:=h'} :=by
 have nC:H' C=none:=I'.free
 have lt2:∀b o,s2.heap.get? b=some o→b≠C:=fun b o e=>zg (z7 (yW e) hC)
 have hk:∀b o,b≠C→s'.heap.get? b=some o→h'.get? b=some o:=fun b o hb e=>(hs.2 b hb).trans e
 have B:Un (frs X.stack) fp H2 H' s2.heap s'.heap:=I'.base
 have tr:∀b u,H' b=some u→b≠C:=fun b u e z=>by rw[z,nC]at e;cases e
 refine I2.call' (ch:=fp) I'.os ⟨fun b o e n hb hx=>?_,fun b o e n hb hx=>?_,fun b o e n hx=>?_,fun b o e hx=>?_,fun b xs e=>?_,fun b o u e=>?_,fun b ps e=>?_⟩ (fun b u e=>?_) I'.bare fun b hb=>⟨(f2 b hb).2.2.2.1,(f2 b hb).2.1,(f2 b hb).2.2.2.2.1,(f2 b hb).2.2.2.2.2⟩
 ·exact hk b o (lt2 b o e) (B.keep b o e n hb hx)
 ·obtain⟨sl,q⟩:=B.slot b o e n hb hx
  exact⟨sl,hk b _ (lt2 b o e) q⟩
 ·exact B.free b o e n hx
 ·obtain⟨o',q⟩:=B.there b o e hx
  exact⟨o',hk b _ (lt2 b o e) q⟩
 ·exact B.tups b xs e
 ·exact B.frzs b o u e
 ·exact B.tbls b ps e
 ·refine(I'.hok b u e).stay (fun c w' hc q=>hk c w' ?_ q) (fun c q=>q) fun c xs q=>q
  rcases hc with z | z
  ·rw[z];exact tr b u e
  ·exact tr c _ z
theorem lO (S:CompScope X scope N cap) (hc:X.calm=true) {e:Expr} (ce:CompE e) (hcl:(clausesOf e)[0]? =some ⟨tg,iter,ifs,0⟩)
    (hg:∀s H C fp,PG (aD X scope N s H C fp) tg g) (hf:∀s H C fp,pK (aD X scope N s H C fp) ifs tf) (hb:∀s H C fp,PB (aD X scope N s H C fp) (body (aD X scope N s H C fp).env) tb)
    (ht:∀env it acc,compTurn e 0 it acc env=db tg iter ifs (body env acc) it env (.compLoop e 0 it acc env))
    {pins:List (Addr×Obj)} {σ:St} {H3:Hp} {s3:yK} {it D:Addr} {fp:List Addr} {tn:Nat→Heap→Prop} {J:It} {Qv:Hp→Prop} {E:yH→yK→Prop} {RR:Addr→Fp→yK→Prop}
    (I3:Inv X pins σ H3 s3) (T:Turn X.prog X.w X.K tg J fp it tn) (st3:tn 0 s3.heap) (f3:∀b∈fp,FpOk X pins H3 b) (w:qu g tf tb D (bB cap σ) H3 Qv J)
    (fin:∀(C:Addr) (σ':St) (H':Hp) (s':yK),s3.heap.objs.size≤C→Inv (aD X scope N s3 H3 C fp) [] σ' H' s'→Qv H'→RR C (.ok .next) s'):
    wpAny (model X.prog X.w) X.A (newFunctionEnv scope X.env.globals (bI X.env scope.names []) [] X.env.qual none .none (some X.env)) (fun cenv s₄=>
      codeAny (model X.prog X.w) X.A (.compStart e 0 (.ref it) (.ref D) {cenv with scope:=relabel scope X.env}) (RR cenv.locals) s₄) E s3:=by
  refine i6 ?_
  generalize hC:s3.heap.objs.size=C
  generalize hH4:pushCells (s3.heap.push {cls:=.type "dict",data:=.dict #[]}) scope.names=h4
  have hz3':(s3.heap.push {cls:=.type "dict",data:=.dict #[]}).objs.size=C+1:=by rw[AL,hC]
  have ck:G3 h4 (C+1) (cellsFrom (C+1) scope.names []):=by
    have:=cellsFrom_ok scope.names (s3.heap.push {cls:=.type "dict",data:=.dict #[]}) (C+1) [] ⟨fun _ _ hm=>(nomatch hm),BA⟩ (by rw[hz3'];exact yP _)
    rw[hz3',hH4]at this
    exact this
  have k34:∀b o,s3.heap.get? b=some o→h4.get? b=some o:=fun b o e=>by rw[←hH4];exact CN _ _ b o (yN _ e)
  have hn4:h4.Ns C fun _=>none:=by
    rw[←hH4,←hC]
    exact(Gg s3.heap (.type "dict")).keeps (CN _ _)
  have hlt:∀b∈fp,b< C:=fun b hb=>by
    obtain⟨o,e,_⟩:=T.obj _ _ st3 b hb
    rw[←hC];exact yW e
  have hCs:s3.heap.objs.size≤C:=by rw[hC];exact yP _
  have IC:Inv (aD X scope N s3 H3 C fp) [] (bB cap σ) H3 {s3 with heap:=h4} :=
    i7 S I3 hCs ck f3 hlt ⟨_,_,rfl⟩ hn4 fun b o e=>k34 b o e
  have okC:=IC.ok
  have fO:∀b∈fp,FpOk (aD X scope N s3 H3 C fp) [] H3 b:=fun b hb=>
    ⟨(f3 b hb).1,zg (hlt b hb),okC.exfs b hb,.inl hb,(okC.exf b hb).2,fun p hp=>by
      have:p∈([]:List (Addr×Obj)):=hp
      cases this⟩
  have st4:tn 0 h4:=T.keep _ _ _ st3 fun b hb o e=>k34 b o e
  have loop:codeAny (model X.prog X.w) X.A (.compLoop e 0 (.ref it) (.ref D) (aD X scope N s3 H3 C fp).env) (RR C) {s3 with heap:=h4} :=
    kN (Y:=aD X scope N s3 H3 C fp) hc rfl (hg _ _ _ _) (hf _ _ _ _) (hb _ _ _ _) ce T IC st4 fO w (ht _ _ _) fun σ' H' s' I' _ q=>fin C σ' H' s' hCs I' q
  exact fB ce hcl rfl loop (T.self _ 0 _ _ _ st4 loop)
theorem oq {it acc:yH} {env:Env} {e iter2:Expr} {d:Nat} {c:Code} :db tg iter ifs (sY iter2 e d env acc) it env c=(do
 standAt iter.pos
 match ←pyNext it with
 | none=>pure (.done .next)
 | some v =>
  letOwnedTupleGo tg it v
  assign tg env v
  let mut ok:=true
  for c in ifs do
   if ok then ok ←isTrue c env (eval c env)
  if ok then
    let x ←eval iter2 env
    standAt iter2.pos
    let x ←foldedSetIterable iter2 env x
    let _ ←runOwn (.compStart e d (←holding [x] (pyIter x)) acc env) env
  again c):=by
 unfold db sY
 simp only[bind_assoc,pure_bind]
 all_goals rfl
variable {kx vx elt tg2 iter2 tg3 iter3:Expr} {ifs2 ifs3:List Expr} {wi2 wi3:TI} {g2 g3:TG} {tf2 tf3:TT} {te tk tv:TE} {mk:HO}
end
end L2
open L2.CompE renaming set→GH
namespace Wb
open PySem L2 Mi
section
variable {Er:Nat→Prop} {α β γ S:Type} {K:PySem.W.Frag} {W W' W0 Wb W1 W2:Wd} {σ:St} {t ta tb te ti tk tv:TE} {i:Nat} {O:Wd→Addr→S→Prop}
theorem wx {t:TB} {D:Addr} {H:Hp} {M:Hp→Prop} (h:t D σ H M):uY σ H fun b H3=>if b=true then t D σ H3 M else M H3:=by
 show(if true=true then t D σ H M else M H)
 rw[if_pos rfl];exact h
def BV (Er:Nat→Prop) (t:TB) (σ:St) (Wb W:Wd) (O:Wd→Addr→S→Prop) (D:Addr) (m:S→Res S):Prop:=∀W1 s (N:Hp→Prop),Ext W W1→O W1 D s→(m s).OkE Er (fun s'=>∀W',Same W1.G W'.G→Ext Wb W'→O W' D s'→N W'.H)→t D σ W1.H N
theorem mW {R:Rp α} {J:It} {xs:List α} {g:TG} {tf:TT} {t:TB} {f:α→S→Res S} {D:Addr} {N:Hp→Prop} {s0:S} (hy:Yl J W R xs) (h0:Ext W W1∨Same W.G W1.G) (eb:Ext Wb W1) (o:O W1 D s0)
  (hs:∀W2 a v s (M:Hp→Prop),Same W.G W2.G→Ext Wb W2→O W2 D s→R W2.G a v→(f a s).OkE Er (fun s'=>∀W',Same W2.G W'.G→Ext Wb W'→O W' D s'→M W'.H)→g v σ W2.H fun σ2 H2=>Keep σ σ2∧tf σ2 H2 fun b H3=>if b=true then t D σ2 H3 M else M H3)
  (mono:∀W W' s,Ext W W'→O W D s→O W' D s)
  (k:(bF f xs s0).OkE Er fun s'=>∀W',Same W.G W'.G→Ext Wb W'→O W' D s'→N W'.H):qu g tf t D σ W1.H N J:=by
 have hs1:Same W.G W1.G:=h0.elim (fun e=>e.g) id
 refine⟨fun i n H=>n=xs.length- i∧i≤xs.length∧∃(W3:Wd) (s:S),W3.H=H∧Same W.G W3.G∧Ext Wb W3∧O W3 D s∧(bF f (xs.drop i) s).OkE Er fun s'=>∀W',Same W.G W'.G→Ext Wb W'→O W' D s'→N W'.H,⟨xs.length,by simp,by simp,W1,s0,rfl,hs1,eb,o,by simpa using k⟩,?_⟩
 rintro i n H ⟨rfl,hi1,W3,s,rfl,e3,eb3,o3,q⟩
 by_cases hlt:i< xs.length
 ·obtain⟨a,ha⟩:∃a,xs[i]? =some a:=⟨xs[i],by simp[hlt]⟩
  obtain⟨h1,h2⟩:=(hy W3 e3).1 i a ha
  refine .inr ⟨h1,fun H'=>∃(W3:Wd) (s:S),W3.H=H'∧Same W.G W3.G∧Ext Wb W3∧O W3 D s∧(bF f (xs.drop (i+1)) s).OkE Er fun s'=>∀W',Same W.G W'.G→Ext Wb W'→O W' D s'→N W'.H,fun H' z=>⟨xs.length- (i+1),by omega,rfl,hlt,z⟩,fun x H' hx=>?_⟩
  obtain⟨W4,rfl,e4,rx⟩:=h2 x H' hx
  rw[ja ha]at q
  exact hs W4 a x s _ (e3.trans e4.g) (eb3.trans e4) (mono _ _ _ e4 o3) rx ((yG q).imp fun s' ks W' z1 z2 z3=>⟨W',s',rfl,(e3.trans e4.g).trans z1,z2,z3,ks⟩)
 ·have e:i=xs.length:=by omega
  subst e
  rw[BP]at q
  exact .inl ⟨(hy W3 e3).2,q W3 e3 eb3 o3⟩
theorem vk {R:Rp α} {wi:TI} {g:TG} {tf:TT} {t:TB} {mi:Res (List α)} {f:α→S→Res S} {D:Addr} (eb:Ext Wb W) (hi:IV Er wi σ W R mi) (mono:∀W W' s,Ext W W'→O W D s→O W' D s)
  (hs:∀W2 a v s (M:Hp→Prop),Same W.G W2.G→Ext Wb W2→O W2 D s→R W2.G a v→(f a s).OkE Er (fun s'=>∀W',Same W2.G W'.G→Ext Wb W'→O W' D s'→M W'.H)→g v σ W2.H fun σ2 H2=>Keep σ σ2∧tf σ2 H2 fun b H3=>if b=true then t D σ2 H3 M else M H3):
  BV Er (vi wi g tf t) σ Wb W O D (fun s=>mi.bind fun xs=>bF f xs s):=fun W1 s N e1 o k=>
 hi W1 e1 _ ((yG k).imp fun xs kx J W2 e2 hy=>mW (W:=W2) (Wb:=Wb) hy (.inl (.refl _)) ((eb.trans e1).trans e2) (mono _ _ _ e2 o) (fun W3 a v s M e3 eb3 o3 r k3=>hs W3 a v s M ((e1.trans e2).g.trans e3) eb3 o3 r k3) mono (kx.imp fun s' ks W' z1 z2 z3=>ks W' (e2.g.trans z1) z2 z3))
end
end Wb
namespace Mi
end Mi
namespace Wb
open PySem L2 Mi
end Wb
namespace Mi
end Mi
namespace Wb
open PySem L2 Mi
section
open PyProof PyProof.Rows
variable {X:Cx} {pos:Pos}
end
end Wb
namespace Mi
end Mi
namespace Wb
open PySem L2 Mi
end Wb
namespace Mi
end Mi
namespace Wb
open PySem L2 Mi
end Wb
namespace L2
open PySem PySem.Spec PyProof.Rows
end L2
namespace L2
open PySem PySem.Spec PyProof.Rows Builtin Builtin.ObjectAttr
open PySem.W (findIn findObj mroIn looks_findIn looks_find looks_mroIn looks_clsIn clsIn Frag InstAt Looks)
end L2
namespace L2
open PySem PySem.Spec PySem.Calls PyProof.Rows
open PySem.W (findIn findObj mroIn looks_findIn looks_find looks_mroIn class_get KitX clsIn Frag InstAt lookIn)
def XO (a:Addr) (o:Obj):HO:=.ext fun h=>h.get? a=some o
section
variable {P:zf} {w:zt} {H:Hp} {h:Heap} {a d:Addr} {o:Obj} {fs:List (Str×V)} {mA:Str→Option yH}
theorem XO.ok (e:h.get? a=some o):ObjOk P w H h a (XO a o):=⟨e,⟨_,e⟩,fun _ _ p k=>k _ p⟩
end
end L2
open L2.XO renaming ok→GL
namespace L2
open PySem PySem.Spec PySem.Calls PyProof.Rows
open PySem.W (findIn findObj clsIn Frag InstAt lookIn)
end L2
namespace Mi
end Mi
namespace Wb
open PySem L2 Mi
end Wb
namespace Mi
end Mi
namespace L2
open PySem PySem.Spec PyProof.Rows PySem.SeqAt PySem.AutoSeq1 PySem.MeetsSeq
end L2
namespace Wb
open PySem L2 Mi
section
variable {Er:Nat→Prop} {α β:Type} {K:PySem.W.Frag} {W W0:Wd} {σ:St} {D:Ends} {r:TS} {tp:TE} {C:α→List TC}
theorem sZ {R:Rf β} [FrT R] {mp:Res (List β×(List β→α))} (E:Ext W0 W) (hp:EV Er tp σ W (Lens W0 C (oL R)) mp) (q:(mp.bind fun p=>.ok (p.2 [])).OkE Er fun a'=>∀W',Same W.G W'.G→Ext W0 W'→Sep W0 W' (C a')→D.nx σ W'.H):
  b6 (bT K "list" aQ tp) D σ W.H:=hp W (.refl _) _ ((yG q).imp fun p kp u W1 e1 l=>by
 obtain⟨F,⟨p0,vs,Fs,rfl,g,h,t,np,hF⟩,n,pb⟩:=l
 have hp0:F p0:=(hF p0).mpr (.inl rfl)
 exact⟨.inl ⟨rfl,vs,AJ h⟩,p0,vs,rfl,rfl,h,kp (W1.mut p0 (.lst []) g) e1.g ((E.trans e1).mut (n p0 hp0) g) (pb _ (· =p0) [] (MuF.of hp0 g) (fun q hq=>.inl (by rw[hq];exact hp0)) ⟨p0,[],fun _ _=>False,rfl,g,aF,⟨rfl,fun i x u h=>by simp at h,fun _ _ z=>z.elim,fun _ _ _ z=>z.elim⟩,fun _ z=>z,fun q=>⟨.inl,fun z=>z.elim id fun⟨_,z⟩=>z.elim⟩⟩)⟩)
theorem ou {R:Rf β} [FrT R] {mp:Res (List β×(List β→α))} (E:Ext W0 W) (hp:EV Er tp σ W (Lens W0 C (oL R)) mp) (q:(mp.bind fun p=>.ok (p.2 [])).OkE Er fun a'=>∀W',Same W.G W'.G→Ext W0 W'→Sep W0 W' (C a')→r D σ W'.H):
  dQ (b6 (bT K "list" aQ tp)) r D σ W.H:=sZ (D:={D with nx:=r D}) E hp q
end
end Wb
namespace Mi
def vm (a b:Int×Int):Bool:=decide (a.1< b.1) || (decide (a.1=b.1) && decide (a.2≤b.2))
theorem fT {a b:Int×Int} :vm a b=true↔a.1< b.1∨(a.1=b.1∧a.2≤b.2):=by unfold vm;simp
def cS (xs:List (Int×Int)):List (Int×Int):=xs.mergeSort vm
theorem dn (xs:List (Int×Int)):(cS xs).Perm xs:=Ec _ _
theorem iz (xs:List (Int×Int)):(cS xs).Pairwise (fun a b=>vm a b=true):=
 Dx (le:=vm) (fun a b c h1 h2=>by rw[fT]at *;omega) (fun a b=>by simp only[Ff,fT];omega) xs
theorem fI {xs ys:List (Int×Int)} (h:ys.Perm xs) (hs:ys.Pairwise (fun a b=>vm a b=true)):ys=cS xs:=
 Dn (le:=fun a b=>vm a b=true) (fun a b _ _ h1 h2=>by rw[fT]at *;exact D4 (by omega) (by omega)) hs (iz xs) (h.trans (dn xs).symm)
def kO (ks:List (Int×Int)) (k:Int×Int):Res (List (Int×Int)):=dU (ks.length< 1000) (if k∈ks then ks else k::ks)
def qv (ks:List (Int×Int)):Res (List (Int×Int)):=dU (ks.length≤1000) (cS ks)
end Mi
namespace Wb
open PySem
theorem iA {xs:Array Nat} {j:Nat} (up:∀a b,a< b→b< xs.size→xs.getD a 0< xs.getD b 0):∀(f lo hi:Nat),hi- lo≤f→lo≤hi→hi≤xs.size→(∀a,a< lo→xs.getD a 0< j)→(∀a,hi≤a→a< xs.size→j≤xs.getD a 0)→
  BC xs j f lo hi≤xs.size∧(∀a,a< BC xs j f lo hi→xs.getD a 0< j)∧(∀a,BC xs j f lo hi≤a→a< xs.size→j≤xs.getD a 0)
 | 0, lo, hi, h, hl, hs, h1, h2 => by
  unfold BC
  exact⟨by omega,h1,fun a ha=>h2 a (by omega)⟩
 | f + 1, lo, hi, h, hl, hs, h1, h2 => by
  unfold BC
  by_cases z:lo< hi
  ·rw[if_pos z]
   have hm:(lo+hi)/ 2< hi:=by omega
   have hm2:lo≤(lo+hi)/ 2:=by omega
   have e:∀d d':Nat,xs.getD ((lo+hi)/ 2) d=xs.getD ((lo+hi)/ 2) d':=fun d d'=>by
    simp[AS,show(lo+hi)/ 2< xs.size by omega]
   dsimp only
   generalize hM:(lo+hi)/ 2=m at*
   by_cases y:xs.getD m j< j
   ·rw[if_pos y]
    refine iA up f (m+1) hi (by omega) (by omega) hs (fun a ha=>?_) h2
    by_cases q:a=m
    ·subst q;rw[e 0 j];exact y
    ·have:=up a m (by omega) (by omega)
     rw[e 0 j]at this
     omega
   ·rw[if_neg y]
    refine iA up f lo m (by omega) hm2 (by omega) h1 (fun a ha hb=>?_)
    by_cases q:a=m
    ·subst q;rw[e 0 j];omega
    ·have:=up m a (by omega) hb
     rw[e 0 j]at this
     omega
  ·rw[if_neg z]
   exact⟨by omega,h1,fun a ha=>h2 a (by omega)⟩
def Up (xs:Array Nat):Prop:=∀a b,a< b→b< xs.size→xs.getD a 0< xs.getD b 0
theorem fU {xs:Array Nat} (up:Up xs) (j:Nat):A6 xs j≤xs.size∧(∀a,a< A6 xs j→xs.getD a 0< j)∧(∀a,A6 xs j≤a→a< xs.size→j≤xs.getD a 0):=by
 unfold A6
 exact iA up xs.size 0 xs.size (by omega) (by omega) (by omega) (fun a ha=>by omega) (fun a ha hb=>by omega)
abbrev Pr:=SetTable.Probe
def eP (mask:Nat) (p:Pr):Pr:=if p.more> 0 then {p with j:=p.j+1,more:=p.more- 1} else {p with j:=(zx mask p.i p.perturb).1,more:=zF mask (zx mask p.i p.perturb).1- (zx mask p.i p.perturb).1,i:=(zx mask p.i p.perturb).1,perturb:=(zx mask p.i p.perturb).2}
theorem iB (t:A7) (p:Pr):t.advance p=eP t.mask p:=by unfold SetTable.advance eP;rfl
def itM (mask:Nat):Nat→Pr→Pr
 | 0,p=>p
 | n+1,p=>itM mask n (eP mask p)
theorem dJ (mask:Nat):∀(a b:Nat) (p:Pr),itM mask (a+b) p=itM mask b (itM mask a p)
 | 0,b,p=>by rw[Ba];rfl
 | a+1,b,p=>by rw[show a+1+b=(a+b)+1 by omega];exact dJ mask a b (eP mask p)
theorem qw (mask n:Nat) (p:Pr):itM mask (n+1) p=eP mask (itM mask n p):=by rw[dJ];rfl
def p5 (mask i pt:Nat):Pr:={j:=i,more:=zF mask i- i,i,perturb:=pt,dummy:=none}
theorem gP (mask:Nat):∀(n:Nat) (p:Pr),p.more=n→p.dummy=none→itM mask (n+1) p=p5 mask (zx mask p.i p.perturb).1 (zx mask p.i p.perturb).2
 | 0, p, h, hd => by
  show eP mask p=_
  unfold eP p5
  rw[if_neg (by omega)]
  cases p;simp at hd;subst hd;rfl
 | n + 1, p, h, hd => by
  show itM mask (n+1) (eP mask p)=_
  have e:eP mask p={p with j:=p.j+1,more:=p.more- 1} :=by unfold eP;rw[if_pos (by omega)]
  rw[e]
  exact gP mask n _ (by show p.more- 1=n;omega) hd
theorem mX (mask i:Nat):zF mask i- i≤9:=by unfold zF;split <;> omega
def jZ (mask:Nat):Nat→Nat×Nat→Nat×Nat
 | 0,x=>x
 | n+1,x=>jZ mask n (zx mask x.1 x.2)
theorem qx (mask:Nat):∀(n i pt:Nat),∃k,k≤10*n∧itM mask k (p5 mask i pt)=p5 mask (jZ mask n (i,pt)).1 (jZ mask n (i,pt)).2
 | 0,i,pt=>⟨0,by omega,rfl⟩
 | n + 1, i, pt => by
  obtain⟨k,hk,e⟩:=qx mask n (zx mask i pt).1 (zx mask i pt).2
  have r:=gP mask _ (p5 mask i pt) rfl rfl
  have m:=mX mask i
  refine⟨(p5 mask i pt).more+1+k,?_,?_⟩
  ·have:(p5 mask i pt).more≤9:=m
   omega
  ·rw[dJ,r]
   exact e
theorem mY (mask:Nat):∀(a b:Nat) (x:Nat×Nat),jZ mask (a+b) x=jZ mask b (jZ mask a x)
 | 0,b,x=>by rw[Ba];rfl
 | a+1,b,x=>by rw[show a+1+b=(a+b)+1 by omega];exact mY mask a b _
theorem qy (mask:Nat):∀(n:Nat) (x:Nat×Nat),(jZ mask n x).2=x.2/ 32^n
 | 0,x=>by simp[jZ]
 | n + 1, x => by
  show(jZ mask n (zx mask x.1 x.2)).2=_
  rw[qy mask n]
  show x.2/ 32/ 32^n=_
  rw[DG,Nat.pow_succ,Nat.mul_comm]
theorem vn (mask:Nat):∀(n:Nat) (x:Nat×Nat),x.1≤mask→(jZ mask n x).1≤mask
 | 0,x,h=>h
 | n+1,x,h=>vn mask n _ (by show(x.1*5+1+x.2/ 32)% (mask+1)≤mask;have:=D5 (x.1*5+1+x.2/ 32) (show 0< mask+1 by omega);omega)
def se (mask:Nat):Nat→Nat→Nat
 | 0,i=>i
 | n+1,i=>se mask n ((i*5+1)% (mask+1))
theorem qz (mask:Nat):∀(n i:Nat),jZ mask n (i,0)=(se mask n i,0)
 | 0,i=>rfl
 | n + 1, i => by
  show jZ mask n (zx mask i 0)=_
  rw[show zx mask i 0=((i*5+1)% (mask+1),0) by simp[zx],qz mask n];rfl
theorem gQ (mask:Nat):∀(a b i:Nat),se mask (a+b) i=se mask b (se mask a i)
 | 0,b,i=>by rw[Ba];rfl
 | a+1,b,i=>by rw[show a+1+b=(a+b)+1 by omega];exact gQ mask a b _
def isMask (m:Nat):Prop:=m=7∨m=31∨m=127∨m=511∨m=2047
def wT (m:Nat):Nat→Nat→Nat→Nat
 | 0,_,acc=>acc
 | n+1,i,acc=>wT m n ((i*5+1)% (m+1)) (acc ||| 2^i)
theorem mZ (m:Nat):∀(n i acc e:Nat),(wT m n i acc).testBit e=true→acc.testBit e=true∨∃k,k< n∧se m k i=e
 | 0,i,acc,e,h=>.inl h
 | n + 1, i, acc, e, h => by
  rcases mZ m n _ _ e h with q | ⟨k,hk,q⟩
  ·rw[Nat.testBit_or,Ff]at q
   rcases q with q | q
   ·exact .inl q
   ·rw[Nat.testBit_two_pow,decide_eq_true_eq]at q
    exact .inr ⟨0,by omega,q⟩
  ·exact .inr ⟨k+1,by omega,q⟩
theorem xK {m:Nat} (h:isMask m):(∀e,e< m+1→∃k,k< m+1∧se m k 0=e)∧se m (m+1) 0=0:=by
 have key:∀m,wT m (m+1) 0 0=2^(m+1)- 1→∀e,e< m+1→∃k,k< m+1∧se m k 0=e:=fun m hv e he=>by
  have hb:(wT m (m+1) 0 0).testBit e=true:=by rw[hv,Nat.testBit_two_pow_sub_one];simpa using he
  rcases mZ m _ _ _ e hb with q | q
  ·simp at q
  ·exact q
 rcases h with rfl | rfl | rfl | rfl | rfl
 ·exact⟨key 7 (by decide +kernel),by decide +kernel⟩
 ·exact⟨key 31 (by decide +kernel),by decide +kernel⟩
 ·exact⟨key 127 (by decide +kernel),by decide +kernel⟩
 ·exact⟨key 511 (by decide +kernel),by decide +kernel⟩
 ·exact⟨key 2047 (by decide +kernel),by decide +kernel⟩
theorem qA {m:Nat} (h:isMask m) {i e:Nat} (hi:i≤m) (he:e≤m):∃n,n≤m∧se m n i=e:=by
 obtain⟨h1,h2⟩:=xK h
 obtain⟨a,ha,ea⟩:=h1 i (by omega)
 obtain⟨b,hb,eb⟩:=h1 e (by omega)
 by_cases z:a≤b
 ·refine⟨b- a,by omega,?_⟩
  rw[←ea,←gQ,show a+(b- a)=b by omega,eb]
 ·refine⟨m+1- a+b,by omega,?_⟩
  rw[←ea,←gQ,show a+(m+1- a+b)=(m+1)+b by omega,gQ,h2,eb]
theorem wy {m:Nat} (h:isMask m) {p:Pr} (hd:p.dummy=none) (hm:p.more≤9) (hp:p.perturb< 2^64) {e:Nat} (he:e≤m):∃k,k< 10*Ae m∧(itM m k p).j=e:=by
 have r:=gP m p.more p rfl hd
 obtain⟨k1,hk1,e1⟩:=qx m 12 (zx m p.i p.perturb).1 (zx m p.i p.perturb).2
 have z:(jZ m 12 ((zx m p.i p.perturb).1,(zx m p.i p.perturb).2)).2=0:=by
  rw[qy]
  show p.perturb/ 32/ 32^12=0
  rw[DG]
  exact EY (by omega)
 have i0:(zx m p.i p.perturb).1≤m:=by
  show(p.i*5+1+p.perturb/ 32)% (m+1)≤m
  have:=D5 (p.i*5+1+p.perturb/ 32) (show 0< m+1 by omega);omega
 have i1:=vn m 12 ((zx m p.i p.perturb).1,(zx m p.i p.perturb).2) i0
 rw[z]at e1
 generalize (jZ m 12 ((zx m p.i p.perturb).1,(zx m p.i p.perturb).2)).1=i at*
 obtain⟨n,hn,en⟩:=qA h i1 he
 obtain⟨k2,hk2,e2⟩:=qx m n i 0
 rw[qz,en]at e2
 refine⟨p.more+1+k1+k2,?_,?_⟩
 ·unfold Ae;omega
 ·rw[dJ,dJ,r,e1,e2];rfl
def InP (xs:Array Nat) (j:Nat):Prop:=∃a,a< xs.size∧xs.getD a 0=j
theorem kP {xs:Array Nat} {a:Nat} (h:a< xs.size):xs[a]? =some (xs.getD a 0):=by simp[AS,h]
theorem eY {xs:Array Nat} (up:Up xs) {a:Nat} (h:a< xs.size):A6 xs (xs.getD a 0)=a:=by
 obtain⟨h0,h1,h2⟩:=fU up (xs.getD a 0)
 generalize A6 xs (xs.getD a 0)=b at*
 by_cases z:a< b
 ·have:=h1 a z;omega
 ·by_cases y:b< a
  ·have:=up b a y h
   have:=h2 b (by omega) (by omega)
   omega
  ·omega
theorem oz {xs:Array Nat} (up:Up xs) {j:Nat} (h:¬InP xs j):(xs[A6 xs j]? == some j)=false:=by
 obtain⟨h0,h1,h2⟩:=fU up j
 by_cases z:A6 xs j< xs.size
 ·rw[kP z]
  rw[beq_eq_false_iff_ne]
  intro e
  injection e with e
  exact h ⟨_,z,e⟩
 ·rw[Br (by omega)];rfl
structure Tp (t:A7) (hs:List Int):Prop where
 dm:t.dummies= #[]
 sz:t.place.size=hs.length
 up:Up t.place
 le:∀j,InP t.place j→j≤t.mask
 msk:isMask t.mask
 reach:∀i h,hs[i]? =some h→∃k,(itM t.mask k (t.probeStart h)).j=t.place.getD i 0∧∀k',k'< k→InP t.place (itM t.mask k' (t.probeStart h)).j
structure Tb (t:A7) (hs:List Int):Prop extends Tp t hs where
 room:hs.length*5< t.mask*3
section
variable {t:A7} {hs:List Int}
theorem Tb.live (T:Tb t hs) {i:Nat} (h:i< t.place.size):t.slot (t.place.getD i 0)=.live i:=by
 unfold FP
 dsimp only
 rw[eY T.up h,kP h]
 simp
theorem Tb.empty (T:Tb t hs) {j:Nat} (h:¬InP t.place j):t.slot j=.empty:=by
 unfold FP
 dsimp only
 rw[if_neg (by rw[oz T.up h];decide)]
 unfold EI
 rw[T.dm]
 rfl
theorem qB (t:A7) (h:Int):(t.probeStart h).dummy=none∧(t.probeStart h).more≤9∧(t.probeStart h).perturb< 2^64:=by
 refine⟨rfl,mX _ _,?_⟩
 show(h% (2^64:Int)).toNat< 2^64
 omega
theorem vo {xs:Array Nat} (up:Up xs) {m:Nat} (h:xs.size≤m):∃j,j≤m∧¬InP xs j:=by
 have base:∀n,n≤xs.size→(∀j,j< n→InP xs j)→∀a,a< n→xs.getD a 0=a:=by
  intro n hn hin a
  induction a using Fg with
  | _ a ih =>
   intro ha
   obtain⟨b,hb,eb⟩:=hin a ha
   have lo:∀a,a< xs.size→a≤xs.getD a 0:=by
    intro a
    induction a with
    | zero=>intro _;omega
    | succ a ih=>intro h;have:=ih (by omega);have:=up a (a+1) (by omega) h;omega
   have:=lo b hb
   by_cases z:b=a
   ·rw[←z];rw[z]at eb;rw[z];exact eb
   ·have:=ih b (by omega) (by omega)
    omega
 by_cases hall:∀j,j< xs.size→InP xs j
 ·refine⟨xs.size,h,fun⟨a,ha,ea⟩=>?_⟩
  have:=base xs.size (by omega) hall a ha
  omega
 ·have ⟨j,hj⟩:=CI.mp hall
  have ⟨h1,h2⟩:=Dh.mp hj
  exact⟨j,by omega,h2⟩
theorem Tb.gap (T:Tb t hs) {p:Pr} (hp:p.dummy=none∧p.more≤9∧p.perturb< 2^64):∃k,k< 10*Ae t.mask∧¬InP t.place (itM t.mask k p).j∧∀k',k'< k→InP t.place (itM t.mask k' p).j:=by
 obtain⟨e,he,hn⟩:=vo T.up (m:=t.mask) (by have:=T.sz;have:=T.room;omega)
 obtain⟨k,hk,ek⟩:=wy T.msk hp.1 hp.2.1 hp.2.2 he
 rw[←ek]at hn
 clear ek
 induction k using Fg with
 | _ k ih =>
  by_cases z:∀k',k'< k→InP t.place (itM t.mask k' p).j
  ·exact⟨k,hk,hn,z⟩
  ·have ⟨k',h'⟩:=CI.mp z
   have ⟨h1,h2⟩:=Dh.mp h'
   exact ih k' h1 h2 (by omega)
theorem Tb.go (T:Tb t hs) {hashAt:Nat→Int} (hA:∀i h,hs[i]? =some h→hashAt i=h) (h:Int):∀(E fuel:Nat) (p:Pr),p.dummy=none→E< fuel→¬InP t.place (itM t.mask E p).j→(∀k',k'< E→InP t.place (itM t.mask k' p).j)→
  (∃k i,k< E∧i< hs.length∧t.place.getD i 0=(itM t.mask k p).j∧hs[i]? =some h∧BD t hashAt h fuel p=some (.candidate (itM t.mask k p).j i (itM t.mask (k+1) p))∧∀k',k'< k→∀i,t.place.getD i 0=(itM t.mask k' p).j→i< hs.length→hs[i]? ≠some h)∨
  (BD t hashAt h fuel p=some (.empty (itM t.mask E p).j none)∧∀k',k'< E→∀i,t.place.getD i 0=(itM t.mask k' p).j→i< hs.length→hs[i]? ≠some h)
 | 0, fuel + 1, p, hd, hf, hn, ha => by
  refine .inr ⟨?_,fun k' hk=>absurd hk (by omega)⟩
  unfold BD
  rw[T.empty (j:=p.j) hn,hd]
  rfl
 | E + 1, fuel + 1, p, hd, hf, hn, ha => by
  obtain⟨a,h1,h2⟩:=ha 0 (by omega)
  have h2':t.place.getD a 0=p.j:=h2
  have one:∀i,t.place.getD i 0=p.j→i< hs.length→i=a:=fun i hi hl=>by
   have hi':i< t.place.size:=by have:=T.sz;omega
   rw[←eY T.up hi',hi,←h2',eY T.up h1]
  unfold BD
  rw[←h2',T.live h1]
  dsimp only
  have hl:a< hs.length:=by have:=T.sz;omega
  by_cases z:hashAt a=h
  ·refine .inl ⟨0,a,by omega,hl,h2,?_,?_,fun k' hk=>absurd hk (by omega)⟩
   ·have e:=hA a hs[a] (yM hl)
    rw[yM hl,←e,z]
   ·rw[if_pos (by simpa using z),iB,h2']
    rfl
  ·rw[if_neg (by simpa using z),iB]
   have hne:∀i,t.place.getD i 0=p.j→i< hs.length→hs[i]? ≠some h:=fun i hi hl' e=>z (by rw[one i hi hl']at e;exact hA a h e)
   have hd':(eP t.mask p).dummy=none:=by unfold eP;split <;> exact hd
   rcases Tb.go T hA h E fuel (eP t.mask p) hd' (by omega) hn (fun k' hk=>ha (k'+1) (by omega))with⟨k,i,g1,g2,g3,g4,g5,g6⟩ | ⟨g1,g2⟩
   ·refine .inl ⟨k+1,i,by omega,g2,g3,g4,g5,fun k' hk=>?_⟩
    cases k' with
    | zero=>exact hne
    | succ k'=>exact g6 k' (by omega)
   ·refine .inr ⟨g1,fun k' hk=>?_⟩
    cases k' with
    | zero=>exact hne
    | succ k'=>exact g2 k' (by omega)
theorem iC {α:Type} (xs:Array α) (p:Nat) (x:α):(Ad xs p x).toList=xs.toList.take p++x::xs.toList.drop p:=by
 unfold Ad
 simp[zK,AR,Cg]
theorem dB {α:Type} (xs:Array α) {p:Nat} (h:p≤xs.size) (x:α):(Ad xs p x).size=xs.size+1:=by
 rw[←zm,iC]
 simp;omega
theorem t0 {α:Type} (xs:Array α) {p:Nat} (h:p≤xs.size) (x:α) (a:Nat):(Ad xs p x)[a]? =if a< p then xs[a]? else if a=p then some x else xs[a- 1]? :=by
 rw[←yV,iC]
 by_cases z:a< p
 ·rw[if_pos z,zc (by simp;omega),zL z,yV]
 ·rw[if_neg z,zd (by simp;omega)]
  have hl:(List.take p xs.toList).length=p:=by simp;omega
  rw[hl]
  by_cases y:a=p
  ·rw[if_pos y,y];simp
  ·rw[if_neg y,show a- p=(a- p- 1)+1 by omega,Ar,zZ,yV]
   congr 1;omega
theorem fV (xs:Array Nat) {p:Nat} (h:p≤xs.size) (x:Nat) (a:Nat):(Ad xs p x).getD a 0=if a< p then xs.getD a 0 else if a=p then x else xs.getD (a- 1) 0:=by
 rw[zG,t0 xs h]
 split
 ·rw[zG]
 ·split
  ·rfl
  ·rw[zG]
theorem n6 {xs:Array Nat} {p:Nat} (h:p≤xs.size) {x j:Nat} :InP (Ad xs p x) j↔j=x∨InP xs j:=by
 constructor
 ·rintro ⟨a,ha,e⟩
  rw[dB xs h]at ha
  rw[fV xs h]at e
  by_cases z:a< p
  ·rw[if_pos z]at e;exact .inr ⟨a,by omega,e⟩
  ·rw[if_neg z]at e
   by_cases y:a=p
   ·rw[if_pos y]at e;exact .inl e.symm
   ·rw[if_neg y]at e;exact .inr ⟨a- 1,by omega,e⟩
 ·rintro (rfl | ⟨a,ha,e⟩)
  ·exact⟨p,by rw[dB xs h];omega,by rw[fV xs h,if_neg (by omega),if_pos rfl]⟩
  ·by_cases z:a< p
   ·exact⟨a,by rw[dB xs h];omega,by rw[fV xs h,if_pos z,e]⟩
   ·exact⟨a+1,by rw[dB xs h];omega,by rw[fV xs h,if_neg (by omega),if_neg (by omega)];exact e⟩
theorem Tb.put (T:Tb t hs) {h:Int} {E:Nat} (hn:¬InP t.place (itM t.mask E (t.probeStart h)).j) (hj:(itM t.mask E (t.probeStart h)).j≤t.mask) (ha:∀k',k'< E→InP t.place (itM t.mask k' (t.probeStart h)).j):
  (t.put (itM t.mask E (t.probeStart h)).j).2≤hs.length∧(t.put (itM t.mask E (t.probeStart h)).j).1.mask=t.mask∧Tp (t.put (itM t.mask E (t.probeStart h)).j).1 (hs.take (t.put (itM t.mask E (t.probeStart h)).j).2++h::hs.drop (t.put (itM t.mask E (t.probeStart h)).j).2):=by
 obtain⟨b0,b1,b2⟩:=fU T.up (itM t.mask E (t.probeStart h)).j
 generalize hJ:(itM t.mask E (t.probeStart h)).j=j at*
 have hp2:(t.put j).2=A6 t.place j:=rfl
 have hpl:(t.put j).1.place=Ad t.place (A6 t.place j) j:=rfl
 have hmk:(t.put j).1.mask=t.mask:=rfl
 have hst:∀h,(t.put j).1.probeStart h=t.probeStart h:=fun _=>rfl
 have hsz:=T.sz
 generalize A6 t.place j=p at*
 rw[hp2]
 refine⟨by omega,rfl,?_,?_,?_,?_,T.msk,?_⟩
 ·show(if EI t.dummies j then _ else t.dummies)= #[]
  unfold EI
  rw[T.dm]
  rfl
 ·rw[hpl,dB _ b0];simp;omega
 ·rw[hpl]
  intro a b hab hb
  rw[dB _ b0]at hb
  rw[fV _ b0,fV _ b0]
  have gt:∀a,p≤a→a< t.place.size→j< t.place.getD a 0:=fun a h1 h2=>by
   have:=b2 a h1 h2
   by_cases z:t.place.getD a 0=j
   ·exact absurd ⟨a,h2,z⟩ hn
   ·omega
  by_cases z1:a< p
  ·rw[if_pos z1]
   by_cases z2:b< p
   ·rw[if_pos z2];exact T.up a b hab (by omega)
   ·rw[if_neg z2]
    by_cases z3:b=p
    ·rw[if_pos z3];exact b1 a z1
    ·rw[if_neg z3]
     have:=b1 a z1
     have:=gt (b- 1) (by omega) (by omega)
     omega
  ·rw[if_neg z1,if_neg (show ¬b< p by omega),if_neg (show ¬b=p by omega)]
   by_cases z3:a=p
   ·rw[if_pos z3];exact gt (b- 1) (by omega) (by omega)
   ·rw[if_neg z3];exact T.up (a- 1) (b- 1) (by omega) (by omega)
 ·intro q hq
  rw[hpl,n6 b0]at hq
  rcases hq with rfl | hq
  ·exact hj
  ·exact T.le q hq
 ·intro i g hg
  rw[hmk,hst,hpl]
  have mono:∀q,InP t.place q→InP (Ad t.place p j) q:=fun q hq=>(n6 b0).mpr (.inr hq)
  have hl:(hs.take p).length=p:=by simp;omega
  by_cases z1:i< p
  ·rw[zc (by omega),zL z1]at hg
   obtain⟨k,ek,hk⟩:=T.reach i g hg
   exact⟨k,by rw[ek,fV _ b0,if_pos z1],fun k' h'=>mono _ (hk k' h')⟩
  ·rw[zd (by omega),hl]at hg
   by_cases z2:i=p
   ·rw[z2,Cj,As]at hg
    cases hg
    exact⟨E,by rw[hJ,fV _ b0,if_neg z1,if_pos z2],fun k' h'=>mono _ (ha k' h')⟩
   ·rw[show i- p=(i- p- 1)+1 by omega,Ar,zZ]at hg
    rw[show p+(i- p- 1)=i- 1 by omega]at hg
    obtain⟨k,ek,hk⟩:=T.reach (i- 1) g hg
    exact⟨k,by rw[ek,fV _ b0,if_neg z1,if_neg z2],fun k' h'=>mono _ (hk k' h')⟩
end
def Oc (ow:Array (Option Nat)) (j:Nat):Prop:=(ow.getD j (some 0)).isSome=true
theorem jH (m i pt:Nat):∀k,k≤zF m i- i→itM m k (p5 m i pt)={j:=i+k,more:=zF m i- i- k,i:=i,perturb:=pt,dummy:=none}
 | 0,_=>rfl
 | k + 1, h => by
  rw[qw,jH m i pt k (by omega)]
  unfold eP
  rw[if_pos (by show zF m i- i- k> 0;omega)]
  rfl
theorem oA (m i:Nat):i≤zF m i:=by unfold zF;split <;> omega
theorem n9 {m:Nat} (ow:Array (Option Nat)):∀(f i pt n:Nat),n< f→¬Oc ow (jZ m n (i,pt)).1→
  ∃j E,Ay m ow f i pt=some j∧(itM m E (p5 m i pt)).j=j∧¬Oc ow j∧∀k',k'< E→Oc ow (itM m k' (p5 m i pt)).j
 | 0,_,_,_,h,_=>absurd h (by omega)
 | f + 1, i, pt, n, h, hn => by
  have hr:=oA m i
  unfold Ay
  cases hf:(Aj (zF m i+1- i)).find? fun k=>(ow.getD (i+k) (some 0)).isNone with
  | some k =>
   have hk:=BE.mp (List.mem_of_find?_eq_some hf)
   have hp:=List.find?_some hf
   have hb:=(List.find?_range_eq_some.mp hf).2.2
   refine⟨i+k,k,rfl,by rw[jH m i pt k (by omega)],?_,fun k' hk'=>?_⟩
   ·unfold Oc;simp at hp ⊢;exact hp
   ·rw[jH m i pt k' (by omega)]
    have:=hb k' hk'
    unfold Oc
    simpa using this
  | none =>
   have hall:=List.find?_eq_none.mp hf
   have occ:∀k,k≤zF m i- i→Oc ow (i+k):=fun k hk=>by
    have:=hall k (BE.mpr (by omega))
    unfold Oc
    cases q:ow.getD (i+k) (some 0)with
    | none=>rw[q]at this;exact absurd rfl this
    | some a=>rfl
   cases n with
   | zero=>exact absurd (occ 0 (by omega)) hn
   | succ n =>
    obtain⟨j,E,e1,e2,e3,e4⟩:=n9 ow f (zx m i pt).1 (zx m i pt).2 n (by omega) hn
    have r:=gP m (zF m i- i) (p5 m i pt) rfl rfl
    refine⟨j,(zF m i- i)+1+E,e1,?_,e3,fun k' hk'=>?_⟩
    ·rw[dJ,r];exact e2
    ·by_cases z:k'≤zF m i- i
     ·rw[jH m i pt k' z];exact occ k' z
     ·rw[show k'=(zF m i- i)+1+(k'- ((zF m i- i)+1)) by omega,dJ,r]
      exact e4 _ (by omega)
abbrev stM (m:Nat) (h:Int):Pr:=p5 m (zA h% (m+1)) (zA h)
theorem t9 (h:Int):zA h< 2^64:=by show(h% (2^64:Int)).toNat< 2^64;omega
theorem tj {m:Nat} (hm:isMask m) (ow:Array (Option Nat)) (h:Int) {e:Nat} (he:e≤m) (hn:¬Oc ow e):
  ∃j E,Ay m ow (Ae m) (zA h% (m+1)) (zA h)=some j∧(itM m E (stM m h)).j=j∧¬Oc ow j∧∀k',k'< E→Oc ow (itM m k' (stM m h)).j:=by
 have i0:zA h% (m+1)≤m:=by have:=D5 (zA h) (show 0< m+1 by omega);omega
 have z:(jZ m 13 (zA h% (m+1),zA h)).2=0:=by
  rw[qy]
  exact EY (by have:=t9 h;show zA h< 32^13;omega)
 have i1:=vn m 13 (zA h% (m+1),zA h) i0
 obtain⟨n,hn',en⟩:=qA hm i1 he
 refine n9 ow _ _ _ (13+n) (by unfold Ae;omega) ?_
 rw[mY,show jZ m 13 (zA h% (m+1),zA h)=((jZ m 13 (zA h% (m+1),zA h)).1,0)from D4 rfl z,qz,en]
 exact hn
structure Lay (m:Nat) (hs:List Int) (ow:Array (Option Nat)) (k:Nat):Prop where
 sz:ow.size=m+1
 cnt:ow.toList.countP Ei=k
 inj:∀(j j' i:Nat),ow[j]? =some (some i)→ow[j']? =some (some i)→j=j'
 lt:∀(j i:Nat),ow[j]? =some (some i)→i< k
 reach:∀(j i:Nat) (h:Int),ow[j]? =some (some i)→hs[i]? =some h→∃n,(itM m n (stM m h)).j=j∧∀n',n'< n→Oc ow (itM m n' (stM m h)).j
theorem fW {ow:Array (Option Nat)} {j:Nat} (hj:j< ow.size):Oc ow j↔∃i,ow[j]? =some (some i):=by
 unfold Oc
 simp[AS,hj]
 cases ow[j] <;> simp
theorem Lay.gap {m:Nat} {hs:List Int} {ow:Array (Option Nat)} {k:Nat} (L:Lay m hs ow k) (h:k≤m):∃e,e≤m∧¬Oc ow e:=by
 by_cases z:∀e,e≤m→Oc ow e
 ·exfalso
  have:ow.toList.countP Ei=ow.toList.length:=List.countP_eq_length.mpr fun a ha=>by
   obtain⟨j,hj,e⟩:=Au.mp ha
   have hj':j< ow.size:=by simpa using hj
   obtain⟨i,hi⟩:=(fW hj').mp (z j (by have:=L.sz;omega))
   rw[←e]
   have:ow.toList[j]=some i:=by
    have q:ow.toList[j]? =some (some i):=by rw[yV];exact hi
    rw[yM hj]at q
    injection q
   rw[this];rfl
  rw[L.cnt,zm,L.sz]at this
  omega
 ·have ⟨e,he⟩:=CI.mp z
  have ⟨h1,h2⟩:=Dh.mp he
  exact⟨e,h1,h2⟩
theorem wz {ow:Array (Option Nat)} {j:Nat} (h:¬Oc ow j):j< ow.size:=by
 by_cases z:j< ow.size
 ·exact z
 ·exact absurd (by unfold Oc;simp[AS,z]) h
theorem Lay.step {m:Nat} (hm:isMask m) {hs:List Int} {ow:Array (Option Nat)} {k:Nat} (L:Lay m hs ow k) (hk:k≤m) {h:Int} (hh:hs[k]? =some h):
  ∃j,Ay m ow (Ae m) (zA h% (m+1)) (zA h)=some j∧Lay m hs (ow.setIfInBounds j (some k)) (k+1):=by
 obtain⟨e,he,hn⟩:=L.gap hk
 obtain⟨j,E,e1,e2,e3,e4⟩:=tj hm ow h he hn
 have hj:=wz e3
 refine⟨j,e1,?_⟩
 have none_j:ow[j]? =some none:=by
  have:¬∃i,ow[j]? =some (some i):=fun z=>e3 ((fW hj).mpr z)
  rw[zl hj]at this ⊢
  cases q:ow[j]with
  | none=>rfl
  | some i=>exact absurd ⟨i,by rw[q]⟩ this
 have at_:∀q,(ow.setIfInBounds j (some k))[q]? =if q=j then some (some k)else ow[q]? :=fun q=>by
  rw[Array.getElem?_setIfInBounds]
  by_cases z:j=q
  ·subst z;simp[hj]
  ·rw[if_neg z,if_neg (AZ z)]
 have oc:∀q,Oc ow q→Oc (ow.setIfInBounds j (some k)) q:=fun q hq=>by
  by_cases hs':q< ow.size
  ·obtain⟨i,hi⟩:=(fW hs').mp hq
   refine(fW (by simpa using hs')).mpr ?_
   rw[at_]
   by_cases z:q=j
   ·exact⟨k,by rw[if_pos z]⟩
   ·exact⟨i,by rw[if_neg z];exact hi⟩
  ·unfold Oc;simp[AS,hs']
 refine⟨by simp[L.sz],?_,?_,?_,?_⟩
 ·have hj2:j< ow.toList.length:=by simpa using hj
  have q:ow.toList[j]=none:=by
   have:=none_j
   rw[←yV,yM hj2]at this
   injection this
  rw[BJ,List.countP_set hj2,q,L.cnt]
  simp
 ·intro a b i ha hb
  rw[at_]at ha hb
  by_cases z1:a=j
  ·rw[if_pos z1]at ha
   injection ha with ha;injection ha with ha
   by_cases z2:b=j
   ·rw[z1,z2]
   ·rw[if_neg z2]at hb
    have:=L.lt b i hb
    omega
  ·rw[if_neg z1]at ha
   by_cases z2:b=j
   ·rw[if_pos z2]at hb
    injection hb with hb;injection hb with hb
    have:=L.lt a i ha
    omega
   ·rw[if_neg z2]at hb
    exact L.inj a b i ha hb
 ·intro a i ha
  rw[at_]at ha
  by_cases z1:a=j
  ·rw[if_pos z1]at ha
   injection ha with ha;injection ha with ha
   omega
  ·rw[if_neg z1]at ha
   have:=L.lt a i ha
   omega
 ·intro a i g ha hg
  rw[at_]at ha
  by_cases z1:a=j
  ·rw[if_pos z1]at ha
   injection ha with ha;injection ha with ha
   subst ha
   rw[hh]at hg
   cases hg
   exact⟨E,by rw[z1];exact e2,fun n' h'=>oc _ (e4 n' h')⟩
  ·rw[if_neg z1]at ha
   obtain⟨n,q1,q2⟩:=L.reach a i g ha hg
   exact⟨n,q1,fun n' h'=>oc _ (q2 n' h')⟩
theorem oB (m:Nat) (hs:List Int):Lay m hs (DP (m+1) none) 0:=by
 have no:∀(j i:Nat),(DP (m+1) (none:Option Nat))[j]? =some (some i)→False:=fun j i h=>by
  rw[Array.getElem?_replicate]at h
  split at h <;> simp at h
 refine⟨by simp,?_,fun j j' i h _=>(no j i h).elim,fun j i h=>(no j i h).elim,fun j i _ h _=>(no j i h).elim⟩
 rw[Array.toList_replicate,List.countP_replicate]
 rfl
abbrev jI (m:Nat) (acc:Option (Array (Option Nat)×Nat)) (h:Int):Option (Array (Option Nat)×Nat):=do
 let (owner,k) ←acc
 let j ←Ay m owner (Ae m) (zA h% (m+1)) (zA h)
 pure (owner.setIfInBounds j (some k),k+1)
theorem kQ {m:Nat} (hm:isMask m) (hs:List Int):∀(r:List Int) (ow:Array (Option Nat)) (k:Nat),Lay m hs ow k→hs.drop k=r→hs.length≤m→k≤hs.length→∃ow',r.foldl (jI m) (some (ow,k))=some (ow',hs.length)∧Lay m hs ow' hs.length
 | [], ow, k, L, hd, hl, hk => by
  have:k=hs.length:=by
   have:=congrArg BH hd
   simp at this
   omega
  subst this
  exact⟨ow,rfl,L⟩
 | h :: r, ow, k, L, hd, hl, hk => by
  have hk2:k< hs.length:=by
   have:=congrArg BH hd
   simp at this
   omega
  have hh:hs[k]? =some h:=by
   have:(hs.drop k)[0]? =some h:=by rw[hd];rfl
   rw[zZ]at this
   exact this
  obtain⟨j,e,L'⟩:=L.step hm (by omega) hh
  have e':jI m (some (ow,k)) h=some (ow.setIfInBounds j (some k),k+1):=by
   show(Ay m ow (Ae m) (zA h% (m+1)) (zA h)).bind _=_
   rw[e];rfl
  rw[DM,e']
  exact kQ hm hs r _ _ L' (by rw[←Fx,hd];rfl) hl (by omega)
theorem kR {m:Nat} (hm:isMask m) {hs:Array Int} (hl:hs.size≤m):∃ow,SetTable.layClean m hs=some ow∧Lay m hs.toList ow hs.size:=by
 obtain⟨ow,e,L⟩:=kQ hm hs.toList hs.toList _ 0 (oB m hs.toList) rfl (by simpa using hl) (by simp)
 refine⟨ow,?_,by simpa using L⟩
 show Option.map (·.1) (hs.foldl (jI m) (some (DP (m+1) none,0)))=_
 rw[←Array.foldl_toList,e]
 rfl
abbrev cK (m:Nat) (ow:Array (Option Nat)):List (Nat×Nat):=(Aj (m+1)).filterMap fun j=>(ow.getD j none).map (j, ·)
theorem dY {m:Nat} {ow:Array (Option Nat)} (hs:ow.size=m+1) {j i:Nat} :(j,i)∈cK m ow↔ow[j]? =some (some i):=by
 unfold cK
 rw[C3]
 constructor
 ·rintro ⟨q,hq,e⟩
  rw[zM]at e
  obtain⟨a,e1,e2⟩:=e
  injection e2 with e2 e3
  subst e2;subst e3
  have:=BE.mp hq
  have hq':q< ow.size:=by omega
  simp[AS,hq']at e1
  rw[zl hq',e1]
 ·intro h
  have hj:j< ow.size:=(Az.mp h).1
  refine⟨j,BE.mpr (by omega),?_⟩
  rw[zG,h]
  rfl
theorem jJ {f:Nat→Option Nat} :∀{l:List Nat},l.Pairwise (· < ·)→((l.filterMap fun j=>(f j).map (j, ·)).map (·.1)).Pairwise (· < ·)
 | [],_=>by simp
 | a :: l, h => by
  have ih:=jJ (f:=f) (D6.mp h).2
  cases e:f a with
  | none=>simpa [e] using ih
  | some b =>
   rw[Dp (b:=(a,b)) (by rw[e];rfl),zY]
   refine D6.mpr ⟨fun q hq=>?_,ih⟩
   obtain⟨x,hx,rfl⟩:=zD.mp hq
   obtain⟨c,hc,e2⟩:=C3.mp hx
   rw[zM]at e2
   obtain⟨_,_,rfl⟩:=e2
   exact(D6.mp h).1 c hc
theorem qC {f:Nat→Option Nat} :∀(l:List Nat),(l.filterMap fun j=>(f j).map (j, ·)).length=(l.map f).countP Ei
 | []=>rfl
 | a :: l => by
  have ih:=qC (f:=f) l
  cases e:f a with
  | none=>rw[List.filterMap_cons_none (by rw[e];rfl),ih];simp[e]
  | some b=>rw[Dp (b:=(a,b)) (by rw[e];rfl)];simp[e,ih]
theorem qD {m k:Nat} {hs:List Int} {ow:Array (Option Nat)} (L:Lay m hs ow k):(cK m ow).length=k:=by
 unfold cK
 rw[qC (f:=fun j=>ow.getD j none),←L.cnt]
 congr 1
 refine List.ext_getElem (by simp[L.sz]) fun i h1 h2=>?_
 simp at h1 h2
 simp[AS,h2]
theorem qE:∀(n:Nat) (l:List Nat),l.Nodup→(∀x∈l,x< n)→l.length≤n
 | 0, l, _, h => by
  cases l with
  | nil=>simp
  | cons a l=>exact absurd (h a (zk ..)) (by omega)
 | n + 1, l, nd, h => by
  by_cases z:n∈l
  ·have:=qE n (l.erase n) (nd.erase n) fun x hx=>by
    have h1:=h x (Cs hx)
    have h2:x≠n:=fun e=>by subst e;exact(BX nd) hx
    omega
   rw[BY z]at this
   omega
  ·have:=qE n l nd fun x hx=>by
    have h1:=h x hx
    have h2:x≠n:=fun e=>z (e▸hx)
    omega
   omega
theorem nc:∀(n:Nat) (l:List Nat),l.Nodup→(∀x∈l,x< n)→l.length=n→l.Perm (Aj n)
 | 0,l,_,_,h=>by rw[Bj.mp h];exact .refl _
 | n + 1, l, nd, h, hl => by
  have z:n∈l:=by
   by_cases z:n∈l
   ·exact z
   ·have:=qE n l nd fun x hx=>by
     have h1:=h x hx
     have h2:x≠n:=fun e=>z (e▸hx)
     omega
    omega
  have:=nc n (l.erase n) (nd.erase n) (fun x hx=>by
    have h1:=h x (Cs hx)
    have h2:x≠n:=fun e=>by subst e;exact(BX nd) hx
    omega) (by rw[BY z];omega)
  rw[List.range_succ]
  exact(List.perm_cons_erase z).trans ((List.Perm.cons n this).trans (List.perm_append_singleton n _).symm)
theorem tm {l:List Nat} (h:l.Pairwise (· < ·)):Up l.toArray:=fun a b hab hb=>by
 have hb':b< l.length:=by simpa using hb
 have:=AE.mp h a b (by omega) hb' hab
 simpa [AS,show a< l.length by omega,hb'] using this
theorem jf {m i:Nat} (h:i≤m):i+(zF m i- i)≤m:=by unfold zF;split <;> omega
theorem wA {m:Nat} {p:Pr} (h:p.j+p.more≤m):(eP m p).j+(eP m p).more≤m:=by
 unfold eP
 split
 ·show p.j+1+(p.more- 1)≤m;omega
 ·refine jf ?_
  show(p.i*5+1+p.perturb/ 32)% (m+1)≤m
  have:=D5 (p.i*5+1+p.perturb/ 32) (show 0< m+1 by omega);omega
theorem wB {m:Nat} :∀(n:Nat) {p:Pr},p.j+p.more≤m→(itM m n p).j+(itM m n p).more≤m
 | 0,_,h=>h
 | n+1,_,h=>wB n (wA h)
theorem ux {m:Nat} {h:Int} (n:Nat):(itM m n (stM m h)).j≤m:=by
 have:=wB (m:=m) n (p:=stM m h) (jf (i:=zA h% (m+1)) (by have:=D5 (zA h) (show 0< m+1 by omega);omega))
 omega
theorem tq {m:Nat} (hm:isMask m) {hs:Array Int} (hl:hs.size≤m) (fi mo:Nat) (led plain:Bool):
  ∃t order,FQ m fi mo led plain hs=some (t,order)∧t.mask=m∧t.led=led∧t.plain=plain∧order.toList.Perm (Aj hs.size)∧Tp t (order.toList.map fun i=>hs.toList.getD i 0):=by
 obtain⟨ow,e,L⟩:=kR hm hl
 refine⟨_,_,by unfold FQ;rw[e];rfl,rfl,rfl,rfl,?_,?_⟩
 ·show((cK m ow).map (·.2)).toArray.toList.Perm _
  have len:=qD L
  have inc:=jJ (f:=fun j=>ow.getD j none) (DH (n:=m+1))
  have nd1:((cK m ow).map (·.1)).Nodup:=inc.imp fun h=>zg h
  refine nc hs.size _ ?_ (fun x hx=>?_) (by simpa using len)
  ·show((cK m ow).map (·.2)).Nodup
   rw[zO,Bb]
   rw[zO,Bb]at nd1
   refine nd1.imp_of_mem fun {a b} ha hb hne e=>hne ?_
   have h1:=(dY L.sz (j:=a.1) (i:=a.2)).mp ha
   have h2:=(dY L.sz (j:=b.1) (i:=b.2)).mp hb
   rw[←e]at h2
   exact L.inj _ _ _ h1 h2
  ·obtain⟨y,hy,rfl⟩:=zD.mp (show x∈(cK m ow).map (·.2)from hx)
   exact L.lt _ _ ((dY L.sz (j:=y.1) (i:=y.2)).mp hy)
 ·have inc:=jJ (f:=fun j=>ow.getD j none) (DH (n:=m+1))
  have inp:∀j,InP ((cK m ow).map (·.1)).toArray j↔∃i,ow[j]? =some (some i):=fun j=>by
   constructor
   ·rintro ⟨a,ha,e⟩
    have ha':a< (cK m ow).length:=by simpa using ha
    have:((cK m ow)[a]).1=j:=by simpa [AS,ha'] using e
    have mem:=AG ha'
    rw[←this]
    exact⟨_,(dY L.sz (j:=(cK m ow)[a].1) (i:=(cK m ow)[a].2)).mp mem⟩
   ·rintro ⟨i,hi⟩
    have mem:=(dY L.sz).mpr hi
    obtain⟨a,ha,e⟩:=Au.mp mem
    exact⟨a,by simpa using ha,by simp[AS,ha,e]⟩
  have ocp:∀j,j≤m→Oc ow j→InP ((cK m ow).map (·.1)).toArray j:=fun j hj h=>(inp j).mpr ((fW (by have:=L.sz;omega)).mp h)
  refine⟨rfl,?_,tm inc,?_,hm,?_⟩
  ·show((cK m ow).map (·.1)).toArray.size=(List.map _ ((cK m ow).map (·.2)).toArray.toList).length
   simp
  ·intro j hj
   obtain⟨i,hi⟩:=(inp j).mp hj
   have:=(Az.mp hi).1
   have:=L.sz
   show j≤m
   omega
  ·intro a h ha
   have ha2:((cK m ow)[a]?).map (fun y=>hs.toList.getD y.2 0)=some h:=by
    have:(((cK m ow).map (·.2)).map fun i=>hs.toList.getD i 0)[a]? =some h:=ha
    rw[Bq,yT]at this
    exact this
   obtain⟨y,hy,e⟩:=zM.mp ha2
   have mem:=zr hy
   have at_:=(dY L.sz (j:=y.1) (i:=y.2)).mp mem
   have lt:=L.lt _ _ at_
   have hh:hs.toList[y.2]? =some h:=by
    have hlt:y.2< hs.toList.length:=by simpa using lt
    rw[A2,yM hlt]at e
    rw[yM hlt]
    exact congrArg some e
   obtain⟨n,q1,q2⟩:=L.reach _ _ _ at_ hh
   have hla:a< (cK m ow).length:=(yR.mp hy).1
   refine⟨n,?_,fun n' h'=>?_⟩
   ·show(itM m n (stM m h)).j=((cK m ow).map (·.1)).toArray.getD a 0
    rw[q1,zG]
    simp only[List.getElem?_toArray,yT,hy]
    rfl
   ·refine ocp _ ?_ (q2 n' h')
    by_cases z:(itM m n' (stM m h)).j≤m
    ·exact z
    ·exfalso;exact z (ux n')
section
variable {prog:zf} {w:zt} {K:Type} [DecidableEq K] {knd:KeyKind prog w K} {A:zP} {E:yH→yK→Prop} {s:yK}
structure TupsOf (knd:KeyKind prog w K) (h:Heap) (es:List (Int×yH)) (ks:List (List K)):Prop where
 len:es.length=ks.length
 at_:∀(i:Nat) (e:Int×yH),es[i]? =some e→∃k b,ks[i]? =some k∧e.2=.ref b∧AY knd h k b∧e.1=tupleKeyHash knd k
theorem Tb.fits {t:A7} {es:Array (Int×yH)} (T:Tb t (es.toList.map (·.1))):t.fits es.size=true:=by
 have h1:=T.sz
 have h2:=T.room
 have h3:=T.dm
 simp at h1 h2
 unfold FR Ej
 rw[h3]
 simp
 omega
theorem qF {m:Nat} (h:isMask m):(m% 2 == 0)=false:=by rcases h with rfl | rfl | rfl | rfl | rfl <;> rfl
theorem uy {m:Nat} :∀(k:Nat) {p:Pr},p.dummy=none→(itM m k p).dummy=none
 | 0,_,h=>h
 | k+1,p,h=>uy k (by unfold eP;split <;> exact h)
theorem lP {a x:Addr} {o:Obj} {es:Array (Int×yH)} {ep:Nat} {t:A7} {ks:List (List K)} {kx:List K} (hu:A.units< cLine) (ho:s.heap.get? a=some o) (hd:o.data=.set es ep t) (T:Tb t (es.toList.map (·.1))) (hk:TupsOf knd s.heap es.toList ks) (hx:AY knd s.heap kx x)
  (seen:∀(l:List yH) (Q:Bool→yK→Prop),(∀y∈l,∃e∈es.toList,y=e.2)→Q false s→wpAny (model prog w) A (searchCouldBeSeen (.ref x) l) Q E s) {Q:SetFound→yK→Prop} :
  ∀ (fuel G : Nat) (st : Option Pr), (st.getD (t.probeStart (tupleKeyHash knd kx))).dummy = none → G < fuel → G < 10 * Ae t.mask → ¬ InP t.place (itM t.mask G (st.getD (t.probeStart (tupleKeyHash knd kx)))).j → (∀ k', k' < G → InP t.place (itM t.mask k' (st.getD (t.probeStart (tupleKeyHash knd kx)))).j) →
   ((∃k i,k< G∧t.place.getD i 0=(itM t.mask k (st.getD (t.probeStart (tupleKeyHash knd kx)))).j∧ks[i]? =some kx)→Q (.there none) s)→
   ((∀k i,k< G→t.place.getD i 0=(itM t.mask k (st.getD (t.probeStart (tupleKeyHash knd kx)))).j→i< es.size→ks[i]? ≠some kx)→Q (.free (itM t.mask G (st.getD (t.probeStart (tupleKeyHash knd kx)))).j false) s)→
   wpAny (model prog w) A (setSearchFrom a (.ref x) (tupleKeyHash knd kx) true fuel st) Q E s:=by
 intro fuel
 induction fuel with
 | zero=>intro G st _ h;exact absurd h (by omega)
 | succ fuel ih =>
  intro G st hdm hG hGt hn ha h1 h2
  unfold setSearchFrom
  refine yF (Am ho hd T.fits ?_)
  dsimp only
  rw[if_neg (by unfold SetTable.gaveWay;rw[qF T.msk];decide)]
  generalize hp:st.getD (t.probeStart (tupleKeyHash knd kx))=p at*
  have hA:∀(i:Nat) (h:Int),(es.toList.map (·.1))[i]? =some h→(fun(i:Nat)=>(es[i]?.map (fun(e:Int×yH)=>e.1)).getD 0) i=h:=fun i h hh=>by
   rw[yT,yV]at hh
   show(es[i]?.map (fun(e:Int×yH)=>e.1)).getD 0=h
   rw[hh];rfl
  have go:=T.go hA (tupleKeyHash knd kx) G (10*Ae t.mask) p hdm hGt hn ha
  have hpr:t.probe (fun(i:Nat)=>(es[i]?.map (fun(e:Int×yH)=>e.1)).getD 0) (tupleKeyHash knd kx) p=BD t (fun(i:Nat)=>(es[i]?.map (fun(e:Int×yH)=>e.1)).getD 0) (tupleKeyHash knd kx) (10*Ae t.mask) p:=rfl
  rw[←hpr]at go
  rcases go with⟨k,i,g1,g2,g3,g4,g5,g6⟩ | ⟨g1,g2⟩
  ·have e:∀f,f=(fun(i:Nat)=>(es[i]?.map (fun(e:Int×yH)=>e.1)).getD 0)→t.probe f (tupleKeyHash knd kx) p=some (.candidate (itM t.mask k p).j i (itM t.mask (k+1) p)):=fun f hf=>by rw[hf];exact g5
   have hi:i< es.size:=by simpa using g2
   obtain⟨ky,b,q1,q2,q3,q4⟩:=hk.at_ i es[i] (by rw[yV,zl hi])
   have hei:es[i]? =some (es[i].1,.ref b):=by rw[zl hi,←q2]
   have key_ne:∀k' i',k'< k→t.place.getD i' 0=(itM t.mask k' p).j→i'< es.size→ks[i']? ≠some kx:=fun k' i' hk' hi' hl hq=>by
    have hl':i'< es.toList.length:=by simpa using hl
    obtain⟨kz,c,z1,z2,z3,z4⟩:=hk.at_ i' es.toList[i'] (yM hl')
    rw[z1]at hq
    cases hq
    refine g6 k' hk' i' hi' (by simpa using hl) ?_
    rw[yT,yM hl',←z4]
    rfl
   have one:∀i',t.place.getD i' 0=(itM t.mask k p).j→i'< es.size→i'=i:=fun i' hi' hl=>by
    have h1':i'< t.place.size:=by have:=T.sz;simp at this;omega
    have h2':i< t.place.size:=by have:=T.sz;simp at this;omega
    rw[←eY T.up h1',hi',←g3,eY T.up h2']
   have again:ky≠kx→wpAny (model prog w) A (setSearchFrom a (.ref x) (tupleKeyHash knd kx) true fuel (some (itM t.mask (k+1) p))) Q E s:=fun hne=>by
    have ad:∀n,itM t.mask n (itM t.mask (k+1) p)=itM t.mask (k+1+n) p:=fun n=>(dJ t.mask (k+1) n p).symm
    refine ih (G- (k+1)) (some (itM t.mask (k+1) p)) ?_ (by omega) (by omega) ?_ ?_ ?_ ?_
    ·exact uy (k+1) hdm
    ·show ¬InP t.place (itM t.mask _ (itM t.mask (k+1) p)).j
     rw[ad,show k+1+(G- (k+1))=G by omega];exact hn
    ·intro k' hk'
     show InP t.place (itM t.mask _ (itM t.mask (k+1) p)).j
     rw[ad];exact ha _ (by omega)
    ·rintro ⟨k',i',r1,r2,r3⟩
     have r2':t.place.getD i' 0=(itM t.mask k' (itM t.mask (k+1) p)).j:=r2
     rw[ad]at r2'
     exact h1 ⟨k+1+k',i',by omega,r2',r3⟩
    ·intro r
     show Q (.free (itM t.mask _ (itM t.mask (k+1) p)).j false) s
     rw[ad,show k+1+(G- (k+1))=G by omega]
     refine h2 fun k' i' z1 z2 z3=>?_
     by_cases y1:k'< k
     ·exact key_ne k' i' y1 z2 z3
     ·by_cases y2:k'=k
      ·subst y2
       rw[one i' z2 z3,q1]
       intro z;injection z with z;exact hne z
      ·refine r (k'- (k+1)) i' (by omega) ?_ z3
       show t.place.getD i' 0=(itM t.mask _ (itM t.mask (k+1) p)).j
       rw[ad,show k+1+(k'- (k+1))=k' by omega];exact z2
   have hlive:t.slot (itM t.mask k p).j=.live i:=by rw[←g3];exact T.live (by have:=T.sz;simp at this;omega)
   have hmem:t.sameMemory t.moves t.mask=some true:=by unfold SetTable.sameMemory;simp
   rw[e]
   ·dsimp only
    simp only[hei]
    by_cases hl:t.led=true
    ·rw[if_neg (by simp[hl])]
     refine yF (Ai ((tupleKind knd).eqBool hu q3 hx ?_))
     refine yF (Am ho hd T.fits ?_)
     dsimp only
     by_cases hq:ky=kx
     ·rw[decide_eq_true hq,if_pos (by decide)]
      exact yJ (h1 ⟨k,i,g1,g3,hq▸q1⟩)
     ·rw[decide_eq_false hq,if_neg (by decide),hmem]
      dsimp only
      rw[if_pos rfl,hlive]
      dsimp only
      rw[hei]
      dsimp only
      refine yF (DS ?_)
      refine yF (yJ ?_)
      exact again hq
    ·rw[if_pos (by simp[hl])]
     refine yF (seen _ _ (fun y hy=>?_) ?_)
     ·obtain⟨z,hz,rfl⟩:=zD.mp hy
      exact⟨z,by simp at hz;simpa using hz.1,rfl⟩
     rw[if_neg (by decide)]
     refine yF (Ai ((tupleKind knd).eqBool hu q3 hx ?_))
     refine yF (Am ho hd T.fits ?_)
     dsimp only
     by_cases hq:ky=kx
     ·rw[decide_eq_true hq,if_pos (by decide)]
      exact yJ (h1 ⟨k,i,g1,g3,hq▸q1⟩)
     ·rw[decide_eq_false hq,if_neg (by decide),hmem]
      dsimp only
      rw[if_pos rfl,hlive]
      dsimp only
      rw[hei]
      dsimp only
      refine yF (DS ?_)
      refine yF (yJ ?_)
      exact again hq
   ·rfl
  ·have e:∀f,f=(fun(i:Nat)=>(es[i]?.map (fun(e:Int×yH)=>e.1)).getD 0)→t.probe f (tupleKeyHash knd kx) p=some (.empty (itM t.mask G p).j none):=fun f hf=>by rw[hf];exact g1
   rw[e]
   ·refine yJ (h2 fun k i hk' hi hl hq=>?_)
    have hl':i< es.toList.length:=by simpa using hl
    obtain⟨ky,b,q1,q2,q3,q4⟩:=hk.at_ i es.toList[i] (yM hl')
    rw[q1]at hq
    cases hq
    refine g2 k hk' i hi (by simpa using hl) ?_
    rw[yT,yM hl',←q4]
    rfl
   ·rfl
end
section
variable {prog:zf} {w:zt} {K:Type} [DecidableEq K] {knd:KeyKind prog w K} {A:zP} {E:yH→yK→Prop} {s:yK}
theorem oC {n:Nat} {v:yH} (h:carriedByValue v=true):ofAClassStatement n v=pure false:=by
 cases v <;> first | (cases n <;> rfl) | (exfalso;revert h;simp[carriedByValue])
theorem jg {ks:List K} {a:Addr} {Q:Bool→yK→Prop} (hk:AY knd s.heap ks a) (h:Q false s):wpAny (model prog w) A (ofAClassStatement 8 (.ref a)) Q E s:=by
 have hT:=hk.typeIs
 obtain⟨o,items,n,ho,_,hd,hi⟩:=hk
 unfold ofAClassStatement
 refine yF (wpAny_typeOf hT ?_)
 dsimp only
 rw[if_pos (by rfl)]
 refine yF (yJ ?_)
 rw[if_neg (by decide)]
 refine yF (Ax ho hd ?_)
 dsimp only
 refine yF ?_
 show wpAny _ _ (forIn items _ _) _ _ s
 rw[←Ez]
 refine Dy _ (fun rest r s'=>r.1=none∧s'=s∧∀v∈rest,carriedByValue v=true) _ ?_ ?_ _ _ ⟨rfl,rfl,hi.byValue⟩
 ·rintro v rest r s' ⟨hr,rfl,hall⟩
  rw[oC (hall v zk)]
  refine yF (yJ ?_)
  simp only[zz,if_false]
  exact yJ ⟨rfl,rfl,fun u hu'=>hall u (zh _ hu')⟩
 ·rintro ⟨r1,r2⟩ s' ⟨hr,rfl,_⟩
  simp only at hr
  subst hr
  exact yJ h
theorem qG {kx:List K} {x:Addr} (hx:AY knd s.heap kx x):∀(l:List yH) {Q:Bool→yK→Prop},(∀y∈l,∃k b,y=.ref b∧AY knd s.heap k b)→Q false s→wpAny (model prog w) A (searchCouldBeSeen (.ref x) l) Q E s:=by
 intro l Q hl h
 unfold searchCouldBeSeen
 refine yF ?_
 refine Dy _ (fun rest r s'=>r.1=none∧s'=s∧∀y∈rest,∃k b,y=.ref b∧AY knd s.heap k b) _ ?_ ?_ _ _ ⟨rfl,rfl,hl⟩
 ·rintro v rest r s' ⟨hr,rfl,hall⟩
  obtain⟨k,b,rfl,hb⟩:=hall v zk
  dsimp only
  by_cases z:x=b
  ·rw[if_pos (by simp[z])]
   exact yJ ⟨rfl,rfl,fun u hu'=>hall u (zh _ hu')⟩
  ·rw[if_neg (by simp[z,carriedByValue])]
   refine yF ((tupleKind knd).quiet hx ?_)
   simp only[CC,zz,if_false]
   refine yF ((tupleKind knd).quiet hb ?_)
   simp only[CC,zz,if_false]
   refine yF (jg hx ?_)
   simp only[zz,if_false]
   refine yF (jg hb ?_)
   simp only[zz,if_false]
   exact yJ ⟨rfl,rfl,fun u hu'=>hall u (zh _ hu')⟩
 ·rintro ⟨r1,r2⟩ s' ⟨hr,rfl,_⟩
  simp only at hr
  subst hr
  exact yJ h
end
section
variable {prog:zf} {w:zt} {K:Type} [DecidableEq K] {knd:KeyKind prog w K}
theorem kS {h h':Heap} {a b:Addr} {o:Obj} {es:Array (Int×yH)} {ep:Nat} {t:A7} {k:List K} (hk:AY knd h k b) (ho:h.get? a=some o) (hd:o.data=.set es ep t) (hs:zC a h h'):AY knd h' k b:=by
 obtain⟨ob,items,n,h1,h2,h3,h4⟩:=hk
 have ne:b≠a:=fun z=>by
  subst z
  rw[ho]at h1
  cases h1
  rw[hd]at h3
  cases h3
 exact⟨ob,items,n,(hs.2 b ne).trans h1,h2,h3,h4⟩
theorem TupsOf.keep {h h':Heap} {a:Addr} {o:Obj} {es:Array (Int×yH)} {ep:Nat} {t:A7} {l:List (Int×yH)} {ks:List (List K)} (T:TupsOf knd h l ks) (ho:h.get? a=some o) (hd:o.data=.set es ep t) (hs:zC a h h'):TupsOf knd h' l ks:=
 ⟨T.len,fun i e he=>let ⟨k,b,q1,q2,q3,q4⟩:=T.at_ i e he;⟨k,b,q1,q2,kS q3 ho hd hs,q4⟩⟩
end
section
variable {prog:zf} {w:zt} {K:Type} [DecidableEq K] {knd:KeyKind prog w K} {A:zP} {E:yH→yK→Prop} {s:yK}
theorem qH {ks:List K} {a:Addr} {Q:Bool→yK→Prop} (hI:∀k∈ks,∀v,knd.is k v=true→∃i t,v=.int i t) (hk:AY knd s.heap ks a) (h:Q true s):wpAny (model prog w) A (hashByValue 8 (.ref a)) Q E s:=by
 have hT:=hk.typeIs
 obtain⟨o,items,n,ho,_,hd,hi⟩:=hk
 unfold hashByValue
 refine yF (DL hT F.slot_tuple_hash.lookup ?_)
 show wpAny _ _ (seqItems? (.ref a) >>= _) _ _ s
 refine yF (Ax ho hd ?_)
 dsimp only
 refine yF ?_
 show wpAny _ _ (forIn items _ _) _ _ s
 rw[←Ez]
 have hall:∀v∈items.toList,∃i t,v=.int i t:=by
  clear hd ho
  generalize items.toList=l at hi
  induction hi with
  | nil=>intro v hv;cases hv
  | cons h1 _ ih =>
   intro v hv
   rcases zq.mp hv with rfl | hv
   ·exact hI _ (zk ..) _ h1
   ·exact ih (fun k hk=>hI k (zh _ hk)) v hv
 refine Dy _ (fun rest r s'=>r.1=none∧s'=s∧∀v∈rest,∃i t,v=Ds i t) _ ?_ ?_ _ _ ⟨rfl,rfl,hall⟩
 ·rintro v rest r s' ⟨hr,rfl,hall⟩
  obtain⟨i,t,rfl⟩:=hall v zk
  show wpAny _ _ (hashByValue 7 (.int i t) >>= _) _ _ _
  rw[show hashByValue 7 (.int i t)=pure true from rfl]
  refine yF (yJ ?_)
  exact yJ ⟨rfl,rfl,fun u hu'=>hall u (zh _ hu')⟩
 ·rintro ⟨r1,r2⟩ s' ⟨hr,rfl,_⟩
  simp only at hr
  subst hr
  exact yJ h
structure SetT (knd:KeyKind prog w K) (h:Heap) (a:Addr) (led:Bool) (ks:List (List K)) (o:Obj) (es:Array (Int×yH)) (ep:Nat) (t:A7):Prop where
 at_:h.get? a=some o
 ex:o.ExactSet
 dat:o.data=.set es ep t
 tab:Tb t (es.toList.map (·.1))
 tup:TupsOf knd h es.toList ks
 nd:ks.Nodup
 led:t.led=led
 pl:t.plain=true
theorem Tp.fits {t:A7} {es:Array (Int×yH)} (T:Tp t (es.toList.map (·.1))) (h:es.size≤t.mask):t.fits es.size=true:=by
 have h1:=T.sz
 have h3:=T.dm
 simp at h1
 unfold FR Ej
 rw[h3]
 simp
 omega
theorem Tp.full {t:A7} {es:Array (Int×yH)} (T:Tp t (es.toList.map (·.1))):t.tooFull=decide (es.size*5≥t.mask*3):=by
 have h1:=T.sz
 simp at h1
 unfold SetTable.tooFull Ej
 rw[T.dm,h1]
 simp
theorem tt {es:Array (Int×yH)} {order:Array Nat} (h:order.toList.Perm (Aj es.size)):(order.filterMap (es[·]?)).toList=order.toList.map fun i=>es.toList.getD i (0,.none):=by
 rw[Array.toList_filterMap]
 have:∀i∈order.toList,i< es.size:=fun i hi=>by have:=h.mem_iff.mp hi;simpa using this
 generalize order.toList=l at this
 clear h
 induction l with
 | nil=>rfl
 | cons i l ih =>
  have hi:=this i (zk ..)
  rw[Bh,zl hi,zY,ih fun j hj=>this j (zh _ hj)]
  congr 1
  rw[A2,yM (by simpa using hi)]
  rfl
theorem jh {α:Type} (l:List α) (d:α):(Aj l.length).map (fun i=>l.getD i d)=l:=by
 apply Al
 intro i
 rw[yT]
 by_cases z:i< l.length
 ·rw[Ed z,yM z]
  simp[A2,z]
 ·rw[zT (by simpa using z),zT (by simpa using z)];rfl
theorem TupsOf.order {h:Heap} {es:List (Int×yH)} {ks:List (List K)} (U:TupsOf knd h es ks) {l:List Nat} (hl:l.Perm (Aj es.length)):TupsOf knd h (l.map fun i=>es.getD i (0,.none)) (l.map fun i=>ks.getD i []):=by
 refine⟨by simp,fun i e he=>?_⟩
 rw[yT]at he
 obtain⟨j,hj,e1⟩:=zM.mp he
 have hlt:j< es.length:=by have:=hl.mem_iff.mp (zr hj);simpa using this
 obtain⟨k,b,q1,q2,q3,q4⟩:=U.at_ j es[j] (yM hlt)
 have e2:e=es[j]:=by rw[←e1,A2,yM hlt];rfl
 subst e2
 refine⟨k,b,?_,q2,q3,q4⟩
 rw[yT,hj]
 simp[A2,q1]
theorem qI {a:Addr} {o:Obj} {es es1:Array (Int×yH)} {ep n:Nat} {t t1:A7} {led:Bool} {ks1:List (List K)} (ho:s.heap.get? a=some o) (hex:o.ExactSet) (hd:o.data=.set es ep t) (T1:Tp t1 (es1.toList.map (·.1))) (U1:TupsOf knd s.heap es1.toList ks1) (nd1:ks1.Nodup) (hl:t1.led=led) (hpl:t1.plain=true) (hn:es1.size=n) (h0:0< n) (h63:n≤1000) (hr:(n- 1)*5< t1.mask*3) {Q:Bool→yK→Prop}
  (h:∀h' ks' o' es' ep' t',zC a s.heap h'→SetT knd h' a led ks' o' es' ep' t'→ks'.Perm ks1→es'.toList.Perm es1.toList→Q true {s with heap:=h'}):
  wpAny (model prog w) A (do
    storeSet a es1 t1
    if(!false && t1.tooFull)=true then setRelay a (BK n)
    pure true) Q E s:=by
 have put:∀(s:yK) (o:Obj) es ep t (es':Array (Int×yH)) (t':A7),s.heap.get? a=some o→o.data=.set es ep t→(s.heap.update a (D7 es' t')).get? a=some {o with data:=.set es' (ep+1) t'} :=fun s o es ep t es' t' ho hd=>by
  have:=AF (D7 es' t') ho (by rw[putSet_of es' t' hd];rfl)
  rw[putSet_of es' t' hd]at this;exact this
 have big:1000≤sizeLine:=by rw[zN];omega
 have mk:=T1.msk
 refine yF (EJ ho hd ?_ (by omega))
 have ho1:=put s o es ep t es1 t1 ho hd
 have sb1:=Aa s.heap a (D7 es1 t1)
 have U2:=U1.keep ho hd sb1
 rw[T1.full]
 by_cases z:es1.size*5≥t1.mask*3
 ·rw[decide_eq_true z,if_pos (by rfl)]
  unfold setRelay
  refine yF (yF (Am ho1 rfl (T1.fits (by rcases mk with y | y | y | y | y <;> omega)) ?_))
  dsimp only
  have hw:C5 (BK n)≤2048∧isMask (C5 (BK n)- 1)∧n*5< (C5 (BK n)- 1)*3:=by
   rcases mk with y | y | y | y | y
   ·have:n=5:=by omega
    subst this;exact⟨by decide,.inr (.inl (by decide)),by decide⟩
   ·have:n=19:=by omega
    subst this;exact⟨by decide,.inr (.inr (.inl (by decide))),by decide⟩
   ·have:n=77:=by omega
    subst this;exact⟨by decide,.inr (.inr (.inr (.inl (by decide)))),by decide⟩
   ·have:n=307:=by omega
    subst this;exact⟨by decide,.inr (.inr (.inr (.inr (by decide)))),by decide⟩
   ·omega
  rw[if_neg (by have:=hw.1;rw[zN];omega)]
  obtain⟨t2,order,e2,m2,l2,p2,pm,T2⟩:=tq hw.2.1 (hs:=es1.map (·.1)) (by simp;omega) t1.finger (t1.movedTo (C5 (BK n)- 1)) t1.led t1.plain
  have er:t1.relaid (es1.map (·.1)) (BK n)=some (t2,order):=e2
  have pm':order.toList.Perm (Aj es1.size):=by simpa using pm
  have fm:=tt (es:=es1) pm'
  have fs:(order.filterMap (es1[·]?)).size=es1.size:=by
   rw[←zm,fm,ze,pm'.length_eq,List.length_range]
  rw[er]
  have key:∀(f:Array (Int×yH)→Option (A7×Array Nat)→Sem (Array (Int×yH)×A7)) (R:(Array (Int×yH)×A7)→yK→Prop) (s:yK),(∀es l,f es l=(do
     let some (t,order):=l | unsupported "internal:set-table-without-room"
     let es':=order.filterMap (es[·]?)
     if es'.size != es.size then unsupported "internal:set-table-lost-an-element"
     pure (es',t)))→R (order.filterMap (es1[·]?),t2) s→wpAny (model prog w) A (f es1 (some (t2,order))) R E s:=fun f R s hf hR=>by
   rw[hf]
   dsimp only
   rw[if_neg (by rw[fs];simp)]
   exact yJ hR
  refine yF (key _ _ _ (fun _ _=>rfl) ?_)
  dsimp only
  refine EJ ho1 rfl ?_ (by rw[fs];omega)
  have ho2:=put {s with heap:=s.heap.update a (D7 es1 t1)} _ _ _ _ (order.filterMap (es1[·]?)) t2 ho1 rfl
  have sb2:=Aa (s.heap.update a (D7 es1 t1)) a (D7 (order.filterMap (es1[·]?)) t2)
  have U3:=U2.order (l:=order.toList) (by simpa using pm')
  rw[←fm]at U3
  have U4:=U3.keep ho1 rfl sb2
  have pk:(order.toList.map fun i=>ks1.getD i []).Perm ks1:=by
   have:=pm'.map (fun i=>ks1.getD i [])
   have hl:es1.size=ks1.length:=by have:=U1.len;simpa using this
   rw[hl,jh]at this
   exact this
  have pe:(order.filterMap (es1[·]?)).toList.Perm es1.toList:=by
   rw[fm]
   have:=pm'.map (fun i=>es1.toList.getD i (0,A1))
   have hl:es1.size=es1.toList.length:=by simp
   rw[hl,jh]at this
   exact this
  refine yJ (h _ _ _ _ _ _ (sb1.trans sb2) ⟨ho2,hex,rfl,⟨?_,?_⟩,U4,pk.nodup_iff.mpr nd1,by rw[l2];exact hl,by rw[p2];exact hpl⟩ pk pe)
  ·rw[fm,Bq]
   have:((fun x:Int×yH=>x.1) ∘ fun i=>es1.toList.getD i (0,.none))=fun i=>(es1.map (·.1)).toList.getD i 0:=funext fun i=>by
    simp only[Function.comp,A2,EZ,yT]
    cases es1.toList[i]? <;> rfl
   rw[this]
   exact T2
  ·rw[ze,zm,fs,m2]
   have:=hw.2.2
   omega
 ·rw[decide_eq_false z,if_neg (by decide)]
  refine yJ (h _ _ _ _ _ _ sb1 ⟨ho1,hex,rfl,⟨T1,by simp;omega⟩,U2,nd1,hl,hpl⟩ (.refl _) (.refl _))
theorem tu {a x:Addr} {o:Obj} {es:Array (Int×yH)} {ep:Nat} {t:A7} {led:Bool} {ks:List (List K)} {kx:List K} (hu:A.units< cLine) (S:SetT knd s.heap a led ks o es ep t) (hn:es.size< 1000) (hx:AY knd s.heap kx x) (hI:∀k∈kx,∀v,knd.is k v=true→∃i t,v=.int i t)
  {Q:Bool→yK→Prop} {fuel:Nat}
  (h1:kx∈ks→Q false s) (h2:kx∉ks→∀h' ks' o' es' ep' t',zC a s.heap h'→SetT knd h' a led ks' o' es' ep' t'→ks'.Perm (kx::ks)→es'.toList.Perm ((tupleKeyHash knd kx,.ref x)::es.toList)→Q true {s with heap:=h'}):
  wpAny (model prog w) A (setAddHashedIn a (.ref x) (tupleKeyHash knd kx) (fuel+1)) Q E s:=by
 unfold setAddHashedIn
 refine yF (Am S.at_ S.dat S.tab.fits ?_)
 dsimp only
 rw[if_neg (by unfold byScan;simp[Value.scannable])]
 obtain⟨G,g1,g2,g3⟩:=S.tab.gap (qB t (tupleKeyHash knd kx))
 have mem:∀i,i< es.size→ks[i]? =some kx→∃k,k< G∧t.place.getD i 0=(itM t.mask k (t.probeStart (tupleKeyHash knd kx))).j:=fun i hi z=>by
  have hi':i< es.toList.length:=by simpa using hi
  obtain⟨k,b,q1,q2,q3,q4⟩:=S.tup.at_ i es.toList[i] (yM hi')
  rw[q1]at z
  cases z
  obtain⟨n,r1,r2⟩:=S.tab.reach i (tupleKeyHash knd kx) (by rw[yT,yM hi',←q4];rfl)
  refine⟨n,?_,r1.symm⟩
  by_cases y:n< G
  ·exact y
  ·by_cases y2:n=G
   ·subst y2
    refine absurd ?_ g2
    rw[r1]
    exact⟨i,by have:=S.tab.sz;simp at this;omega,rfl⟩
   ·exact absurd (r2 G (by omega)) g2
 refine yF ?_
 unfold setSearch
 have ht:t.mask≤2047:=by rcases S.tab.msk with z | z | z | z | z <;> omega
 refine lP (knd:=knd) hu S.at_ S.dat S.tab S.tup hx (fun l Q hl h=>qG hx l (fun y hy=>?_) h) 100000 G none rfl (by unfold Ae at g1;omega) g1 g2 g3 ?_ ?_
 ·obtain⟨e,he,rfl⟩:=hl y hy
  obtain⟨i,hi,rfl⟩:=Au.mp he
  obtain⟨k,b,q1,q2,q3,q4⟩:=S.tup.at_ i es.toList[i] (yM hi)
  exact⟨k,b,q2,q3⟩
 ·rintro ⟨k,i,_,_,hq⟩
  exact yJ (h1 (zr hq))
 ·intro hall
  have nin:kx∉ks:=fun hm=>by
   obtain⟨i,hi,e⟩:=Au.mp hm
   have hi':i< es.size:=by have:=S.tup.len;simp at this;omega
   have hq:ks[i]? =some kx:=by rw[yM hi,e]
   obtain⟨k,q1,q2⟩:=mem i hi' hq
   exact hall k i q1 q2 hi' hq
  refine yF (Am S.at_ S.dat S.tab.fits ?_)
  dsimp only
  have jle:(itM t.mask G (t.probeStart (tupleKeyHash knd kx))).j≤t.mask:=ux (m:=t.mask) (h:=tupleKeyHash knd kx) G
  obtain⟨p1,p2,p3⟩:=S.tab.put g2 jle g3
  have led1:(t.put (itM t.mask G (t.probeStart (tupleKeyHash knd kx))).j).1.led=t.led:=rfl
  simp only[Du]
  generalize hP:t.put (itM t.mask G (t.probeStart (tupleKeyHash knd kx))).j=P at*
  obtain⟨t1,p⟩:=P
  dsimp only at p1 p2 p3 led1
  have hp:p≤es.size:=by simpa using p1
  have il:=iC es p (tupleKeyHash knd kx,A4 x)
  have T1:Tp t1 ((Ad es p (tupleKeyHash knd kx,A4 x)).toList.map (·.1)):=by
   rw[il,List.map_append,zY,List.map_take,List.map_drop];exact p3
  have U1:TupsOf knd s.heap (Ad es p (tupleKeyHash knd kx,A4 x)).toList (ks.take p++kx::ks.drop p):=by
   have hlen:=S.tup.len
   have hp2:p≤ks.length:=by simp at hlen;omega
   rw[il]
   refine⟨by simp[hlen],fun i e he=>?_⟩
   have l1:(es.toList.take p).length=p:=by simp;omega
   have l2:(ks.take p).length=p:=by simp;omega
   by_cases z:i< p
   ·rw[zc (by omega),zL z]at he
    obtain⟨k,b,q⟩:=S.tup.at_ i e he
    exact⟨k,b,by rw[zc (by omega),zL z];exact q.1,q.2⟩
   ·rw[zd (by omega),l1]at he
    rw[zd (by omega),l2]
    by_cases y:i=p
    ·rw[y,Cj,As]at he ⊢
     cases he
     exact⟨kx,x,rfl,rfl,hx,rfl⟩
    ·rw[show i- p=(i- p- 1)+1 by omega,Ar,zZ]at he ⊢
     exact S.tup.at_ _ e he
  have pk:(ks.take p++kx::ks.drop p).Perm (kx::ks):=F0.trans (.cons kx (by rw[DT]))
  have nd1:(ks.take p++kx::ks.drop p).Nodup:=pk.nodup_iff.mpr (AB.mpr ⟨nin,S.nd⟩)
  have room:=S.tab.room
  have pl1:t1.plain=true:=by have:=S.pl;rw[←this];have e:=congrArg (fun z:A7×Nat=>z.1.plain) hP;exact e.symm
  rw[if_pos pl1]
  refine yF (qH hI hx ?_)
  exact qI S.at_ S.ex S.dat T1 U1 nd1 (led1.trans S.led) pl1 (dB es hp _) (by omega) (by omega) (by rw[p2];simpa using room) fun h' ks' o' es' ep' t' a1 a2 a3 a4=>h2 nin h' ks' o' es' ep' t' a1 a2 (a3.trans pk) (a4.trans (by rw[il];exact F0.trans (.cons _ (by rw[DT]))))
end
end Wb
namespace Wb
open PySem PySem.W PySem.Calls PyProof.Rows
theorem sl_next:Slot "set_iterator" "__next__" "set_iterator.__next__" :=
 .of (owner:="set_iterator") (n:="__next__") (by rw[Fh,DU];kernel_rfl) (by decide +kernel) (by decide +kernel) (by decide +kernel)
  (by first | exact .inl (by decide +kernel) | exact .inr (by decide +kernel)) (by rw[E7];kernel_rfl)
theorem ng:Slot "set_iterator" "__iter__" "set_iterator.__iter__" :=
 .of (owner:="set_iterator") (n:="__iter__") (by rw[Fh,DU];kernel_rfl) (by decide +kernel) (by decide +kernel) (by decide +kernel)
  (by first | exact .inl (by decide +kernel) | exact .inr (by decide +kernel)) (by rw[E7];kernel_rfl)
theorem nh:entryFor table "set_iterator.__next__" =some BB.«set_iterator.__next__» :=entryFor_of_tree (by kernel_rfl)
theorem tx:entryFor table "set_iterator.__iter__" =some BB.«dict_keyiterator.__iter__» :=Fy (id':="dict_keyiterator.__iter__") (by kernel_rfl) rfl (by decide +kernel) (by kernel_rfl)
theorem vp:entryFor table "set.__iter__" =some BB.«frozenset.__iter__» :=Fy (id':="frozenset.__iter__") (by kernel_rfl) rfl (by decide +kernel) (by kernel_rfl)
theorem ni:Manifest.owners.lookup (String.ofList ['r','o','t','a','r','e','t','i','_','t','e','s'].reverse)=some Manifest.sig_set_iterator:=by kernel_rfl
theorem nj (a:yH):argsOk "set_iterator.__next__" ⟨[a],[]⟩:=by
 unfold argsOk;rw[FT (id:="set_iterator.__next__") (n:=['_','_','t','x','e','n','_','_']) (o:=['r','o','t','a','r','e','t','i','_','t','e','s']) (by kernel_rfl) ni];kernel_rfl
theorem tz (a:yH):argsOk "set_iterator.__iter__" ⟨[a],[]⟩:=by
 unfold argsOk;rw[FT (id:="set_iterator.__iter__") (n:=['_','_','r','e','t','i','_','_']) (o:=['r','o','t','a','r','e','t','i','_','t','e','s']) (by kernel_rfl) ni];kernel_rfl
theorem iD {α:Type} :∀(l:List α) (i:Nat) (h:i< l.length),(l[i]::l.eraseIdx i).Perm l
 | a::l,0,_=>.refl _
 | a :: l, i + 1, h => by
  have h2:i< l.length:=by simpa using h
  exact(List.Perm.swap a l[i] (l.eraseIdx i)).trans (.cons a (iD l i h2))
theorem ji {α:Type} (next:Nat→Nat):∀(fuel k:Nat) (left:List α) (out:Array α),fuel=left.length→(EK next fuel k left out).toList.Perm (out.toList++left)
 | 0, k, left, out, h => by
  have:left=[]:=Bj.mp h.symm
  subst this
  unfold EK
  simp
 | fuel + 1, k, left, out, h => by
  unfold EK
  have hl:next k% left.length< left.length:=D5 _ (by omega)
  rw[yM hl]
  dsimp only
  refine(ji next fuel (k+1) _ _ (by rw[CG];simp[hl];omega)).trans ?_
  rw[AR,zj]
  refine Ab _ ?_
  exact iD left _ hl
def cY (w:zt) (a:Addr) (ep:Nat) (es:Array (Int×yH)):Array (Int×yH):=if w.params.followText "set-order" =true then pickOrder (w.params.setOrder a ep) es else es
theorem fX (w:zt) (a:Addr) (ep:Nat) (es:Array (Int×yH)):(cY w a ep es).toList.Perm es.toList:=by
 unfold cY
 split
 ·have:=ji (w.params.setOrder a ep) es.size 0 es.toList #[] (by simp)
  simp only[C2]at this
  exact this
 ·exact .refl _
def bO (w:zt) (t:A7) (i:Nat):Int:=if w.params.followText "set-order" =true then 0 else if i=0 then 0 else(t.place.getD (i- 1) 0:Int)+1
theorem lQ {w:zt} {t:A7} {hs:List Int} (T:Tp t hs) (hb:¬w.params.followText "set-order" =true) {i:Nat} (hi:i≤t.place.size):A6 t.place (bO w t i).toNat=i:=by
 obtain⟨b0,b1,b2⟩:=fU T.up (bO w t i).toNat
 generalize hB:A6 t.place (bO w t i).toNat=b at*
 have e:(bO w t i).toNat=if i=0 then 0 else t.place.getD (i- 1) 0+1:=by
  unfold bO;rw[if_neg hb];split <;> omega
 rw[e]at b1 b2
 by_cases z:i=0
 ·rw[if_pos z]at b1
  by_cases y:b=0
  ·omega
  ·have:=b1 0 (by omega);omega
 ·rw[if_neg z]at b1 b2
  by_cases y:b< i
  ·have:=b2 (i- 1) (by omega) (by omega)
   omega
  ·by_cases y2:i< b
   ·have h1:=b1 i y2
    have h2:=T.up (i- 1) i (by omega) (by omega)
    omega
   ·omega
def iE (w:zt) (a:Addr) (t:A7) (n ep i:Nat):Obj:={cls:=.type "set_iterator",dict:=none,data:=.fields #[.int (bO w t i) 0,.int i 0,.ref a,.int n 0,.int ep 0],slots:= #[]}
section
variable {prog:zf} {w:zt} {A:zP} {E:yH→yK→Prop} {s:yK} {a I:Addr} {o:Obj} {es:Array (Int×yH)} {ep:Nat} {t:A7}
theorem kT {i:Nat} {Q:Option (yH×Nat)→yK→Prop} (ho:s.heap.get? a=some o) (hd:o.data=.set es ep t) (T:Tp t (es.toList.map (·.1))) (hf:t.fits es.size=true) (hl:t.led= !w.params.followText "set-order") (hp:t.plain=true) (hi:i≤es.size)
  (h:Q (((cY w a ep es)[i]?).map fun e=>(e.2,(bO w t (i+1)).toNat)) s):wpAny (model prog w) A (setNext a (bO w t i).toNat i ep) Q E s:=by
 have hsz:t.place.size=es.size:=by have:=T.sz;simpa using this
 unfold setNext
 refine yF (Am ho hd hf ?_)
 dsimp only
 unfold setsByText
 refine yF (yF (Bm (yJ ?_)))
 show wpAny (model prog w) A (if w.params.followText "set-order" =true then _ else _) Q E s
 by_cases z:w.params.followText "set-order" =true
 ·rw[if_pos z,if_neg (by simp)]
  unfold setWalk
  refine yF (yF (Am ho hd hf ?_))
  dsimp only
  unfold setsByText
  refine yF (yF (Bm (yJ ?_)))
  show wpAny (model prog w) A (if w.params.followText "set-order" =true then _ else _) _ E s
  rw[if_pos z]
  refine yF (Bm (yJ (yJ ?_)))
  unfold cY bO at h
  rw[if_pos z,if_pos z]at h
  unfold bO
  rw[if_pos z]
  exact h
 ·rw[if_neg z]
  refine CO (fun hab=>absurd hab (show ¬((!t.plain && decide (es.size> 1))=true) by rw[hp];simp)) (fun _=>?_)
  show wpAny _ _ ((if(!t.led && !es.isEmpty)=true then unsupported _ else pure ()) >>= _) _ _ _
  rw[if_neg (by rw[hl];simp[z])]
  refine yF (yJ ?_)
  rw[lQ T z (by omega)]
  unfold cY at h
  rw[if_neg z]at h
  by_cases y:i< es.size
  ·have y2:i< t.place.size:=by omega
   rw[zl y]at h ⊢
   rw[zl y2]
   have e:(bO w t (i+1)).toNat=t.place[i]+1:=by
    unfold bO
    rw[if_neg z,if_neg (by omega),show i+1- 1=i by omega]
    have:t.place.getD i 0=t.place[i]:=by simp[AS,y2]
    omega
   simp only[Bv,e]at h
   exact yJ h
  ·rw[Br (by omega)]at h ⊢
   exact yJ h
end
section
variable {prog:zf} {w:zt} {A:zP} {E:yH→yK→Prop} {s:yK} {a I:Addr} {o:Obj} {es:Array (Int×yH)} {ep:Nat} {t:A7}
theorem iF {n i:Nat} (h:s.heap.get? I=some (iE w a t n ep i)):s.TypeIs (.ref I) "set_iterator" :=⟨_,h,rfl⟩
structure SetR (w:zt) (o:Obj) (es:Array (Int×yH)) (ep:Nat) (t:A7):Prop where
 ex:o.ExactSet
 dat:o.data=.set es ep t
 tab:Tb t (es.toList.map (·.1))
 led:t.led= !w.params.followText "set-order"
 pl:t.plain=true
theorem qJ {Q:yH→yK→Prop} (R:SetR w o es ep t) (ho:s.heap.get? a=some o) (h:Q (.ref s.heap.objs.size) {s with heap:=s.heap.push (iE w a t es.size ep 0)}):wpAny (model prog w) A (pyIter (.ref a)) Q E s:=by
 have hT:s.TypeIs (.ref a) "set" :=⟨o,ho,R.ex.1⟩
 refine Ck hT Fi (zH Fi hT vp ?_ (F.args_set_iter_1 _))
 unfold BB.«frozenset.__iter__»
 refine yF (m:=G1 _ _) (yJ ?_)
 unfold FU
 refine yF (yF (CT ho R.dat R.tab.fits (yJ ?_)))
 unfold setDrawn
 refine yF (yF (Am ho R.dat R.tab.fits ?_))
 dsimp only
 unfold setsByText
 refine yF (yF (Bm (yJ (yJ ?_))))
 refine CO (fun hab=>absurd hab (show ¬((!w.params.followText "set-order" && (!t.plain && decide (es.size> 1)))=true) by rw[R.pl];simp)) (fun _=>?_)
 refine yF (yJ ?_)
 refine yF (wpAny_setEpoch_of ho R.dat R.tab.fits ?_)
 have e0:bO w t 0=0:=by unfold bO;split <;> rfl
 refine yF (Ac (yJ ⟨_,rfl,"set_iterator",_,⟨_,z6 _ rfl,rfl⟩,sl_next.lookup,?_⟩))
 unfold iE at h
 rw[e0]at h
 exact h
theorem oD {i:Nat} {Q:Option yH→yK→Prop} (R:SetR w o es ep t) (ho:s.heap.get? a=some o) (hne:a≠I) (hI:s.heap.get? I=some (iE w a t es.size ep i)) {e:Int×yH} (he:(cY w a ep es)[i]? =some e)
  (h:∀h',h'.get? I=some (iE w a t es.size ep (i+1))→zC I s.heap h'→Q (some e.2) {s with heap:=h'}):wpAny (model prog w) A (pyNext (.ref I)) Q E s:=by
 have hsz:(cY w a ep es).size=es.size:=by have:=(fX w a ep es).length_eq;simpa using this
 have hi:i< es.size:=by have:=(Az.mp he).1;omega
 have hT:=iF hI
 unfold pyNext
 refine yF (Bw (zU (name:=yO "__next__") hT sl_next
  (zH sl_next hT nh ?_ (nj _))))
 unfold BB.«set_iterator.__next__»
 refine yF (m:=slotArgs _ _ _) (yJ ?_)
 refine yF (D8 hI rfl ?_)
 dsimp only
 refine yF (CT ho R.dat R.tab.fits ?_)
 rw[if_neg (by simp)]
 show wpAny _ _ (setNext a (bO w t i).toNat ((i:Int).toNat) ((ep:Int).toNat) >>= _) _ _ _
 rw[A3,A3]
 refine yF (kT ho R.dat R.tab.toTp R.tab.fits R.led R.pl (by omega) ?_)
 rw[he]
 dsimp only[Bv]
 refine yF (Bk hI rfl (by simp) ?_)
 have hI1:=AF (Dq (·.setIfInBounds 0 (rawInt ((bO w t (i+1)).toNat:Int)))) hI rfl
 refine yF (Bk hI1 rfl (by simp) ?_)
 have hI2:=AF (Dq (·.setIfInBounds 1 (rawInt ((i:Int)+1)))) hI1 rfl
 refine yJ ⟨_,rfl,yJ (h _ (hI2.trans ?_) ((Aa ..).trans (Aa ..)))⟩
 have e1:((bO w t (i+1)).toNat:Int)=bO w t (i+1):=by unfold bO;split <;> (try split) <;> omega
 rw[e1]
 rfl
theorem qK {Q:Option yH→yK→Prop} (hh:A.handled=none) (R:SetR w o es ep t) (ho:s.heap.get? a=some o) (hne:a≠I) (hI:s.heap.get? I=some (iE w a t es.size ep es.size))
  (h:∀h',Dg I s.heap h'→Q none {s with heap:=h'}):wpAny (model prog w) A (pyNext (.ref I)) Q E s:=by
 have hsz:(cY w a ep es).size=es.size:=by have:=(fX w a ep es).length_eq;simpa using this
 have hT:=iF hI
 unfold pyNext
 refine yF (Bw (zU (name:=yO "__next__") hT sl_next
  (zH sl_next hT nh ?_ (nj _))))
 unfold BB.«set_iterator.__next__»
 refine yF (m:=slotArgs _ _ _) (yJ ?_)
 refine yF (D8 hI rfl ?_)
 dsimp only
 refine yF (CT ho R.dat R.tab.fits ?_)
 rw[if_neg (by simp)]
 show wpAny _ _ (setNext a (bO w t es.size).toNat ((es.size:Int).toNat) ((ep:Int).toNat) >>= _) _ _ _
 rw[A3,A3]
 refine yF (kT ho R.dat R.tab.toTp R.tab.fits R.led R.pl (by omega) ?_)
 rw[Br (by omega)]
 dsimp only[Option.map_none]
 refine yF (Bk hI rfl (by simp) ?_)
 show wpAny _ _ (newExc (.type "StopIteration") [] >>= _) _ _ _
 refine yF ?_
 simp only[newExc,newTuple]
 refine yF (Ac ?_ (by size_fits))
 refine yF (m:=firstArgMember _ _) (E4 (a:=A1) (by first | rfl | (simp only[firstArgMember];rfl)) ?_)
 refine Ac ?_ (by size_fits)
 simp only[raiseNew]
 refine yF (Eg ?_)
 rw[show A.in1.handled=none from hh]
 refine yF (yJ (F9 ?_))
 refine yF (BO (T:="StopIteration") (b:=true) ⟨_,z6 _ rfl,rfl⟩ D3 ?_)
 exact yJ (h _ (((Aa ..).extBut.push _).push _))
theorem Walks.setOf (hh:A.handled=none) (I a:Addr) (hne:a≠I) (R:SetR w o es ep t):
  Walks prog w A I [I,a] [I] es.size (fun i v=>∃e,(cY w a ep es)[i]? =some e∧v=e.2) (fun i h=>h.get? I=some (iE w a t es.size ep i)∧h.get? a=some o) where
 sub:=fun b hb=>by simp at hb;simp[hb]
 frame:=fun _ _ _ st hk=>⟨hk I (by simp) _ st.1,hk a (by simp) _ st.2⟩
 item:=fun i s Q E hi st hQ=>by
  have hsz:(cY w a ep es).size=es.size:=by have:=(fX w a ep es).length_eq;simpa using this
  have he:(cY w a ep es)[i]? =some (cY w a ep es)[i]:=zl (by omega)
  refine oD R st.2 hne st.1 he fun h' hI' hs'=>?_
  exact hQ _ h' s.toks ⟨_,he,rfl⟩ ⟨hI',hs'.extBut a _ hne st.2⟩ fun b o hb e=>hs'.extBut b o (fun h=>hb (by simp[h])) e
 done:=fun s Q E st hQ=>qK hh R st.2 hne st.1 fun h' he'=>hQ h' s.toks fun b o hb e=>he' b o (fun h=>hb (by simp[h])) e
 self:=fun i s Q E st hQ=>by
  refine Ck (iF st.1) ng (zH ng (iF st.1) tx ?_ (tz _))
  show wpAny _ _ (ret (.ref I)) _ _ s
  exact yJ ⟨_,rfl,"set_iterator",_,iF st.1,sl_next.lookup,hQ⟩
theorem qL {Q:Bool→yK→Prop} (hT:s.TypeIs (.ref a) "set") (h:Q false s):wpAny (model prog w) A (CV (.ref a)) Q E s:=by
 unfold CV
 refine yF (DL hT F.slot_set_len.lookup ?_)
 generalize hid:("set.__len__" :String)=id0
 wp_delta
 rw[show splitId id0=some ("set","__len__")from by subst hid;decide +kernel]
 subst hid
 refine yF (BO (T:="set") (b:=true) hT (by rw[E7];kernel_rfl) ?_)
 refine CO (fun hab=>absurd hab (by decide)) (fun _=>?_)
 refine CO (fun _=>?_) (fun hab=>absurd (by decide +kernel) hab)
 refine yF (wpAny_typeOf hT ?_)
 exact yJ h
theorem tD (R:SetR w o es ep t):KdlSrc prog w "set" a a es.size (fun i v=>∃e,(cY w a ep es)[i]? =some e∧v=e.2) (fun h=>h.get? a=some o) where
 type:=fun _ hm=>⟨o,hm,R.ex.1⟩
 there:=fun _ hm=>⟨yW hm,yW hm⟩
 keep:=fun _ _ hm hk=>hk a (.inl rfl) o hm
 notList:=by decide
 notTuple:=by decide
 hint:=fun _ _ _ _ hm hq=>qL ⟨o,hm,R.ex.1⟩ hq
 iter:=fun _ _ hh hm=>⟨_,_,(fun _ _ hq=>qJ R hm hq),Walks.setOf hh _ a (zg (yW hm)) R,⟨z6 _ rfl,yN _ hm⟩⟩
end
def PairAt (h:Heap) (v:yH) (k:Int×Int):Prop:=∃b o t1 t2 n,v=.ref b∧h.get? b=some o∧o.cls=.type "tuple" ∧o.data=.seq #[.int k.1 t1,.int k.2 t2] n
def jK (a b:Int×Int):Bool:=decide (a.1< b.1) || (decide (a.1=b.1) && decide (a.2< b.2))
theorem fY {a b:Int×Int} :jK a b=true↔a.1< b.1∨(a.1=b.1∧a.2< b.2):=by unfold jK;simp
theorem vq {a b c:Int×Int} (h:jK a b=true) (h':jK b c=true):jK a c=true:=by rw[fY]at *;omega
theorem tE {a b:Int×Int} (hn:a≠b) (h:jK a b=false):jK b a=true:=by
 have h2:¬jK a b=true:=by rw[h];decide
 rw[fY]at h2
 rw[fY]
 by_cases z:a.1=b.1
 ·have:a.2≠b.2:=fun e=>hn (D4 z e)
  omega
 ·omega
theorem nk (a:Int×Int):jK a a=false:=by unfold jK;simp
structure PairsAt (h:Heap) (vs:List yH) (ks:List (Int×Int)):Prop where
 len:vs.length=ks.length
 at_:∀(i:Nat) (v:yH),vs[i]? =some v→∃k,ks[i]? =some k∧PairAt h v k
section
variable {prog:zf} {w:zt} {A:zP} {E:yH→yK→Prop} {s:yK}
theorem tF {x y:yH} {k l:Int×Int} {Q:Bool→yK→Prop} (hx:PairAt s.heap x k) (hy:PairAt s.heap y l) (h:Q (jK k l) s):wpAny (model prog w) A (keyLt' (tuples' true) x y) Q E s:=by
 obtain⟨bx,ox,t1,t2,n,rfl,hx,_,dx⟩:=hx
 obtain⟨by_,oy,u1,u2,m,rfl,hy,_,dy⟩:=hy
 refine kat_lt hx dx hy dy (kat_cons (Dt (kat_go (fun e=>kat_yes (kat_cons (Dt (kat_go (fun e'=>kat_yes (kat_nil ?_)) fun e'=>kat_no (kat_one _ _ (lt_int ?_)))))) fun e=>kat_no (oneLt_int ?_))))
 ·have e1:k.1=l.1:=by simpa using e
  have e2:k.2=l.2:=by simpa using e'
  have:k=l:=D4 e1 e2
  subst this
  rw[nk]at h
  simpa using h
 ·have e1:k.1=l.1:=by simpa using e
  show Q (decide (k.2< l.2)) s
  unfold jK at h
  simpa [e1] using h
 ·have e1:¬k.1=l.1:=by simpa using e
  unfold jK at h
  simpa [e1] using h
theorem nl {h:Heap} :∀{vs:List yH} {ks:List (Int×Int)},PairsAt h vs ks→∃fs,fs.length=vs.length∧KatTups h vs fs∧∀f∈fs,∃i t,f=Ds i t
 | [],ks,P=>⟨[],rfl,trivial,fun f hf=>by cases hf⟩
 | v :: vs, ks, P => by
  obtain⟨k,q1,b,o,t1,t2,n,rfl,q3,q4,q5⟩:=P.at_ 0 v rfl
  obtain⟨fs,l1,l2,l3⟩:=nl (h:=h) (vs:=vs) (ks:=ks.drop 1) ⟨by have:=P.len;simp at this ⊢;omega,fun i v e=>by
   obtain⟨k,a1,a2⟩:=P.at_ (i+1) v (by simpa using e)
   exact⟨k,by rw[zZ,Nat.add_comm];exact a1,a2⟩⟩
  refine⟨.int k.1 t1::fs,by simp[l1],.cons q3 q4 q5 (by simp) l2,fun f hf=>?_⟩
  rcases zq.mp hf with rfl | hf
  ·exact⟨_,_,rfl⟩
  ·exact l3 f hf
end
end Wb
namespace Wb
open PySem PyProof.Rows
abbrev at' (xs:Array z5) (i:Nat):z5:=xs.getD i (A1,A1)
structure LtOk (M:DJ) (A:zP) (E:yH→yK→Prop) (s:yK) (κ:CJ) (U:z5→Prop) (L:z5→z5→Bool):Prop where
 lt:∀(x y:z5) (st:Ak) (Q:Option Bool→Ak→Prop),U x→U y→kindOf st=κ→Q (some (L x y)) st→wpS M A E s (lt' x y) Q st
 tr:∀x y z,U x→U y→U z→L x y=true→L y z=true→L x z=true
 tot:∀x y,U x→U y→x≠y→L x y=false→L y x=true
 irr:∀x,L x x=false
structure SB (κ:CJ) (a0:List z5) (st:Ak):Prop where
 kind:kindOf st=κ
 failed:failedOf st=none
 perm:(arrOf st).toList.Perm a0
def Sr (L:z5→z5→Bool) (xs:Array z5) (a b:Nat):Prop:=∀i j,a≤i→i< j→j< b→L (at' xs i) (at' xs j)=true
theorem cT {xs:Array z5} {i:Nat} (h:i< xs.size):xs[i]? =some (at' xs i):=by simp[AS,h]
theorem dL {xs:Array z5} {i:Nat} (h:i< xs.size):at' xs i=xs.toList[i]'(by simpa using h):=by simp[AS,h]
section
variable {M:DJ} {A:zP} {E:yH→yK→Prop} {s:yK} {κ:CJ} {U:z5→Prop} {L:z5→z5→Bool} {a0:List z5} {st:Ak}
theorem SB.size (B:SB κ a0 st):(arrOf st).size=a0.length:=by rw[←zm];exact B.perm.length_eq
theorem SB.u (B:SB κ a0 st) (hU:∀x∈a0,U x) {i:Nat} (hi:i< a0.length):U (at' (arrOf st) i):=by
 have h:=B.size
 rw[dL (by omega)]
 exact hU _ (B.perm.mem_iff.mp (AG _))
theorem wC {xs:Array z5} (nd:xs.toList.Nodup) {i j:Nat} (hi:i< xs.size) (hj:j< xs.size) (hij:i≠j):at' xs i≠at' xs j:=by
 rw[dL hi,dL hj]
 have pw:=AE.mp (zO.mp nd)
 rcases Nat.lt_or_gt_of_ne hij with z | z
 ·exact pw i j _ _ z
 ·exact fun e=>pw j i _ _ z e.symm
theorem SB.ne (B:SB κ a0 st) (nd:a0.Nodup) {i j:Nat} (hi:i< a0.length) (hj:j< a0.length) (hij:i≠j):at' (arrOf st) i≠at' (arrOf st) j:=by
 have h:=B.size
 exact wC (B.perm.nodup_iff.mpr nd) (by omega) (by omega) hij
theorem SB.set (B:SB κ a0 st) {xs:Array z5} (h:xs.Perm (arrOf st)):SB κ a0 (setArr st xs):=⟨B.kind,B.failed,(Array.perm_iff_toList_perm.mp h).trans B.perm⟩
theorem b9 {arr:Array z5} {i:Nat} {Q:z5→Ak→Prop} (hi:i< arr.size) (h:Q (at' arr i) st):wpS M A E s (elem' arr i) Q st:=by
 rw[elem'_eq,cT hi]
 exact yZ h
theorem fZ (O:LtOk M A E s κ U L) (hU:∀x∈a0,U x) (B:SB κ a0 st) {i j:Nat} {Q:Option Bool→Ak→Prop} (hi:i< a0.length) (hj:j< a0.length) (h:Q (some (L (at' (arrOf st) i) (at' (arrOf st) j))) st):wpS M A E s (ltAt' i j) Q st:=by
 have hs:=B.size
 rw[ltAt'_eq]
 refine yQ (Cm (yQ (b9 (by omega) (yQ (b9 (by omega) ?_)))))
 exact O.lt _ _ _ _ (B.u hU hi) (B.u hU hj) B.kind h
theorem oE {xs:Array z5} {src d:Nat} (hs:src< xs.size) (hd:d≤src) (k:Nat):at' (bubble xs src d) k=if k=src- d then at' xs src else if src- d< k∧k≤src then at' xs (k- 1)else at' xs k:=by
 simp only[at',zG]
 rw[getElem?_bubble hs _ hd]
 split
 ·rfl
 ·split <;> rfl
theorem oF {xs:Array z5} {i j:Nat} (hj:j≤xs.size) (k:Nat):at' (mirror xs i j ((j- i)/ 2)) k=if i≤k∧k< j then at' xs (i+j- 1- k)else at' xs k:=by
 simp only[at',zG]
 rw[getElem?_mirror_all hj]
 split <;> rfl
theorem tG (O:LtOk M A E s κ U L) (hU:∀x∈a0,U x) (nd:a0.Nodup) {lo n ok:Nat} {Q:Bool→Ak→Prop} (hn:lo+n≤a0.length) (hok:ok≤n) (B:SB κ a0 st) (hs:Sr L (arrOf st) lo (lo+ok))
  (h:∀st',SB κ a0 st'→pendingOf st'=pendingOf st→Sr L (arrOf st') lo (lo+n)→(∀i,i< lo∨lo+n≤i→at' (arrOf st') i=at' (arrOf st) i)→Q true st'):wpS M A E s (binarySort' lo n ok) Q st:=by
 rw[binarySort'_eq]
 refine yQ (Bn (A0 (I:=fun k c st'=>c=(none,())∧SB κ a0 st'∧pendingOf st'=pendingOf st∧Sr L (arrOf st') lo (lo+min k n)∧∀i,i< lo∨lo+n≤i→at' (arrOf st') i=at' (arrOf st) i)
  (Q:=fun c st'=>c=(none,())∧SB κ a0 st'∧pendingOf st'=pendingOf st∧Sr L (arrOf st') lo (lo+n)∧∀i,i< lo∨lo+n≤i→at' (arrOf st') i=at' (arrOf st) i) ?step ?fin ?init) ?post)
 case post=>
  rintro c st' ⟨rfl,h1,h2,h3,h4⟩
  exact yZ (h st' h1 h2 h3 h4)
 case init=>
  refine⟨rfl,B,rfl,fun i j h1 h2 h3=>?_,fun i _=>rfl⟩
  exact hs i j h1 h2 (by omega)
 case fin=>
  rintro c st' ⟨hc,h1,h2,h3,h4⟩
  rw[show min (max (max ok 1) n) n=n by omega]at h3
  exact⟨hc,h1,h2,h3,h4⟩
 case step=>
  rintro k c st' hak hkn ⟨rfl,B',hp,hs',hout⟩
  rw[show min k n=k by omega]at hs'
  have hsz:=B'.size
  refine yQ (Bn (A0 (I:=fun x c st''=>st''=st'∧∃l r,c=(none,l,r)∧l≤r∧r≤k∧r- l≤k- x∧
    (∀i,i< l→L (at' (arrOf st') (lo+i)) (at' (arrOf st') (lo+k))=true)∧(∀i,r≤i→i< k→L (at' (arrOf st') (lo+k)) (at' (arrOf st') (lo+i))=true))
   (Q:=fun c st''=>st''=st'∧∃l r,c=(none,l,r)∧l≤k∧
    (∀i,i< l→L (at' (arrOf st') (lo+i)) (at' (arrOf st') (lo+k))=true)∧(∀i,l≤i→i< k→L (at' (arrOf st') (lo+k)) (at' (arrOf st') (lo+i))=true)) ?istep ?ifin ?iinit) ?ipost)
  case iinit=>exact⟨rfl,0,k,rfl,by omega,by omega,by omega,fun i hi=>by omega,fun i h1 h2=>by omega⟩
  case ifin=>
   rintro c st'' ⟨rfl,l,r,rfl,hlr,hrk,hm,hlo,hhi⟩
   have:l=r:=by omega
   subst this
   exact⟨rfl,l,l,rfl,hrk,hlo,hhi⟩
  case istep=>
   rintro x c st'' _ hxk ⟨rfl,l,r,rfl,hlr,hrk,hm,hlo,hhi⟩
   dsimp only
   by_cases hge:l≥r
   ·rw[if_pos hge]
    have:l=r:=by omega
    subst this
    exact yZ ⟨rfl,l,l,rfl,hrk,hlo,hhi⟩
   ·rw[if_neg hge]
    refine yQ (fZ O hU B' (by omega) (by omega) ?_)
    have uu:∀i,i≤k→U (at' (arrOf st'') (lo+i)):=fun i hi=>B'.u hU (by omega)
    cases hless:L (at' (arrOf st'') (lo+k)) (at' (arrOf st'') (lo+(l+r)/ 2))with
    | true =>
     simp only[if_true]
     refine yZ ⟨rfl,l,(l+r)/ 2,rfl,by omega,by omega,by omega,hlo,fun i h1 h2=>?_⟩
     by_cases y:i=(l+r)/ 2
     ·rw[y];exact hless
     ·exact O.tr _ _ _ (uu _ (by omega)) (uu _ (by omega)) (uu _ (by omega)) hless (hs' _ _ (by omega) (by omega) (by omega))
    | false =>
     simp only[zz,if_false]
     have q:=O.tot _ _ (uu _ (by omega)) (uu _ (by omega)) (B'.ne nd (by omega) (by omega) (by omega)) hless
     refine yZ ⟨rfl,(l+r)/ 2+1,r,rfl,by omega,by omega,by omega,fun i h1=>?_,hhi⟩
     by_cases y:i=(l+r)/ 2
     ·rw[y];exact q
     ·exact O.tr _ _ _ (uu _ (by omega)) (uu _ (by omega)) (uu _ (by omega)) (hs' _ _ (by omega) (by omega) (by omega)) q
  case ipost=>
   rintro c st'' ⟨rfl,l,r,rfl,hlk,hlo,hhi⟩
   show wpS _ _ _ _ (do moveDown' (lo+k) (lo+l);pure (zy (none,()))) _ _
   rw[moveDown'_eq]
   have e1:∀i,at' (bubble (arrOf st'') (lo+k) (lo+k- (lo+l))) i=if i=lo+l then at' (arrOf st'') (lo+k)else if lo+l< i∧i≤lo+k then at' (arrOf st'') (i- 1)else at' (arrOf st'') i:=fun i=>by
    rw[oE (by omega) (by omega),show lo+k- (lo+k- (lo+l))=lo+l by omega]
   refine yQ (Ap (yZ ⟨rfl,B'.set (bubble_perm _ _ _),hp,?_,fun i hi=>?_⟩))
   ·rw[show min (k+1) n=k+1 by omega]
    intro i j h1 h2 h3
    show L (at' (bubble (arrOf st'') (lo+k) (lo+k- (lo+l))) i) (at' (bubble (arrOf st'') (lo+k) (lo+k- (lo+l))) j)=true
    rw[e1,e1]
    have hlo':∀i,lo≤i→i< lo+l→L (at' (arrOf st'') i) (at' (arrOf st'') (lo+k))=true:=fun i h1 h2=>by
     have:=hlo (i- lo) (by omega);rwa [show lo+(i- lo)=i by omega]at this
    have hhi':∀i,lo+l≤i→i< lo+k→L (at' (arrOf st'') (lo+k)) (at' (arrOf st'') i)=true:=fun i h1 h2=>by
     have:=hhi (i- lo) (by omega) (by omega);rwa [show lo+(i- lo)=i by omega]at this
    repeat' split
    all_goals first
     | (exfalso;omega)
     | exact hlo' _ (by omega) (by omega)
     | exact hhi' _ (by omega) (by omega)
     | exact hs' _ _ (by omega) (by omega) (by omega)
   ·show at' (bubble (arrOf st'') (lo+k) (lo+k- (lo+l))) i=_
    rw[e1,if_neg (by omega),if_neg (by omega)]
    exact hout i hi
end
section
variable {M:DJ} {A:zP} {E:yH→yK→Prop} {s:yK} {κ:CJ} {U:z5→Prop} {L:z5→z5→Bool} {a0:List z5} {st:Ak}
theorem wD (O:LtOk M A E s κ U L) (hU:∀x∈a0,U x) (nd:a0.Nodup) {lo nrem n0:Nat} {Q:Option (Option Nat)×Nat→Ak→Prop} (hn:lo+nrem≤a0.length) (h1:1≤n0) (h2:n0≤nrem) (B:SB κ a0 st) (hs:Sr L (arrOf st) lo (lo+n0))
  (h:∀n,n0≤n→n≤nrem→Sr L (arrOf st) lo (lo+n)→(n=nrem∨L (at' (arrOf st) (lo+n)) (at' (arrOf st) (lo+n- 1))=true)→Q (none,n) st):
  wpS M A E s (forIn [n0:nrem] ((none:Option (Option Nat)),n0) fun _ c=>do
   let some smaller ←ltAt' (lo+c.2) (lo+c.2- 1) | pure (zp (some none,c.2))
   if smaller=true then pure (zp (none,c.2))else pure (zy (none,c.2+1))) Q st:=by
 refine A0 (I:=fun x c st'=>st'=st∧c=(none,x)∧n0≤x∧x≤nrem∧Sr L (arrOf st) lo (lo+x)) ?step ?fin ⟨rfl,rfl,yP _,h2,hs⟩
 case fin=>
  rintro c st' ⟨rfl,rfl,q1,q2,q3⟩
  rw[show max n0 nrem=nrem by omega]at q3 ⊢
  exact h nrem h2 (yP _) q3 (.inl rfl)
 case step=>
  rintro x c st' hx1 hx2 ⟨rfl,rfl,q1,q2,q3⟩
  dsimp only
  have uu:∀i,i< a0.length→U (at' (arrOf st') i):=fun i hi=>B.u hU hi
  refine yQ (fZ O hU B (by omega) (by omega) ?_)
  cases hless:L (at' (arrOf st') (lo+x)) (at' (arrOf st') (lo+x- 1))with
  | true =>
   dsimp only
   rw[if_pos rfl]
   exact yZ (h x q1 q2 q3 (.inr hless))
  | false =>
   dsimp only
   rw[if_neg (by decide)]
   have q:=O.tot _ _ (uu _ (by omega)) (uu _ (by omega)) (B.ne nd (by omega) (by omega) (by omega)) hless
   refine yZ ⟨rfl,rfl,by omega,by omega,fun i j g1 g2 g3=>?_⟩
   by_cases z:j< lo+x
   ·exact q3 i j g1 g2 z
   ·have:j=lo+x:=by omega
    subst this
    by_cases y:i=lo+x- 1
    ·rw[y];exact q
    ·exact O.tr _ _ _ (uu _ (by omega)) (uu _ (by omega)) (uu _ (by omega)) (q3 i (lo+x- 1) g1 (by omega) (by omega)) q
theorem wE (O:LtOk M A E s κ U L) (hU:∀x∈a0,U x) (nd:a0.Nodup) {lo nrem n0:Nat} {Q:Option (Option Nat)×Nat×Nat→Ak→Prop} (hn:lo+nrem≤a0.length) (h1:2≤n0) (h2:n0≤nrem) (B:SB κ a0 st) (hs:∀i j,lo≤i→i< j→j< lo+n0→L (at' (arrOf st) j) (at' (arrOf st) i)=true)
  (h:∀n,n0≤n→n≤nrem→(∀i j,lo≤i→i< j→j< lo+n→L (at' (arrOf st) j) (at' (arrOf st) i)=true)→Q (none,n,0) st):
  wpS M A E s (forIn [n0:nrem] ((none:Option (Option Nat)),n0,0) fun _ c=>do
   let some smaller ←ltAt' (lo+c.2.1) (lo+c.2.1- 1) | pure (zp (some none,c.2.1,c.2.2))
   if smaller=true then
    if c.2.2> 0 then
     reverseSlice' (lo+c.2.1- (c.2.2+1)) (lo+c.2.1)
     pure (zy (none,c.2.1+1,0))
    else pure (zy (none,c.2.1+1,0))
   else
    let some larger ←ltAt' (lo+c.2.1- 1) (lo+c.2.1) | pure (zp (some none,c.2.1,c.2.2))
    if larger=true then pure (zp (none,c.2.1,c.2.2))else pure (zy (none,c.2.1+1,c.2.2+1))) Q st:=by
 refine A0 (I:=fun x c st'=>st'=st∧c=(none,x,0)∧n0≤x∧x≤nrem∧∀i j,lo≤i→i< j→j< lo+x→L (at' (arrOf st) j) (at' (arrOf st) i)=true) ?step ?fin ⟨rfl,rfl,yP _,h2,hs⟩
 case fin=>
  rintro c st' ⟨rfl,rfl,q1,q2,q3⟩
  rw[show max n0 nrem=nrem by omega]at q3 ⊢
  exact h nrem h2 (yP _) q3
 case step=>
  rintro x c st' hx1 hx2 ⟨rfl,rfl,q1,q2,q3⟩
  dsimp only
  have uu:∀i,i< a0.length→U (at' (arrOf st') i):=fun i hi=>B.u hU hi
  refine yQ (fZ O hU B (by omega) (by omega) ?_)
  cases hless:L (at' (arrOf st') (lo+x)) (at' (arrOf st') (lo+x- 1))with
  | true =>
   dsimp only
   rw[if_pos rfl,if_neg (by omega)]
   refine yZ ⟨rfl,rfl,by omega,by omega,fun i j g1 g2 g3=>?_⟩
   by_cases z:j< lo+x
   ·exact q3 i j g1 g2 z
   ·have:j=lo+x:=by omega
    subst this
    by_cases y:i=lo+x- 1
    ·rw[y];exact hless
    ·exact O.tr _ _ _ (uu _ (by omega)) (uu _ (by omega)) (uu _ (by omega)) hless (q3 i (lo+x- 1) g1 (by omega) (by omega))
  | false =>
   dsimp only
   rw[if_neg (by decide)]
   have q:=O.tot _ _ (uu _ (by omega)) (uu _ (by omega)) (B.ne nd (by omega) (by omega) (by omega)) hless
   refine yQ (fZ O hU B (by omega) (by omega) ?_)
   rw[q]
   dsimp only
   rw[if_pos rfl]
   exact yZ (h x q1 q2 q3)
theorem vt (O:LtOk M A E s κ U L) (hU:∀x∈a0,U x) (nd:a0.Nodup) {lo nrem:Nat} {Q:Option Nat→Ak→Prop} (hn:lo+nrem≤a0.length) (h1:1≤nrem) (B:SB κ a0 st)
  (h:∀n st',1≤n→n≤nrem→SB κ a0 st'→pendingOf st'=pendingOf st→Sr L (arrOf st') lo (lo+n)→(∀i,i< lo∨lo+nrem≤i→at' (arrOf st') i=at' (arrOf st) i)→Q (some n) st'):wpS M A E s (countRun' lo nrem) Q st:=by
 rw[countRun'_eq]
 refine yQ (wD O hU nd hn (yP _) h1 B (fun i j g1 g2 g3=>by omega) fun n n1 n2 n3 n4=>?_)
 dsimp only
 by_cases z:n=nrem
 ·rw[if_pos (by simpa using z)]
  exact yZ (h n st n1 n2 B rfl n3 fun _ _=>rfl)
 rw[if_neg (by simpa using z)]
 have n5:L (at' (arrOf st) (lo+n)) (at' (arrOf st) (lo+n- 1))=true:=n4.resolve_left z
 by_cases y:n> 1
 ·rw[if_pos y]
  refine yQ (fZ O hU B (by omega) (by omega) ?_)
  rw[n3 lo (lo+n- 1) (yP _) (by omega) (by omega)]
  dsimp only
  rw[if_pos rfl]
  exact yZ (h n st n1 n2 B rfl n3 fun _ _=>rfl)
 rw[if_neg y]
 have:n=1:=by omega
 subst this
 refine yQ (Dz (Bd ⟨rfl,?_⟩))
 refine yQ (wE O hU nd hn (yP _) (by omega) B (fun i j g1 g2 g3=>?_) fun m m1 m2 m3=>?_)
 ·have:i=lo∧j=lo+1:=by omega
  rw[this.1,this.2];exact n5
 dsimp only
 rw[if_neg (by omega)]
 rw[reverseSlice'_eq]
 refine yQ (Ap ?_)
 have hsz:=B.size
 have e1:∀k,at' (mirror (arrOf st) lo (lo+m) ((lo+m- lo)/ 2)) k=if lo≤k∧k< lo+m then at' (arrOf st) (lo+(lo+m)- 1- k)else at' (arrOf st) k:=fun k=>oF (by omega) k
 have B2:SB κ a0 (setArr st (mirror (arrOf st) lo (lo+m) ((lo+m- lo)/ 2))):=B.set (mirror_perm _ _ _ _)
 refine yQ (wD O hU nd hn (by omega) m2 B2 (fun i j g1 g2 g3=>?_) fun k k1 k2 k3 k4=>?_)
 ·show L (at' (mirror (arrOf st) lo (lo+m) ((lo+m- lo)/ 2)) i) (at' (mirror (arrOf st) lo (lo+m) ((lo+m- lo)/ 2)) j)=true
  rw[e1,e1,if_pos (by omega),if_pos (by omega)]
  exact m3 _ _ (by omega) (by omega) (by omega)
 ·dsimp only
  refine yZ (h k _ (by omega) k2 B2 rfl k3 fun i hi=>?_)
  show at' (mirror (arrOf st) lo (lo+m) ((lo+m- lo)/ 2)) i=_
  rw[e1,if_neg (by omega)]
end
def d4:Bool→z5→Array z5→Nat→Nat→Nat→StateT Ak Sem (Option Nat):=sortPriv% PySem.Builtin.gallop
def uz (left : Bool) (key : z5) (arr : Array z5) (base i : Nat) : StateT Ak Sem (Option Bool) := do
    let x ←elem' arr (base+i)
    if left then lt' x key else return (←lt' key x).map (!·)
theorem lR (left:Bool) (key:z5) (arr:Array z5) (base n hint:Nat):d4 left key arr base n hint=(do
 let mut lastofs:=0
 let mut ofs:=1
 let mut lo:=0
 let mut hi:=0
 let some right ←uz left key arr base hint | return none
 if right then
  let maxofs:=n- hint
  for _ in [0:n]do
   if ofs≥maxofs then break
   let some more ←uz left key arr base (hint+ofs) | return none
   if !more then break
   lastofs:=ofs
   ofs:=2*ofs+1
  lo:=hint+lastofs+1
  hi:=hint+min ofs maxofs
 else
  let maxofs:=hint+1
  for _ in [0:n]do
   if ofs≥maxofs then break
   let some found ←uz left key arr base (hint- ofs) | return none
   if found then break
   lastofs:=ofs
   ofs:=2*ofs+1
  lo:=hint+1- min ofs maxofs
  hi:=hint- lastofs
 for _ in [0:n]do
  if lo≥hi then break
  let m:=lo+(hi- lo)/ 2
  let some more ←uz left key arr base m | return none
  if more then lo:=m+1 else hi:=m
 return some hi):=rfl
section
variable {M:DJ} {A:zP} {E:yH→yK→Prop} {s:yK} {κ:CJ} {U:z5→Prop} {L:z5→z5→Bool} {st:Ak}
def B' (L:z5→z5→Bool) (left:Bool) (key:z5) (arr:Array z5) (base i:Nat):Bool:=if left then L (at' arr (base+i)) key else !L key (at' arr (base+i))
theorem vv (O:LtOk M A E s κ U L) {left:Bool} {key:z5} {arr:Array z5} {base i:Nat} {Q:Option Bool→Ak→Prop} (hk:U key) (hu:U (at' arr (base+i))) (hi:base+i< arr.size) (kd:kindOf st=κ) (h:Q (some (B' L left key arr base i)) st):wpS M A E s (uz left key arr base i) Q st:=by
 unfold uz
 refine yQ (b9 hi ?_)
 unfold B' at h
 cases left with
 | true=>exact O.lt _ _ _ _ hu hk kd h
 | false=>exact yQ (O.lt _ _ _ _ hk hu kd (yZ h))
theorem cM (O:LtOk M A E s κ U L) {left:Bool} {key:z5} {arr:Array z5} {base n hint:Nat} {Q:Option Nat→Ak→Prop} (hk:U key) (hu:∀i,i< n→U (at' arr (base+i))) (hz:base+n≤arr.size) (hh:hint< n) (kd:kindOf st=κ)
  (mono:∀i j,i< j→j< n→B' L left key arr base j=true→B' L left key arr base i=true)
  (h:∀k,k≤n→(∀i,i< n→(B' L left key arr base i=true↔i< k))→Q (some k) st):wpS M A E s (d4 left key arr base n hint) Q st:=by
 rw[lR]
 have ask:∀i (R:Option Bool→Ak→Prop),i< n→R (some (B' L left key arr base i)) st→wpS M A E s (uz left key arr base i) R st:=fun i R hi hR=>vv O hk (hu i hi) (by omega) kd hR
 generalize hB:B' L left key arr base=B at*
 have fin:∀lo hi,lo≤hi→hi≤n→(∀i,i< lo→B i=true)→(∀i,hi≤i→i< n→B i=false)→∀k:Option (Option Nat)×Nat×Nat→StateT Ak Sem (Option Nat),(∀l r,k (none,l,r)=pure (some r))→wpS M A E s (do
   let c ←forIn [0:n] ((none:Option (Option Nat)),lo,hi) fun _ c=>do
    if c.2.1≥c.2.2 then pure (zp (none,c.2.1,c.2.2))else
     let some more ←uz left key arr base (c.2.1+(c.2.2- c.2.1)/ 2) | pure (zp (some none,c.2.1,c.2.2))
     if more=true then pure (zy (none,c.2.1+(c.2.2- c.2.1)/ 2+1,c.2.2))else pure (zy (none,c.2.1,c.2.1+(c.2.2- c.2.1)/ 2))
   k c) Q st:=by
  intro lo hi hlo hhi h1 h2 k hk'
  refine yQ (A0 (I:=fun x c st'=>st'=st∧∃l r,c=(none,l,r)∧l≤r∧r≤n∧r- l≤n- x∧(∀i,i< l→B i=true)∧∀i,r≤i→i< n→B i=false) ?step ?fin ⟨rfl,lo,hi,rfl,hlo,hhi,by omega,h1,h2⟩)
  case fin=>
   rintro c st' ⟨rfl,l,r,rfl,q1,q2,q3,q4,q5⟩
   have:l=r:=by omega
   subst this
   rw[hk']
   refine yZ (h l q2 fun i hi=>⟨fun z=>?_,q4 i⟩)
   by_cases y:i< l
   ·exact y
   ·rw[q5 i (by omega) hi]at z;cases z
  case step=>
   rintro x c st' _ hx ⟨rfl,l,r,rfl,q1,q2,q3,q4,q5⟩
   dsimp only
   by_cases z:l≥r
   ·rw[if_pos z]
    have:l=r:=by omega
    subst this
    refine yZ ?_
    show wpS M A E s (k (none,l,l)) Q st'
    rw[hk']
    refine yZ (h l q2 fun i hi=>⟨fun z=>?_,q4 i⟩)
    by_cases y:i< l
    ·exact y
    ·rw[q5 i (by omega) hi]at z;cases z
   ·rw[if_neg z]
    refine yQ (ask _ _ (by omega) ?_)
    cases hm:B (l+(r- l)/ 2)with
    | true =>
     dsimp only
     rw[if_pos rfl]
     refine yZ ⟨rfl,_,_,rfl,by omega,q2,by omega,fun i hi=>?_,q5⟩
     by_cases y:i=l+(r- l)/ 2
     ·rw[y];exact hm
     ·exact mono i _ (by omega) (by omega) hm
    | false =>
     dsimp only
     rw[if_neg (by decide)]
     refine yZ ⟨rfl,_,_,rfl,by omega,by omega,by omega,q4,fun i h1 h2=>?_⟩
     cases e:B i with
     | false=>rfl
     | true =>
      by_cases y:i=l+(r- l)/ 2
      ·rw[y]at e;rw[e]at hm;exact hm
      ·rw[mono _ i (by omega) h2 e]at hm;exact hm
 refine yQ (ask hint _ hh ?_)
 cases hr:B hint with
 | true =>
  dsimp only
  rw[if_pos rfl]
  refine yQ (Bn (A0 (I:=fun x c st'=>st'=st∧∃la o,c=(none,la,o)∧la< o∧x< o∧hint+la< n∧B (hint+la)=true) (Q:=fun c st'=>st'=st∧∃la o,c=(none,la,o)∧la< o∧hint+la< n∧B (hint+la)=true∧(o≥n- hint∨(hint+o< n∧B (hint+o)=false))) ?step ?fin ?init) ?post)
  case init=>exact⟨rfl,0,1,rfl,by omega,by omega,by omega,by simpa using hr⟩
  case fin=>
   rintro c st' ⟨rfl,la,o,rfl,q1,q2,q3,q4⟩
   exact⟨rfl,la,o,rfl,q1,q3,q4,.inl (by omega)⟩
  case step=>
   rintro x c st' _ hx ⟨rfl,la,o,rfl,q1,q2,q3,q4⟩
   dsimp only
   by_cases z:o≥n- hint
   ·rw[if_pos z]
    exact yZ ⟨rfl,la,o,rfl,q1,q3,q4,.inl z⟩
   ·rw[if_neg z]
    refine yQ (ask _ _ (by omega) ?_)
    cases hm:B (hint+o)with
    | true=>exact yZ ⟨rfl,o,2*o+1,rfl,by omega,by omega,by omega,hm⟩
    | false=>exact yZ ⟨rfl,la,o,rfl,q1,q3,q4,.inr ⟨by omega,hm⟩⟩
  case post=>
   rintro c st' ⟨rfl,la,o,rfl,q1,q3,q4,q5⟩
   dsimp only
   have k1:∀i,i< hint+la+1→B i=true:=fun i hi=>by
    by_cases y:i=hint+la
    ·rw[y];exact q4
    ·exact mono i _ (by omega) q3 q4
   refine fin (hint+la+1) (hint+min o (n- hint)) (by omega) (by omega) k1 (fun i h1 h2=>?_) _ (fun _ _=>rfl)
   rcases q5 with q5 | ⟨q5,q6⟩
   ·omega
   ·cases e:B i with
    | false=>rfl
    | true =>
     by_cases y:i=hint+o
     ·rw[y]at e;rw[e]at q6;exact q6
     ·rw[mono _ i (by omega) h2 e]at q6;exact q6
 | false =>
  dsimp only
  rw[if_neg (by decide)]
  refine yQ (Bn (A0 (I:=fun x c st'=>st'=st∧∃la o,c=(none,la,o)∧la< o∧x< o∧la≤hint∧B (hint- la)=false) (Q:=fun c st'=>st'=st∧∃la o,c=(none,la,o)∧la< o∧la≤hint∧B (hint- la)=false∧(o≥hint+1∨(o≤hint∧B (hint- o)=true))) ?step ?fin ?init) ?post)
  case init=>exact⟨rfl,0,1,rfl,by omega,by omega,by omega,by simpa using hr⟩
  case fin=>
   rintro c st' ⟨rfl,la,o,rfl,q1,q2,q3,q4⟩
   exact⟨rfl,la,o,rfl,q1,q3,q4,.inl (by omega)⟩
  case step=>
   rintro x c st' _ hx ⟨rfl,la,o,rfl,q1,q2,q3,q4⟩
   dsimp only
   by_cases z:o≥hint+1
   ·rw[if_pos z]
    exact yZ ⟨rfl,la,o,rfl,q1,q3,q4,.inl z⟩
   ·rw[if_neg z]
    refine yQ (ask _ _ (by omega) ?_)
    cases hm:B (hint- o)with
    | true=>exact yZ ⟨rfl,la,o,rfl,q1,q3,q4,.inr ⟨by omega,hm⟩⟩
    | false=>exact yZ ⟨rfl,o,2*o+1,rfl,by omega,by omega,by omega,hm⟩
  case post=>
   rintro c st' ⟨rfl,la,o,rfl,q1,q3,q4,q5⟩
   dsimp only
   refine fin (hint+1- min o (hint+1)) (hint- la) (by omega) (by omega) (fun i hi=>?_) (fun i h1 h2=>?_) _ (fun _ _=>rfl)
   ·rcases q5 with q5 | ⟨q5,q6⟩
    ·omega
    ·by_cases y:i=hint- o
     ·rw[y];exact q6
     ·exact mono i _ (by omega) (by omega) q6
   ·cases e:B i with
    | false=>rfl
    | true =>
     by_cases y:i=hint- la
     ·rw[y]at e;rw[e]at q4;exact q4
     ·rw[mono _ i (by omega) h2 e]at q4;exact q4
end
def ext' (xs:Array z5) (a b:Nat):List z5:=(xs.extract a b).toList
theorem d0 (xs:Array z5) (a b:Nat):ext' xs a b=(xs.toList.drop a).take (b- a):=by unfold ext';rw[Array.toList_extract,List.extract_eq_drop_take]
theorem bG {xs:Array z5} {a b:Nat} (hb:b≤xs.size) {x:z5} :x∈ext' xs a b↔∃i,a≤i∧i< b∧x=at' xs i:=by
 rw[d0,Bx]
 constructor
 ·rintro ⟨i,hi⟩
  have hlt:i< b- a:=by
   have:=(yR.mp hi).1
   simp at this;omega
  rw[zL hlt,zZ,yV,cT (by omega)]at hi
  cases hi
  exact⟨a+i,by omega,by omega,rfl⟩
 ·rintro ⟨i,h1,h2,rfl⟩
  refine⟨i- a,?_⟩
  rw[zL (by omega),zZ,yV,show a+(i- a)=i by omega,cT (by omega)]
theorem eZ {L:z5→z5→Bool} {xs:Array z5} {a b lo hi:Nat} (h:Sr L xs lo hi) (ha:lo≤a) (hb:b≤hi) (hs:hi≤xs.size):(ext' xs a b).Pairwise (fun x y=>L x y=true):=by
 rw[d0,AE]
 intro i j hi' hj hij
 have hj':j< b- a:=by simp at hj;omega
 have e:∀k,k< b- a→(h':k< ((xs.toList.drop a).take (b- a)).length)→((xs.toList.drop a).take (b- a))[k]=at' xs (a+k):=fun k hk h'=>by
  have:=yM h'
  rw[zL hk,zZ,yV,cT (by omega)]at this
  exact(zR this).symm
 rw[e i (by omega),e j hj']
 exact h _ _ (by omega) (by omega) (by omega)
theorem dZ {xs:Array z5} {a b:Nat} (hb:b< xs.size) (hab:a≤b):ext' xs a (b+1)=ext' xs a b++ [at' xs b]:=by
 rw[d0,d0,show b+1- a=(b- a)+1 by omega,List.take_succ,zZ,yV,show a+(b- a)=b by omega,cT hb]
 rfl
theorem cU {xs:Array z5} {a b c:Nat} (h1:a≤b) (h2:b≤c):ext' xs a c=ext' xs a b++ext' xs b c:=by
 rw[d0,d0,d0,show c- a=(b- a)+(c- b) by omega,List.take_add,Fx,show a+(b- a)=b by omega]
theorem g9 (xs:Array z5):ext' xs 0 xs.size=xs.toList:=by rw[d0,E1,Nat.sub_zero,←zm,List.take_length]
theorem d5 (xs:Array z5) (a:Nat):ext' xs a a=[]:=by rw[d0];simp
structure JL (L:z5→z5→Bool) (a b out:Array z5) (ia ib:Nat):Prop where
 pm:out.toList.Perm (ext' a 0 ia++ext' b 0 ib)
 so:out.toList.Pairwise (fun x y=>L x y=true)
 lo:∀x∈out.toList,(∀i,ia≤i→i< a.size→L x (at' a i)=true)∧∀j,ib≤j→j< b.size→L x (at' b j)=true
section
variable {L:z5→z5→Bool} {a b out:Array z5} {ia ib:Nat}
theorem JL.takeA (J:JL L a b out ia ib) (sa:Sr L a 0 a.size) {k:Nat} (hk:ia+k≤a.size) (h:∀i,ia≤i→i< ia+k→∀j,ib≤j→j< b.size→L (at' a i) (at' b j)=true) {out':Array z5} (ho:out'.toList=out.toList++ext' a ia (ia+k)):JL L a b out' (ia+k) ib:=by
 refine⟨?_,?_,fun x hx=>?_⟩
 ·rw[ho,cU (xs:=a) (zo ia) (Bl ia k),zj]
  refine(A5 _ J.pm).trans ?_
  rw[zj]
  exact Ab _ B0
 ·rw[ho,Af]
  refine⟨J.so,eZ sa (zo _) (by omega) (yP _),fun x hx y hy=>?_⟩
  obtain⟨i,h1,h2,rfl⟩:=(bG (by omega)).mp hy
  exact(J.lo x hx).1 i h1 (by omega)
 ·rw[ho]at hx
  rcases zE.mp hx with hx | hx
  ·exact⟨fun i h1 h2=>(J.lo x hx).1 i (by omega) h2,(J.lo x hx).2⟩
  ·obtain⟨i,h1,h2,rfl⟩:=(bG (by omega)).mp hx
   exact⟨fun i' h3 h4=>sa i i' (by omega) (by omega) h4,h i h1 h2⟩
theorem JL.takeB (J:JL L a b out ia ib) (sb:Sr L b 0 b.size) {k:Nat} (hk:ib+k≤b.size) (h:∀j,ib≤j→j< ib+k→∀i,ia≤i→i< a.size→L (at' b j) (at' a i)=true) {out':Array z5} (ho:out'.toList=out.toList++ext' b ib (ib+k)):JL L a b out' ia (ib+k):=by
 refine⟨?_,?_,fun x hx=>?_⟩
 ·rw[ho,cU (xs:=b) (zo ib) (Bl ib k),←zj]
  exact A5 _ J.pm
 ·rw[ho,Af]
  refine⟨J.so,eZ sb (zo _) (by omega) (yP _),fun x hx y hy=>?_⟩
  obtain⟨i,h1,h2,rfl⟩:=(bG (by omega)).mp hy
  exact(J.lo x hx).2 i h1 (by omega)
 ·rw[ho]at hx
  rcases zE.mp hx with hx | hx
  ·exact⟨(J.lo x hx).1,fun i h1 h2=>(J.lo x hx).2 i (by omega) h2⟩
  ·obtain⟨i,h1,h2,rfl⟩:=(bG (by omega)).mp hx
   exact⟨h i h1 h2,fun i' h3 h4=>sb i i' (by omega) (by omega) h4⟩
theorem JL.fin (J:JL L a b out ia ib) (sa:Sr L a 0 a.size) (sb:Sr L b 0 b.size) (ha:ia≤a.size) (hb:ib≤b.size) (h:∀j,ib≤j→j< b.size→∀i,ia≤i→i< a.size→L (at' b j) (at' a i)=true) {r:List z5} (hr:r=out.toList++ext' b ib b.size++ext' a ia a.size):
  r.Perm (a.toList++b.toList)∧r.Pairwise (fun x y=>L x y=true):=by
 subst hr
 constructor
 ·have e1:a.toList=ext' a 0 ia++ext' a ia a.size:=by rw[←cU (zo _) ha,g9]
  have e2:b.toList=ext' b 0 ib++ext' b ib b.size:=by rw[←cU (zo _) hb,g9]
  rw[e1,e2]
  refine(A5 _ (A5 _ J.pm)).trans ?_
  generalize ext' a 0 ia=p
  generalize ext' a ia a.size=q
  generalize ext' b 0 ib=u
  generalize ext' b ib b.size=v
  rw[zj p,zj p,zj p]
  refine Ab _ ?_
  exact B0
 ·rw[zj,Af,Af]
  refine⟨J.so,⟨eZ sb (zo _) (yP _) (yP _),eZ sa (zo _) (yP _) (yP _),fun x hx y hy=>?_⟩,fun x hx y hy=>?_⟩
  ·obtain⟨j,h1,h2,rfl⟩:=(bG (yP _)).mp hx
   obtain⟨i,h3,h4,rfl⟩:=(bG (yP _)).mp hy
   exact h j h1 h2 i h3 h4
  ·rcases zE.mp hy with hy | hy
   ·obtain⟨j,h1,h2,rfl⟩:=(bG (yP _)).mp hy
    exact(J.lo x hx).2 j h1 h2
   ·obtain⟨j,h1,h2,rfl⟩:=(bG (yP _)).mp hy
    exact(J.lo x hx).1 j h1 h2
end
def iG:Array z5→Array z5→StateT Ak Sem (Array z5):=sortPriv% PySem.Builtin.mergeLo
def gb (g:Nat):StateT Ak Sem Unit:=modify fun st=>BL (kindOf st) (arrOf st) (pendingOf st) g (failedOf st)
theorem kU (a b:Array z5):iG a b=(do
 rule "list.sort.merge-lo"
 let total:=a.size+b.size
 let done (out:Array z5) (ia ib:Nat):=out++a.extract ia a.size++b.extract ib b.size
 let lastOfA (out:Array z5) (ia ib:Nat):=out++b.extract ib b.size++a.extract ia a.size
 let mut out:Array z5:= #[←elem' b 0]
 let mut ia:=0
 let mut ib:=1
 if ib == b.size then return done out ia ib
 if ia+1 == a.size then return lastOfA out ia ib
 let mut minGallop:=gallopOf (←get)
 for _ in [0:total]do
  let mut acount:=0
  let mut bcount:=0
  for _ in [0:total]do
   let some bWins ←lt' (←elem' b ib) (←elem' a ia) | return done out ia ib
   if bWins then
    out:=out.push (←elem' b ib);ib:=ib+1;bcount:=bcount+1;acount:=0
    if ib == b.size then return done out ia ib
    if bcount≥minGallop then break
   else
    out:=out.push (←elem' a ia);ia:=ia+1;acount:=acount+1;bcount:=0
    if ia+1 == a.size then return lastOfA out ia ib
    if acount≥minGallop then break
  rule "list.sort.gallop"
  minGallop:=minGallop+1
  for _ in [0:total]do
   if minGallop> 1 then minGallop:=minGallop- 1
   gb minGallop
   let some k ←d4 false (←elem' b ib) a ia (a.size- ia) 0 | return done out ia ib
   acount:=k
   if k> 0 then
    out:=out++a.extract ia (ia+k);ia:=ia+k
    if ia+1 == a.size then return lastOfA out ia ib
    if ia == a.size then return done out ia ib
   out:=out.push (←elem' b ib);ib:=ib+1
   if ib == b.size then return done out ia ib
   let some k ←d4 true (←elem' a ia) b ib (b.size- ib) 0 | return done out ia ib
   bcount:=k
   if k> 0 then
    out:=out++b.extract ib (ib+k);ib:=ib+k
    if ib == b.size then return done out ia ib
   out:=out.push (←elem' a ia);ia:=ia+1
   if ia+1 == a.size then return lastOfA out ia ib
   if acount< 7 && bcount< 7 then break
  minGallop:=minGallop+1
  gb minGallop
 unsupported "internal:list.sort.merge-bound"):=rfl
section
variable {M:DJ} {A:zP} {E:yH→yK→Prop} {s:yK} {κ:CJ} {U:z5→Prop} {L:z5→z5→Bool} {st:Ak}
def cb (st st':Ak):Prop:=kindOf st'=kindOf st∧arrOf st'=arrOf st∧pendingOf st'=pendingOf st∧failedOf st'=failedOf st
theorem lS (O:LtOk M A E s κ U L) {a b:Array z5} {Q:Array z5→Ak→Prop} (kd:kindOf st=κ) (ua:∀i,i< a.size→U (at' a i)) (ub:∀i,i< b.size→U (at' b i)) (na:0< a.size) (nb:0< b.size) (sa:Sr L a 0 a.size) (sb:Sr L b 0 b.size)
  (ne:∀i j,i< a.size→j< b.size→at' a i≠at' b j) (h0:L (at' b 0) (at' a 0)=true) (h1:∀j,j< b.size→L (at' b j) (at' a (a.size- 1))=true)
  (h:∀r st',cb st st'→r.toList.Perm (a.toList++b.toList)→r.toList.Pairwise (fun x y=>L x y=true)→Q r st'):wpS M A E s (iG a b) Q st:=by
 rw[kU]
 refine yQ (Dz (Bd ⟨rfl,?_⟩))
 dsimp only
 refine yQ (b9 nb ?_)
 have J0:JL L a b #[at' b 0] 0 1:=by
  refine⟨?_,C9 _ _,fun x hx=>?_⟩
  ·rw[d5,dZ (a:=0) (b:=0) nb (yP _),d5];exact .refl _
  ·have:x=at' b 0:=by simpa using hx
   subst this
   refine⟨fun i h2 h3=>?_,fun j h2 h3=>sb 0 j (yP _) (by omega) h3⟩
   by_cases z:i=0
   ·rw[z];exact h0
   ·exact O.tr _ _ _ (ub 0 nb) (ua 0 na) (ua i h3) h0 (sa 0 i (yP _) (by omega) h3)
 have endB:∀(out:Array z5) ia ib st',cb st st'→JL L a b out ia ib→ia≤a.size→ib=b.size→Q (out++a.extract ia a.size++b.extract ib b.size) st':=fun out ia ib st' al J h2 h3=>by
  subst h3
  have:=J.fin sa sb h2 (yP _) (fun j h3 h4=>by omega) (r:=(out++a.extract ia a.size++b.extract b.size b.size).toList) (by
   rw[zK,zK]
   show out.toList++ext' a ia a.size++ext' b b.size b.size=_
   rw[d5,Ao,Ao])
  exact h _ st' al this.1 this.2
 have endA:∀(out:Array z5) ia ib st',cb st st'→JL L a b out ia ib→ib≤b.size→ia+1=a.size→Q (out++b.extract ib b.size++a.extract ia a.size) st':=fun out ia ib st' al J h2 h3=>by
  have:=J.fin sa sb (by omega) h2 (fun j h4 h5 i h6 h7=>by
   have:i=a.size- 1:=by omega
   rw[this];exact h1 j h5) (r:=(out++b.extract ib b.size++a.extract ia a.size).toList) (by rw[zK,zK];rfl)
  exact h _ st' al this.1 this.2
 have al0:cb st st:=⟨rfl,rfl,rfl,rfl⟩
 by_cases z1:1=b.size
 ·rw[if_pos (by simpa using z1)]
  exact yZ (endB _ 0 1 st al0 J0 (zo _) z1)
 rw[if_neg (by simpa using z1)]
 by_cases z2:0+1=a.size
 ·rw[if_pos (by simpa using z2)]
  exact yZ (endA _ 0 1 st al0 J0 (by omega) z2)
 rw[if_neg (by simpa using z2)]
 refine yQ (Cm ?_)
 refine yQ (Bn (A0 (I:=fun x c st'=>cb st st'∧∃out ia ib g,c=(none,out,ia,ib,g)∧JL L a b out ia ib∧ia+1< a.size∧ib< b.size∧x+1≤ia+ib) (Q:=fun c st'=>cb st st'∧∃r rest,c=(some r,rest)∧Q r st') ?step ?fin ?init) ?post)
 case init=>exact⟨al0,_,_,_,_,rfl,J0,by omega,by omega,by omega⟩
 case fin=>
  rintro c st' ⟨al,out,ia,ib,g,rfl,J,q1,q2,q3⟩
  omega
 case post=>
  rintro c st' ⟨al,r,rest,rfl,hq⟩
  exact yZ hq
 case step=>
  rintro x c st1 _ hx ⟨al,out,ia,ib,g,rfl,J,q1,q2,q3⟩
  dsimp only
  refine yQ (Bn (A0 (I:=fun y c st'=>st'=st1∧∃out ia ib ac bc,c=(none,out,ia,ib,ac,bc)∧JL L a b out ia ib∧ia+1< a.size∧ib< b.size∧x+1+y≤ia+ib)
   (Q:=fun c st'=>st'=st1∧((∃r rest,c=(some r,rest)∧Q r st')∨∃out ia ib ac bc,c=(none,out,ia,ib,ac,bc)∧JL L a b out ia ib∧ia+1< a.size∧ib< b.size∧x+2≤ia+ib)) ?step1 ?fin1 ?init1) ?post1)
  case init1=>exact⟨rfl,_,_,_,_,_,rfl,J,q1,q2,by omega⟩
  case fin1=>
   rintro c st' ⟨rfl,out,ia,ib,ac,bc,rfl,J,q1,q2,q3⟩
   exact⟨rfl,.inr ⟨_,_,_,_,_,rfl,J,q1,q2,by omega⟩⟩
  case step1=>
   rintro y c st' _ hy ⟨rfl,out,ia,ib,ac,bc,rfl,J,q1,q2,q3⟩
   dsimp only
   refine yQ (b9 q2 (yQ (b9 (by omega) (yQ (O.lt _ _ _ _ (ub _ q2) (ua _ (by omega)) (al.1.trans kd) ?_)))))
   cases hw:L (at' b ib) (at' a ia)with
   | true =>
    dsimp only
    rw[if_pos rfl]
    refine yQ (b9 q2 ?_)
    have J':JL L a b (out.push (at' b ib)) ia (ib+1):=J.takeB sb (k:=1) (by omega) (fun j h2 h3 i h4 h5=>by
     have:j=ib:=by omega
     subst this
     by_cases z:i=ia
     ·rw[z];exact hw
     ·exact O.tr _ _ _ (ub _ q2) (ua _ (by omega)) (ua _ h5) hw (sa ia i (by omega) (by omega) h5)) (by rw[AR,dZ q2 (yP _),d5];rfl)
    by_cases z:ib+1=b.size
    ·rw[if_pos (by simpa using z)]
     exact yZ ⟨rfl,.inl ⟨_,_,rfl,endB _ ia (ib+1) _ al J' (by omega) z⟩⟩
    ·rw[if_neg (by simpa using z)]
     by_cases w:bc+1≥g
     ·rw[if_pos w];exact yZ ⟨rfl,.inr ⟨_,_,_,_,_,rfl,J',q1,by omega,by omega⟩⟩
     ·rw[if_neg w];exact yZ ⟨rfl,_,_,_,_,_,rfl,J',q1,by omega,by omega⟩
   | false =>
    dsimp only
    rw[if_neg (by decide)]
    refine yQ (b9 (by omega) ?_)
    have hw':=O.tot _ _ (ub _ q2) (ua _ (by omega)) (fun e=>ne ia ib (by omega) q2 e.symm) hw
    have J':JL L a b (out.push (at' a ia)) (ia+1) ib:=J.takeA sa (k:=1) (by omega) (fun i h2 h3 j h4 h5=>by
     have:i=ia:=by omega
     subst this
     by_cases z:j=ib
     ·rw[z];exact hw'
     ·exact O.tr _ _ _ (ua _ (by omega)) (ub _ q2) (ub _ h5) hw' (sb ib j (by omega) (by omega) h5)) (by rw[AR,dZ (by omega) (yP _),d5];rfl)
    by_cases z:ia+1+1=a.size
    ·rw[if_pos (by simpa using z)]
     exact yZ ⟨rfl,.inl ⟨_,_,rfl,endA _ (ia+1) ib _ al J' (by omega) z⟩⟩
    ·rw[if_neg (by simpa using z)]
     by_cases w:ac+1≥g
     ·rw[if_pos w];exact yZ ⟨rfl,.inr ⟨_,_,_,_,_,rfl,J',by omega,by omega,by omega⟩⟩
     ·rw[if_neg w];exact yZ ⟨rfl,_,_,_,_,_,rfl,J',by omega,by omega,by omega⟩
  case post1=>
   rintro c st' ⟨rfl,⟨r,rest,rfl,hq⟩ | ⟨out,ia,ib,ac,bc,rfl,J,q1,q2,q3⟩⟩
   ·exact yZ ⟨al,_,_,rfl,hq⟩
   dsimp only
   refine yQ (Dz (Bd ⟨rfl,?_⟩))
   refine yQ (Bn (A0 (I:=fun y c st'=>cb st st'∧∃out ia ib g ac bc,c=(none,out,ia,ib,g,ac,bc)∧JL L a b out ia ib∧ia+1< a.size∧ib< b.size∧x+2≤ia+ib)
    (Q:=fun c st'=>cb st st'∧((∃r rest,c=(some r,rest)∧Q r st')∨∃out ia ib g ac bc,c=(none,out,ia,ib,g,ac,bc)∧JL L a b out ia ib∧ia+1< a.size∧ib< b.size∧x+2≤ia+ib)) ?step2 ?fin2 ?init2) ?post2)
   case init2=>exact⟨al,_,_,_,_,_,_,rfl,J,q1,q2,q3⟩
   case fin2=>exact fun c st' ⟨al,out,ia,ib,g,ac,bc,e,J,q1,q2,q3⟩=>⟨al,.inr ⟨out,ia,ib,g,ac,bc,e,J,q1,q2,q3⟩⟩
   case post2=>
    rintro c st' ⟨al,⟨r,rest,rfl,hq⟩ | ⟨out,ia,ib,g,ac,bc,rfl,J,q1,q2,q3⟩⟩
    ·exact yZ ⟨al,_,_,rfl,hq⟩
    ·dsimp only
     refine yQ (Ap (yZ ⟨al,_,_,_,_,rfl,J,q1,q2,by omega⟩))
   case step2=>
    rintro y c st' _ hy ⟨al,out,ia,ib,g,ac,bc,rfl,J,q1,q2,q3⟩
    dsimp only
    let C:=Option (Array z5)×Array z5×Nat×Nat×Nat×Nat×Nat
    let R:ForInStep C→Ak→Prop:=fun r st'=>match r with
     | .done c=>cb st st'∧((∃r rest,c=(some r,rest)∧Q r st')∨∃out ia ib g ac bc,c=(none,out,ia,ib,g,ac,bc)∧JL L a b out ia ib∧ia+1< a.size∧ib< b.size∧x+2≤ia+ib)
     | .yield c=>cb st st'∧∃out ia ib g ac bc,c=(none,out,ia,ib,g,ac,bc)∧JL L a b out ia ib∧ia+1< a.size∧ib< b.size∧x+2≤ia+ib
    have pC:∀(out:Array z5) ia ib g k k1 st',cb st st'→JL L a b out ia ib→ia+1< a.size→ib< b.size→x+2≤ia+ib→L (at' a ia) (at' b ib)=true→wpS M A E s (do
      let x ←elem' a ia
      if(ia+1+1 == a.size)=true then pure (zp (some (out.push x++b.extract ib b.size++a.extract (ia+1) a.size),out.push x,ia+1,ib,g,k,k1))
      else if(decide (k< 7) && decide (k1< 7))=true then pure (zp (none,out.push x,ia+1,ib,g,k,k1))
      else pure (zy (none,out.push x,ia+1,ib,g,k,k1))) R st':=by
     intro out ia ib g k k1 st' al J q1 q2 q3 hab
     refine yQ (b9 (by omega) ?_)
     have J':JL L a b (out.push (at' a ia)) (ia+1) ib:=J.takeA sa (k:=1) (by omega) (fun i h2 h3 j h4 h5=>by
      have:i=ia:=by omega
      subst this
      by_cases z:j=ib
      ·rw[z];exact hab
      ·exact O.tr _ _ _ (ua _ (by omega)) (ub _ q2) (ub _ h5) hab (sb ib j (by omega) (by omega) h5)) (by rw[AR,dZ (by omega) (yP _),d5];rfl)
     by_cases z:ia+1+1=a.size
     ·rw[if_pos (by simpa using z)]
      exact yZ ⟨al,.inl ⟨_,_,rfl,endA _ (ia+1) ib _ al J' (by omega) z⟩⟩
     ·rw[if_neg (by simpa using z)]
      by_cases w:(decide (k< 7) && decide (k1< 7))=true
      ·rw[if_pos w];exact yZ ⟨al,.inr ⟨_,_,_,_,_,_,rfl,J',by omega,by omega,by omega⟩⟩
      ·rw[if_neg w];exact yZ ⟨al,_,_,_,_,_,_,rfl,J',by omega,by omega,by omega⟩
    have pB:∀(out:Array z5) ia ib g k bc st',cb st st'→JL L a b out ia ib→ia+1< a.size→ib< b.size→x+2≤ia+ib→L (at' b ib) (at' a ia)=true→wpS M A E s (do
      let x ←elem' b ib
      if(ib+1 == b.size)=true then pure (zp (some (out.push x++a.extract ia a.size++b.extract (ib+1) b.size),out.push x,ia,ib+1,g,k,bc))
      else
       let y ←elem' a ia
       let some k1 ←d4 true y b (ib+1) (b.size- (ib+1)) 0 | pure (zp (some (out.push x++a.extract ia a.size++b.extract (ib+1) b.size),out.push x,ia,ib+1,g,k,bc))
       if k1> 0 then
        if(ib+1+k1 == b.size)=true then pure (zp (some (out.push x++b.extract (ib+1) (ib+1+k1)++a.extract ia a.size++b.extract (ib+1+k1) b.size),out.push x++b.extract (ib+1) (ib+1+k1),ia,ib+1+k1,g,k,k1))
        else
         let z ←elem' a ia
         if(ia+1+1 == a.size)=true then pure (zp (some ((out.push x++b.extract (ib+1) (ib+1+k1)).push z++b.extract (ib+1+k1) b.size++a.extract (ia+1) a.size),(out.push x++b.extract (ib+1) (ib+1+k1)).push z,ia+1,ib+1+k1,g,k,k1))
         else if(decide (k< 7) && decide (k1< 7))=true then pure (zp (none,(out.push x++b.extract (ib+1) (ib+1+k1)).push z,ia+1,ib+1+k1,g,k,k1))
         else pure (zy (none,(out.push x++b.extract (ib+1) (ib+1+k1)).push z,ia+1,ib+1+k1,g,k,k1))
       else
        let z ←elem' a ia
        if(ia+1+1 == a.size)=true then pure (zp (some ((out.push x).push z++b.extract (ib+1) b.size++a.extract (ia+1) a.size),(out.push x).push z,ia+1,ib+1,g,k,k1))
        else if(decide (k< 7) && decide (k1< 7))=true then pure (zp (none,(out.push x).push z,ia+1,ib+1,g,k,k1))
        else pure (zy (none,(out.push x).push z,ia+1,ib+1,g,k,k1))) R st':=by
     intro out ia ib g k bc st' al J q1 q2 q3 hba
     refine yQ (b9 q2 ?_)
     have J':JL L a b (out.push (at' b ib)) ia (ib+1):=J.takeB sb (k:=1) (by omega) (fun j h2 h3 i h4 h5=>by
      have:j=ib:=by omega
      subst this
      by_cases z:i=ia
      ·rw[z];exact hba
      ·exact O.tr _ _ _ (ub _ q2) (ua _ (by omega)) (ua _ h5) hba (sa ia i (by omega) (by omega) h5)) (by rw[AR,dZ q2 (yP _),d5];rfl)
     by_cases z:ib+1=b.size
     ·rw[if_pos (by simpa using z)]
      exact yZ ⟨al,.inl ⟨_,_,rfl,endB _ ia (ib+1) _ al J' (by omega) z⟩⟩
     rw[if_neg (by simpa using z)]
     refine yQ (b9 (by omega) (yQ (cM O (ua _ (by omega)) (fun i hi=>ub _ (by omega)) (by omega) (by omega) (al.1.trans kd) (fun i j hij hj hB=>?_) fun k1 hk1 hB=>?_)))
     ·show L (at' b (ib+1+i)) (at' a ia)=true
      exact O.tr _ _ _ (ub _ (by omega)) (ub _ (by omega)) (ua _ (by omega)) (sb (ib+1+i) (ib+1+j) (by omega) (by omega) (by omega)) hB
     have hB':∀i,i< b.size- (ib+1)→(L (at' b (ib+1+i)) (at' a ia)=true↔i< k1):=hB
     dsimp only
     have J2:JL L a b (out.push (at' b ib)++b.extract (ib+1) (ib+1+k1)) ia (ib+1+k1):=J'.takeB sb (by omega) (fun j h2 h3 i h4 h5=>by
      have e:=(hB' (j- (ib+1)) (by omega)).mpr (by omega)
      rw[show ib+1+(j- (ib+1))=j by omega]at e
      by_cases w:i=ia
      ·rw[w];exact e
      ·exact O.tr _ _ _ (ub _ (by omega)) (ua _ (by omega)) (ua _ h5) e (sa ia i (by omega) (by omega) h5)) (by rw[zK];rfl)
     have ab:ib+1+k1< b.size→L (at' a ia) (at' b (ib+1+k1))=true:=fun hlt=>by
      refine O.tot _ _ (ub _ hlt) (ua _ (by omega)) (fun e=>ne ia _ (by omega) hlt e.symm) ?_
      cases e:L (at' b (ib+1+k1)) (at' a ia)with
      | false=>rfl
      | true=>exact absurd ((hB' k1 (by omega)).mp e) (by omega)
     by_cases w:k1> 0
     ·rw[if_pos w]
      by_cases v:ib+1+k1=b.size
      ·rw[if_pos (by simpa using v)]
       exact yZ ⟨al,.inl ⟨_,_,rfl,endB _ ia (ib+1+k1) _ al J2 (by omega) v⟩⟩
      ·rw[if_neg (by simpa using v)]
       exact pC _ _ _ _ _ _ _ al J2 q1 (by omega) (by omega) (ab (by omega))
     ·rw[if_neg w]
      have:k1=0:=by omega
      subst this
      exact pC _ _ _ _ _ _ _ al J' q1 (by omega) (by omega) (ab (by omega))
    by_cases w:g> 1
    ·rw[if_pos w]
     refine yQ (Ap (yQ (b9 q2 (yQ (cM O (ub _ q2) (fun i hi=>ua _ (by omega)) (by omega) (by omega) (al.1.trans kd) (fun i j hij hj hB=>?_) fun k hk hB=>?_)))))
     ·have hB':(!L (at' b ib) (at' a (ia+j)))=true:=hB
      show(!L (at' b ib) (at' a (ia+i)))=true
      cases e:L (at' b ib) (at' a (ia+i))with
      | false=>rfl
      | true =>
       rw[O.tr _ _ _ (ub _ q2) (ua _ (by omega)) (ua _ (by omega)) e (sa (ia+i) (ia+j) (by omega) (by omega) (by omega))]at hB'
       exact hB'
     have hB':∀i,i< a.size- ia→((!L (at' b ib) (at' a (ia+i)))=true↔i< k):=hB
     have hk1:ia+k+1≤a.size:=by
      by_cases v:a.size- 1- ia< k
      ·have e:=(hB' (a.size- 1- ia) (by omega)).mpr v
       rw[show ia+(a.size- 1- ia)=a.size- 1 by omega,h1 ib q2]at e
       cases e
      ·omega
     dsimp only
     have J1:JL L a b (out++a.extract ia (ia+k)) (ia+k) ib:=J.takeA sa (by omega) (fun i h2 h3 j h4 h5=>by
      have e:=(hB' (i- ia) (by omega)).mpr (by omega)
      rw[show ia+(i- ia)=i by omega]at e
      have e2:=O.tot _ _ (ub _ q2) (ua _ (by omega)) (fun e=>ne i ib (by omega) q2 e.symm) (by simpa using e)
      by_cases v:j=ib
      ·rw[v];exact e2
      ·exact O.tr _ _ _ (ua _ (by omega)) (ub _ q2) (ub _ h5) e2 (sb ib j (by omega) (by omega) h5)) (by rw[zK];rfl)
     have hba:L (at' b ib) (at' a (ia+k))=true:=by
      cases e:L (at' b ib) (at' a (ia+k))with
      | true=>rfl
      | false=>exact absurd ((hB' k (by omega)).mp (by rw[e];rfl)) (by omega)
     by_cases v:k> 0
     ·rw[if_pos v]
      by_cases u:ia+k+1=a.size
      ·rw[if_pos (by simpa using u)]
       exact yZ ⟨al,.inl ⟨_,_,rfl,endA _ (ia+k) ib _ al J1 (by omega) u⟩⟩
      ·rw[if_neg (by simpa using u),if_neg (by simp;omega)]
       exact pB _ _ _ _ _ _ _ al J1 (by omega) q2 (by omega) hba
     ·rw[if_neg v]
      have:k=0:=by omega
      subst this
      exact pB _ _ _ _ _ _ _ al J q1 q2 (by omega) hba
    ·rw[if_neg w]
     refine yQ (Ap (yQ (b9 q2 (yQ (cM O (ub _ q2) (fun i hi=>ua _ (by omega)) (by omega) (by omega) (al.1.trans kd) (fun i j hij hj hB=>?_) fun k hk hB=>?_)))))
     ·have hB':(!L (at' b ib) (at' a (ia+j)))=true:=hB
      show(!L (at' b ib) (at' a (ia+i)))=true
      cases e:L (at' b ib) (at' a (ia+i))with
      | false=>rfl
      | true =>
       rw[O.tr _ _ _ (ub _ q2) (ua _ (by omega)) (ua _ (by omega)) e (sa (ia+i) (ia+j) (by omega) (by omega) (by omega))]at hB'
       exact hB'
     have hB':∀i,i< a.size- ia→((!L (at' b ib) (at' a (ia+i)))=true↔i< k):=hB
     have hk1:ia+k+1≤a.size:=by
      by_cases v:a.size- 1- ia< k
      ·have e:=(hB' (a.size- 1- ia) (by omega)).mpr v
       rw[show ia+(a.size- 1- ia)=a.size- 1 by omega,h1 ib q2]at e
       cases e
      ·omega
     dsimp only
     have J1:JL L a b (out++a.extract ia (ia+k)) (ia+k) ib:=J.takeA sa (by omega) (fun i h2 h3 j h4 h5=>by
      have e:=(hB' (i- ia) (by omega)).mpr (by omega)
      rw[show ia+(i- ia)=i by omega]at e
      have e2:=O.tot _ _ (ub _ q2) (ua _ (by omega)) (fun e=>ne i ib (by omega) q2 e.symm) (by simpa using e)
      by_cases v:j=ib
      ·rw[v];exact e2
      ·exact O.tr _ _ _ (ua _ (by omega)) (ub _ q2) (ub _ h5) e2 (sb ib j (by omega) (by omega) h5)) (by rw[zK];rfl)
     have hba:L (at' b ib) (at' a (ia+k))=true:=by
      cases e:L (at' b ib) (at' a (ia+k))with
      | true=>rfl
      | false=>exact absurd ((hB' k (by omega)).mp (by rw[e];rfl)) (by omega)
     by_cases v:k> 0
     ·rw[if_pos v]
      by_cases u:ia+k+1=a.size
      ·rw[if_pos (by simpa using u)]
       exact yZ ⟨al,.inl ⟨_,_,rfl,endA _ (ia+k) ib _ al J1 (by omega) u⟩⟩
      ·rw[if_neg (by simpa using u),if_neg (by simp;omega)]
       exact pB _ _ _ _ _ _ _ al J1 (by omega) q2 (by omega) hba
     ·rw[if_neg v]
      have:k=0:=by omega
      subst this
      exact pB _ _ _ _ _ _ _ al J q1 q2 (by omega) hba
end
def iH:Array z5→Array z5→StateT Ak Sem (Array z5):=sortPriv% PySem.Builtin.mergeHi
theorem kW (a b:Array z5):iH a b=(do
 rule "list.sort.merge-hi"
 let total:=a.size+b.size
 let done (out:Array z5) (na nb:Nat):=a.extract 0 na++b.extract 0 nb++out.reverse
 let firstOfB (out:Array z5) (na nb:Nat):=b.extract 0 nb++a.extract 0 na++out.reverse
 let mut na:=a.size- 1
 let mut nb:=b.size
 let mut out:Array z5:= #[←elem' a na]
 if na == 0 then return done out na nb
 if nb == 1 then return firstOfB out na nb
 let mut minGallop:=gallopOf (←get)
 for _ in [0:total]do
  let mut acount:=0
  let mut bcount:=0
  for _ in [0:total]do
   let some aWins ←lt' (←elem' b (nb- 1)) (←elem' a (na- 1)) | return done out na nb
   if aWins then
    na:=na- 1;out:=out.push (←elem' a na);acount:=acount+1;bcount:=0
    if na == 0 then return done out na nb
    if acount≥minGallop then break
   else
    nb:=nb- 1;out:=out.push (←elem' b nb);bcount:=bcount+1;acount:=0
    if nb == 1 then return firstOfB out na nb
    if bcount≥minGallop then break
  rule "list.sort.gallop"
  minGallop:=minGallop+1
  for _ in [0:total]do
   if minGallop> 1 then minGallop:=minGallop- 1
   gb minGallop
   let some at_ ←d4 false (←elem' b (nb- 1)) a 0 na (na- 1) | return done out na nb
   let k:=na- at_
   acount:=k
   if k> 0 then
    out:=out++(a.extract at_ na).reverse;na:=at_
    if na == 0 then return done out na nb
   nb:=nb- 1;out:=out.push (←elem' b nb)
   if nb == 1 then return firstOfB out na nb
   let some at_ ←d4 true (←elem' a (na- 1)) b 0 nb (nb- 1) | return done out na nb
   let k:=nb- at_
   bcount:=k
   if k> 0 then
    out:=out++(b.extract at_ nb).reverse;nb:=at_
    if nb == 1 then return firstOfB out na nb
    if nb == 0 then return done out na nb
   na:=na- 1;out:=out.push (←elem' a na)
   if na == 0 then return done out na nb
   if acount< 7 && bcount< 7 then break
  minGallop:=minGallop+1
  gb minGallop
 unsupported "internal:list.sort.merge-bound"):=rfl
structure JH (L:z5→z5→Bool) (a b out:Array z5) (na nb:Nat):Prop where
 pm:out.toList.reverse.Perm (ext' a na a.size++ext' b nb b.size)
 so:out.toList.reverse.Pairwise (fun x y=>L x y=true)
 hi:∀x∈out.toList,(∀i,i< na→L (at' a i) x=true)∧∀j,j< nb→L (at' b j) x=true
section
variable {L:z5→z5→Bool} {a b out:Array z5} {na nb:Nat}
theorem JH.takeA (J:JH L a b out na nb) (sa:Sr L a 0 a.size) (hn:na≤a.size) {m:Nat} (hm:m≤na) (h:∀i,m≤i→i< na→∀j,j< nb→L (at' b j) (at' a i)=true) {out':Array z5} (ho:out'.toList.reverse=ext' a m na++out.toList.reverse):JH L a b out' m nb:=by
 have mem:∀x,x∈out'.toList↔x∈ext' a m na∨x∈out.toList:=fun x=>by rw[←AH,ho,zE,AH]
 refine⟨?_,?_,fun x hx=>?_⟩
 ·rw[ho,cU (xs:=a) hm hn,zj]
  exact Ab _ J.pm
 ·rw[ho,Af]
  refine⟨eZ sa (zo _) hn (yP _),J.so,fun x hx y hy=>?_⟩
  obtain⟨i,h1,h2,rfl⟩:=(bG hn).mp hx
  exact(J.hi y (AH.mp hy)).1 i h2
 ·rcases (mem x).mp hx with hx | hx
  ·obtain⟨i,h1,h2,rfl⟩:=(bG hn).mp hx
   exact⟨fun i' h3=>sa i' i (zo _) (by omega) (by omega),h i h1 h2⟩
  ·exact⟨fun i h1=>(J.hi x hx).1 i (by omega),(J.hi x hx).2⟩
theorem JH.takeB (J:JH L a b out na nb) (sb:Sr L b 0 b.size) (hn:nb≤b.size) {m:Nat} (hm:m≤nb) (h:∀j,m≤j→j< nb→∀i,i< na→L (at' a i) (at' b j)=true) {out':Array z5} (ho:out'.toList.reverse=ext' b m nb++out.toList.reverse):JH L a b out' na m:=by
 have mem:∀x,x∈out'.toList↔x∈ext' b m nb∨x∈out.toList:=fun x=>by rw[←AH,ho,zE,AH]
 refine⟨?_,?_,fun x hx=>?_⟩
 ·rw[ho,cU (xs:=b) hm hn]
  refine(Ab _ J.pm).trans ?_
  rw[←zj,←zj]
  exact A5 _ B0
 ·rw[ho,Af]
  refine⟨eZ sb (zo _) hn (yP _),J.so,fun x hx y hy=>?_⟩
  obtain⟨i,h1,h2,rfl⟩:=(bG hn).mp hx
  exact(J.hi y (AH.mp hy)).2 i h2
 ·rcases (mem x).mp hx with hx | hx
  ·obtain⟨i,h1,h2,rfl⟩:=(bG hn).mp hx
   exact⟨h i h1 h2,fun i' h3=>sb i' i (zo _) (by omega) (by omega)⟩
  ·exact⟨(J.hi x hx).1,fun i h1=>(J.hi x hx).2 i (by omega)⟩
theorem JH.fin (J:JH L a b out na nb) (sa:Sr L a 0 a.size) (sb:Sr L b 0 b.size) (ha:na≤a.size) (hb:nb≤b.size) (h:∀j,j< nb→∀i,i< na→L (at' b j) (at' a i)=true) {r:List z5} (hr:r=ext' b 0 nb++ext' a 0 na++out.toList.reverse):
  r.Perm (a.toList++b.toList)∧r.Pairwise (fun x y=>L x y=true):=by
 subst hr
 constructor
 ·have e1:a.toList=ext' a 0 na++ext' a na a.size:=by rw[←cU (zo _) ha,g9]
  have e2:b.toList=ext' b 0 nb++ext' b nb b.size:=by rw[←cU (zo _) hb,g9]
  rw[e1,e2]
  refine(Ab _ J.pm).trans ?_
  generalize ext' a 0 na=p
  generalize ext' a na a.size=q
  generalize ext' b 0 nb=u
  generalize ext' b nb b.size=v
  refine(A5 (q++v) (B0 (l₁:=u) (l₂:=p))).trans ?_
  rw[zj,zj]
  refine Ab _ ?_
  rw[←zj,←zj]
  exact A5 _ B0
 ·rw[zj,Af,Af]
  refine⟨eZ sb (zo _) hb (yP _),⟨eZ sa (zo _) ha (yP _),J.so,fun x hx y hy=>?_⟩,fun x hx y hy=>?_⟩
  ·obtain⟨i,h1,h2,rfl⟩:=(bG ha).mp hx
   exact(J.hi y (AH.mp hy)).1 i h2
  ·obtain⟨j,h1,h2,rfl⟩:=(bG hb).mp hx
   rcases zE.mp hy with hy | hy
   ·obtain⟨i,h3,h4,rfl⟩:=(bG ha).mp hy
    exact h j h2 i h4
   ·exact(J.hi y (AH.mp hy)).2 j h2
end
section
variable {M:DJ} {A:zP} {E:yH→yK→Prop} {s:yK} {κ:CJ} {U:z5→Prop} {L:z5→z5→Bool} {st:Ak}
theorem kX (out:Array z5) (x:z5):(out.push x).toList.reverse=x::out.toList.reverse:=by rw[AR,Ee];rfl
theorem jL (out xs:Array z5):(out++xs.reverse).toList.reverse=xs.toList++out.toList.reverse:=by rw[zK,Ee,CK,List.reverse_reverse]
theorem jM {xs:Array z5} {i:Nat} (h:0< i) (hi:i≤xs.size):ext' xs (i- 1) i=[at' xs (i- 1)]:=by
 have:=dZ (xs:=xs) (a:=i- 1) (b:=i- 1) (by omega) (yP _)
 rw[show i- 1+1=i by omega,d5]at this
 exact this
theorem lT (O:LtOk M A E s κ U L) {a b:Array z5} {Q:Array z5→Ak→Prop} (kd:kindOf st=κ) (ua:∀i,i< a.size→U (at' a i)) (ub:∀i,i< b.size→U (at' b i)) (za:0< a.size) (zb:0< b.size) (sa:Sr L a 0 a.size) (sb:Sr L b 0 b.size)
  (ne:∀i j,i< a.size→j< b.size→at' a i≠at' b j) (h0:L (at' b 0) (at' a 0)=true) (h1:∀j,j< b.size→L (at' b j) (at' a (a.size- 1))=true)
  (h:∀r st',cb st st'→r.toList.Perm (a.toList++b.toList)→r.toList.Pairwise (fun x y=>L x y=true)→Q r st'):wpS M A E s (iH a b) Q st:=by
 have b0:∀i,i< a.size→L (at' b 0) (at' a i)=true:=fun i hi=>by
  by_cases z:i=0
  ·rw[z];exact h0
  ·exact O.tr _ _ _ (ub 0 zb) (ua 0 za) (ua i hi) h0 (sa 0 i (yP _) (by omega) hi)
 rw[kW]
 refine yQ (Dz (Bd ⟨rfl,?_⟩))
 dsimp only
 refine yQ (b9 (by omega) ?_)
 have J0:JH L a b #[at' a (a.size- 1)] (a.size- 1) b.size:=by
  refine⟨?_,C9 _ _,fun x hx=>?_⟩
  ·rw[jM za (yP _),d5];exact .refl _
  ·have:x=at' a (a.size- 1):=by simpa using hx
   subst this
   exact⟨fun i h2=>sa i _ (zo _) h2 (by omega),fun j h2=>h1 j h2⟩
 have endA:∀(out:Array z5) na nb st',cb st st'→JH L a b out na nb→nb≤b.size→na=0→Q (a.extract 0 na++b.extract 0 nb++out.reverse) st':=fun out na nb st' al J h2 h3=>by
  subst h3
  have:=J.fin sa sb (zo _) h2 (fun j h3 i h4=>by omega) (r:=(a.extract 0 0++b.extract 0 nb++out.reverse).toList) (by
   rw[zK,zK,CK]
   show ext' a 0 0++ext' b 0 nb++out.toList.reverse=_
   rw[d5,C2,Ao])
  exact h _ st' al this.1 this.2
 have endB:∀(out:Array z5) na nb st',cb st st'→JH L a b out na nb→na≤a.size→nb=1→Q (b.extract 0 nb++a.extract 0 na++out.reverse) st':=fun out na nb st' al J h2 h3=>by
  have:=J.fin sa sb h2 (by omega) (fun j h4 i h5=>by
   have:j=0:=by omega
   rw[this];exact b0 i (by omega)) (r:=(b.extract 0 nb++a.extract 0 na++out.reverse).toList) (by rw[zK,zK,CK];rfl)
  exact h _ st' al this.1 this.2
 have al0:cb st st:=⟨rfl,rfl,rfl,rfl⟩
 by_cases z1:a.size- 1=0
 ·rw[if_pos (by simpa using z1)]
  exact yZ (endA _ _ _ st al0 J0 (yP _) z1)
 rw[if_neg (by simpa using z1)]
 by_cases z2:b.size=1
 ·rw[if_pos (by simpa using z2)]
  exact yZ (endB _ _ _ st al0 J0 (by omega) z2)
 rw[if_neg (by simpa using z2)]
 refine yQ (Cm ?_)
 refine yQ (Bn (A0 (I:=fun x c st'=>cb st st'∧∃na nb out g,c=(none,na,nb,out,g)∧JH L a b out na nb∧0< na∧1< nb∧na≤a.size∧nb≤b.size∧na+nb+x+1≤a.size+b.size) (Q:=fun c st'=>cb st st'∧∃r rest,c=(some r,rest)∧Q r st') ?step ?fin ?init) ?post)
 case init=>exact⟨al0,_,_,_,_,rfl,J0,by omega,by omega,by omega,by omega,by omega⟩
 case fin=>
  rintro c st' ⟨al,na,nb,out,g,rfl,J,q1,q2,q3,q4,q5⟩
  omega
 case post=>
  rintro c st' ⟨al,r,rest,rfl,hq⟩
  exact yZ hq
 case step=>
  rintro x c st1 _ hx ⟨al,na,nb,out,g,rfl,J,q1,q2,q3,q4,q5⟩
  dsimp only
  have ta:∀(out:Array z5) na nb,JH L a b out na nb→0< na→na≤a.size→0< nb→nb≤b.size→L (at' b (nb- 1)) (at' a (na- 1))=true→JH L a b (out.push (at' a (na- 1))) (na- 1) nb:=fun out na nb J q1 q3 q2 q4 hw=>
   J.takeA sa q3 (m:=na- 1) (by omega) (fun i h2 h3 j h4=>by
    have:i=na- 1:=by omega
    subst this
    by_cases z:j=nb- 1
    ·rw[z];exact hw
    ·exact O.tr _ _ _ (ub _ (by omega)) (ub _ (by omega)) (ua _ (by omega)) (sb j (nb- 1) (zo _) (by omega) (by omega)) hw) (by rw[kX,jM q1 q3];rfl)
  have tb:∀(out:Array z5) na nb,JH L a b out na nb→0< nb→nb≤b.size→na≤a.size→(∀i,i< na→L (at' a i) (at' b (nb- 1))=true)→JH L a b (out.push (at' b (nb- 1))) na (nb- 1):=fun out na nb J q1 q3 q4 hw=>
   J.takeB sb q3 (m:=nb- 1) (by omega) (fun j h2 h3 i h4=>by
    have:j=nb- 1:=by omega
    subst this
    exact hw i h4) (by rw[kX,jM q1 q3];rfl)
  refine yQ (Bn (A0 (I:=fun y c st'=>st'=st1∧∃na nb out ac bc,c=(none,na,nb,out,ac,bc)∧JH L a b out na nb∧0< na∧1< nb∧na≤a.size∧nb≤b.size∧na+nb+x+y+1≤a.size+b.size)
   (Q:=fun c st'=>st'=st1∧((∃r rest,c=(some r,rest)∧Q r st')∨∃na nb out ac bc,c=(none,na,nb,out,ac,bc)∧JH L a b out na nb∧0< na∧1< nb∧na≤a.size∧nb≤b.size∧na+nb+x+2≤a.size+b.size)) ?step1 ?fin1 ?init1) ?post1)
  case init1=>exact⟨rfl,_,_,_,_,_,rfl,J,q1,q2,q3,q4,by omega⟩
  case fin1=>
   rintro c st' ⟨rfl,na,nb,out,ac,bc,rfl,J,q1,q2,q3,q4,q5⟩
   exact⟨rfl,.inr ⟨_,_,_,_,_,rfl,J,q1,q2,q3,q4,by omega⟩⟩
  case step1=>
   rintro y c st' _ hy ⟨rfl,na,nb,out,ac,bc,rfl,J,q1,q2,q3,q4,q5⟩
   dsimp only
   refine yQ (b9 (by omega) (yQ (b9 (by omega) (yQ (O.lt _ _ _ _ (ub _ (by omega)) (ua _ (by omega)) (al.1.trans kd) ?_)))))
   cases hw:L (at' b (nb- 1)) (at' a (na- 1))with
   | true =>
    dsimp only
    rw[if_pos rfl]
    refine yQ (b9 (by omega) ?_)
    have J':=ta out na nb J q1 q3 (by omega) q4 hw
    by_cases z:na- 1=0
    ·rw[if_pos (by simpa using z)]
     exact yZ ⟨rfl,.inl ⟨_,_,rfl,endA _ _ _ _ al J' q4 z⟩⟩
    ·rw[if_neg (by simpa using z)]
     by_cases w:ac+1≥g
     ·rw[if_pos w];exact yZ ⟨rfl,.inr ⟨_,_,_,_,_,rfl,J',by omega,q2,by omega,q4,by omega⟩⟩
     ·rw[if_neg w];exact yZ ⟨rfl,_,_,_,_,_,rfl,J',by omega,q2,by omega,q4,by omega⟩
   | false =>
    dsimp only
    rw[if_neg (by decide)]
    refine yQ (b9 (by omega) ?_)
    have hw':=O.tot _ _ (ub _ (by omega)) (ua _ (by omega)) (fun e=>ne (na- 1) (nb- 1) (by omega) (by omega) e.symm) hw
    have J':=tb out na nb J (by omega) q4 q3 (fun i hi=>by
     by_cases z:i=na- 1
     ·rw[z];exact hw'
     ·exact O.tr _ _ _ (ua _ (by omega)) (ua _ (by omega)) (ub _ (by omega)) (sa i (na- 1) (zo _) (by omega) (by omega)) hw')
    by_cases z:nb- 1=1
    ·rw[if_pos (by simpa using z)]
     exact yZ ⟨rfl,.inl ⟨_,_,rfl,endB _ _ _ _ al J' q3 z⟩⟩
    ·rw[if_neg (by simpa using z)]
     by_cases w:bc+1≥g
     ·rw[if_pos w];exact yZ ⟨rfl,.inr ⟨_,_,_,_,_,rfl,J',q1,by omega,q3,by omega,by omega⟩⟩
     ·rw[if_neg w];exact yZ ⟨rfl,_,_,_,_,_,rfl,J',q1,by omega,q3,by omega,by omega⟩
  case post1=>
   rintro c st' ⟨rfl,⟨r,rest,rfl,hq⟩ | ⟨na,nb,out,ac,bc,rfl,J,q1,q2,q3,q4,q5⟩⟩
   ·exact yZ ⟨al,_,_,rfl,hq⟩
   dsimp only
   refine yQ (Dz (Bd ⟨rfl,?_⟩))
   refine yQ (Bn (A0 (I:=fun y c st'=>cb st st'∧∃na nb out g ac bc,c=(none,na,nb,out,g,ac,bc)∧JH L a b out na nb∧0< na∧1< nb∧na≤a.size∧nb≤b.size∧na+nb+x+2≤a.size+b.size)
    (Q:=fun c st'=>cb st st'∧((∃r rest,c=(some r,rest)∧Q r st')∨∃na nb out g ac bc,c=(none,na,nb,out,g,ac,bc)∧JH L a b out na nb∧0< na∧1< nb∧na≤a.size∧nb≤b.size∧na+nb+x+2≤a.size+b.size)) ?step2 ?fin2 ?init2) ?post2)
   case init2=>exact⟨al,_,_,_,_,_,_,rfl,J,q1,q2,q3,q4,q5⟩
   case fin2=>exact fun c st' ⟨al,na,nb,out,g,ac,bc,e,J,q⟩=>⟨al,.inr ⟨na,nb,out,g,ac,bc,e,J,q⟩⟩
   case post2=>
    rintro c st' ⟨al,⟨r,rest,rfl,hq⟩ | ⟨na,nb,out,g,ac,bc,rfl,J,q1,q2,q3,q4,q5⟩⟩
    ·exact yZ ⟨al,_,_,rfl,hq⟩
    ·dsimp only
     refine yQ (Ap (yZ ⟨al,_,_,_,_,rfl,J,q1,q2,q3,q4,by omega⟩))
   case step2=>
    rintro y c st' _ hy ⟨al,na,nb,out,g,ac,bc,rfl,J,q1,q2,q3,q4,q5⟩
    dsimp only
    let C:=Option (Array z5)×Nat×Nat×Array z5×Nat×Nat×Nat
    let R:ForInStep C→Ak→Prop:=fun r st'=>match r with
     | .done c=>cb st st'∧((∃r rest,c=(some r,rest)∧Q r st')∨∃na nb out g ac bc,c=(none,na,nb,out,g,ac,bc)∧JH L a b out na nb∧0< na∧1< nb∧na≤a.size∧nb≤b.size∧na+nb+x+2≤a.size+b.size)
     | .yield c=>cb st st'∧∃na nb out g ac bc,c=(none,na,nb,out,g,ac,bc)∧JH L a b out na nb∧0< na∧1< nb∧na≤a.size∧nb≤b.size∧na+nb+x+2≤a.size+b.size
    have pC:∀(out:Array z5) na nb g k k1 st',cb st st'→JH L a b out na nb→0< na→1< nb→na≤a.size→nb≤b.size→na+nb+x+2≤a.size+b.size→L (at' b (nb- 1)) (at' a (na- 1))=true→wpS M A E s (do
      let x ←elem' a (na- 1)
      if(na- 1 == 0)=true then pure (zp (some (a.extract 0 (na- 1)++b.extract 0 nb++(out.push x).reverse),na- 1,nb,out.push x,g,k,k1))
      else if(decide (k< 7) && decide (k1< 7))=true then pure (zp (none,na- 1,nb,out.push x,g,k,k1))
      else pure (zy (none,na- 1,nb,out.push x,g,k,k1))) R st':=by
     intro out na nb g k k1 st' al J q1 q2 q3 q4 q5 hba
     refine yQ (b9 (by omega) ?_)
     have J':=ta out na nb J q1 q3 (by omega) q4 hba
     by_cases z:na- 1=0
     ·rw[if_pos (by simpa using z)]
      exact yZ ⟨al,.inl ⟨_,_,rfl,endA _ _ _ _ al J' q4 z⟩⟩
     ·rw[if_neg (by simpa using z)]
      by_cases w:(decide (k< 7) && decide (k1< 7))=true
      ·rw[if_pos w];exact yZ ⟨al,.inr ⟨_,_,_,_,_,_,rfl,J',by omega,q2,by omega,q4,by omega⟩⟩
      ·rw[if_neg w];exact yZ ⟨al,_,_,_,_,_,_,rfl,J',by omega,q2,by omega,q4,by omega⟩
    have pB:∀(out:Array z5) na nb g k bc st',cb st st'→JH L a b out na nb→0< na→1< nb→na≤a.size→nb≤b.size→na+nb+x+2≤a.size+b.size→(∀i,i< na→L (at' a i) (at' b (nb- 1))=true)→wpS M A E s (do
      let x ←elem' b (nb- 1)
      if(nb- 1 == 1)=true then pure (zp (some (b.extract 0 (nb- 1)++a.extract 0 na++(out.push x).reverse),na,nb- 1,out.push x,g,k,bc))
      else
       let y ←elem' a (na- 1)
       let some m ←d4 true y b 0 (nb- 1) (nb- 1- 1) | pure (zp (some (a.extract 0 na++b.extract 0 (nb- 1)++(out.push x).reverse),na,nb- 1,out.push x,g,k,bc))
       if nb- 1- m> 0 then
        if(m == 1)=true then pure (zp (some (b.extract 0 m++a.extract 0 na++(out.push x++(b.extract m (nb- 1)).reverse).reverse),na,m,out.push x++(b.extract m (nb- 1)).reverse,g,k,nb- 1- m))
        else if(m == 0)=true then pure (zp (some (a.extract 0 na++b.extract 0 m++(out.push x++(b.extract m (nb- 1)).reverse).reverse),na,m,out.push x++(b.extract m (nb- 1)).reverse,g,k,nb- 1- m))
        else
         let z ←elem' a (na- 1)
         if(na- 1 == 0)=true then pure (zp (some (a.extract 0 (na- 1)++b.extract 0 m++((out.push x++(b.extract m (nb- 1)).reverse).push z).reverse),na- 1,m,(out.push x++(b.extract m (nb- 1)).reverse).push z,g,k,nb- 1- m))
         else if(decide (k< 7) && decide (nb- 1- m< 7))=true then pure (zp (none,na- 1,m,(out.push x++(b.extract m (nb- 1)).reverse).push z,g,k,nb- 1- m))
         else pure (zy (none,na- 1,m,(out.push x++(b.extract m (nb- 1)).reverse).push z,g,k,nb- 1- m))
       else
        let z ←elem' a (na- 1)
        if(na- 1 == 0)=true then pure (zp (some (a.extract 0 (na- 1)++b.extract 0 (nb- 1)++((out.push x).push z).reverse),na- 1,nb- 1,(out.push x).push z,g,k,nb- 1- m))
        else if(decide (k< 7) && decide (nb- 1- m< 7))=true then pure (zp (none,na- 1,nb- 1,(out.push x).push z,g,k,nb- 1- m))
        else pure (zy (none,na- 1,nb- 1,(out.push x).push z,g,k,nb- 1- m))) R st':=by
     intro out na nb g k bc st' al J q1 q2 q3 q4 q5 hab
     refine yQ (b9 (by omega) ?_)
     have J':=tb out na nb J (by omega) q4 q3 hab
     by_cases z:nb- 1=1
     ·rw[if_pos (by simpa using z)]
      exact yZ ⟨al,.inl ⟨_,_,rfl,endB _ _ _ _ al J' q3 z⟩⟩
     rw[if_neg (by simpa using z)]
     refine yQ (b9 (by omega) (yQ (cM O (ua _ (by omega)) (fun i hi=>ub _ (by omega)) (by omega) (by omega) (al.1.trans kd) (fun i j hij hj hB=>?_) fun m hm hB=>?_)))
     ·have hB':L (at' b (0+j)) (at' a (na- 1))=true:=hB
      show L (at' b (0+i)) (at' a (na- 1))=true
      rw[Ba]at hB' ⊢
      exact O.tr _ _ _ (ub _ (by omega)) (ub _ (by omega)) (ua _ (by omega)) (sb i j (zo _) hij (by omega)) hB'
     have hB':∀i,i< nb- 1→(L (at' b i) (at' a (na- 1))=true↔i< m):=fun i hi=>by
      have e:L (at' b (0+i)) (at' a (na- 1))=true↔i< m:=hB i hi
      rwa [Ba]at e
     have m1:1≤m:=(hB' 0 (by omega)).mp (b0 _ (by omega))
     dsimp only
     have J2:JH L a b (out.push (at' b (nb- 1))++(b.extract m (nb- 1)).reverse) na m:=J'.takeB sb (by omega) hm (fun j h2 h3 i h4=>by
      have e:L (at' b j) (at' a (na- 1))=false:=by
       cases e:L (at' b j) (at' a (na- 1))with
       | false=>rfl
       | true=>exact absurd ((hB' j h3).mp e) (by omega)
      have e2:=O.tot _ _ (ub _ (by omega)) (ua _ (by omega)) (fun e=>ne (na- 1) j (by omega) (by omega) e.symm) e
      by_cases w:i=na- 1
      ·rw[w];exact e2
      ·exact O.tr _ _ _ (ua _ (by omega)) (ua _ (by omega)) (ub _ (by omega)) (sa i (na- 1) (zo _) (by omega) (by omega)) e2) (by rw[jL];rfl)
     have ba:L (at' b (m- 1)) (at' a (na- 1))=true:=(hB' (m- 1) (by omega)).mpr (by omega)
     by_cases w:nb- 1- m> 0
     ·rw[if_pos w]
      by_cases v:m=1
      ·rw[if_pos (by simpa using v)]
       exact yZ ⟨al,.inl ⟨_,_,rfl,endB _ _ _ _ al J2 q3 v⟩⟩
      ·rw[if_neg (by simpa using v),if_neg (by simp;omega)]
       exact pC _ _ _ _ _ _ _ al J2 q1 (by omega) q3 (by omega) (by omega) ba
     ·rw[if_neg w]
      have:m=nb- 1:=by omega
      subst this
      exact pC _ _ _ _ _ _ _ al J' q1 (by omega) q3 (by omega) (by omega) ba
    by_cases w:g> 1
    ·rw[if_pos w]
     refine yQ (Ap (yQ (b9 (by omega) (yQ (cM O (ub _ (by omega)) (fun i hi=>ua _ (by omega)) (by omega) (by omega) (al.1.trans kd) (fun i j hij hj hB=>?_) fun m hm hB=>?_)))))
     ·have hB':(!L (at' b (nb- 1)) (at' a (0+j)))=true:=hB
      show(!L (at' b (nb- 1)) (at' a (0+i)))=true
      rw[Ba]at hB' ⊢
      cases e:L (at' b (nb- 1)) (at' a i)with
      | false=>rfl
      | true =>
       rw[O.tr _ _ _ (ub _ (by omega)) (ua _ (by omega)) (ua _ (by omega)) e (sa i j (zo _) hij (by omega))]at hB'
       exact hB'
     have hB':∀i,i< na→((!L (at' b (nb- 1)) (at' a i))=true↔i< m):=fun i hi=>by
      have e:(!L (at' b (nb- 1)) (at' a (0+i)))=true↔i< m:=hB i hi
      rwa [Ba]at e
     dsimp only
     have J1:JH L a b (out++(a.extract m na).reverse) m nb:=J.takeA sa q3 hm (fun i h2 h3 j h4=>by
      have e:L (at' b (nb- 1)) (at' a i)=true:=by
       cases e:L (at' b (nb- 1)) (at' a i)with
       | true=>rfl
       | false=>exact absurd ((hB' i h3).mp (by rw[e];rfl)) (by omega)
      by_cases v:j=nb- 1
      ·rw[v];exact e
      ·exact O.tr _ _ _ (ub _ (by omega)) (ub _ (by omega)) (ua _ (by omega)) (sb j (nb- 1) (zo _) (by omega) (by omega)) e) (by rw[jL];rfl)
     have hab:∀i,i< m→L (at' a i) (at' b (nb- 1))=true:=fun i hi=>by
      have e:=(hB' i (by omega)).mpr hi
      exact O.tot _ _ (ub _ (by omega)) (ua _ (by omega)) (fun e=>ne i (nb- 1) (by omega) (by omega) e.symm) (by simpa using e)
     by_cases v:na- m> 0
     ·rw[if_pos v]
      by_cases u:m=0
      ·rw[if_pos (by simpa using u)]
       exact yZ ⟨al,.inl ⟨_,_,rfl,endA _ _ _ _ al J1 q4 u⟩⟩
      ·rw[if_neg (by simpa using u)]
       exact pB _ _ _ _ _ _ _ al J1 (by omega) q2 (by omega) q4 (by omega) hab
     ·rw[if_neg v]
      have:m=na:=by omega
      subst this
      exact pB _ _ _ _ _ _ _ al J q1 q2 q3 q4 (by omega) hab
    ·rw[if_neg w]
     refine yQ (Ap (yQ (b9 (by omega) (yQ (cM O (ub _ (by omega)) (fun i hi=>ua _ (by omega)) (by omega) (by omega) (al.1.trans kd) (fun i j hij hj hB=>?_) fun m hm hB=>?_)))))
     ·have hB':(!L (at' b (nb- 1)) (at' a (0+j)))=true:=hB
      show(!L (at' b (nb- 1)) (at' a (0+i)))=true
      rw[Ba]at hB' ⊢
      cases e:L (at' b (nb- 1)) (at' a i)with
      | false=>rfl
      | true =>
       rw[O.tr _ _ _ (ub _ (by omega)) (ua _ (by omega)) (ua _ (by omega)) e (sa i j (zo _) hij (by omega))]at hB'
       exact hB'
     have hB':∀i,i< na→((!L (at' b (nb- 1)) (at' a i))=true↔i< m):=fun i hi=>by
      have e:(!L (at' b (nb- 1)) (at' a (0+i)))=true↔i< m:=hB i hi
      rwa [Ba]at e
     dsimp only
     have J1:JH L a b (out++(a.extract m na).reverse) m nb:=J.takeA sa q3 hm (fun i h2 h3 j h4=>by
      have e:L (at' b (nb- 1)) (at' a i)=true:=by
       cases e:L (at' b (nb- 1)) (at' a i)with
       | true=>rfl
       | false=>exact absurd ((hB' i h3).mp (by rw[e];rfl)) (by omega)
      by_cases v:j=nb- 1
      ·rw[v];exact e
      ·exact O.tr _ _ _ (ub _ (by omega)) (ub _ (by omega)) (ua _ (by omega)) (sb j (nb- 1) (zo _) (by omega) (by omega)) e) (by rw[jL];rfl)
     have hab:∀i,i< m→L (at' a i) (at' b (nb- 1))=true:=fun i hi=>by
      have e:=(hB' i (by omega)).mpr hi
      exact O.tot _ _ (ub _ (by omega)) (ua _ (by omega)) (fun e=>ne i (nb- 1) (by omega) (by omega) e.symm) (by simpa using e)
     by_cases v:na- m> 0
     ·rw[if_pos v]
      by_cases u:m=0
      ·rw[if_pos (by simpa using u)]
       exact yZ ⟨al,.inl ⟨_,_,rfl,endA _ _ _ _ al J1 q4 u⟩⟩
      ·rw[if_neg (by simpa using u)]
       exact pB _ _ _ _ _ _ _ al J1 (by omega) q2 (by omega) q4 (by omega) hab
     ·rw[if_neg v]
      have:m=na:=by omega
      subst this
      exact pB _ _ _ _ _ _ _ al J q1 q2 q3 q4 (by omega) hab
end
def f6:Nat→StateT Ak Sem Bool:=sortPriv% PySem.Builtin.mergeAt
def putAt (xs:Array z5) (off:Nat) (m:Array z5):Array z5:=m.toList.zipIdx.foldl (fun a (x:z5×Nat)=>a.setIfInBounds (off+x.2) x.1) xs
theorem kY (i:Nat):f6 i=(do
 let s ←get
 let (some (sa,na,power),some (sb,nb,_)):=((pendingOf s)[i]?,(pendingOf s)[i+1]?) | unsupported "internal:list.sort.pending"
 set (BL (kindOf s) (arrOf s) (((pendingOf s).setIfInBounds i (sa,na+nb,power)).eraseIdxIfInBounds (i+1)) (gallopOf s) (failedOf s))
 let some k ←d4 false (←elem' (arrOf s) sb) (arrOf s) sa na 0 | return false
 let (sa,na):=(sa+k,na- k)
 if na == 0 then return true
 let some nb ←d4 true (←elem' (arrOf s) (sa+na- 1)) (arrOf s) sb nb (nb- 1) | return false
 if nb == 0 then return true
 let x:=(arrOf s).extract sa sb
 let y:=(arrOf s).extract sb (sb+nb)
 let merged ←if na≤nb then iG x y else iH x y
 modify fun s=>setArr s (putAt (arrOf s) sa merged)
 return (failedOf (←get)).isNone):=rfl
theorem qM:∀(m:List z5) (off j0:Nat) (xs:Array z5),off+j0+m.length≤xs.size→
  ((m.zipIdx j0).foldl (fun a (x:z5×Nat)=>a.setIfInBounds (off+x.2) x.1) xs).size=xs.size∧∀i,at' ((m.zipIdx j0).foldl (fun a (x:z5×Nat)=>a.setIfInBounds (off+x.2) x.1) xs) i=if off+j0≤i∧i< off+j0+m.length then m.getD (i- (off+j0)) (A1,A1)else at' xs i
 | [],off,j0,xs,h=>⟨rfl,fun i=>by rw[if_neg (by simp)];rfl⟩
 | x :: m, off, j0, xs, h => by
  simp only[AI]at h
  have ih:=qM m off (j0+1) (xs.setIfInBounds (off+j0) x) (by rw[Dr];omega)
  rw[Dw,DM]
  refine⟨ih.1.trans (Dr ..),fun i=>?_⟩
  rw[ih.2]
  have e:at' (xs.setIfInBounds (off+j0) x) i=if i=off+j0 then x else at' xs i:=by
   simp only[at',zG]
   by_cases z:i=off+j0
   ·rw[if_pos z,z,Array.getElem?_setIfInBounds_self_of_lt (by omega)];rfl
   ·rw[if_neg z,Array.getElem?_setIfInBounds_ne (by omega)]
  by_cases z1:off+(j0+1)≤i∧i< off+(j0+1)+m.length
  ·rw[if_pos z1,if_pos (by simp;omega),show i- (off+j0)=(i- (off+(j0+1)))+1 by omega]
   rfl
  ·rw[if_neg z1,e]
   by_cases z2:i=off+j0
   ·rw[if_pos z2,if_pos (by simp;omega),z2,Cj];rfl
   ·rw[if_neg z2,if_neg (by simp;omega)]
theorem qN {xs m:Array z5} {off:Nat} (h:off+m.size≤xs.size):(putAt xs off m).size=xs.size∧∀i,at' (putAt xs off m) i=if off≤i∧i< off+m.size then at' m (i- off)else at' xs i:=by
 have:=qM m.toList off 0 xs (by simpa using h)
 refine⟨this.1,fun i=>?_⟩
 have e:=this.2 i
 simp only[Nat.add_zero,zm]at e
 refine e.trans ?_
 by_cases z:off≤i∧i< off+m.size
 ·rw[if_pos z,if_pos z]
  simp[at',zG,A2]
 ·rw[if_neg z,if_neg z]
theorem qO {xs m:Array z5} {off:Nat} (h:off+m.size≤xs.size):(putAt xs off m).toList=ext' xs 0 off++m.toList++ext' xs (off+m.size) xs.size:=by
 obtain⟨hs,ha⟩:=qN h
 apply Al
 intro i
 have l1:(ext' xs 0 off).length=off:=by rw[d0];simp;omega
 by_cases z:i< xs.size
 ·rw[yV,cT (by omega),ha]
  by_cases z1:i< off
  ·rw[if_neg (by omega),zj,zc (by omega),d0,E1,zL (by omega),yV,cT z]
  ·by_cases z2:i< off+m.size
   ·rw[if_pos (by omega),zj,zd (by omega),l1,zc (by simpa using (by omega:i- off< m.size)),yV,cT (by omega)]
   ·rw[if_neg (by omega),zd (by simp[l1];omega),d0]
    have:(ext' xs 0 off++m.toList).length=off+m.size:=by simp[l1]
    rw[this,zL (by omega),zZ,yV,show off+m.size+(i- (off+m.size))=i by omega,cT z]
 ·have l2:(ext' xs (off+m.size) xs.size).length=xs.size- (off+m.size):=by rw[d0];simp
  rw[zT (by simp;omega),zT (by simp[l1,l2];omega)]
theorem qP {xs:Array z5} {a b i:Nat} (hb:b≤xs.size) (hi:i< b- a):at' (xs.extract a b) i=at' xs (a+i):=by
 have h1:i< (xs.extract a b).size:=by simp;omega
 have e:=cT h1
 rw[Array.getElem?_extract_of_lt (by omega)]at e
 have e2:=cT (xs:=xs) (i:=a+i) (by omega)
 rw[zl (by omega)]at e2
 exact(zR e).symm.trans (zR e2)
theorem qQ {xs:Array z5} {a b:Nat} (hb:b≤xs.size):(xs.extract a b).size=b- a:=by simp;omega
section
variable {M:DJ} {A:zP} {E:yH→yK→Prop} {s:yK} {κ:CJ} {U:z5→Prop} {L:z5→z5→Bool} {a0:List z5} {st:Ak}
theorem lU (O:LtOk M A E s κ U L) (hU:∀x∈a0,U x) (nd:a0.Nodup) {i sa na sb nb pw pw':Nat} {Q:Bool→Ak→Prop} (B:SB κ a0 st) (p1:(pendingOf st)[i]? =some (sa,na,pw)) (p2:(pendingOf st)[i+1]? =some (sb,nb,pw')) (hsb:sb=sa+na) (z1:0< na) (z2:0< nb) (hz:sb+nb≤a0.length)
  (s1:Sr L (arrOf st) sa sb) (s2:Sr L (arrOf st) sb (sb+nb))
  (h:∀st',SB κ a0 st'→pendingOf st'=((pendingOf st).setIfInBounds i (sa,na+nb,pw)).eraseIdxIfInBounds (i+1)→Sr L (arrOf st') sa (sb+nb)→(∀i,i< sa∨sb+nb≤i→at' (arrOf st') i=at' (arrOf st) i)→Q true st'):wpS M A E s (f6 i) Q st:=by
 have hs:=B.size
 have uu:∀i,i< a0.length→U (at' (arrOf st) i):=fun i hi=>B.u hU hi
 have nn:∀i j,i< a0.length→j< a0.length→i≠j→at' (arrOf st) i≠at' (arrOf st) j:=fun i j hi hj hij=>B.ne nd hi hj hij
 rw[kY]
 refine yQ (Cm ?_)
 rw[p1,p2]
 dsimp only
 refine yQ (Ap (f:=fun _=>BL (kindOf st) (arrOf st) (((pendingOf st).setIfInBounds i (sa,na+nb,pw)).eraseIdxIfInBounds (i+1)) (gallopOf st) (failedOf st)) ?_)
 have B1:SB κ a0 (BL (kindOf st) (arrOf st) (((pendingOf st).setIfInBounds i (sa,na+nb,pw)).eraseIdxIfInBounds (i+1)) (gallopOf st) (failedOf st)):=⟨B.kind,B.failed,B.perm⟩
 refine yQ (b9 (by omega) (yQ (cM O (uu _ (by omega)) (fun i hi=>uu _ (by omega)) (by omega) z1 B.kind (fun i j hij hj hB=>?_) fun k hk hB=>?_)))
 ·have hB':(!L (at' (arrOf st) sb) (at' (arrOf st) (sa+j)))=true:=hB
  show(!L (at' (arrOf st) sb) (at' (arrOf st) (sa+i)))=true
  cases e:L (at' (arrOf st) sb) (at' (arrOf st) (sa+i))with
  | false=>rfl
  | true =>
   rw[O.tr _ _ _ (uu _ (by omega)) (uu _ (by omega)) (uu _ (by omega)) e (s1 (sa+i) (sa+j) (by omega) (by omega) (by omega))]at hB'
   exact hB'
 have hB':∀i,i< na→((!L (at' (arrOf st) sb) (at' (arrOf st) (sa+i)))=true↔i< k):=hB
 have lo:∀i,sa≤i→i< sa+k→L (at' (arrOf st) i) (at' (arrOf st) sb)=true:=fun i h2 h3=>by
  have e:=(hB' (i- sa) (by omega)).mpr (by omega)
  rw[show sa+(i- sa)=i by omega]at e
  exact O.tot _ _ (uu _ (by omega)) (uu _ (by omega)) (nn _ _ (by omega) (by omega) (by omega)) (by simpa using e)
 have hi:∀i,sa+k≤i→i< sb→L (at' (arrOf st) sb) (at' (arrOf st) i)=true:=fun i h2 h3=>by
  cases e:L (at' (arrOf st) sb) (at' (arrOf st) i)with
  | true=>rfl
  | false=>exact absurd ((hB' (i- sa) (by omega)).mp (by rw[show sa+(i- sa)=i by omega,e];rfl)) (by omega)
 have lob:∀i j,sa≤i→i< sa+k→sb≤j→j< sb+nb→L (at' (arrOf st) i) (at' (arrOf st) j)=true:=fun i j h2 h3 h4 h5=>by
  by_cases y:j=sb
  ·rw[y];exact lo i h2 h3
  ·exact O.tr _ _ _ (uu _ (by omega)) (uu _ (by omega)) (uu _ (by omega)) (lo i h2 h3) (s2 sb j (yP _) (by omega) h5)
 dsimp only
 by_cases y0:na- k=0
 ·rw[if_pos (by simpa using y0)]
  refine yZ (h _ B1 rfl (fun i j h2 h3 h4=>?_) fun _ _=>rfl)
  show L (at' (arrOf st) i) (at' (arrOf st) j)=true
  by_cases y1:j< sb
  ·exact s1 i j h2 h3 y1
  ·by_cases y2:sb≤i
   ·exact s2 i j y2 h3 h4
   ·exact lob i j h2 (by omega) (by omega) h4
 rw[if_neg (by simpa using y0)]
 have elast:sa+k+(na- k)- 1=sb- 1:=by omega
 refine yQ (b9 (by omega) (yQ (cM O (uu _ (by omega)) (fun i hi=>uu _ (by omega)) (by omega) (by omega) B.kind (fun i j hij hj hB=>?_) fun m hm hM=>?_)))
 ·have hB2:L (at' (arrOf st) (sb+j)) (at' (arrOf st) (sa+k+(na- k)- 1))=true:=hB
  show L (at' (arrOf st) (sb+i)) (at' (arrOf st) (sa+k+(na- k)- 1))=true
  exact O.tr _ _ _ (uu _ (by omega)) (uu _ (by omega)) (uu _ (by omega)) (s2 (sb+i) (sb+j) (by omega) (by omega) (by omega)) hB2
 have hM':∀i,i< nb→(L (at' (arrOf st) (sb+i)) (at' (arrOf st) (sb- 1))=true↔i< m):=fun i hi=>by
  have e:L (at' (arrOf st) (sb+i)) (at' (arrOf st) (sa+k+(na- k)- 1))=true↔i< m:=hM i hi
  rwa [elast]at e
 have m1:0< m:=(hM' 0 z2).mp (hi _ (by omega) (by omega))
 dsimp only
 rw[if_neg (by simp;omega)]
 have xz:((arrOf st).extract (sa+k) sb).size=na- k:=by rw[qQ (by omega)];omega
 have yz:((arrOf st).extract sb (sb+m)).size=m:=by rw[qQ (by omega)];omega
 have xa:∀i,i< na- k→at' ((arrOf st).extract (sa+k) sb) i=at' (arrOf st) (sa+k+i):=fun i hi=>qP (by omega) (by omega)
 have ya:∀i,i< m→at' ((arrOf st).extract sb (sb+m)) i=at' (arrOf st) (sb+i):=fun i hi=>qP (by omega) (by omega)
 have fin:∀(r:Array z5) st',cb (BL (kindOf st) (arrOf st) (((pendingOf st).setIfInBounds i (sa,na+nb,pw)).eraseIdxIfInBounds (i+1)) (gallopOf st) (failedOf st)) st'→r.toList.Perm (((arrOf st).extract (sa+k) sb).toList++((arrOf st).extract sb (sb+m)).toList)→r.toList.Pairwise (fun x y=>L x y=true)→
   wpS M A E s (do
    modify fun s=>setArr s (putAt (arrOf s) (sa+k) r)
    return (failedOf (←get)).isNone) Q st':=by
  intro r st' al pm so
  have e1:arrOf st'=arrOf st:=al.2.1
  have rz:r.size=na- k+m:=by
   have:=pm.length_eq
   rw[Bp,zm,zm,zm,xz,yz]at this
   exact this
  have bd:sa+k+r.size≤(arrOf st').size:=by rw[e1];omega
  obtain⟨pz,pa⟩:=qN bd
  have pl:=qO bd
  refine yQ (Ap (yQ (Cm (yZ ?_))))
  have ef:(failedOf (setArr st' (putAt (arrOf st') (sa+k) r))).isNone=true:=by
   show(failedOf st').isNone=true
   rw[al.2.2.2]
   show(failedOf st).isNone=true
   rw[B.failed];rfl
  rw[ef]
  have mem:∀i,sa+k≤i→i< sb+m→∃j,sa+k≤j∧j< sb+m∧at' r (i- (sa+k))=at' (arrOf st) j:=fun i h2 h3=>by
   have hr:at' r (i- (sa+k))∈r.toList:=by rw[dL (by omega)];exact AG _
   rcases zE.mp (pm.mem_iff.mp hr)with q | q
   ·obtain⟨j,q1,q2,q3⟩:=(bG (xs:=arrOf st) (by omega)).mp q
    exact⟨j,q1,by omega,q3⟩
   ·obtain⟨j,q1,q2,q3⟩:=(bG (xs:=arrOf st) (by omega)).mp q
    exact⟨j,by omega,q2,q3⟩
  refine h _ ⟨al.1.trans B.kind,by show failedOf st'=none;rw[al.2.2.2];exact B.failed,?_⟩ al.2.2.1 (fun i j h2 h3 h4=>?_) fun i h2=>?_
  ·show(putAt (arrOf st') (sa+k) r).toList.Perm a0
   rw[pl,e1]
   refine List.Perm.trans ?_ B.perm
   have ea:(arrOf st).toList=ext' (arrOf st) 0 (sa+k)++(((arrOf st).extract (sa+k) sb).toList++((arrOf st).extract sb (sb+m)).toList)++ext' (arrOf st) (sa+k+r.size) (arrOf st).size:=by
    show _=ext' (arrOf st) 0 (sa+k)++(ext' (arrOf st) (sa+k) sb++ext' (arrOf st) sb (sb+m))++ext' (arrOf st) (sa+k+r.size) (arrOf st).size
    rw[show sa+k+r.size=sb+m by omega,←cU (by omega) (by omega),←cU (by omega) (by omega),←cU (by omega) (by omega),g9]
   rw[ea]
   exact A5 _ (Ab _ pm)
  ·show L (at' (putAt (arrOf st') (sa+k) r) i) (at' (putAt (arrOf st') (sa+k) r) j)=true
   rw[pa,pa,e1]
   have hib:∀x y,sa+k≤x→x< sb+m→sb+m≤y→y< sb+nb→L (at' (arrOf st) x) (at' (arrOf st) y)=true:=fun x y g1 g2 g3 g4=>by
    have ey:L (at' (arrOf st) (sb- 1)) (at' (arrOf st) y)=true:=by
     refine O.tot _ _ (uu _ (by omega)) (uu _ (by omega)) (nn _ _ (by omega) (by omega) (by omega)) ?_
     cases e:L (at' (arrOf st) y) (at' (arrOf st) (sb- 1))with
     | false=>rfl
     | true=>exact absurd ((hM' (y- sb) (by omega)).mp (by rw[show sb+(y- sb)=y by omega];exact e)) (by omega)
    by_cases g5:sb≤x
    ·exact s2 x y g5 (by omega) g4
    ·by_cases g6:x=sb- 1
     ·rw[g6];exact ey
     ·exact O.tr _ _ _ (uu _ (by omega)) (uu _ (by omega)) (uu _ (by omega)) (s1 x (sb- 1) (by omega) (by omega) (by omega)) ey
   by_cases c1:i< sa+k
   ·rw[if_neg (by omega)]
    by_cases c2:sa+k≤j∧j< sa+k+r.size
    ·rw[if_pos c2]
     obtain⟨q,q1,q2,q3⟩:=mem j c2.1 (by omega)
     rw[q3]
     by_cases c3:q< sb
     ·exact s1 i q h2 (by omega) c3
     ·exact lob i q h2 c1 (by omega) (by omega)
    ·rw[if_neg c2]
     by_cases c3:j< sb
     ·exact s1 i j h2 h3 c3
     ·exact lob i j h2 c1 (by omega) h4
   ·by_cases c4:i< sa+k+r.size
    ·rw[if_pos (by omega)]
     by_cases c5:j< sa+k+r.size
     ·rw[if_pos (by omega),dL (by omega),dL (by omega)]
      exact AE.mp so _ _ _ _ (by omega)
     ·rw[if_neg (by omega)]
      obtain⟨q,q1,q2,q3⟩:=mem i (by omega) (by omega)
      rw[q3]
      exact hib q j q1 q2 (by omega) h4
    ·rw[if_neg (by omega),if_neg (by omega)]
     exact s2 i j (by omega) h3 h4
  ·show at' (putAt (arrOf st') (sa+k) r) i=_
   rw[pa,if_neg (by omega),e1]
 have xU:∀i,i< ((arrOf st).extract (sa+k) sb).size→U (at' ((arrOf st).extract (sa+k) sb) i):=fun i hi=>by rw[xa i (by omega)];exact uu _ (by omega)
 have yU:∀i,i< ((arrOf st).extract sb (sb+m)).size→U (at' ((arrOf st).extract sb (sb+m)) i):=fun i hi=>by rw[ya i (by omega)];exact uu _ (by omega)
 have xS:Sr L ((arrOf st).extract (sa+k) sb) 0 ((arrOf st).extract (sa+k) sb).size:=fun i j g1 g2 g3=>by rw[xa i (by omega),xa j (by omega)];exact s1 _ _ (by omega) (by omega) (by omega)
 have yS:Sr L ((arrOf st).extract sb (sb+m)) 0 ((arrOf st).extract sb (sb+m)).size:=fun i j g1 g2 g3=>by rw[ya i (by omega),ya j (by omega)];exact s2 _ _ (by omega) (by omega) (by omega)
 have xy:∀i j,i< ((arrOf st).extract (sa+k) sb).size→j< ((arrOf st).extract sb (sb+m)).size→at' ((arrOf st).extract (sa+k) sb) i≠at' ((arrOf st).extract sb (sb+m)) j:=fun i j g1 g2=>by rw[xa i (by omega),ya j (by omega)];exact nn _ _ (by omega) (by omega) (by omega)
 have f0:L (at' ((arrOf st).extract sb (sb+m)) 0) (at' ((arrOf st).extract (sa+k) sb) 0)=true:=by rw[xa 0 (by omega),ya 0 m1];exact hi _ (by omega) (by omega)
 have f1:∀j,j< ((arrOf st).extract sb (sb+m)).size→L (at' ((arrOf st).extract sb (sb+m)) j) (at' ((arrOf st).extract (sa+k) sb) (((arrOf st).extract (sa+k) sb).size- 1))=true:=fun j g1=>by
  rw[xa _ (by omega),ya j (by omega),xz,show sa+k+(na- k- 1)=sb- 1 by omega]
  exact(hM' j (by omega)).mpr (by omega)
 by_cases w:na- k≤m
 ·rw[if_pos w]
  exact yQ (lS O B.kind xU yU (by omega) (by omega) xS yS xy f0 f1 fin)
 ·rw[if_neg w]
  exact yQ (lT O B.kind xU yU (by omega) (by omega) xS yS xy f0 f1 fin)
end
def nq:Nat→Nat→Nat→Nat:=sortPriv% PySem.Builtin.minRun
def lV:Nat→Nat→Nat→Nat→Nat:=sortPriv% PySem.Builtin.power
theorem jN:sortRuns'=(do
 let size:=(arrOf (←get)).size
 let minrun:=nq size size 0
 let mut lo:=0
 for _ in [0:size]do
  if lo≥size then break
  let some found ←countRun' lo (size- lo) | return
  let mut n:=found
  if n< minrun then
   rule "list.sort.binary-insertion"
   let force:=min (size- lo) minrun
   if !(←binarySort' lo force n)then return
   n:=force
  if let some (s1,n1,_):=(pendingOf (←get)).back? then
   let pw:=lV size (2*s1+n1) (2*s1+n1+n1+n) size
   for _ in [0:size]do
    let p:=pendingOf (←get)
    let some (_,_,older):=(if p.size> 1 then p[p.size- 2]? else none) | break
    if older≤pw then break
    if !(←f6 (p.size- 2))then return
   modify fun s=>BL (kindOf s) (arrOf s) ((pendingOf s).modify ((pendingOf s).size- 1) fun(st,len,_)=>(st,len,pw)) (gallopOf s) (failedOf s)
  modify fun s=>BL (kindOf s) (arrOf s) ((pendingOf s).push (lo,n,0)) (gallopOf s) (failedOf s)
  lo:=lo+n
 for _ in [0:size]do
  let p:=pendingOf (←get)
  if p.size≤1 then break
  let i:=p.size- 2
  let before:=if i> 0 then p[i- 1]?.map (·.2.1)else none
  let i:=if before.any (· < (p[i+1]?.elim 0 (·.2.1)))then i- 1 else i
  if !(←f6 i)then return):=rfl
def rsP (p:Array (Nat×Nat×Nat)):List (Nat×Nat):=p.toList.map fun t=>(t.1,t.2.1)
def Chain:Nat→List (Nat×Nat)→Nat→Prop
 | a,[],b=>a=b
 | a,t::r,b=>t.1=a∧0< t.2∧Chain (a+t.2) r b
theorem du:∀(l r:List (Nat×Nat)) (a b:Nat),Chain a (l++r) b↔∃c,Chain a l c∧Chain c r b
 | [],r,a,b=>⟨fun h=>⟨a,rfl,h⟩,fun⟨c,h1,h2⟩=>by cases h1;exact h2⟩
 | t :: l, r, a, b => by
  constructor
  ·rintro ⟨h1,h2,h3⟩
   obtain⟨c,h4,h5⟩:=(du l r _ b).mp h3
   exact⟨c,⟨h1,h2,h4⟩,h5⟩
  ·rintro ⟨c,⟨h1,h2,h4⟩,h5⟩
   exact⟨h1,h2,(du l r _ b).mpr ⟨c,h4,h5⟩⟩
theorem ed:∀{l:List (Nat×Nat)} {a b:Nat},Chain a l b→a+l.length≤b∧∀t∈l,a≤t.1∧t.1+t.2≤b
 | [],a,b,h=>by cases h;exact⟨by simp,fun t ht=>by cases ht⟩
 | t :: l, a, b, ⟨h1, h2, h3⟩ => by
  have ih:=ed h3
  refine⟨by have:=ih.1;simp;omega,fun u hu=>?_⟩
  rcases zq.mp hu with rfl | hu
  ·have:=ih.1;omega
  ·have:=ih.2 u hu;omega
structure Rn (L:z5→z5→Bool) (p:Array (Nat×Nat×Nat)) (xs:Array z5) (lo:Nat):Prop where
 ch:Chain 0 (rsP p) lo
 so:∀t∈rsP p,Sr L xs t.1 (t.1+t.2)
theorem jO {α:Type} :∀(l:List α) (i:Nat) (x y:α),l[i]? =some x→l[i+1]? =some y→l=l.take i++x::y::l.drop (i+2)
 | [],i,x,y,h,_=>by simp at h
 | a :: l, 0, x, y, h1, h2 => by
  cases l with
  | nil=>simp at h2
  | cons b l =>
   simp at h1 h2
   subst h1 h2
   simp
 | a :: l, i + 1, x, y, h1, h2 => by
  have:=jO l i x y (by simpa using h1) (by simpa using h2)
  simp only[List.take_succ_cons,List.drop_succ_cons,Cy]
  exact congrArg (a:: ·) this
theorem kZ {p:Array (Nat×Nat×Nat)} {i:Nat} {x y z:Nat×Nat×Nat} (h1:p[i]? =some x) (h2:p[i+1]? =some y):((p.setIfInBounds i z).eraseIdxIfInBounds (i+1)).toList=p.toList.take i++z::p.toList.drop (i+2):=by
 have hl:i+1< p.size:=(Az.mp h2).1
 have e:=jO p.toList i x y (by rw[yV];exact h1) (by rw[yV];exact h2)
 have e1:((p.setIfInBounds i z).eraseIdxIfInBounds (i+1)).toList=(p.toList.set i z).eraseIdx (i+1):=by
  rw[Cq,BJ]
 rw[e1]
 have tl:(p.toList.take i).length=i:=by simp;omega
 conv=>lhs;rw[e]
 rw[List.set_append_right _ _ (by omega),tl,Cj,C6,Cb (by omega),tl,show i+1- i=1 by omega]
 rfl
theorem Rn.merge {L:z5→z5→Bool} {p:Array (Nat×Nat×Nat)} {xs xs':Array z5} {lo i sa na pw sb nb pw':Nat} (R:Rn L p xs lo) (h1:p[i]? =some (sa,na,pw)) (h2:p[i+1]? =some (sb,nb,pw'))
  (hs:Sr L xs' sa (sb+nb)) (ho:∀i,i< sa∨sb+nb≤i→at' xs' i=at' xs i):Rn L ((p.setIfInBounds i (sa,na+nb,pw)).eraseIdxIfInBounds (i+1)) xs' lo∧sb=sa+na∧0< na∧0< nb∧sb+nb≤lo:=by
 have e:=jO p.toList i _ _ (by rw[yV];exact h1) (by rw[yV];exact h2)
 have er:rsP p=(p.toList.take i).map (fun t=>(t.1,t.2.1))++(sa,na)::(sb,nb)::(p.toList.drop (i+2)).map (fun t=>(t.1,t.2.1)):=by
  unfold rsP;conv=>lhs;rw[e]
  simp
 have er2:rsP ((p.setIfInBounds i (sa,na+nb,pw)).eraseIdxIfInBounds (i+1))=(p.toList.take i).map (fun t=>(t.1,t.2.1))++(sa,na+nb)::(p.toList.drop (i+2)).map (fun t=>(t.1,t.2.1)):=by
  unfold rsP;rw[kZ h1 h2];simp
 have ch:=R.ch
 have so:=R.so
 rw[er]at ch so
 generalize (p.toList.take i).map (fun t=>(t.1,t.2.1))=l1 at*
 generalize (p.toList.drop (i+2)).map (fun t=>(t.1,t.2.1))=l2 at*
 obtain⟨c,c1,c2,c3,c4,c5,c6⟩:=(du _ _ _ _).mp ch
 dsimp only at c2 c3 c4 c5 c6
 subst c2
 have l6:=ed c6
 have l1':=ed c1
 refine⟨⟨?_,fun t ht=>?_⟩,by omega,c3,c5,by omega⟩
 ·rw[er2]
  exact(du _ _ _ _).mpr ⟨sa,c1,rfl,by show 0< na+nb;omega,by show Chain (sa+(na+nb)) l2 lo;rw[←FV];exact c6⟩
 ·rw[er2]at ht
  have keep:∀t:Nat×Nat,Sr L xs t.1 (t.1+t.2)→(t.1+t.2≤sa∨sb+nb≤t.1)→Sr L xs' t.1 (t.1+t.2):=fun t h h3 i j g1 g2 g3=>by
   rw[ho i (by omega),ho j (by omega)];exact h i j g1 g2 g3
  rcases zE.mp ht with ht | ht
  ·exact keep t (so t (by simp[ht])) (.inl (l1'.2 t ht).2)
  ·rcases zq.mp ht with rfl | ht
   ·show Sr L xs' sa (sa+(na+nb))
    rw[←FV,←c4];exact hs
   ·exact keep t (so t (by simp[ht])) (.inr (by have:=(l6.2 t ht).1;omega))
theorem Rn.two {L:z5→z5→Bool} {p:Array (Nat×Nat×Nat)} {xs:Array z5} {lo i sa na pw sb nb pw':Nat} (R:Rn L p xs lo) (h1:p[i]? =some (sa,na,pw)) (h2:p[i+1]? =some (sb,nb,pw')):sb=sa+na∧0< na∧0< nb∧sb+nb≤lo∧Sr L xs sa sb∧Sr L xs sb (sb+nb):=by
 have e:=jO p.toList i _ _ (by rw[yV];exact h1) (by rw[yV];exact h2)
 have er:rsP p=(p.toList.take i).map (fun t=>(t.1,t.2.1))++(sa,na)::(sb,nb)::(p.toList.drop (i+2)).map (fun t=>(t.1,t.2.1)):=by
  unfold rsP;conv=>lhs;rw[e]
  simp
 have ch:=R.ch
 have so:=R.so
 rw[er]at ch so
 obtain⟨c,c1,c2,c3,c4,c5,c6⟩:=(du _ _ _ _).mp ch
 dsimp only at c2 c3 c4 c5 c6
 have l6:=ed c6
 have s1:Sr L xs sa (sa+na):=so (sa,na) (by simp)
 have s2:Sr L xs sb (sb+nb):=so (sb,nb) (by simp)
 exact⟨by omega,c3,c5,by omega,by rw[show sb=sa+na by omega];exact s1,s2⟩
theorem Rn.keep {L:z5→z5→Bool} {p:Array (Nat×Nat×Nat)} {xs xs':Array z5} {lo:Nat} (R:Rn L p xs lo) (ho:∀i,i< lo→at' xs' i=at' xs i):Rn L p xs' lo:=
 ⟨R.ch,fun t ht i j g1 g2 g3=>by
  have:=(ed R.ch).2 t ht
  rw[ho i (by omega),ho j (by omega)]
  exact R.so t ht i j g1 g2 g3⟩
theorem Rn.push {L:z5→z5→Bool} {p:Array (Nat×Nat×Nat)} {xs:Array z5} {lo n w:Nat} (R:Rn L p xs lo) (hn:0< n) (hs:Sr L xs lo (lo+n)):Rn L (p.push (lo,n,w)) xs (lo+n):=by
 have e:rsP (p.push (lo,n,w))=rsP p++ [(lo,n)]:=by unfold rsP;simp
 refine⟨by rw[e];exact(du _ _ _ _).mpr ⟨lo,R.ch,rfl,hn,rfl⟩,fun t ht=>?_⟩
 rw[e]at ht
 rcases zE.mp ht with ht | ht
 ·exact R.so t ht
 ·have:t=(lo,n):=by simpa using ht
  subst this;exact hs
theorem iI (p:Array (Nat×Nat×Nat)) (i w:Nat):rsP (p.modify i fun(st,len,_)=>(st,len,w))=rsP p:=by
 unfold rsP
 apply Al
 intro j
 rw[yT,yT,yV,yV,Array.getElem?_modify]
 by_cases z:i=j
 ·rw[if_pos z]
  cases p[j]? <;> rfl
 ·rw[if_neg z]
theorem Rn.mod {L:z5→z5→Bool} {p:Array (Nat×Nat×Nat)} {xs:Array z5} {lo:Nat} (R:Rn L p xs lo) (i w:Nat):Rn L (p.modify i fun(st,len,_)=>(st,len,w)) xs lo:=⟨by rw[iI];exact R.ch,by rw[iI];exact R.so⟩
theorem nr (p:Array (Nat×Nat×Nat)):(rsP p).length=p.size:=by unfold rsP;simp
theorem oG {p:Array (Nat×Nat×Nat)} {i:Nat} {z:Nat×Nat×Nat} (h:i+1< p.size):((p.setIfInBounds i z).eraseIdxIfInBounds (i+1)).size=p.size- 1:=by
 rw[←zm,Cq,BJ,CG,AD,zm,if_pos h]
section
variable {M:DJ} {A:zP} {E:yH→yK→Prop} {s:yK} {κ:CJ} {U:z5→Prop} {L:z5→z5→Bool} {a0:List z5} {st:Ak}
theorem lW (O:LtOk M A E s κ U L) (hU:∀x∈a0,U x) (nd:a0.Nodup) {i lo:Nat} {Q:Bool→Ak→Prop} (B:SB κ a0 st) (R:Rn L (pendingOf st) (arrOf st) lo) (hi:i+1< (pendingOf st).size) (hlo:lo≤a0.length)
  (h:∀st',SB κ a0 st'→Rn L (pendingOf st') (arrOf st') lo→(pendingOf st').size=(pendingOf st).size- 1→(∀i,lo≤i→at' (arrOf st') i=at' (arrOf st) i)→Q true st'):wpS M A E s (f6 i) Q st:=by
 obtain⟨⟨sa,na,pw⟩,h1⟩:∃t,(pendingOf st)[i]? =some t:=⟨_,zl (by omega)⟩
 obtain⟨⟨sb,nb,pw'⟩,h2⟩:∃t,(pendingOf st)[i+1]? =some t:=⟨_,zl hi⟩
 obtain⟨t1,t2,t3,t4,t5,t6⟩:=R.two h1 h2
 refine lU O hU nd B h1 h2 t1 t2 t3 (by omega) t5 t6 fun st' B' ep s' o'=>?_
 have:=(R.merge h1 h2 s' o').1
 refine h st' B' (by rw[ep];exact this) (by rw[ep];exact oG hi) fun i hi=>o' i (.inr (by omega))
theorem l0 (O:LtOk M A E s κ U L) (hU:∀x∈a0,U x) (nd:a0.Nodup) {Q:Unit→Ak→Prop} (B:SB κ a0 st) (hp:pendingOf st= #[]) (h:∀st',SB κ a0 st'→Sr L (arrOf st') 0 a0.length→Q () st'):wpS M A E s sortRuns' Q st:=by
 have hs:=B.size
 rw[jN]
 refine yQ (Cm ?_)
 dsimp only
 rw[hs]
 generalize nq a0.length a0.length 0=mr
 refine yQ (Bn (A0 (I:=fun x c st'=>SB κ a0 st'∧∃lo,c=(none,lo)∧x≤lo∧lo≤a0.length∧Rn L (pendingOf st') (arrOf st') lo) (Q:=fun c st'=>SB κ a0 st'∧∃lo,c=(none,lo)∧Rn L (pendingOf st') (arrOf st') a0.length) ?step ?fin ?init) ?post)
 case init=>exact⟨B,0,rfl,yP _,zo _,by rw[hp];exact⟨rfl,fun t ht=>by cases ht⟩⟩
 case fin=>
  rintro c st' ⟨B',lo,rfl,q1,q2,R⟩
  have:lo=a0.length:=by omega
  subst this
  exact⟨B',_,rfl,R⟩
 case post=>
  rintro c st1 ⟨B1,lo,rfl,R1⟩
  dsimp only
  refine yQ (Bn (A0 (I:=fun x c st'=>c=(none,())∧SB κ a0 st'∧Rn L (pendingOf st') (arrOf st') a0.length∧((pendingOf st').size≤1∨(pendingOf st').size+x≤a0.length)) (Q:=fun c st'=>c=(none,())∧SB κ a0 st'∧Rn L (pendingOf st') (arrOf st') a0.length∧(pendingOf st').size≤1) ?fstep ?ffin ?finit) ?fpost)
  case finit=>
   refine⟨rfl,B1,R1,.inr ?_⟩
   have:=(ed R1.ch).1
   rw[nr]at this
   omega
  case ffin=>
   rintro c st' ⟨rfl,B',R',q⟩
   exact⟨rfl,B',R',by omega⟩
  case fstep=>
   rintro x c st' _ hx ⟨rfl,B',R',q⟩
   refine yQ (Cm ?_)
   by_cases z:(pendingOf st').size≤1
   ·rw[if_pos z];exact yZ ⟨rfl,B',R',z⟩
   ·rw[if_neg z]
    have hb:∀(c:Prop) [Decidable c],(if c then(pendingOf st').size- 2- 1 else(pendingOf st').size- 2)+1< (pendingOf st').size:=fun c _=>by split <;> omega
    refine yQ (lW O hU nd B' R' (hb _) (yP _) fun st2 B2 R2 e2 _=>?_)
    exact yZ ⟨rfl,B2,R2,by omega⟩
  case fpost=>
   rintro c st' ⟨rfl,B',R',q⟩
   refine yZ (h st' B' ?_)
   have ch:=R'.ch
   have so:=R'.so
   have hl:=nr (pendingOf st')
   generalize rsP (pendingOf st')=l at*
   match l,hl with
   | [], _ =>
    have:0=a0.length:=ch
    intro i j g1 g2 g3
    omega
   | [t], _ =>
    obtain⟨c1,c2,c3⟩:=ch
    have c4:0+t.2=a0.length:=c3
    have:=so t (by simp)
    rw[c1,c4]at this
    exact this
   | _::_::_,hl=>simp at hl;omega
 case step=>
  rintro x c st1 _ hx ⟨B1,lo,rfl,q1,q2,R1⟩
  dsimp only
  by_cases z:lo≥a0.length
  ·rw[if_pos z]
   have:lo=a0.length:=by omega
   subst this
   exact yZ ⟨B1,_,rfl,R1⟩
  rw[if_neg z]
  refine yQ (vt O hU nd (by omega) (by omega) B1 fun n st2 n1 n2 B2 e2 s2 o2=>?_)
  dsimp only
  by_cases y:n< mr
  ·rw[if_pos y]
   refine yQ (Dz (Bd ⟨rfl,?_⟩))
   refine yQ (tG O hU nd (by omega) (by omega) B2 s2 fun st3 B3 e3' s3 o3'=>?_)
   rw[if_neg (by decide)]
   have e3:pendingOf st3=pendingOf st1:=e3'.trans e2
   have o3:∀i,i< lo→at' (arrOf st3) i=at' (arrOf st1) i:=fun i hi=>(o3' i (.inl hi)).trans (o2 i (.inl hi))
   refine yQ (Cm ?_)
   have R3:Rn L (pendingOf st3) (arrOf st3) lo:=by rw[e3];exact R1.keep o3
   cases hb:(pendingOf st3).back? with
   | none =>
    dsimp only
    exact yQ (Ap (yZ ⟨⟨B3.kind,B3.failed,B3.perm⟩,lo+min (a0.length- lo) mr,rfl,by omega,by omega,R3.push (by omega) s3⟩))
   | some t =>
    obtain⟨t1,t2,t3⟩:=t
    dsimp only
    generalize lV a0.length (2*t1+t2) (2*t1+t2+t2+min (a0.length- lo) mr) a0.length=pw
    refine yQ (Bn (A0 (I:=fun y c st'=>c=(none,())∧SB κ a0 st'∧Rn L (pendingOf st') (arrOf st') lo∧Sr L (arrOf st') lo (lo+min (a0.length- lo) mr)) (Q:=fun c st'=>c=(none,())∧SB κ a0 st'∧Rn L (pendingOf st') (arrOf st') lo∧Sr L (arrOf st') lo (lo+min (a0.length- lo) mr)) ?ms ?mf ?mi) ?mp)
    case mi=>exact⟨rfl,B3,R3,s3⟩
    case mf=>exact fun c st' h=>h
    case ms=>
     rintro y c st4 _ hy ⟨rfl,B4,R4,s4⟩
     refine yQ (Cm ?_)
     by_cases w:(pendingOf st4).size> 1
     ·rw[if_pos w]
      obtain⟨⟨u1,u2,u3⟩,hu⟩:∃t,(pendingOf st4)[(pendingOf st4).size- 2]? =some t:=⟨_,zl (by omega)⟩
      rw[hu]
      dsimp only
      by_cases v:u3≤pw
      ·rw[if_pos v];exact yZ ⟨rfl,B4,R4,s4⟩
      ·rw[if_neg v]
       refine yQ (lW O hU nd B4 R4 (by omega) (by omega) fun st5 B5 R5 _ o5=>?_)
       exact yZ ⟨rfl,B5,R5,fun i j g1 g2 g3=>by rw[o5 i g1,o5 j (by omega)];exact s4 i j g1 g2 g3⟩
     ·rw[if_neg w];exact yZ ⟨rfl,B4,R4,s4⟩
    case mp=>
     rintro c st4 ⟨rfl,B4,R4,s4⟩
     dsimp only
     exact yQ (Ap (yQ (Ap (yZ ⟨⟨B4.kind,B4.failed,B4.perm⟩,lo+min (a0.length- lo) mr,rfl,by omega,by omega,(R4.mod _ _).push (by omega) s4⟩))))
  ·rw[if_neg y]
   have B3:=B2
   have s3:=s2
   have e3:=e2
   have o3:∀i,i< lo→at' (arrOf st2) i=at' (arrOf st1) i:=fun i hi=>o2 i (.inl hi)
   refine yQ (Cm ?_)
   have R3:Rn L (pendingOf st2) (arrOf st2) lo:=by rw[e3];exact R1.keep o3
   cases hb:(pendingOf st2).back? with
   | none =>
    dsimp only
    exact yQ (Ap (yZ ⟨⟨B3.kind,B3.failed,B3.perm⟩,lo+n,rfl,by omega,by omega,R3.push (by omega) s3⟩))
   | some t =>
    obtain⟨t1,t2,t3⟩:=t
    dsimp only
    generalize lV a0.length (2*t1+t2) (2*t1+t2+t2+n) a0.length=pw
    refine yQ (Bn (A0 (I:=fun y c st'=>c=(none,())∧SB κ a0 st'∧Rn L (pendingOf st') (arrOf st') lo∧Sr L (arrOf st') lo (lo+n)) (Q:=fun c st'=>c=(none,())∧SB κ a0 st'∧Rn L (pendingOf st') (arrOf st') lo∧Sr L (arrOf st') lo (lo+n)) ?ms ?mf ?mi) ?mp)
    case mi=>exact⟨rfl,B3,R3,s3⟩
    case mf=>exact fun c st' h=>h
    case ms=>
     rintro y c st4 _ hy ⟨rfl,B4,R4,s4⟩
     refine yQ (Cm ?_)
     by_cases w:(pendingOf st4).size> 1
     ·rw[if_pos w]
      obtain⟨⟨u1,u2,u3⟩,hu⟩:∃t,(pendingOf st4)[(pendingOf st4).size- 2]? =some t:=⟨_,zl (by omega)⟩
      rw[hu]
      dsimp only
      by_cases v:u3≤pw
      ·rw[if_pos v];exact yZ ⟨rfl,B4,R4,s4⟩
      ·rw[if_neg v]
       refine yQ (lW O hU nd B4 R4 (by omega) (by omega) fun st5 B5 R5 _ o5=>?_)
       exact yZ ⟨rfl,B5,R5,fun i j g1 g2 g3=>by rw[o5 i g1,o5 j (by omega)];exact s4 i j g1 g2 g3⟩
     ·rw[if_neg w];exact yZ ⟨rfl,B4,R4,s4⟩
    case mp=>
     rintro c st4 ⟨rfl,B4,R4,s4⟩
     dsimp only
     exact yQ (Ap (yQ (Ap (yZ ⟨⟨B4.kind,B4.failed,B4.perm⟩,lo+n,rfl,by omega,by omega,(R4.mod _ _).push (by omega) s4⟩))))
end
end Wb
namespace Wb
open PySem PySem.W PySem.Calls PyProof.Rows
theorem nt {α β:Type} {f:α→β} :∀{l:List α},(l.map f).Nodup→∀{x y:α},x∈l→y∈l→f x=f y→x=y
 | [],_,x,_,hx,_,_=>by cases hx
 | a :: l, nd, x, y, hx, hy, e => by
  rw[zY,AB]at nd
  rcases zq.mp hx with q | q
  ·rcases zq.mp hy with q' | q'
   ·rw[q,q']
   ·exact absurd (zD.mpr ⟨y,q',by rw[←e,q]⟩) nd.1
  ·rcases zq.mp hy with q' | q'
   ·exact absurd (zD.mpr ⟨x,q,by rw[e,q']⟩) nd.1
   ·exact nt nd.2 q q' e
theorem jP {α:Type} (l:List α):(l.zip l)=l.map fun x=>(x,x):=by
 induction l with
 | nil=>rfl
 | cons a l ih=>rw[List.zip_cons_cons,ih];rfl
section
variable {prog:zf} {w:zt} {A:zP} {E:yH→yK→Prop} {s:yK}
theorem wF {key:yH→Int×Int} {vs:List yH} (hp:∀v∈vs,PairAt s.heap v (key v)) (nd:(vs.map key).Nodup):LtOk (model prog w) A E s (tuples' true) (fun x=>x∈vs.zip vs) (fun x y=>jK (key x.1) (key y.1)) where
 lt:=fun x y st Q hx hy kd h=>by
  have h1:=hp _ (BQ hx).2
  have h2:=hp _ (BQ hy).2
  rw[lt'_eq]
  refine yQ (Cm (yQ (Dz (Bw ?_))))
  rw[kd]
  exact tF h1 h2 ⟨rfl,yZ h⟩
 tr:=fun x y z _ _ _ h1 h2=>vq h1 h2
 tot:=fun x y hx hy hne h=>tE (fun e=>hne (by
  have e1:=nt nd (BQ hx).2 (BQ hy).2 e
  have:=(BQ hx).1
  have:=(BQ hy).1
  exact D4 e1 (by simp_all))) h
 irr:=fun x=>nk _
theorem l4 {a:Addr} {vs:List yH} {key:yH→Int×Int} {n:Nat} {P:PySem.Fin→yK→Prop} (ho:s.heap.get? a=some (seqObj "list" vs.toArray n)) (hp:∀v∈vs,PairAt s.heap v (key v)) (nd:(vs.map key).Nodup) (hl:vs.length≤sizeLine)
  (h:∀out:List yH,out.Perm vs→(out.map key).Pairwise (fun x y=>jK x y=true)→P (.done (.ret .none)) {s with heap:=sortedHeap s.heap a vs out.toArray}):
  wpAny (model prog w) A (BB.«list.sort» ⟨[.ref a],[]⟩) P E s:=by
 rw[list_sort_plain]
 have ha:a< s.heap.objs.size:=yW ho
 refine yF (listItems_at ho rfl ?_)
 refine yF (Ek ho rfl ?_ (by rw[z9];exact hl) (zo _))
 obtain⟨e1,ho1⟩:∃e1,(s.heap.update a (AW fun _=> #[])).get? a=some (seqObj "list" #[] e1):=⟨_,get?_update_seq ho (fun _=> #[])⟩
 refine yF (Fc ho1 rfl ?_)
 refine yF (Fv ?_ (by show vs.length≤_;exact hl))
 refine yF (El ?_ (zo _))
 refine Ai ?_
 have ho6:(((s.heap.update a (AW fun _=> #[])).push (seqObj "tuple" vs.toArray 0)).push (seqObj "list" #[] 0)).get? a=some (seqObj "list" #[] e1):=by
  rw[Di _ _ _ (by rw[Fz,F2];exact zg (Ci ha)),Di _ _ _ (by rw[F2];exact zg ha)]
  exact ho1
 show wpAny (model prog w) A _ P E {s with heap:=((s.heap.update a (AW fun _=> #[])).push (seqObj "tuple" vs.toArray 0)).push (seqObj "list" #[] 0)}
 dsimp only
 by_cases h2:vs.toArray.size< 2
 ·rw[if_pos h2,if_pos h2]
  refine yF (yJ ?_)
  rw[StateT.run_pure]
  refine yF (yJ ?_)
  dsimp only
  refine yF (Fc ho6 rfl ?_)
  have e:(arrOf (BL general' (vs.toArray.zip vs.toArray) #[] 7 none)).map (·.2)=vs.toArray:=by
   show(vs.toArray.zip vs.toArray).map (·.2)=_
   apply F3.mp
   simp only[EZ,Array.toList_zip,F4,yP]
  rw[e]
  refine yF (Ek ho6 rfl ?_ (zo _) (by rw[z9];exact EL hl))
  simp only[bne_self_eq_false,zz,if_false]
  refine yJ (h vs (.refl _) ?_)
  have h3:vs.length< 2:=by simpa using h2
  match vs,h3 with
  | [],_=>exact BA
  | [v],_=>exact C9 _ _
  | _::_::_,h3=>simp at h3;omega
 ·rw[if_neg h2,if_neg h2]
  have hp2:∀v∈vs,PairAt (((s.heap.update a (AW fun _=> #[])).push (seqObj "tuple" vs.toArray 0)).push (seqObj "list" #[] 0)) v (key v):=fun v hv=>by
   obtain⟨b,o,t1,t2,m,q2,q3,q4,q5⟩:=hp v hv
   have hb:b≠a:=fun z=>by subst z;rw[ho]at q3;cases q3;exact absurd q4 (by show ¬(DA "list" =DA "tuple");decide)
   exact⟨b,o,t1,t2,m,q2,yN _ (yN _ ((Cf _ _ (AZ hb)).trans q3)),q4,q5⟩
  obtain⟨fs,l1,l2,l3⟩:=nl (h:=((s.heap.update a (AW fun _=> #[])).push (seqObj "tuple" vs.toArray 0)).push (seqObj "list" #[] 0)) (vs:=vs) (ks:=vs.map key) ⟨by simp,fun i v e=>⟨key v,by rw[yT,e];rfl,hp2 v (zr e)⟩⟩
  have h3:2≤vs.length:=by simp at h2;exact h2
  refine yF (kat_kind (T:=.type "int") l2 (by rw[l1];omega) (fun v hv=>?_) (by decide) ?_)
  ·obtain⟨i,t,rfl⟩:=l3 v hv
   exact .now
  rw[show(DA "int" != DA "tuple")=true from by decide]
  have O:=wF (prog:=prog) (w:=w) (A:=A) (E:=E) (s:={s with heap:=((s.heap.update a (AW fun _=> #[])).push (seqObj "tuple" vs.toArray 0)).push (seqObj "list" #[] 0)}) hp2 nd
  have za:(vs.toArray.zip vs.toArray).toList=vs.zip vs:=by simp
  have ndz:(vs.zip vs).Nodup:=by
   rw[jP,zO,Bb]
   have nv:vs.Nodup:=zO.mpr ((Bb.mp (zO.mp nd)).imp fun h e=>h (by rw[e]))
   exact(zO.mp nv).imp fun h e=>h (congrArg Prod.fst e)
  have lz:(vs.zip vs).length=vs.length:=by simp
  refine yF (zX (l0 (Q:=fun _ st'=>SB (tuples' true) (vs.zip vs) st'∧Sr (fun x y=>jK (key x.1) (key y.1)) (arrOf st') 0 (vs.zip vs).length) O (fun x hx=>hx) ndz (st:=BL (tuples' true) (vs.toArray.zip vs.toArray) #[] 7 none) ⟨rfl,rfl,by show(vs.toArray.zip vs.toArray).toList.Perm _;rw[za]⟩ rfl fun st' B S=>⟨B,S⟩) ?_ fun _ _ e=>e)
  rintro ⟨⟨⟩,st'⟩ s' ⟨rfl,B,S⟩
  dsimp only at B S ⊢
  have hz:=B.size
  have mem:∀x∈(arrOf st').toList,x.1=x.2:=fun x hx=>(BQ (B.perm.mem_iff.mp hx)).1
  refine yF (Fc ho6 rfl ?_)
  refine yF (Ek ho6 rfl ?_ (zo _) (by rw[Array.size_map,hz,lz];exact EL hl))
  rw[B.failed]
  simp only[bne_self_eq_false,zz,if_false]
  have eo:(arrOf st').map (·.2)=((arrOf st').toList.map fun x:z5=>x.2).toArray:=by apply F3.mp;simp
  rw[eo]
  refine yJ (h ((arrOf st').toList.map fun x:z5=>x.2) ?_ ?_)
  ·have:=B.perm.map (·.2)
   rw[F4 (yP _)]at this
   exact this
  ·rw[Bq,Bb,AE]
   intro i j hi hj hij
   have hj2:j< (arrOf st').size:=by simpa using hj
   have:=S i j (zo _) hij (by omega)
   rw[dL (by simpa using hi),dL (by simpa using hj)]at this
   show jK (key ((arrOf st').toList[i]).2) (key ((arrOf st').toList[j]).2)=true
   rw[←mem _ (AG hi),←mem _ (AG hj)]
   exact this
end
section
variable {prog:zf} {w:zt} {K:Type} [DecidableEq K] {knd:KeyKind prog w K} {A:zP} {E:yH→yK→Prop} {s:yK}
theorem oH {a x:Addr} {o:Obj} {es:Array (Int×yH)} {ep:Nat} {t:A7} {led:Bool} {ks:List (List K)} {kx:List K} (hu:A.units+1< cLine) (S:SetT knd s.heap a led ks o es ep t) (hn:es.size< 1000) (hx:AY knd s.heap kx x) (hI:∀k∈kx,∀v,knd.is k v=true→∃i t,v=.int i t) {Q:yH→yK→Prop}
  (h1:kx∈ks→∀tk,Q .none {s with toks:=tk}) (h2:kx∉ks→∀tk h' ks' o' es' ep' t',zC a s.heap h'→SetT knd h' a led ks' o' es' ep' t'→ks'.Perm (kx::ks)→es'.toList.Perm ((tupleKeyHash knd kx,.ref x)::es.toList)→Q .none {s with heap:=h',toks:=tk}):
  wpAny (model prog w) A (call (.builtin "set.add") [.ref a,.ref x]) Q E s:=by
 have hT:s.TypeIs (.ref a) "set" :=⟨o,S.at_,S.ex.1⟩
 refine zH F.slot_set_add hT F.entry_set_add ?_ (F.args_set_add_2 _ _)
 unfold BB.«set.add» FA
 simp only[List.isEmpty_nil,bind_assoc]
 unfold FW setAdd
 refine yF (yJ ?_)
 try dsimp only
 refine yF (yJ ?_)
 try dsimp only
 refine yF ?_
 refine Ai ?_
 refine yF (wpAny_pyHash_tuple (show A.in1.units< cLine from hu) hx ?_)
 unfold setAddHashed
 refine Ai (tu (s:={s with toks:=s.toks+(kx.length+1)}) (show A.in1.units< cLine from hu) S hn hx hI (fun hm=>?_) fun hm h' ks' o' es' ep' t' a1 a2 a3 a4=>?_)
 ·show wpAny _ _ (ret A1) _ _ _
  exact yJ ⟨_,rfl,h1 hm _⟩
 ·show wpAny _ _ (ret A1) _ _ _
  exact yJ ⟨_,rfl,h2 hm _ h' ks' o' es' ep' t' a1 a2 a3 a4⟩
end
end Wb
namespace L2
open PySem PySem.Spec PyProof.Rows Wb
structure TupsH (prog:zf) (w:zt) (K:PySem.W.Frag) (H:Hp) (es:List (Int×yH)) (ks:List (Int×Int)):Prop where
 len:es.length=ks.length
 at_:∀(i:Nat) (e:Int×yH),es[i]? =some e→∃k b,ks[i]? =some k∧e.2=.ref b∧SqT K H b [.int k.1,.int k.2]∧e.1=tupleKeyHash (mixKind prog w) [.inl k.1,.inl k.2]
def SetH (prog:zf) (w:zt) (K:PySem.W.Frag) (H:Hp) (o:Obj) (ks:List (Int×Int)):Prop:=∃es ep t,SetR w o es ep t∧TupsH prog w K H es.toList ks∧ks.Nodup
def gR (k:Int×Int):List Key:=[.inl k.1,.inl k.2]
theorem gS {a b:Int×Int} (h:gR a=gR b):a=b:=by
 unfold gR at h
 injection h with h1 h2
 injection h2 with h2 _
 injection h1 with h1
 injection h2 with h2
 exact D4 h1 h2
def oI:List Key→Int×Int
 | [.inl a,.inl b]=>(a,b)
 | _=>(0,0)
theorem nu (k:Int×Int):oI (gR k)=k:=rfl
def uA (elt:Expr) (env:Env) (acc:yH):Sem Unit:=do
 let v ←eval elt env
 standAt elt.pos
 let _ ←call (.builtin "set.add") [acc,v]
def lX (prog:zf) (w:zt) (K:PySem.W.Frag) (te:TE):TB:=fun D σ H N=>te σ H fun y H'=>∃G o ks b k,Same G H'∧H' D=some (XO D o)∧SetH prog w K G o ks∧ks.length< 1000∧y=.ref b∧SqT K G b [.int k.1,.int k.2]∧(k∈ks→N H')∧(k∉ks→∀o' ks',SetH prog w K G o' ks'→ks'.Perm (k::ks)→N (cA H' D (XO D o')))
section
variable {Y X:Cx} {elt:Expr} {te:TE}
theorem gc {pins:List (Addr×Obj)} {σ:St} {H:Hp} {s:yK} {b:Addr} {k:Int×Int} (I:Inv X pins σ H s) (h:SqT X.K H b [.int k.1,.int k.2]):AY (mixKind X.prog X.w) s.heap (gR k) b:=by
 obtain⟨its,r,⟨o,h1,h2,n,h3⟩,_⟩:=I.tuple h
 exact⟨o,its.toArray,n,h1,h2,h3,by simpa using j6 (ks:=gR k) r⟩
theorem xL {k:Int×Int} :∀q∈gR k,∀v,(mixKind X.prog X.w).is q v=true→∃i t,v=.int i t:=fun q hq v hv=>by
 have:q=.inl k.1∨q=.inl k.2:=by simpa [gR] using hq
 rcases bw (show eR q v=true from hv)with⟨i,t,e1,rfl⟩ | ⟨x,t,e1,rfl⟩
 ·exact⟨i,t,rfl⟩
 ·rcases this with z | z <;> (rw[z]at e1;cases e1)
theorem vz (hxe:Y.xe=fun _ _=>False) (hu:Y.A.units+1< cLine) (he:PE Y elt te):PB Y (uA elt Y.env) (lX Y.prog Y.w Y.K te):=by
 intro D pins s σ H N I h
 have he':=he pins s σ H _ I h
 rw[hxe]at he'
 refine yF (bV he' fun u s1 ⟨y,H1,I1,r1,G,o,ks,b,k,eG,hD,hS,hl,ey,hb,h1,h2⟩=>?_)
 subst ey
 obtain rfl:u=.ref b:=r1
 refine yF (Bc ?_)
 obtain⟨es,ep,t,R,T,nd⟩:=hS
 have hDo:s1.heap.get? D=some o:=(I1.hok D _ hD).1
 have hsz:es.size=ks.length:=by have:=T.len;simpa using this
 have U:TupsOf (mixKind Y.prog Y.w) s1.heap es.toList (ks.map gR):=⟨by rw[ze];exact T.len,fun i e hi=>by
  obtain⟨k,b,q1,q2,q3,q4⟩:=T.at_ i e hi
  exact⟨gR k,b,by rw[yT,q1];rfl,q2,gc I1 (AO eG q3),q4⟩⟩
 have S:SetT (mixKind Y.prog Y.w) s1.heap D (!Y.w.params.followText "set-order") (ks.map gR) o es ep t:=⟨hDo,R.ex,R.dat,R.tab,U,GC _ (fun a b hab e=>hab (gS e)) nd,R.led,R.pl⟩
 refine yF (oH hu S (by omega) (gc I1 (AO eG hb)) xL (fun hm tk=>?_) fun hm tk h' ks' o' es' ep' t' a1 a2 a3 a4=>?_)
 ·obtain⟨k',m1,m2⟩:=zD.mp hm
  cases gS m2
  exact yJ ⟨σ,H1,I1.kept (fun _ _ z=>z),fun _ _ e=>e,h1 m1⟩
 ·have nm:k∉ks:=fun z=>hm (zD.mpr ⟨k,z,rfl⟩)
  have pk:(ks'.map oI).Perm (k::ks):=by
   have:=a3.map oI
   rw[zY,Bq,show(oI ∘ gR)=id from funext nu,List.map_id,nu]at this
   exact this
  have TH:TupsH Y.prog Y.w Y.K G es'.toList (ks'.map oI):=⟨by rw[ze];exact a2.tup.len,fun i e hi=>by
   obtain⟨kk,b',q1,q2,q3,q4⟩:=a2.tup.at_ i e hi
   have src:∃k0:Int×Int,SqT Y.K G b' [.int k0.1,.int k0.2]:=by
    rcases zq.mp (a4.mem_iff.mp (zr hi))with z | z
    ·rw[z]at q2;cases q2;exact⟨k,hb⟩
    ·obtain⟨j,hj,ej⟩:=Au.mp z
     obtain⟨k0,b0,r1,r2,r3,r4⟩:=T.at_ j e (by rw[yM hj,ej])
     rw[r2]at q2;cases q2
     exact⟨k0,r3⟩
   obtain⟨k0,hk0⟩:=src
   have e0:kk=gR k0:=q3.inj (kS (gc I1 (AO eG hk0)) hDo R.dat a1)
   subst e0
   exact⟨k0,b',by rw[yT,q1];rfl,q2,hk0,q4⟩⟩
  refine yJ ⟨σ,_,?_,fun _ _ e=>e,h2 nm o' (ks'.map oI) ⟨es',ep',t',⟨a2.ex,a2.dat,a2.tab,a2.led,a2.pl⟩,TH,pk.nodup_iff.mpr (AB.mpr ⟨nm,nd⟩)⟩ pk⟩
  exact I1.write (x:=D) (e:=D) (by rw[hD];exact BG) (.inl rfl) (fun b u hb' z=>(a1.2 b hb').trans z) ⟨o',a2.at_⟩ (GL a2.at_)
theorem qR {pins:List (Addr×Obj)} {σ:St} {H:Hp} {s:yK} {b:Addr} {k l:Int×Int} (I:Inv X pins σ H s) (h:SqT X.K H b [.int k.1,.int k.2]) (h':SqT X.K H b [.int l.1,.int l.2]):k=l:=by
 have:=I.tuple_inj h h'
 injection this with e1 e2
 injection e2 with e2 _
 injection e1 with e1
 injection e2 with e2
 exact D4 e1 e2
open Classical in
noncomputable def cE (K:PySem.W.Frag) (H:Hp) (e:Int×yH):Int×Int:=if h:∃k:Int×Int,∃b,e.2=.ref b∧SqT K H b [.int k.1,.int k.2]then h.choose else(0,0)
theorem gT {pins:List (Addr×Obj)} {σ:St} {G H:Hp} {s:yK} {b:Addr} {k:Int×Int} {e:Int×yH} (eG:Same G H) (I:Inv X pins σ H s) (h:SqT X.K G b [.int k.1,.int k.2]) (he:e.2=.ref b):cE X.K G e=k:=by
 have ex:∃k:Int×Int,∃b,e.2=.ref b∧SqT X.K G b [.int k.1,.int k.2]:=⟨k,b,he,h⟩
 unfold cE
 rw[dif_pos ex]
 obtain⟨b',e1,e2⟩:=ex.choose_spec
 rw[he]at e1
 cases e1
 exact qR I (AO eG e2) (AO eG h)
def vA:yH→V
 | .ref b=>.ref b
 | _=>.non
def qS (prog:zf) (w:zt) (K:PySem.W.Frag):List V→Hp→VK→Prop:=fun xs H Q=>∃(G:Hp) (p:Addr) (o:Obj) (ks:List (Int×Int)),xs=[.ref p]∧Same G H∧H p=some (XO p o)∧SetH prog w K G o ks∧ks.length≤1000∧∀(q:Addr) (us:List V) (ks':List (Int×Int)),H q=none→ks'.Perm ks→ks'.Pairwise (fun a b=>jK a b=true)→us.length=ks'.length→(∀(i:Nat) (v:V) (k:Int×Int),us[i]? =some v→ks'[i]? =some k→∃b,v=.ref b∧SqT K G b [.int k.1,.int k.2])→Q (.ref q) (cA H q (.lst us))
theorem jQ (hc:X.calm=true):cX X (.builtin "sorted") (qS X.prog X.w X.K):=by
 intro pins s σ H xs us Q I r h
 obtain⟨G,p,o,ks,rfl,eG,hp,⟨es,ep,t,R,T,nd⟩,h64,q⟩:=h
 obtain⟨u,rfl,rx⟩:=dF r
 cases rx
 have hpo:s.heap.get? p=some o:=(I.hok p _ hp).1
 have hsz:es.size=ks.length:=by have:=T.len;simpa using this
 have op:=fX X.w p ep es
 have osz:(cY X.w p ep es).size=es.size:=by have:=op.length_eq;simpa using this
 have ek:es.toList.map (cE X.K G)=ks:=by
  apply Al
  intro i
  rw[yT]
  by_cases z:i< es.toList.length
  ·obtain⟨k,b,q1,q2,q3,q4⟩:=T.at_ i es.toList[i] (yM z)
   rw[yM z,q1]
   exact congrArg some (gT eG I q3 q2)
  ·rw[zT (by omega),zT (by have:=T.len;omega)];rfl
 have mem:∀e∈(cY X.w p ep es).toList,∃b,e.2=.ref b∧SqT X.K G b [.int (cE X.K G e).1,.int (cE X.K G e).2]:=fun e he=>by
  obtain⟨j,hj,ej⟩:=Au.mp (op.mem_iff.mp he)
  obtain⟨k0,b0,r1,r2,r3,r4⟩:=T.at_ j e (by rw[yM hj,ej])
  exact⟨b0,r2,by rw[gT eG I r3 r2];exact r3⟩
 have kzp:((cY X.w p ep es).toList.map (cE X.K G)).Perm ks:=by
  have:=op.map (cE X.K G)
  rw[ek]at this
  exact this
 refine BS kind_sorted plain_sorted entry_sorted (args_sorted1 _) ?_
 unfold BB.«sorted»
 refine yF (m:=checkCount "sorted" 1 1 _) (yJ ?_)
 refine yF (PySem.W.kdu_collect (A:=X.A.in1) (tD (a:=p) R) (I.ok.hd hc) hpo (by rw[zN];omega) fun h' tk acc hk hacc=>?_)
 have av:acc.toList=(cY X.w p ep es).toList.map (·.2):=by
  apply Al
  intro i
  rw[yT]
  by_cases z:i< acc.size
  ·have z2:i< acc.toList.length:=by simpa using z
   obtain⟨e,q1,q2⟩:=hacc.2 i acc.toList[i] (by rw[←yV];exact yM z2)
   rw[yM z2,yV,q1,q2];rfl
  ·have:=hacc.1
   rw[zT (by simp;omega),zT (by simp;omega)];rfl
 have hal:acc.toList.length=ks.length:=by rw[zm,hacc.1,hsz]
 have I':=I.kept (t':=tk) hk
 refine yF (El ?_ (by rw[hal,zN];omega))
 have hoL:(h'.push (seqObj "list" acc.toList.toArray 0)).get? h'.objs.size=some (seqObj "list" acc.toList.toArray 0):=z6 _ rfl
 have src:∀v∈acc.toList,∃b,v=.ref b∧SqT X.K G b [.int (cE X.K G (0,v)).1,.int (cE X.K G (0,v)).2]:=fun v hv=>by
  rw[av]at hv
  obtain⟨e,he,rfl⟩:=zD.mp hv
  obtain⟨b,h2,h3⟩:=mem e he
  exact⟨b,h2,by rw[show cE X.K G (0,e.2)=cE X.K G e from rfl];exact h3⟩
 have km:acc.toList.map (fun v=>cE X.K G (0,v))=(cY X.w p ep es).toList.map (cE X.K G):=by rw[av,Bq];rfl
 refine yF (Ai (zH FC ⟨_,hoL,rfl⟩ Fj (l4 (key:=fun v=>cE X.K G (0,v)) hoL (fun v hv=>?_) (by rw[km];exact kzp.nodup_iff.mpr nd) (by rw[hal,zN];omega) fun out op' pw=>⟨_,rfl,?_⟩) (FD _)))
 ·obtain⟨b,rfl,h3⟩:=src v hv
  obtain⟨its,rr,⟨ob,g1,g2,n,g3⟩,_⟩:=I'.tuple (AO eG h3)
  obtain⟨u1,u2,e1,⟨t1,e2⟩,t2,e3⟩:∃u1 u2,its=[u1,u2]∧RelV (.int (cE X.K G (0,.ref b)).1) u1∧RelV (.int (cE X.K G (0,.ref b)).2) u2:=by
   cases rr with
   | cons a b => cases b with
    | cons c d => cases d with
     | nil=>exact⟨_,_,rfl,a,c⟩
  subst e1
  rw[e2,e3]at g3
  exact⟨b,ob,t1,t2,n,rfl,yN _ g1,g2,g3⟩
 obtain⟨e,he⟩:=FX (h:=h'.push (seqObj "list" acc.toList.toArray 0)) (a:=h'.objs.size) (vs:=acc.toList) (out:=out.toArray) (n:=0) hoL
 have at_:∀v∈out,∃b,v=.ref b∧SqT X.K G b [.int (cE X.K G (0,v)).1,.int (cE X.K G (0,v)).2]:=fun v hv=>src v (op'.mem_iff.mp hv)
 have pkz:(out.map fun v=>cE X.K G (0,v)).Perm ks:=by
  have:=op'.map fun v=>cE X.K G (0,v)
  rw[km]at this
  exact this.trans kzp
 have ol:out.length=ks.length:=by rw[op'.length_eq];exact hal
 refine yJ ⟨_,rfl,.ref h'.objs.size,_,I'.laid (t':=tk) (fun b o z=>?_) (yP _) (show ObjOk X.prog X.w _ _ _ (.lst (out.map vA))from⟨by rw[ze,zN];omega,out,e,?_,he⟩),rfl,q _ _ (out.map fun v=>cE X.K G (0,v)) (I'.hok.fresh (yP _)) pkz pw (by rw[ze,ze]) fun i v k h1 h2=>?_⟩
 ·show(sortedHeap _ _ _ _).get? b=some o
  rw[FE (zg (yW z)) (by rw[Fz];exact Ci (yW z))]
  exact yN _ z
 ·refine fM _ _ (by rw[ze]) fun j x u hx hu=>?_
  rw[yT,hu]at hx
  cases hx
  obtain⟨b,rfl,_⟩:=at_ u (zr hu)
  rfl
 ·rw[yT]at h1 h2
  obtain⟨u,hu,rfl⟩:=zM.mp h1
  rw[hu]at h2
  cases h2
  obtain⟨b,rfl,h4⟩:=at_ u (zr hu)
  exact⟨b,rfl,h4⟩
end
def lY (w:zt):Obj:={cls:=.type "set",dict:=none,data:=.set #[] 0 (.fresh 0 0 (!w.params.followText "set-order")),slots:= #[]}
theorem tH (prog:zf) (w:zt) (K:PySem.W.Frag) (H:Hp):SetH prog w K H (lY w) []:=
 ⟨#[],0,.fresh 0 0 (!w.params.followText "set-order"),⟨⟨rfl,rfl,rfl⟩,rfl,⟨⟨rfl,rfl,fun a b _ hb=>by simp[FF]at hb,fun j ⟨a,ha,_⟩=>by simp[FF]at ha,.inl rfl,fun i h e=>by simp at e⟩,by show 0*5< 7*3;decide⟩,rfl,rfl⟩,⟨rfl,fun i e he=>by simp at he⟩,BA⟩
def lZ (w:zt) (cap:List (Option Nat)) (wi:TI) (g:TG) (tf:TT) (tb:TB):TE:=fun σ H Q=>wi σ H fun J H1=>∀D,H1 D=none→qu g tf tb D (bB cap σ) (cA H1 D (XO D (lY w))) (fun H'=>Q (.ref D) H') J
section
variable {X:Cx} {scope:BF} {N:List Str} {cap:List (Option Nat)} {tg iter:Expr} {ifs:List Expr} {pos:Pos} {wi:TI} {g:TG} {tf:TT} {tb:TB} {body:Env→yH→Sem Unit}
theorem qT (S:CompScope X scope N cap) (hc:X.calm=true) {elt:Expr} {gs:List Eh} (hi:PI X tg iter wi)
  (hg:∀s H C fp,PG (aD X scope N s H C fp) tg g) (hf:∀s H C fp,pK (aD X scope N s H C fp) ifs tf) (hb:∀s H C fp,PB (aD X scope N s H C fp) (body (aD X scope N s H C fp).env) tb)
  (ht:∀env it acc,compTurn (.SetComp elt (⟨tg,iter,ifs,0⟩::gs) scope pos) 0 it acc env=db tg iter ifs (body env acc) it env (.compLoop (.SetComp elt (⟨tg,iter,ifs,0⟩::gs) scope pos) 0 it acc env):=by intro _ _ _;rfl)
  (hs:∀x,foldedSetIterable iter X.env x=pure x:=by intro _;rfl):PE X (.SetComp elt (⟨tg,iter,ifs,0⟩::gs) scope pos) (lZ X.w cap wi g tf tb):=by
 intro pins s σ H Q I h
 rw[arm_eval_SetComp]
 have frc:∀x∈scope.names,x.2=.free→∃c,X.env.cells.lookup x.1=some c:=fun x hx hk=>I.ok.has x.1 (S.free x hx hk)
 refine BW (use:=none) rfl hs (dN frc) S.kind (fD S) (bV (hi pins s σ H _ I h) fun v s1 h1=>bV h1 fun itv s2 h2=>?_)
 obtain⟨it,fp,tn,J,H2,rfl,I2,T,st2,f2,w⟩:=h2
 unfold newSet setsByText
 refine yF (yF (Bm (yJ ?_)))
 refine Ac ?_
 have hz:H2 s2.heap.objs.size=none:=I2.hok.fresh (yP _)
 have I3:Inv X pins σ (cA H2 s2.heap.objs.size (XO s2.heap.objs.size (lY X.w))) {s2 with heap:=s2.heap.push (lY X.w)} :=
  I2.laid (a:=s2.heap.objs.size) (t':=s2.toks) (fun _ _ q=>yN _ q) (yP _) (GL (z6 _ rfl))
 have nD:∀b∈fp,b≠s2.heap.objs.size:=fun b hb=>by
  obtain⟨o,e,_⟩:=T.obj _ _ st2 b hb
  exact zg (yW e)
 have f3:∀b∈fp,FpOk X pins (cA H2 s2.heap.objs.size (XO s2.heap.objs.size (lY X.w))) b:=fun b hb=>⟨by rw[aL (nD b hb)];exact(f2 b hb).1,(f2 b hb).2⟩
 refine lO (RR:=fun C=>compPost (model X.prog X.w) X.A X.xe none (EP X pins σ Q) (.ref s2.heap.objs.size) C) S hc GH rfl hg hf hb ht I3 T (T.keep _ _ _ st2 fun b hb o e=>yN _ e) f3 (w _ hz) fun C σ' H' s' hC I' q=>?_
 obtain⟨m,hn,_⟩:=I'.loc
 exact⟨m,hn,fun h' hs'=>⟨.ref _,H',oo I3 f3 hC I' hs',rfl,q⟩⟩
variable {kx vx elt tg2 iter2:Expr} {ifs2:List Expr} {wi2:TI} {g2:TG} {tf2:TT} {te:TE}
theorem oJ (hu:X.A.units+1< cLine) (S:CompScope X scope N cap) (hc:X.calm=true) (hi:PI X tg iter wi)
  (hg:∀s H C fp,PG (aD X scope N s H C fp) tg g) (hf:∀s H C fp,pK (aD X scope N s H C fp) ifs tf)
  (hi2:∀s H C fp,PI (aD X scope N s H C fp) tg2 iter2 wi2) (hg2:∀s H C fp,PG (aD X scope N s H C fp) tg2 g2) (hf2:∀s H C fp,pK (aD X scope N s H C fp) ifs2 tf2) (he:∀s H C fp,PE (aD X scope N s H C fp) elt te)
  (hs:∀x,foldedSetIterable iter X.env x=pure x:=by intro _;rfl) (hs2:∀env x,foldedSetIterable iter2 env x=pure x:=by intro _ _;rfl):PE X (.SetComp elt [⟨tg,iter,ifs,0⟩,⟨tg2,iter2,ifs2,0⟩] scope pos) (lZ X.w cap wi g tf (vi wi2 g2 tf2 (lX X.prog X.w X.K te))):=
 qT S hc hi hg hf (body:=sY iter2 (.SetComp elt [⟨tg,iter,ifs,0⟩,⟨tg2,iter2,ifs2,0⟩] scope pos) 1)
  (fun s H C fp=>vj (Y:=aD X scope N s H C fp) hc rfl (hi2 s H C fp) (hg2 s H C fp) (hf2 s H C fp) (body:=uA elt) (vz (Y:=aD X scope N s H C fp) rfl hu (he s H C fp)) GH rfl (fun _ _ _=>rfl) (hs2 _)) (fun _ _ _=>by rw[oq];rfl) hs
end
end L2
namespace Wb
open PySem L2 Mi
section
variable {Er:Nat→Prop} {α:Type} {prog:zf} {w:zt} {K:PySem.W.Frag} {W W' W0 Wb W1 W2:Wd} {σ:St} {te:TE}
structure OwS2 (prog:zf) (w:zt) (K:PySem.W.Frag) (W:Wd) (p:Addr) (ks:List (Int×Int)):Prop where
 g:W.G p=none
 h:∃o ks0,W.H p=some (XO p o)∧SetH prog w K W.G o ks0∧ks0.Perm ks
theorem oK {G G':Hp} {o:Obj} {ks:List (Int×Int)} (h:SetH prog w K G o ks) (e:Same G G'):SetH prog w K G' o ks:=
 let ⟨es,ep,t,R,T,nd⟩:=h
 ⟨es,ep,t,R,⟨T.len,fun i x hx=>let ⟨k,b,q1,q2,q3,q4⟩:=T.at_ i x hx;⟨k,b,q1,q2,AO e q3,q4⟩⟩,nd⟩
theorem OwS2.mono {p:Addr} {ks:List (Int×Int)} (o:OwS2 prog w K W p ks) (e:Ext W W'):OwS2 prog w K W' p ks:=by
 obtain⟨x,k0,a,b,c⟩:=o.h
 exact⟨by rw[e.k p (by rw[a];exact fun z=>nomatch z)];exact o.g,x,k0,e.h _ _ a,oK b e.g,c⟩
theorem vB {me:Res (Int×Int)} {D:Addr} (eb:Ext Wb W) (hD:Wb.H D=none) (h:EV Er te σ W (sh (isT2 K isI isI)) me):BV Er (lX prog w K te) σ Wb W (OwS2 prog w K) D (fun ks=>me.bind fun y=>kO ks y):=fun W1 ks N e1 o k=>
 h W1 e1 _ ((yG k).imp fun y ky v W2 e2 hv => by
  obtain⟨h3,h4⟩:=bg ky
  have o2:=o.mono e2
  obtain⟨ob,ks0,q1,q2,q3⟩:=o2.h
  obtain⟨p,x1,x2,rfl,t1,r1,r2⟩:=hv
  cases r1
  cases r2
  refine⟨W2.G,ob,ks0,p,y,W2.ok,q1,q2,by rw[q3.length_eq];exact h3,rfl,t1,fun hm=>?_,fun hm o' ks' s' p'=>?_⟩
  ·rw[if_pos (q3.mem_iff.mp hm)]at h4
   exact h4 W2 e2.g ((eb.trans e1).trans e2) o2
  ·rw[if_neg (fun z=>hm (q3.mem_iff.mpr z))]at h4
   exact h4 (W2.mut D (XO D o') o2.g) e2.g (((eb.trans e1).trans e2).mut hD o2.g) ⟨o2.g,o',ks',aF,s',p'.trans (.cons _ q3)⟩)
theorem qU {R:Rp α} {cap:List (Option Nat)} {wi:TI} {g:TG} {tf:TT} {t:TB} {mi:Res (List α)} {f:α→List (Int×Int)→Res (List (Int×Int))} (hi:IV Er wi σ W R mi)
  (hs:∀Wb D W2 a v s (M:Hp→Prop),Same W.G W2.G→Ext W Wb→Wb.H D=none→Ext Wb W2→OwS2 prog w K W2 D s→R W2.G a v→(f a s).OkE Er (fun s'=>∀W',Same W2.G W'.G→Ext Wb W'→OwS2 prog w K W' D s'→M W'.H)→g v (bB cap σ) W2.H fun σ2 H2=>Keep (bB cap σ) σ2∧tf σ2 H2 fun b H3=>if b=true then t D σ2 H3 M else M H3):
  EVo Er (dh (qS prog w K) (ak (lZ w cap wi g tf t) aS)) σ W (isT2 K isI isI) ((mi.bind fun xs=>bF f xs []).bind fun ks=>qv ks):=fun W1 e1 Q k=>by
 refine hi W1 e1 _ ((yG (yG k)).imp fun xs kx J W2 e2 hy D hD=>?_)
 refine mW (W:=W2) (W1:=W2.mut D (XO D (lY w)) (W2.gnone hD)) (Wb:=W2) (O:=OwS2 prog w K) (s0:=[]) hy (.inr (.refl _)) (.own _ hD) ⟨W2.gnone hD,lY w,[],aF,tH ..,.refl _⟩ (fun W3 a v s M e3 eb3 o3 r k3=>hs W2 D W3 a v s M ((e1.trans e2).g.trans e3) (e1.trans e2) hD eb3 o3 r k3) (fun _ _ _ e o=>o.mono e) ?_
 exact kx.imp fun ks kk W' z1 z2 z3=>by
  obtain⟨h3,h4⟩:=bg kk
  obtain⟨o,ks0,q1,q2,q3⟩:=z3.h
  refine⟨W'.G,D,o,ks0,rfl,W'.ok,q1,q2,by rw[q3.length_eq];exact h3,fun q us ks1 hq p1 p2 l1 at_=>?_⟩
  have e:ks1=cS ks:=fI (p1.trans q3) (p2.imp fun {a b} h=>by rw[fY]at h;rw[fT];omega)
  rw[←e]at h4
  exact ip (W2:=W') (vs:=us) ⟨l1,fun i v m e1 e2=>by
   obtain⟨b,rfl,hb⟩:=at_ i v m e1 e2
   exact⟨b,_,_,rfl,hb,rfl,rfl⟩⟩ (e2.trans z2) h4 q hq
end
end Wb
namespace L2
open PySem PySem.Spec PyProof.Rows Wb
def wG:R2:=fun x y H Q=>∃p q xs,x=.ref p∧y=.ref q∧H p=some (.lst xs)∧H q=some (.lst [])∧Q (.bl xs.isEmpty) H
theorem vC {X:Cx} (hu:X.A.units< cLine):OpR X (compareOp .Eq) wG:=by
 intro pins s σ H x y v u Q I rx ry h
 obtain⟨p,q,xs,rfl,rfl,h1,h2,hq⟩:=h
 cases rx;cases ry
 obtain⟨i1,r1,t1,z1⟩:=I.list (AJ (K:=X.K) h1)
 obtain⟨i2,r2,t2,z2⟩:=I.list (AJ (K:=X.K) h2)
 have l1:=r1.length
 have l2:=r2.length
 have key:SeqAt.RcAt X.A s (.ref p) (.ref q) xs.isEmpty:=by
  cases xs with
  | nil =>
   have:=GF (A:=X.A) (s:=s) (e:=fun _=>true) t1.isList t2.isList (by rw[z9,z9,←l1,←l2]) hu (fun j h1' h2'=>by
    have:j< i1.length:=by simpa using h1'
    rw[←l1]at this
    exact absurd this (Nat.not_lt_zero _))
   have e0:i1.toArray.size=0:=by rw[z9,←l1];rfl
   rw[e0]at this
   exact this
  | cons a r=>exact FY t1.isList t2.isList (by simp at l1 l2 ⊢;omega) hu
 exact key _ _ _ _ ⟨.bl _,H,I,rfl,hq⟩
end L2
namespace Wb
open PySem L2 Mi
section
variable {Er:Nat→Prop} {α:Type} {W:Wd} {σ:St} {ta:TE}
theorem vD {R:Rp α} {ma:Res (List α)} (ha:EV Er ta σ W (pk R) ma):EV Er (cI wG ta (bK aS)) σ W (sh isB) (ma.bind fun a=>.ok a.isEmpty):=fun W1 e1 Q k=>
 ha W1 e1 _ ((yG k).imp fun a ka x W2 e2 hx=>by
  obtain⟨p,vs,rfl,h1,h2⟩:=hx
  refine⟨by decide,fun q hq=>⟨p,q,vs,rfl,rfl,?_,aF,?_⟩⟩
  ·rw[aL (fun z=>by rw[z]at h1;rw[hq]at h1;cases h1)];exact h1
  ·have:vs.isEmpty=a.isEmpty:=by
    have:=h2.1
    cases vs <;> cases a <;> simp at this ⊢
   rw[this]
   exact ka (.bl a.isEmpty) (W2.mut q (.lst []) (W2.gnone hq)) (e2.trans (.own _ hq)) rfl)
end
end Wb
namespace Mi
def qV {α:Type} (kvs:List ((Int×Int)×α)) (k:Int×Int) (a:α):Res (List ((Int×Int)×α)):=dU (kvs.length< 1000) (gM kvs k a)
def qW (ks:List (Int×Int)):Res (List (Int×Int)):=dU (ks.length≤1000∧ks.Nodup) (cS ks)
end Mi
namespace Wb
open PySem PySem.W PySem.Calls PyProof.Rows
def l5 (d:Addr) (n ep i:Nat):Obj:={cls:=.type "dict_keyiterator",dict:=none,data:=.fields #[.ref d,.int i 0,.int n 0,.int ep 0],slots:= #[]}
section
variable {prog:zf} {w:zt} {A:zP} {E:yH→yK→Prop} {s:yK} {d it:Addr} {o:Obj} {es:Array C8} {ep:Nat}
theorem oM {Q:yH→yK→Prop} (hd:(d == sysModules)=false) (ho:s.heap.get? d=some o) (hx:o.ExactDict) (hdat:o.data=.dict es ep) (hQ:Q (.ref s.heap.objs.size) {s with heap:=s.heap.push (l5 d es.size ep 0)}):wpAny (model prog w) A (pyIter (.ref d)) Q E s:=by
 have hT:s.TypeIs (.ref d) "dict" :=⟨o,ho,hx.1⟩
 refine Ck hT F5 (zH F5 hT F.entry_dict_iter ?_ (F.args_dict_iter_1 _))
 unfold BB.«dict.__iter__»
 refine yF ?_
 unfold FH
 refine yF (wpAny_notOrdered_dict hT ?_)
 show wpAny _ _ (pure (A4 d)) _ _ s
 refine yJ ?_
 show wpAny _ _ (DV d >>= _) _ _ s
 unfold DV
 rw[if_neg (by rw[hd];exact z8)]
 refine yF (yJ ?_)
 refine yF (Cn ho hdat ?_)
 refine yF (DQ ho hdat ?_)
 refine yF (Ac (yJ ⟨_,rfl,"dict_keyiterator",_,⟨_,z6 _ rfl,rfl⟩,A8.lookup,?_⟩))
 exact hQ
theorem oN {i:Nat} {Q:Option yH→yK→Prop} (hit:s.heap.get? it=some (l5 d es.size ep i)) (ho:s.heap.get? d=some o) (hdat:o.data=.dict es ep) (hi:i< es.size)
  (hQ:∀h',h'.get? it=some (l5 d es.size ep (i+1))→zC it s.heap h'→Q (some es[i].key) {s with heap:=h'}):wpAny (model prog w) A (pyNext (.ref it)) Q E s:=by
 have hT:s.TypeIs (.ref it) "dict_keyiterator" :=⟨_,hit,rfl⟩
 unfold pyNext
 refine yF (Bw (zU (name:=yO "__next__") hT A8
  (zH A8 hT CL ?_ (Cz _))))
 refine yF (yJ ?_)
 refine yF ?_
 refine yF ?_
 first | refine yF (AN hT (yJ ?_)) | refine yF (Be hT (yJ ?_))
 refine yF (D8 hit rfl ?_)
 have hown:CP "dict_keyiterator" =false:=by decide
 simp only[hown,zz,if_false]
 show wpAny _ _ (if(A4 d == A1)=true then _ else _) _ _ s
 rw[if_neg (show ¬((A4 d == A1)=true)from z8)]
 refine yF (yJ ?_)
 refine yF (Cn ho hdat ?_)
 rw[if_neg (by simp)]
 refine yF (yJ ?_)
 refine yF (DQ ho hdat ?_)
 rw[if_neg (by simp)]
 refine yJ ?_
 simp only[show ¬((i:Int)< 0)from by omega,if_false,A3,zl hi]
 refine yF ?_
 first | refine yF (AN hT (yJ ?_)) | refine yF (Be hT (yJ ?_))
 refine yF (DW hT ?_)
 show wpAny _ _ (setField (.ref it) 1 (rawInt ((i:Int)+1)) >>= _) _ _ s
 refine yF (Bk hit rfl (by simp) ?_)
 have hit':=AF (Dq (·.setIfInBounds 1 (rawInt ((i:Int)+1)))) hit rfl
 refine yF (Ai ?_)
 refine yF (DW (s:={s with heap:=s.heap.update it (Dq (·.setIfInBounds 1 (rawInt ((i:Int)+1))))}) ⟨_,hit',rfl⟩ ?_)
 show wpAny _ _ (pure es[i].key) _ _ _
 exact yJ (yJ ⟨_,rfl,yJ (hQ _ (hit'.trans rfl) (Aa ..))⟩)
theorem qX {Q:Option yH→yK→Prop} (hh:A.handled=none) (hit:s.heap.get? it=some (l5 d es.size ep es.size)) (ho:s.heap.get? d=some o) (hdat:o.data=.dict es ep)
  (hQ:∀h',Dg it s.heap h'→Q none {s with heap:=h'}):wpAny (model prog w) A (pyNext (.ref it)) Q E s:=by
 have hT:s.TypeIs (.ref it) "dict_keyiterator" :=⟨_,hit,rfl⟩
 unfold pyNext
 refine yF (Bw (zU (name:=yO "__next__") hT A8
  (zH A8 hT CL ?_ (Cz _))))
 refine yF (yJ ?_)
 refine yF ?_
 refine yF ?_
 first | refine yF (AN hT (yJ ?_)) | refine yF (Be hT (yJ ?_))
 refine yF (D8 hit rfl ?_)
 have hown:CP "dict_keyiterator" =false:=by decide
 simp only[hown,zz,if_false]
 show wpAny _ _ (if(A4 d == A1)=true then _ else _) _ _ s
 rw[if_neg (show ¬((A4 d == A1)=true)from z8)]
 refine yF (yJ ?_)
 refine yF (Cn ho hdat ?_)
 rw[if_neg (by simp)]
 refine yF (yJ ?_)
 refine yF (DQ ho hdat ?_)
 rw[if_neg (by simp)]
 refine yJ ?_
 simp only[show ¬((es.size:Int)< 0)from by omega,if_false,A3,Br (yP es.size)]
 refine yF ?_
 first | refine yF (AN hT (yJ ?_)) | refine yF (Be hT (yJ ?_))
 show wpAny _ _ (setField (.ref it) 0 .none >>= _) _ _ s
 refine yF (Bk hit rfl (by simp) ?_)
 show wpAny _ _ (newExc (.type "StopIteration") [] >>= _) _ _ _
 refine yF ?_
 simp only[newExc,newTuple]
 refine yF (Ac ?_ (by size_fits))
 refine yF (m:=firstArgMember _ _) (E4 (a:=A1) (by first | rfl | (simp only[firstArgMember];rfl)) ?_)
 refine Ac ?_ (by size_fits)
 simp only[raiseNew]
 refine yF (Eg ?_)
 rw[show A.in1.handled=none from hh]
 refine yF (yJ (F9 ?_))
 refine yF (BO (T:="StopIteration") (b:=true) ⟨_,z6 _ rfl,rfl⟩ D3 ?_)
 exact yJ (hQ _ (((Aa ..).extBut.push _).push _))
theorem Walks.dictR (hh:A.handled=none) (I d:Addr) (hne:d≠I) (hx:o.ExactDict) (hdat:o.data=.dict es ep):
  Walks prog w A I [I,d] [I] es.size (fun i v=>∃e,es[i]? =some e∧v=e.key) (fun i h=>h.get? I=some (l5 d es.size ep i)∧h.get? d=some o) where
 sub:=fun b hb=>by simp at hb;simp[hb]
 frame:=fun _ _ _ st hk=>⟨hk I (by simp) _ st.1,hk d (by simp) _ st.2⟩
 item:=fun i s Q E hi st hQ=>by
  refine oN st.1 st.2 hdat hi fun h' hI' hs'=>?_
  exact hQ _ h' s.toks ⟨_,zl hi,rfl⟩ ⟨hI',hs'.extBut d _ hne st.2⟩ fun b o hb e=>hs'.extBut b o (fun h=>hb (by simp[h])) e
 done:=fun s Q E st hQ=>qX hh st.1 st.2 hdat fun h' he'=>hQ h' s.toks fun b o hb e=>he' b o (fun h=>hb (by simp[h])) e
 self:=fun i s Q E st hQ=>by
  have hT:s.TypeIs (.ref I) "dict_keyiterator" :=⟨_,st.1,rfl⟩
  refine Ck hT CQ (zH CQ hT F.entry_dict_keyiterator_iter ?_ (F.args_dict_keyiterator_iter_1 _))
  show wpAny _ _ (ret (.ref I)) _ _ s
  exact yJ ⟨_,rfl,"dict_keyiterator",_,hT,A8.lookup,hQ⟩
theorem qY (lo:(d == sysModules)=false) (hx:o.ExactDict) (hdat:o.data=.dict es ep):KdlSrc prog w "dict" d d es.size (fun i v=>∃e,es[i]? =some e∧v=e.key) (fun h=>h.get? d=some o) where
 type:=fun _ hm=>⟨o,hm,hx.1⟩
 there:=fun _ hm=>⟨yW hm,yW hm⟩
 keep:=fun _ _ hm hk=>hk d (.inl rfl) o hm
 notList:=by decide
 notTuple:=by decide
 hint:=fun _ _ _ _ hm hq=>kdl_hint_dict ⟨o,hm,hx.1⟩ hq
 iter:=fun _ _ hh hm=>⟨_,_,(fun _ _ hq=>oM lo hm hx hdat hq),Walks.dictR hh _ d (zg (yW hm)) hx hdat,⟨z6 _ rfl,yN _ hm⟩⟩
end
end Wb
namespace L2
open PySem PySem.Spec PyProof.Rows Wb
def KP (K:PySem.W.Frag) (G:Hp):List ((Int×Int)×V)→List (List Key×Addr×yH)→Prop:=Paired (fun(p:(Int×Int)×V) (q:List Key×Addr×yH)=>gR p.1=q.1∧SqT K G q.2.1 [.int p.1.1,.int p.1.2]∧RelV p.2 q.2.2)
section
variable {K:PySem.W.Frag} {G G':Hp} {kvs:List ((Int×Int)×V)} {xs:List (List Key×Addr×yH)}
theorem KP.val (r:KP K G kvs xs) (k:Int×Int):RelO (iP kvs k) ((atKey xs (gR k)).map (·.2)):=by
 unfold KP at r
 induction r with
 | nil=>exact BG
 | @cons p q ps qs h t ih =>
  obtain⟨h1,_,h2⟩:=h
  by_cases e:p.1=k
  ·have e':q.1=gR k:=by rw[←h1,e]
   have b:atKey (q::qs) (gR k)=some q.2:=by simp[atKey,Bu,e']
   rw[fK e,b];exact h2
  ·have e':¬q.1=gR k:=fun z=>e (gS (h1.trans z))
   have b:atKey (q::qs) (gR k)=atKey qs (gR k):=by simp[atKey,Bu,e']
   rw[fL e,b];exact ih
theorem KP.repl (r:KP K G kvs xs) (k:Int×Int) {y:V} {u:yH} (ry:RelV y u):KP K G (kvs.map fun kv=>if kv.1=k then(kv.1,y)else kv) (xs.map (PySem.putAt (gR k) u)):=by
 unfold KP at r ⊢
 induction r with
 | nil=>exact .nil
 | @cons p q ps qs h t ih =>
  rw[zY,zY]
  refine .cons ?_ ih
  obtain⟨h1,h2,h3⟩:=h
  unfold PySem.putAt
  by_cases e:p.1=k
  ·rw[if_pos e,if_pos (by rw[←h1,e])];exact⟨h1,h2,ry⟩
  ·rw[if_neg e,if_neg (fun z=>e (gS (h1.trans z)))];exact⟨h1,h2,h3⟩
theorem KP.put (r:KP K G kvs xs) (k:Int×Int) {b:Addr} {y:V} {u:yH} (hb:SqT K G b [.int k.1,.int k.2]) (ry:RelV y u):KP K G (nU kvs k y) (storedH xs (gR k) b u):=by
 have e:(kvs.any fun kv=>decide (kv.1=k))=(atKey xs (gR k)).isSome:=by rw[ku,(r.val k).isSome_eq,Option.isSome_map]
 unfold nU storedH
 rw[e]
 by_cases q:(atKey xs (gR k)).isSome=true
 ·rw[if_pos q,if_pos q];exact r.repl k ry
 ·rw[if_neg q,if_neg q];exact Paired.snoc r ⟨rfl,hb,ry⟩
theorem KP.same (r:KP K G kvs xs) (e:Same G G'):KP K G' kvs xs:=Paired.mapP r fun _ _ z=>⟨z.1,AO e z.2.1,z.2.2⟩
end
def DictP (prog:zf) (w:zt) (K:PySem.W.Frag) (G:Hp) (o:Obj) (kvs:List ((Int×Int)×V)):Prop:=∃es ep xs,o.ExactDict∧o.data=.dict es ep∧es.toList=xs.map (entryOfKey (tupleKind (mixKind prog w)))∧(xs.map (·.1)).Nodup∧KP K G kvs xs
def PDa (prog:zf) (w:zt) (K:PySem.W.Frag) (G H:Hp) (a:Addr) (kvs:List ((Int×Int)×V)):Prop:=∃o,Same G H∧H a=some (XO a o)∧(a == sysModules)=false∧DictP prog w K G o kvs∧kvs.length≤1000
def l7:Obj:={cls:=.type "dict",dict:=none,data:=.dict #[],slots:= #[]}
def qZ:TE:=fun _ H Q=>∀p,H p=none→(p == sysModules)=false→Q (.ref p) (cA H p (XO p l7))
def r0 (prog:zf) (w:zt) (K:PySem.W.Frag) (td ty tv:TE):TS:=fun D σ H=>tv σ H fun v H1=>td σ H1 fun x H2=>ty σ H2 fun y H3=>∃G a kvs b k,x=.ref a∧PDa prog w K G H3 a kvs∧kvs.length< 1000∧y=.ref b∧SqT K G b [.int k.1,.int k.2]∧∀o',DictP prog w K G o' (nU kvs k v)→D.nx σ (cA H3 a (XO a o'))
def uB (prog:zf) (w:zt) (K:PySem.W.Frag):List V→Hp→VK→Prop:=fun xs H Q=>∃G a kvs,xs=[.ref a]∧PDa prog w K G H a kvs∧Q (.int kvs.length) H
def r6 (prog:zf) (w:zt) (K:PySem.W.Frag):List V→Hp→VK→Prop:=fun xs H Q=>∃G a kvs,xs=[.ref a]∧PDa prog w K G H a kvs∧∀q us,H q=none→us.length=kvs.length→(∀(i:Nat) (v:V) (p:(Int×Int)×V),us[i]? =some v→kvs[i]? =some p→∃b,v=.ref b∧SqT K G b [.int p.1.1,.int p.1.2])→Q (.ref q) (cA H q (.lst us))
def r9 (K:PySem.W.Frag):List V→Hp→VK→Prop:=fun xs H Q=>∃(G:Hp) (p:Addr) (us:List V) (ks:List (Int×Int)),xs=[.ref p]∧Same G H∧SqL K H p us∧us.length=ks.length∧(∀(i:Nat) (v:V) (k:Int×Int),us[i]? =some v→ks[i]? =some k→∃b,v=.ref b∧SqT K G b [.int k.1,.int k.2])∧ks.Nodup∧ks.length≤1000∧
 ∀(q:Addr) (us':List V) (ks':List (Int×Int)),H q=none→ks'.Perm ks→ks'.Pairwise (fun a b=>jK a b=true)→us'.length=ks'.length→(∀(i:Nat) (v:V) (k:Int×Int),us'[i]? =some v→ks'[i]? =some k→∃b,v=.ref b∧SqT K G b [.int k.1,.int k.2])→Q (.ref q) (cA H q (.lst us'))
section
variable {X:Cx} {K:PySem.W.Frag} {pos pos':Pos} {o i value:Expr} {td ty tv:TE} {pins:List (Addr×Obj)} {σ:St} {H:Hp} {s:yK}
theorem rc (prog:zf) (w:zt) (K:PySem.W.Frag) (G:Hp):DictP prog w K G l7 []:=⟨#[],0,[],⟨rfl,rfl,rfl⟩,rfl,rfl,Co,.nil⟩
theorem rd:PE X (.Dict [] [] pos) qZ:=fun pins s σ H Q I h=>
 wpAny_Dict_empty ⟨.ref s.heap.objs.size,_,I.laid (a:=s.heap.objs.size) (t':=s.toks) (fun _ _ q=>yN _ q) (yP _) (GL (o:=l7) (z6 _ rfl)),rfl,h _ (I.hok.fresh (yP _)) (beq_eq_false_iff_ne.mpr (AZ (zg I.big)))⟩
theorem PDa.h {G:Hp} {a:Addr} {kvs:List ((Int×Int)×V)} (I:Inv X pins σ H s) (g:PDa X.prog X.w X.K G H a kvs):∃xs,KP X.K G kvs xs∧s.heap.DictOfH (tupleKind (mixKind X.prog X.w)) a xs∧xs.length≤1000:=by
 obtain⟨o,eG,ha,lo,⟨es,ep,xs,ex,dat,he,nd,r⟩,hl⟩:=g
 have hl2:kvs.length=xs.length:=Paired.length r
 refine⟨xs,r,⟨o,es,ep,(I.hok a _ ha).1,ex,dat,he,fun x hx=>?_,nd⟩,by omega⟩
 obtain⟨j,hj⟩:=Bx.mp hx
 obtain⟨p,hp,h1,h2,h3⟩:=fg r hj
 rw[←h1]
 exact gc I (AO eG h2)
theorem re (hu:X.A.units+1< cLine) (ho:PE X o td) (hi:PE X i ty) (hv:PE X value tv) (hs:swapsWith value (some (.Subscript o i pos')) pos.line X.env=pure false):
  PS X (.Assign [.Subscript o i pos'] value pos) (r0 X.prog X.w X.K td ty tv):=by
 intro pins s σ H D I h
 refine wpAny_Assign_Subscript (bV (hv pins s σ H _ I h) fun r s1 ⟨v,H1,I1,rv,q1⟩=>bV (ho pins s1 σ H1 _ I1 q1) fun u s2 ⟨x,H2,I2,rx,q2⟩=>bV (hi pins s2 σ H2 _ I2 q2) fun iv s3 ⟨y,H3,I3,ry,G,a,kvs,b,k,ex,g,hl,ey,hb,q3⟩=>?_) hs
 subst ex ey
 obtain rfl:u=A4 a:=rx
 obtain rfl:iv=A4 b:=ry
 obtain⟨xs,rel,dd,hx⟩:=g.h I3
 obtain⟨ob,eG,ha,lo,_,_⟩:=g
 refine wpAny_setItem_heap (hsz:=by rw[zN];omega) (tupleKind_room_in1 hu) (gc I3 (AO eG hb)) dd fun h' dd' hs=>?_
 obtain⟨o',es,ep,hq,h2,h3,h4,_,h5⟩:=dd'
 exact⟨σ,_,sB I3 (by rw[ha];exact BG) hs ⟨o',hq⟩ (GL hq),q3 o' ⟨es,ep,_,h2,h3,h4,h5,rel.put k hb rv⟩⟩
theorem oO:cX X (.builtin "len") (uB X.prog X.w X.K):=by
 intro pins s σ H xs us Q I r h
 obtain⟨G,a,kvs,rfl,g,q⟩:=h
 obtain⟨u,rfl,rx⟩:=dF r
 cases rx
 obtain⟨ys,rel,⟨od,es,ep,hod,hx,hdat,he,hk,nd⟩,hl⟩:=g.h I
 obtain⟨ob,eG,ha,lo,_,_⟩:=g
 have hT:s.TypeIs (.ref a) "dict" :=⟨od,hod,hx.1⟩
 have hsz:es.size=kvs.length:=by
  rw[←zm,he,ze];exact(Paired.length rel).symm
 have hsz2:es.size≤1000:=by rw[←zm,he,ze];exact hl
 refine BS kind_len plain_len entry_len (args_len1 _) ?_
 unfold BB.«len»
 refine yF (m:=oneArg "len" _) (yJ ?_)
 refine yF (m:=callSpecial? (.ref a) (yO "__len__")) (zU (name:=yO "__len__") hT PySem.F.slot_dict_len
  (zH PySem.F.slot_dict_len hT PySem.F.entry_dict_len ?_ (PySem.F.args_dict_len_1 _)))
 show wpAny _ _ (dictSize a >>= _) _ _ s
 unfold dictSize
 refine yF (yF (Cn hod hdat (yJ ?_)))
 show wpAny _ _ (FI a >>= _) _ _ s
 refine yF (wpAny_pendingCount_other lo ?_)
 rw[show((es.size:Int)+((0:Nat):Int))=(es.size:Int) by omega]
 unfold retInt
 refine yF (wpAny_mkInt (yJ ⟨_,rfl,?_⟩))
 refine yF (Ai (yJ ?_))
 refine yF (E5 ?_)
 show wpAny _ _ (if((es.size:Nat):Int)< 0 then _ else _) _ _ _
 rw[if_neg (by omega)]
 show wpAny _ _ (if((es.size:Nat):Int)≥2^63 then _ else _) _ _ _
 rw[if_neg (by omega)]
 rw[hsz]
 exact yF (wpAny_mkInt (yJ ⟨_,rfl,⟨.int kvs.length,H,I.tok _,⟨_,rfl⟩,q⟩⟩))
theorem m6 (hc:X.calm=true):cX X (.type "list") (r6 X.prog X.w X.K):=by
 intro pins s σ H xs us Q I r h
 obtain⟨G,a,kvs,rfl,g,q⟩:=h
 obtain⟨u,rfl,rx⟩:=dF r
 cases rx
 obtain⟨ob,eG,ha,lo,⟨es,ep,ys,hx,hdat,he,nd,rel⟩,hl⟩:=g
 have hod:s.heap.get? a=some ob:=(I.hok a _ ha).1
 have hsz:es.size=kvs.length:=by
  rw[←zm,he,ze];exact(Paired.length rel).symm
 have src:∀(i:Nat) (e:C8) (p:(Int×Int)×V),es[i]? =some e→kvs[i]? =some p→∃b,e.key=.ref b∧SqT X.K G b [.int p.1.1,.int p.1.2]:=fun i e p h1 h2=>by
  rw[←yV,he,yT]at h1
  obtain⟨y,h3,rfl⟩:=zM.mp h1
  obtain⟨p',h4,h5,h6,h7⟩:=fg rel h3
  rw[h2]at h4;cases h4
  exact⟨y.2.1,rfl,h6⟩
 refine PySem.W.kdl_call (qY lo hx hdat) (I.ok.hd hc) hod (by rw[zN];omega) fun h' tk acc c' hk e hacc=>?_
 refine⟨.ref _,_,I.laid (t':=tk) hk (yP _) (show ObjOk X.prog X.w _ h' _ (.lst (acc.toList.map vA))from⟨by rw[ze,zm,hacc.1,zN];omega,acc.toList,c',?_,by rw[E6];exact e⟩),rfl,q _ _ (I.hok.fresh (yP _)) (by rw[ze,zm,hacc.1,hsz]) fun i v p h1 h2=>?_⟩
 ·refine fM _ _ (by rw[ze]) fun j x u hx hu=>?_
  rw[yT,hu]at hx
  cases hx
  obtain⟨e,h1,rfl⟩:=hacc.2 j u (by rw[←yV];exact hu)
  have hj:j< kvs.length:=by have:=(Az.mp h1).1;omega
  obtain⟨b,h3,_⟩:=src j e _ h1 (yM hj)
  rw[h3]
  rfl
 ·rw[yT]at h1
  obtain⟨u,hu,rfl⟩:=zM.mp h1
  obtain⟨e,h3,rfl⟩:=hacc.2 i u (by rw[←yV];exact hu)
  obtain⟨b,h4,h5⟩:=src i e p h3 h2
  exact⟨b,by rw[h4];rfl,h5⟩
theorem m7 (h:X.K=K):cX X (.builtin "sorted") (r9 K):=by
 subst h
 intro pins s σ H xs us Q I r h
 obtain⟨G,p,vs,ks,rfl,eG,hq,hl,rel,nd,hz,q⟩:=h
 obtain⟨u,rfl,rx⟩:=dF r
 cases rx
 obtain⟨its,r',pl,_⟩:=I.list hq
 have l1:=r'.length
 have il:its.length=ks.length:=by omega
 have at_:∀(j:Nat) (u:yH) (k:Int×Int),its[j]? =some u→ks[j]? =some k→∃b,u=.ref b∧SqT X.K G b [.int k.1,.int k.2]:=fun j u k h1 h2=>by
  obtain⟨v,h3,h4⟩:=fg r' h1
  obtain⟨b,rfl,h5⟩:=rel j v k h3 h2
  exact⟨b,h4,h5⟩
 have km:its.map (fun v=>cE X.K G (0,v))=ks:=by
  apply Al
  intro j
  rw[yT]
  by_cases z:j< its.length
  ·have z2:j< ks.length:=by omega
   obtain⟨b,h1,h2⟩:=at_ j its[j] ks[j] (yM z) (yM z2)
   rw[yM z,yM z2]
   exact congrArg some (gT (e:=(0,its[j])) eG I h2 h1)
  ·rw[zT (by omega),zT (by omega)];rfl
 have src:∀v∈its,∃b,v=.ref b∧SqT X.K G b [.int (cE X.K G (0,v)).1,.int (cE X.K G (0,v)).2]:=fun v hv=>by
  obtain⟨j,hj,e⟩:=Au.mp hv
  have z2:j< ks.length:=by omega
  obtain⟨b,h1,h2⟩:=at_ j v ks[j] (by rw[yM hj,e]) (yM z2)
  exact⟨b,h1,by rw[gT (e:=(0,v)) eG I h2 h1];exact h2⟩
 refine BS kind_sorted plain_sorted entry_sorted (args_sorted1 _) ?_
 unfold BB.«sorted»
 refine yF (m:=checkCount "sorted" 1 1 _) (yJ ?_)
 refine yF (collect_list pl.isList ?_ (by rw[zN];omega))
 refine yF (El ?_ (by rw[zN];omega))
 generalize hh1:(s.heap.push (seqObj "list" #[] 0)).update s.heap.objs.size (AW (· ++its.toArray))=h1
 have k1:∀b o,s.heap.get? b=some o→h1.get? b=some o:=fun b o q=>by
  have hlt:b< s.heap.objs.size:=yW q
  rw[←hh1,Heap.get?_update_ne _ _ _ _ (zg hlt),Di _ _ _ (zg hlt)]
  exact q
 have I':=I.kept (t':=s.toks) k1
 have hoL:(h1.push (seqObj "list" its.toArray 0)).get? h1.objs.size=some (seqObj "list" its.toArray 0):=z6 _ rfl
 refine yF (Ai (zH FC ⟨_,hoL,rfl⟩ Fj (l4 (key:=fun v=>cE X.K G (0,v)) hoL (fun v hv=>?_) (by rw[km];exact nd) (by rw[il,zN];omega) fun out op' pw=>⟨_,rfl,?_⟩) (FD _)))
 ·obtain⟨b,rfl,h3⟩:=src v hv
  obtain⟨jts,rr,⟨ob,g1,g2,n,g3⟩,_⟩:=I'.tuple (AO eG h3)
  obtain⟨u1,u2,e1,⟨t1,e2⟩,t2,e3⟩:∃u1 u2,jts=[u1,u2]∧RelV (.int (cE X.K G (0,.ref b)).1) u1∧RelV (.int (cE X.K G (0,.ref b)).2) u2:=by
   cases rr with
   | cons a b => cases b with
    | cons c d => cases d with
     | nil=>exact⟨_,_,rfl,a,c⟩
  subst e1
  rw[e2,e3]at g3
  exact⟨b,ob,t1,t2,n,rfl,yN _ g1,g2,g3⟩
 obtain⟨e,he⟩:=FX (h:=h1.push (seqObj "list" its.toArray 0)) (a:=h1.objs.size) (vs:=its) (out:=out.toArray) (n:=0) hoL
 have at2:∀v∈out,∃b,v=.ref b∧SqT X.K G b [.int (cE X.K G (0,v)).1,.int (cE X.K G (0,v)).2]:=fun v hv=>src v (op'.mem_iff.mp hv)
 have pkz:(out.map fun v=>cE X.K G (0,v)).Perm ks:=by
  have:=op'.map fun v=>cE X.K G (0,v)
  rw[km]at this
  exact this
 have ol:out.length=ks.length:=by rw[op'.length_eq];exact il
 refine yJ ⟨_,rfl,.ref h1.objs.size,_,I'.laid (t':=s.toks) (fun b o z=>?_) (yP _) (show ObjOk X.prog X.w _ _ _ (.lst (out.map vA))from⟨by rw[ze,zN];omega,out,e,?_,he⟩),rfl,q _ _ (out.map fun v=>cE X.K G (0,v)) (I'.hok.fresh (yP _)) pkz pw (by rw[ze,ze]) fun i v k h1 h2=>?_⟩
 ·show(sortedHeap _ _ _ _).get? b=some o
  rw[FE (zg (yW z)) (by rw[Fz];exact Ci (yW z))]
  exact yN _ z
 ·refine fM _ _ (by rw[ze]) fun j x u hx hu=>?_
  rw[yT,hu]at hx
  cases hx
  obtain⟨b,rfl,_⟩:=at2 u (zr hu)
  rfl
 ·rw[yT]at h1 h2
  obtain⟨u,hu,rfl⟩:=zM.mp h1
  rw[hu]at h2
  cases h2
  obtain⟨b,rfl,h4⟩:=at2 u (zr hu)
  exact⟨b,rfl,h4⟩
end
end L2
namespace Wb
open PySem L2 Mi
section
variable {Er:Nat→Prop} {α:Type} {prog:zf} {w:zt} {K:PySem.W.Frag} {W W' W0 W1 W2:Wd} {σ:St} {te ti ta:TE} {R:Rp α} {i:Nat} {p:Addr} {D:Ends} {r:TS}
structure OwP (prog:zf) (w:zt) (K:PySem.W.Frag) (R:Rp α) (W:Wd) (p:Addr) (kvs:List ((Int×Int)×α)):Prop where
 g:W.G p=none
 h:∃o vs,W.H p=some (XO p o)∧(p == sysModules)=false∧DictP prog w K W.G o vs∧vs.length≤1000∧vs.length=kvs.length∧∀(i:Nat) (q:(Int×Int)×V) (x:(Int×Int)×α),vs[i]? =some q→kvs[i]? =some x→q.1=x.1∧R W.G x.2 q.2
theorem iJ {G G':Hp} {o:Obj} {kvs:List ((Int×Int)×V)} (h:DictP prog w K G o kvs) (e:Same G G'):DictP prog w K G' o kvs:=
 let ⟨es,ep,xs,a,b,c,d,r⟩:=h
 ⟨es,ep,xs,a,b,c,d,r.same e⟩
theorem OwP.mono [Mono R] {kvs:List ((Int×Int)×α)} (o:OwP prog w K R W p kvs) (e:Ext W W'):OwP prog w K R W' p kvs:=by
 obtain⟨x,vs,a,lo,b,hl,c,d⟩:=o.h
 exact⟨by rw[e.k p (by rw[a];exact fun z=>nomatch z)];exact o.g,x,vs,e.h _ _ a,lo,iJ b e.g,hl,c,fun i q y h1 h2=>⟨(d i q y h1 h2).1,yE e.g (d i q y h1 h2).2⟩⟩
theorem OwP.keep [Mono R] {q:Addr} {kvs:List ((Int×Int)×α)} (o:OwP prog w K R W q kvs) (hH:W'.H q=W.H q) (hs:Same W.G W'.G) (hg:W'.G q=W.G q):OwP prog w K R W' q kvs:=by
 obtain⟨x,vs,a,lo,b,hl,c,d⟩:=o.h
 exact⟨by rw[hg];exact o.g,x,vs,by rw[hH];exact a,lo,iJ b hs,hl,c,fun i q y h1 h2=>⟨(d i q y h1 h2).1,yE hs (d i q y h1 h2).2⟩⟩
theorem Mu.owP [Mono R] {q:Addr} {kvs:List ((Int×Int)×α)} (m:Mu W W' p) (hq:q≠p) (o:OwP prog w K R W q kvs):OwP prog w K R W' q kvs:=by
 obtain⟨x,vs,a,_⟩:=o.h
 obtain⟨h1,h2⟩:=m.h q hq (by rw[a];exact fun z=>nomatch z)
 exact o.keep h1 m.g h2
theorem rf {H:Hp} {vs:List ((Int×Int)×V)} {xs:List ((Int×Int)×α)} (hl:vs.length=xs.length) (h:∀(i:Nat) (q:(Int×Int)×V) (x:(Int×Int)×α),vs[i]? =some q→xs[i]? =some x→q.1=x.1∧R H x.2 q.2) {k:Int×Int} {a:α} {v:V} (hv:R H a v):
  (nU vs k v).length=(gM xs k a).length∧∀(i:Nat) (q:(Int×Int)×V) (x:(Int×Int)×α),(nU vs k v)[i]? =some q→(gM xs k a)[i]? =some x→q.1=x.1∧R H x.2 q.2:=by
 have key:∀(vs:List ((Int×Int)×V)) (xs:List ((Int×Int)×α)),vs.length=xs.length→(∀(i:Nat) (q:(Int×Int)×V) (x:(Int×Int)×α),vs[i]? =some q→xs[i]? =some x→q.1=x.1∧R H x.2 q.2)→(vs.any fun p=>decide (p.1=k))=(xs.any fun p=>decide (p.1=k)):=by
  intro vs
  induction vs with
  | nil=>intro xs hl _;cases xs with | nil=>rfl | cons _ _=>cases hl
  | cons q vs ih =>
   intro xs hl h
   cases xs with
   | nil=>cases hl
   | cons x xs=>rw[CB,CB,ih xs (by simpa using hl) fun i q x h1 h2=>h (i+1) q x h1 h2,(h 0 q x rfl rfl).1]
 unfold nU gM
 rw[key vs xs hl h]
 by_cases z:(xs.any fun p=>decide (p.1=k))=true
 ·rw[if_pos z,if_pos z]
  refine⟨by rw[ze,ze];exact hl,fun i q x h1 h2=>?_⟩
  rw[yT]at h1 h2
  obtain⟨q',h3,rfl⟩:=zM.mp h1
  obtain⟨x',h4,rfl⟩:=zM.mp h2
  have:=h i q' x' h3 h4
  by_cases y:x'.1=k
  ·rw[if_pos y,if_pos (this.1.trans y)];exact⟨this.1,hv⟩
  ·rw[if_neg y,if_neg (fun e=>y (this.1.symm.trans e))];exact this
 ·rw[if_neg z,if_neg z]
  refine⟨by simp[hl],fun i q x h1 h2=>?_⟩
  by_cases y:i< vs.length
  ·rw[zc y]at h1
   rw[zc (by omega)]at h2
   exact h i q x h1 h2
  ·rw[zd (by omega)]at h1
   rw[zd (by omega),←hl]at h2
   cases e:i- vs.length with
   | zero=>rw[e]at h1 h2;cases h1;cases h2;exact⟨rfl,hv⟩
   | succ n=>rw[e]at h1;simp at h1
theorem rg {kvs:List ((Int×Int)×α)} {k:Int×Int} {a:α} :(gM kvs k a).length≤kvs.length+1:=by unfold gM;split <;> simp
def xM (prog:zf) (w:zt) (K:PySem.W.Frag) (Er:Nat→Prop) (t:TE) (σ:St) (W:Wd) (R:Rp α) (m:Res (List ((Int×Int)×α))):Prop:=∀W1,Ext W W1→∀Q:VK,m.OkE Er (fun xs=>∀p W2,Ext W1 W2→W1.H p=none→OwP prog w K R W2 p xs→Q (.ref p) W2.H)→t σ W1.H Q
theorem rh:xM prog w K Er qZ σ W R (.ok []):=fun W1 e1 Q k p hp lo=>k p (W1.mut p (XO p l7) (W1.gnone hp)) (.own _ hp) hp ⟨W1.gnone hp,l7,[],aF,lo,rc ..,by decide,rfl,fun i q x h=>by simp at h⟩
theorem tI {σ':Addr→St} {m:Res (List ((Int×Int)×α))} (h:xM prog w K Er te σ W R m) (q:m.OkE Er fun a=>∀p W',Ext W W'→W.H p=none→OwP prog w K R W' p a→D.nx (σ' p) W'.H) (hσ:∀p,σ.set i (some (.ref p))=σ' p:=by intro _;rfl):bz te (aO i) D σ W.H:=
 h W (.refl _) _ (q.imp fun a k p W' e hp o=>by show D.nx (σ.set i (some (.ref p))) W'.H;rw[hσ];exact k p W' e hp o)
theorem oP {σ':Addr→St} {m:Res (List ((Int×Int)×α))} (h:xM prog w K Er te σ W R m) (q:m.OkE Er fun a=>∀p W',Ext W W'→W.H p=none→OwP prog w K R W' p a→r D (σ' p) W'.H) (hσ:∀p,σ.set i (some (.ref p))=σ' p:=by intro _;rfl):dQ (bz te (aO i)) r D σ W.H:=tI (D:={D with nx:=r D}) h q hσ
theorem OwP.pd [Mono R] {kvs:List ((Int×Int)×α)} (o:OwP prog w K R W p kvs):∃vs,PDa prog w K W.G W.H p vs∧vs.length=kvs.length∧∀(i:Nat) (q:(Int×Int)×V) (x:(Int×Int)×α),vs[i]? =some q→kvs[i]? =some x→q.1=x.1∧R W.G x.2 q.2:=by
 obtain⟨x,vs,a,lo,b,hl,c,d⟩:=o.h
 exact⟨vs,⟨x,W.ok,a,lo,b,hl⟩,c,d⟩
theorem rj [Mono R] {xs:List ((Int×Int)×α)} {m:Res α} {mk:Res (Int×Int)} (o:OwP prog w K R W p xs) (h:EV Er te σ W (sh R) m) (hj:EV Er ti σ W (sh (isT2 K isI isI)) mk)
  (q:(m.bind fun a=>mk.bind fun k=>qV xs k a).OkE Er fun ys=>∀W',Mu W W' p→OwP prog w K R W' p ys→D.nx σ W'.H) (hi:σ[i]? =some (some (.ref p)):=by rfl):r0 prog w K (bt i) ti te D σ W.H:=by
 refine h W (.refl _) _ ((yG q).imp fun a ka v W2 e2 hv=>⟨.ref p,hi,hj W2 e2 _ ((yG ka).imp fun k kk x W3 e3 hx=>?_)⟩)
 obtain⟨h3,h4⟩:=bg kk
 have e:=e2.trans e3
 have o':=o.mono e
 obtain⟨ob,vs,o1,lo,o2,hl,o3,o4⟩:=o'.h
 obtain⟨b,x1,x2,rfl,t1,r1,r2⟩:=hx
 cases r1
 cases r2
 obtain⟨p1,p2⟩:=rf o3 o4 (k:=k) (yE (R:=R) e3.g hv)
 refine⟨W3.G,p,vs,b,k,rfl,⟨ob,W3.ok,o1,lo,o2,hl⟩,by omega,rfl,t1,fun o2' d'=>?_⟩
 exact h4 (W3.mut p (XO p o2') o'.g) (.of e o'.g) ⟨o'.g,o2',_,aF,lo,d',by have:=rg (kvs:=xs) (k:=k) (a:=a);omega,p1,p2⟩
theorem tJ [Mono R] {xs:List ((Int×Int)×α)} (o:OwP prog w K R W p xs) (hi:σ[i]? =some (some (.ref p)):=by rfl):EV Er (dh (uB prog w K) (ak (bt i) aS)) σ W (sh isI) (.ok (xs.length:Int)):=fun W1 e1 Q k=>by
 obtain⟨vs,g,hl,_⟩:=(o.mono e1).pd
 exact⟨.ref p,hi,W1.G,p,vs,rfl,g,by rw[hl];exact k _ W1 (.refl _) rfl⟩
theorem rk [Mono R] {xs:List ((Int×Int)×α)} (o:OwP prog w K R W p xs) (hi:σ[i]? =some (some (.ref p)):=by rfl):EVo Er (dh (r6 prog w K) (ak (bt i) aS)) σ W (isT2 K isI isI) (.ok (xs.map (·.1))):=fun W1 e1 Q k=>by
 obtain⟨vs,g,hl,rel⟩:=(o.mono e1).pd
 refine⟨.ref p,hi,W1.G,p,vs,rfl,g,fun q us hq l1 at_=>?_⟩
 refine ip (W2:=W1) (vs:=us) ⟨by rw[ze,l1,hl],fun i v m e1 e2=>?_⟩ (.refl _) k q hq
 rw[yT]at e2
 obtain⟨x,h1,rfl⟩:=zM.mp e2
 have hv:i< vs.length:=by have:=(yR.mp h1).1;omega
 obtain⟨b,rfl,hb⟩:=at_ i v vs[i] e1 (yM hv)
 have:=(rel i vs[i] x (yM hv) h1).1
 rw[this]at hb
 exact⟨b,_,_,rfl,hb,rfl,rfl⟩
theorem rl {ma:Res (List (Int×Int))} (ha:EV Er ta σ W (pk (isT2 K isI isI)) ma):EVo Er (dh (r9 K) (ak ta aS)) σ W (isT2 K isI isI) (ma.bind fun a=>qW a):=fun W1 e1 Q k=>
 ha W1 e1 _ ((yG k).imp fun a ka x W2 e2 hx=>by
  obtain⟨p,vs,rfl,h1,h2⟩:=hx
  obtain⟨⟨h3,nd⟩,h4⟩:=bg ka
  refine⟨W2.G,p,vs,a,rfl,W2.ok,AJ h1,h2.1,fun i v k e1 e2=>?_,nd,h3,fun q us' ks' hq p1 p2 l1 at_=>?_⟩
  ·obtain⟨b,x1,x2,rfl,t1,r1,r2⟩:=h2.2 i v k e1 e2
   cases r1
   cases r2
   exact⟨b,rfl,t1⟩
  ·have e:ks'=cS a:=fI p1 (p2.imp fun {a b} h=>by rw[fY]at h;rw[fT];omega)
   rw[←e]at h4
   exact ip (W2:=W2) (vs:=us') ⟨l1,fun i v m e1 e2=>by
    obtain⟨b,rfl,hb⟩:=at_ i v m e1 e2
    exact⟨b,_,_,rfl,hb,rfl,rfl⟩⟩ e2 h4 q hq)
end
section
variable {Er:Nat→Prop} {α β γ:Type} {K:PySem.W.Frag} {W W0:Wd} {σ:St} {t ta tb te:TE} {cs:List TC} {D:Ends} {r:TS} {i k:Nat} {F:FS}
theorem vE {R:Rf α} {c:TT} {mc:Res Bool} {m n:Res α} (hc:TV Er c σ W mc) (h:EVt Er ta σ W R m) (g:EVt Er tb σ W R n):EVt Er (eI c ta tb) σ W R (mc.bind fun b=>if b then m else n):=fun W1 e1 Q k=>hc W1 e1 _ ((yG k).imp fun b kb W2 e2=>by
 cases b with
 | true=>exact h W2 (e1.trans e2) _ (kb.imp fun c kc v W3 F e3 hF hv=>kc v W3 F (e2.trans e3) (fun q hq=>none_of e2.h (hF q hq)) hv)
 | false=>exact g W2 (e1.trans e2) _ (kb.imp fun c kc v W3 F e3 hF hv=>kc v W3 F (e2.trans e3) (fun q hq=>none_of e2.h (hF q hq)) hv))
theorem rm {R:Rf α} [FrT R] {m:Res α} (h:EVt Er t σ W R m):EVt Er (bK (ak t aS)) σ W (oL R) (m.bind fun a=>.ok [a]):=fun W1 e1 Q k=>
 h W1 e1 _ ((yG k).imp fun a ka v W2 F e2 hF hv => ⟨pX (n := 1) (by decide), fun p hp => by
  have hl:=GK hv
  have np:¬F p:=fun z=>(hl p z).2 hp
  refine ka _ (W2.mut p (.lst [v]) (W2.gnone hp)) (fun q=>q=p∨F q) (e2.trans (.own _ hp)) (fun q hq=>hq.elim (fun z=>by rw[z];exact none_of e2.h hp) (hF q)) ⟨p,[v],fun j=>if j=0 then F else fun _=>False,rfl,W2.gnone hp,aF,⟨rfl,fun j x u a b=>?_,fun j q hq=>?_,fun j l q h1 h2=>?_⟩,fun j=>?_,fun q=>⟨?_,?_⟩⟩
  ·cases j with
   | zero=>cases a;cases b;exact FrT.ext hv (.own _ hp)
   | succ j=>cases a
  ·cases j with
   | zero=>exact Nat.zero_lt_one
   | succ j=>exact(show False from by simpa using hq).elim
  ·cases j <;> cases l <;> simp at h1 h2 ⊢
  ·cases j with
   | zero=>exact np
   | succ j=>simp
  ·rintro (z | z)
   ·exact .inl z
   ·exact .inr ⟨0,z⟩
  ·rintro (z | ⟨j,z⟩)
   ·exact .inl z
   ·cases j with
    | zero=>exact .inr z
    | succ j=>exact(show False from by simpa using z).elim⟩)
class NoL (R:Rp α):Prop where
 no:∀{G G':Hp} {a:α} {v:V},(∀q o,G q=some o→(∀vs,o≠.lst vs)→G' q=some o)→R G a v→R G' a v
instance zkeep63:NoL isI:=⟨fun _ h=>h⟩
theorem sqt_no {G G':Hp} (h:∀q o,G q=some o→(∀vs,o≠.lst vs)→G' q=some o) {p:Addr} {us:List V} (s:SqT K G p us):SqT K G' p us:=by
 rcases s with(s | ⟨o,s⟩) | s
 ·exact .inl (.inl (h _ _ s fun _ z=>nomatch z))
 ·exact .inl (.inr ⟨o,h _ _ s fun _ z=>nomatch z⟩)
 ·exact .inr s
instance zkeep66 {R1:Rp α} {R2:Rp β} [NoL R1] [NoL R2]:NoL (isT2 K R1 R2):=⟨fun h ⟨p,x,y,e,s,a,b⟩=>⟨p,x,y,e,sqt_no h s,NoL.no h a,NoL.no h b⟩⟩
theorem tK {R:Rp α} {xs:List (List α)} {v:V} (h:oL (oL (fz R)) W F xs v):∀q,F q→∃vs,W.H q=some (.lst vs):=by
 obtain⟨p,vs,Fs,rfl,g,hp,t,np,hF⟩:=h
 intro q hq
 rcases (hF q).mp hq with rfl | ⟨i,hi⟩
 ·exact⟨_,hp⟩
 ·obtain⟨x,u,_,_,r⟩:=t.at2 hi
  obtain⟨p',vs',Fs',rfl,g',hp',t',np',hF'⟩:=r
  rcases (hF' q).mp hi with rfl | ⟨j,hj⟩
  ·exact⟨_,hp'⟩
  ·obtain⟨y,w,_,_,r'⟩:=t'.at2 hj
   exact absurd hj (r'.1 q)
open Classical in
theorem wH {R:Rf β} [FrT R] {R':Rp β} [FzT R R'] {b:β} {u:V} (t:R W F b u):∃Wf,Wf.H=W.H∧Same W.G Wf.G∧R' Wf.G b u∧∀W2,Ext Wf W2→∃W3,W3.H=W2.H∧Ext W W3∧∀q,¬F q→W3.G q=W2.G q:=by
 have lv:=fun q=>GK t q
 have hs:Same W.G fun q=>if F q then W.H q else W.G q:=fun a o h=>by
  show(if F a then _ else _)=_
  rw[if_neg fun z=>by have:=(lv a z).1;rw[h]at this;cases this];exact h
 have ho:Same (fun q=>if F q then W.H q else W.G q) W.H:=fun a o h=>by
  have h:(if F a then W.H a else W.G a)=some o:=h
  split at h
  ·exact h
  ·exact W.ok _ _ h
 let Wf:Wd:=⟨_,W.H,ho⟩
 refine⟨Wf,rfl,hs,FzT.fz t hs fun q hq=>if_pos hq,fun W2 e=>⟨⟨fun q=>if F q then none else W2.G q,W2.H,fun a o h=>?_⟩,rfl,⟨fun a o h=>?_,e.h,fun q hq=>?_⟩,fun q hq=>if_neg hq⟩⟩
 ·have h:(if F a then none else W2.G a)=some o:=h
  split at h
  ·cases h
  ·exact W2.ok _ _ h
 ·show(if F a then none else W2.G a)=_
  rw[if_neg fun z=>by have:=(lv a z).1;rw[h]at this;cases this]
  exact e.g _ _ (hs _ _ h)
 ·show(if F q then none else W2.G q)=_
  by_cases z:F q
  ·rw[if_pos z,(lv q z).1]
  ·rw[if_neg z,e.k q hq];exact if_neg z
theorem rn {R:Rp β} [Mono R] [NoL R] {xs:List (List β)} {v:V} {m:Res (List β)} (S:Sep W0 W cs) (E:Ext W0 W) (hk:cs[k]? =some (tc (oL (oL (fz R))) xs v)) (h:∀Wf,Same W.G Wf.G→isL (isL R) Wf.G xs v→EVo Er te σ Wf R m) (q:(m.bind fun b=>dz xs b).OkE Er fun ys=>∀W',Same W.G W'.G→Ext W0 W'→Sep W0 W' (cs.set k (tc (oL (oL (fz R))) ys v))→D.nx σ W'.H) (hi:σ[i]? =some (some v):=by rfl):
  b6 (dq K "list" au (bt i) (ak te aS)) D σ W.H:=by
 have S':=S
 obtain⟨Fs,s⟩:=S'
 have tr:oL (oL (fz R)) W (Fs k) xs v:=s.el k _ hk
 have kk:k< cs.length:=(yR.mp hk).1
 have lst:=tK tr
 obtain⟨Wf,f1,f2,f3,f4⟩:=wH tr
 obtain⟨p0,vs0,_,rfl,g0,h0,_⟩:=id tr
 refine⟨_,hi,.inl ⟨rfl,vs0,AJ h0⟩,?_⟩
 have hh:=h Wf f2 f3 Wf (.refl _)
 rw[f1]at hh
 refine hh _ ((yG q).imp fun b kb p W2 e2 hp o=>?_)
 obtain⟨W3,a1,a2,a3⟩:=f4 W2 e2
 have nF:¬Fs k p:=fun z=>(GK tr p z).2 hp
 have t3:oL (fz R) W3 (· =p) b (.ref p):=by
  obtain⟨o1,us,o2,o3⟩:=o
  refine oL.ofOw ⟨by rw[a3 p nF];exact o1,us,by rw[a1];exact o2,o3.1,fun j x y e3 e4=>NoL.no (fun z o hz hn=>?_) (o3.2 j x y e3 e4)⟩
  rw[a3 z fun hf=>?_]
  ·exact hz
  ·obtain⟨ws,hw⟩:=lst z hf
   have e5:=e2.keepH (q:=z) (by rw[f1,hw];exact fun z=>nomatch z)
   rw[f1,hw,W2.ok _ _ hz]at e5
   cases e5
   exact hn _ rfl
 have S3:=Sep.add (F:=(· =p)) S E a2 (fun z hz=>by rw[hz];exact hp) t3
 rw[←a1]
 have:=qq (Er:=Er) (K:=K) (D:=⟨fun _ H=>D.nx σ H,D.rt,D.bk,D.ct⟩) (σ:=σ++ [some (.ref p)]) (i:=i) (j:=σ.length) (k:=k) (l:=cs.length) (xs:=xs) (b:=b) (v:=.ref p0) (u:=.ref p) S3 (E.trans a2) (by rw[zc kk];exact hk) (by simp) (zg kk) (kb.imp fun ys ky W' e1 e3 S4=>ky W' (a2.g.trans e1) e3 (by
  rw[List.set_append_left _ _ kk]at S4
  rw[Cb (by simp)]at S4
  simpa using S4)) (by rw[zc (yR.mp hi).1];exact hi) (by simp)
 obtain⟨v1,g1,_,v2,g2,g3⟩:=this
 rw[zc (yR.mp hi).1,hi]at g1
 cases g1
 rw[zd (yP _),Cj]at g2
 cases g2
 exact g3
end
end Wb
namespace Mi
noncomputable section
@[irreducible] def wU (Z0k:List Int) (l_k:Int):Res Int:=if(decide (l_k< (Z0k.length:Int)))then ic Z0k l_k else(i9 ((l_k*48271)+(11:Int)) ((Z0k.length:Int)+(7:Int))).bind fun y8=>yL (y8% 1000003)
def fJ (Z0k:List Int) (l_k:Int):Res Int:=wU Z0k l_k
@[irreducible] def vS (Z01:Int) (Z0q:Int) (a19:Int) (s20:(Int×Int×(List Int))):Res (Int×Int×(List Int)):=((if(decide ((1000000000000000000:Int)≤ca Z01))then yL (decide ((0:Int)< s20.2.1))else yL false).bind fun y45=>(if y45 then((iR s20.2.1 Z0q).bind fun y56=>dz s20.2.2 y56).bind fun y55=>(gB s20.2.1 Z0q).bind fun y59=>yL (y59,y55)else((((i9 ((((s20.1*48271)+(7919:Int))+a19)% 2147483647) ((((s20.1*48271)+(7919:Int))+a19)% 2147483647)).bind fun y63=>yL (y63% 1000003)).bind fun y64=>iR y64 Z0q).bind fun y69=>dz s20.2.2 y69).bind fun y68=>yL (s20.2.1,y68):Res (Int×(List Int)))).bind fun s70=>yL (((((s20.1*48271)+(7919:Int))+a19)% 2147483647),s70.1,s70.2)
@[irreducible] def wV (Z01:Int) (Z0f:Int) (Z0q:Int):Res (List Int):=((eT Z0f).bind fun y78=>bF (vS Z01 Z0q) y78 (((ca Z01)% 2147483647),ca Z01,([]:List Int))).bind fun s79=>yL s79.2.2
def fv (Z01:Int) (Z0f:Int) (Z0q:Int):Res (List Int):=wV Z01 Z0f Z0q
@[irreducible] def vT (y3:Int) (y8:List Int) (a15:Int) (s16:Tx):Res Tx:=(((((ic y8 (4:Int)).bind fun y39=>((iR a15 y3).bind fun y38=>yL (y38*7)).bind fun y40=>yL (y39+y40)).bind fun y41=>yL (y41% 26)).bind fun y42=>dC ([97,98,99,100,101,102,103,104,105,106,107,108,109,110,111,112,113,114,115,116,117,118,119,120,121,122]:Tx) y42).bind fun y43=>iS s16 y43).bind fun y44=>yL y44
@[irreducible] def wW (fv:Int→Int→Int→Res (List Int)) (Z01:Int):Res Tx:=(ic [(1:Int),(2:Int),(3:Int),(4:Int),(26:Int)] (Z01% 5)).bind fun y3=>(fv (Z01/ 5) (5:Int) (26:Int)).bind fun y8=>(bF (vT y3 y8) (cut y8 none (some (4:Int))) ([]:Tx)).bind fun s47=>yL s47
def tL (Z01:Int):Res Tx:=wW fv Z01
@[irreducible] def wX (tL:Int→Res Tx) (Z01:Int):Res (Tx×Tx×Int):=(dC ([83,90]:Tx) (Z01% 2)).bind fun y1=>(tL (Z01/ 8)).bind fun y2=>yL (y1,y2,((Z01/ 2)% 4))
def sf (Z01:Int):Res (Tx×Tx×Int):=wX tL Z01
@[irreducible] def wY (fv:Int→Int→Int→Res (List Int)) (Z01:Int) (Z0f:Int):Res Tx:=if(decide ((Z01% 7)=(3:Int)))then(dC ([102,98,105]:Tx) ((Z01/ 7)% 3)).bind fun y3=>vb y3 Z0f else((fv (Z01/ 7) Z0f (3:Int)).bind fun y18=>dA y18 (fun(a9:Int)=>dC ([102,98,105]:Tx) a9)).bind fun y19=>kE y19
def tM (Z01:Int) (Z0f:Int):Res Tx:=wY fv Z01 Z0f
@[irreducible] def wZ (Z0n:Tx):Res Int:=(gp ([98,105,102]:Tx) Z0n).bind fun y1=>yL (y1- (1:Int))
def ln (Z0n:Tx):Res Int:=wZ Z0n
@[irreducible] def x0 (ln:Tx→Res Int) (Z03:Tx×Tx×Int) (Z0n:Tx):Res (Tx×Tx×Int):=(((ln Z0n).bind fun y1=>yL (Z03.2.2+y1)).bind fun y2=>yL (y2% 4)).bind fun y3=>yL (Z03.1,Z03.2.1,y3)
def gU (Z03:Tx×Tx×Int) (Z0n:Tx):Res (Tx×Tx×Int):=x0 ln Z03 Z0n
@[irreducible] def x3 (ln:Tx→Res Int) (Z03:Tx×Tx×Int) (Z0n:Tx):Res Int:=if(decide (Z03.1=([83]:Tx)))then ln Z0n else(ln Z0n).bind fun y8=>yL ((0:Int)- y8)
def gy (Z03:Tx×Tx×Int) (Z0n:Tx):Res Int:=x3 ln Z03 Z0n
@[irreducible] def vU (gU:(Tx×Tx×Int)→Tx→Res (Tx×Tx×Int)) (gy:(Tx×Tx×Int)→Tx→Res Int) (a7:Tx) (s8:((Tx×Tx×Int)×(List (Tx×Tx×Tx)))):Res ((Tx×Tx×Int)×(List (Tx×Tx×Tx))):=(gU s8.1 a7).bind fun y34=>(((gy y34 a7).bind fun y39=>yL (y39+(1:Int))).bind fun y40=>dC ([122,111,115]:Tx) y40).bind fun y41=>(((dC y34.2.1 y34.2.2).bind fun y44=>(dC y34.2.1 ((y34.2.2+(2:Int))% 4)).bind fun y45=>yL (y44,y45,y41)).bind fun y50=>dz s8.2 y50).bind fun y49=>yL (y34,y49)
@[irreducible] def x4 (gU:(Tx×Tx×Int)→Tx→Res (Tx×Tx×Int)) (gy:(Tx×Tx×Int)→Tx→Res Int) (Z03:Tx×Tx×Int) (Z06:Tx):Res (List (Tx×Tx×Tx)):=(bF (vU gU gy) (cv Z06) (Z03,([]:List (Tx×Tx×Tx)))).bind fun s51=>yL s51.2
def tN (Z03:Tx×Tx×Int) (Z06:Tx):Res (List (Tx×Tx×Tx)):=x4 gU gy Z03 Z06
@[irreducible] def vV (a16:(Tx×Tx×Tx)×Int) (s17:(Int×(List (Tx×Tx×Tx)))):Res (Int×(List (Tx×Tx×Tx))):=((if(decide (a16.2=(5:Int)))then yL (decide (s17.1< (6:Int)))else yL false).bind fun y45=>(if y45 then yL ((s17.1+(1:Int)),(([63]:Tx),a16.1.2.1,([63]:Tx)))else yL (s17.1,a16.1):Res (Int×(Tx×Tx×Tx)))).bind fun s61=>(dz s17.2 s61.2).bind fun y74=>yL (s61.1,y74)
@[irreducible] def x5 (fv:Int→Int→Int→Res (List Int)) (Z0p:List (Tx×Tx×Tx)) (Z01:Int):Res (List (Tx×Tx×Tx)):=(fv (Z01/ 3) (Z0p.length:Int) (11:Int)).bind fun y13=>(bF vV (Z0p.zip y13) ((0:Int),([]:List (Tx×Tx×Tx)))).bind fun s75=>(if(decide ((Z01% 3)=(2:Int)))then(iR (Z01/ 3) (Z0p.length:Int)).bind fun y87=>((((ic s75.2 y87).bind fun y90=>yL y90.1).bind fun y92=>((ic s75.2 y87).bind fun y91=>yL y91.2.1).bind fun y93=>(dC ([115,122,111]:Tx) ((Z01/ 7)% 3)).bind fun y94=>yL (y92,y93,y94)).bind fun y98=>ie s75.2 y87 y98).bind fun y99=>yL y99 else yL s75.2:Res (List (Tx×Tx×Tx))).bind fun s101=>yL s101
def tO (Z0p:List (Tx×Tx×Tx)) (Z01:Int):Res (List (Tx×Tx×Tx)):=x5 fv Z0p Z01
@[irreducible] def vW (Z01:Int) (a14:(Tx×Tx×Tx)×Int) (s15:(List (Tx×Tx×Tx))):Res (List (Tx×Tx×Tx)):=(if(decide ((Z01% 5)=(0:Int)))then yL ((a14.2/ 8)*8)else yL a14.2:Res Int).bind fun s56=>(if(decide ((Z01% 5)=(1:Int)))then yL (((s56/ 8)*8)+(7:Int))else yL s56:Res Int).bind fun s75=>((if(decide ((56:Int)≤s75))then yL (decide ((s75% 3)< (2:Int)))else yL false).bind fun y90=>(if y90 then(((((ic [a14.1.1,a14.1.2.1,a14.1.2.2] (s75% 3)).bind fun y101=>gp ([97,98,99,100,101,102,103,104,105,106,107,108,109,110,111,112,113,114,115,116,117,118,119,120,121,122,97]:Tx) y101).bind fun y102=>yL (y102+(1:Int))).bind fun y103=>dC ([97,98,99,100,101,102,103,104,105,106,107,108,109,110,111,112,113,114,115,116,117,118,119,120,121,122,97]:Tx) y103).bind fun y107=>ie [a14.1.1,a14.1.2.1,a14.1.2.2] (s75% 3) y107).bind fun y108=>yL y108 else yL [a14.1.1,a14.1.2.1,a14.1.2.2]:Res (List Tx))).bind fun s110=>((if(decide ((56:Int)≤s75))then yL (decide ((s75% 3)=(2:Int)))else yL false).bind fun y120=>(if y120 then((((ic s110 (2:Int)).bind fun y127=>gp ([115,122,111]:Tx) y127).bind fun y128=>dC ([122,111,115]:Tx) y128).bind fun y132=>ie s110 (2:Int) y132).bind fun y133=>yL y133 else yL s110:Res (List Tx))).bind fun s135=>(((dA (s135.zip [(1:Int),(2:Int),(4:Int)]) (fun(a149:Tx×Int)=>(((gB s75 a149.2).bind fun y158=>yL (y158% 2)).bind fun y159=>yL (decide (y159=(1:Int)))).bind fun y160=>if y160 then yL a149.1 else yL ([63]:Tx))).bind fun y163=>vc y163).bind fun y168=>dz s15 y168).bind fun y167=>yL y167
@[irreducible] def x6 (fv:Int→Int→Int→Res (List Int)) (Z0p:List (Tx×Tx×Tx)) (Z01:Int) (Z0C:Bool):Res (List (Tx×Tx×Tx)):=(((i9 (8:Int) (if Z0C then(1:Int)else 0)).bind fun y9=>yL ((56:Int)+y9)).bind fun y10=>fv (Z01/ 5) (Z0p.length:Int) y10).bind fun y11=>(bF (vW Z01) (Z0p.zip y11) ([]:List (Tx×Tx×Tx))).bind fun s169=>yL s169
def tP (Z0p:List (Tx×Tx×Tx)) (Z01:Int) (Z0C:Bool):Res (List (Tx×Tx×Tx)):=x6 fv Z0p Z01 Z0C
@[irreducible] def x8 (Z03:Tx×Tx×Int):Res (Tx×Tx×Int):=((gp ([83,90]:Tx) Z03.1).bind fun y5=>dC ([90,83]:Tx) y5).bind fun y12=>((((dC Z03.2.1 (0:Int)).bind fun y6=>(dC Z03.2.1 (3:Int)).bind fun y7=>iS y6 y7).bind fun y8=>(dC Z03.2.1 (2:Int)).bind fun y9=>iS y8 y9).bind fun y10=>(dC Z03.2.1 (1:Int)).bind fun y11=>iS y10 y11).bind fun y13=>yL (y12,y13,(((0:Int)- Z03.2.2)% 4))
def tQ (Z03:Tx×Tx×Int):Res (Tx×Tx×Int):=x8 Z03
@[irreducible] def x9 (Z06:Tx):Res Tx:=(dA (cv Z06) (fun(a1:Tx)=>(gp ([98,105,102]:Tx) a1).bind fun y8=>dC ([102,105,98]:Tx) y8)).bind fun y11=>kE y11
def tR (Z06:Tx):Res Tx:=x9 Z06
@[irreducible] def xb (Z03:Tx×Tx×Int) (Z0f:Int):Res (Tx×Tx×Int):=(((eT (4:Int)).bind fun y13=>dA y13 (fun(a3:Int)=>dC Z03.2.1 ((a3- Z0f)% 4))).bind fun y14=>kE y14).bind fun y15=>yL (Z03.1,y15,((Z03.2.2+Z0f)% 4))
def tS (Z03:Tx×Tx×Int) (Z0f:Int):Res (Tx×Tx×Int):=xb Z03 Z0f
@[irreducible] def vX (a37:Int) (s38:(List Int)):Res (List Int):=(if(!s38.contains a37)then(dz s38 a37).bind fun y68=>yL y68 else yL s38:Res (List Int)).bind fun s70=>yL s70
@[irreducible] def wI (gU:(Tx×Tx×Int)→Tx→Res (Tx×Tx×Int)) (a7:Tx) (s8:((Tx×Tx×Int)×(List Int))):Res ((Tx×Tx×Int)×(List Int)):=(gU s8.1 a7).bind fun y34=>(bF vX [y34.2.2,((y34.2.2+(2:Int))% 4)] s8.2).bind fun s78=>yL (y34,s78)
@[irreducible] def xc (gU:(Tx×Tx×Int)→Tx→Res (Tx×Tx×Int)) (Z03:Tx×Tx×Int) (Z06:Tx):Res (List Int):=(bF (wI gU) (cv Z06) (Z03,([]:List Int))).bind fun s82=>pU s82.2
def tT (Z03:Tx×Tx×Int) (Z06:Tx):Res (List Int):=xc gU Z03 Z06
@[irreducible] def vY (Z01:Int) (y40:List Int) (a43:Int) (s44:(Tx×Tx×Int)):Res (Tx×Tx×Int):=(if(!y40.contains a43)then((((i9 (5:Int) a43).bind fun y75=>yL ((Z01/ 16)+y75)).bind fun y76=>yL (y76% 26)).bind fun y77=>dC ([97,98,99,100,101,102,103,104,105,106,107,108,109,110,111,112,113,114,115,116,117,118,119,120,121,122]:Tx) y77).bind fun y78=>((((o7 s44.2.1 none (some a43)).bind fun y83=>iS y83 y78).bind fun y84=>(o7 s44.2.1 (some (a43+(1:Int))) none).bind fun y85=>iS y84 y85).bind fun y86=>yL (s44.1,y86,s44.2.2)).bind fun y87=>yL y87 else yL s44:Res (Tx×Tx×Int)).bind fun s91=>yL s91
@[irreducible] def xf (tQ:(Tx×Tx×Int)→Res (Tx×Tx×Int)) (tR:Tx→Res Tx) (tS:(Tx×Tx×Int)→Int→Res (Tx×Tx×Int)) (tT:(Tx×Tx×Int)→Tx→Res (List Int)) (Z03:Tx×Tx×Int) (Z06:Tx) (Z01:Int):Res ((Tx×Tx×Int)×Tx):=(if(decide ((Z01% 2)=(1:Int)))then(tQ Z03).bind fun y9=>(tR Z06).bind fun y14=>yL (y9,y14)else yL (Z03,Z06):Res ((Tx×Tx×Int)×Tx)).bind fun s18=>(tS s18.1 ((Z01/ 2)% 4)).bind fun y29=>(if(decide (((Z01/ 8)% 2)=(1:Int)))then(tT y29 s18.2).bind fun y40=>((eT (4:Int)).bind fun y101=>bF (vY Z01 y40) y101 y29).bind fun s102=>yL s102 else yL y29:Res (Tx×Tx×Int)).bind fun s107=>yL (s107,s18.2)
def tU (Z03:Tx×Tx×Int) (Z06:Tx) (Z01:Int):Res ((Tx×Tx×Int)×Tx):=xf tQ tR tS tT Z03 Z06 Z01
@[irreducible] def xg (sf:Int→Res (Tx×Tx×Int)) (fJ:List Int→Int→Res Int) (tM:Int→Int→Res Tx) (tN:(Tx×Tx×Int)→Tx→Res (List (Tx×Tx×Tx))) (tO:(List (Tx×Tx×Tx))→Int→Res (List (Tx×Tx×Tx))) (tP:(List (Tx×Tx×Tx))→Int→Bool→Res (List (Tx×Tx×Tx))) (tU:(Tx×Tx×Int)→Tx→Int→Res ((Tx×Tx×Int)×Tx)) (Z0k:List Int) (Z0o:Int):Res ((Tx×Tx×Int)×(List (Tx×Tx×Tx))×Int):=((fJ Z0k (0:Int)).bind fun y3=>sf y3).bind fun y4=>(fJ Z0k (2:Int)).bind fun y9=>(fJ Z0k (3:Int)).bind fun y14=>(iR y9 (Z0o+(1:Int))).bind fun y19=>(if(decide (((y9/ 13)% 6)=(1:Int)))then yL ((25:Int)+((y9/ 78)% 36))else yL y19:Res Int).bind fun s33=>(if(decide (((y9/ 13)% 6)=(3:Int)))then yL ((13:Int)+((y9/ 78)% 12))else yL s33:Res Int).bind fun s51=>((fJ Z0k (1:Int)).bind fun y60=>tM y60 s51).bind fun y61=>(tN y4 y61).bind fun y66=>(if(decide (Z0o< s51))then(tO y66 y14).bind fun y77=>yL y77 else(tP y66 (y14/ 3) (decide ((y14% 3)=(2:Int)))).bind fun y83=>yL y83:Res (List (Tx×Tx×Tx))).bind fun s86=>((fJ Z0k (4:Int)).bind fun y97=>yL (y97/ 4)).bind fun y98=>(if(decide ((y98% 6)=(1:Int)))then((tU y4 y61 (y98/ 6)).bind fun y109=>yL y109.1).bind fun y110=>yL y110 else yL y4:Res (Tx×Tx×Int)).bind fun s114=>(if(decide ((y98% 6)=(2:Int)))then(sf (y98/ 6)).bind fun y131=>yL y131 else yL s114:Res (Tx×Tx×Int)).bind fun s135=>((fJ Z0k (4:Int)).bind fun y144=>yL (y144% 4)).bind fun y145=>yL (s135,s86,y145)
def si (Z0k:List Int) (Z0o:Int):Res ((Tx×Tx×Int)×(List (Tx×Tx×Tx))×Int):=xg sf fJ tM tN tO tP tU Z0k Z0o
@[irreducible] def xh (fv:Int→Int→Int→Res (List Int)) (Z0S:List (Tx×Tx×Tx)) (Z01:Int):Res (List (Tx×Tx×Tx)):=(if(decide ((Z0S.length:Int)< (13:Int)))then yL true else yL (!decide ((Z01% 8)=(3:Int)))).bind fun y1=>if y1 then yL Z0S else(fv (Z01/ 8) (Z0S.length:Int) (5:Int)).bind fun y10=>dA (Z0S.zip y10) (fun(a17:(Tx×Tx×Tx)×Int)=>if(decide ((1:Int)< a17.2))then yL (([63]:Tx),([63]:Tx),([63]:Tx))else yL a17.1)
def tV (Z0S:List (Tx×Tx×Tx)) (Z01:Int):Res (List (Tx×Tx×Tx)):=xh fv Z0S Z01
@[irreducible] def sj (a83:Tx×Tx) (s84:Bool):Res Bool:=((if(!decide (a83.2=([63]:Tx)))then yL (!decide (a83.2=a83.1))else yL false).bind fun y112=>(if y112 then yL false else yL s84:Res Bool)).bind fun s124=>yL s124
@[irreducible] def uC (gy:(Tx×Tx×Int)→Tx→Res Int) (Z03:Tx×Tx×Int) (Z1E:Tx×Tx×Tx) (Z0c:Int) (Z0d:Int) (Z0l:Int×Int) (a7:Tx) (s8:(List (Int×Int))):Res (List (Int×Int)):=(gy Z03 a7).bind fun y38=>(i9 (Z0l.2+(1:Int)) (if(decide (a7=([105]:Tx)))then(1:Int)else 0)).bind fun y47=>(if(decide (Z03.1=([90]:Tx)))then yL ((Z03.2.2- (Z0l.1+y38))% 4)else yL ((Z03.2.2+(Z0l.1+y38))% 4):Res Int).bind fun s65=>(if(decide (ca (Z0l.1+y38)≤Z0d))then yL (decide (y47≤Z0c))else yL false).bind fun y75=>(((((dC Z03.2.1 s65).bind fun y78=>(dC Z03.2.1 ((s65+(2:Int))% 4)).bind fun y79=>(dC ([122,111,115]:Tx) (y38+(1:Int))).bind fun y80=>yL (y78,y79,y80)).bind fun y81=>yL [y81.1,y81.2.1,y81.2.2]).bind fun y82=>yL (y82.zip [Z1E.1,Z1E.2.1,Z1E.2.2])).bind fun y132=>bF sj y132 y75).bind fun s133=>(if s133 then(dz s8 ((Z0l.1+y38),y47)).bind fun y146=>yL y146 else yL s8:Res (List (Int×Int))).bind fun s148=>yL s148
@[irreducible] def xi (gy:(Tx×Tx×Int)→Tx→Res Int) (Z03:Tx×Tx×Int) (Z1E:Tx×Tx×Tx) (Z0c:Int) (Z0d:Int) (Z0l:Int×Int):Res (List (Int×Int)):=(bF (uC gy Z03 Z1E Z0c Z0d Z0l) (cv ([102,98,105]:Tx)) ([]:List (Int×Int))).bind fun s156=>yL s156
def jR (Z03:Tx×Tx×Int) (Z1E:Tx×Tx×Tx) (Z0c:Int) (Z0d:Int) (Z0l:Int×Int):Res (List (Int×Int)):=xi gy Z03 Z1E Z0c Z0d Z0l
@[irreducible] def vF (a63:Int×Int) (s64:(List ((Int×Int)×Bool))):Res (List ((Int×Int)×Bool)):=(qV s64 a63 true).bind fun y89=>yL y89
@[irreducible] def wJ (jR:(Tx×Tx×Int)→(Tx×Tx×Tx)→Int→Int→(Int×Int)→Res (List (Int×Int))) (Z03:Tx×Tx×Int) (Z0c:Int) (Z0d:Int) (a7:Tx×Tx×Tx) (a39:Int×Int) (s40:(List ((Int×Int)×Bool))):Res (List ((Int×Int)×Bool)):=((jR Z03 a7 Z0c Z0d a39).bind fun y90=>bF vF y90 s40).bind fun s91=>yL s91
@[irreducible] def vG (jR:(Tx×Tx×Int)→(Tx×Tx×Tx)→Int→Int→(Int×Int)→Res (List (Int×Int))) (Z03:Tx×Tx×Int) (Z0c:Int) (Z0d:Int) (a7:Tx×Tx×Tx) (s8:(List (List (Int×Int)))):Res (Fl (List (List (Int×Int))) (List (List (Int×Int)))):=((ic s8 (-(1:Int))).bind fun y95=>bF (wJ jR Z03 Z0c Z0d a7) y95 ([]:List ((Int×Int)×Bool))).bind fun s96=>((qW (s96.map (·.1))).bind fun y104=>dz s8 y104).bind fun y103=>if(decide ((s96.length:Int)=(0:Int)))then yL (.rt y103)else yL (.nx y103)
@[irreducible] def xj (jR:(Tx×Tx×Int)→(Tx×Tx×Tx)→Int→Int→(Int×Int)→Res (List (Int×Int))) (Z03:Tx×Tx×Int) (Z0S:List (Tx×Tx×Tx)) (Z0c:Int) (Z0d:Int):Res (List (List (Int×Int))):=(fP (vG jR Z03 Z0c Z0d) Z0S [[((0:Int),(0:Int))]]).bind (fun | .nx s107=>(yL s107) | .rt r=>yL r | .bk _=>GI)
def tW (Z03:Tx×Tx×Int) (Z0S:List (Tx×Tx×Tx)) (Z0c:Int) (Z0d:Int):Res (List (List (Int×Int))):=xj jR Z03 Z0S Z0c Z0d
@[irreducible] def xk (state:Int×Int) (loose:Int) (bound:Int):Res Bool:=if(decide (ca state.1≤bound))then yL (decide (state.2≤loose))else yL false
def l8 (state:Int×Int) (loose:Int) (bound:Int):Res Bool:=xk state loose bound
@[irreducible] def xl (tablet:Tx×Tx×Int) (turn:Tx):Res Int:=(getD ([([102],1),([98],(-1)),([105],0)]:List (Tx×Int)) turn).bind fun y3=>if(decide (tablet.1=([83]:Tx)))then yL y3 else yL (-y3)
def m8 (tablet:Tx×Tx×Int) (turn:Tx):Res Int:=xl tablet turn
@[irreducible] def xm (m8:(Tx×Tx×Int)→Tx→Res Int) (tablet:Tx×Tx×Int) (state:Int×Int) (turn:Tx):Res (Int×Int):=((m8 tablet turn).bind fun y9=>yL (state.1+y9)).bind fun y10=>(if(decide (turn=([105]:Tx)))then yL (state.2+(1:Int))else yL (0:Int)).bind fun y11=>yL (y10,y11)
def sk (tablet:Tx×Tx×Int) (state:Int×Int) (turn:Tx):Res (Int×Int):=xm m8 tablet state turn
@[irreducible] def xn (tablet:Tx×Tx×Int) (twist:Int):Res (Tx×Tx×Int):=((if(decide (tablet.1=([83]:Tx)))then yL (tablet.2.2+twist)else yL (tablet.2.2- twist)).bind fun y11=>yL (y11% 4)).bind fun y12=>yL (tablet.1,tablet.2.1,y12)
def tX (tablet:Tx×Tx×Int) (twist:Int):Res (Tx×Tx×Int):=xn tablet twist
@[irreducible] def ny (tablet:Tx×Tx×Int):Res Tx:=dC tablet.2.1 (tablet.2.2% 4)
def gd (tablet:Tx×Tx×Int):Res Tx:=ny tablet
@[irreducible] def xo (tablet:Tx×Tx×Int):Res Tx:=dC tablet.2.1 ((tablet.2.2+(2:Int))% 4)
def tY (tablet:Tx×Tx×Int):Res Tx:=xo tablet
@[irreducible] def xp (gd:(Tx×Tx×Int)→Res Tx) (tY:(Tx×Tx×Int)→Res Tx) (m8:(Tx×Tx×Int)→Tx→Res Int) (tablet:Tx×Tx×Int) (turn:Tx):Res (Tx×Tx×Tx):=(gd tablet).bind fun y2=>(tY tablet).bind fun y3=>((m8 tablet turn).bind fun y1=>getD ([(1,[115]),((-1),[122]),(0,[111])]:List (Int×Tx)) y1).bind fun y4=>yL (y2,y3,y4)
def tZ (tablet:Tx×Tx×Int) (turn:Tx):Res (Tx×Tx×Tx):=xp gd tY m8 tablet turn
@[irreducible] def xq (sign:Tx) (left:Tx):Res Bool:=if(decide (left=([63]:Tx)))then yL true else yL (decide (left=sign))
def sm (sign:Tx) (left:Tx):Res Bool:=xq sign left
@[irreducible] def xr (sm:Tx→Tx→Res Bool) (place:Tx×Tx×Tx) (mark:Tx×Tx×Tx):Res Bool:=(dA ([place.1,place.2.1,place.2.2].zip [mark.1,mark.2.1,mark.2.2]) (fun(a1:Tx×Tx)=>sm a1.1 a1.2)).bind fun y12=>yL (y12.all id)
def u0 (place:Tx×Tx×Tx) (mark:Tx×Tx×Tx):Res Bool:=xr sm place mark
@[irreducible] def xt (u0:(Tx×Tx×Tx)→(Tx×Tx×Tx)→Res Bool) (tZ:(Tx×Tx×Int)→Tx→Res (Tx×Tx×Tx)) (tX:(Tx×Tx×Int)→Int→Res (Tx×Tx×Int)) (tablet:Tx×Tx×Int) (state:Int×Int) (turn:Tx) (mark:Tx×Tx×Tx):Res Bool:=((tX tablet state.1).bind fun y1=>tZ y1 turn).bind fun y2=>u0 y2 mark
def rp (tablet:Tx×Tx×Int) (state:Int×Int) (turn:Tx) (mark:Tx×Tx×Tx):Res Bool:=xt u0 tZ tX tablet state turn mark
@[irreducible] def xu (sk:(Tx×Tx×Int)→(Int×Int)→Tx→Res (Int×Int)) (l8:(Int×Int)→Int→Int→Res Bool) (rp:(Tx×Tx×Int)→(Int×Int)→Tx→(Tx×Tx×Tx)→Res Bool) (tablet:Tx×Tx×Int) (mark:Tx×Tx×Tx) (loose:Int) (bound:Int) (state:Int×Int):Res (List (Tx×(Int×Int))):=(dA (cv ([102,98,105]:Tx)) (fun(a3:Tx)=>(sk tablet state a3).bind fun y12=>yL (a3,y12))).bind fun y15=>mM y15 (fun(a18:Tx×(Int×Int))=>((l8 a18.2 loose bound).bind fun y31=>if y31 then rp tablet a18.2 a18.1 mark else yL false).bind fun y33=>if y33 then yL (some (a18.1,a18.2))else yL none)
def rq (tablet:Tx×Tx×Int) (mark:Tx×Tx×Tx) (loose:Int) (bound:Int) (state:Int×Int):Res (List (Tx×(Int×Int))):=xu sk l8 rp tablet mark loose bound state
@[irreducible] def xv (rq:(Tx×Tx×Int)→(Tx×Tx×Tx)→Int→Int→(Int×Int)→Res (List (Tx×(Int×Int)))) (tablet:Tx×Tx×Int) (mark:Tx×Tx×Tx) (loose:Int) (bound:Int) (states:List (Int×Int)):Res (List (Int×Int)):=(bF (fun(a6:Int×Int) (s8:List (Int×Int))=>(rq tablet mark loose bound a6).bind fun y36=>bF (fun(a20:Tx×(Int×Int)) (s22:List (Int×Int))=>kO s22 a20.2) y36 s8) states ([]:List (Int×Int))).bind fun k37=>qv k37
def m9 (tablet:Tx×Tx×Int) (mark:Tx×Tx×Tx) (loose:Int) (bound:Int) (states:List (Int×Int)):Res (List (Int×Int)):=xv rq tablet mark loose bound states
@[irreducible] def uD (m9:(Tx×Tx×Int)→(Tx×Tx×Tx)→Int→Int→(List (Int×Int))→Res (List (Int×Int))) (tablet:Tx×Tx×Int) (loose:Int) (bound:Int) (a7:Tx×Tx×Tx) (s8:(List (List (Int×Int)))):Res (Fl (List (List (Int×Int))) (List (List (Int×Int)))):=((ic s8 (-(1:Int))).bind fun y28=>yL y28.isEmpty).bind fun y29=>if y29 then yL (.rt s8)else(((ic s8 (-(1:Int))).bind fun y38=>m9 tablet a7 loose bound y38).bind fun y39=>dz s8 y39).bind fun y40=>yL (.nx y40)
@[irreducible] def xw (l8:(Int×Int)→Int→Int→Res Bool) (m9:(Tx×Tx×Int)→(Tx×Tx×Tx)→Int→Int→(List (Int×Int))→Res (List (Int×Int))) (tablet:Tx×Tx×Int) (strip:List (Tx×Tx×Tx)) (loose:Int) (bound:Int):Res (List (List (Int×Int))):=(((l8 (0,0) loose bound).bind fun y1=>if y1 then yL [(0,0)]else yL ([]:List (Int×Int))).bind fun y2=>yL [y2]).bind fun y3=>(fP (uD m9 tablet loose bound) strip y3).bind (fun | .nx s43=>(yL s43) | .rt r=>yL r | .bk _=>GI)
def sn (tablet:Tx×Tx×Int) (strip:List (Tx×Tx×Tx)) (loose:Int) (bound:Int):Res (List (List (Int×Int))):=xw l8 m9 tablet strip loose bound
@[irreducible] def nz (si:List Int→Int→Res ((Tx×Tx×Int)×(List (Tx×Tx×Tx))×Int)) (tV:(List (Tx×Tx×Tx))→Int→Res (List (Tx×Tx×Tx))) (fJ:List Int→Int→Res Int) (tW:(Tx×Tx×Int)→(List (Tx×Tx×Tx))→Int→Int→Res (List (List (Int×Int)))) (sn:(Tx×Tx×Int)→(List (Tx×Tx×Tx))→Int→Int→Res (List (List (Int×Int)))) (Z0k:List Int):Res Bool:=(si Z0k (12:Int)).bind fun y1=>((fJ Z0k (6:Int)).bind fun y14=>tV y1.2.1 y14).bind fun y15=>((fJ Z0k (5:Int)).bind fun y20=>yL (y20% 7)).bind fun y21=>(((((fJ Z0k (5:Int)).bind fun y24=>yL (y24/ 7)).bind fun y25=>yL (y25% 4)).bind fun y26=>yL (decide (y26=(1:Int)))).bind fun y27=>(if y27 then(((fJ Z0k (5:Int)).bind fun y36=>yL (y36/ 28)).bind fun y37=>yL (y37% 61)).bind fun y38=>yL y38 else yL y21:Res Int)).bind fun s42=>((if(decide ((12:Int)< (y15.length:Int)))then(((fJ Z0k (5:Int)).bind fun y49=>yL (y49/ 7)).bind fun y50=>yL (y50% 4)).bind fun y51=>yL (decide (y51=(2:Int)))else yL false).bind fun y52=>(if y52 then yL (60:Int)else yL s42:Res Int)).bind fun s64=>(tW y1.1 y15 y1.2.2 s64).bind fun y73=>(sn y1.1 y15 y1.2.2 s64).bind fun y80=>(((vR y80 y73).bind fun y87=>yL (!y87)).bind fun y89=>if y89 then yL true else(vR y15 y15).bind fun y88=>yL (!y88)).bind fun y90=>if y90 then yL false else((sS (y80,fun(b:List (List (Int×Int)))=>b) (0:Int)).bind fun y97=>(dz y97.1 ((1:Int),(1:Int))).bind fun b=>yL (y97.2 b)).bind fun y98=>(yL ((y98,fun(b:List (List (Int×Int)))=>b).2 [])).bind fun y101=>(sn y1.1 y15 y1.2.2 s64).bind fun y104=>vR y104 y73
def rA (Z0k:List Int):Res Bool:=nz si tV fJ tW sn Z0k
end
end Mi
namespace Wb
open PySem L2 Mi
def tp (i:Nat):Stmt:=PySem.Challenge.pw_wornband_k30_searches_told.main.body.getD i (.Pass ⟨0,0,0,0⟩)
section
variable {P:zf} {w:zt} {K:PySem.W.Frag} {mg:Str→Option yH} {base:Heap}
theorem xV {f:Addr} {fd:zu} (F:Fun K "_law_at" "_law_at" (tp 28) f fd) (h_len:mg "len" =none):FnOk P w K mg base CX0 (1) f fd ["_law_script","_law_k"] (bu (isScr K) isI (rs isI) (wU)):=by
 have SC:FnScope ["_law_script","_law_k"] ["_law_script","_law_k"] (defScope (tp 28)):=⟨rfl,rfl,rfl,by decide +kernel,rfl,by decide +kernel,by decide +kernel⟩
 refine F.ok SC (fun vs H Q E h=>?_) (fun cdv A outer s H vs Q E hr h=>?_)
 ·obtain⟨_,_,_,_,_,_,rfl,_⟩:=h;rfl
 ·obtain⟨W0,Z0k,l_k,Z0a,_,rfl,rfl,Z02,z_l_k,Er,hq⟩:=h
  cases z_l_k
  refine⟨_,(af (bq (aA mF (pv 1) (aK (cg (K:=K) rfl) (by rfl) h_len PySem.boot_len (a5 (pv 0) ae)) (ay _)) (ag (aB (ax (cu (K:=K) rfl) (pv 0) (pv 1) (fun _ _=>rfl)))) aM)
   (ag (aB (ah aw (ah dM (ah bi (ah dM (pv 1) aa) aa) (ah bi (aK (cg (K:=K) rfl) (by rfl) h_len PySem.boot_len (a5 (pv 0) ae)) aa)) aa)))),?_⟩
  have E0:Ext W0 W0:=.refl W0
  rw[show L2.start ["_law_script","_law_k"] [Z0a,.int l_k]=[some Z0a,some (.int l_k)]from rfl]
  unfold wU at hq
  refine fo (Er:=Er) (aI (cH (a8 (R:=sh isI) (a:=l_k) (v:=.int l_k) rfl) (jc (a8 (R:=sh (isScr K)) Z02)))) (fun W1 e2=>?_)
  have E0:=E0.trans e2
  have Z02:=yE (R:=(isScr K)) e2.g Z02
  by_cases hb13:(decide (l_k< (Z0k.length:Int)))=true
  ·rw[if_pos hb13]at hq ⊢
   exact bh (Er:=Er) (R:=sh isI) (qe (a8 (R:=sh (isScr K)) Z02) (a8 (R:=sh isI) (a:=l_k) (v:=.int l_k) rfl)) (zB hq fun y3 hq v4 W5 e6 h7=>hq v4 W5 (E0.trans e6) h7)
  ·rw[if_neg hb13]at hq ⊢
   try dsimp only[aE]
   exact bh (Er:=Er) (R:=sh isI) (aj (fun _=>by decide) (ii (aY (aj (fun _=>.inr ⟨by decide,by decide⟩) (a8 (R:=sh isI) (a:=l_k) (v:=.int l_k) rfl)) ai) (aY (jc (a8 (R:=sh (isScr K)) Z02)) ai))) (zB hq fun y9 hq v10 W11 e12 h13=>hq v10 W11 (E0.trans e12) h13)
theorem xW {f:Addr} {fd:zu} (F:Fun K "_law_row" "_law_row" (tp 24) f fd) (h_abs:mg "abs" =none) (h_range:mg "range" =none):FnOk P w K mg base CX0 (1) f fd ["_law_cell","_law_many","_law_base"] (dE isI isI isI (ro isI) (wV)):=by
 have SC:FnScope ["_law_cell","_law_many","_law_base","_law_now","_law_far","_law_mix","_law_out","_law_k"] ["_law_cell","_law_many","_law_base"] (defScope (tp 24)):=⟨rfl,rfl,rfl,by decide +kernel,rfl,by decide +kernel,by decide +kernel⟩
 refine F.ok SC (fun vs H Q E h=>?_) (fun cdv A outer s H vs Q E hr h=>?_)
 ·obtain⟨_,_,_,_,_,_,_,_,rfl,_⟩:=h;rfl
 ·obtain⟨W0,Z01,Z0f,Z0q,_,_,_,rfl,rfl,Z0B,Z2K,Zbs,Er,hq⟩:=h
  cases Z0B
  cases Z2K
  cases Zbs
  refine⟨_,(af (am (i:=3) SC.nd rfl (by first | exact yY rfl | exact yX rfl) (aK hV (by rfl) h_abs Ct (a5 (pv 0) ae)))
   (af (am (i:=4) SC.nd rfl (by first | exact yY rfl | exact yX rfl) (cx pj (pv 3) (ah uQ aa aa) (ay _)))
   (af (am (i:=5) SC.nd rfl (by first | exact yY rfl | exact yX rfl) (ah aw (pv 3) aa))
   (af (am (i:=6) SC.nd rfl (by first | exact yY rfl | exact yX rfl) (cB ae))
   (af (cF zS rfl (gj rfl h_range (a5 (pv 1) ae)) (aq (i:=7) SC.nd rfl (by first | exact yY rfl | exact yX rfl)) (af (am (i:=5) SC.nd rfl (by first | exact yY rfl | exact yX rfl) (ah aw (ah bi (ah bi (ah dM (pv 5) aa) aa) (pv 7)) aa))
   (ag (bq (E9 (eg (cO (pv 4)) (dg (aA mH (pv 3) aa (ay _))))) (af (cP (bH (K:=K) rfl (pv 6) (a5 (ah aw (pv 3) (pv 2)) ae)))
   (ag (am (i:=3) SC.nd rfl (by first | exact yY rfl | exact yX rfl) (ah aU (pv 3) (pv 2))))) (ag (cP (bH (K:=K) rfl (pv 6) (a5 (ah aw (ah aw (ah dM (pv 5) (pv 5)) aa) (pv 2)) ae))))))))
   (ag (aB (pv 6)))))))),?_⟩
  have E0:Ext W0 W0:=.refl W0
  rw[show L2.start ["_law_cell","_law_many","_law_base","_law_now","_law_far","_law_mix","_law_out","_law_k"] [.int Z01,.int Z0f,.int Z0q]=[some (.int Z01),some (.int Z0f),some (.int Z0q),none,none,none,none,none]from rfl]
  unfold wV at hq
  refine ao (Er:=Er) (i:=3) (R:=sh isI) (σ':=fun v3=>[some (.int Z01),some (.int Z0f),some (.int Z0q),some v3,none,none,none,none]) (lL (a8 (R:=sh isI) (a:=Z01) (v:=.int Z01) rfl)) (fun v3 W1 e2 h4=>?_)
  cases h4
  have E0:=E0.trans e2
  refine ao (Er:=Er) (i:=4) (R:=sh isB) (σ':=fun v7=>[some (.int Z01),some (.int Z0f),some (.int Z0q),some (.int (ca Z01)),some v7,none,none,none]) (cH (a8 (R:=sh isI) (a:=(ca Z01)) (v:=.int (ca Z01)) rfl) (sO (r:=1000000000000000000) (by decide) (by decide))) (fun v7 W5 e6 h8=>?_)
  cases h8
  have E0:=E0.trans e6
  refine ao (Er:=Er) (i:=5) (R:=sh isI) (σ':=fun v11=>[some (.int Z01),some (.int Z0f),some (.int Z0q),some (.int (ca Z01)),some (.bl (decide ((1000000000000000000:Int)≤ca Z01))),some v11,none,none]) (aj (fun _=>by decide) (a8 (R:=sh isI) (a:=(ca Z01)) (v:=.int (ca Z01)) rfl)) (fun v11 W9 e10 h12=>?_)
  cases h12
  have E0:=E0.trans e10
  refine cJ (Er:=Er) (i:=6) (σ':=fun p15=>[some (.int Z01),some (.int Z0f),some (.int Z0q),some (.int (ca Z01)),some (.bl (decide ((1000000000000000000:Int)≤ca Z01))),some (.int ((ca Z01)% 2147483647)),some (.ref p15),none]) (fj (R:=isI)) (fun p15 W13 e14 hp16 o17=>?_)
  have fr18:=none_of E0.h hp16
  have E0:=E0.trans e14
  refine cQ (Er:=Er) (f:=(vS Z01 Z0q)) (s0:=(((ca Z01)% 2147483647),ca Z01,([]:List Int))) (Iv:=fun(s21:(Int×Int×(List Int))) (W22:Wd) (g23:St)=>∃(d25:Option V),g23=[some (.int Z01),some (.int Z0f),some (.int Z0q),some (.int s21.2.1),some (.bl (decide ((1000000000000000000:Int)≤ca Z01))),some (.int s21.1),some (.ref p15),d25]∧Ext W0 W22∧Ow isI W22 p15 s21.2.2) (io (a8 (R:=sh isI) (a:=Z0f) (v:=.int Z0f) rfl)) (yG hq) ?_ ?_ ?_
  ·intro W37 e38
   have E0:=E0.trans e38
   have o17:=o17.mono e38
   exact⟨_,rfl,E0,o17⟩
  ·intro Wb26 W27 W28 a19 v29 s20 sg30 P31 hW32 hB33 iv e34 h35 hq
   obtain⟨d25,rfl,E0,o24⟩:=iv
   have E0:=E0.trans e34
   have hB33:=hB33.trans e34.g
   have o24:=o24.mono e34
   cases h35
   refine gn (σ':=[some (.int Z01),some (.int Z0f),some (.int Z0q),some (.int s20.2.1),some (.bl (decide ((1000000000000000000:Int)≤ca Z01))),some (.int s20.1),some (.ref p15),some (.int a19)]) ?_
   unfold vS at hq
   refine ao (Er:=Er) (i:=5) (R:=sh isI) (σ':=fun v43=>[some (.int Z01),some (.int Z0f),some (.int Z0q),some (.int s20.2.1),some (.bl (decide ((1000000000000000000:Int)≤ca Z01))),some v43,some (.ref p15),some (.int a19)]) (aj (fun _=>by decide) (aY (aY (aj (fun _=>.inr ⟨by decide,by decide⟩) (a8 (R:=sh isI) (a:=s20.1) (v:=.int s20.1) rfl)) ai) (a8 (R:=sh isI) (a:=a19) (v:=.int a19) rfl))) (fun v43 W41 e42 h44=>?_)
   cases h44
   have E0:=E0.trans e42
   have hB33:=hB33.trans e42.g
   have o24:=o24.mono e42
   refine gw (Er:=Er) (Iv:=fun(s74:(Int×(List Int))) (W75:Wd) (g76:St)=>g76=[some (.int Z01),some (.int Z0f),some (.int Z0q),some (.int s74.1),some (.bl (decide ((1000000000000000000:Int)≤ca Z01))),some (.int ((((s20.1*48271)+(7919:Int))+a19)% 2147483647)),some (.ref p15),some (.int a19)]∧Ext W0 W75∧Ow isI W75 p15 s74.2) (fE (lK (a8 (R:=sh isB) (a:=(decide ((1000000000000000000:Int)≤ca Z01))) (v:=.bl (decide ((1000000000000000000:Int)≤ca Z01))) rfl)) (aI (cH (a8 (R:=sh isI) (a:=s20.2.1) (v:=.int s20.2.1) rfl) ai))) (yG hq) ?_ ?_ ?_
   ·intro W46 N49 e47 hN50 hq
    have hs51:=e47.g
    have E0:=E0.trans e47
    have hB33:=hB33.trans e47.g
    have o24:=o24.mono e47
    refine kG (Er:=Er) o24 (ij (a8 (R:=sh isI) (a:=s20.2.1) (v:=.int s20.2.1) rfl) (a8 (R:=sh isI) (a:=Z0q) (v:=.int Z0q) rfl)) ((yG hq).imp fun y55 hq W52 mu53 o54=>?_)
    have E0:=mu53.e _ E0 fr18
    have hB33:=hB33.trans mu53.g
    have hs51:=hs51.trans mu53.g
    refine cr (Er:=Er) (i:=3) (R:=sh isI) (σ':=fun v60=>[some (.int Z01),some (.int Z0f),some (.int Z0q),some v60,some (.bl (decide ((1000000000000000000:Int)≤ca Z01))),some (.int ((((s20.1*48271)+(7919:Int))+a19)% 2147483647)),some (.ref p15),some (.int a19)]) (mO (a8 (R:=sh isI) (a:=s20.2.1) (v:=.int s20.2.1) rfl) (a8 (R:=sh isI) (a:=Z0q) (v:=.int Z0q) rfl)) ((yG hq).imp fun y59 hq v60 W57 e58 h61=>?_)
    cases h61
    have E0:=E0.trans e58
    have hB33:=hB33.trans e58.g
    have hs51:=hs51.trans e58.g
    have o54:=o54.mono e58
    exact hN50 (y59,y55) W57 _ hs51 ⟨rfl,E0,o54⟩ hq
   ·intro W46 N49 e47 hN50 hq
    have hs62:=e47.g
    have E0:=E0.trans e47
    have hB33:=hB33.trans e47.g
    have o24:=o24.mono e47
    refine fH (Er:=Er) o24 (ij (aj (fun _=>by decide) (ii (a8 (R:=sh isI) (a:=((((s20.1*48271)+(7919:Int))+a19)% 2147483647)) (v:=.int ((((s20.1*48271)+(7919:Int))+a19)% 2147483647)) rfl) (a8 (R:=sh isI) (a:=((((s20.1*48271)+(7919:Int))+a19)% 2147483647)) (v:=.int ((((s20.1*48271)+(7919:Int))+a19)% 2147483647)) rfl))) (a8 (R:=sh isI) (a:=Z0q) (v:=.int Z0q) rfl)) ((yG hq).imp fun y68 hq W65 mu66 o67=>?_)
    have E0:=mu66.e _ E0 fr18
    have hB33:=hB33.trans mu66.g
    have hs62:=hs62.trans mu66.g
    exact hN50 (s20.2.1,y68) W65 _ hs62 ⟨rfl,E0,o67⟩ hq
   ·intro s70 W71 sg72 hS73 iv hq
    obtain⟨rfl,E0,o77⟩:=iv
    have hB33:=hB33.trans hS73
    try dsimp only
    refine cR (W:=W71) (((((s20.1*48271)+(7919:Int))+a19)% 2147483647),s70.1,s70.2) hB33 ?_ hq
    exact⟨_,rfl,E0,o77⟩
  ·intro s79 W80 sg81 hS82 iv hq
   obtain⟨d25,rfl,E0,o24⟩:=iv
   exact⟨.ref p15,rfl,hq p15 W80 E0 fr18 o24⟩
theorem xX {f:Addr} {fd:zu} (F:Fun K "_law_holes" "_law_holes" (tp 25) f fd) {fv:Int→Int→Int→Res (List Int)} (Z0u:Cal P w K mg base "_law_row" ["_law_cell","_law_many","_law_base"] (1) (dE isI isI isI (ro isI) fv)):FnOk P w K mg base CX0 (2) f fd ["_law_cell"] (de isI (rs isS) (wW fv)):=by
 have SC:FnScope ["_law_cell","_law_size","_law_draws","_law_out","_law_d"] ["_law_cell"] (defScope (tp 25)):=⟨rfl,rfl,rfl,by decide +kernel,rfl,by decide +kernel,by decide +kernel⟩
 refine F.ok SC (fun vs H Q E h=>?_) (fun cdv A outer s H vs Q E hr h=>?_)
 ·obtain⟨_,_,_,_,rfl,_⟩:=h;rfl
 ·obtain⟨W0,Z01,_,rfl,rfl,Z0B,Er,hq⟩:=h
  cases Z0B
  refine⟨_,(af (am (i:=1) SC.nd rfl (by first | exact yY rfl | exact yX rfl) (ax (cu (K:=K) rfl) (cB (a5 aa (a5 aa (a5 aa (a5 aa (a5 aa ae)))))) (ah aw (pv 0) aa) (fun _ _=>rfl)))
   (af (am (i:=2) SC.nd rfl (by first | exact yY rfl | exact yX rfl) (ar Z0u (hr.mono (by decide)) (by rfl) (a5 (ah aU (pv 0) aa) (a5 aa (a5 aa ae)))))
   (af (am (i:=3) SC.nd rfl (by first | exact yY rfl | exact yX rfl) aX)
   (af (cF zS rfl (cC (K:=K) rfl (hW (pQ (K:=K) rfl) (pv 2) jn (jo aa))) (aq (i:=4) SC.nd rfl (by first | exact yY rfl | exact yX rfl)) (ag (am (i:=3) SC.nd rfl (by first | exact yY rfl | exact yX rfl) (ah cZ (pv 3) (ax bA aX (ah aw (ah bi (ax (cu (K:=K) rfl) (pv 2) aa (fun _ _=>rfl)) (ah dM (ah aw (pv 4) (pv 1)) aa)) aa) (fun _ _=>rfl))))))
   (ag (aB (pv 3))))))),?_⟩
  have E0:Ext W0 W0:=.refl W0
  rw[show L2.start ["_law_cell","_law_size","_law_draws","_law_out","_law_d"] [.int Z01]=[some (.int Z01),none,none,none,none]from rfl]
  unfold wW at hq
  refine ao (Er:=Er) (i:=1) (R:=sh isI) (σ':=fun v4=>[some (.int Z01),some v4,none,none,none]) (eW (F7 (fG (bJ ai (bJ ai (bJ ai (bJ ai (bJ ai (fF (R:=isI))))))))) (aj (fun _=>by decide) (a8 (R:=sh isI) (a:=Z01) (v:=.int Z01) rfl))) ((yG hq).imp fun y3 hq v4 W1 e2 h5=>?_)
  cases h5
  have E0:=E0.trans e2
  refine ao (Er:=Er) (i:=2) (R:=sh (isL isI)) (σ':=fun v9=>[some (.int Z01),some (.int y3),some v9,none,none]) (Bt (dt (aj (fun _=>⟨by decide,by decide⟩) (a8 (R:=sh isI) (a:=Z01) (v:=.int Z01) rfl)) ai ai)) ((yG hq).imp fun y8 hq v9 W6 e7 h10=>?_)
  have E0:=E0.trans e7
  refine ao (Er:=Er) (i:=3) (R:=sh isS) (σ':=fun v13=>[some (.int Z01),some (.int y3),some v9,some v13,none]) (aZ (x:=yO "") (l:=[]) (eQ _ _ (by decide +kernel))) (fun v13 W11 e12 h14=>?_)
  cases h14
  have E0:=E0.trans e12
  have h10:=yE (R:=(isL isI)) e12.g h10
  refine cQ (Er:=Er) (f:=(vT y3 y8)) (s0:=([]:Tx)) (Iv:=fun(s17:Tx) (W18:Wd) (g19:St)=>∃(d20:Option V),g19=[some (.int Z01),some (.int y3),some v9,some (.str (ap s17)),d20]∧Ext W0 W18) (d3 (Bt (sK (Eo (a8 (R:=sh (isL isI)) h10)) q9 (qa ai)))) (yG hq) ?_ ?_ ?_
  ·intro W32 e33
   have E0:=E0.trans e33
   have h10:=yE (R:=(isL isI)) e33.g h10
   exact⟨_,rfl,E0⟩
  ·intro Wb21 W22 W23 a15 v24 s16 sg25 P26 hW27 hB28 iv e29 h30 hq
   obtain⟨d20,rfl,E0⟩:=iv
   have h10:=yE (R:=(isL isI)) hW27 h10
   have E0:=E0.trans e29
   have hB28:=hB28.trans e29.g
   have h10:=yE (R:=(isL isI)) e29.g h10
   cases h30
   refine gn (σ':=[some (.int Z01),some (.int y3),some v9,some (.str (ap s16)),some (.int a15)]) ?_
   unfold vT at hq
   refine cr (Er:=Er) (i:=3) (R:=sh isS) (σ':=fun v45=>[some (.int Z01),some (.int y3),some v9,some v45,some (.int a15)]) (fh (a8 (R:=sh isS) (a:=s16) (v:=.str (ap s16)) rfl) (bC (aZ (x:=yO "abcdefghijklmnopqrstuvwxyz") (l:=[97,98,99,100,101,102,103,104,105,106,107,108,109,110,111,112,113,114,115,116,117,118,119,120,121,122]) (eQ _ _ (by decide +kernel))) (aj (fun _=>by decide) (aY (eW (Eo (a8 (R:=sh (isL isI)) h10)) ai) (aj (fun _=>.inr ⟨by decide,by decide⟩) (ij (a8 (R:=sh isI) (a:=a15) (v:=.int a15) rfl) (a8 (R:=sh isI) (a:=y3) (v:=.int y3) rfl))))))) ((yG hq).imp fun y44 hq v45 W36 e37 h46=>?_)
   cases h46
   have E0:=E0.trans e37
   have hB28:=hB28.trans e37.g
   have h10:=yE (R:=(isL isI)) e37.g h10
   try dsimp only
   refine cR (W:=W36) y44 hB28 ?_ hq
   exact⟨_,rfl,E0⟩
  ·intro s47 W48 sg49 hS50 iv hq
   obtain⟨d20,rfl,E0⟩:=iv
   exact bh (Er:=Er) (R:=sh isS) (a8 (R:=sh isS) (a:=s47) (v:=.str (ap s47)) rfl) (fun v51 W52 e53 h54=>hq v51 W52 (E0.trans e53) h54)
theorem xY {f:Addr} {fd:zu} (F:Fun K "_law_card" "_law_card" (tp 26) f fd) {tL:Int→Res Tx} (Z2L:Cal P w K mg base "_law_holes" ["_law_cell"] (2) (de isI (rs isS) tL)):FnOk P w K mg base CX0 (3) f fd ["_law_cell"] (de isI (rs (isT3 K isS isS isI)) (wX tL)):=by
 have SC:FnScope ["_law_cell"] ["_law_cell"] (defScope (tp 26)):=⟨rfl,rfl,rfl,by decide +kernel,rfl,by decide +kernel,by decide +kernel⟩
 refine F.ok SC (fun vs H Q E h=>?_) (fun cdv A outer s H vs Q E hr h=>?_)
 ·obtain⟨_,_,_,_,rfl,_⟩:=h;rfl
 ·obtain⟨W0,Z01,_,rfl,rfl,Z0B,Er,hq⟩:=h
  cases Z0B
  refine⟨_,(ag (aB (bL (a5 (ax bA aX (ah aw (pv 0) aa) (fun _ _=>rfl)) (a5 (ar Z2L (hr.mono (by decide)) (by rfl) (a5 (ah aU (pv 0) aa) ae)) (a5 (ah aw (ah aU (pv 0) aa) aa) ae)))))),?_⟩
  have E0:Ext W0 W0:=.refl W0
  rw[show L2.start ["_law_cell"] [.int Z01]=[some (.int Z01)]from rfl]
  unfold wX at hq
  exact bh (Er:=Er) (R:=sh (isT3 K isS isS isI)) (cz (K:=K) (bC (aZ (x:=yO "SZ") (l:=[83,90]) (eQ _ _ (by decide +kernel))) (aj (fun _=>by decide) (a8 (R:=sh isI) (a:=Z01) (v:=.int Z01) rfl))) (cD (aj (fun _=>⟨by decide,by decide⟩) (a8 (R:=sh isI) (a:=Z01) (v:=.int Z01) rfl))) (aj (fun _=>by decide) (aj (fun _=>⟨by decide,by decide⟩) (a8 (R:=sh isI) (a:=Z01) (v:=.int Z01) rfl)))) (zB hq fun y3 hq v4 W5 e6 h7=>hq v4 W5 (E0.trans e6) h7)
theorem xZ {f:Addr} {fd:zu} (F:Fun K "_law_turns" "_law_turns" (tp 27) f fd) {fv:Int→Int→Int→Res (List Int)} (Z0u:Cal P w K mg base "_law_row" ["_law_cell","_law_many","_law_base"] (1) (dE isI isI isI (ro isI) fv)):FnOk P w K mg base CX0 (2) f fd ["_law_cell","_law_many"] (bu isI isI (rs isS) (wY fv)):=by
 have SC:FnScope ["_law_cell","_law_many"] ["_law_cell","_law_many"] (defScope (tp 27)):=⟨rfl,rfl,rfl,by decide +kernel,rfl,by decide +kernel,by decide +kernel⟩
 refine F.ok SC (fun vs H Q E h=>?_) (fun cdv A outer s H vs Q E hr h=>?_)
 ·obtain⟨_,_,_,_,_,_,rfl,_⟩:=h;rfl
 ·obtain⟨W0,Z01,Z0f,_,_,rfl,rfl,Z0B,Z2K,Er,hq⟩:=h
  cases Z0B
  cases Z2K
  refine⟨_,(af (bq (aA bE (ah aw (pv 0) aa) aa (ay _)) (ag (aB (ah lE (ax bA aX (ah aw (ah aU (pv 0) aa) aa) (fun _ _=>rfl)) (pv 1)))) aM)
   (ag (aB (iu (K:=K) rfl aX (a5 (eA (N:=["_law_d"]) (cap:=[none]) (jy rfl (by decide +kernel) rfl (by decide +kernel) (by rfl) (by rfl)) rfl (cC (K:=K) rfl (ar Z0u (hr.mono (by decide)) (by rfl) (a5 (ah aU (pv 0) aa) (a5 (pv 1) (a5 aa ae))))) (fun _ _ _ _=>(aq (i:=0) (show AA (["_law_d"]:List Str) by decide +kernel) rfl (by first | exact yY rfl | exact yX rfl))) (fun _ _ _ _=>di) (fun _ _ _ _=>(ax bA aX (pv 0) (fun _ _=>rfl)))) ae))))),?_⟩
  have E0:Ext W0 W0:=.refl W0
  rw[show L2.start ["_law_cell","_law_many"] [.int Z01,.int Z0f]=[some (.int Z01),some (.int Z0f)]from rfl]
  unfold wY at hq
  refine fo (Er:=Er) (aI (cw (aj (fun _=>by decide) (a8 (R:=sh isI) (a:=Z01) (v:=.int Z01) rfl)) ai)) (fun W1 e2=>?_)
  have E0:=E0.trans e2
  by_cases hb24:(decide ((Z01% 7)=(3:Int)))=true
  ·rw[if_pos hb24]at hq ⊢
   exact bh (Er:=Er) (R:=sh isS) (sJ (bC (aZ (x:=yO "fbi") (l:=[102,98,105]) (eQ _ _ (by decide +kernel))) (aj (fun _=>by decide) (aj (fun _=>⟨by decide,by decide⟩) (a8 (R:=sh isI) (a:=Z01) (v:=.int Z01) rfl)))) (a8 (R:=sh isI) (a:=Z0f) (v:=.int Z0f) rfl)) (zB hq fun y4 hq v5 W6 e7 h8=>hq v5 W6 (E0.trans e7) h8)
  ·rw[if_neg hb24]at hq ⊢
   try dsimp only[aE]
   exact bh (Er:=Er) (R:=sh isS) (jC (eQ _ _ (by decide +kernel)) (F7 (eF (f:=fun(a9:Int)=>dC ([102,98,105]:Tx) a9) (d3 (Bt (dt (aj (fun _=>⟨by decide,by decide⟩) (a8 (R:=sh isI) (a:=Z01) (v:=.int Z01) rfl)) (a8 (R:=sh isI) (a:=Z0f) (v:=.int Z0f) rfl) ai))) fun W11 a9 v10 e12 h13 Q16 k17=>by
    cases h13
    refine gn ?_
    exact⟨by simp[Keep,bB],((bC (aZ (x:=yO "fbi") (l:=[102,98,105]) (eQ _ _ (by decide +kernel))) (a8 (R:=sh isI) (a:=a9) (v:=.int a9) rfl)):EV Er _ [some (.int a9)] _ _ _) _ (.refl _) _ k17⟩))) (zB hq fun y20 hq v21 W22 e23 h24=>hq v21 W22 (E0.trans e23) h24)
theorem yb {f:Addr} {fd:zu} (F:Fun K "_law_go" "_law_go" (tp 30) f fd):FnOk P w K mg base CX0 (1) f fd ["_law_turn"] (de isS (rs isI) (wZ)):=by
 have SC:FnScope ["_law_turn"] ["_law_turn"] (defScope (tp 30)):=⟨rfl,rfl,rfl,by decide +kernel,rfl,by decide +kernel,by decide +kernel⟩
 refine F.ok SC (fun vs H Q E h=>?_) (fun cdv A outer s H vs Q E hr h=>?_)
 ·obtain⟨_,_,_,_,rfl,_⟩:=h;rfl
 ·obtain⟨W0,Z0n,_,rfl,rfl,Z2M,Er,hq⟩:=h
  cases Z2M
  refine⟨_,(ag (aB (ah gl (dX (K:=K) rfl rfl aX (a5 (pv 0) ae)) aa))),?_⟩
  have E0:Ext W0 W0:=.refl W0
  rw[show L2.start ["_law_turn"] [.str (ap Z0n)]=[some (.str (ap Z0n))]from rfl]
  unfold wZ at hq
  exact bh (Er:=Er) (R:=sh isI) (aY (fQ (aZ (x:=yO "bif") (l:=[98,105,102]) (eQ _ _ (by decide +kernel))) (a8 (R:=sh isS) (a:=Z0n) (v:=.str (ap Z0n)) rfl)) ai) (zB hq fun y2 hq v3 W4 e5 h6=>hq v3 W4 (E0.trans e5) h6)
theorem yc {f:Addr} {fd:zu} (F:Fun K "_law_behind" "_law_behind" (tp 31) f fd) {ln:Tx→Res Int} (Z1m:Cal P w K mg base "_law_go" ["_law_turn"] (1) (de isS (rs isI) ln)):FnOk P w K mg base CX0 (2) f fd ["_law_card_here","_law_turn"] (bu (isT3 K isS isS isI) isS (rs (isT3 K isS isS isI)) (x0 ln)):=by
 have SC:FnScope ["_law_card_here","_law_turn"] ["_law_card_here","_law_turn"] (defScope (tp 31)):=⟨rfl,rfl,rfl,by decide +kernel,rfl,by decide +kernel,by decide +kernel⟩
 refine F.ok SC (fun vs H Q E h=>?_) (fun cdv A outer s H vs Q E hr h=>?_)
 ·obtain⟨_,_,_,_,_,_,rfl,_⟩:=h;rfl
 ·obtain⟨W0,Z03,Z0n,Z04,_,rfl,rfl,Z00,Z2M,Er,hq⟩:=h
  cases Z2M
  refine⟨_,(ag (aB (bL (a5 (ax (aJ (K:=K) rfl) (pv 0) aa (fun _ _=>rfl)) (a5 (ax (aJ (K:=K) rfl) (pv 0) aa (fun _ _=>rfl)) (a5 (ah aw (ah bi (ax (aJ (K:=K) rfl) (pv 0) aa (fun _ _=>rfl)) (ar Z1m (hr.mono (by decide)) (by rfl) (a5 (pv 1) ae))) aa) ae)))))),?_⟩
  have E0:Ext W0 W0:=.refl W0
  rw[show L2.start ["_law_card_here","_law_turn"] [Z04,.str (ap Z0n)]=[some Z04,some (.str (ap Z0n))]from rfl]
  unfold x0 at hq
  exact bh (Er:=Er) (R:=sh (isT3 K isS isS isI)) (cz (K:=K) (aT (f:=fun(b:Tx×Tx×Int)=>b.1) jB (a8 (R:=sh (isT3 K isS isS isI)) Z00)) (aT (f:=fun(b:Tx×Tx×Int)=>b.2.1) gK (a8 (R:=sh (isT3 K isS isS isI)) Z00)) (aj (fun _=>by decide) (aY (aT (f:=fun(b:Tx×Tx×Int)=>b.2.2) ik (a8 (R:=sh (isT3 K isS isS isI)) Z00)) (cD (a8 (R:=sh isS) (a:=Z0n) (v:=.str (ap Z0n)) rfl))))) (zB hq fun y4 hq v5 W6 e7 h8=>hq v5 W6 (E0.trans e7) h8)
theorem yd {f:Addr} {fd:zu} (F:Fun K "_law_twist" "_law_twist" (tp 32) f fd) {ln:Tx→Res Int} (Z1m:Cal P w K mg base "_law_go" ["_law_turn"] (1) (de isS (rs isI) ln)):FnOk P w K mg base CX0 (2) f fd ["_law_card_here","_law_turn"] (bu (isT3 K isS isS isI) isS (rs isI) (x3 ln)):=by
 have SC:FnScope ["_law_card_here","_law_turn"] ["_law_card_here","_law_turn"] (defScope (tp 32)):=⟨rfl,rfl,rfl,by decide +kernel,rfl,by decide +kernel,by decide +kernel⟩
 refine F.ok SC (fun vs H Q E h=>?_) (fun cdv A outer s H vs Q E hr h=>?_)
 ·obtain⟨_,_,_,_,_,_,rfl,_⟩:=h;rfl
 ·obtain⟨W0,Z03,Z0n,Z04,_,rfl,rfl,Z00,Z2M,Er,hq⟩:=h
  cases Z2M
  refine⟨_,(af (bq (aA bE (ax (aJ (K:=K) rfl) (pv 0) aa (fun _ _=>rfl)) aX (ay _)) (ag (aB (ar Z1m (hr.mono (by decide)) (by rfl) (a5 (pv 1) ae)))) aM)
   (ag (aB (ah gl aa (ar Z1m (hr.mono (by decide)) (by rfl) (a5 (pv 1) ae)))))),?_⟩
  have E0:Ext W0 W0:=.refl W0
  rw[show L2.start ["_law_card_here","_law_turn"] [Z04,.str (ap Z0n)]=[some Z04,some (.str (ap Z0n))]from rfl]
  unfold x3 at hq
  refine fo (Er:=Er) (aI (eV (aT (f:=fun(b:Tx×Tx×Int)=>b.1) jB (a8 (R:=sh (isT3 K isS isS isI)) Z00)) (aZ (x:=yO "S") (l:=[83]) (eQ _ _ (by decide +kernel))))) (fun W1 e2=>?_)
  have E0:=E0.trans e2
  have Z00:=yE (R:=(isT3 K isS isS isI)) e2.g Z00
  by_cases hb13:(decide (Z03.1=([83]:Tx)))=true
  ·rw[if_pos hb13]at hq ⊢
   exact bh (Er:=Er) (R:=sh isI) (cD (a8 (R:=sh isS) (a:=Z0n) (v:=.str (ap Z0n)) rfl)) (zB hq fun y3 hq v4 W5 e6 h7=>hq v4 W5 (E0.trans e6) h7)
  ·rw[if_neg hb13]at hq ⊢
   try dsimp only[aE]
   exact bh (Er:=Er) (R:=sh isI) (aY ai (cD (a8 (R:=sh isS) (a:=Z0n) (v:=.str (ap Z0n)) rfl))) (zB hq fun y9 hq v10 W11 e12 h13=>hq v10 W11 (E0.trans e12) h13)
theorem ye {f:Addr} {fd:zu} (F:Fun K "_law_places" "_law_places" (tp 33) f fd) {gU:(Tx×Tx×Int)→Tx→Res (Tx×Tx×Int)} {gy:(Tx×Tx×Int)→Tx→Res Int} (Z0T:Cal P w K mg base "_law_behind" ["_law_card_here","_law_turn"] (2) (bu (isT3 K isS isS isI) isS (rs (isT3 K isS isS isI)) gU)) (Z16:Cal P w K mg base "_law_twist" ["_law_card_here","_law_turn"] (2) (bu (isT3 K isS isS isI) isS (rs isI) gy)):FnOk P w K mg base CX0 (3) f fd ["_law_card_here","_law_turns_here"] (bu (isT3 K isS isS isI) isS (ro (isT3 K isS isS isS)) (x4 gU gy)):=by
 have SC:FnScope ["_law_card_here","_law_turns_here","_law_out","_law_turn","_law_slant"] ["_law_card_here","_law_turns_here"] (defScope (tp 33)):=⟨rfl,rfl,rfl,by decide +kernel,rfl,by decide +kernel,by decide +kernel⟩
 refine F.ok SC (fun vs H Q E h=>?_) (fun cdv A outer s H vs Q E hr h=>?_)
 ·obtain⟨_,_,_,_,_,_,rfl,_⟩:=h;rfl
 ·obtain⟨W0,Z03,Z06,Z04,_,rfl,rfl,Z00,Z0G,Er,hq⟩:=h
  cases Z0G
  refine⟨_,(af (am (i:=2) SC.nd rfl (by first | exact yY rfl | exact yX rfl) (cB ae))
   (af (cF zS rfl (i5 (pv 1)) (aq (i:=3) SC.nd rfl (by first | exact yY rfl | exact yX rfl)) (af (am (i:=0) SC.nd rfl (by first | exact yY rfl | exact yX rfl) (ar Z0T (hr.mono (by decide)) (by rfl) (a5 (pv 0) (a5 (pv 3) ae))))
   (af (am (i:=4) SC.nd rfl (by first | exact yY rfl | exact yX rfl) (ax bA aX (ah bi (ar Z16 (hr.mono (by decide)) (by rfl) (a5 (pv 0) (a5 (pv 3) ae))) aa) (fun _ _=>rfl)))
   (ag (cP (bH (K:=K) rfl (pv 2) (a5 (bL (a5 (ax bA (ax (aJ (K:=K) rfl) (pv 0) aa (fun _ _=>rfl)) (ax (aJ (K:=K) rfl) (pv 0) aa (fun _ _=>rfl)) (fun _ _=>rfl)) (a5 (ax bA (ax (aJ (K:=K) rfl) (pv 0) aa (fun _ _=>rfl)) (ah aw (ah bi (ax (aJ (K:=K) rfl) (pv 0) aa (fun _ _=>rfl)) aa) aa) (fun _ _=>rfl)) (a5 (pv 4) ae)))) ae)))))))
   (ag (aB (pv 2))))),?_⟩
  have E0:Ext W0 W0:=.refl W0
  rw[show L2.start ["_law_card_here","_law_turns_here","_law_out","_law_turn","_law_slant"] [Z04,.str (ap Z06)]=[some Z04,some (.str (ap Z06)),none,none,none]from rfl]
  unfold x4 at hq
  refine cJ (Er:=Er) (i:=2) (σ':=fun p3=>[some Z04,some (.str (ap Z06)),some (.ref p3),none,none]) (fj (R:=(isT3 K isS isS isS))) (fun p3 W1 e2 hp4 o5=>?_)
  have fr6:=none_of E0.h hp4
  have E0:=E0.trans e2
  have Z00:=yE (R:=(isT3 K isS isS isI)) e2.g Z00
  refine cQ (Er:=Er) (f:=(vU gU gy)) (s0:=(Z03,([]:List (Tx×Tx×Tx)))) (Iv:=fun(s9:((Tx×Tx×Int)×(List (Tx×Tx×Tx)))) (W10:Wd) (g11:St)=>∃(v12:V) (d15:Option V) (d16:Option V),g11=[some v12,some (.str (ap Z06)),some (.ref p3),d16,d15]∧Ext W0 W10∧(isT3 K isS isS isI) W10.G s9.1 v12∧Ow (isT3 K isS isS isS) W10 p3 s9.2) (im (a8 (R:=sh isS) (a:=Z06) (v:=.str (ap Z06)) rfl)) (yG hq) ?_ ?_ ?_
  ·intro W28 e29
   have E0:=E0.trans e29
   have Z00:=yE (R:=(isT3 K isS isS isI)) e29.g Z00
   have o5:=o5.mono e29
   exact⟨_,_,_,rfl,E0,Z00,o5⟩
  ·intro Wb17 W18 W19 a7 v20 s8 sg21 P22 hW23 hB24 iv e25 h26 hq
   obtain⟨v12,d15,d16,rfl,E0,h13,o14⟩:=iv
   have E0:=E0.trans e25
   have hB24:=hB24.trans e25.g
   have o14:=o14.mono e25
   have h13:=yE (R:=(isT3 K isS isS isI)) e25.g h13
   cases h26
   refine gn (σ':=[some v12,some (.str (ap Z06)),some (.ref p3),some (.str (ap a7)),d15]) ?_
   unfold vU at hq
   refine ao (Er:=Er) (i:=0) (R:=sh (isT3 K isS isS isI)) (σ':=fun v35=>[some v35,some (.str (ap Z06)),some (.ref p3),some (.str (ap a7)),d15]) (aR (a8 (R:=sh (isT3 K isS isS isI)) h13) (a8 (R:=sh isS) (a:=a7) (v:=.str (ap a7)) rfl)) ((yG hq).imp fun y34 hq v35 W32 e33 h36=>?_)
   have E0:=E0.trans e33
   have hB24:=hB24.trans e33.g
   have o14:=o14.mono e33
   refine ao (Er:=Er) (i:=4) (R:=sh isS) (σ':=fun v42=>[some v35,some (.str (ap Z06)),some (.ref p3),some (.str (ap a7)),some v42]) (bC (aZ (x:=yO "zos") (l:=[122,111,115]) (eQ _ _ (by decide +kernel))) (aY (aR (a8 (R:=sh (isT3 K isS isS isI)) h36) (a8 (R:=sh isS) (a:=a7) (v:=.str (ap a7)) rfl)) ai)) ((yG hq).imp fun y41 hq v42 W37 e38 h43=>?_)
   cases h43
   have E0:=E0.trans e38
   have hB24:=hB24.trans e38.g
   have o14:=o14.mono e38
   have h36:=yE (R:=(isT3 K isS isS isI)) e38.g h36
   refine fH (Er:=Er) o14 (cz (K:=K) (bC (aT (f:=fun(b:Tx×Tx×Int)=>b.2.1) gK (a8 (R:=sh (isT3 K isS isS isI)) h36)) (aT (f:=fun(b:Tx×Tx×Int)=>b.2.2) ik (a8 (R:=sh (isT3 K isS isS isI)) h36))) (bC (aT (f:=fun(b:Tx×Tx×Int)=>b.2.1) gK (a8 (R:=sh (isT3 K isS isS isI)) h36)) (aj (fun _=>by decide) (aY (aT (f:=fun(b:Tx×Tx×Int)=>b.2.2) ik (a8 (R:=sh (isT3 K isS isS isI)) h36)) ai))) (a8 (R:=sh isS) (a:=y41) (v:=.str (ap y41)) rfl)) ((yG hq).imp fun y49 hq W46 mu47 o48=>?_)
   have E0:=mu47.e _ E0 fr6
   have hB24:=hB24.trans mu47.g
   have h36:=yE (R:=(isT3 K isS isS isI)) mu47.g h36
   try dsimp only
   refine cR (W:=W46) (y34,y49) hB24 ?_ hq
   exact⟨_,_,_,rfl,E0,h36,o48⟩
  ·intro s51 W52 sg53 hS54 iv hq
   obtain⟨v12,d15,d16,rfl,E0,h13,o14⟩:=iv
   exact⟨.ref p3,rfl,hq p3 W52 E0 fr6 o14⟩
theorem yf {f:Addr} {fd:zu} (F:Fun K "_law_long" "_law_long" (tp 35) f fd) {fv:Int→Int→Int→Res (List Int)} (Z0u:Cal P w K mg base "_law_row" ["_law_cell","_law_many","_law_base"] (1) (dE isI isI isI (ro isI) fv)) (h_len:mg "len" =none) (h_zip:mg "zip" =none):FnOk P w K mg base CX0 (2) f fd ["_law_places_here","_law_cell"] (bu (isL (isT3 K isS isS isS)) isI (ro (isT3 K isS isS isS)) (x5 fv)):=by
 have SC:FnScope ["_law_places_here","_law_cell","_law_out","_law_worn","_law_draws","_law_place","_law_d","_law_at_here"] ["_law_places_here","_law_cell"] (defScope (tp 35)):=⟨rfl,rfl,rfl,by decide +kernel,rfl,by decide +kernel,by decide +kernel⟩
 refine F.ok SC (fun vs H Q E h=>?_) (fun cdv A outer s H vs Q E hr h=>?_)
 ·obtain⟨_,_,_,_,_,_,rfl,_⟩:=h;rfl
 ·obtain⟨W0,Z0p,Z01,Z08,_,rfl,rfl,Z05,Z0B,Er,hq⟩:=h
  cases Z0B
  refine⟨_,(af (am (i:=2) SC.nd rfl (by first | exact yY rfl | exact yX rfl) (cB ae))
   (af (am (i:=3) SC.nd rfl (by first | exact yY rfl | exact yX rfl) aa)
   (af (am (i:=4) SC.nd rfl (by first | exact yY rfl | exact yX rfl) (ar Z0u (hr.mono (by decide)) (by rfl) (a5 (ah aU (pv 1) aa) (a5 (aK (cg (K:=K) rfl) (by rfl) h_len PySem.boot_len (a5 (pv 0) ae)) (a5 aa ae)))))
   (af (cF zS rfl (eB (K:=K) rfl rfl h_zip (a5 (pv 0) (a5 (pv 4) ae))) (bU (K:=K) (n:=2) rfl rfl (az (aq (i:=5) SC.nd rfl (by first | exact yY rfl | exact yX rfl)) (az (aq (i:=6) SC.nd rfl (by first | exact yY rfl | exact yX rfl)) bR))) (af (bq (E9 (eg (aA bE (pv 6) aa (ay _)) (dg (aA mF (pv 3) aa (ay _))))) (af (am (i:=3) SC.nd rfl (by first | exact yY rfl | exact yX rfl) (ah bi (pv 3) aa))
   (ag (am (i:=5) SC.nd rfl (by first | exact yY rfl | exact yX rfl) (bL (a5 aX (a5 (ax (aJ (K:=K) rfl) (pv 5) aa (fun _ _=>rfl)) (a5 aX ae))))))) aM)
   (ag (cP (bH (K:=K) rfl (pv 2) (a5 (pv 5) ae))))))
   (af (bq (aA bE (ah aw (pv 1) aa) aa (ay _)) (af (am (i:=7) SC.nd rfl (by first | exact yY rfl | exact yX rfl) (ah aw (ah aU (pv 1) aa) (aK (cg (K:=K) rfl) (by rfl) h_len PySem.boot_len (a5 (pv 0) ae))))
   (ag (ei (bL (a5 (ax (aJ (K:=K) rfl) (ax (cu (K:=K) rfl) (pv 2) (pv 7) (fun _ _=>rfl)) aa (fun _ _=>rfl)) (a5 (ax (aJ (K:=K) rfl) (ax (cu (K:=K) rfl) (pv 2) (pv 7) (fun _ _=>rfl)) aa (fun _ _=>rfl)) (a5 (ax bA aX (ah aw (ah aU (pv 1) aa) aa) (fun _ _=>rfl)) ae)))) (lw (pv 2) (pv 7) hX)))) aM)
   (ag (aB (pv 2)))))))),?_⟩
  have E0:Ext W0 W0:=.refl W0
  rw[show L2.start ["_law_places_here","_law_cell","_law_out","_law_worn","_law_draws","_law_place","_law_d","_law_at_here"] [Z08,.int Z01]=[some Z08,some (.int Z01),none,none,none,none,none,none]from rfl]
  unfold x5 at hq
  refine cJ (Er:=Er) (i:=2) (σ':=fun p3=>[some Z08,some (.int Z01),some (.ref p3),none,none,none,none,none]) (fj (R:=(isT3 K isS isS isS))) (fun p3 W1 e2 hp4 o5=>?_)
  have fr6:=none_of E0.h hp4
  have E0:=E0.trans e2
  have Z05:=yE (R:=(isL (isT3 K isS isS isS))) e2.g Z05
  refine ao (Er:=Er) (i:=3) (R:=sh isI) (σ':=fun v9=>[some Z08,some (.int Z01),some (.ref p3),some v9,none,none,none,none]) ai (fun v9 W7 e8 h10=>?_)
  cases h10
  have E0:=E0.trans e8
  have Z05:=yE (R:=(isL (isT3 K isS isS isS))) e8.g Z05
  have o5:=o5.mono e8
  refine ao (Er:=Er) (i:=4) (R:=sh (isL isI)) (σ':=fun v14=>[some Z08,some (.int Z01),some (.ref p3),some (.int (0:Int)),some v14,none,none,none]) (Bt (dt (aj (fun _=>⟨by decide,by decide⟩) (a8 (R:=sh isI) (a:=Z01) (v:=.int Z01) rfl)) (fk (Eo (a8 (R:=sh (isL (isT3 K isS isS isS))) Z05))) ai)) ((yG hq).imp fun y13 hq v14 W11 e12 h15=>?_)
  have E0:=E0.trans e12
  have Z05:=yE (R:=(isL (isT3 K isS isS isS))) e12.g Z05
  have o5:=o5.mono e12
  refine cQ (Er:=Er) (f:=vV) (s0:=((0:Int),([]:List (Tx×Tx×Tx)))) (Iv:=fun(s18:(Int×(List (Tx×Tx×Tx)))) (W19:Wd) (g20:St)=>∃(d22:Option V) (d23:Option V),g20=[some Z08,some (.int Z01),some (.ref p3),some (.int s18.1),some v14,d22,d23,none]∧Ext W0 W19∧Ow (isT3 K isS isS isS) W19 p3 s18.2) (gv (eX (a8 (R:=sh (isL (isT3 K isS isS isS))) Z05)) (eX (a8 (R:=sh (isL isI)) h15))) (yG hq) ?_ ?_ ?_
  ·intro W35 e36
   have E0:=E0.trans e36
   have Z05:=yE (R:=(isL (isT3 K isS isS isS))) e36.g Z05
   have o5:=o5.mono e36
   exact⟨_,_,rfl,E0,o5⟩
  ·intro Wb24 W25 W26 a16 v27 s17 sg28 P29 hW30 hB31 iv e32 h33 hq
   obtain⟨d22,d23,rfl,E0,o21⟩:=iv
   have Z05:=yE (R:=(isL (isT3 K isS isS isS))) hW30 Z05
   have E0:=E0.trans e32
   have hB31:=hB31.trans e32.g
   have Z05:=yE (R:=(isL (isT3 K isS isS isS))) e32.g Z05
   have o21:=o21.mono e32
   refine iU (σ':=fun v41 v43=>[some Z08,some (.int Z01),some (.ref p3),some (.int s17.1),some v14,some v41,some v43,none]) h33 fun v41 v43 h42 h44=>?_
   cases h44
   unfold vV at hq
   refine bv (Er:=Er) (Iv:=fun(s65:(Int×(Tx×Tx×Tx))) (W66:Wd) (g67:St)=>∃(v68:V),g67=[some Z08,some (.int Z01),some (.ref p3),some (.int s65.1),some v14,some v68,some (.int a16.2),none]∧Ext W0 W66∧(isT3 K isS isS isS) W66.G s65.2 v68∧Ow (isT3 K isS isS isS) W66 p3 s17.2) (fE (aI (cw (a8 (R:=sh isI) (a:=a16.2) (v:=.int a16.2) rfl) ai)) (aI (cH (a8 (R:=sh isI) (a:=s17.1) (v:=.int s17.1) rfl) ai))) (yG hq) ?_ ?_ ?_
   ·intro W46 N49 e47 hN50 hq
    have hs51:=e47.g
    have E0:=E0.trans e47
    have hB31:=hB31.trans e47.g
    have Z05:=yE (R:=(isL (isT3 K isS isS isS))) e47.g Z05
    have o21:=o21.mono e47
    have h42:=yE (R:=(isT3 K isS isS isS)) e47.g h42
    refine ao (Er:=Er) (i:=3) (R:=sh isI) (σ':=fun v54=>[some Z08,some (.int Z01),some (.ref p3),some v54,some v14,some v41,some (.int a16.2),none]) (aY (a8 (R:=sh isI) (a:=s17.1) (v:=.int s17.1) rfl) ai) (fun v54 W52 e53 h55=>?_)
    cases h55
    have E0:=E0.trans e53
    have hB31:=hB31.trans e53.g
    have hs51:=hs51.trans e53.g
    have Z05:=yE (R:=(isL (isT3 K isS isS isS))) e53.g Z05
    have o21:=o21.mono e53
    have h42:=yE (R:=(isT3 K isS isS isS)) e53.g h42
    refine cr (Er:=Er) (i:=5) (R:=sh (isT3 K isS isS isS)) (σ':=fun v58=>[some Z08,some (.int Z01),some (.ref p3),some (.int (s17.1+(1:Int))),some v14,some v58,some (.int a16.2),none]) (cz (K:=K) (aZ (x:=yO "?") (l:=[63]) (eQ _ _ (by decide +kernel))) (aT (f:=fun(b:Tx×Tx×Tx)=>b.2.1) gK (a8 (R:=sh (isT3 K isS isS isS)) h42)) (aZ (x:=yO "?") (l:=[63]) (eQ _ _ (by decide +kernel)))) (fun v58 W56 e57 h59=>?_)
    have E0:=E0.trans e57
    have hB31:=hB31.trans e57.g
    have hs51:=hs51.trans e57.g
    have Z05:=yE (R:=(isL (isT3 K isS isS isS))) e57.g Z05
    have o21:=o21.mono e57
    exact hN50 ((s17.1+(1:Int)),(([63]:Tx),a16.1.2.1,([63]:Tx))) W56 _ hs51 ⟨_,rfl,E0,h59,o21⟩ hq
   ·intro W46 N49 e47 hN50 hq
    have hs60:=e47.g
    have E0:=E0.trans e47
    have hB31:=hB31.trans e47.g
    have Z05:=yE (R:=(isL (isT3 K isS isS isS))) e47.g Z05
    have o21:=o21.mono e47
    have h42:=yE (R:=(isT3 K isS isS isS)) e47.g h42
    try dsimp only[aE]
    exact hN50 (s17.1,a16.1) W46 _ hs60 ⟨_,rfl,E0,h42,o21⟩ hq
   ·intro s61 W62 sg63 hS64 iv hq
    obtain⟨v68,rfl,E0,h69,o70⟩:=iv
    have hB31:=hB31.trans hS64
    have Z05:=yE (R:=(isL (isT3 K isS isS isS))) hS64 Z05
    refine fH (Er:=Er) o70 (a8 (R:=sh (isT3 K isS isS isS)) h69) ((yG hq).imp fun y74 hq W71 mu72 o73=>?_)
    have E0:=mu72.e _ E0 fr6
    have hB31:=hB31.trans mu72.g
    have Z05:=yE (R:=(isL (isT3 K isS isS isS))) mu72.g Z05
    have h69:=yE (R:=(isT3 K isS isS isS)) mu72.g h69
    try dsimp only
    refine cR (W:=W71) (s61.1,y74) hB31 ?_ hq
    exact⟨_,_,rfl,E0,o73⟩
  ·intro s75 W76 sg77 hS78 iv hq
   obtain⟨d22,d23,rfl,E0,o21⟩:=iv
   have Z05:=yE (R:=(isL (isT3 K isS isS isS))) hS78 Z05
   refine bv (Er:=Er) (Iv:=fun(s105:(List (Tx×Tx×Tx))) (W106:Wd) (g107:St)=>∃(d109:Option V),g107=[some Z08,some (.int Z01),some (.ref p3),some (.int s75.1),some v14,d22,d23,d109]∧Ext W0 W106∧Ow (isT3 K isS isS isS) W106 p3 s105) (aI (cw (aj (fun _=>by decide) (a8 (R:=sh isI) (a:=Z01) (v:=.int Z01) rfl)) ai)) (yG hq) ?_ ?_ ?_
   ·intro W79 N82 e80 hN83 hq
    have hs84:=e80.g
    have E0:=E0.trans e80
    have Z05:=yE (R:=(isL (isT3 K isS isS isS))) e80.g Z05
    have o21:=o21.mono e80
    refine ao (Er:=Er) (i:=7) (R:=sh isI) (σ':=fun v88=>[some Z08,some (.int Z01),some (.ref p3),some (.int s75.1),some v14,d22,d23,some v88]) (ij (aj (fun _=>⟨by decide,by decide⟩) (a8 (R:=sh isI) (a:=Z01) (v:=.int Z01) rfl)) (fk (Eo (a8 (R:=sh (isL (isT3 K isS isS isS))) Z05)))) ((yG hq).imp fun y87 hq v88 W85 e86 h89=>?_)
    cases h89
    have E0:=E0.trans e86
    have hs84:=hs84.trans e86.g
    have o21:=o21.mono e86
    refine jE (Er:=Er) o21 (cz (K:=K) (aT (f:=fun(b:Tx×Tx×Tx)=>b.1) jB (eW (eD o21) (a8 (R:=sh isI) (a:=y87) (v:=.int y87) rfl))) (aT (f:=fun(b:Tx×Tx×Tx)=>b.2.1) gK (eW (eD o21) (a8 (R:=sh isI) (a:=y87) (v:=.int y87) rfl))) (bC (aZ (x:=yO "szo") (l:=[115,122,111]) (eQ _ _ (by decide +kernel))) (aj (fun _=>by decide) (aj (fun _=>⟨by decide,by decide⟩) (a8 (R:=sh isI) (a:=Z01) (v:=.int Z01) rfl))))) (a8 (R:=sh isI) (a:=y87) (v:=.int y87) rfl) ((yG hq).imp fun y99 hq W95 mu96 o97=>?_)
    have E0:=mu96.e _ E0 fr6
    have hs84:=hs84.trans mu96.g
    exact hN83 y99 W95 _ hs84 ⟨_,rfl,E0,o97⟩ hq
   ·intro W79 N82 e80 hN83 hq
    have hs100:=e80.g
    have E0:=E0.trans e80
    have Z05:=yE (R:=(isL (isT3 K isS isS isS))) e80.g Z05
    have o21:=o21.mono e80
    try dsimp only[aE]
    exact hN83 s75.2 W79 _ hs100 ⟨_,rfl,E0,o21⟩ hq
   ·intro s101 W102 sg103 hS104 iv hq
    obtain⟨d109,rfl,E0,o108⟩:=iv
    exact⟨.ref p3,rfl,hq p3 W102 E0 fr6 o108⟩
theorem yg {f:Addr} {fd:zu} (F:Fun K "_law_marks" "_law_marks" (tp 34) f fd) {fv:Int→Int→Int→Res (List Int)} (Z0u:Cal P w K mg base "_law_row" ["_law_cell","_law_many","_law_base"] (1) (dE isI isI isI (ro isI) fv)) (h_int:mg "int" =none) (h_len:mg "len" =none) (h_tuple:mg "tuple" =none) (h_zip:mg "zip" =none):FnOk P w K mg base CX0 (2) f fd ["_law_places_here","_law_cell","_law_lies"] (dE (isL (isT3 K isS isS isS)) isI isB (ro (isT3 K isS isS isS)) (x6 fv)):=by
 have SC:FnScope ["_law_places_here","_law_cell","_law_lies","_law_out","_law_draws","_law_place","_law_d","_law_mark","_law_letters"] ["_law_places_here","_law_cell","_law_lies"] (defScope (tp 34)):=⟨rfl,rfl,rfl,by decide +kernel,rfl,by decide +kernel,by decide +kernel⟩
 refine F.ok SC (fun vs H Q E h=>?_) (fun cdv A outer s H vs Q E hr h=>?_)
 ·obtain⟨_,_,_,_,_,_,_,_,rfl,_⟩:=h;rfl
 ·obtain⟨W0,Z0p,Z01,Z0C,Z08,_,_,rfl,rfl,Z05,Z0B,Zbv,Er,hq⟩:=h
  cases Z0B
  cases Zbv
  refine⟨_,(af (am (i:=3) SC.nd rfl (by first | exact yY rfl | exact yX rfl) (cB ae))
   (af (am (i:=4) SC.nd rfl (by first | exact yY rfl | exact yX rfl) (ar Z0u (hr.mono (by decide)) (by rfl) (a5 (ah aU (pv 1) aa) (a5 (aK (cg (K:=K) rfl) (by rfl) h_len PySem.boot_len (a5 (pv 0) ae)) (a5 (ah bi aa (ah dM aa (dR iY (by rfl) h_int By (a5 (pv 2) ae)))) ae)))))
   (af (cF zS rfl (eB (K:=K) rfl rfl h_zip (a5 (pv 0) (a5 (pv 4) ae))) (bU (K:=K) (n:=2) rfl rfl (az (aq (i:=5) SC.nd rfl (by first | exact yY rfl | exact yX rfl)) (az (aq (i:=6) SC.nd rfl (by first | exact yY rfl | exact yX rfl)) bR))) (af (bq (aA bE (ah aw (pv 1) aa) aa (ay _)) (ag (am (i:=6) SC.nd rfl (by first | exact yY rfl | exact yX rfl) (ah dM (ah aU (pv 6) aa) aa))) aM)
   (af (bq (aA bE (ah aw (pv 1) aa) aa (ay _)) (ag (am (i:=6) SC.nd rfl (by first | exact yY rfl | exact yX rfl) (ah bi (ah dM (ah aU (pv 6) aa) aa) aa))) aM)
   (af (am (i:=7) SC.nd rfl (by first | exact yY rfl | exact yX rfl) (cB (a5 (ax (aJ (K:=K) rfl) (pv 5) aa (fun _ _=>rfl)) (a5 (ax (aJ (K:=K) rfl) (pv 5) aa (fun _ _=>rfl)) (a5 (ax (aJ (K:=K) rfl) (pv 5) aa (fun _ _=>rfl)) ae)))))
   (af (bq (E9 (eg (aA pj (pv 6) aa (ay _)) (dg (aA mF (ah aw (pv 6) aa) aa (ay _))))) (af (am (i:=8) SC.nd rfl (by first | exact yY rfl | exact yX rfl) aX)
   (ag (ei (ax bA (pv 8) (ah bi (dX (K:=K) rfl rfl (pv 8) (a5 (ax (cu (K:=K) rfl) (pv 7) (ah aw (pv 6) aa) (fun _ _=>rfl)) ae)) aa) (fun _ _=>rfl)) (lw (pv 7) (ah aw (pv 6) aa) hX)))) aM)
   (af (bq (E9 (eg (aA pj (pv 6) aa (ay _)) (dg (aA bE (ah aw (pv 6) aa) aa (ay _))))) (ag (ei (ax bA aX (dX (K:=K) rfl rfl aX (a5 (ax (cu (K:=K) rfl) (pv 7) aa (fun _ _=>rfl)) ae)) (fun _ _=>rfl)) (lw (pv 7) aa hX))) aM)
   (ag (cP (bH (K:=K) rfl (pv 3) (a5 (dR (ir (K:=K) rfl) (by rfl) h_tuple Ca (a5 (eA (N:=["_law_sign","_law_part","_law_d"]) (cap:=[none,none,some 6]) (jy rfl (by decide +kernel) rfl (by decide +kernel) (by rfl) (by rfl)) rfl (eB (K:=K) rfl rfl h_zip (a5 (pv 7) (a5 (cB (a5 aa (a5 aa (a5 aa ae)))) ae))) (fun _ _ _ _=>(bU (K:=K) (n:=2) rfl rfl (az (aq (i:=0) (show AA (["_law_sign","_law_part","_law_d"]:List Str) by decide +kernel) rfl (by first | exact yY rfl | exact yX rfl)) (az (aq (i:=1) (show AA (["_law_sign","_law_part","_law_d"]:List Str) by decide +kernel) rfl (by first | exact yY rfl | exact yX rfl)) bR)))) (fun _ _ _ _=>di) (fun _ _ _ _=>(dP (aA bE (ah aw (ah aU (pv 2) (pv 1)) aa) aa (ay _)) (pv 0) aX))) ae)) ae))))))))))
   (ag (aB (pv 3)))))),?_⟩
  have E0:Ext W0 W0:=.refl W0
  rw[show L2.start ["_law_places_here","_law_cell","_law_lies","_law_out","_law_draws","_law_place","_law_d","_law_mark","_law_letters"] [Z08,.int Z01,.bl Z0C]=[some Z08,some (.int Z01),some (.bl Z0C),none,none,none,none,none,none]from rfl]
  unfold x6 at hq
  refine cJ (Er:=Er) (i:=3) (σ':=fun p3=>[some Z08,some (.int Z01),some (.bl Z0C),some (.ref p3),none,none,none,none,none]) (fj (R:=(isT3 K isS isS isS))) (fun p3 W1 e2 hp4 o5=>?_)
  have fr6:=none_of E0.h hp4
  have E0:=E0.trans e2
  have Z05:=yE (R:=(isL (isT3 K isS isS isS))) e2.g Z05
  refine ao (Er:=Er) (i:=4) (R:=sh (isL isI)) (σ':=fun v12=>[some Z08,some (.int Z01),some (.bl Z0C),some (.ref p3),some v12,none,none,none,none]) (Bt (dt (aj (fun _=>⟨by decide,by decide⟩) (a8 (R:=sh isI) (a:=Z01) (v:=.int Z01) rfl)) (fk (Eo (a8 (R:=sh (isL (isT3 K isS isS isS))) Z05))) (aY ai (ii ai (mR (a8 (R:=sh isB) (a:=Z0C) (v:=.bl Z0C) rfl)))))) ((yG hq).imp fun y11 hq v12 W7 e8 h13=>?_)
  have E0:=E0.trans e8
  have Z05:=yE (R:=(isL (isT3 K isS isS isS))) e8.g Z05
  have o5:=o5.mono e8
  refine cQ (Er:=Er) (f:=(vW Z01)) (s0:=([]:List (Tx×Tx×Tx))) (Iv:=fun(s16:(List (Tx×Tx×Tx))) (W17:Wd) (g18:St)=>∃(d20:Option V) (d21:Option V) (d22:Option V) (d23:Option V),g18=[some Z08,some (.int Z01),some (.bl Z0C),some (.ref p3),some v12,d23,d20,d21,d22]∧Ext W0 W17∧Ow (isT3 K isS isS isS) W17 p3 s16) (gv (eX (a8 (R:=sh (isL (isT3 K isS isS isS))) Z05)) (eX (a8 (R:=sh (isL isI)) h13))) (yG hq) ?_ ?_ ?_
  ·intro W35 e36
   have E0:=E0.trans e36
   have o5:=o5.mono e36
   exact⟨_,_,_,_,rfl,E0,o5⟩
  ·intro Wb24 W25 W26 a14 v27 s15 sg28 P29 hW30 hB31 iv e32 h33 hq
   obtain⟨d20,d21,d22,d23,rfl,E0,o19⟩:=iv
   have E0:=E0.trans e32
   have hB31:=hB31.trans e32.g
   have o19:=o19.mono e32
   refine iU (σ':=fun v41 v43=>[some Z08,some (.int Z01),some (.bl Z0C),some (.ref p3),some v12,some v41,some v43,d21,d22]) h33 fun v41 v43 h42 h44=>?_
   cases h44
   unfold vW at hq
   refine bv (Er:=Er) (Iv:=fun(s60:Int) (W61:Wd) (g62:St)=>g62=[some Z08,some (.int Z01),some (.bl Z0C),some (.ref p3),some v12,some v41,some (.int s60),d21,d22]∧Ext W0 W61∧Ow (isT3 K isS isS isS) W61 p3 s15) (aI (cw (aj (fun _=>by decide) (a8 (R:=sh isI) (a:=Z01) (v:=.int Z01) rfl)) ai)) (yG hq) ?_ ?_ ?_
   ·intro W45 N48 e46 hN49 hq
    have hs50:=e46.g
    have E0:=E0.trans e46
    have hB31:=hB31.trans e46.g
    have o19:=o19.mono e46
    have h42:=yE (R:=(isT3 K isS isS isS)) e46.g h42
    refine cr (Er:=Er) (i:=6) (R:=sh isI) (σ':=fun v53=>[some Z08,some (.int Z01),some (.bl Z0C),some (.ref p3),some v12,some v41,some v53,d21,d22]) (aj (fun _=>.inr ⟨by decide,by decide⟩) (aj (fun _=>⟨by decide,by decide⟩) (a8 (R:=sh isI) (a:=a14.2) (v:=.int a14.2) rfl))) (fun v53 W51 e52 h54=>?_)
    cases h54
    have E0:=E0.trans e52
    have hB31:=hB31.trans e52.g
    have hs50:=hs50.trans e52.g
    have o19:=o19.mono e52
    have h42:=yE (R:=(isT3 K isS isS isS)) e52.g h42
    exact hN49 ((a14.2/ 8)*8) W51 _ hs50 ⟨rfl,E0,o19⟩ hq
   ·intro W45 N48 e46 hN49 hq
    have hs55:=e46.g
    have E0:=E0.trans e46
    have hB31:=hB31.trans e46.g
    have o19:=o19.mono e46
    have h42:=yE (R:=(isT3 K isS isS isS)) e46.g h42
    try dsimp only[aE]
    exact hN49 a14.2 W45 _ hs55 ⟨rfl,E0,o19⟩ hq
   ·intro s56 W57 sg58 hS59 iv hq
    obtain⟨rfl,E0,o63⟩:=iv
    have hB31:=hB31.trans hS59
    have h42:=yE (R:=(isT3 K isS isS isS)) hS59 h42
    refine bv (Er:=Er) (Iv:=fun(s79:Int) (W80:Wd) (g81:St)=>g81=[some Z08,some (.int Z01),some (.bl Z0C),some (.ref p3),some v12,some v41,some (.int s79),d21,d22]∧Ext W0 W80∧Ow (isT3 K isS isS isS) W80 p3 s15) (aI (cw (aj (fun _=>by decide) (a8 (R:=sh isI) (a:=Z01) (v:=.int Z01) rfl)) ai)) (yG hq) ?_ ?_ ?_
    ·intro W64 N67 e65 hN68 hq
     have hs69:=e65.g
     have E0:=E0.trans e65
     have hB31:=hB31.trans e65.g
     have o63:=o63.mono e65
     have h42:=yE (R:=(isT3 K isS isS isS)) e65.g h42
     refine cr (Er:=Er) (i:=6) (R:=sh isI) (σ':=fun v72=>[some Z08,some (.int Z01),some (.bl Z0C),some (.ref p3),some v12,some v41,some v72,d21,d22]) (aY (aj (fun _=>.inr ⟨by decide,by decide⟩) (aj (fun _=>⟨by decide,by decide⟩) (a8 (R:=sh isI) (a:=s56) (v:=.int s56) rfl))) ai) (fun v72 W70 e71 h73=>?_)
     cases h73
     have E0:=E0.trans e71
     have hB31:=hB31.trans e71.g
     have hs69:=hs69.trans e71.g
     have o63:=o63.mono e71
     have h42:=yE (R:=(isT3 K isS isS isS)) e71.g h42
     exact hN68 (((s56/ 8)*8)+(7:Int)) W70 _ hs69 ⟨rfl,E0,o63⟩ hq
    ·intro W64 N67 e65 hN68 hq
     have hs74:=e65.g
     have E0:=E0.trans e65
     have hB31:=hB31.trans e65.g
     have o63:=o63.mono e65
     have h42:=yE (R:=(isT3 K isS isS isS)) e65.g h42
     try dsimp only[aE]
     exact hN68 s56 W64 _ hs74 ⟨rfl,E0,o63⟩ hq
    ·intro s75 W76 sg77 hS78 iv hq
     obtain⟨rfl,E0,o82⟩:=iv
     have hB31:=hB31.trans hS78
     have h42:=yE (R:=(isT3 K isS isS isS)) hS78 h42
     refine cJ (Er:=Er) (i:=7) (σ':=fun p85=>[some Z08,some (.int Z01),some (.bl Z0C),some (.ref p3),some v12,some v41,some (.int s75),some (.ref p85),d22]) (fG (bJ (aT (f:=fun(b:Tx×Tx×Tx)=>b.1) jB (a8 (R:=sh (isT3 K isS isS isS)) h42)) (bJ (aT (f:=fun(b:Tx×Tx×Tx)=>b.2.1) gK (a8 (R:=sh (isT3 K isS isS isS)) h42)) (bJ (aT (f:=fun(b:Tx×Tx×Tx)=>b.2.2) ik (a8 (R:=sh (isT3 K isS isS isS)) h42)) (fF (R:=isS)))))) (fun p85 W83 e84 hp86 o87=>?_)
     have ne88:=o82.ne hp86
     have fr89:=none_of E0.h hp86
     have E0:=E0.trans e84
     have hB31:=hB31.trans e84.g
     have o82:=o82.mono e84
     have h42:=yE (R:=(isT3 K isS isS isS)) e84.g h42
     refine bv (Er:=Er) (Iv:=fun(s114:(List Tx)) (W115:Wd) (g116:St)=>∃(d118:Option V),g116=[some Z08,some (.int Z01),some (.bl Z0C),some (.ref p3),some v12,some v41,some (.int s75),some (.ref p85),d118]∧Ext W0 W115∧Ow isS W115 p85 s114∧Ow (isT3 K isS isS isS) W115 p3 s15) (fE (aI (cH (a8 (R:=sh isI) (a:=s75) (v:=.int s75) rfl) ai)) (aI (cH (aj (fun _=>by decide) (a8 (R:=sh isI) (a:=s75) (v:=.int s75) rfl)) ai))) (yG hq) ?_ ?_ ?_
     ·intro W91 N94 e92 hN95 hq
      have hs96:=e92.g
      have E0:=E0.trans e92
      have hB31:=hB31.trans e92.g
      have o82:=o82.mono e92
      have h42:=yE (R:=(isT3 K isS isS isS)) e92.g h42
      have o87:=o87.mono e92
      refine ao (Er:=Er) (i:=8) (R:=sh isS) (σ':=fun v99=>[some Z08,some (.int Z01),some (.bl Z0C),some (.ref p3),some v12,some v41,some (.int s75),some (.ref p85),some v99]) (aZ (x:=yO "abcdefghijklmnopqrstuvwxyza") (l:=[97,98,99,100,101,102,103,104,105,106,107,108,109,110,111,112,113,114,115,116,117,118,119,120,121,122,97]) (eQ _ _ (by decide +kernel))) (fun v99 W97 e98 h100=>?_)
      cases h100
      have E0:=E0.trans e98
      have hB31:=hB31.trans e98.g
      have hs96:=hs96.trans e98.g
      have o82:=o82.mono e98
      have h42:=yE (R:=(isT3 K isS isS isS)) e98.g h42
      have o87:=o87.mono e98
      refine jE (Er:=Er) o87 (bC (a8 (R:=sh isS) (a:=([97,98,99,100,101,102,103,104,105,106,107,108,109,110,111,112,113,114,115,116,117,118,119,120,121,122,97]:Tx)) (v:=.str (ap ([97,98,99,100,101,102,103,104,105,106,107,108,109,110,111,112,113,114,115,116,117,118,119,120,121,122,97]:Tx))) rfl) (aY (fQ (a8 (R:=sh isS) (a:=([97,98,99,100,101,102,103,104,105,106,107,108,109,110,111,112,113,114,115,116,117,118,119,120,121,122,97]:Tx)) (v:=.str (ap ([97,98,99,100,101,102,103,104,105,106,107,108,109,110,111,112,113,114,115,116,117,118,119,120,121,122,97]:Tx))) rfl) (eW (eD o87) (aj (fun _=>by decide) (a8 (R:=sh isI) (a:=s75) (v:=.int s75) rfl)))) ai)) (aj (fun _=>by decide) (a8 (R:=sh isI) (a:=s75) (v:=.int s75) rfl)) ((yG hq).imp fun y108 hq W104 mu105 o106=>?_)
      have E0:=mu105.e _ E0 fr89
      have hB31:=hB31.trans mu105.g
      have hs96:=hs96.trans mu105.g
      have o82:=mu105.ow ne88 o82
      have h42:=yE (R:=(isT3 K isS isS isS)) mu105.g h42
      exact hN95 y108 W104 _ hs96 ⟨_,rfl,E0,o106,o82⟩ hq
     ·intro W91 N94 e92 hN95 hq
      have hs109:=e92.g
      have E0:=E0.trans e92
      have hB31:=hB31.trans e92.g
      have o82:=o82.mono e92
      have h42:=yE (R:=(isT3 K isS isS isS)) e92.g h42
      have o87:=o87.mono e92
      try dsimp only[aE]
      exact hN95 [a14.1.1,a14.1.2.1,a14.1.2.2] W91 _ hs109 ⟨_,rfl,E0,o87,o82⟩ hq
     ·intro s110 W111 sg112 hS113 iv hq
      obtain⟨d118,rfl,E0,o117,o119⟩:=iv
      have hB31:=hB31.trans hS113
      have h42:=yE (R:=(isT3 K isS isS isS)) hS113 h42
      refine bv (Er:=Er) (Iv:=fun(s139:(List Tx)) (W140:Wd) (g141:St)=>g141=[some Z08,some (.int Z01),some (.bl Z0C),some (.ref p3),some v12,some v41,some (.int s75),some (.ref p85),d118]∧Ext W0 W140∧Ow isS W140 p85 s139∧Ow (isT3 K isS isS isS) W140 p3 s15) (fE (aI (cH (a8 (R:=sh isI) (a:=s75) (v:=.int s75) rfl) ai)) (aI (cw (aj (fun _=>by decide) (a8 (R:=sh isI) (a:=s75) (v:=.int s75) rfl)) ai))) (yG hq) ?_ ?_ ?_
      ·intro W121 N124 e122 hN125 hq
       have hs126:=e122.g
       have E0:=E0.trans e122
       have hB31:=hB31.trans e122.g
       have o119:=o119.mono e122
       have h42:=yE (R:=(isT3 K isS isS isS)) e122.g h42
       have o117:=o117.mono e122
       refine jE (Er:=Er) o117 (bC (aZ (x:=yO "zos") (l:=[122,111,115]) (eQ _ _ (by decide +kernel))) (fQ (aZ (x:=yO "szo") (l:=[115,122,111]) (eQ _ _ (by decide +kernel))) (eW (eD o117) ai))) ai ((yG hq).imp fun y133 hq W129 mu130 o131=>?_)
       have E0:=mu130.e _ E0 fr89
       have hB31:=hB31.trans mu130.g
       have hs126:=hs126.trans mu130.g
       have o119:=mu130.ow ne88 o119
       have h42:=yE (R:=(isT3 K isS isS isS)) mu130.g h42
       exact hN125 y133 W129 _ hs126 ⟨rfl,E0,o131,o119⟩ hq
      ·intro W121 N124 e122 hN125 hq
       have hs134:=e122.g
       have E0:=E0.trans e122
       have hB31:=hB31.trans e122.g
       have o119:=o119.mono e122
       have h42:=yE (R:=(isT3 K isS isS isS)) e122.g h42
       have o117:=o117.mono e122
       try dsimp only[aE]
       exact hN125 s110 W121 _ hs134 ⟨rfl,E0,o117,o119⟩ hq
      ·intro s135 W136 sg137 hS138 iv hq
       obtain⟨rfl,E0,o142,o143⟩:=iv
       have hB31:=hB31.trans hS138
       have h42:=yE (R:=(isT3 K isS isS isS)) hS138 h42
       obtain⟨W144,hH145,E0,hS146,h148,hk147⟩:=o142.frz E0 fr89
       rw[←hH145]
       have hB31:=hB31.trans hS146
       have o143:=o143.keep (by rw[hH145]) hS146 (hk147 _ ne88)
       have h42:=yE (R:=(isT3 K isS isS isS)) hS146 h42
       refine fH (Er:=Er) o143 (qh (F7 (eF (f:=fun(a149:Tx×Int)=>(((gB s75 a149.2).bind fun y158=>yL (y158% 2)).bind fun y159=>yL (decide (y159=(1:Int)))).bind fun y160=>if y160 then yL a149.1 else yL ([63]:Tx)) (gv (eX (a8 (R:=sh (isL isS)) h148)) (eX (Bt (fG (bJ ai (bJ ai (bJ ai (fF (R:=isI))))))))) fun W151 a149 v150 e152 h153 Q161 k162=>by
        refine iU h153 fun v154 v156 h155 h157=>?_
        cases h155
        cases h157
        exact⟨by simp[Keep,bB],((kF (aI (cw (aj (fun _=>by decide) (mO (a8 (R:=sh isI) (a:=s75) (v:=.int s75) rfl) (a8 (R:=sh isI) (a:=a149.2) (v:=.int a149.2) rfl))) ai)) (a8 (R:=sh isS) (a:=a149.1) (v:=.str (ap a149.1)) rfl) (aZ (x:=yO "?") (l:=[63]) (eQ _ _ (by decide +kernel)))):EV Er _ [some (.str (ap a149.1)),some (.int a149.2),some (.int s75)] _ _ _) _ (.refl _) _ k162⟩))) ((yG hq).imp fun y167 hq W164 mu165 o166=>?_)
       have E0:=mu165.e _ E0 fr6
       have hB31:=hB31.trans mu165.g
       have h42:=yE (R:=(isT3 K isS isS isS)) mu165.g h42
       have h148:=yE (R:=(isL isS)) mu165.g h148
       try dsimp only
       refine cR (W:=W164) y167 hB31 ?_ hq
       exact⟨_,_,_,_,rfl,E0,o166⟩
  ·intro s169 W170 sg171 hS172 iv hq
   obtain⟨d20,d21,d22,d23,rfl,E0,o19⟩:=iv
   exact⟨.ref p3,rfl,hq p3 W170 E0 fr6 o19⟩
theorem yh {f:Addr} {fd:zu} (F:Fun K "_law_turnover" "_law_turnover" (tp 36) f fd):FnOk P w K mg base CX0 (1) f fd ["_law_card_here"] (de (isT3 K isS isS isI) (rs (isT3 K isS isS isI)) (x8)):=by
 have SC:FnScope ["_law_card_here","_law_holes_here"] ["_law_card_here"] (defScope (tp 36)):=⟨rfl,rfl,rfl,by decide +kernel,rfl,by decide +kernel,by decide +kernel⟩
 refine F.ok SC (fun vs H Q E h=>?_) (fun cdv A outer s H vs Q E hr h=>?_)
 ·obtain⟨_,_,_,_,rfl,_⟩:=h;rfl
 ·obtain⟨W0,Z03,Z04,rfl,rfl,Z00,Er,hq⟩:=h
  refine⟨_,(af (am (i:=1) SC.nd rfl (by first | exact yY rfl | exact yX rfl) (ax (aJ (K:=K) rfl) (pv 0) aa (fun _ _=>rfl)))
   (ag (aB (bL (a5 (ax bA aX (dX (K:=K) rfl rfl aX (a5 (ax (aJ (K:=K) rfl) (pv 0) aa (fun _ _=>rfl)) ae)) (fun _ _=>rfl)) (a5 (ah cZ (ah cZ (ah cZ (ax bA (pv 1) aa (fun _ _=>rfl)) (ax bA (pv 1) aa (fun _ _=>rfl))) (ax bA (pv 1) aa (fun _ _=>rfl))) (ax bA (pv 1) aa (fun _ _=>rfl))) (a5 (ah aw (ah gl aa (ax (aJ (K:=K) rfl) (pv 0) aa (fun _ _=>rfl))) aa) ae))))))),?_⟩
  have E0:Ext W0 W0:=.refl W0
  rw[show L2.start ["_law_card_here","_law_holes_here"] [Z04]=[some Z04,none]from rfl]
  unfold x8 at hq
  refine ao (Er:=Er) (i:=1) (R:=sh isS) (σ':=fun v3=>[some Z04,some v3]) (aT (f:=fun(b:Tx×Tx×Int)=>b.2.1) gK (a8 (R:=sh (isT3 K isS isS isI)) Z00)) (fun v3 W1 e2 h4=>?_)
  cases h4
  have E0:=E0.trans e2
  have Z00:=yE (R:=(isT3 K isS isS isI)) e2.g Z00
  exact bh (Er:=Er) (R:=sh (isT3 K isS isS isI)) (cz (K:=K) (bC (aZ (x:=yO "ZS") (l:=[90,83]) (eQ _ _ (by decide +kernel))) (fQ (aZ (x:=yO "SZ") (l:=[83,90]) (eQ _ _ (by decide +kernel))) (aT (f:=fun(b:Tx×Tx×Int)=>b.1) jB (a8 (R:=sh (isT3 K isS isS isI)) Z00)))) (fh (fh (fh (bC (a8 (R:=sh isS) (a:=Z03.2.1) (v:=.str (ap Z03.2.1)) rfl) ai) (bC (a8 (R:=sh isS) (a:=Z03.2.1) (v:=.str (ap Z03.2.1)) rfl) ai)) (bC (a8 (R:=sh isS) (a:=Z03.2.1) (v:=.str (ap Z03.2.1)) rfl) ai)) (bC (a8 (R:=sh isS) (a:=Z03.2.1) (v:=.str (ap Z03.2.1)) rfl) ai)) (aj (fun _=>by decide) (aY ai (aT (f:=fun(b:Tx×Tx×Int)=>b.2.2) ik (a8 (R:=sh (isT3 K isS isS isI)) Z00))))) (zB hq fun y14 hq v15 W16 e17 h18=>hq v15 W16 (E0.trans e17) h18)
theorem yi {f:Addr} {fd:zu} (F:Fun K "_law_back" "_law_back" (tp 37) f fd):FnOk P w K mg base CX0 (1) f fd ["_law_turns_here"] (de isS (rs isS) (x9)):=by
 have SC:FnScope ["_law_turns_here"] ["_law_turns_here"] (defScope (tp 37)):=⟨rfl,rfl,rfl,by decide +kernel,rfl,by decide +kernel,by decide +kernel⟩
 refine F.ok SC (fun vs H Q E h=>?_) (fun cdv A outer s H vs Q E hr h=>?_)
 ·obtain⟨_,_,_,_,rfl,_⟩:=h;rfl
 ·obtain⟨W0,Z06,_,rfl,rfl,Z0G,Er,hq⟩:=h
  cases Z0G
  refine⟨_,(ag (aB (iu (K:=K) rfl aX (a5 (eA (N:=["_law_turn"]) (cap:=[none]) (jy rfl (by decide +kernel) rfl (by decide +kernel) (by rfl) (by rfl)) rfl (i5 (pv 0)) (fun _ _ _ _=>(aq (i:=0) (show AA (["_law_turn"]:List Str) by decide +kernel) rfl (by first | exact yY rfl | exact yX rfl))) (fun _ _ _ _=>di) (fun _ _ _ _=>(ax bA aX (dX (K:=K) rfl rfl aX (a5 (pv 0) ae)) (fun _ _=>rfl)))) ae)))),?_⟩
  have E0:Ext W0 W0:=.refl W0
  rw[show L2.start ["_law_turns_here"] [.str (ap Z06)]=[some (.str (ap Z06))]from rfl]
  unfold x9 at hq
  exact bh (Er:=Er) (R:=sh isS) (jC (eQ _ _ (by decide +kernel)) (F7 (eF (f:=fun(a1:Tx)=>(gp ([98,105,102]:Tx) a1).bind fun y8=>dC ([102,105,98]:Tx) y8) (im (a8 (R:=sh isS) (a:=Z06) (v:=.str (ap Z06)) rfl)) fun W3 a1 v2 e4 h5 Q9 k10=>by
   cases h5
   refine gn ?_
   exact⟨by simp[Keep,bB],((bC (aZ (x:=yO "fib") (l:=[102,105,98]) (eQ _ _ (by decide +kernel))) (fQ (aZ (x:=yO "bif") (l:=[98,105,102]) (eQ _ _ (by decide +kernel))) (a8 (R:=sh isS) (a:=a1) (v:=.str (ap a1)) rfl))):EV Er _ [some (.str (ap a1))] _ _ _) _ (.refl _) _ k10⟩))) (zB hq fun y12 hq v13 W14 e15 h16=>hq v13 W14 (E0.trans e15) h16)
theorem yj {f:Addr} {fd:zu} (F:Fun K "_law_roll" "_law_roll" (tp 38) f fd) (h_range:mg "range" =none):FnOk P w K mg base CX0 (1) f fd ["_law_card_here","_law_many"] (bu (isT3 K isS isS isI) isI (rs (isT3 K isS isS isI)) (xb)):=by
 have SC:FnScope ["_law_card_here","_law_many","_law_holes_here"] ["_law_card_here","_law_many"] (defScope (tp 38)):=⟨rfl,rfl,rfl,by decide +kernel,rfl,by decide +kernel,by decide +kernel⟩
 refine F.ok SC (fun vs H Q E h=>?_) (fun cdv A outer s H vs Q E hr h=>?_)
 ·obtain⟨_,_,_,_,_,_,rfl,_⟩:=h;rfl
 ·obtain⟨W0,Z03,Z0f,Z04,_,rfl,rfl,Z00,Z2K,Er,hq⟩:=h
  cases Z2K
  refine⟨_,(af (am (i:=2) SC.nd rfl (by first | exact yY rfl | exact yX rfl) (iu (K:=K) rfl aX (a5 (eA (N:=["_law_k","_law_card_here","_law_many"]) (cap:=[none,some 0,some 1]) (jy rfl (by decide +kernel) rfl (by decide +kernel) (by rfl) (by rfl)) rfl (gj rfl h_range (a5 aa ae)) (fun _ _ _ _=>(aq (i:=0) (show AA (["_law_k","_law_card_here","_law_many"]:List Str) by decide +kernel) rfl (by first | exact yY rfl | exact yX rfl))) (fun _ _ _ _=>di) (fun _ _ _ _=>(ax bA (ax (aJ (K:=K) rfl) (pv 1) aa (fun _ _=>rfl)) (ah aw (ah gl (pv 0) (pv 2)) aa) (fun _ _=>rfl)))) ae)))
   (ag (aB (bL (a5 (ax (aJ (K:=K) rfl) (pv 0) aa (fun _ _=>rfl)) (a5 (pv 2) (a5 (ah aw (ah bi (ax (aJ (K:=K) rfl) (pv 0) aa (fun _ _=>rfl)) (pv 1)) aa) ae))))))),?_⟩
  have E0:Ext W0 W0:=.refl W0
  rw[show L2.start ["_law_card_here","_law_many","_law_holes_here"] [Z04,.int Z0f]=[some Z04,some (.int Z0f),none]from rfl]
  unfold xb at hq
  refine ao (Er:=Er) (i:=2) (R:=sh isS) (σ':=fun v16=>[some Z04,some (.int Z0f),some v16]) (jC (eQ _ _ (by decide +kernel)) (F7 (eF (f:=fun(a3:Int)=>dC Z03.2.1 ((a3- Z0f)% 4)) (io ai) fun W5 a3 v4 e6 h7 Q11 k12=>by
   have h8:=zJ (R:=sh (isT3 K isS isS isI)) e6 Z00
   cases h7
   refine gn ?_
   exact⟨by simp[Keep,bB],((bC (aT (f:=fun(b:Tx×Tx×Int)=>b.2.1) gK (a8 (R:=sh (isT3 K isS isS isI)) h8)) (aj (fun _=>by decide) (aY (a8 (R:=sh isI) (a:=a3) (v:=.int a3) rfl) (a8 (R:=sh isI) (a:=Z0f) (v:=.int Z0f) rfl)))):EV Er _ [some (.int a3),some Z04,some (.int Z0f)] _ _ _) _ (.refl _) _ k12⟩))) ((yG hq).imp fun y15 hq v16 W1 e2 h17=>?_)
  cases h17
  have E0:=E0.trans e2
  have Z00:=yE (R:=(isT3 K isS isS isI)) e2.g Z00
  exact bh (Er:=Er) (R:=sh (isT3 K isS isS isI)) (cz (K:=K) (aT (f:=fun(b:Tx×Tx×Int)=>b.1) jB (a8 (R:=sh (isT3 K isS isS isI)) Z00)) (a8 (R:=sh isS) (a:=y15) (v:=.str (ap y15)) rfl) (aj (fun _=>by decide) (aY (aT (f:=fun(b:Tx×Tx×Int)=>b.2.2) ik (a8 (R:=sh (isT3 K isS isS isI)) Z00)) (a8 (R:=sh isI) (a:=Z0f) (v:=.int Z0f) rfl)))) (fun v18 W19 e20 h21=>hq v18 W19 (E0.trans e20) h21)
theorem yk {f:Addr} {fd:zu} (F:Fun K "_law_seen" "_law_seen" (tp 39) f fd) {gU:(Tx×Tx×Int)→Tx→Res (Tx×Tx×Int)} (Z0T:Cal P w K mg base "_law_behind" ["_law_card_here","_law_turn"] (2) (bu (isT3 K isS isS isI) isS (rs (isT3 K isS isS isI)) gU)) (h_sorted:mg "sorted" =none):FnOk P w K mg base CX0 (3) f fd ["_law_card_here","_law_turns_here"] (bu (isT3 K isS isS isI) isS (ro isI) (xc gU)):=by
 have SC:FnScope ["_law_card_here","_law_turns_here","_law_out","_law_turn","_law_hole"] ["_law_card_here","_law_turns_here"] (defScope (tp 39)):=⟨rfl,rfl,rfl,by decide +kernel,rfl,by decide +kernel,by decide +kernel⟩
 refine F.ok SC (fun vs H Q E h=>?_) (fun cdv A outer s H vs Q E hr h=>?_)
 ·obtain⟨_,_,_,_,_,_,rfl,_⟩:=h;rfl
 ·obtain⟨W0,Z03,Z06,Z04,_,rfl,rfl,Z00,Z0G,Er,hq⟩:=h
  cases Z0G
  refine⟨_,(af (am (i:=2) SC.nd rfl (by first | exact yY rfl | exact yX rfl) (cB ae))
   (af (cF zS rfl (i5 (pv 1)) (aq (i:=3) SC.nd rfl (by first | exact yY rfl | exact yX rfl)) (af (am (i:=0) SC.nd rfl (by first | exact yY rfl | exact yX rfl) (ar Z0T (hr.mono (by decide)) (by rfl) (a5 (pv 0) (a5 (pv 3) ae))))
   (ag (cF zS rfl (cC (K:=K) rfl (cB (a5 (ax (aJ (K:=K) rfl) (pv 0) aa (fun _ _=>rfl)) (a5 (ah aw (ah bi (ax (aJ (K:=K) rfl) (pv 0) aa (fun _ _=>rfl)) aa) aa) ae)))) (aq (i:=4) SC.nd rfl (by first | exact yY rfl | exact yX rfl)) (ag (bq (aA (fA (K:=K) rfl) (pv 4) (pv 2) (by with_unfolding_all rfl)) (ag (cP (bH (K:=K) rfl (pv 2) (a5 (pv 4) ae)))) aM))))))
   (ag (aB (aK (jz (K:=K) rfl) (by rfl) h_sorted BZ (a5 (pv 2) ae)))))),?_⟩
  have E0:Ext W0 W0:=.refl W0
  rw[show L2.start ["_law_card_here","_law_turns_here","_law_out","_law_turn","_law_hole"] [Z04,.str (ap Z06)]=[some Z04,some (.str (ap Z06)),none,none,none]from rfl]
  unfold xc at hq
  refine cJ (Er:=Er) (i:=2) (σ':=fun p3=>[some Z04,some (.str (ap Z06)),some (.ref p3),none,none]) (fj (R:=isI)) (fun p3 W1 e2 hp4 o5=>?_)
  have fr6:=none_of E0.h hp4
  have E0:=E0.trans e2
  have Z00:=yE (R:=(isT3 K isS isS isI)) e2.g Z00
  refine cQ (Er:=Er) (f:=(wI gU)) (s0:=(Z03,([]:List Int))) (Iv:=fun(s9:((Tx×Tx×Int)×(List Int))) (W10:Wd) (g11:St)=>∃(v12:V) (d15:Option V) (d16:Option V),g11=[some v12,some (.str (ap Z06)),some (.ref p3),d16,d15]∧Ext W0 W10∧(isT3 K isS isS isI) W10.G s9.1 v12∧Ow isI W10 p3 s9.2) (im (a8 (R:=sh isS) (a:=Z06) (v:=.str (ap Z06)) rfl)) (yG hq) ?_ ?_ ?_
  ·intro W28 e29
   have E0:=E0.trans e29
   have Z00:=yE (R:=(isT3 K isS isS isI)) e29.g Z00
   have o5:=o5.mono e29
   exact⟨_,_,_,rfl,E0,Z00,o5⟩
  ·intro Wb17 W18 W19 a7 v20 s8 sg21 P22 hW23 hB24 iv e25 h26 hq
   obtain⟨v12,d15,d16,rfl,E0,h13,o14⟩:=iv
   have E0:=E0.trans e25
   have hB24:=hB24.trans e25.g
   have o14:=o14.mono e25
   have h13:=yE (R:=(isT3 K isS isS isI)) e25.g h13
   cases h26
   refine gn (σ':=[some v12,some (.str (ap Z06)),some (.ref p3),some (.str (ap a7)),d15]) ?_
   unfold wI at hq
   refine ao (Er:=Er) (i:=0) (R:=sh (isT3 K isS isS isI)) (σ':=fun v35=>[some v35,some (.str (ap Z06)),some (.ref p3),some (.str (ap a7)),d15]) (aR (a8 (R:=sh (isT3 K isS isS isI)) h13) (a8 (R:=sh isS) (a:=a7) (v:=.str (ap a7)) rfl)) ((yG hq).imp fun y34 hq v35 W32 e33 h36=>?_)
   have E0:=E0.trans e33
   have hB24:=hB24.trans e33.g
   have o14:=o14.mono e33
   refine jF (Er:=Er) (f:=vX) (s0:=s8.2) (Iv:=fun(s39:(List Int)) (W40:Wd) (g41:St)=>∃(d43:Option V),g41=[some v35,some (.str (ap Z06)),some (.ref p3),some (.str (ap a7)),d43]∧Ext W0 W40∧Ow isI W40 p3 s39) (d3 (Bt (fG (bJ (aT (f:=fun(b:Tx×Tx×Int)=>b.2.2) ik (a8 (R:=sh (isT3 K isS isS isI)) h36)) (bJ (aj (fun _=>by decide) (aY (aT (f:=fun(b:Tx×Tx×Int)=>b.2.2) ik (a8 (R:=sh (isT3 K isS isS isI)) h36)) ai)) (fF (R:=isI))))))) (yG hq) ?_ ?_ ?_
   ·intro W55 e56
    have E0:=E0.trans e56
    have hB24:=hB24.trans e56.g
    have o14:=o14.mono e56
    have h36:=yE (R:=(isT3 K isS isS isI)) e56.g h36
    exact⟨_,rfl,E0,o14⟩
   ·intro Wb44 W45 W46 a37 v47 s38 sg48 P49 hW50 hB51 iv e52 h53 hq
    obtain⟨d43,rfl,E0,o42⟩:=iv
    have hB24:=hB24.trans hW50
    have h36:=yE (R:=(isT3 K isS isS isI)) hW50 h36
    have E0:=E0.trans e52
    have hB24:=hB24.trans e52.g
    have hB51:=hB51.trans e52.g
    have o42:=o42.mono e52
    have h36:=yE (R:=(isT3 K isS isS isI)) e52.g h36
    cases h53
    refine gn (σ':=[some v35,some (.str (ap Z06)),some (.ref p3),some (.str (ap a7)),some (.int a37)]) ?_
    unfold vX at hq
    refine gw (Er:=Er) (Iv:=fun(s74:(List Int)) (W75:Wd) (g76:St)=>g76=[some v35,some (.str (ap Z06)),some (.ref p3),some (.str (ap a7)),some (.int a37)]∧Ext W0 W75∧Ow isI W75 p3 s74) (aI (iq (a8 (R:=sh isI) (a:=a37) (v:=.int a37) rfl) (eD o42))) (yG hq) ?_ ?_ ?_
    ·intro W59 N62 e60 hN63 hq
     have hs64:=e60.g
     have E0:=E0.trans e60
     have hB24:=hB24.trans e60.g
     have hB51:=hB51.trans e60.g
     have o42:=o42.mono e60
     have h36:=yE (R:=(isT3 K isS isS isI)) e60.g h36
     refine fH (Er:=Er) o42 (a8 (R:=sh isI) (a:=a37) (v:=.int a37) rfl) ((yG hq).imp fun y68 hq W65 mu66 o67=>?_)
     have E0:=mu66.e _ E0 fr6
     have hB24:=hB24.trans mu66.g
     have hB51:=hB51.trans mu66.g
     have hs64:=hs64.trans mu66.g
     have h36:=yE (R:=(isT3 K isS isS isI)) mu66.g h36
     exact hN63 y68 W65 _ hs64 ⟨rfl,E0,o67⟩ hq
    ·intro W59 N62 e60 hN63 hq
     have hs69:=e60.g
     have E0:=E0.trans e60
     have hB24:=hB24.trans e60.g
     have hB51:=hB51.trans e60.g
     have o42:=o42.mono e60
     have h36:=yE (R:=(isT3 K isS isS isI)) e60.g h36
     try dsimp only[aE]
     exact hN63 s38 W59 _ hs69 ⟨rfl,E0,o42⟩ hq
    ·intro s70 W71 sg72 hS73 iv hq
     obtain⟨rfl,E0,o77⟩:=iv
     have hB24:=hB24.trans hS73
     have hB51:=hB51.trans hS73
     have h36:=yE (R:=(isT3 K isS isS isI)) hS73 h36
     try dsimp only
     refine cR (W:=W71) s70 hB51 ?_ hq
     exact⟨_,rfl,E0,o77⟩
   ·intro s78 W79 sg80 hS81 iv hq
    obtain⟨d43,rfl,E0,o42⟩:=iv
    have hB24:=hB24.trans hS81
    have h36:=yE (R:=(isT3 K isS isS isI)) hS81 h36
    try dsimp only
    refine cR (W:=W79) (y34,s78) hB24 ?_ hq
    exact⟨_,_,_,rfl,E0,h36,o42⟩
  ·intro s82 W83 sg84 hS85 iv hq
   obtain⟨v12,d15,d16,rfl,E0,h13,o14⟩:=iv
   exact jD (Er:=Er) (qi (eD o14)) (zB hq fun y86 hq p87 W88 e89 hp90 o91=>hq p87 W88 (E0.trans e89) (none_of E0.h hp90) o91)
theorem yl {f:Addr} {fd:zu} (F:Fun K "_law_kin" "_law_kin" (tp 40) f fd) {tQ:(Tx×Tx×Int)→Res (Tx×Tx×Int)} {tR:Tx→Res Tx} {tS:(Tx×Tx×Int)→Int→Res (Tx×Tx×Int)} {tT:(Tx×Tx×Int)→Tx→Res (List Int)} (Z1G:Cal P w K mg base "_law_turnover" ["_law_card_here"] (1) (de (isT3 K isS isS isI) (rs (isT3 K isS isS isI)) tQ)) (Z3w:Cal P w K mg base "_law_back" ["_law_turns_here"] (1) (de isS (rs isS) tR)) (Z3x:Cal P w K mg base "_law_roll" ["_law_card_here","_law_many"] (1) (bu (isT3 K isS isS isI) isI (rs (isT3 K isS isS isI)) tS)) (Z3y:Cal P w K mg base "_law_seen" ["_law_card_here","_law_turns_here"] (3) (bu (isT3 K isS isS isI) isS (ro isI) tT)) (h_range:mg "range" =none):FnOk P w K mg base CX0 (4) f fd ["_law_card_here","_law_turns_here","_law_cell"] (dE (isT3 K isS isS isI) isS isI (rs (isT2 K (isT3 K isS isS isI) isS)) (xf tQ tR tS tT)):=by
 have SC:FnScope ["_law_card_here","_law_turns_here","_law_cell","_law_known","_law_hole","_law_colour"] ["_law_card_here","_law_turns_here","_law_cell"] (defScope (tp 40)):=⟨rfl,rfl,rfl,by decide +kernel,rfl,by decide +kernel,by decide +kernel⟩
 refine F.ok SC (fun vs H Q E h=>?_) (fun cdv A outer s H vs Q E hr h=>?_)
 ·obtain⟨_,_,_,_,_,_,_,_,rfl,_⟩:=h;rfl
 ·obtain⟨W0,Z03,Z06,Z01,Z04,_,_,rfl,rfl,Z00,Z0G,Z0B,Er,hq⟩:=h
  cases Z0G
  cases Z0B
  refine⟨_,(af (bq (aA bE (ah aw (pv 2) aa) aa (ay _)) (af (am (i:=0) SC.nd rfl (by first | exact yY rfl | exact yX rfl) (ar Z1G (hr.mono (by decide)) (by rfl) (a5 (pv 0) ae)))
   (ag (am (i:=1) SC.nd rfl (by first | exact yY rfl | exact yX rfl) (ar Z3w (hr.mono (by decide)) (by rfl) (a5 (pv 1) ae))))) aM)
   (af (am (i:=0) SC.nd rfl (by first | exact yY rfl | exact yX rfl) (ar Z3x (hr.mono (by decide)) (by rfl) (a5 (pv 0) (a5 (ah aw (ah aU (pv 2) aa) aa) ae))))
   (af (bq (aA bE (ah aw (ah aU (pv 2) aa) aa) aa (ay _)) (af (am (i:=3) SC.nd rfl (by first | exact yY rfl | exact yX rfl) (ar Z3y (hr.mono (by decide)) (by rfl) (a5 (pv 0) (a5 (pv 1) ae))))
   (ag (cF zS rfl (gj rfl h_range (a5 aa ae)) (aq (i:=4) SC.nd rfl (by first | exact yY rfl | exact yX rfl)) (ag (bq (aA (fA (K:=K) rfl) (pv 4) (pv 3) (by with_unfolding_all rfl)) (af (am (i:=5) SC.nd rfl (by first | exact yY rfl | exact yX rfl) (ax bA aX (ah aw (ah bi (ah aU (pv 2) aa) (ah dM aa (pv 4))) aa) (fun _ _=>rfl)))
   (ag (am (i:=0) SC.nd rfl (by first | exact yY rfl | exact yX rfl) (bL (a5 (ax (aJ (K:=K) rfl) (pv 0) aa (fun _ _=>rfl)) (a5 (ah cZ (ah cZ (hW pG (ax (aJ (K:=K) rfl) (pv 0) aa (fun _ _=>rfl)) jn (jo (pv 4))) (pv 5)) (hW pG (ax (aJ (K:=K) rfl) (pv 0) aa (fun _ _=>rfl)) (jo (ah bi (pv 4) aa)) jn)) (a5 (ax (aJ (K:=K) rfl) (pv 0) aa (fun _ _=>rfl)) ae))))))) aM))))) aM)
   (ag (aB (bL (a5 (pv 0) (a5 (pv 1) ae)))))))),?_⟩
  have E0:Ext W0 W0:=.refl W0
  rw[show L2.start ["_law_card_here","_law_turns_here","_law_cell","_law_known","_law_hole","_law_colour"] [Z04,.str (ap Z06),.int Z01]=[some Z04,some (.str (ap Z06)),some (.int Z01),none,none,none]from rfl]
  unfold xf at hq
  refine bv (Er:=Er) (Iv:=fun(s22:((Tx×Tx×Int)×Tx)) (W23:Wd) (g24:St)=>∃(v25:V),g24=[some v25,some (.str (ap s22.2)),some (.int Z01),none,none,none]∧Ext W0 W23∧(isT3 K isS isS isI) W23.G s22.1 v25) (aI (cw (aj (fun _=>by decide) (a8 (R:=sh isI) (a:=Z01) (v:=.int Z01) rfl)) ai)) (yG hq) ?_ ?_ ?_
  ·intro W1 N4 e2 hN5 hq
   have hs6:=e2.g
   have E0:=E0.trans e2
   have Z00:=yE (R:=(isT3 K isS isS isI)) e2.g Z00
   refine ao (Er:=Er) (i:=0) (R:=sh (isT3 K isS isS isI)) (σ':=fun v10=>[some v10,some (.str (ap Z06)),some (.int Z01),none,none,none]) (cD (a8 (R:=sh (isT3 K isS isS isI)) Z00)) ((yG hq).imp fun y9 hq v10 W7 e8 h11=>?_)
   have E0:=E0.trans e8
   have hs6:=hs6.trans e8.g
   refine cr (Er:=Er) (i:=1) (R:=sh isS) (σ':=fun v15=>[some v10,some v15,some (.int Z01),none,none,none]) (cD (a8 (R:=sh isS) (a:=Z06) (v:=.str (ap Z06)) rfl)) ((yG hq).imp fun y14 hq v15 W12 e13 h16=>?_)
   cases h16
   have E0:=E0.trans e13
   have hs6:=hs6.trans e13.g
   have h11:=yE (R:=(isT3 K isS isS isI)) e13.g h11
   exact hN5 (y9,y14) W12 _ hs6 ⟨_,rfl,E0,h11⟩ hq
  ·intro W1 N4 e2 hN5 hq
   have hs17:=e2.g
   have E0:=E0.trans e2
   have Z00:=yE (R:=(isT3 K isS isS isI)) e2.g Z00
   try dsimp only[aE]
   exact hN5 (Z03,Z06) W1 _ hs17 ⟨_,rfl,E0,Z00⟩ hq
  ·intro s18 W19 sg20 hS21 iv hq
   obtain⟨v25,rfl,E0,h26⟩:=iv
   refine ao (Er:=Er) (i:=0) (R:=sh (isT3 K isS isS isI)) (σ':=fun v30=>[some v30,some (.str (ap s18.2)),some (.int Z01),none,none,none]) (aR (a8 (R:=sh (isT3 K isS isS isI)) h26) (aj (fun _=>by decide) (aj (fun _=>⟨by decide,by decide⟩) (a8 (R:=sh isI) (a:=Z01) (v:=.int Z01) rfl)))) ((yG hq).imp fun y29 hq v30 W27 e28 h31=>?_)
   have E0:=E0.trans e28
   refine bv (Er:=Er) (Iv:=fun(s111:(Tx×Tx×Int)) (W112:Wd) (g113:St)=>∃(v114:V) (d116:Option V) (d117:Option V) (d118:Option V),g113=[some v114,some (.str (ap s18.2)),some (.int Z01),d116,d117,d118]∧Ext W0 W112∧(isT3 K isS isS isI) W112.G s111 v114) (aI (cw (aj (fun _=>by decide) (aj (fun _=>⟨by decide,by decide⟩) (a8 (R:=sh isI) (a:=Z01) (v:=.int Z01) rfl))) ai)) (yG hq) ?_ ?_ ?_
   ·intro W32 N35 e33 hN36 hq
    have hs37:=e33.g
    have E0:=E0.trans e33
    have h31:=yE (R:=(isT3 K isS isS isI)) e33.g h31
    refine ao (Er:=Er) (i:=3) (R:=sh (isL isI)) (σ':=fun v41=>[some v30,some (.str (ap s18.2)),some (.int Z01),some v41,none,none]) (Bt (gr (a8 (R:=sh (isT3 K isS isS isI)) h31) (a8 (R:=sh isS) (a:=s18.2) (v:=.str (ap s18.2)) rfl))) ((yG hq).imp fun y40 hq v41 W38 e39 h42=>?_)
    have E0:=E0.trans e39
    have hs37:=hs37.trans e39.g
    have h31:=yE (R:=(isT3 K isS isS isI)) e39.g h31
    refine jF (Er:=Er) (f:=(vY Z01 y40)) (s0:=y29) (Iv:=fun(s45:(Tx×Tx×Int)) (W46:Wd) (g47:St)=>∃(v48:V) (d50:Option V) (d51:Option V),g47=[some v48,some (.str (ap s18.2)),some (.int Z01),some v41,d51,d50]∧Ext W0 W46∧(isT3 K isS isS isI) W46.G s45 v48) (io ai) (yG hq) ?_ ?_ ?_
    ·intro W63 e64
     have E0:=E0.trans e64
     have hs37:=hs37.trans e64.g
     have h31:=yE (R:=(isT3 K isS isS isI)) e64.g h31
     have h42:=yE (R:=(isL isI)) e64.g h42
     exact⟨_,_,_,rfl,E0,h31⟩
    ·intro Wb52 W53 W54 a43 v55 s44 sg56 P57 hW58 hB59 iv e60 h61 hq
     obtain⟨v48,d50,d51,rfl,E0,h49⟩:=iv
     have hs37:=hs37.trans hW58
     have h42:=yE (R:=(isL isI)) hW58 h42
     have E0:=E0.trans e60
     have hs37:=hs37.trans e60.g
     have hB59:=hB59.trans e60.g
     have h42:=yE (R:=(isL isI)) e60.g h42
     have h49:=yE (R:=(isT3 K isS isS isI)) e60.g h49
     cases h61
     refine gn (σ':=[some v48,some (.str (ap s18.2)),some (.int Z01),some v41,some (.int a43),d50]) ?_
     unfold vY at hq
     refine gw (Er:=Er) (Iv:=fun(s95:(Tx×Tx×Int)) (W96:Wd) (g97:St)=>∃(v98:V) (d100:Option V),g97=[some v98,some (.str (ap s18.2)),some (.int Z01),some v41,some (.int a43),d100]∧Ext W0 W96∧(isT3 K isS isS isI) W96.G s95 v98) (aI (iq (a8 (R:=sh isI) (a:=a43) (v:=.int a43) rfl) (Eo (a8 (R:=sh (isL isI)) h42)))) (yG hq) ?_ ?_ ?_
     ·intro W67 N70 e68 hN71 hq
      have hs72:=e68.g
      have E0:=E0.trans e68
      have hs37:=hs37.trans e68.g
      have hB59:=hB59.trans e68.g
      have h42:=yE (R:=(isL isI)) e68.g h42
      have h49:=yE (R:=(isT3 K isS isS isI)) e68.g h49
      refine ao (Er:=Er) (i:=5) (R:=sh isS) (σ':=fun v79=>[some v48,some (.str (ap s18.2)),some (.int Z01),some v41,some (.int a43),some v79]) (bC (aZ (x:=yO "abcdefghijklmnopqrstuvwxyz") (l:=[97,98,99,100,101,102,103,104,105,106,107,108,109,110,111,112,113,114,115,116,117,118,119,120,121,122]) (eQ _ _ (by decide +kernel))) (aj (fun _=>by decide) (aY (aj (fun _=>⟨by decide,by decide⟩) (a8 (R:=sh isI) (a:=Z01) (v:=.int Z01) rfl)) (ii ai (a8 (R:=sh isI) (a:=a43) (v:=.int a43) rfl))))) ((yG hq).imp fun y78 hq v79 W73 e74 h80=>?_)
      cases h80
      have E0:=E0.trans e74
      have hs37:=hs37.trans e74.g
      have hB59:=hB59.trans e74.g
      have hs72:=hs72.trans e74.g
      have h42:=yE (R:=(isL isI)) e74.g h42
      have h49:=yE (R:=(isT3 K isS isS isI)) e74.g h49
      refine cr (Er:=Er) (i:=0) (R:=sh (isT3 K isS isS isI)) (σ':=fun v88=>[some v88,some (.str (ap s18.2)),some (.int Z01),some v41,some (.int a43),some (.str (ap y78))]) (cz (K:=K) (aT (f:=fun(b:Tx×Tx×Int)=>b.1) jB (a8 (R:=sh (isT3 K isS isS isI)) h49)) (fh (fh (mP (aT (f:=fun(b:Tx×Tx×Int)=>b.2.1) gK (a8 (R:=sh (isT3 K isS isS isI)) h49)) q9 (qa (a8 (R:=sh isI) (a:=a43) (v:=.int a43) rfl))) (a8 (R:=sh isS) (a:=y78) (v:=.str (ap y78)) rfl)) (mP (aT (f:=fun(b:Tx×Tx×Int)=>b.2.1) gK (a8 (R:=sh (isT3 K isS isS isI)) h49)) (qa (aY (a8 (R:=sh isI) (a:=a43) (v:=.int a43) rfl) ai)) q9)) (aT (f:=fun(b:Tx×Tx×Int)=>b.2.2) ik (a8 (R:=sh (isT3 K isS isS isI)) h49))) ((yG hq).imp fun y87 hq v88 W81 e82 h89=>?_)
      have E0:=E0.trans e82
      have hs37:=hs37.trans e82.g
      have hB59:=hB59.trans e82.g
      have hs72:=hs72.trans e82.g
      have h42:=yE (R:=(isL isI)) e82.g h42
      exact hN71 y87 W81 _ hs72 ⟨_,_,rfl,E0,h89⟩ hq
     ·intro W67 N70 e68 hN71 hq
      have hs90:=e68.g
      have E0:=E0.trans e68
      have hs37:=hs37.trans e68.g
      have hB59:=hB59.trans e68.g
      have h42:=yE (R:=(isL isI)) e68.g h42
      have h49:=yE (R:=(isT3 K isS isS isI)) e68.g h49
      try dsimp only[aE]
      exact hN71 s44 W67 _ hs90 ⟨_,_,rfl,E0,h49⟩ hq
     ·intro s91 W92 sg93 hS94 iv hq
      obtain⟨v98,d100,rfl,E0,h99⟩:=iv
      have hs37:=hs37.trans hS94
      have hB59:=hB59.trans hS94
      have h42:=yE (R:=(isL isI)) hS94 h42
      try dsimp only
      refine cR (W:=W92) s91 hB59 ?_ hq
      exact⟨_,_,_,rfl,E0,h99⟩
    ·intro s102 W103 sg104 hS105 iv hq
     obtain⟨v48,d50,d51,rfl,E0,h49⟩:=iv
     have hs37:=hs37.trans hS105
     exact hN36 s102 W103 _ hs37 ⟨_,_,_,_,rfl,E0,h49⟩ hq
   ·intro W32 N35 e33 hN36 hq
    have hs106:=e33.g
    have E0:=E0.trans e33
    have h31:=yE (R:=(isT3 K isS isS isI)) e33.g h31
    try dsimp only[aE]
    exact hN36 y29 W32 _ hs106 ⟨_,_,_,_,rfl,E0,h31⟩ hq
   ·intro s107 W108 sg109 hS110 iv hq
    obtain⟨v114,d116,d117,d118,rfl,E0,h115⟩:=iv
    exact bh (Er:=Er) (R:=sh (isT2 K (isT3 K isS isS isI) isS)) (eE (K:=K) (a8 (R:=sh (isT3 K isS isS isI)) h115) (a8 (R:=sh isS) (a:=s18.2) (v:=.str (ap s18.2)) rfl)) (fun v119 W120 e121 h122=>hq v119 W120 (E0.trans e121) h122)
theorem ym {f:Addr} {fd:zu} (F:Fun K "_law_case" "_law_case" (tp 41) f fd) {sf:Int→Res (Tx×Tx×Int)} {fJ:List Int→Int→Res Int} {tM:Int→Int→Res Tx} {tN:(Tx×Tx×Int)→Tx→Res (List (Tx×Tx×Tx))} {tO:(List (Tx×Tx×Tx))→Int→Res (List (Tx×Tx×Tx))} {tP:(List (Tx×Tx×Tx))→Int→Bool→Res (List (Tx×Tx×Tx))} {tU:(Tx×Tx×Int)→Tx→Int→Res ((Tx×Tx×Int)×Tx)} (Z2d:Cal P w K mg base "_law_card" ["_law_cell"] (3) (de isI (rs (isT3 K isS isS isI)) sf)) (Z0x:Cal P w K mg base "_law_at" ["_law_script","_law_k"] (1) (bu (isScr K) isI (rs isI) fJ)) (Z2N:Cal P w K mg base "_law_turns" ["_law_cell","_law_many"] (2) (bu isI isI (rs isS) tM)) (Z2t:Cal P w K mg base "_law_places" ["_law_card_here","_law_turns_here"] (3) (bu (isT3 K isS isS isI) isS (ro (isT3 K isS isS isS)) tN)) (Z3z:Cal P w K mg base "_law_long" ["_law_places_here","_law_cell"] (2) (bu (isL (isT3 K isS isS isS)) isI (ro (isT3 K isS isS isS)) tO)) (Z2O:Cal P w K mg base "_law_marks" ["_law_places_here","_law_cell","_law_lies"] (2) (dE (isL (isT3 K isS isS isS)) isI isB (ro (isT3 K isS isS isS)) tP)) (Z4g:Cal P w K mg base "_law_kin" ["_law_card_here","_law_turns_here","_law_cell"] (4) (dE (isT3 K isS isS isI) isS isI (rs (isT2 K (isT3 K isS isS isI) isS)) tU)):FnOk P w K mg base CX0 (5) f fd ["_law_script","_law_most"] (bu (isScr K) isI (rs (isT3 K (isT3 K isS isS isI) (isL (isT3 K isS isS isS)) isI)) (xg sf fJ tM tN tO tP tU)):=by
 have SC:FnScope ["_law_script","_law_most","_law_card_here","_law_size","_law_cell","_law_many","_law_turns_here","_law_places_here","_law_strip","_law_side"] ["_law_script","_law_most"] (defScope (tp 41)):=⟨rfl,rfl,rfl,by decide +kernel,rfl,by decide +kernel,by decide +kernel⟩
 refine F.ok SC (fun vs H Q E h=>?_) (fun cdv A outer s H vs Q E hr h=>?_)
 ·obtain⟨_,_,_,_,_,_,rfl,_⟩:=h;rfl
 ·obtain⟨W0,Z0k,Z0o,Z0a,_,rfl,rfl,Z02,ZbA,Er,hq⟩:=h
  cases ZbA
  refine⟨_,(af (am (i:=2) SC.nd rfl (by first | exact yY rfl | exact yX rfl) (ar Z2d (hr.mono (by decide)) (by rfl) (a5 (ar Z0x (hr.mono (by decide)) (by rfl) (a5 (pv 0) (a5 aa ae))) ae)))
   (af (am (i:=3) SC.nd rfl (by first | exact yY rfl | exact yX rfl) (ar Z0x (hr.mono (by decide)) (by rfl) (a5 (pv 0) (a5 aa ae))))
   (af (am (i:=4) SC.nd rfl (by first | exact yY rfl | exact yX rfl) (ar Z0x (hr.mono (by decide)) (by rfl) (a5 (pv 0) (a5 aa ae))))
   (af (am (i:=5) SC.nd rfl (by first | exact yY rfl | exact yX rfl) (ah aw (pv 3) (ah bi (pv 1) aa)))
   (af (bq (aA bE (ah aw (ah aU (pv 3) aa) aa) aa (ay _)) (ag (am (i:=5) SC.nd rfl (by first | exact yY rfl | exact yX rfl) (ah bi aa (ah aw (ah aU (pv 3) aa) aa)))) aM)
   (af (bq (aA bE (ah aw (ah aU (pv 3) aa) aa) aa (ay _)) (ag (am (i:=5) SC.nd rfl (by first | exact yY rfl | exact yX rfl) (ah bi aa (ah aw (ah aU (pv 3) aa) aa)))) aM)
   (af (am (i:=6) SC.nd rfl (by first | exact yY rfl | exact yX rfl) (ar Z2N (hr.mono (by decide)) (by rfl) (a5 (ar Z0x (hr.mono (by decide)) (by rfl) (a5 (pv 0) (a5 aa ae))) (a5 (pv 5) ae))))
   (af (am (i:=7) SC.nd rfl (by first | exact yY rfl | exact yX rfl) (ar Z2t (hr.mono (by decide)) (by rfl) (a5 (pv 2) (a5 (pv 6) ae))))
   (af (bq (aA mH (pv 5) (pv 1) (ay _)) (ag (am (i:=8) SC.nd rfl (by first | exact yY rfl | exact yX rfl) (ar Z3z (hr.mono (by decide)) (by rfl) (a5 (pv 7) (a5 (pv 4) ae))))) (ag (am (i:=8) SC.nd rfl (by first | exact yY rfl | exact yX rfl) (ar Z2O (hr.mono (by decide)) (by rfl) (a5 (pv 7) (a5 (ah aU (pv 4) aa) (a5 (cx bE (ah aw (pv 4) aa) aa (ay _)) ae)))))))
   (af (am (i:=9) SC.nd rfl (by first | exact yY rfl | exact yX rfl) (ah aU (ar Z0x (hr.mono (by decide)) (by rfl) (a5 (pv 0) (a5 aa ae))) aa))
   (af (bq (aA bE (ah aw (pv 9) aa) aa (ay _)) (ag (am (i:=2) SC.nd rfl (by first | exact yY rfl | exact yX rfl) (ax (aJ (K:=K) rfl) (ar Z4g (hr.mono (by decide)) (by rfl) (a5 (pv 2) (a5 (pv 6) (a5 (ah aU (pv 9) aa) ae)))) aa (fun _ _=>rfl)))) aM)
   (af (bq (aA bE (ah aw (pv 9) aa) aa (ay _)) (ag (am (i:=2) SC.nd rfl (by first | exact yY rfl | exact yX rfl) (ar Z2d (hr.mono (by decide)) (by rfl) (a5 (ah aU (pv 9) aa) ae)))) aM)
   (ag (aB (bL (a5 (pv 2) (a5 (pv 8) (a5 (ah aw (ar Z0x (hr.mono (by decide)) (by rfl) (a5 (pv 0) (a5 aa ae))) aa) ae)))))))))))))))))),?_⟩
  have E0:Ext W0 W0:=.refl W0
  rw[show L2.start ["_law_script","_law_most","_law_card_here","_law_size","_law_cell","_law_many","_law_turns_here","_law_places_here","_law_strip","_law_side"] [Z0a,.int Z0o]=[some Z0a,some (.int Z0o),none,none,none,none,none,none,none,none]from rfl]
  unfold xg at hq
  refine ao (Er:=Er) (i:=2) (R:=sh (isT3 K isS isS isI)) (σ':=fun v5=>[some Z0a,some (.int Z0o),some v5,none,none,none,none,none,none,none]) (cD (aR (a8 (R:=sh (isScr K)) Z02) ai)) ((yG hq).imp fun y4 hq v5 W1 e2 h6=>?_)
  have E0:=E0.trans e2
  have Z02:=yE (R:=(isScr K)) e2.g Z02
  refine ao (Er:=Er) (i:=3) (R:=sh isI) (σ':=fun v10=>[some Z0a,some (.int Z0o),some v5,some v10,none,none,none,none,none,none]) (aR (a8 (R:=sh (isScr K)) Z02) ai) ((yG hq).imp fun y9 hq v10 W7 e8 h11=>?_)
  cases h11
  have E0:=E0.trans e8
  have Z02:=yE (R:=(isScr K)) e8.g Z02
  have h6:=yE (R:=(isT3 K isS isS isI)) e8.g h6
  refine ao (Er:=Er) (i:=4) (R:=sh isI) (σ':=fun v15=>[some Z0a,some (.int Z0o),some v5,some (.int y9),some v15,none,none,none,none,none]) (aR (a8 (R:=sh (isScr K)) Z02) ai) ((yG hq).imp fun y14 hq v15 W12 e13 h16=>?_)
  cases h16
  have E0:=E0.trans e13
  have Z02:=yE (R:=(isScr K)) e13.g Z02
  have h6:=yE (R:=(isT3 K isS isS isI)) e13.g h6
  refine ao (Er:=Er) (i:=5) (R:=sh isI) (σ':=fun v20=>[some Z0a,some (.int Z0o),some v5,some (.int y9),some (.int y14),some v20,none,none,none,none]) (ij (a8 (R:=sh isI) (a:=y9) (v:=.int y9) rfl) (aY (a8 (R:=sh isI) (a:=Z0o) (v:=.int Z0o) rfl) ai)) ((yG hq).imp fun y19 hq v20 W17 e18 h21=>?_)
  cases h21
  have E0:=E0.trans e18
  have Z02:=yE (R:=(isScr K)) e18.g Z02
  have h6:=yE (R:=(isT3 K isS isS isI)) e18.g h6
  refine bv (Er:=Er) (Iv:=fun(s37:Int) (W38:Wd) (g39:St)=>g39=[some Z0a,some (.int Z0o),some v5,some (.int y9),some (.int y14),some (.int s37),none,none,none,none]∧Ext W0 W38) (aI (cw (aj (fun _=>by decide) (aj (fun _=>⟨by decide,by decide⟩) (a8 (R:=sh isI) (a:=y9) (v:=.int y9) rfl))) ai)) (yG hq) ?_ ?_ ?_
  ·intro W22 N25 e23 hN26 hq
   have hs27:=e23.g
   have E0:=E0.trans e23
   have Z02:=yE (R:=(isScr K)) e23.g Z02
   have h6:=yE (R:=(isT3 K isS isS isI)) e23.g h6
   refine cr (Er:=Er) (i:=5) (R:=sh isI) (σ':=fun v30=>[some Z0a,some (.int Z0o),some v5,some (.int y9),some (.int y14),some v30,none,none,none,none]) (aY ai (aj (fun _=>by decide) (aj (fun _=>⟨by decide,by decide⟩) (a8 (R:=sh isI) (a:=y9) (v:=.int y9) rfl)))) (fun v30 W28 e29 h31=>?_)
   cases h31
   have E0:=E0.trans e29
   have hs27:=hs27.trans e29.g
   have Z02:=yE (R:=(isScr K)) e29.g Z02
   have h6:=yE (R:=(isT3 K isS isS isI)) e29.g h6
   exact hN26 ((25:Int)+((y9/ 78)% 36)) W28 _ hs27 ⟨rfl,E0⟩ hq
  ·intro W22 N25 e23 hN26 hq
   have hs32:=e23.g
   have E0:=E0.trans e23
   have Z02:=yE (R:=(isScr K)) e23.g Z02
   have h6:=yE (R:=(isT3 K isS isS isI)) e23.g h6
   try dsimp only[aE]
   exact hN26 y19 W22 _ hs32 ⟨rfl,E0⟩ hq
  ·intro s33 W34 sg35 hS36 iv hq
   obtain⟨rfl,E0⟩:=iv
   have Z02:=yE (R:=(isScr K)) hS36 Z02
   have h6:=yE (R:=(isT3 K isS isS isI)) hS36 h6
   refine bv (Er:=Er) (Iv:=fun(s55:Int) (W56:Wd) (g57:St)=>g57=[some Z0a,some (.int Z0o),some v5,some (.int y9),some (.int y14),some (.int s55),none,none,none,none]∧Ext W0 W56) (aI (cw (aj (fun _=>by decide) (aj (fun _=>⟨by decide,by decide⟩) (a8 (R:=sh isI) (a:=y9) (v:=.int y9) rfl))) ai)) (yG hq) ?_ ?_ ?_
   ·intro W40 N43 e41 hN44 hq
    have hs45:=e41.g
    have E0:=E0.trans e41
    have Z02:=yE (R:=(isScr K)) e41.g Z02
    have h6:=yE (R:=(isT3 K isS isS isI)) e41.g h6
    refine cr (Er:=Er) (i:=5) (R:=sh isI) (σ':=fun v48=>[some Z0a,some (.int Z0o),some v5,some (.int y9),some (.int y14),some v48,none,none,none,none]) (aY ai (aj (fun _=>by decide) (aj (fun _=>⟨by decide,by decide⟩) (a8 (R:=sh isI) (a:=y9) (v:=.int y9) rfl)))) (fun v48 W46 e47 h49=>?_)
    cases h49
    have E0:=E0.trans e47
    have hs45:=hs45.trans e47.g
    have Z02:=yE (R:=(isScr K)) e47.g Z02
    have h6:=yE (R:=(isT3 K isS isS isI)) e47.g h6
    exact hN44 ((13:Int)+((y9/ 78)% 12)) W46 _ hs45 ⟨rfl,E0⟩ hq
   ·intro W40 N43 e41 hN44 hq
    have hs50:=e41.g
    have E0:=E0.trans e41
    have Z02:=yE (R:=(isScr K)) e41.g Z02
    have h6:=yE (R:=(isT3 K isS isS isI)) e41.g h6
    try dsimp only[aE]
    exact hN44 s33 W40 _ hs50 ⟨rfl,E0⟩ hq
   ·intro s51 W52 sg53 hS54 iv hq
    obtain⟨rfl,E0⟩:=iv
    have Z02:=yE (R:=(isScr K)) hS54 Z02
    have h6:=yE (R:=(isT3 K isS isS isI)) hS54 h6
    refine ao (Er:=Er) (i:=6) (R:=sh isS) (σ':=fun v62=>[some Z0a,some (.int Z0o),some v5,some (.int y9),some (.int y14),some (.int s51),some v62,none,none,none]) (aR (aR (a8 (R:=sh (isScr K)) Z02) ai) (a8 (R:=sh isI) (a:=s51) (v:=.int s51) rfl)) ((yG hq).imp fun y61 hq v62 W58 e59 h63=>?_)
    cases h63
    have E0:=E0.trans e59
    have Z02:=yE (R:=(isScr K)) e59.g Z02
    have h6:=yE (R:=(isT3 K isS isS isI)) e59.g h6
    refine ao (Er:=Er) (i:=7) (R:=sh (isL (isT3 K isS isS isS))) (σ':=fun v67=>[some Z0a,some (.int Z0o),some v5,some (.int y9),some (.int y14),some (.int s51),some (.str (ap y61)),some v67,none,none]) (Bt (gr (a8 (R:=sh (isT3 K isS isS isI)) h6) (a8 (R:=sh isS) (a:=y61) (v:=.str (ap y61)) rfl))) ((yG hq).imp fun y66 hq v67 W64 e65 h68=>?_)
    have E0:=E0.trans e65
    have Z02:=yE (R:=(isScr K)) e65.g Z02
    have h6:=yE (R:=(isT3 K isS isS isI)) e65.g h6
    refine bv (Er:=Er) (Iv:=fun(s90:(List (Tx×Tx×Tx))) (W91:Wd) (g92:St)=>∃(v93:V),g92=[some Z0a,some (.int Z0o),some v5,some (.int y9),some (.int y14),some (.int s51),some (.str (ap y61)),some v67,some v93,none]∧Ext W0 W91∧(isL (isT3 K isS isS isS)) W91.G s90 v93) (aI (cH (a8 (R:=sh isI) (a:=s51) (v:=.int s51) rfl) (a8 (R:=sh isI) (a:=Z0o) (v:=.int Z0o) rfl))) (yG hq) ?_ ?_ ?_
    ·intro W69 N72 e70 hN73 hq
     have hs74:=e70.g
     have E0:=E0.trans e70
     have Z02:=yE (R:=(isScr K)) e70.g Z02
     have h6:=yE (R:=(isT3 K isS isS isI)) e70.g h6
     have h68:=yE (R:=(isL (isT3 K isS isS isS))) e70.g h68
     refine cr (Er:=Er) (i:=8) (R:=sh (isL (isT3 K isS isS isS))) (σ':=fun v78=>[some Z0a,some (.int Z0o),some v5,some (.int y9),some (.int y14),some (.int s51),some (.str (ap y61)),some v67,some v78,none]) (Bt (gr (a8 (R:=sh (isL (isT3 K isS isS isS))) h68) (a8 (R:=sh isI) (a:=y14) (v:=.int y14) rfl))) ((yG hq).imp fun y77 hq v78 W75 e76 h79=>?_)
     have E0:=E0.trans e76
     have hs74:=hs74.trans e76.g
     have Z02:=yE (R:=(isScr K)) e76.g Z02
     have h6:=yE (R:=(isT3 K isS isS isI)) e76.g h6
     exact hN73 y77 W75 _ hs74 ⟨_,rfl,E0,h79⟩ hq
    ·intro W69 N72 e70 hN73 hq
     have hs80:=e70.g
     have E0:=E0.trans e70
     have Z02:=yE (R:=(isScr K)) e70.g Z02
     have h6:=yE (R:=(isT3 K isS isS isI)) e70.g h6
     have h68:=yE (R:=(isL (isT3 K isS isS isS))) e70.g h68
     refine cr (Er:=Er) (i:=8) (R:=sh (isL (isT3 K isS isS isS))) (σ':=fun v84=>[some Z0a,some (.int Z0o),some v5,some (.int y9),some (.int y14),some (.int s51),some (.str (ap y61)),some v67,some v84,none]) (Bt (dt (a8 (R:=sh (isL (isT3 K isS isS isS))) h68) (aj (fun _=>⟨by decide,by decide⟩) (a8 (R:=sh isI) (a:=y14) (v:=.int y14) rfl)) (cw (aj (fun _=>by decide) (a8 (R:=sh isI) (a:=y14) (v:=.int y14) rfl)) ai))) ((yG hq).imp fun y83 hq v84 W81 e82 h85=>?_)
     have E0:=E0.trans e82
     have hs80:=hs80.trans e82.g
     have Z02:=yE (R:=(isScr K)) e82.g Z02
     have h6:=yE (R:=(isT3 K isS isS isI)) e82.g h6
     exact hN73 y83 W81 _ hs80 ⟨_,rfl,E0,h85⟩ hq
    ·intro s86 W87 sg88 hS89 iv hq
     obtain⟨v93,rfl,E0,h94⟩:=iv
     have Z02:=yE (R:=(isScr K)) hS89 Z02
     have h6:=yE (R:=(isT3 K isS isS isI)) hS89 h6
     refine ao (Er:=Er) (i:=9) (R:=sh isI) (σ':=fun v99=>[some Z0a,some (.int Z0o),some v5,some (.int y9),some (.int y14),some (.int s51),some (.str (ap y61)),some v67,some v93,some v99]) (aj (fun _=>⟨by decide,by decide⟩) (aR (a8 (R:=sh (isScr K)) Z02) ai)) ((yG hq).imp fun y98 hq v99 W95 e96 h100=>?_)
     cases h100
     have E0:=E0.trans e96
     have Z02:=yE (R:=(isScr K)) e96.g Z02
     have h6:=yE (R:=(isT3 K isS isS isI)) e96.g h6
     have h94:=yE (R:=(isL (isT3 K isS isS isS))) e96.g h94
     refine bv (Er:=Er) (Iv:=fun(s118:(Tx×Tx×Int)) (W119:Wd) (g120:St)=>∃(v121:V),g120=[some Z0a,some (.int Z0o),some v121,some (.int y9),some (.int y14),some (.int s51),some (.str (ap y61)),some v67,some v93,some (.int y98)]∧Ext W0 W119∧(isT3 K isS isS isI) W119.G s118 v121) (aI (cw (aj (fun _=>by decide) (a8 (R:=sh isI) (a:=y98) (v:=.int y98) rfl)) ai)) (yG hq) ?_ ?_ ?_
     ·intro W101 N104 e102 hN105 hq
      have hs106:=e102.g
      have E0:=E0.trans e102
      have Z02:=yE (R:=(isScr K)) e102.g Z02
      have h6:=yE (R:=(isT3 K isS isS isI)) e102.g h6
      have h94:=yE (R:=(isL (isT3 K isS isS isS))) e102.g h94
      refine cr (Er:=Er) (i:=2) (R:=sh (isT3 K isS isS isI)) (σ':=fun v111=>[some Z0a,some (.int Z0o),some v111,some (.int y9),some (.int y14),some (.int s51),some (.str (ap y61)),some v67,some v93,some (.int y98)]) (aT (f:=fun(b:(Tx×Tx×Int)×Tx)=>b.1) ve (fR (a8 (R:=sh (isT3 K isS isS isI)) h6) (a8 (R:=sh isS) (a:=y61) (v:=.str (ap y61)) rfl) (aj (fun _=>⟨by decide,by decide⟩) (a8 (R:=sh isI) (a:=y98) (v:=.int y98) rfl)))) ((yG hq).imp fun y110 hq v111 W107 e108 h112=>?_)
      have E0:=E0.trans e108
      have hs106:=hs106.trans e108.g
      have Z02:=yE (R:=(isScr K)) e108.g Z02
      have h94:=yE (R:=(isL (isT3 K isS isS isS))) e108.g h94
      exact hN105 y110 W107 _ hs106 ⟨_,rfl,E0,h112⟩ hq
     ·intro W101 N104 e102 hN105 hq
      have hs113:=e102.g
      have E0:=E0.trans e102
      have Z02:=yE (R:=(isScr K)) e102.g Z02
      have h6:=yE (R:=(isT3 K isS isS isI)) e102.g h6
      have h94:=yE (R:=(isL (isT3 K isS isS isS))) e102.g h94
      try dsimp only[aE]
      exact hN105 y4 W101 _ hs113 ⟨_,rfl,E0,h6⟩ hq
     ·intro s114 W115 sg116 hS117 iv hq
      obtain⟨v121,rfl,E0,h122⟩:=iv
      have Z02:=yE (R:=(isScr K)) hS117 Z02
      have h94:=yE (R:=(isL (isT3 K isS isS isS))) hS117 h94
      refine bv (Er:=Er) (Iv:=fun(s139:(Tx×Tx×Int)) (W140:Wd) (g141:St)=>∃(v142:V),g141=[some Z0a,some (.int Z0o),some v142,some (.int y9),some (.int y14),some (.int s51),some (.str (ap y61)),some v67,some v93,some (.int y98)]∧Ext W0 W140∧(isT3 K isS isS isI) W140.G s139 v142) (aI (cw (aj (fun _=>by decide) (a8 (R:=sh isI) (a:=y98) (v:=.int y98) rfl)) ai)) (yG hq) ?_ ?_ ?_
      ·intro W123 N126 e124 hN127 hq
       have hs128:=e124.g
       have E0:=E0.trans e124
       have Z02:=yE (R:=(isScr K)) e124.g Z02
       have h94:=yE (R:=(isL (isT3 K isS isS isS))) e124.g h94
       have h122:=yE (R:=(isT3 K isS isS isI)) e124.g h122
       refine cr (Er:=Er) (i:=2) (R:=sh (isT3 K isS isS isI)) (σ':=fun v132=>[some Z0a,some (.int Z0o),some v132,some (.int y9),some (.int y14),some (.int s51),some (.str (ap y61)),some v67,some v93,some (.int y98)]) (cD (aj (fun _=>⟨by decide,by decide⟩) (a8 (R:=sh isI) (a:=y98) (v:=.int y98) rfl))) ((yG hq).imp fun y131 hq v132 W129 e130 h133=>?_)
       have E0:=E0.trans e130
       have hs128:=hs128.trans e130.g
       have Z02:=yE (R:=(isScr K)) e130.g Z02
       have h94:=yE (R:=(isL (isT3 K isS isS isS))) e130.g h94
       exact hN127 y131 W129 _ hs128 ⟨_,rfl,E0,h133⟩ hq
      ·intro W123 N126 e124 hN127 hq
       have hs134:=e124.g
       have E0:=E0.trans e124
       have Z02:=yE (R:=(isScr K)) e124.g Z02
       have h94:=yE (R:=(isL (isT3 K isS isS isS))) e124.g h94
       have h122:=yE (R:=(isT3 K isS isS isI)) e124.g h122
       try dsimp only[aE]
       exact hN127 s114 W123 _ hs134 ⟨_,rfl,E0,h122⟩ hq
      ·intro s135 W136 sg137 hS138 iv hq
       obtain⟨v142,rfl,E0,h143⟩:=iv
       have Z02:=yE (R:=(isScr K)) hS138 Z02
       have h94:=yE (R:=(isL (isT3 K isS isS isS))) hS138 h94
       exact bh (Er:=Er) (R:=sh (isT3 K (isT3 K isS isS isI) (isL (isT3 K isS isS isS)) isI)) (cz (K:=K) (a8 (R:=sh (isT3 K isS isS isI)) h143) (a8 (R:=sh (isL (isT3 K isS isS isS))) h94) (aj (fun _=>by decide) (aR (a8 (R:=sh (isScr K)) Z02) ai))) (zB hq fun y146 hq v147 W148 e149 h150=>hq v147 W148 (E0.trans e149) h150)
theorem yn {f:Addr} {fd:zu} (F:Fun K "_law_faded" "_law_faded" (tp 45) f fd) {fv:Int→Int→Int→Res (List Int)} (Z0u:Cal P w K mg base "_law_row" ["_law_cell","_law_many","_law_base"] (1) (dE isI isI isI (ro isI) fv)) (h_len:mg "len" =none) (h_zip:mg "zip" =none):FnOk P w K mg base CX0 (2) f fd ["_law_strip","_law_cell"] (bu (isL (isT3 K isS isS isS)) isI (rs (isL (isT3 K isS isS isS))) (xh fv)):=by
 have SC:FnScope ["_law_strip","_law_cell","_law_draws","_law_worn"] ["_law_strip","_law_cell"] (defScope (tp 45)):=⟨rfl,rfl,rfl,by decide +kernel,rfl,by decide +kernel,by decide +kernel⟩
 refine F.ok SC (fun vs H Q E h=>?_) (fun cdv A outer s H vs Q E hr h=>?_)
 ·obtain⟨_,_,_,_,_,_,rfl,_⟩:=h;rfl
 ·obtain⟨W0,Z0S,Z01,Z0y,_,rfl,rfl,Z0A,Z0B,Er,hq⟩:=h
  cases Z0B
  refine⟨_,(af (bq (E9 (mw (aA mF (aK (cg (K:=K) rfl) (by rfl) h_len PySem.boot_len (a5 (pv 0) ae)) aa (ay _)) (lu (aA mE (ah aw (pv 1) aa) aa (ay _))))) (ag (aB (pv 0))) aM)
   (af (am (i:=2) SC.nd rfl (by first | exact yY rfl | exact yX rfl) (ar Z0u (hr.mono (by decide)) (by rfl) (a5 (ah aU (pv 1) aa) (a5 (aK (cg (K:=K) rfl) (by rfl) h_len PySem.boot_len (a5 (pv 0) ae)) (a5 aa ae)))))
   (af (am (i:=3) SC.nd rfl (by first | exact yY rfl | exact yX rfl) (bL (a5 aX (a5 aX (a5 aX ae)))))
   (ag (aB (eA (N:=["_law_mark","_law_d","_law_worn"]) (cap:=[none,none,some 3]) (jy rfl (by decide +kernel) rfl (by decide +kernel) (by rfl) (by rfl)) rfl (eB (K:=K) rfl rfl h_zip (a5 (pv 0) (a5 (pv 2) ae))) (fun _ _ _ _=>(bU (K:=K) (n:=2) rfl rfl (az (aq (i:=0) (show AA (["_law_mark","_law_d","_law_worn"]:List Str) by decide +kernel) rfl (by first | exact yY rfl | exact yX rfl)) (az (aq (i:=1) (show AA (["_law_mark","_law_d","_law_worn"]:List Str) by decide +kernel) rfl (by first | exact yY rfl | exact yX rfl)) bR)))) (fun _ _ _ _=>di) (fun _ _ _ _=>(dP (aA mH (pv 1) aa (ay _)) (pv 2) (pv 0))))))))),?_⟩
  have E0:Ext W0 W0:=.refl W0
  rw[show L2.start ["_law_strip","_law_cell","_law_draws","_law_worn"] [Z0y,.int Z01]=[some Z0y,some (.int Z01),none,none]from rfl]
  unfold xh at hq
  refine fo (Er:=Er) (uw (aI (cH (fk (Eo (a8 (R:=sh (isL (isT3 K isS isS isS))) Z0A))) ai)) (aI (vd (aj (fun _=>by decide) (a8 (R:=sh isI) (a:=Z01) (v:=.int Z01) rfl)) ai))) ((yG hq).imp fun y1 hq W2 e3=>?_)
  have E0:=E0.trans e3
  have Z0A:=yE (R:=(isL (isT3 K isS isS isS))) e3.g Z0A
  by_cases hb33:y1=true
  ·rw[if_pos hb33]at hq ⊢
   exact bh (Er:=Er) (R:=sh (isL (isT3 K isS isS isS))) (a8 (R:=sh (isL (isT3 K isS isS isS))) Z0A) (fun v4 W5 e6 h7=>hq v4 W5 (E0.trans e6) h7)
  ·rw[if_neg hb33]at hq ⊢
   try dsimp only[aE]
   refine ao (Er:=Er) (i:=2) (R:=sh (isL isI)) (σ':=fun v11=>[some Z0y,some (.int Z01),some v11,none]) (Bt (dt (aj (fun _=>⟨by decide,by decide⟩) (a8 (R:=sh isI) (a:=Z01) (v:=.int Z01) rfl)) (fk (Eo (a8 (R:=sh (isL (isT3 K isS isS isS))) Z0A))) ai)) ((yG hq).imp fun y10 hq v11 W8 e9 h12=>?_)
   have E0:=E0.trans e9
   have Z0A:=yE (R:=(isL (isT3 K isS isS isS))) e9.g Z0A
   refine ao (Er:=Er) (i:=3) (R:=sh (isT3 K isS isS isS)) (σ':=fun v15=>[some Z0y,some (.int Z01),some v11,some v15]) (cz (K:=K) (aZ (x:=yO "?") (l:=[63]) (eQ _ _ (by decide +kernel))) (aZ (x:=yO "?") (l:=[63]) (eQ _ _ (by decide +kernel))) (aZ (x:=yO "?") (l:=[63]) (eQ _ _ (by decide +kernel)))) (fun v15 W13 e14 h16=>?_)
   have E0:=E0.trans e14
   have Z0A:=yE (R:=(isL (isT3 K isS isS isS))) e14.g Z0A
   have h12:=yE (R:=(isL isI)) e14.g h12
   exact bh (Er:=Er) (R:=sh (isL (isT3 K isS isS isS))) (Bt (eF (f:=fun(a17:(Tx×Tx×Tx)×Int)=>if(decide ((1:Int)< a17.2))then yL (([63]:Tx),([63]:Tx),([63]:Tx))else yL a17.1) (gv (eX (a8 (R:=sh (isL (isT3 K isS isS isS))) Z0A)) (eX (a8 (R:=sh (isL isI)) h12))) fun W19 a17 v18 e20 h21 Q27 k28=>by
    have h22:=zJ (R:=sh (isT3 K isS isS isS)) e20 h16
    refine iU h21 fun v23 v25 h24 h26=>?_
    cases h26
    exact⟨by simp[Keep,bB],((kF (aI (cH (a8 (R:=sh isI) (a:=a17.2) (v:=.int a17.2) rfl) ai)) (a8 (R:=sh (isT3 K isS isS isS)) h22) (a8 (R:=sh (isT3 K isS isS isS)) h24)):EV Er _ [some v23,some (.int a17.2),some v15] _ _ _) _ (.refl _) _ k28⟩)) (zB hq fun y29 hq v30 W31 e32 h33=>hq v30 W31 (E0.trans e32) h33)
theorem yo {f:Addr} {fd:zu} (F:Fun K "_law_next" "_law_next" (tp 42) f fd) {gy:(Tx×Tx×Int)→Tx→Res Int} (Z16:Cal P w K mg base "_law_twist" ["_law_card_here","_law_turn"] (2) (bu (isT3 K isS isS isI) isS (rs isI) gy)) (h_abs:mg "abs" =none) (h_int:mg "int" =none) (h_zip:mg "zip" =none):FnOk P w K mg base CX0 (3) f fd ["_law_card_here","_law_mark","_law_loose","_law_bound","_law_state"] (iT (isT3 K isS isS isI) (isT3 K isS isS isS) isI isI (isT2 K isI isI) (ro (isT2 K isI isI)) (xi gy)):=by
 have SC:FnScope ["_law_card_here","_law_mark","_law_loose","_law_bound","_law_state","_law_out","_law_turn","_law_step","_law_now","_law_idle","_law_hole","_law_good","_law_sign","_law_left"] ["_law_card_here","_law_mark","_law_loose","_law_bound","_law_state"] (defScope (tp 42)):=⟨rfl,rfl,rfl,by decide +kernel,rfl,by decide +kernel,by decide +kernel⟩
 refine F.ok SC (fun vs H Q E h=>?_) (fun cdv A outer s H vs Q E hr h=>?_)
 ·obtain⟨_,_,_,_,_,_,_,_,_,_,_,_,rfl,_⟩:=h;rfl
 ·obtain⟨W0,Z03,Z1E,Z0c,Z0d,Z0l,Z04,Z0z,_,_,Z0r,rfl,rfl,Z00,Z09,Z4M,Z4N,Z07,Er,hq⟩:=h
  cases Z4M
  cases Z4N
  refine⟨_,(af (am (i:=5) SC.nd rfl (by first | exact yY rfl | exact yX rfl) (cB ae))
   (af (cF zS rfl (i5 aX) (aq (i:=6) SC.nd rfl (by first | exact yY rfl | exact yX rfl)) (af (am (i:=7) SC.nd rfl (by first | exact yY rfl | exact yX rfl) (ar Z16 (hr.mono (by decide)) (by rfl) (a5 (pv 0) (a5 (pv 6) ae))))
   (af (am (i:=8) SC.nd rfl (by first | exact yY rfl | exact yX rfl) (ah bi (ax (aJ (K:=K) rfl) (pv 4) aa (fun _ _=>rfl)) (pv 7)))
   (af (am (i:=9) SC.nd rfl (by first | exact yY rfl | exact yX rfl) (ah dM (ah bi (ax (aJ (K:=K) rfl) (pv 4) aa (fun _ _=>rfl)) aa) (dR iY (by rfl) h_int By (a5 (cx bE (pv 6) aX (ay _)) ae))))
   (af (am (i:=10) SC.nd rfl (by first | exact yY rfl | exact yX rfl) (ah aw (ah bi (ax (aJ (K:=K) rfl) (pv 0) aa (fun _ _=>rfl)) (pv 8)) aa))
   (af (bq (aA bE (ax (aJ (K:=K) rfl) (pv 0) aa (fun _ _=>rfl)) aX (ay _)) (ag (am (i:=10) SC.nd rfl (by first | exact yY rfl | exact yX rfl) (ah aw (ah gl (ax (aJ (K:=K) rfl) (pv 0) aa (fun _ _=>rfl)) (pv 8)) aa))) aM)
   (af (am (i:=11) SC.nd rfl (by first | exact yY rfl | exact yX rfl) (gi (cx mG (aK hV (by rfl) h_abs Ct (a5 (pv 8) ae)) (pv 3) (ay _)) (gh (cx mG (pv 9) (pv 2) (ay _)))))
   (af (cF zS rfl (eB (K:=K) rfl rfl h_zip (a5 (bL (a5 (ax bA (ax (aJ (K:=K) rfl) (pv 0) aa (fun _ _=>rfl)) (pv 10) (fun _ _=>rfl)) (a5 (ax bA (ax (aJ (K:=K) rfl) (pv 0) aa (fun _ _=>rfl)) (ah aw (ah bi (pv 10) aa) aa) (fun _ _=>rfl)) (a5 (ax bA aX (ah bi (pv 7) aa) (fun _ _=>rfl)) ae)))) (a5 (pv 1) ae))) (bU (K:=K) (n:=2) rfl rfl (az (aq (i:=12) SC.nd rfl (by first | exact yY rfl | exact yX rfl)) (az (aq (i:=13) SC.nd rfl (by first | exact yY rfl | exact yX rfl)) bR))) (ag (bq (E9 (eg (aA mE (pv 13) aX (ay _)) (dg (aA mE (pv 13) (pv 12) (ay _))))) (ag (am (i:=11) SC.nd rfl (by first | exact yY rfl | exact yX rfl) fw)) aM)))
   (ag (bq (cO (pv 11)) (ag (cP (bH (K:=K) rfl (pv 5) (a5 (bL (a5 (pv 8) (a5 (pv 9) ae))) ae)))) aM))))))))))
   (ag (aB (pv 5))))),?_⟩
  have E0:Ext W0 W0:=.refl W0
  rw[show L2.start ["_law_card_here","_law_mark","_law_loose","_law_bound","_law_state","_law_out","_law_turn","_law_step","_law_now","_law_idle","_law_hole","_law_good","_law_sign","_law_left"] [Z04,Z0z,.int Z0c,.int Z0d,Z0r]=[some Z04,some Z0z,some (.int Z0c),some (.int Z0d),some Z0r,none,none,none,none,none,none,none,none,none]from rfl]
  unfold xi at hq
  refine cJ (Er:=Er) (i:=5) (σ':=fun p3=>[some Z04,some Z0z,some (.int Z0c),some (.int Z0d),some Z0r,some (.ref p3),none,none,none,none,none,none,none,none]) (fj (R:=(isT2 K isI isI))) (fun p3 W1 e2 hp4 o5=>?_)
  have fr6:=none_of E0.h hp4
  have E0:=E0.trans e2
  have Z00:=yE (R:=(isT3 K isS isS isI)) e2.g Z00
  have Z09:=yE (R:=(isT3 K isS isS isS)) e2.g Z09
  have Z07:=yE (R:=(isT2 K isI isI)) e2.g Z07
  refine cQ (Er:=Er) (f:=(uC gy Z03 Z1E Z0c Z0d Z0l)) (s0:=([]:List (Int×Int))) (Iv:=fun(s9:(List (Int×Int))) (W10:Wd) (g11:St)=>∃(d13:Option V) (d14:Option V) (d15:Option V) (d16:Option V) (d17:Option V) (d18:Option V) (d19:Option V) (d20:Option V),g11=[some Z04,some Z0z,some (.int Z0c),some (.int Z0d),some Z0r,some (.ref p3),d20,d13,d14,d15,d16,d17,d18,d19]∧Ext W0 W10∧Ow (isT2 K isI isI) W10 p3 s9) (im (aZ (x:=yO "fbi") (l:=[102,98,105]) (eQ _ _ (by decide +kernel)))) (yG hq) ?_ ?_ ?_
  ·intro W32 e33
   have E0:=E0.trans e33
   have Z00:=yE (R:=(isT3 K isS isS isI)) e33.g Z00
   have Z09:=yE (R:=(isT3 K isS isS isS)) e33.g Z09
   have Z07:=yE (R:=(isT2 K isI isI)) e33.g Z07
   have o5:=o5.mono e33
   exact⟨_,_,_,_,_,_,_,_,rfl,E0,o5⟩
  ·intro Wb21 W22 W23 a7 v24 s8 sg25 P26 hW27 hB28 iv e29 h30 hq
   obtain⟨d13,d14,d15,d16,d17,d18,d19,d20,rfl,E0,o12⟩:=iv
   have Z00:=yE (R:=(isT3 K isS isS isI)) hW27 Z00
   have Z09:=yE (R:=(isT3 K isS isS isS)) hW27 Z09
   have Z07:=yE (R:=(isT2 K isI isI)) hW27 Z07
   have E0:=E0.trans e29
   have hB28:=hB28.trans e29.g
   have Z00:=yE (R:=(isT3 K isS isS isI)) e29.g Z00
   have Z09:=yE (R:=(isT3 K isS isS isS)) e29.g Z09
   have Z07:=yE (R:=(isT2 K isI isI)) e29.g Z07
   have o12:=o12.mono e29
   cases h30
   refine gn (σ':=[some Z04,some Z0z,some (.int Z0c),some (.int Z0d),some Z0r,some (.ref p3),some (.str (ap a7)),d13,d14,d15,d16,d17,d18,d19]) ?_
   unfold uC at hq
   refine ao (Er:=Er) (i:=7) (R:=sh isI) (σ':=fun v39=>[some Z04,some Z0z,some (.int Z0c),some (.int Z0d),some Z0r,some (.ref p3),some (.str (ap a7)),some v39,d14,d15,d16,d17,d18,d19]) (aR (a8 (R:=sh (isT3 K isS isS isI)) Z00) (a8 (R:=sh isS) (a:=a7) (v:=.str (ap a7)) rfl)) ((yG hq).imp fun y38 hq v39 W36 e37 h40=>?_)
   cases h40
   have E0:=E0.trans e37
   have hB28:=hB28.trans e37.g
   have Z00:=yE (R:=(isT3 K isS isS isI)) e37.g Z00
   have Z09:=yE (R:=(isT3 K isS isS isS)) e37.g Z09
   have Z07:=yE (R:=(isT2 K isI isI)) e37.g Z07
   have o12:=o12.mono e37
   refine ao (Er:=Er) (i:=8) (R:=sh isI) (σ':=fun v43=>[some Z04,some Z0z,some (.int Z0c),some (.int Z0d),some Z0r,some (.ref p3),some (.str (ap a7)),some (.int y38),some v43,d15,d16,d17,d18,d19]) (aY (aT (f:=fun(b:Int×Int)=>b.1) ve (a8 (R:=sh (isT2 K isI isI)) Z07)) (a8 (R:=sh isI) (a:=y38) (v:=.int y38) rfl)) (fun v43 W41 e42 h44=>?_)
   cases h44
   have E0:=E0.trans e42
   have hB28:=hB28.trans e42.g
   have Z00:=yE (R:=(isT3 K isS isS isI)) e42.g Z00
   have Z09:=yE (R:=(isT3 K isS isS isS)) e42.g Z09
   have Z07:=yE (R:=(isT2 K isI isI)) e42.g Z07
   have o12:=o12.mono e42
   refine ao (Er:=Er) (i:=9) (R:=sh isI) (σ':=fun v48=>[some Z04,some Z0z,some (.int Z0c),some (.int Z0d),some Z0r,some (.ref p3),some (.str (ap a7)),some (.int y38),some (.int (Z0l.1+y38)),some v48,d16,d17,d18,d19]) (ii (aY (aT (f:=fun(b:Int×Int)=>b.2) xD (a8 (R:=sh (isT2 K isI isI)) Z07)) ai) (mR (eV (a8 (R:=sh isS) (a:=a7) (v:=.str (ap a7)) rfl) (aZ (x:=yO "i") (l:=[105]) (eQ _ _ (by decide +kernel)))))) ((yG hq).imp fun y47 hq v48 W45 e46 h49=>?_)
   cases h49
   have E0:=E0.trans e46
   have hB28:=hB28.trans e46.g
   have Z00:=yE (R:=(isT3 K isS isS isI)) e46.g Z00
   have Z09:=yE (R:=(isT3 K isS isS isS)) e46.g Z09
   have Z07:=yE (R:=(isT2 K isI isI)) e46.g Z07
   have o12:=o12.mono e46
   refine ao (Er:=Er) (i:=10) (R:=sh isI) (σ':=fun v52=>[some Z04,some Z0z,some (.int Z0c),some (.int Z0d),some Z0r,some (.ref p3),some (.str (ap a7)),some (.int y38),some (.int (Z0l.1+y38)),some (.int y47),some v52,d17,d18,d19]) (aj (fun _=>by decide) (aY (aT (f:=fun(b:Tx×Tx×Int)=>b.2.2) ik (a8 (R:=sh (isT3 K isS isS isI)) Z00)) (a8 (R:=sh isI) (a:=(Z0l.1+y38)) (v:=.int (Z0l.1+y38)) rfl))) (fun v52 W50 e51 h53=>?_)
   cases h53
   have E0:=E0.trans e51
   have hB28:=hB28.trans e51.g
   have Z00:=yE (R:=(isT3 K isS isS isI)) e51.g Z00
   have Z09:=yE (R:=(isT3 K isS isS isS)) e51.g Z09
   have Z07:=yE (R:=(isT2 K isI isI)) e51.g Z07
   have o12:=o12.mono e51
   refine bv (Er:=Er) (Iv:=fun(s69:Int) (W70:Wd) (g71:St)=>g71=[some Z04,some Z0z,some (.int Z0c),some (.int Z0d),some Z0r,some (.ref p3),some (.str (ap a7)),some (.int y38),some (.int (Z0l.1+y38)),some (.int y47),some (.int s69),d17,d18,d19]∧Ext W0 W70∧Ow (isT2 K isI isI) W70 p3 s8) (aI (eV (aT (f:=fun(b:Tx×Tx×Int)=>b.1) jB (a8 (R:=sh (isT3 K isS isS isI)) Z00)) (aZ (x:=yO "Z") (l:=[90]) (eQ _ _ (by decide +kernel))))) (yG hq) ?_ ?_ ?_
   ·intro W54 N57 e55 hN58 hq
    have hs59:=e55.g
    have E0:=E0.trans e55
    have hB28:=hB28.trans e55.g
    have Z00:=yE (R:=(isT3 K isS isS isI)) e55.g Z00
    have Z09:=yE (R:=(isT3 K isS isS isS)) e55.g Z09
    have Z07:=yE (R:=(isT2 K isI isI)) e55.g Z07
    have o12:=o12.mono e55
    refine cr (Er:=Er) (i:=10) (R:=sh isI) (σ':=fun v62=>[some Z04,some Z0z,some (.int Z0c),some (.int Z0d),some Z0r,some (.ref p3),some (.str (ap a7)),some (.int y38),some (.int (Z0l.1+y38)),some (.int y47),some v62,d17,d18,d19]) (aj (fun _=>by decide) (aY (aT (f:=fun(b:Tx×Tx×Int)=>b.2.2) ik (a8 (R:=sh (isT3 K isS isS isI)) Z00)) (a8 (R:=sh isI) (a:=(Z0l.1+y38)) (v:=.int (Z0l.1+y38)) rfl))) (fun v62 W60 e61 h63=>?_)
    cases h63
    have E0:=E0.trans e61
    have hB28:=hB28.trans e61.g
    have hs59:=hs59.trans e61.g
    have Z00:=yE (R:=(isT3 K isS isS isI)) e61.g Z00
    have Z09:=yE (R:=(isT3 K isS isS isS)) e61.g Z09
    have Z07:=yE (R:=(isT2 K isI isI)) e61.g Z07
    have o12:=o12.mono e61
    exact hN58 ((Z03.2.2- (Z0l.1+y38))% 4) W60 _ hs59 ⟨rfl,E0,o12⟩ hq
   ·intro W54 N57 e55 hN58 hq
    have hs64:=e55.g
    have E0:=E0.trans e55
    have hB28:=hB28.trans e55.g
    have Z00:=yE (R:=(isT3 K isS isS isI)) e55.g Z00
    have Z09:=yE (R:=(isT3 K isS isS isS)) e55.g Z09
    have Z07:=yE (R:=(isT2 K isI isI)) e55.g Z07
    have o12:=o12.mono e55
    try dsimp only[aE]
    exact hN58 ((Z03.2.2+(Z0l.1+y38))% 4) W54 _ hs64 ⟨rfl,E0,o12⟩ hq
   ·intro s65 W66 sg67 hS68 iv hq
    obtain⟨rfl,E0,o72⟩:=iv
    have hB28:=hB28.trans hS68
    have Z00:=yE (R:=(isT3 K isS isS isI)) hS68 Z00
    have Z09:=yE (R:=(isT3 K isS isS isS)) hS68 Z09
    have Z07:=yE (R:=(isT2 K isI isI)) hS68 Z07
    refine ao (Er:=Er) (i:=11) (R:=sh isB) (σ':=fun v76=>[some Z04,some Z0z,some (.int Z0c),some (.int Z0d),some Z0r,some (.ref p3),some (.str (ap a7)),some (.int y38),some (.int (Z0l.1+y38)),some (.int y47),some (.int s65),some v76,d18,d19]) (q0 (cH (lL (a8 (R:=sh isI) (a:=(Z0l.1+y38)) (v:=.int (Z0l.1+y38)) rfl)) (a8 (R:=sh isI) (a:=Z0d) (v:=.int Z0d) rfl)) (cH (a8 (R:=sh isI) (a:=y47) (v:=.int y47) rfl) (a8 (R:=sh isI) (a:=Z0c) (v:=.int Z0c) rfl))) ((yG hq).imp fun y75 hq v76 W73 e74 h77=>?_)
    cases h77
    have E0:=E0.trans e74
    have hB28:=hB28.trans e74.g
    have Z00:=yE (R:=(isT3 K isS isS isI)) e74.g Z00
    have Z09:=yE (R:=(isT3 K isS isS isS)) e74.g Z09
    have Z07:=yE (R:=(isT2 K isI isI)) e74.g Z07
    have o72:=o72.mono e74
    refine cQ (Er:=Er) (f:=sj) (s0:=y75) (Iv:=fun(s85:Bool) (W86:Wd) (g87:St)=>∃(d88:Option V) (d89:Option V),g87=[some Z04,some Z0z,some (.int Z0c),some (.int Z0d),some Z0r,some (.ref p3),some (.str (ap a7)),some (.int y38),some (.int (Z0l.1+y38)),some (.int y47),some (.int s65),some (.bl s85),d88,d89]∧Ext W0 W86∧Ow (isT2 K isI isI) W86 p3 s8) (gv (gN (cz (K:=K) (bC (aT (f:=fun(b:Tx×Tx×Int)=>b.2.1) gK (a8 (R:=sh (isT3 K isS isS isI)) Z00)) (a8 (R:=sh isI) (a:=s65) (v:=.int s65) rfl)) (bC (aT (f:=fun(b:Tx×Tx×Int)=>b.2.1) gK (a8 (R:=sh (isT3 K isS isS isI)) Z00)) (aj (fun _=>by decide) (aY (a8 (R:=sh isI) (a:=s65) (v:=.int s65) rfl) ai))) (bC (aZ (x:=yO "zos") (l:=[122,111,115]) (eQ _ _ (by decide +kernel))) (aY (a8 (R:=sh isI) (a:=y38) (v:=.int y38) rfl) ai)))) (gN (a8 (R:=sh (isT3 K isS isS isS)) Z09))) (yG hq) ?_ ?_ ?_
    ·intro W102 e103
     have E0:=E0.trans e103
     have hB28:=hB28.trans e103.g
     have Z00:=yE (R:=(isT3 K isS isS isI)) e103.g Z00
     have Z09:=yE (R:=(isT3 K isS isS isS)) e103.g Z09
     have Z07:=yE (R:=(isT2 K isI isI)) e103.g Z07
     have o72:=o72.mono e103
     exact⟨_,_,rfl,E0,o72⟩
    ·intro Wb91 W92 W93 a83 v94 s84 sg95 P96 hW97 hB98 iv e99 h100 hq
     obtain⟨d88,d89,rfl,E0,o90⟩:=iv
     have hB28:=hB28.trans hW97
     have Z00:=yE (R:=(isT3 K isS isS isI)) hW97 Z00
     have Z09:=yE (R:=(isT3 K isS isS isS)) hW97 Z09
     have Z07:=yE (R:=(isT2 K isI isI)) hW97 Z07
     have E0:=E0.trans e99
     have hB28:=hB28.trans e99.g
     have hB98:=hB98.trans e99.g
     have Z00:=yE (R:=(isT3 K isS isS isI)) e99.g Z00
     have Z09:=yE (R:=(isT3 K isS isS isS)) e99.g Z09
     have Z07:=yE (R:=(isT2 K isI isI)) e99.g Z07
     have o90:=o90.mono e99
     refine iU (σ':=fun v108 v110=>[some Z04,some Z0z,some (.int Z0c),some (.int Z0d),some Z0r,some (.ref p3),some (.str (ap a7)),some (.int y38),some (.int (Z0l.1+y38)),some (.int y47),some (.int s65),some (.bl s84),some v108,some v110]) h100 fun v108 v110 h109 h111=>?_
     cases h109
     cases h111
     unfold sj at hq
     refine gw (Er:=Er) (Iv:=fun(s128:Bool) (W129:Wd) (g130:St)=>g130=[some Z04,some Z0z,some (.int Z0c),some (.int Z0d),some Z0r,some (.ref p3),some (.str (ap a7)),some (.int y38),some (.int (Z0l.1+y38)),some (.int y47),some (.int s65),some (.bl s128),some (.str (ap a83.1)),some (.str (ap a83.2))]∧Ext W0 W129∧Ow (isT2 K isI isI) W129 p3 s8) (fE (aI (pY (a8 (R:=sh isS) (a:=a83.2) (v:=.str (ap a83.2)) rfl) (aZ (x:=yO "?") (l:=[63]) (eQ _ _ (by decide +kernel))))) (aI (pY (a8 (R:=sh isS) (a:=a83.2) (v:=.str (ap a83.2)) rfl) (a8 (R:=sh isS) (a:=a83.1) (v:=.str (ap a83.1)) rfl)))) (yG hq) ?_ ?_ ?_
     ·intro W113 N116 e114 hN117 hq
      have hs118:=e114.g
      have E0:=E0.trans e114
      have hB28:=hB28.trans e114.g
      have hB98:=hB98.trans e114.g
      have Z00:=yE (R:=(isT3 K isS isS isI)) e114.g Z00
      have Z09:=yE (R:=(isT3 K isS isS isS)) e114.g Z09
      have Z07:=yE (R:=(isT2 K isI isI)) e114.g Z07
      have o90:=o90.mono e114
      refine cr (Er:=Er) (i:=11) (R:=sh isB) (σ':=fun v121=>[some Z04,some Z0z,some (.int Z0c),some (.int Z0d),some Z0r,some (.ref p3),some (.str (ap a7)),some (.int y38),some (.int (Z0l.1+y38)),some (.int y47),some (.int s65),some v121,some (.str (ap a83.1)),some (.str (ap a83.2))]) pV (fun v121 W119 e120 h122=>?_)
      cases h122
      have E0:=E0.trans e120
      have hB28:=hB28.trans e120.g
      have hB98:=hB98.trans e120.g
      have hs118:=hs118.trans e120.g
      have Z00:=yE (R:=(isT3 K isS isS isI)) e120.g Z00
      have Z09:=yE (R:=(isT3 K isS isS isS)) e120.g Z09
      have Z07:=yE (R:=(isT2 K isI isI)) e120.g Z07
      have o90:=o90.mono e120
      exact hN117 false W119 _ hs118 ⟨rfl,E0,o90⟩ hq
     ·intro W113 N116 e114 hN117 hq
      have hs123:=e114.g
      have E0:=E0.trans e114
      have hB28:=hB28.trans e114.g
      have hB98:=hB98.trans e114.g
      have Z00:=yE (R:=(isT3 K isS isS isI)) e114.g Z00
      have Z09:=yE (R:=(isT3 K isS isS isS)) e114.g Z09
      have Z07:=yE (R:=(isT2 K isI isI)) e114.g Z07
      have o90:=o90.mono e114
      try dsimp only[aE]
      exact hN117 s84 W113 _ hs123 ⟨rfl,E0,o90⟩ hq
     ·intro s124 W125 sg126 hS127 iv hq
      obtain⟨rfl,E0,o131⟩:=iv
      have hB28:=hB28.trans hS127
      have hB98:=hB98.trans hS127
      have Z00:=yE (R:=(isT3 K isS isS isI)) hS127 Z00
      have Z09:=yE (R:=(isT3 K isS isS isS)) hS127 Z09
      have Z07:=yE (R:=(isT2 K isI isI)) hS127 Z07
      try dsimp only
      refine cR (W:=W125) s124 hB98 ?_ hq
      exact⟨_,_,rfl,E0,o131⟩
    ·intro s133 W134 sg135 hS136 iv hq
     obtain⟨d88,d89,rfl,E0,o90⟩:=iv
     have hB28:=hB28.trans hS136
     have Z00:=yE (R:=(isT3 K isS isS isI)) hS136 Z00
     have Z09:=yE (R:=(isT3 K isS isS isS)) hS136 Z09
     have Z07:=yE (R:=(isT2 K isI isI)) hS136 Z07
     refine gw (Er:=Er) (Iv:=fun(s152:(List (Int×Int))) (W153:Wd) (g154:St)=>g154=[some Z04,some Z0z,some (.int Z0c),some (.int Z0d),some Z0r,some (.ref p3),some (.str (ap a7)),some (.int y38),some (.int (Z0l.1+y38)),some (.int y47),some (.int s65),some (.bl s133),d88,d89]∧Ext W0 W153∧Ow (isT2 K isI isI) W153 p3 s152) (lK (a8 (R:=sh isB) (a:=s133) (v:=.bl s133) rfl)) (yG hq) ?_ ?_ ?_
     ·intro W137 N140 e138 hN141 hq
      have hs142:=e138.g
      have E0:=E0.trans e138
      have hB28:=hB28.trans e138.g
      have Z00:=yE (R:=(isT3 K isS isS isI)) e138.g Z00
      have Z09:=yE (R:=(isT3 K isS isS isS)) e138.g Z09
      have Z07:=yE (R:=(isT2 K isI isI)) e138.g Z07
      have o90:=o90.mono e138
      refine fH (Er:=Er) o90 (eE (K:=K) (a8 (R:=sh isI) (a:=(Z0l.1+y38)) (v:=.int (Z0l.1+y38)) rfl) (a8 (R:=sh isI) (a:=y47) (v:=.int y47) rfl)) ((yG hq).imp fun y146 hq W143 mu144 o145=>?_)
      have E0:=mu144.e _ E0 fr6
      have hB28:=hB28.trans mu144.g
      have hs142:=hs142.trans mu144.g
      have Z00:=yE (R:=(isT3 K isS isS isI)) mu144.g Z00
      have Z09:=yE (R:=(isT3 K isS isS isS)) mu144.g Z09
      have Z07:=yE (R:=(isT2 K isI isI)) mu144.g Z07
      exact hN141 y146 W143 _ hs142 ⟨rfl,E0,o145⟩ hq
     ·intro W137 N140 e138 hN141 hq
      have hs147:=e138.g
      have E0:=E0.trans e138
      have hB28:=hB28.trans e138.g
      have Z00:=yE (R:=(isT3 K isS isS isI)) e138.g Z00
      have Z09:=yE (R:=(isT3 K isS isS isS)) e138.g Z09
      have Z07:=yE (R:=(isT2 K isI isI)) e138.g Z07
      have o90:=o90.mono e138
      try dsimp only[aE]
      exact hN141 s8 W137 _ hs147 ⟨rfl,E0,o90⟩ hq
     ·intro s148 W149 sg150 hS151 iv hq
      obtain⟨rfl,E0,o155⟩:=iv
      have hB28:=hB28.trans hS151
      have Z00:=yE (R:=(isT3 K isS isS isI)) hS151 Z00
      have Z09:=yE (R:=(isT3 K isS isS isS)) hS151 Z09
      have Z07:=yE (R:=(isT2 K isI isI)) hS151 Z07
      try dsimp only
      refine cR (W:=W149) s148 hB28 ?_ hq
      exact⟨_,_,_,_,_,_,_,_,rfl,E0,o155⟩
  ·intro s156 W157 sg158 hS159 iv hq
   obtain⟨d13,d14,d15,d16,d17,d18,d19,d20,rfl,E0,o12⟩:=iv
   exact⟨.ref p3,rfl,hq p3 W157 E0 fr6 o12⟩
theorem yp {f:Addr} {fd:zu} (F:Fun K "_law_reach" "_law_reach" (tp 43) f fd) {jR:(Tx×Tx×Int)→(Tx×Tx×Tx)→Int→Int→(Int×Int)→Res (List (Int×Int))} (Z3A:Cal P w K mg base "_law_next" ["_law_card_here","_law_mark","_law_loose","_law_bound","_law_state"] (3) (iT (isT3 K isS isS isI) (isT3 K isS isS isS) isI isI (isT2 K isI isI) (ro (isT2 K isI isI)) jR)) (h_len:mg "len" =none) (h_list:mg "list" =none) (h_sorted:mg "sorted" =none):FnOk P w K mg base CX0 (4) f fd ["_law_card_here","_law_strip","_law_loose","_law_bound"] (gL (isT3 K isS isS isI) (isL (isT3 K isS isS isS)) isI isI (ro (isL (isT2 K isI isI))) (xj jR)):=by
 have SC:FnScope ["_law_card_here","_law_strip","_law_loose","_law_bound","_law_out","_law_mark","_law_known","_law_state","_law_after"] ["_law_card_here","_law_strip","_law_loose","_law_bound"] (defScope (tp 43)):=⟨rfl,rfl,rfl,by decide +kernel,rfl,by decide +kernel,by decide +kernel⟩
 refine F.ok SC (fun vs H Q E h=>?_) (fun cdv A outer s H vs Q E hr h=>?_)
 ·obtain⟨_,_,_,_,_,_,_,_,_,_,rfl,_⟩:=h;rfl
 ·obtain⟨W0,Z03,Z0S,Z0c,Z0d,Z04,Z0y,_,_,rfl,rfl,Z00,Z0A,Z4M,Z4N,Er,hq⟩:=h
  cases Z4M
  cases Z4N
  refine⟨_,(af (am (i:=4) SC.nd rfl (by first | exact yY rfl | exact yX rfl) (cB (a5 (cB (a5 (bL (a5 aa (a5 aa ae))) ae)) ae)))
   (af (cF zS rfl (cC (K:=K) rfl (pv 1)) (aq (i:=5) SC.nd rfl (by first | exact yY rfl | exact yX rfl)) (af (am (i:=6) SC.nd rfl (by first | exact yY rfl | exact yX rfl) rd)
   (af (cF zS rfl (cC (K:=K) rfl (ax (cu (K:=K) rfl) (pv 4) (my jm aa) (fun _ _=>rfl))) (aq (i:=7) SC.nd rfl (by first | exact yY rfl | exact yX rfl)) (ag (cF zS rfl (cC (K:=K) rfl (ar Z3A (hr.mono (by decide)) (by rfl) (a5 (pv 0) (a5 (pv 5) (a5 (pv 2) (a5 (pv 3) (a5 (pv 7) ae))))))) (aq (i:=8) SC.nd rfl (by first | exact yY rfl | exact yX rfl)) (ag (re (pR hr) (pv 6) (pv 8) fw rfl)))))
   (af (cP (bH (K:=K) rfl (pv 4) (a5 (aK (m7 (K:=K) rfl) (by rfl) h_sorted BZ (a5 (dR (m6 rfl) (by rfl) h_list Bs (a5 (pv 6) ae)) ae)) ae)))
   (ag (bq (aA bE (aK oO (by rfl) h_len PySem.boot_len (a5 (pv 6) ae)) aa (ay _)) (ag (aB (pv 4))) aM))))))
   (ag (aB (pv 4))))),?_⟩
  have E0:Ext W0 W0:=.refl W0
  rw[show L2.start ["_law_card_here","_law_strip","_law_loose","_law_bound","_law_out","_law_mark","_law_known","_law_state","_law_after"] [Z04,Z0y,.int Z0c,.int Z0d]=[some Z04,some Z0y,some (.int Z0c),some (.int Z0d),none,none,none,none,none]from rfl]
  unfold xj at hq
  refine cJ (Er:=Er) (i:=4) (σ':=fun p3=>[some Z04,some Z0y,some (.int Z0c),some (.int Z0d),some (.ref p3),none,none,none,none]) (fG (bJ (Bt (fG (bJ (eE (K:=K) ai ai) (fF (R:=(isT2 K isI isI)))))) (fF (R:=(isL (isT2 K isI isI)))))) (fun p3 W1 e2 hp4 o5=>?_)
  have fr6:=none_of E0.h hp4
  have E0:=E0.trans e2
  have Z00:=yE (R:=(isT3 K isS isS isI)) e2.g Z00
  have Z0A:=yE (R:=(isL (isT3 K isS isS isS))) e2.g Z0A
  refine jb (Er:=Er) (f:=(vG jR Z03 Z0c Z0d)) (s0:=[[((0:Int),(0:Int))]]) (Iv:=fun(s9:(List (List (Int×Int)))) (W10:Wd) (g11:St)=>∃(d13:Option V) (d14:Option V) (d15:Option V) (d16:Option V),g11=[some Z04,some Z0y,some (.int Z0c),some (.int Z0d),some (.ref p3),d16,d13,d14,d15]∧Ext W0 W10∧Ow (isL (isT2 K isI isI)) W10 p3 s9) (d3 (a8 (R:=sh (isL (isT3 K isS isS isS))) Z0A)) (yG hq) ?_ ?_ ?_
  ·intro W28 e29
   have E0:=E0.trans e29
   have Z00:=yE (R:=(isT3 K isS isS isI)) e29.g Z00
   have o5:=o5.mono e29
   exact⟨_,_,_,_,rfl,E0,o5⟩
  ·intro Wb17 W18 W19 a7 v20 s8 sg21 P22 hW23 hB24 iv e25 h26 hrt27 hq
   obtain⟨d13,d14,d15,d16,rfl,E0,o12⟩:=iv
   have Z00:=yE (R:=(isT3 K isS isS isI)) hW23 Z00
   have E0:=E0.trans e25
   have hB24:=hB24.trans e25.g
   have Z00:=yE (R:=(isT3 K isS isS isI)) e25.g Z00
   have o12:=o12.mono e25
   refine gn (σ':=[some Z04,some Z0y,some (.int Z0c),some (.int Z0d),some (.ref p3),some v20,d13,d14,d15]) ?_
   unfold vG at hq
   refine oP (Er:=Er) (i:=6) (σ':=fun p34=>[some Z04,some Z0y,some (.int Z0c),some (.int Z0d),some (.ref p3),some v20,some (.ref p34),d14,d15]) (rh (prog:=P) (w:=w) (K:=K) (R:=isB)) (fun p34 W32 e33 hp35 o36=>?_)
   have ne37:=o12.ne hp35
   have fr38:=none_of E0.h hp35
   have E0:=E0.trans e33
   have hB24:=hB24.trans e33.g
   have Z00:=yE (R:=(isT3 K isS isS isI)) e33.g Z00
   have o12:=o12.mono e33
   have h26:=yE (R:=(isT3 K isS isS isS)) e33.g h26
   refine cQ (Er:=Er) (f:=(wJ jR Z03 Z0c Z0d a7)) (s0:=([]:List ((Int×Int)×Bool))) (Iv:=fun(s41:(List ((Int×Int)×Bool))) (W42:Wd) (g43:St)=>∃(d45:Option V) (d46:Option V),g43=[some Z04,some Z0y,some (.int Z0c),some (.int Z0d),some (.ref p3),some v20,some (.ref p34),d46,d45]∧Ext W0 W42∧OwP P w K isB W42 p34 s41∧Ow (isL (isT2 K isI isI)) W42 p3 s8) (d3 (eW (eD o12) (jA ai))) (yG hq) ?_ ?_ ?_
   ·intro W59 e60
    have E0:=E0.trans e60
    have hB24:=hB24.trans e60.g
    have Z00:=yE (R:=(isT3 K isS isS isI)) e60.g Z00
    have o12:=o12.mono e60
    have h26:=yE (R:=(isT3 K isS isS isS)) e60.g h26
    have o36:=o36.mono e60
    exact⟨_,_,rfl,E0,o36,o12⟩
   ·intro Wb48 W49 W50 a39 v51 s40 sg52 P53 hW54 hB55 iv e56 h57 hq
    obtain⟨d45,d46,rfl,E0,o44,o47⟩:=iv
    have hB24:=hB24.trans hW54
    have Z00:=yE (R:=(isT3 K isS isS isI)) hW54 Z00
    have h26:=yE (R:=(isT3 K isS isS isS)) hW54 h26
    have E0:=E0.trans e56
    have hB24:=hB24.trans e56.g
    have hB55:=hB55.trans e56.g
    have Z00:=yE (R:=(isT3 K isS isS isI)) e56.g Z00
    have o47:=o47.mono e56
    have h26:=yE (R:=(isT3 K isS isS isS)) e56.g h26
    have o44:=o44.mono e56
    refine gn (σ':=[some Z04,some Z0y,some (.int Z0c),some (.int Z0d),some (.ref p3),some v20,some (.ref p34),some v51,d45]) ?_
    unfold wJ at hq
    refine jF (Er:=Er) (f:=vF) (s0:=s40) (Iv:=fun(s65:(List ((Int×Int)×Bool))) (W66:Wd) (g67:St)=>∃(d69:Option V),g67=[some Z04,some Z0y,some (.int Z0c),some (.int Z0d),some (.ref p3),some v20,some (.ref p34),some v51,d69]∧Ext W0 W66∧OwP P w K isB W66 p34 s65∧Ow (isL (isT2 K isI isI)) W66 p3 s8) (d3 (Bt (gu (a8 (R:=sh (isT3 K isS isS isI)) Z00) (a8 (R:=sh (isT3 K isS isS isS)) h26) (a8 (R:=sh isI) (a:=Z0c) (v:=.int Z0c) rfl) (a8 (R:=sh isI) (a:=Z0d) (v:=.int Z0d) rfl) (a8 (R:=sh (isT2 K isI isI)) h57)))) (yG hq) ?_ ?_ ?_
    ·intro W82 e83
     have E0:=E0.trans e83
     have hB24:=hB24.trans e83.g
     have hB55:=hB55.trans e83.g
     have Z00:=yE (R:=(isT3 K isS isS isI)) e83.g Z00
     have o47:=o47.mono e83
     have h26:=yE (R:=(isT3 K isS isS isS)) e83.g h26
     have o44:=o44.mono e83
     have h57:=yE (R:=(isT2 K isI isI)) e83.g h57
     exact⟨_,rfl,E0,o44,o47⟩
    ·intro Wb71 W72 W73 a63 v74 s64 sg75 P76 hW77 hB78 iv e79 h80 hq
     obtain⟨d69,rfl,E0,o68,o70⟩:=iv
     have hB24:=hB24.trans hW77
     have hB55:=hB55.trans hW77
     have Z00:=yE (R:=(isT3 K isS isS isI)) hW77 Z00
     have h26:=yE (R:=(isT3 K isS isS isS)) hW77 h26
     have h57:=yE (R:=(isT2 K isI isI)) hW77 h57
     have E0:=E0.trans e79
     have hB24:=hB24.trans e79.g
     have hB55:=hB55.trans e79.g
     have hB78:=hB78.trans e79.g
     have Z00:=yE (R:=(isT3 K isS isS isI)) e79.g Z00
     have o70:=o70.mono e79
     have h26:=yE (R:=(isT3 K isS isS isS)) e79.g h26
     have o68:=o68.mono e79
     have h57:=yE (R:=(isT2 K isI isI)) e79.g h57
     refine gn (σ':=[some Z04,some Z0y,some (.int Z0c),some (.int Z0d),some (.ref p3),some v20,some (.ref p34),some v51,some v74]) ?_
     unfold vF at hq
     refine rj (Er:=Er) o68 pV (a8 (R:=sh (isT2 K isI isI)) h80) ((yG hq).imp fun y89 hq W86 mu87 o88=>?_)
     have E0:=mu87.e _ E0 fr38
     have hB24:=hB24.trans mu87.g
     have hB55:=hB55.trans mu87.g
     have hB78:=hB78.trans mu87.g
     have Z00:=yE (R:=(isT3 K isS isS isI)) mu87.g Z00
     have o70:=mu87.ow ne37 o70
     have h26:=yE (R:=(isT3 K isS isS isS)) mu87.g h26
     have h57:=yE (R:=(isT2 K isI isI)) mu87.g h57
     have h80:=yE (R:=(isT2 K isI isI)) mu87.g h80
     try dsimp only
     refine cR (W:=W86) y89 hB78 ?_ hq
     exact⟨_,rfl,E0,o88,o70⟩
    ·intro s91 W92 sg93 hS94 iv hq
     obtain⟨d69,rfl,E0,o68,o70⟩:=iv
     have hB24:=hB24.trans hS94
     have hB55:=hB55.trans hS94
     have Z00:=yE (R:=(isT3 K isS isS isI)) hS94 Z00
     have h26:=yE (R:=(isT3 K isS isS isS)) hS94 h26
     have h57:=yE (R:=(isT2 K isI isI)) hS94 h57
     try dsimp only
     refine cR (W:=W92) s91 hB55 ?_ hq
     exact⟨_,_,rfl,E0,o68,o70⟩
   ·intro s96 W97 sg98 hS99 iv hq
    obtain⟨d45,d46,rfl,E0,o44,o47⟩:=iv
    have hB24:=hB24.trans hS99
    have Z00:=yE (R:=(isT3 K isS isS isI)) hS99 Z00
    have h26:=yE (R:=(isT3 K isS isS isS)) hS99 h26
    refine kG (Er:=Er) o47 (Bt (rl (F7 (rk o44)))) ((yG hq).imp fun y103 hq W100 mu101 o102=>?_)
    have E0:=mu101.e _ E0 fr6
    have hB24:=hB24.trans mu101.g
    have Z00:=yE (R:=(isT3 K isS isS isI)) mu101.g Z00
    have h26:=yE (R:=(isT3 K isS isS isS)) mu101.g h26
    have o44:=mu101.owP (AZ ne37) o44
    refine wt (Er:=Er) (aI (cw (tJ o44) ai)) (fun W105 e106=>?_)
    have E0:=E0.trans e106
    have hB24:=hB24.trans e106.g
    have Z00:=yE (R:=(isT3 K isS isS isI)) e106.g Z00
    have h26:=yE (R:=(isT3 K isS isS isS)) e106.g h26
    have o44:=o44.mono e106
    have o102:=o102.mono e106
    by_cases hb106:(decide ((s96.length:Int)=(0:Int)))=true
    ·rw[if_pos hb106]at hq ⊢
     exact⟨.ref p3,rfl,(hrt27 _ hq) p3 W105 E0 fr6 o102⟩
    ·rw[if_neg hb106]at hq ⊢
     try dsimp only[aE]
     try dsimp only
     refine cR (W:=W105) y103 hB24 ?_ hq
     exact⟨_,_,_,_,rfl,E0,o102⟩
  ·intro s107 W108 sg109 hS110 iv hq
   obtain⟨d13,d14,d15,d16,rfl,E0,o12⟩:=iv
   exact⟨.ref p3,rfl,hq p3 W108 E0 fr6 o12⟩
theorem yq {f:Addr} {fd:zu} (F:Fun K "within" "within" (tp 18) f fd) (h_abs:mg "abs" =none):FnOk P w K mg base CX0 (1) f fd ["state","loose","bound"] (dE (isT2 K isI isI) isI isI (rs isB) (xk)):=by
 have SC:FnScope ["state","loose","bound","twist","idle"] ["state","loose","bound"] (defScope (tp 18)):=⟨rfl,rfl,rfl,by decide +kernel,rfl,by decide +kernel,by decide +kernel⟩
 refine F.ok SC (fun vs H Q E h=>?_) (fun cdv A outer s H vs Q E hr h=>?_)
 ·obtain⟨_,_,_,_,_,_,_,_,rfl,_⟩:=h;rfl
 ·obtain⟨W0,state,loose,bound,Z0H,_,_,rfl,rfl,Z23,Z24,Z25,Er,hq⟩:=h
  cases Z24
  cases Z25
  refine⟨_,(af (ei (pv 0) (bU (K:=K) (n:=2) rfl rfl (az (aq (i:=3) SC.nd rfl (by first | exact yY rfl | exact yX rfl)) (az (aq (i:=4) SC.nd rfl (by first | exact yY rfl | exact yX rfl)) bR))))
   (ag (aB (gi (cx mG (aK hV (by rfl) h_abs Ct (a5 (pv 3) ae)) (pv 2) (ay _)) (gh (cx mG (pv 4) (pv 1) (ay _))))))),?_⟩
  have E0:Ext W0 W0:=.refl W0
  rw[show L2.start ["state","loose","bound","twist","idle"] [Z0H,.int loose,.int bound]=[some Z0H,some (.int loose),some (.int bound),none,none]from rfl]
  unfold xk at hq
  refine dW (Er:=Er) (R:=sh (isT2 K isI isI)) (a8 (R:=sh (isT2 K isI isI)) Z23) (fun v1 W2 e3 h4=>?_)
  have E0:=E0.trans e3
  refine iU (σ':=fun v5 v7=>[some Z0H,some (.int loose),some (.int bound),some v5,some v7]) h4 fun v5 v7 h6 h8=>?_
  cases h6
  cases h8
  exact bh (Er:=Er) (R:=sh isB) (q0 (cH (lL (a8 (R:=sh isI) (a:=state.1) (v:=.int state.1) rfl)) (a8 (R:=sh isI) (a:=bound) (v:=.int bound) rfl)) (cH (a8 (R:=sh isI) (a:=state.2) (v:=.int state.2) rfl) (a8 (R:=sh isI) (a:=loose) (v:=.int loose) rfl))) (zB hq fun y9 hq v10 W11 e12 h13=>hq v10 W11 (E0.trans e12) h13)
theorem yr {f:Addr} {fd:zu} (F:Fun K "twisting" "twisting" (tp 6) f fd) {Z26:Addr} (Z6w:mg "STEPS" =some (.ref Z26)) (Z6x:DictK K w Z26 [(Bg (yO "f"),.int (1)),(Bg (yO "b"),.int (-1)),(Bg (yO "i"),.int (0))]):FnOk P w K mg base CX0 (1) f fd ["tablet","turn"] (bu (isT3 K isS isS isI) isS (rs isI) (xl)):=by
 have SC:FnScope ["tablet","turn","step"] ["tablet","turn"] (defScope (tp 6)):=⟨rfl,rfl,rfl,by decide +kernel,rfl,by decide +kernel,by decide +kernel⟩
 refine F.ok SC (fun vs H Q E h=>?_) (fun cdv A outer s H vs Q E hr h=>?_)
 ·obtain⟨_,_,_,_,_,_,rfl,_⟩:=h;rfl
 ·obtain⟨W0,tablet,turn,Z0b,_,rfl,rfl,Z0e,Z2P,Er,hq⟩:=h
  cases Z2P
  refine⟨_,(af (am (i:=2) SC.nd rfl (by first | exact yY rfl | exact yX rfl) (j8 (K:=K) (w:=w) rfl rfl (df (v:=.ref _) (by rfl) Z6w rfl) (pv 1) (fun _ _=>rfl)))
   (ag (aB (dP (aA bE (ax (aJ (K:=K) rfl) (pv 0) aa (fun _ _=>rfl)) aX (ay _)) (pv 2) (my jm (pv 2)))))),?_⟩
  have E0:Ext W0 W0:=.refl W0
  rw[show L2.start ["tablet","turn","step"] [Z0b,.str (ap turn)]=[some Z0b,some (.str (ap turn)),none]from rfl]
  unfold xl at hq
  refine ao (Er:=Er) (i:=2) (R:=sh isI) (σ':=fun v4=>[some Z0b,some (.str (ap turn)),some v4]) (oi Z6x (by decide +kernel) (a8 (R:=sh isS) (a:=turn) (v:=.str (ap turn)) rfl)) ((yG hq).imp fun y3 hq v4 W1 e2 h5=>?_)
  cases h5
  have E0:=E0.trans e2
  have Z0e:=yE (R:=(isT3 K isS isS isI)) e2.g Z0e
  exact bh (Er:=Er) (R:=sh isI) (kF (aI (eV (aT (f:=fun(b:Tx×Tx×Int)=>b.1) jB (a8 (R:=sh (isT3 K isS isS isI)) Z0e)) (aZ (x:=yO "S") (l:=[83]) (eQ _ _ (by decide +kernel))))) (a8 (R:=sh isI) (a:=y3) (v:=.int y3) rfl) (jA (a8 (R:=sh isI) (a:=y3) (v:=.int y3) rfl))) (zB hq fun y6 hq v7 W8 e9 h10=>hq v7 W8 (E0.trans e9) h10)
theorem yt {f:Addr} {fd:zu} (F:Fun K "state_behind" "state_behind" (tp 17) f fd) {m8:(Tx×Tx×Int)→Tx→Res Int} (Z1r:Cal P w K mg base "twisting" ["tablet","turn"] (1) (bu (isT3 K isS isS isI) isS (rs isI) m8)):FnOk P w K mg base CX0 (2) f fd ["tablet","state","turn"] (dE (isT3 K isS isS isI) (isT2 K isI isI) isS (rs (isT2 K isI isI)) (xm m8)):=by
 have SC:FnScope ["tablet","state","turn","twist","idle"] ["tablet","state","turn"] (defScope (tp 17)):=⟨rfl,rfl,rfl,by decide +kernel,rfl,by decide +kernel,by decide +kernel⟩
 refine F.ok SC (fun vs H Q E h=>?_) (fun cdv A outer s H vs Q E hr h=>?_)
 ·obtain⟨_,_,_,_,_,_,_,_,rfl,_⟩:=h;rfl
 ·obtain⟨W0,tablet,state,turn,Z0b,Z0H,_,rfl,rfl,Z0e,Z23,Z2P,Er,hq⟩:=h
  cases Z2P
  refine⟨_,(af (ei (pv 1) (bU (K:=K) (n:=2) rfl rfl (az (aq (i:=3) SC.nd rfl (by first | exact yY rfl | exact yX rfl)) (az (aq (i:=4) SC.nd rfl (by first | exact yY rfl | exact yX rfl)) bR))))
   (ag (aB (bL (a5 (ah bi (pv 3) (ar Z1r (hr.mono (by decide)) (by rfl) (a5 (pv 0) (a5 (pv 2) ae)))) (a5 (dP (aA bE (pv 2) aX (ay _)) (ah bi (pv 4) aa) aa) ae)))))),?_⟩
  have E0:Ext W0 W0:=.refl W0
  rw[show L2.start ["tablet","state","turn","twist","idle"] [Z0b,Z0H,.str (ap turn)]=[some Z0b,some Z0H,some (.str (ap turn)),none,none]from rfl]
  unfold xm at hq
  refine dW (Er:=Er) (R:=sh (isT2 K isI isI)) (a8 (R:=sh (isT2 K isI isI)) Z23) (fun v1 W2 e3 h4=>?_)
  have E0:=E0.trans e3
  have Z0e:=yE (R:=(isT3 K isS isS isI)) e3.g Z0e
  refine iU (σ':=fun v5 v7=>[some Z0b,some Z0H,some (.str (ap turn)),some v5,some v7]) h4 fun v5 v7 h6 h8=>?_
  cases h6
  cases h8
  exact bh (Er:=Er) (R:=sh (isT2 K isI isI)) (eE (K:=K) (aY (a8 (R:=sh isI) (a:=state.1) (v:=.int state.1) rfl) (aR (a8 (R:=sh (isT3 K isS isS isI)) Z0e) (a8 (R:=sh isS) (a:=turn) (v:=.str (ap turn)) rfl))) (kF (aI (eV (a8 (R:=sh isS) (a:=turn) (v:=.str (ap turn)) rfl) (aZ (x:=yO "i") (l:=[105]) (eQ _ _ (by decide +kernel))))) (aY (a8 (R:=sh isI) (a:=state.2) (v:=.int state.2) rfl) ai) ai)) (zB hq fun y12 hq v13 W14 e15 h16=>hq v13 W14 (E0.trans e15) h16)
theorem yu {f:Addr} {fd:zu} (F:Fun K "twisted" "twisted" (tp 16) f fd) {Z27:Tok} (Z1s:mg "HOLES" =some (.int 4 Z27)):FnOk P w K mg base CX0 (1) f fd ["tablet","twist"] (bu (isT3 K isS isS isI) isI (rs (isT3 K isS isS isI)) (xn)):=by
 have SC:FnScope ["tablet","twist","lay","holes","stand"] ["tablet","twist"] (defScope (tp 16)):=⟨rfl,rfl,rfl,by decide +kernel,rfl,by decide +kernel,by decide +kernel⟩
 refine F.ok SC (fun vs H Q E h=>?_) (fun cdv A outer s H vs Q E hr h=>?_)
 ·obtain⟨_,_,_,_,_,_,rfl,_⟩:=h;rfl
 ·obtain⟨W0,tablet,twist,Z0b,_,rfl,rfl,Z0e,Zc0,Er,hq⟩:=h
  cases Zc0
  refine⟨_,(af (ei (pv 0) (bU (K:=K) (n:=3) rfl rfl (az (aq (i:=2) SC.nd rfl (by first | exact yY rfl | exact yX rfl)) (az (aq (i:=3) SC.nd rfl (by first | exact yY rfl | exact yX rfl)) (az (aq (i:=4) SC.nd rfl (by first | exact yY rfl | exact yX rfl)) bR)))))
   (ag (aB (bL (a5 (pv 2) (a5 (pv 3) (a5 (ah aw (dP (aA bE (pv 2) aX (ay _)) (ah bi (pv 4) (pv 1)) (ah gl (pv 4) (pv 1))) (df (v:=.int 4) (by rfl) Z1s ⟨_,rfl⟩)) ae))))))),?_⟩
  have E0:Ext W0 W0:=.refl W0
  rw[show L2.start ["tablet","twist","lay","holes","stand"] [Z0b,.int twist]=[some Z0b,some (.int twist),none,none,none]from rfl]
  unfold xn at hq
  refine dW (Er:=Er) (R:=sh (isT3 K isS isS isI)) (a8 (R:=sh (isT3 K isS isS isI)) Z0e) (fun v1 W2 e3 h4=>?_)
  have E0:=E0.trans e3
  refine sL (σ':=fun v5 v7 v9=>[some Z0b,some (.int twist),some v5,some v7,some v9]) h4 fun v5 v7 v9 h6 h8 h10=>?_
  cases h6
  cases h8
  cases h10
  exact bh (Er:=Er) (R:=sh (isT3 K isS isS isI)) (cz (K:=K) (a8 (R:=sh isS) (a:=tablet.1) (v:=.str (ap tablet.1)) rfl) (a8 (R:=sh isS) (a:=tablet.2.1) (v:=.str (ap tablet.2.1)) rfl) (aj (fun _=>by decide) (kF (aI (eV (a8 (R:=sh isS) (a:=tablet.1) (v:=.str (ap tablet.1)) rfl) (aZ (x:=yO "S") (l:=[83]) (eQ _ _ (by decide +kernel))))) (aY (a8 (R:=sh isI) (a:=tablet.2.2) (v:=.int tablet.2.2) rfl) (a8 (R:=sh isI) (a:=twist) (v:=.int twist) rfl)) (aY (a8 (R:=sh isI) (a:=tablet.2.2) (v:=.int tablet.2.2) rfl) (a8 (R:=sh isI) (a:=twist) (v:=.int twist) rfl))))) (zB hq fun y13 hq v14 W15 e16 h17=>hq v14 W15 (E0.trans e16) h17)
theorem wK {f:Addr} {fd:zu} (F:Fun K "top" "top" (tp 4) f fd) {Z27:Tok} (Z1s:mg "HOLES" =some (.int 4 Z27)):FnOk P w K mg base CX0 (1) f fd ["tablet"] (de (isT3 K isS isS isI) (rs isS) (ny)):=by
 have SC:FnScope ["tablet","lay","holes","stand"] ["tablet"] (defScope (tp 4)):=⟨rfl,rfl,rfl,by decide +kernel,rfl,by decide +kernel,by decide +kernel⟩
 refine F.ok SC (fun vs H Q E h=>?_) (fun cdv A outer s H vs Q E hr h=>?_)
 ·obtain⟨_,_,_,_,rfl,_⟩:=h;rfl
 ·obtain⟨W0,tablet,Z0b,rfl,rfl,Z0e,Er,hq⟩:=h
  refine⟨_,(af (ei (pv 0) (bU (K:=K) (n:=3) rfl rfl (az (aq (i:=1) SC.nd rfl (by first | exact yY rfl | exact yX rfl)) (az (aq (i:=2) SC.nd rfl (by first | exact yY rfl | exact yX rfl)) (az (aq (i:=3) SC.nd rfl (by first | exact yY rfl | exact yX rfl)) bR)))))
   (ag (aB (ax bA (pv 2) (ah aw (pv 3) (df (v:=.int 4) (by rfl) Z1s ⟨_,rfl⟩)) (fun _ _=>rfl))))),?_⟩
  have E0:Ext W0 W0:=.refl W0
  rw[show L2.start ["tablet","lay","holes","stand"] [Z0b]=[some Z0b,none,none,none]from rfl]
  unfold ny at hq
  refine dW (Er:=Er) (R:=sh (isT3 K isS isS isI)) (a8 (R:=sh (isT3 K isS isS isI)) Z0e) (fun v1 W2 e3 h4=>?_)
  have E0:=E0.trans e3
  refine sL (σ':=fun v5 v7 v9=>[some Z0b,some v5,some v7,some v9]) h4 fun v5 v7 v9 h6 h8 h10=>?_
  cases h6
  cases h8
  cases h10
  exact bh (Er:=Er) (R:=sh isS) (bC (a8 (R:=sh isS) (a:=tablet.2.1) (v:=.str (ap tablet.2.1)) rfl) (aj (fun _=>by decide) (a8 (R:=sh isI) (a:=tablet.2.2) (v:=.int tablet.2.2) rfl))) (zB hq fun y11 hq v12 W13 e14 h15=>hq v12 W13 (E0.trans e14) h15)
theorem yv {f:Addr} {fd:zu} (F:Fun K "bottom" "bottom" (tp 5) f fd) {Z27:Tok} (Z1s:mg "HOLES" =some (.int 4 Z27)):FnOk P w K mg base CX0 (1) f fd ["tablet"] (de (isT3 K isS isS isI) (rs isS) (xo)):=by
 have SC:FnScope ["tablet","lay","holes","stand"] ["tablet"] (defScope (tp 5)):=⟨rfl,rfl,rfl,by decide +kernel,rfl,by decide +kernel,by decide +kernel⟩
 refine F.ok SC (fun vs H Q E h=>?_) (fun cdv A outer s H vs Q E hr h=>?_)
 ·obtain⟨_,_,_,_,rfl,_⟩:=h;rfl
 ·obtain⟨W0,tablet,Z0b,rfl,rfl,Z0e,Er,hq⟩:=h
  refine⟨_,(af (ei (pv 0) (bU (K:=K) (n:=3) rfl rfl (az (aq (i:=1) SC.nd rfl (by first | exact yY rfl | exact yX rfl)) (az (aq (i:=2) SC.nd rfl (by first | exact yY rfl | exact yX rfl)) (az (aq (i:=3) SC.nd rfl (by first | exact yY rfl | exact yX rfl)) bR)))))
   (ag (aB (ax bA (pv 2) (ah aw (ah bi (pv 3) aa) (df (v:=.int 4) (by rfl) Z1s ⟨_,rfl⟩)) (fun _ _=>rfl))))),?_⟩
  have E0:Ext W0 W0:=.refl W0
  rw[show L2.start ["tablet","lay","holes","stand"] [Z0b]=[some Z0b,none,none,none]from rfl]
  unfold xo at hq
  refine dW (Er:=Er) (R:=sh (isT3 K isS isS isI)) (a8 (R:=sh (isT3 K isS isS isI)) Z0e) (fun v1 W2 e3 h4=>?_)
  have E0:=E0.trans e3
  refine sL (σ':=fun v5 v7 v9=>[some Z0b,some v5,some v7,some v9]) h4 fun v5 v7 v9 h6 h8 h10=>?_
  cases h6
  cases h8
  cases h10
  exact bh (Er:=Er) (R:=sh isS) (bC (a8 (R:=sh isS) (a:=tablet.2.1) (v:=.str (ap tablet.2.1)) rfl) (aj (fun _=>by decide) (aY (a8 (R:=sh isI) (a:=tablet.2.2) (v:=.int tablet.2.2) rfl) ai))) (zB hq fun y11 hq v12 W13 e14 h15=>hq v12 W13 (E0.trans e14) h15)
theorem yw {f:Addr} {fd:zu} (F:Fun K "left_place" "left_place" (tp 9) f fd) {gd:(Tx×Tx×Int)→Res Tx} {tY:(Tx×Tx×Int)→Res Tx} {m8:(Tx×Tx×Int)→Tx→Res Int} (C_top:Cal P w K mg base "top" ["tablet"] (1) (de (isT3 K isS isS isI) (rs isS) gd)) (Z5w:Cal P w K mg base "bottom" ["tablet"] (1) (de (isT3 K isS isS isI) (rs isS) tY)) (Z1r:Cal P w K mg base "twisting" ["tablet","turn"] (1) (bu (isT3 K isS isS isI) isS (rs isI) m8)) {Z1C:Addr} (Z5x:mg "SLANTS" =some (.ref Z1C)) (Z5y:DictK K w Z1C [(Bf (1),.str (yO "s")),(Bf (-1),.str (yO "z")),(Bf (0),.str (yO "o"))]):FnOk P w K mg base CX0 (2) f fd ["tablet","turn"] (bu (isT3 K isS isS isI) isS (rs (isT3 K isS isS isS)) (xp gd tY m8)):=by
 have SC:FnScope ["tablet","turn"] ["tablet","turn"] (defScope (tp 9)):=⟨rfl,rfl,rfl,by decide +kernel,rfl,by decide +kernel,by decide +kernel⟩
 refine F.ok SC (fun vs H Q E h=>?_) (fun cdv A outer s H vs Q E hr h=>?_)
 ·obtain⟨_,_,_,_,_,_,rfl,_⟩:=h;rfl
 ·obtain⟨W0,tablet,turn,Z0b,_,rfl,rfl,Z0e,Z2P,Er,hq⟩:=h
  cases Z2P
  refine⟨_,(ag (aB (bL (a5 (ar C_top (hr.mono (by decide)) (by rfl) (a5 (pv 0) ae)) (a5 (ar Z5w (hr.mono (by decide)) (by rfl) (a5 (pv 0) ae)) (a5 (j8 (K:=K) (w:=w) rfl rfl (df (v:=.ref _) (by rfl) Z5x rfl) (ar Z1r (hr.mono (by decide)) (by rfl) (a5 (pv 0) (a5 (pv 1) ae))) (fun _ _=>rfl)) ae)))))),?_⟩
  have E0:Ext W0 W0:=.refl W0
  rw[show L2.start ["tablet","turn"] [Z0b,.str (ap turn)]=[some Z0b,some (.str (ap turn))]from rfl]
  unfold xp at hq
  exact bh (Er:=Er) (R:=sh (isT3 K isS isS isS)) (cz (K:=K) (cD (a8 (R:=sh (isT3 K isS isS isI)) Z0e)) (cD (a8 (R:=sh (isT3 K isS isS isI)) Z0e)) (oj Z5y (by decide +kernel) (aR (a8 (R:=sh (isT3 K isS isS isI)) Z0e) (a8 (R:=sh isS) (a:=turn) (v:=.str (ap turn)) rfl)))) (zB hq fun y5 hq v6 W7 e8 h9=>hq v6 W7 (E0.trans e8) h9)
theorem yx {f:Addr} {fd:zu} (F:Fun K "suits" "suits" (tp 13) f fd) {Z8b:Tok} (Z8c:mg "WORN" =some (.str (yO "?") Z8b)):FnOk P w K mg base CX0 (1) f fd ["sign","left"] (bu isS isS (rs isB) (xq)):=by
 have SC:FnScope ["sign","left"] ["sign","left"] (defScope (tp 13)):=⟨rfl,rfl,rfl,by decide +kernel,rfl,by decide +kernel,by decide +kernel⟩
 refine F.ok SC (fun vs H Q E h=>?_) (fun cdv A outer s H vs Q E hr h=>?_)
 ·obtain⟨_,_,_,_,_,_,rfl,_⟩:=h;rfl
 ·obtain⟨W0,sign,left,_,_,rfl,rfl,Zc8,Zc9,Er,hq⟩:=h
  cases Zc8
  cases Zc9
  refine⟨_,(ag (aB (w5 (cx bE (pv 1) (df (v:=.str (yO "?")) (by rfl) Z8c ⟨_,rfl⟩) (ay _)) (gh (cx bE (pv 1) (pv 0) (ay _)))))),?_⟩
  have E0:Ext W0 W0:=.refl W0
  rw[show L2.start ["sign","left"] [.str (ap sign),.str (ap left)]=[some (.str (ap sign)),some (.str (ap left))]from rfl]
  unfold xq at hq
  exact bh (Er:=Er) (R:=sh isB) (wo (eV (a8 (R:=sh isS) (a:=left) (v:=.str (ap left)) rfl) (aZ (x:=yO "?") (l:=[63]) (eQ _ _ (by decide +kernel)))) (eV (a8 (R:=sh isS) (a:=left) (v:=.str (ap left)) rfl) (a8 (R:=sh isS) (a:=sign) (v:=.str (ap sign)) rfl))) (zB hq fun y1 hq v2 W3 e4 h5=>hq v2 W3 (E0.trans e4) h5)
theorem yy {f:Addr} {fd:zu} (F:Fun K "agrees" "agrees" (tp 12) f fd) {sm:Tx→Tx→Res Bool} (Z6z:Cal P w K mg base "suits" ["sign","left"] (1) (bu isS isS (rs isB) sm)) (h_all:mg "all" =none) (h_zip:mg "zip" =none):FnOk P w K mg base CX0 (2) f fd ["place","mark"] (bu (isT3 K isS isS isS) (isT3 K isS isS isS) (rs isB) (xr sm)):=by
 have SC:FnScope ["place","mark"] ["place","mark"] (defScope (tp 12)):=⟨rfl,rfl,rfl,by decide +kernel,rfl,by decide +kernel,by decide +kernel⟩
 refine F.ok SC (fun vs H Q E h=>?_) (fun cdv A outer s H vs Q E hr h=>?_)
 ·obtain⟨_,_,_,_,_,_,rfl,_⟩:=h;rfl
 ·obtain⟨W0,place,mark,Za0,Z0J,rfl,rfl,Zc2,Z1H,Er,hq⟩:=h
  refine⟨_,(ag (aB (aK (oh (K:=K) rfl rfl) (by rfl) h_all G6 (a5 (eA (N:=["sign","left"]) (cap:=[none,none]) (jy rfl (by decide +kernel) rfl (by decide +kernel) (by rfl) (by rfl)) rfl (eB (K:=K) rfl rfl h_zip (a5 (pv 0) (a5 (pv 1) ae))) (fun _ _ _ _=>(bU (K:=K) (n:=2) rfl rfl (az (aq (i:=0) (show AA (["sign","left"]:List Str) by decide +kernel) rfl (by first | exact yY rfl | exact yX rfl)) (az (aq (i:=1) (show AA (["sign","left"]:List Str) by decide +kernel) rfl (by first | exact yY rfl | exact yX rfl)) bR)))) (fun _ _ _ _=>di) (fun _ _ _ _=>(ar Z6z (hr.mono (by decide)) (by rfl) (a5 (pv 0) (a5 (pv 1) ae))))) ae)))),?_⟩
  have E0:Ext W0 W0:=.refl W0
  rw[show L2.start ["place","mark"] [Za0,Z0J]=[some Za0,some Z0J]from rfl]
  unfold xr at hq
  exact bh (Er:=Er) (R:=sh isB) (vf (F7 (eF (f:=fun(a1:Tx×Tx)=>sm a1.1 a1.2) (gv (gN (a8 (R:=sh (isT3 K isS isS isS)) Zc2)) (gN (a8 (R:=sh (isT3 K isS isS isS)) Z1H))) fun W3 a1 v2 e4 h5 Q10 k11=>by
   refine iU h5 fun v6 v8 h7 h9=>?_
   cases h7
   cases h9
   exact⟨by simp[Keep,bB],((aR (a8 (R:=sh isS) (a:=a1.1) (v:=.str (ap a1.1)) rfl) (a8 (R:=sh isS) (a:=a1.2) (v:=.str (ap a1.2)) rfl)):EV Er _ [some (.str (ap a1.1)),some (.str (ap a1.2))] _ _ _) _ (.refl _) _ k11⟩))) (zB hq fun y13 hq v14 W15 e16 h17=>hq v14 W15 (E0.trans e16) h17)
theorem yA {f:Addr} {fd:zu} (F:Fun K "leaves" "leaves" (tp 19) f fd) {u0:(Tx×Tx×Tx)→(Tx×Tx×Tx)→Res Bool} {tZ:(Tx×Tx×Int)→Tx→Res (Tx×Tx×Tx)} {tX:(Tx×Tx×Int)→Int→Res (Tx×Tx×Int)} (Z5z:Cal P w K mg base "agrees" ["place","mark"] (2) (bu (isT3 K isS isS isS) (isT3 K isS isS isS) (rs isB) u0)) (Z2Q:Cal P w K mg base "left_place" ["tablet","turn"] (2) (bu (isT3 K isS isS isI) isS (rs (isT3 K isS isS isS)) tZ)) (Z4O:Cal P w K mg base "twisted" ["tablet","twist"] (1) (bu (isT3 K isS isS isI) isI (rs (isT3 K isS isS isI)) tX)):FnOk P w K mg base CX0 (3) f fd ["tablet","state","turn","mark"] (gL (isT3 K isS isS isI) (isT2 K isI isI) isS (isT3 K isS isS isS) (rs isB) (xt u0 tZ tX)):=by
 have SC:FnScope ["tablet","state","turn","mark"] ["tablet","state","turn","mark"] (defScope (tp 19)):=⟨rfl,rfl,rfl,by decide +kernel,rfl,by decide +kernel,by decide +kernel⟩
 refine F.ok SC (fun vs H Q E h=>?_) (fun cdv A outer s H vs Q E hr h=>?_)
 ·obtain⟨_,_,_,_,_,_,_,_,_,_,rfl,_⟩:=h;rfl
 ·obtain⟨W0,tablet,state,turn,mark,Z0b,Z0H,_,Z0J,rfl,rfl,Z0e,Z23,Z2P,Z1H,Er,hq⟩:=h
  cases Z2P
  refine⟨_,(ag (aB (ar Z5z (hr.mono (by decide)) (by rfl) (a5 (ar Z2Q (hr.mono (by decide)) (by rfl) (a5 (ar Z4O (hr.mono (by decide)) (by rfl) (a5 (pv 0) (a5 (ax (aJ (K:=K) rfl) (pv 1) aa (fun _ _=>rfl)) ae))) (a5 (pv 2) ae))) (a5 (pv 3) ae))))),?_⟩
  have E0:Ext W0 W0:=.refl W0
  rw[show L2.start ["tablet","state","turn","mark"] [Z0b,Z0H,.str (ap turn),Z0J]=[some Z0b,some Z0H,some (.str (ap turn)),some Z0J]from rfl]
  unfold xt at hq
  exact bh (Er:=Er) (R:=sh isB) (aR (aR (aR (a8 (R:=sh (isT3 K isS isS isI)) Z0e) (aT (f:=fun(b:Int×Int)=>b.1) ve (a8 (R:=sh (isT2 K isI isI)) Z23))) (a8 (R:=sh isS) (a:=turn) (v:=.str (ap turn)) rfl)) (a8 (R:=sh (isT3 K isS isS isS)) Z1H)) (zB hq fun y3 hq v4 W5 e6 h7=>hq v4 W5 (E0.trans e6) h7)
theorem yB {f:Addr} {fd:zu} (F:Fun K "onward" "onward" (tp 20) f fd) {sk:(Tx×Tx×Int)→(Int×Int)→Tx→Res (Int×Int)} {l8:(Int×Int)→Int→Int→Res Bool} {rp:(Tx×Tx×Int)→(Int×Int)→Tx→(Tx×Tx×Tx)→Res Bool} (Z28:Cal P w K mg base "state_behind" ["tablet","state","turn"] (2) (dE (isT3 K isS isS isI) (isT2 K isI isI) isS (rs (isT2 K isI isI)) sk)) (Z29:Cal P w K mg base "within" ["state","loose","bound"] (1) (dE (isT2 K isI isI) isI isI (rs isB) l8)) (Z5A:Cal P w K mg base "leaves" ["tablet","state","turn","mark"] (3) (gL (isT3 K isS isS isI) (isT2 K isI isI) isS (isT3 K isS isS isS) (rs isB) rp)) {Z6A:Tok} (Z6B:mg "TURNS" =some (.str (yO "fbi") Z6A)):FnOk P w K mg base CX0 (4) f fd ["tablet","mark","loose","bound","state"] (iT (isT3 K isS isS isI) (isT3 K isS isS isS) isI isI (isT2 K isI isI) (ro (isT2 K isS (isT2 K isI isI))) (xu sk l8 rp)):=by
 have SC:FnScope ["tablet","mark","loose","bound","state","moves"] ["tablet","mark","loose","bound","state"] (defScope (tp 20)):=⟨rfl,rfl,rfl,by decide +kernel,rfl,by decide +kernel,by decide +kernel⟩
 refine F.ok SC (fun vs H Q E h=>?_) (fun cdv A outer s H vs Q E hr h=>?_)
 ·obtain⟨_,_,_,_,_,_,_,_,_,_,_,_,rfl,_⟩:=h;rfl
 ·obtain⟨W0,tablet,mark,loose,bound,state,Z0b,Z0J,_,_,Z0H,rfl,rfl,Z0e,Z1H,Z24,Z25,Z23,Er,hq⟩:=h
  cases Z24
  cases Z25
  refine⟨_,(af (lH (i:=5) SC.nd rfl (by first | exact yY rfl | exact yX rfl) (N:=["turn","tablet","state"]) (cap:=[none,some 0,some 4]) (jy rfl (by decide +kernel) rfl (by decide +kernel) (by rfl) (by rfl)) rfl (i5 (df (v:=.str (yO "fbi")) (by rfl) Z6B ⟨_,rfl⟩)) (fun _ _ _ _=>(aq (i:=0) (show AA (["turn","tablet","state"]:List Str) by decide +kernel) rfl (by first | exact yY rfl | exact yX rfl))) (fun _ _ _ _=>di) (fun _ _ _ _=>(bL (a5 (pv 0) (a5 (ar Z28 (hr.mono (by decide)) (by rfl) (a5 (pv 1) (a5 (pv 2) (a5 (pv 0) ae)))) ae)))))
   (ag (aB (eA (N:=["turn","after","loose","bound","tablet","mark"]) (cap:=[none,none,some 2,some 3,some 0,some 1]) (jy rfl (by decide +kernel) rfl (by decide +kernel) (by rfl) (by rfl)) rfl (cC (K:=K) rfl (pv 5)) (fun _ _ _ _=>(bU (K:=K) (n:=2) rfl rfl (az (aq (i:=0) (show AA (["turn","after","loose","bound","tablet","mark"]:List Str) by decide +kernel) rfl (by first | exact yY rfl | exact yX rfl)) (az (aq (i:=1) (show AA (["turn","after","loose","bound","tablet","mark"]:List Str) by decide +kernel) rfl (by first | exact yY rfl | exact yX rfl)) bR)))) (fun _ _ _ _=>(sE (E9 (eg (cO (ar Z29 (hr.mono (by decide)) (by rfl) (a5 (pv 1) (a5 (pv 2) (a5 (pv 3) ae))))) (dg (cO (ar Z5A (hr.mono (by decide)) (by rfl) (a5 (pv 4) (a5 (pv 1) (a5 (pv 0) (a5 (pv 5) ae))))))))))) (fun _ _ _ _=>(bL (a5 (pv 0) (a5 (pv 1) ae)))))))),?_⟩
  have E0:Ext W0 W0:=.refl W0
  rw[show L2.start ["tablet","mark","loose","bound","state","moves"] [Z0b,Z0J,.int loose,.int bound,Z0H]=[some Z0b,some Z0J,some (.int loose),some (.int bound),some Z0H,none]from rfl]
  unfold xu at hq
  refine ao (Er:=Er) (i:=5) (R:=sh (isL (isT2 K isS (isT2 K isI isI)))) (σ':=fun v16=>[some Z0b,some Z0J,some (.int loose),some (.int bound),some Z0H,some v16]) (Bt (eF (f:=fun(a3:Tx)=>(sk tablet state a3).bind fun y12=>yL (a3,y12)) (im (aZ (x:=yO "fbi") (l:=[102,98,105]) (eQ _ _ (by decide +kernel)))) fun W5 a3 v4 e6 h7 Q13 k14=>by
   have h8:=zJ (R:=sh (isT3 K isS isS isI)) e6 Z0e
   have h9:=zJ (R:=sh (isT2 K isI isI)) e6 Z23
   cases h7
   refine gn ?_
   exact⟨by simp[Keep,bB],((eE (K:=K) (a8 (R:=sh isS) (a:=a3) (v:=.str (ap a3)) rfl) (fR (a8 (R:=sh (isT3 K isS isS isI)) h8) (a8 (R:=sh (isT2 K isI isI)) h9) (a8 (R:=sh isS) (a:=a3) (v:=.str (ap a3)) rfl))):EV Er _ [some (.str (ap a3)),some Z0b,some Z0H] _ _ _) _ (.refl _) _ k14⟩)) ((yG hq).imp fun y15 hq v16 W1 e2 h17=>?_)
  have E0:=E0.trans e2
  have Z0e:=yE (R:=(isT3 K isS isS isI)) e2.g Z0e
  have Z1H:=yE (R:=(isT3 K isS isS isS)) e2.g Z1H
  exact jD (Er:=Er) (qc (f:=fun(a18:Tx×(Int×Int))=>((l8 a18.2 loose bound).bind fun y31=>if y31 then rp tablet a18.2 a18.1 mark else yL false).bind fun y33=>if y33 then yL (some (a18.1,a18.2))else yL none) (d3 (a8 (R:=sh (isL (isT2 K isS (isT2 K isI isI)))) h17)) fun W20 a18 v19 e21 h22 Q29 k30=>by
   have h23:=zJ (R:=sh (isT3 K isS isS isI)) e21 Z0e
   have h24:=zJ (R:=sh (isT3 K isS isS isS)) e21 Z1H
   refine iU h22 fun v25 v27 h26 h28=>?_
   cases h26
   refine⟨by simp[Keep,bB],((fE (lK (fR (a8 (R:=sh (isT2 K isI isI)) h28) (a8 (R:=sh isI) (a:=loose) (v:=.int loose) rfl) (a8 (R:=sh isI) (a:=bound) (v:=.int bound) rfl))) (lK (qb (a8 (R:=sh (isT3 K isS isS isI)) h23) (a8 (R:=sh (isT2 K isI isI)) h28) (a8 (R:=sh isS) (a:=a18.1) (v:=.str (ap a18.1)) rfl) (a8 (R:=sh (isT3 K isS isS isS)) h24)))):TV Er _ [some (.str (ap a18.1)),some v27,some (.int loose),some (.int bound),some Z0b,some Z0J] _ _) _ (.refl _) _ (zB (P:=fun b32=>(if b32=true then yL (some (a18.1,a18.2))else yL none:Res (Option (Tx×(Int×Int)))).OkE Er _) (yG k30) fun b32 k36 W34 e35=>?_)⟩
   cases b32 with
   | false=>exact k36 none _ e35 trivial
   | true =>
    rw[if_pos rfl]
    refine EV.go (Er:=Er) (σ:=[some (.str (ap a18.1)),some v27,some (.int loose),some (.int bound),some Z0b,some Z0J]) (W1:=W34) e35 (eE (K:=K) (a8 (R:=sh isS) (a:=a18.1) (v:=.str (ap a18.1)) rfl) (a8 (R:=sh (isT2 K isI isI)) h28)) ?_
    exact fun u39 W37 e38 h40=>k36 (some u39) _ (e35.trans e38) h40) (zB hq fun y42 hq p43 W44 e45 hp46 o47=>hq p43 W44 (E0.trans e45) (none_of E0.h hp46) o47)
theorem yC {f:Addr} {fd:zu} (F:Fun K "states_behind" "states_behind" (tp 22) f fd) {rq:(Tx×Tx×Int)→(Tx×Tx×Tx)→Int→Int→(Int×Int)→Res (List (Tx×(Int×Int)))} (Z5B:Cal P w K mg base "onward" ["tablet","mark","loose","bound","state"] (4) (iT (isT3 K isS isS isI) (isT3 K isS isS isS) isI isI (isT2 K isI isI) (ro (isT2 K isS (isT2 K isI isI))) rq)) (h_sorted:mg "sorted" =none):FnOk P w K mg base CX0 (5) f fd ["tablet","mark","loose","bound","states"] (iT (isT3 K isS isS isI) (isT3 K isS isS isS) isI isI (isL (isT2 K isI isI)) (ro (isT2 K isI isI)) (xv rq)):=by
 have SC:FnScope ["tablet","mark","loose","bound","states"] ["tablet","mark","loose","bound","states"] (defScope (tp 22)):=⟨rfl,rfl,rfl,by decide +kernel,rfl,by decide +kernel,by decide +kernel⟩
 refine F.ok SC (fun vs H Q E h=>?_) (fun cdv A outer s H vs Q E hr h=>?_)
 ·obtain⟨_,_,_,_,_,_,_,_,_,_,_,_,rfl,_⟩:=h;rfl
 ·obtain⟨W0,tablet,mark,loose,bound,states,Z0b,Z0J,_,_,Z8d,rfl,rfl,Z0e,Z1H,Z24,Z25,ZbH,Er,hq⟩:=h
  cases Z24
  cases Z25
  refine⟨_,(ag (aB (aK (jQ rfl) (by rfl) h_sorted BZ (a5 (oJ (pR hr) (N:=["state","turn","after","tablet","mark","loose","bound"]) (cap:=[none,none,none,some 0,some 1,some 2,some 3]) (jy rfl (by decide +kernel) rfl (by decide +kernel) (by rfl) (by rfl)) rfl (cC (K:=K) rfl (pv 4)) (fun _ _ _ _=>(aq (i:=0) (show AA (["state","turn","after","tablet","mark","loose","bound"]:List Str) by decide +kernel) rfl (by first | exact yY rfl | exact yX rfl))) (fun _ _ _ _=>di) (fun _ _ _ _=>(cC (K:=K) rfl (ar Z5B (hr.mono (by decide)) (by rfl) (a5 (pv 3) (a5 (pv 4) (a5 (pv 5) (a5 (pv 6) (a5 (pv 0) ae)))))))) (fun _ _ _ _=>(bU (K:=K) (n:=2) rfl rfl (az (aq (i:=1) (show AA (["state","turn","after","tablet","mark","loose","bound"]:List Str) by decide +kernel) rfl (by first | exact yY rfl | exact yX rfl)) (az (aq (i:=2) (show AA (["state","turn","after","tablet","mark","loose","bound"]:List Str) by decide +kernel) rfl (by first | exact yY rfl | exact yX rfl)) bR)))) (fun _ _ _ _=>di) (fun _ _ _ _=>(pv 2))) ae)))),?_⟩
  have E0:Ext W0 W0:=.refl W0
  rw[show L2.start ["tablet","mark","loose","bound","states"] [Z0b,Z0J,.int loose,.int bound,Z8d]=[some Z0b,some Z0J,some (.int loose),some (.int bound),some Z8d]from rfl]
  unfold xv at hq
  exact jD (Er:=Er) (qU (f:=fun(a6:Int×Int) (s8:List (Int×Int))=>(rq tablet mark loose bound a6).bind fun y36=>bF (fun(a20:Tx×(Int×Int)) (s22:List (Int×Int))=>kO s22 a20.2) y36 s8) (d3 (a8 (R:=sh (isL (isT2 K isI isI))) ZbH)) (fun W1 D2 W5 a6 v7 s8 M9 hS10 e3 h4 e11 o12 h13 k14=>by
   have h15:=yE (R:=(isT3 K isS isS isI)) hS10 Z0e
   have h16:=yE (R:=(isT3 K isS isS isS)) hS10 Z1H
   refine gn ?_
   exact⟨by simp[Keep,bB],wx (((vk (f:=fun(a20:Tx×(Int×Int)) (s22:List (Int×Int))=>kO s22 a20.2) e11 (d3 (Bt (gu (a8 (R:=sh (isT3 K isS isS isI)) h15) (a8 (R:=sh (isT3 K isS isS isS)) h16) (a8 (R:=sh isI) (a:=loose) (v:=.int loose) rfl) (a8 (R:=sh isI) (a:=bound) (v:=.int bound) rfl) (a8 (R:=sh (isT2 K isI isI)) h13)))) (fun _ _ _ e o=>o.mono e) (fun W19 a20 v21 s22 M23 hS24 e25 o26 h27 k28=>by
    have h29:=yE (R:=(isT3 K isS isS isI)) hS24 h15
    have h30:=yE (R:=(isT3 K isS isS isS)) hS24 h16
    have h31:=yE (R:=(isT2 K isI isI)) hS24 h13
    refine iU h27 fun v32 v34 h33 h35=>?_
    cases h33
    exact⟨by simp[Keep,bB],wx (((vB e25 h4 (a8 (R:=sh (isT2 K isI isI)) h35)):BV Er _ [some v7,some (.str (ap a20.1)),some v34,some Z0b,some Z0J,some (.int loose),some (.int bound)] _ _ _ _ _) _ _ _ (.refl _) o26 k28)⟩)):BV Er _ [some v7,none,none,some Z0b,some Z0J,some (.int loose),some (.int bound)] _ _ _ _ _) _ _ _ (.refl _) o12 k14)⟩)) (zB hq fun y38 hq p39 W40 e41 hp42 o43=>hq p39 W40 (E0.trans e41) (none_of E0.h hp42) o43)
theorem yD {f:Addr} {fd:zu} (F:Fun K "search" "search" (tp 21) f fd) {l8:(Int×Int)→Int→Int→Res Bool} {m9:(Tx×Tx×Int)→(Tx×Tx×Tx)→Int→Int→(List (Int×Int))→Res (List (Int×Int))} (Z29:Cal P w K mg base "within" ["state","loose","bound"] (1) (dE (isT2 K isI isI) isI isI (rs isB) l8)) (Z1I:Cal P w K mg base "states_behind" ["tablet","mark","loose","bound","states"] (5) (iT (isT3 K isS isS isI) (isT3 K isS isS isS) isI isI (isL (isT2 K isI isI)) (ro (isT2 K isI isI)) m9)) {Z2J:Addr} (Z5g:mg "START" =some (.ref Z2J)) (Z5h:∀H,SqT K H Z2J [.int (0),.int (0)]):FnOk P w K mg base CX0 (6) f fd ["tablet","strip","loose","bound"] (gL (isT3 K isS isS isI) (isL (isT3 K isS isS isS)) isI isI (wS (oL (oL (fz (isT2 K isI isI))))) (xw l8 m9)):=by
 have SC:FnScope ["tablet","strip","loose","bound","lists","mark"] ["tablet","strip","loose","bound"] (defScope (tp 21)):=⟨rfl,rfl,rfl,by decide +kernel,rfl,by decide +kernel,by decide +kernel⟩
 refine F.ok SC (fun vs H Q E h=>?_) (fun cdv A outer s H vs Q E hr h=>?_)
 ·obtain⟨_,_,_,_,_,_,_,_,_,_,rfl,_⟩:=h;rfl
 ·obtain⟨W0,tablet,strip,loose,bound,Z0b,Z3Z,_,_,rfl,rfl,Z0e,Z6C,Z24,Z25,Er,hq⟩:=h
  cases Z24
  cases Z25
  refine⟨_,(af (am (i:=4) SC.nd rfl (by first | exact yY rfl | exact yX rfl) (cB (a5 (dP (cO (ar Z29 (hr.mono (by decide)) (by rfl) (a5 (df (v:=.ref _) (by rfl) Z5g rfl) (a5 (pv 2) (a5 (pv 3) ae))))) (cB (a5 (df (v:=.ref _) (by rfl) Z5g rfl) ae)) (cB ae)) ae)))
   (af (cF zS rfl (cC (K:=K) rfl (pv 1)) (aq (i:=5) SC.nd rfl (by first | exact yY rfl | exact yX rfl)) (af (bq (aA (vC hr.units0) (ax (cu (K:=K) rfl) (pv 4) (my jm aa) (fun _ _=>rfl)) (cB ae) (ay _)) (ag (aB (pv 4))) aM)
   (ag (cP (bH (K:=K) rfl (pv 4) (a5 (ar Z1I (hr.mono (by decide)) (by rfl) (a5 (pv 0) (a5 (pv 5) (a5 (pv 2) (a5 (pv 3) (a5 (ax (cu (K:=K) rfl) (pv 4) (my jm aa) (fun _ _=>rfl)) ae)))))) ae))))))
   (ag (aB (pv 4))))),?_⟩
  have E0:Ext W0 W0:=.refl W0
  rw[show L2.start ["tablet","strip","loose","bound","lists","mark"] [Z0b,Z3Z,.int loose,.int bound]=[some Z0b,some Z3Z,some (.int loose),some (.int bound),none,none]from rfl]
  unfold xw at hq
  have S:Sep W0 W0 []:=Sep.nil
  refine je (Er:=Er) (i:=4) (σ':=fun v4=>[some Z0b,some Z3Z,some (.int loose),some (.int bound),some v4,none]) S E0 (rm (vE (lK (fR (kI Z5h (gI _) (gI _)) (a8 (R:=sh isI) (a:=loose) (v:=.int loose) rfl) (a8 (R:=sh isI) (a:=bound) (v:=.int bound) rfl))) (EVo.tr (fG (bJ (kI Z5h (gI _) (gI _)) (fF (R:=(isT2 K isI isI)))))) (qr (R:=(fz (isT2 K isI isI)))))) ((yG hq).imp fun y3 hq v4 W5 e6 S=>?_)
  have E0:=E0.trans e6
  have Z0e:=yE (R:=(isT3 K isS isS isI)) e6.g Z0e
  have Z6C:=yE (R:=(isL (isT3 K isS isS isS))) e6.g Z6C
  have S:Sep W0 W5 [tc (oL (oL (fz (isT2 K isI isI)))) y3 v4]:=S
  refine jb (Er:=Er) (f:=(uD m9 tablet loose bound)) (s0:=y3) (Iv:=fun(s9:(List (List (Int×Int)))) (W10:Wd) (g11:St)=>∃(d12:Option V),g11=[some Z0b,some Z3Z,some (.int loose),some (.int bound),some v4,d12]∧Ext W0 W10∧Sep W0 W10 [tc (oL (oL (fz (isT2 K isI isI)))) s9 v4]) (d3 (a8 (R:=sh (isL (isT3 K isS isS isS))) Z6C)) (yG hq) ?_ ?_ ?_
  ·intro W24 e25
   have S:=S.ext e25
   have E0:=E0.trans e25
   have Z0e:=yE (R:=(isT3 K isS isS isI)) e25.g Z0e
   exact⟨_,rfl,E0,S⟩
  ·intro Wb13 W14 W15 a7 v16 s8 sg17 P18 hW19 hB20 iv e21 h22 hrt23 hq
   obtain⟨d12,rfl,E0,S⟩:=iv
   have Z0e:=yE (R:=(isT3 K isS isS isI)) hW19 Z0e
   have S:=S.ext e21
   have E0:=E0.trans e21
   have hB20:=hB20.trans e21.g
   have Z0e:=yE (R:=(isT3 K isS isS isI)) e21.g Z0e
   refine gn (σ':=[some Z0b,some Z3Z,some (.int loose),some (.int bound),some v4,some v16]) ?_
   unfold uD at hq
   refine fo (Er:=Er) (aI (vD (sV (sU (sT (R:=(oL (oL (fz (isT2 K isI isI))))) (k:=0) S) (jA ai))))) ((yG hq).imp fun y29 hq W30 e31=>?_)
   have S:=S.ext e31
   have E0:=E0.trans e31
   have hB20:=hB20.trans e31.g
   have Z0e:=yE (R:=(isT3 K isS isS isI)) e31.g Z0e
   have h22:=yE (R:=(isT3 K isS isS isS)) e31.g h22
   by_cases hb42:y29=true
   ·rw[if_pos hb42]at hq ⊢
    exact mV (k:=0) S rfl fun F32 hF33 t34=>(hrt23 _ hq) v4 W30 F32 E0 hF33 t34
   ·rw[if_neg hb42]at hq ⊢
    try dsimp only[aE]
    refine rn (Er:=Er) (K:=K) (R:=(isT2 K isI isI)) (xs:=s8) (k:=0) (i:=4) S E0 rfl (fun W35 hS36 h37=>(have Z0e:=yE (R:=(isT3 K isS isS isI)) hS36 Z0e;have h22:=yE (R:=(isT3 K isS isS isS)) hS36 h22;(gu (a8 (R:=sh (isT3 K isS isS isI)) Z0e) (a8 (R:=sh (isT3 K isS isS isS)) h22) (a8 (R:=sh isI) (a:=loose) (v:=.int loose) rfl) (a8 (R:=sh isI) (a:=bound) (v:=.int bound) rfl) (eW (Eo (a8 (R:=sh (isL (isL (isT2 K isI isI)))) h37)) (jA ai))))) ((yG hq).imp fun y40 hq W41 hS42 E0 S=>?_)
    have S:Sep W0 W41 [tc (oL (oL (fz (isT2 K isI isI)))) y40 v4]:=S
    have hB20:=hB20.trans hS42
    have Z0e:=yE (R:=(isT3 K isS isS isI)) hS42 Z0e
    have h22:=yE (R:=(isT3 K isS isS isS)) hS42 h22
    try dsimp only
    refine cR (W:=W41) y40 hB20 ?_ hq
    exact⟨_,rfl,E0,S⟩
  ·intro s43 W44 sg45 hS46 iv hq
   obtain⟨d12,rfl,E0,S⟩:=iv
   exact mV (k:=0) S rfl fun F47 hF48 t49=>hq v4 W44 F47 E0 hF48 t49
theorem wL {f:Addr} {fd:zu} (F:Fun K "law" "law" (tp 46) f fd) {si:List Int→Int→Res ((Tx×Tx×Int)×(List (Tx×Tx×Tx))×Int)} {tV:(List (Tx×Tx×Tx))→Int→Res (List (Tx×Tx×Tx))} {fJ:List Int→Int→Res Int} {tW:(Tx×Tx×Int)→(List (Tx×Tx×Tx))→Int→Int→Res (List (List (Int×Int)))} {sn:(Tx×Tx×Int)→(List (Tx×Tx×Tx))→Int→Int→Res (List (List (Int×Int)))} (Z3B:Cal P w K mg base "_law_case" ["_law_script","_law_most"] (5) (bu (isScr K) isI (rs (isT3 K (isT3 K isS isS isI) (isL (isT3 K isS isS isS)) isI)) si)) (Z2R:Cal P w K mg base "_law_faded" ["_law_strip","_law_cell"] (2) (bu (isL (isT3 K isS isS isS)) isI (rs (isL (isT3 K isS isS isS))) tV)) (Z0x:Cal P w K mg base "_law_at" ["_law_script","_law_k"] (1) (bu (isScr K) isI (rs isI) fJ)) (Z2S:Cal P w K mg base "_law_reach" ["_law_card_here","_law_strip","_law_loose","_law_bound"] (4) (gL (isT3 K isS isS isI) (isL (isT3 K isS isS isS)) isI isI (ro (isL (isT2 K isI isI))) tW)) (Z4h:Cal P w K mg base "search" ["tablet","strip","loose","bound"] (6) (gL (isT3 K isS isS isI) (isL (isT3 K isS isS isS)) isI isI (wS (oL (oL (fz (isT2 K isI isI))))) sn)) (Z13:Cal P w K mg base "_law_same" ["_law_found","_law_due"] 26 (fu K 26)) (h_len:mg "len" =none) (h_list:mg "list" =none):FnOk P w K mg base CX0 (27) f fd ["_law_script"] (de (isScr K) (rs isB) (nz si tV fJ tW sn)):=by
 have SC:FnScope ["_law_script","_law_card_here","_law_strip","_law_loose","_law_bound","_law_due","_law_hand","_law_found"] ["_law_script"] (defScope (tp 46)):=⟨rfl,rfl,rfl,by decide +kernel,rfl,by decide +kernel,by decide +kernel⟩
 refine F.ok SC (fun vs H Q E h=>?_) (fun cdv A outer s H vs Q E hr h=>?_)
 ·obtain⟨_,_,_,_,rfl,_⟩:=h;rfl
 ·obtain⟨W0,Z0k,Z0a,rfl,rfl,Z02,Er,hq⟩:=h
  refine⟨_,(af (ei (ar Z3B (hr.mono (by decide)) (by rfl) (a5 (pv 0) (a5 aa ae))) (bU (K:=K) (n:=3) rfl rfl (az (aq (i:=1) SC.nd rfl (by first | exact yY rfl | exact yX rfl)) (az (aq (i:=2) SC.nd rfl (by first | exact yY rfl | exact yX rfl)) (az (aq (i:=3) SC.nd rfl (by first | exact yY rfl | exact yX rfl)) bR)))))
   (af (am (i:=2) SC.nd rfl (by first | exact yY rfl | exact yX rfl) (ar Z2R (hr.mono (by decide)) (by rfl) (a5 (pv 2) (a5 (ar Z0x (hr.mono (by decide)) (by rfl) (a5 (pv 0) (a5 aa ae))) ae))))
   (af (am (i:=4) SC.nd rfl (by first | exact yY rfl | exact yX rfl) (ah aw (ar Z0x (hr.mono (by decide)) (by rfl) (a5 (pv 0) (a5 aa ae))) aa))
   (af (bq (aA bE (ah aw (ah aU (ar Z0x (hr.mono (by decide)) (by rfl) (a5 (pv 0) (a5 aa ae))) aa) aa) aa (ay _)) (ag (am (i:=4) SC.nd rfl (by first | exact yY rfl | exact yX rfl) (ah aw (ah aU (ar Z0x (hr.mono (by decide)) (by rfl) (a5 (pv 0) (a5 aa ae))) aa) aa))) aM)
   (af (bq (E9 (eg (aA mH (aK (cg (K:=K) rfl) (by rfl) h_len PySem.boot_len (a5 (pv 2) ae)) aa (ay _)) (dg (aA bE (ah aw (ah aU (ar Z0x (hr.mono (by decide)) (by rfl) (a5 (pv 0) (a5 aa ae))) aa) aa) aa (ay _))))) (ag (am (i:=4) SC.nd rfl (by first | exact yY rfl | exact yX rfl) aa)) aM)
   (af (am (i:=5) SC.nd rfl (by first | exact yY rfl | exact yX rfl) (ar Z2S (hr.mono (by decide)) (by rfl) (a5 (pv 1) (a5 (pv 2) (a5 (pv 3) (a5 (pv 4) ae))))))
   (af (am (i:=6) SC.nd rfl (by first | exact yY rfl | exact yX rfl) (dR (iQ (K:=K) rfl) (by rfl) h_list Bs (a5 (pv 2) ae)))
   (af (am (i:=7) SC.nd rfl (by first | exact yY rfl | exact yX rfl) (ar Z4h (hr.mono (by decide)) (by rfl) (a5 (pv 1) (a5 (pv 6) (a5 (pv 3) (a5 (pv 4) ae))))))
   (af (bq (E9 (mw (gY (cO (ar Z13 (hr.mono (by decide)) (by rfl) (a5 (pv 7) (a5 (pv 5) ae))))) (lu (gY (cO (ar Z13 (hr.mono (by decide)) (by rfl) (a5 (pv 6) (a5 (pv 2) ae)))))))) (ag (aB fw)) aM)
   (af (cP (bH (K:=K) rfl (ax (cu (K:=K) rfl) (pv 7) aa (fun _ _=>rfl)) (a5 (bL (a5 aa (a5 aa ae))) ae)))
   (af (cP (sG (K:=K) rfl PySem.F.plainAttrs_list PySem.F.slot_list_clear PySem.F.type_list_clear pA (pv 7)))
   (ag (aB (ar Z13 (hr.mono (by decide)) (by rfl) (a5 (ar Z4h (hr.mono (by decide)) (by rfl) (a5 (pv 1) (a5 (pv 6) (a5 (pv 3) (a5 (pv 4) ae))))) (a5 (pv 5) ae)))))))))))))))),?_⟩
  have E0:Ext W0 W0:=.refl W0
  rw[show L2.start ["_law_script","_law_card_here","_law_strip","_law_loose","_law_bound","_law_due","_law_hand","_law_found"] [Z0a]=[some Z0a,none,none,none,none,none,none,none]from rfl]
  unfold nz at hq
  refine dW (Er:=Er) (R:=sh (isT3 K (isT3 K isS isS isI) (isL (isT3 K isS isS isS)) isI)) (aR (a8 (R:=sh (isScr K)) Z02) ai) ((yG hq).imp fun y1 hq v2 W3 e4 h5=>?_)
  have E0:=E0.trans e4
  have Z02:=yE (R:=(isScr K)) e4.g Z02
  refine sL (σ':=fun v6 v8 v10=>[some Z0a,some v6,some v8,some v10,none,none,none,none]) h5 fun v6 v8 v10 h7 h9 h11=>?_
  cases h11
  refine ao (Er:=Er) (i:=2) (R:=sh (isL (isT3 K isS isS isS))) (σ':=fun v16=>[some Z0a,some v6,some v16,some (.int y1.2.2),none,none,none,none]) (aR (a8 (R:=sh (isL (isT3 K isS isS isS))) h9) (aR (a8 (R:=sh (isScr K)) Z02) ai)) ((yG hq).imp fun y15 hq v16 W12 e13 h17=>?_)
  have E0:=E0.trans e13
  have Z02:=yE (R:=(isScr K)) e13.g Z02
  have h7:=yE (R:=(isT3 K isS isS isI)) e13.g h7
  refine ao (Er:=Er) (i:=4) (R:=sh isI) (σ':=fun v22=>[some Z0a,some v6,some v16,some (.int y1.2.2),some v22,none,none,none]) (aj (fun _=>by decide) (aR (a8 (R:=sh (isScr K)) Z02) ai)) ((yG hq).imp fun y21 hq v22 W18 e19 h23=>?_)
  cases h23
  have E0:=E0.trans e19
  have Z02:=yE (R:=(isScr K)) e19.g Z02
  have h7:=yE (R:=(isT3 K isS isS isI)) e19.g h7
  have h17:=yE (R:=(isL (isT3 K isS isS isS))) e19.g h17
  refine bv (Er:=Er) (Iv:=fun(s46:Int) (W47:Wd) (g48:St)=>g48=[some Z0a,some v6,some v16,some (.int y1.2.2),some (.int s46),none,none,none]∧Ext W0 W47) (aI (cw (aj (fun _=>by decide) (aj (fun _=>⟨by decide,by decide⟩) (aR (a8 (R:=sh (isScr K)) Z02) ai))) ai)) (yG hq) ?_ ?_ ?_
  ·intro W28 N31 e29 hN32 hq
   have hs33:=e29.g
   have E0:=E0.trans e29
   have Z02:=yE (R:=(isScr K)) e29.g Z02
   have h7:=yE (R:=(isT3 K isS isS isI)) e29.g h7
   have h17:=yE (R:=(isL (isT3 K isS isS isS))) e29.g h17
   refine cr (Er:=Er) (i:=4) (R:=sh isI) (σ':=fun v39=>[some Z0a,some v6,some v16,some (.int y1.2.2),some v39,none,none,none]) (aj (fun _=>by decide) (aj (fun _=>⟨by decide,by decide⟩) (aR (a8 (R:=sh (isScr K)) Z02) ai))) ((yG hq).imp fun y38 hq v39 W34 e35 h40=>?_)
   cases h40
   have E0:=E0.trans e35
   have hs33:=hs33.trans e35.g
   have Z02:=yE (R:=(isScr K)) e35.g Z02
   have h7:=yE (R:=(isT3 K isS isS isI)) e35.g h7
   have h17:=yE (R:=(isL (isT3 K isS isS isS))) e35.g h17
   exact hN32 y38 W34 _ hs33 ⟨rfl,E0⟩ hq
  ·intro W28 N31 e29 hN32 hq
   have hs41:=e29.g
   have E0:=E0.trans e29
   have Z02:=yE (R:=(isScr K)) e29.g Z02
   have h7:=yE (R:=(isT3 K isS isS isI)) e29.g h7
   have h17:=yE (R:=(isL (isT3 K isS isS isS))) e29.g h17
   try dsimp only[aE]
   exact hN32 y21 W28 _ hs41 ⟨rfl,E0⟩ hq
  ·intro s42 W43 sg44 hS45 iv hq
   obtain⟨rfl,E0⟩:=iv
   have Z02:=yE (R:=(isScr K)) hS45 Z02
   have h7:=yE (R:=(isT3 K isS isS isI)) hS45 h7
   have h17:=yE (R:=(isL (isT3 K isS isS isS))) hS45 h17
   refine bv (Er:=Er) (Iv:=fun(s68:Int) (W69:Wd) (g70:St)=>g70=[some Z0a,some v6,some v16,some (.int y1.2.2),some (.int s68),none,none,none]∧Ext W0 W69) (fE (aI (cH (fk (Eo (a8 (R:=sh (isL (isT3 K isS isS isS))) h17))) ai)) (aI (cw (aj (fun _=>by decide) (aj (fun _=>⟨by decide,by decide⟩) (aR (a8 (R:=sh (isScr K)) Z02) ai))) ai))) (yG hq) ?_ ?_ ?_
   ·intro W53 N56 e54 hN57 hq
    have hs58:=e54.g
    have E0:=E0.trans e54
    have Z02:=yE (R:=(isScr K)) e54.g Z02
    have h7:=yE (R:=(isT3 K isS isS isI)) e54.g h7
    have h17:=yE (R:=(isL (isT3 K isS isS isS))) e54.g h17
    refine cr (Er:=Er) (i:=4) (R:=sh isI) (σ':=fun v61=>[some Z0a,some v6,some v16,some (.int y1.2.2),some v61,none,none,none]) ai (fun v61 W59 e60 h62=>?_)
    cases h62
    have E0:=E0.trans e60
    have hs58:=hs58.trans e60.g
    have h7:=yE (R:=(isT3 K isS isS isI)) e60.g h7
    have h17:=yE (R:=(isL (isT3 K isS isS isS))) e60.g h17
    exact hN57 (60:Int) W59 _ hs58 ⟨rfl,E0⟩ hq
   ·intro W53 N56 e54 hN57 hq
    have hs63:=e54.g
    have E0:=E0.trans e54
    have Z02:=yE (R:=(isScr K)) e54.g Z02
    have h7:=yE (R:=(isT3 K isS isS isI)) e54.g h7
    have h17:=yE (R:=(isL (isT3 K isS isS isS))) e54.g h17
    try dsimp only[aE]
    exact hN57 s42 W53 _ hs63 ⟨rfl,E0⟩ hq
   ·intro s64 W65 sg66 hS67 iv hq
    obtain⟨rfl,E0⟩:=iv
    have h7:=yE (R:=(isT3 K isS isS isI)) hS67 h7
    have h17:=yE (R:=(isL (isT3 K isS isS isS))) hS67 h17
    refine ao (Er:=Er) (i:=5) (R:=sh (isL (isL (isT2 K isI isI)))) (σ':=fun v74=>[some Z0a,some v6,some v16,some (.int y1.2.2),some (.int s64),some v74,none,none]) (Bt (o9 (a8 (R:=sh (isT3 K isS isS isI)) h7) (a8 (R:=sh (isL (isT3 K isS isS isS))) h17) (a8 (R:=sh isI) (a:=y1.2.2) (v:=.int y1.2.2) rfl) (a8 (R:=sh isI) (a:=s64) (v:=.int s64) rfl))) ((yG hq).imp fun y73 hq v74 W71 e72 h75=>?_)
    have E0:=E0.trans e72
    have h7:=yE (R:=(isT3 K isS isS isI)) e72.g h7
    have h17:=yE (R:=(isL (isT3 K isS isS isS))) e72.g h17
    refine ao (Er:=Er) (i:=6) (R:=sh (isL (isT3 K isS isS isS))) (σ':=fun v78=>[some Z0a,some v6,some v16,some (.int y1.2.2),some (.int s64),some v74,some v78,none]) (Bt (qf (Eo (a8 (R:=sh (isL (isT3 K isS isS isS))) h17)))) (fun v78 W76 e77 h79=>?_)
    have E0:=E0.trans e77
    have h7:=yE (R:=(isT3 K isS isS isI)) e77.g h7
    have h17:=yE (R:=(isL (isT3 K isS isS isS))) e77.g h17
    have h75:=yE (R:=(isL (isL (isT2 K isI isI)))) e77.g h75
    have S:Sep W0 W76 []:=Sep.nil
    refine je (Er:=Er) (i:=7) (σ':=fun v81=>[some Z0a,some v6,some v16,some (.int y1.2.2),some (.int s64),some v74,some v78,some v81]) S E0 (jd (a8 (R:=sh (isT3 K isS isS isI)) h7) (a8 (R:=sh (isL (isT3 K isS isS isS))) h79) (a8 (R:=sh isI) (a:=y1.2.2) (v:=.int y1.2.2) rfl) (a8 (R:=sh isI) (a:=s64) (v:=.int s64) rfl)) ((yG hq).imp fun y80 hq v81 W82 e83 S=>?_)
    have E0:=E0.trans e83
    have h7:=yE (R:=(isT3 K isS isS isI)) e83.g h7
    have h17:=yE (R:=(isL (isT3 K isS isS isS))) e83.g h17
    have h75:=yE (R:=(isL (isL (isT2 K isI isI)))) e83.g h75
    have h79:=yE (R:=(isL (isT3 K isS isS isS))) e83.g h79
    have S:Sep W0 W82 [tc (oL (oL (fz (isT2 K isI isI)))) y80 v81]:=S
    refine fo (Er:=Er) (qt (R:=(oL (oL (fz (isT2 K isI isI))))) 0 S E0 rfl fun W84 hS85 E0 S h86=>(have S:Sep W0 W84 []:=S;have h17:=yE (R:=(isL (isT3 K isS isS isS))) hS85 h17;have h75:=yE (R:=(isL (isL (isT2 K isI isI)))) hS85 h75;have h79:=yE (R:=(isL (isT3 K isS isS isS))) hS85 h79;(uw (pZ (lK (iy (by decide) (a8 (R:=sh (isL (isL (isT2 K isI isI)))) h86) (a8 (R:=sh (isL (isL (isT2 K isI isI)))) h75)))) (pZ (lK (iy (by decide) (a8 (R:=sh (isL (isT3 K isS isS isS))) h79) (a8 (R:=sh (isL (isT3 K isS isS isS))) h17))))))) ((yG hq).imp fun y90 hq W91 e92=>?_)
    have S:=S.ext e92
    have E0:=E0.trans e92
    have h7:=yE (R:=(isT3 K isS isS isI)) e92.g h7
    have h17:=yE (R:=(isL (isT3 K isS isS isS))) e92.g h17
    have h75:=yE (R:=(isL (isL (isT2 K isI isI)))) e92.g h75
    have h79:=yE (R:=(isL (isT3 K isS isS isS))) e92.g h79
    by_cases hb109:y90=true
    ·rw[if_pos hb109]at hq ⊢
     exact bh (Er:=Er) (R:=sh isB) pV (fun v93 W94 e95 h96=>hq v93 W94 (E0.trans e95) h96)
    ·rw[if_neg hb109]at hq ⊢
     try dsimp only[aE]
     refine on (Er:=Er) (K:=K) (R:=(isT2 K isI isI)) E0 (ww (qp (R:=(oL (oL (fz (isT2 K isI isI))))) (C:=fun bb=>[tc (oL (oL (fz (isT2 K isI isI)))) bb v81]) (k:=0) S E0) ai) (eE (K:=K) ai ai) ((yG hq).imp fun y98 hq W99 hS100 E0 S=>?_)
     have S:Sep W0 W99 [tc (oL (oL (fz (isT2 K isI isI)))) y98 v81]:=S
     have h7:=yE (R:=(isT3 K isS isS isI)) hS100 h7
     have h75:=yE (R:=(isL (isL (isT2 K isI isI)))) hS100 h75
     have h79:=yE (R:=(isL (isT3 K isS isS isS))) hS100 h79
     refine ou (Er:=Er) (K:=K) (R:=(oL (fz (isT2 K isI isI)))) E0 (qp (R:=(oL (oL (fz (isT2 K isI isI))))) (C:=fun bb=>[tc (oL (oL (fz (isT2 K isI isI)))) bb v81]) (k:=0) S E0) ((yG hq).imp fun y101 hq W102 hS103 E0 S=>?_)
     have S:Sep W0 W102 [tc (oL (oL (fz (isT2 K isI isI)))) y101 v81]:=S
     have h7:=yE (R:=(isT3 K isS isS isI)) hS103 h7
     have h75:=yE (R:=(isL (isL (isT2 K isI isI)))) hS103 h75
     have h79:=yE (R:=(isL (isT3 K isS isS isS))) hS103 h79
     exact bh (Er:=Er) (R:=sh isB) (iy (by decide) (EVt.ev (jd (a8 (R:=sh (isT3 K isS isS isI)) h7) (a8 (R:=sh (isL (isT3 K isS isS isS))) h79) (a8 (R:=sh isI) (a:=y1.2.2) (v:=.int y1.2.2) rfl) (a8 (R:=sh isI) (a:=s64) (v:=.int s64) rfl))) (a8 (R:=sh (isL (isL (isT2 K isI isI)))) h75)) (zB hq fun y105 hq v106 W107 e108 h109=>hq v106 W107 (E0.trans e108) h109)
end
end Wb
namespace Wb
open PySem L2
section
variable {P:zf} {w:zt} {K:PySem.W.Frag} {mg:Str→Option yH} {base:Heap}
theorem u4 {f:Addr} {fd:zu} {ps:List Str} {k:Nat} :FnOk P w K mg base CX0 k f fd ps (fu K 0):=⟨fun _ _ _ _ h=>h.elim,fun _ _ _ _ _ _ _ _ _ _ _ _ _ h=>h.elim⟩
theorem iW {K:PySem.W.Frag} (a b:String) (r:Bool) (h:PySem.W.kitOne [] (.type a) (.type b)=some r):PySem.W.kitOne K (.type a) (.type b)=some r:=by first | exact h | (rw[←h];rfl)
theorem f9 {c:TT} {t rest:TS} {D:Ends} {σ:St} {H:Hp} (h:∀Q:Bool→Hp→Prop,Q false H→c σ H Q) (k:rest D σ H):dQ (gF c t aE) rest D σ H:=h _ k
theorem l9 {c:TT} {t rest:TS} {D:Ends} {σ:St} {H:Hp} (h:∀Q:Bool→Hp→Prop,Q true H→c σ H Q) (k:t {D with nx:=rest D} σ H):dQ (gF c t aE) rest D σ H:=h _ k
local macro_rules | `(tactic|walk_at "S0")=>`(tactic|simp only[bZ,bm,cI,bt,tC,dh,ak,aS,bQ,aE,bz,aO,bS,be,bW,tB,eJ,rU,dD,rI,bX,bK,aV,b6,eI,ci,eO,cj,bj,cm,bo,eu,bn,aH,dq,bT,aQ,eM,eK,eL,cn,bM,bY,cq,au,aN,L2.start,zY,Ce,Cy,C2,Ao,AI,CS,AK,C6,D9,As,Ar,Dj,exists_eq_left',exists_eq_left,exists_and_left,exists_eq',exists_const,BM.injEq,GG.injEq,CM.injEq,V.ref.injEq,V.ty.injEq,DR,and_true,true_and,reduceCtorEq,false_and,and_false,exists_false,or_false,false_or,decide_eq_true_eq,Dk,decide_eq_false_iff_not,if_true,if_false,zz,ite_true,ite_false,CC,E8,Em,En,and_assoc])
local macro_rules | `(tactic|walk_at "S1")=>`(tactic|simp only[bZ,dQ,gF,bm,cI,bt,tC,dh,ak,aS,bQ,aE,bz,aO,bS,be,bW,tB,eJ,rU,dD,rI,bX,bK,aV,b6,eI,ci,eO,cj,bj,cm,bo,eu,bn,aH,dq,bT,aQ,eM,eK,eL,cn,bM,bY,cq,au,aN,L2.start,zY,Ce,Cy,C2,Ao,AI,CS,AK,C6,D9,As,Ar,Dj,exists_eq_left',exists_eq_left,exists_and_left,exists_eq',exists_const,BM.injEq,GG.injEq,CM.injEq,V.ref.injEq,V.ty.injEq,DR,and_true,true_and,reduceCtorEq,false_and,and_false,exists_false,or_false,false_or,decide_eq_true_eq,Dk,decide_eq_false_iff_not,if_true,if_false,zz,ite_true,ite_false,CC,E8,Em,En,and_assoc])
theorem rB {f:Addr} {fd:zu} (F:Fun K "_law_same" "_law_same" (tp 44) f fd) (h_len:mg "len" =none) (h_isinstance:mg "isinstance" =none) (h_bool:mg "bool" =none) (h_int:mg "int" =none) (h_str:mg "str" =none) (h_list:mg "list" =none) (h_tuple:mg "tuple" =none) (h_zip:mg "zip" =none) {n:Nat}
  (Z13:Cal P w K mg base "_law_same" ["_law_found","_law_due"] n (fu K n)):FnOk P w K mg base CX0 (n+1) f fd ["_law_found","_law_due"] (fu K (n+1)):=by
 have SC:FnScope ["_law_found","_law_due","_law_one","_law_other"] ["_law_found","_law_due"] (defScope (tp 44)):=⟨rfl,rfl,rfl,by decide +kernel,rfl,by decide +kernel,by decide +kernel⟩
 refine F.ok SC (fun vs H Q E h=>?_) (fun cdv A outer s H vs Q E hr h=>?_)
 ·obtain⟨v,u,rfl,_⟩:=h;rfl
 ·obtain⟨v,u,rfl,h⟩:=h
  have hr:Room n _:=hr
  refine⟨_,(af (bq (E9 (mw (aA (op_isN.or i3) (pv 1) uL (ay _)) (mw (aA (op_isN.or i3) (pv 1) fw (ay _)) (lu (aA (op_isN.or i3) (pv 1) fw (ay _)))))) (ag (aB (gi (cx bE (aK (bf (K:=K) rfl) (by rfl) h_isinstance zv (a5 (pv 0) (a5 (cN (v:=.ty "bool") (by rfl) h_bool Cp rfl) ae))) (aK (bf (K:=K) rfl) (by rfl) h_isinstance zv (a5 (pv 1) (a5 (cN (v:=.ty "bool") (by rfl) h_bool Cp rfl) ae))) (ay _)) (gh (cx bE (pv 0) (pv 1) (ay _)))))) aM)
   (af (bq (cO (aK (bf (K:=K) rfl) (by rfl) h_isinstance zv (a5 (pv 1) (a5 (cN (v:=.ty "int") (by rfl) h_int By rfl) ae)))) (ag (aB (gi (aK (bf (K:=K) rfl) (by rfl) h_isinstance zv (a5 (pv 0) (a5 (cN (v:=.ty "int") (by rfl) h_int By rfl) ae))) (gi (uM (aK (bf (K:=K) rfl) (by rfl) h_isinstance zv (a5 (pv 0) (a5 (cN (v:=.ty "bool") (by rfl) h_bool Cp rfl) ae)))) (gh (cx bE (pv 0) (pv 1) (ay _))))))) aM)
   (af (bq (cO (aK (bf (K:=K) rfl) (by rfl) h_isinstance zv (a5 (pv 1) (a5 (cN (v:=.ty "str") (by rfl) h_str DX rfl) ae)))) (ag (aB (gi (aK (bf (K:=K) rfl) (by rfl) h_isinstance zv (a5 (pv 0) (a5 (cN (v:=.ty "str") (by rfl) h_str DX rfl) ae))) (gh (cx bE (pv 0) (pv 1) (ay _)))))) aM)
   (af (bq (E9 (eg (cO (aK (bf (K:=K) rfl) (by rfl) h_isinstance zv (a5 (pv 1) (a5 (cN (v:=.ty "list") (by rfl) h_list Bs rfl) ae)))) (dg (gY (cO (aK (bf (K:=K) rfl) (by rfl) h_isinstance zv (a5 (pv 0) (a5 (cN (v:=.ty "list") (by rfl) h_list Bs rfl) ae)))))))) (ag (aB fw)) aM)
   (af (bq (E9 (eg (cO (aK (bf (K:=K) rfl) (by rfl) h_isinstance zv (a5 (pv 1) (a5 (cN (v:=.ty "tuple") (by rfl) h_tuple Ca rfl) ae)))) (dg (gY (cO (aK (bf (K:=K) rfl) (by rfl) h_isinstance zv (a5 (pv 0) (a5 (cN (v:=.ty "tuple") (by rfl) h_tuple Ca rfl) ae)))))))) (ag (aB fw)) aM)
   (af (bq (aA mE (aK (cg (K:=K) rfl) (by rfl) h_len PySem.boot_len (a5 (pv 0) ae)) (aK (cg (K:=K) rfl) (by rfl) h_len PySem.boot_len (a5 (pv 1) ae)) (ay _)) (ag (aB fw)) aM)
   (af (cF zS rfl (eB (K:=K) rfl rfl h_zip (a5 (pv 0) (a5 (pv 1) ae))) (bU (K:=K) (n:=2) rfl rfl (az (aq (i:=2) SC.nd rfl (by first | exact yY rfl | exact yX rfl)) (az (aq (i:=3) SC.nd rfl (by first | exact yY rfl | exact yX rfl)) bR))) (ag (bq (gY (cO (ar Z13 hr (by rfl) (a5 (pv 2) (a5 (pv 3) ae))))) (ag (aB fw)) aM)))
   (ag (aB fw))))))))),?_⟩
  rcases h with⟨he,q⟩ | ⟨x,y,rfl,rfl,q⟩
  rotate_left
  ·refine f9 (fun Q q=>?_) (f9 (fun Q q=>?_) (l9 (fun Q q=>?_) ?_))
   ·walk_at "S0";exact q
   ·walk_at "S0";exact⟨_,.str _,_,iW "str" "int" false rfl,q⟩
   ·walk_at "S0";exact⟨_,.str _,_,iW "str" "str" true rfl,q⟩
   ·walk_at "S0"
    refine⟨_,.str _,_,iW "str" "str" true rfl,?_⟩
    walk_at "S0"
    simpa using q
  have fl:∀v,L2.flat v=true→(∀H',Same H H'→Q (.bl true) H')→(v=.non∨(∃b,v=.bl b)∨(∃i,v=.int i)∨∃x,v=.str x):=fun v hv _=>by
   cases v with
   | non=>exact .inl rfl
   | bl b=>exact .inr (.inl ⟨b,rfl⟩)
   | int b=>exact .inr (.inr (.inl ⟨b,rfl⟩))
   | str b=>exact .inr (.inr (.inr ⟨b,rfl⟩))
   | _=>cases hv
  have he':(v=u∧L2.flat v=true)∨∃m p q xs ys,n=m+1∧v=.ref p∧u=.ref q∧((H p=some (.lst xs)∧H q=some (.lst ys))∨(SqT K H p xs∧SqT K H q ys))∧xs.length=ys.length∧∀(i:Nat) (x y:V),xs[i]? =some x→ys[i]? =some y→EqK K H m x y:=by
   cases n with
   | zero=>exact .inl he
   | succ m=>rcases he with z | ⟨p,q,xs,ys,z⟩;exact .inl z;exact .inr ⟨m,p,q,xs,ys,rfl,z⟩
  rcases he' with⟨rfl,hf⟩ | ⟨m,p,q',xs,ys,hnm,rfl,rfl,hk,hl,hi⟩
  ·rcases fl v hf q with rfl | ⟨b,rfl⟩ | ⟨i,rfl⟩ | ⟨x,rfl⟩
   ·refine l9 (fun Q q=>?_) ?_
    ·walk_at "S0";exact q
    ·walk_at "S0"
     refine⟨_,.non,_,iW "NoneType" "bool" false rfl,_,.non,_,iW "NoneType" "bool" false rfl,?_⟩
     walk_at "S0"
     exact q H (.refl H)
   ·refine l9 (fun Q q=>?_) ?_
    ·cases b <;> walk_at "S0" <;> exact q
    ·walk_at "S0"
     refine⟨_,.bl _,_,iW "bool" "bool" true rfl,_,.bl _,_,iW "bool" "bool" true rfl,?_⟩
     walk_at "S0"
     exact q H (.refl H)
   ·refine f9 (fun Q q=>?_) (l9 (fun Q q=>?_) ?_)
    ·walk_at "S0";exact q
    ·walk_at "S0";exact⟨_,.int _,_,iW "int" "int" true rfl,q⟩
    ·walk_at "S0"
     refine⟨_,.int _,_,iW "int" "int" true rfl,?_⟩
     walk_at "S0"
     refine⟨_,.int _,_,iW "int" "bool" false rfl,?_⟩
     walk_at "S0"
     exact q H (.refl H)
   ·refine f9 (fun Q q=>?_) (f9 (fun Q q=>?_) (l9 (fun Q q=>?_) ?_))
    ·walk_at "S0";exact q
    ·walk_at "S0";exact⟨_,.str _,_,iW "str" "int" false rfl,q⟩
    ·walk_at "S0";exact⟨_,.str _,_,iW "str" "str" true rfl,q⟩
    ·walk_at "S0"
     refine⟨_,.str _,_,iW "str" "str" true rfl,?_⟩
     walk_at "S0"
     exact q H (.refl H)
  ·subst hnm
   obtain⟨T,tp1,tp2,tl,src1,src2,h1,h2,e1,e2⟩:∃(T:String) (tp1:TyOf K H (.ref p) (.type T)) (tp2:TyOf K H (.ref q') (.type T)) (tl:(T="list" ∧SqL K H p xs∧SqL K H q' ys)∨(T="tuple" ∧SqT K H p xs∧SqT K H q' ys)) (src1 src2:Src),(∀H',Same H H'→src1.has K H' xs)∧(∀H',Same H H'→src2.has K H' ys)∧src1.val=.ref p∧src2.val=.ref q':=by
    rcases hk with⟨a,b⟩ | ⟨a,b⟩
    ·exact⟨"list",.lst a,.lst b,.inl ⟨rfl,AJ a,AJ b⟩,.lst p,.lst q',fun H' e=>AJ (e _ _ a),fun H' e=>AJ (e _ _ b),rfl,rfl⟩
    ·exact⟨"tuple",.tup a,.tup b,.inr ⟨rfl,a,b⟩,.tup p,.tup q',fun H' e=>AO e a,fun H' e=>AO e b,rfl,rfl⟩
   have hi0:PySem.W.kitOne K (.type T) (.type "int")=some false:=by rcases tl with⟨rfl,_⟩ | ⟨rfl,_⟩;exact iW _ _ _ rfl;exact iW _ _ _ rfl
   have hs0:PySem.W.kitOne K (.type T) (.type "str")=some false:=by rcases tl with⟨rfl,_⟩ | ⟨rfl,_⟩;exact iW _ _ _ rfl;exact iW _ _ _ rfl
   obtain⟨bl,hl0,hl1⟩:∃bl,PySem.W.kitOne K (.type T) (.type "list")=some bl∧PySem.W.kitOne K (.type T) (.type "tuple")=some (!bl):=by rcases tl with⟨rfl,_⟩ | ⟨rfl,_⟩;exact⟨true,iW _ _ _ rfl,iW _ _ _ rfl⟩;exact⟨false,iW _ _ _ rfl,iW _ _ _ rfl⟩
   have ln1:nN K (.ref p) H xs.length:=by rcases tl with⟨_,t1,_⟩ | ⟨_,t1,_⟩;exact .inl ⟨_,t1,rfl⟩;exact .inr ⟨_,t1,rfl⟩
   have ln2:nN K (.ref q') H ys.length:=by rcases tl with⟨_,_,t2⟩ | ⟨_,_,t2⟩;exact .inl ⟨_,t2,rfl⟩;exact .inr ⟨_,t2,rfl⟩
   refine f9 (fun Q q=>?_) (f9 (fun Q q=>?_) (f9 (fun Q q=>?_) (f9 (fun Q q=>?_) (f9 (fun Q q=>?_) (f9 (fun Q q=>?_) ?_)))))
   ·walk_at "S0";exact q
   ·walk_at "S0";exact⟨_,tp2,_,hi0,q⟩
   ·walk_at "S0";exact⟨_,tp2,_,hs0,q⟩
   ·walk_at "S0"
    refine⟨_,tp2,_,hl0,?_⟩
    cases bl with
    | false=>exact q
    | true=>walk_at "S0";exact⟨_,tp1,_,hl0,q⟩
   ·walk_at "S0"
    refine⟨_,tp2,_,hl1,?_⟩
    cases bl with
    | true=>exact q
    | false=>walk_at "S0";exact⟨_,tp1,_,hl1,q⟩
   ·walk_at "S0"
    refine⟨_,ln1,_,ln2,?_⟩
    simp only[hl,bZ,bm,cI,bt,tC,dh,ak,aS,bQ,aE,bz,aO,bS,be,bW,tB,eJ,rU,dD,rI,bX,bK,aV,b6,eI,ci,eO,cj,bj,cm,bo,eu,bn,aH,dq,bT,aQ,eM,eK,eL,cn,bM,bY,cq,au,aN,L2.start,zY,Ce,Cy,C2,Ao,AI,CS,AK,C6,D9,As,Ar,Dj,exists_eq_left',exists_eq_left,exists_and_left,exists_eq',exists_const,BM.injEq,GG.injEq,CM.injEq,V.ref.injEq,V.ty.injEq,DR,and_true,true_and,reduceCtorEq,false_and,and_false,exists_false,or_false,false_or,decide_eq_true_eq,Dk,decide_eq_false_iff_not,if_true,if_false,zz,ite_true,ite_false,CC,E8,Em,En,and_assoc]
    exact q
   ·walk_at "S1"
    refine⟨_,rfl,_,rfl,src1,src2,xs,ys,by rw[e1,e2],h1 H (.refl H),h2 H (.refl H),sF (fun i σ H2=>Same H H2∧∃a b,σ=[some (.ref p),some (.ref q'),a,b]) ⟨.refl H,none,none,rfl⟩ (fun i σ H2 ⟨e,_⟩=>⟨h1 H2 e,h2 H2 e⟩) hl ?_ ?_⟩
    ·rintro i x y r σ H2 hx hy hr' ⟨e,a,b,rfl⟩
     walk_at "S1"
     refine⟨_,G5 aF,rfl,?_⟩
     walk_at "S1"
     refine⟨x,y,rfl,.inl ⟨(hi i x y hx hy).same (e.trans (d9 hr')),fun H3 e3=>?_⟩⟩
     walk_at "S1"
     exact e.trans ((d9 hr').trans e3)
    ·rintro σ H2 ⟨e,a,b,rfl⟩
     walk_at "S1"
     exact q H2 e
def nA (K:PySem.W.Frag):Sp:=fun vs H Q _=>∃(a:Addr) (ns:List Int),vs=[.ref a]∧SqL K H a (ns.map BM)∧ns.length≤63∧∀H',Q (.bl true) H'
end
end Wb
namespace Mi
theorem iK {s:List Int} (hs:s.length≤63) (k:Nat) (hk:k≤200):∃n,fJ s (k:Int)=.ok n:=by
 unfold fJ wU
 by_cases h:(k:Int)< (s.length:Int)
 ·rw[if_pos (by simpa using h)]
  obtain⟨x,e,_⟩:=gO (xs:=s) (i:=(k:Int)) (by omega) h
  exact⟨x,e⟩
 ·rw[if_neg (by simpa using h),qj (by omega) (by omega)]
  exact⟨_,rfl⟩
theorem vH (c b:Int) (hb:1≤b) (hb2:b< 1073741824) (k:Nat) (s:Int×Int×List Int) (h1:0≤s.2.1) (hl:s.2.2.length< 100000):∃s':Int×Int×List Int,vS c b (k:Int) s=.ok s'∧0≤s'.2.1∧∃v,0≤v∧v< b∧s'.2.2=s.2.2++ [v]:=by
 unfold vS
 have hm0:=zW (s.1*48271+7919+(k:Int)) (show(2147483647:Int)≠0 by decide)
 have hm1:=zI (s.1*48271+7919+(k:Int)) (show(0:Int)< 2147483647 by decide)
 generalize (s.1*48271+7919+(k:Int))% 2147483647=mx at*
 have other:∀z:Int,0≤z% b∧z% b< b:=fun z=>⟨zW _ (by omega),zI _ (by omega)⟩
 have A:∀z:Int,dz s.2.2 z=.ok (s.2.2++ [z]):=fun z=>dH hl
 have e2:((((i9 mx mx).bind fun y63=>yL (y63% 1000003)).bind fun y64=>iR y64 b).bind fun y69=>dz s.2.2 y69)=.ok (s.2.2++ [mx*mx% 1000003% b]):=by
  rw[iw (by omega) (by omega)];simp only[yI];rw[fS (by omega)];exact A _
 have e1:((iR s.2.1 b).bind fun y56=>dz s.2.2 y56)=.ok (s.2.2++ [s.2.1% b]):=by rw[fS (by omega)];exact A _
 by_cases hf:(1000000000000000000:Int)≤ca c
 ·rw[decide_eq_true hf]
  by_cases hp:0< s.2.1
  ·rw[decide_eq_true hp]
   simp only[if_true,yI,e1,kJ (show 0< b by omega) hb2]
   exact⟨_,rfl,Int.ediv_nonneg h1 (by omega),_,(other _).1,(other _).2,rfl⟩
  ·rw[decide_eq_false hp]
   simp only[if_true,yI,zz,if_false,e2]
   exact⟨_,rfl,h1,_,(other _).1,(other _).2,rfl⟩
 ·rw[decide_eq_false hf]
  simp only[yI,zz,if_false,e2]
  exact⟨_,rfl,h1,_,(other _).1,(other _).2,rfl⟩
theorem iL (c:Int) (n:Nat) (b:Int) (hn:n≤1000) (hb:1≤b) (hb2:b< 1073741824):∃ns,fv c (n:Int) b=.ok ns∧ns.length=n∧∀x∈ns,0≤x∧x< b:=by
 unfold fv wV
 rw[om (by omega),yI]
 obtain⟨s,e,h0,hl,hb⟩:=da (f:=vS c b) (fun pre (s:Int×Int×List Int)=>0≤s.2.1∧s.2.2.length=pre.length∧∀x∈s.2.2,0≤x∧x< b) ((Aj n).map fun(i:Nat)=>(i:Int)) ((ca c)% 2147483647,ca c,[]) ⟨sR c,rfl,by simp⟩ (by
  intro pre a post s e ⟨h0,hl,hb'⟩
  have hlen:pre.length< n:=by have:=congrArg BH e;simp at this;omega
  obtain⟨k,rfl⟩:∃k:Nat,a=(k:Int):=by
   have:a∈(Aj n).map fun(i:Nat)=>(i:Int):=by rw[e];simp
   obtain⟨k,_,hk⟩:=zD.mp this;exact⟨k,hk.symm⟩
  obtain⟨s',e',h0',v,v0,v1,ev⟩:=vH c b hb hb2 k s h0 (by omega)
  refine⟨s',e',h0',by rw[ev];simp[hl],fun x hx=>?_⟩
  rw[ev]at hx
  rcases zE.mp hx with z | z
  ·exact hb' x z
  ·rw[C7.mp z];exact⟨v0,v1⟩)
 rw[e]
 exact⟨_,rfl,by rw[hl];simp,hb⟩
def bD (c:Nat):Prop:=c=102∨c=98∨c=105
def fb (t:Tx):Prop:=∀c∈t,bD c
abbrev Cd:=Tx×Tx×Int
structure Card (t:Cd):Prop where
 lay:t.1=[83]∨t.1=[90]
 four:t.2.1.length=4
 col:∀c∈t.2.1,97≤c∧c≤122
 low:0≤t.2.2
 high:t.2.2< 4
theorem rC (sz:Int) (ds:List Int) (hsz:1≤sz) (hd:ds.length=5) (a:Int) (t:Tx) (ht:t.length< 1000):∃c,97≤c∧c≤122∧vT sz ds a t=.ok (t++ [c]):=by
 unfold vT
 obtain⟨x,e,_⟩:=gO (xs:=ds) (i:=4) (by decide) (by rw[hd];decide)
 rw[e]
 simp only[yI,fS (show 0< sz by omega)]
 have h0:=zW (x+a% sz*7) (show(26:Int)≠0 by decide)
 have h1:=zI (x+a% sz*7) (show(0:Int)< 26 by decide)
 generalize (x+a% sz*7)% 26=r at h0 h1
 obtain⟨c,e2,h2⟩:=fq (x:=([97,98,99,100,101,102,103,104,105,106,107,108,109,110,111,112,113,114,115,116,117,118,119,120,121,122]:Tx)) (i:=r) h0 (by simp;omega) (by decide)
 rw[e2]
 simp only[yI,jG (show t.length+ [c].length≤100000 by simp;omega)]
 have hc:c∈([97,98,99,100,101,102,103,104,105,106,107,108,109,110,111,112,113,114,115,116,117,118,119,120,121,122]:Tx):=zr h2
 have:∀c∈([97,98,99,100,101,102,103,104,105,106,107,108,109,110,111,112,113,114,115,116,117,118,119,120,121,122]:Tx),97≤c∧c≤122:=by decide
 exact⟨c,(this c hc).1,(this c hc).2,rfl⟩
theorem rD (c:Int):∃t,tL c=.ok t∧t.length=4∧∀x∈t,97≤x∧x≤122:=by
 unfold tL wW
 have h0:=zW c (show(5:Int)≠0 by decide)
 have h1:=zI c (show(0:Int)< 5 by decide)
 obtain⟨sz,e,h2⟩:=gO (xs:=[(1:Int),2,3,4,26]) (i:=c% 5) h0 (by simp;omega)
 have hsz:1≤sz:=by
  have:∀x∈[(1:Int),2,3,4,26],1≤x:=by decide
  exact this sz (zr h2)
 rw[e,yI]
 obtain⟨ds,e2,hd,_⟩:=iL (c/ 5) 5 26 (by decide) (by decide) (by decide)
 rw[show fv (c/ 5) 5 26=yL ds from e2,yI,show cut ds none (some 4)=ds.take 4 from kM ds 4]
 obtain⟨t,e3,h3,h4⟩:=da (f:=vT sz ds) (fun pre t=>t.length=pre.length∧∀x∈t,97≤x∧x≤122) (ds.take 4) [] ⟨rfl,by simp⟩ (by
  intro pre a post t e ⟨hl,hb⟩
  have hlen:pre.length< 5:=by have:=congrArg BH e;simp at this;omega
  obtain⟨c,c0,c1,ec⟩:=rC sz ds hsz hd a t (by omega)
  refine⟨_,ec,by simp[hl],fun x hx=>?_⟩
  rcases zE.mp hx with z | z
  ·exact hb x z
  ·rw[C7.mp z];exact⟨c0,c1⟩)
 rw[e3]
 exact⟨t,rfl,by rw[h3,Cu];omega,h4⟩
theorem nB (c:Int):∃t,sf c=.ok t∧Card t:=by
 unfold sf wX
 have h0:=zW c (show(2:Int)≠0 by decide)
 have h1:=zI c (show(0:Int)< 2 by decide)
 obtain⟨y,e,h2⟩:=fq (x:=([83,90]:Tx)) (i:=c% 2) h0 (by simp;omega) (by decide)
 obtain⟨t,e2,hl,hb⟩:=rD (c/ 8)
 rw[e,yI,e2,yI]
 refine⟨_,rfl,?_,hl,hb,zW _ (by decide),zI _ (by decide)⟩
 have:y=83∨y=90:=by simpa using zr h2
 rcases this with rfl | rfl
 ·exact .inl rfl
 ·exact .inr rfl
theorem rE (d:Int) (h0:0≤d) (h1:d< 3):∃c,dC ([102,98,105]:Tx) d=.ok [c]∧bD c:=by
 obtain⟨c,e,h⟩:=fq (x:=([102,98,105]:Tx)) (i:=d) h0 (by simp;omega) (by decide)
 refine⟨c,e,?_⟩
 have:=zr h
 simpa [bD] using this
theorem rF (c:Int) (n:Nat) (hn:n≤1000):∃t,tM c (n:Int)=.ok t∧t.length=n∧fb t:=by
 unfold tM wY
 by_cases h:c% 7=3
 ·rw[if_pos (by simpa using h)]
  obtain⟨y,e,hy⟩:=rE (c/ 7% 3) (zW _ (by decide)) (zI _ (by decide))
  rw[e,yI,sP (by omega) (by omega)]
  refine⟨_,rfl,by simp,fun x hx=>?_⟩
  rw[List.eq_of_mem_replicate hx];exact hy
 ·rw[if_neg (by simpa using h)]
  obtain⟨ds,e,hl,hb⟩:=iL (c/ 7) n 3 hn (by decide) (by decide)
  rw[e,yI]
  have key:∃t:List Nat,dA ds (fun(a9:Int)=>dC ([102,98,105]:Tx) a9)=.ok (t.map fun c=>[c])∧t.length=n∧fb t:=by
   have:∀d∈ds,∃c:Nat,dC ([102,98,105]:Tx) d=.ok [c]∧bD c:=fun d hd=>rE d (hb d hd).1 (hb d hd).2
   have hf:∀d∈ds,dC ([102,98,105]:Tx) d=.ok ((fun d=>[if d=0 then 102 else if d=1 then 98 else 105]) d):=fun d hd=>by
    have h1:=hb d hd
    have:d=0∨d=1∨d=2:=by omega
    rcases this with rfl | rfl | rfl <;> rfl
   rw[eU (by show ds.length≤100000;omega) hf]
   refine⟨ds.map fun d=>if d=0 then 102 else if d=1 then 98 else 105,by simp,by simp[hl],fun x hx=>?_⟩
   obtain⟨d,_,rfl⟩:=zD.mp hx
   unfold bD;split
   ·exact .inl rfl
   ·split
    ·exact .inr (.inl rfl)
    ·exact .inr (.inr rfl)
  obtain⟨t,e2,hl2,ht⟩:=key
  rw[e2,yI,kK (by rw[mU];omega),mU]
  exact⟨t,rfl,hl2,ht⟩
def go (c:Nat):Int:=if c=102 then 1 else if c=98 then -1 else 0
def tw (t:Cd) (c:Nat):Int:=if t.1=[83]then go c else -go c
def cW (t:Cd) (i:Int):Nat:=t.2.1[i.toNat]?.getD 0
def lb (i:Int):Nat:=if i=1 then 115 else if i= -1 then 122 else 111
def behind (t:Cd) (c:Nat):Cd:=(t.1,t.2.1,(t.2.2+go c)% 4)
abbrev Pl:=Tx×Tx×Tx
def place (t:Cd) (c:Nat):Pl:=([cW t t.2.2],[cW t ((t.2.2+2)% 4)],[lb (tw t c)])
theorem wM (c:Nat): -1≤go c∧go c≤1:=by unfold go;split;omega;split <;> omega
theorem rG (t:Cd) (c:Nat): -1≤tw t c∧tw t c≤1:=by have:=wM c;unfold tw;split <;> omega
theorem Card.behind {t:Cd} (h:Card t) (c:Nat):Card (behind t c):=⟨h.lay,h.four,h.col,zW _ (by decide),zI _ (by decide)⟩
theorem uE {c:Nat} (h:bD c):ln [c]=.ok (go c):=by
 unfold ln wZ
 rcases h with rfl | rfl | rfl <;> rfl
theorem jj {t:Cd} {c:Nat} (h:bD c):gU t [c]=.ok (behind t c):=by
 unfold gU x0
 rw[uE h];rfl
theorem lc {t:Cd} {c:Nat} (h:bD c):gy t [c]=.ok (tw t c):=by
 unfold gy x3
 rw[uE h]
 by_cases z:t.1=[83]
 ·rw[if_pos (by simpa using z)];unfold tw;rw[if_pos z]
 ·rw[if_neg (by simpa using z)];unfold tw;rw[if_neg z];simp only[yI];congr 1;omega
theorem cV {t:Cd} (h:Card t) {i:Int} (h0:0≤i) (h1:i< 4):dC t.2.1 i=.ok [cW t i]:=vg h0 (by rw[h.four];exact h1) (by rw[h.four];decide)
theorem dO (i:Int):0≤i% 4∧i% 4< 4:=⟨zW _ (by decide),zI _ (by decide)⟩
theorem rH {i:Int} (h: -1≤i∧i≤1):dC ([122,111,115]:Tx) (i+1)=.ok [lb i]:=by
 have:i= -1∨i=0∨i=1:=by omega
 rcases this with rfl | rfl | rfl <;> rfl
def eH:Cd→Tx→List Pl
 | _,[]=>[]
 | t,c::r=>place (behind t c) c::eH (behind t c) r
def ends:Cd→Tx→Cd
 | t,[]=>t
 | t,c::r=>ends (behind t c) r
theorem md (t:Cd) (x:Tx):(eH t x).length=x.length:=by
 induction x generalizing t with
 | nil=>rfl
 | cons c r ih=>simp[eH,ih]
theorem rJ (x:Tx):∀(t:Cd) (c:Nat),ends t (x++ [c])=behind (ends t x) c:=by
 induction x with
 | nil=>intro t c;rfl
 | cons d r ih=>intro t c;simp[ends,ih]
theorem Card.ends {t:Cd} (h:Card t) (x:Tx):Card (ends t x):=by
 induction x generalizing t with
 | nil=>exact h
 | cons c r ih=>exact ih (h.behind c)
theorem oQ {t:Cd} (h:Card t) {c:Nat} (hc:bD c) {out:List Pl} (ho:out.length< 100000):vU gU gy [c] (t,out)=.ok (behind t c,out++ [place (behind t c) c]):=by
 unfold vU
 have hb:=h.behind c
 simp only[jj hc,yI,lc hc,rH (rG _ _),cV hb hb.low hb.high,cV hb (dO _).1 (dO _).2]
 rw[dH ho]
 rfl
theorem oR {t:Cd} (h:Card t) {x:Tx} (hx:fb x) (hl:x.length≤10000):tN t x=.ok (eH t x):=by
 unfold tN x4
 have key:∀(x:Tx) (t:Cd) (out:List Pl),Card t→fb x→out.length+x.length≤10000→bF (vU gU gy) (cv x) (t,out)=.ok (ends t x,out++eH t x):=by
  intro x
  induction x with
  | nil=>intro t out _ _ _;simp[cv,bF,ends,eH]
  | cons c r ih =>
   intro t out h hx hl
   simp only[AI]at hl
   show bF _ ([c]::cv r) _=_
   unfold bF
   rw[oQ h (hx c (by simp)) (by omega),yI,ih _ _ (h.behind c) (fun d hd=>hx d (by simp[hd])) (by simp;omega)]
   simp[ends,eH]
 rw[key x t [] h hx (by simpa using hl)]
 simp
def isCol (c:Nat):Prop:=97≤c∧c≤122
def isSl (c:Nat):Prop:=c=115∨c=122∨c=111
structure Mark (m:Pl):Prop where
 a:∃c,m.1=[c]∧(isCol c∨c=63)
 b:∃c,m.2.1=[c]∧(isCol c∨c=63)
 s:∃c,m.2.2=[c]∧(isSl c∨c=63)
structure Whole (m:Pl):Prop where
 a:∃c,m.1=[c]∧isCol c
 b:∃c,m.2.1=[c]∧isCol c
 s:∃c,m.2.2=[c]∧isSl c
theorem Whole.mark {m:Pl} (h:Whole m):Mark m:=by
 obtain⟨⟨a,h1,h2⟩,⟨b,h3,h4⟩,⟨s,h5,h6⟩⟩:=h
 exact⟨⟨a,h1,.inl h2⟩,⟨b,h3,.inl h4⟩,⟨s,h5,.inl h6⟩⟩
theorem ld {t:Cd} (h:Card t) {i:Int} (h0:0≤i) (h1:i< 4):isCol (cW t i):=by
 unfold cW
 have:i.toNat< t.2.1.length:=by rw[h.four];omega
 simp only[yM this,Cv]
 exact h.col _ (AG this)
theorem rK (i:Int):isSl (lb i):=by unfold lb isSl;split;exact .inl rfl;split;exact .inr (.inl rfl);exact .inr (.inr rfl)
theorem lg {t:Cd} (h:Card t) (c:Nat):Whole (place t c):=⟨⟨_,rfl,ld h h.low h.high⟩,⟨_,rfl,ld h (dO _).1 (dO _).2⟩,⟨_,rfl,rK _⟩⟩
theorem jS {t:Cd} (h:Card t) (x:Tx):∀m∈eH t x,Whole m:=by
 induction x generalizing t with
 | nil=>intro m hm;simp[eH]at hm
 | cons c r ih =>
  intro m hm
  rcases zq.mp hm with rfl | hm
  ·exact lg (h.behind c) c
  ·exact ih (h.behind c) m hm
theorem lh {c:Nat} (h:isCol c):∃j d,isCol d∧gp ([97,98,99,100,101,102,103,104,105,106,107,108,109,110,111,112,113,114,115,116,117,118,119,120,121,122,97]:Tx) [c]=.ok j∧dC ([97,98,99,100,101,102,103,104,105,106,107,108,109,110,111,112,113,114,115,116,117,118,119,120,121,122,97]:Tx) (j+1)=.ok [d]:=by
 have key:∀k:Fin 26,(match gp ([97,98,99,100,101,102,103,104,105,106,107,108,109,110,111,112,113,114,115,116,117,118,119,120,121,122,97]:Tx) [97+k.1]with | .ok j=>(match dC ([97,98,99,100,101,102,103,104,105,106,107,108,109,110,111,112,113,114,115,116,117,118,119,120,121,122,97]:Tx) (j+1)with | .ok [d]=>decide (97≤d∧d≤122) | _=>false) | _=>false)=true:=by decide
 obtain⟨k,rfl⟩:∃k:Fin 26,c=97+k.1:=⟨⟨c- 97,by have:=h.1;have:=h.2;omega⟩,by have:=h.1;show c=97+(c- 97);omega⟩
 have:=key k
 split at this
 ·rename_i j e
  split at this
  ·rename_i d e2
   exact⟨j,d,by simpa [isCol] using this,e,e2⟩
  ·cases this
 ·cases this
theorem u5 {c:Nat} (h:isSl c):∃j d,isSl d∧gp ([115,122,111]:Tx) [c]=.ok j∧dC ([122,111,115]:Tx) j=.ok [d]:=by
 rcases h with rfl | rfl | rfl
 ·exact⟨0,122,.inr (.inl rfl),rfl,rfl⟩
 ·exact⟨1,111,.inr (.inr rfl),rfl,rfl⟩
 ·exact⟨2,115,.inl rfl,rfl,rfl⟩
def u6 (l:List Tx):Prop:=∃a b c,l=[[a],[b],[c]]∧isCol a∧isCol b∧isSl c
theorem rL (cell:Int) {p:Pl} (hp:Whole p) {d:Int} (h0:0≤d) (h1:d< 64) {out:List Pl} (ho:out.length< 1000):(vW cell (p,d) out).Ok fun r=>∃m,Mark m∧r=out++ [m]:=by
 unfold vW
 obtain⟨⟨a,ea,ha⟩,⟨b,eb,hb⟩,⟨s,es,hs⟩⟩:=hp
 simp only[ea,eb,es]
 refine gD (Ag (P:=fun d'=>0≤d'∧d'< 64) (jY (fun _=>eN ⟨by omega,by omega⟩) fun _=>eN ⟨h0,h1⟩) fun d1 hd1=>?_)
 refine gD (Ag (P:=fun d'=>0≤d'∧d'< 64) (jY (fun _=>eN ⟨by omega,by omega⟩) fun _=>eN hd1) fun d2 hd2=>?_)
 have hm0:=zW d2 (show(3:Int)≠0 by decide)
 have hm1:=zI d2 (show(0:Int)< 3 by decide)
 have step1:((if(decide ((56:Int)≤d2))then yL (decide ((d2% 3)< (2:Int)))else yL false).bind fun y90=>(if y90 then(((((ic [[a],[b],[s]] (d2% 3)).bind fun y101=>gp ([97,98,99,100,101,102,103,104,105,106,107,108,109,110,111,112,113,114,115,116,117,118,119,120,121,122,97]:Tx) y101).bind fun y102=>yL (y102+(1:Int))).bind fun y103=>dC ([97,98,99,100,101,102,103,104,105,106,107,108,109,110,111,112,113,114,115,116,117,118,119,120,121,122,97]:Tx) y103).bind fun y107=>ie [[a],[b],[s]] (d2% 3) y107).bind fun y108=>yL y108 else yL [[a],[b],[s]]:Res (List Tx))).Ok u6:=by
  have dflt:u6 [[a],[b],[s]]:=⟨a,b,s,rfl,ha,hb,hs⟩
  refine gD (jY (fun _=>eN ?_) fun _=>eN dflt)
  refine jY (fun h2=>?_) fun _=>eN dflt
  generalize d2% 3=r at*
  have:r=0∨r=1:=by omega
  rcases this with rfl | rfl
  ·obtain⟨j,d,hd,e1,e2⟩:=lh ha
   simp only[show ic [[a],[b],[s]] 0=yL [a]from rfl,yI,e1,e2,show ie [[a],[b],[s]] 0 [d]=yL [[d],[b],[s]]from rfl]
   exact eN ⟨d,b,s,rfl,hd,hb,hs⟩
  ·obtain⟨j,d,hd,e1,e2⟩:=lh hb
   simp only[show ic [[a],[b],[s]] 1=yL [b]from rfl,yI,e1,e2,show ie [[a],[b],[s]] 1 [d]=yL [[a],[d],[s]]from rfl]
   exact eN ⟨a,d,s,rfl,ha,hd,hs⟩
 refine gD (step1.imp fun l1 ht=>?_)
 obtain⟨a,b,s,rfl,ha,hb,hs⟩:=ht
 have step2:((if(decide ((56:Int)≤d2))then yL (decide ((d2% 3)=(2:Int)))else yL false).bind fun y120=>(if y120 then((((ic [[a],[b],[s]] (2:Int)).bind fun y127=>gp ([115,122,111]:Tx) y127).bind fun y128=>dC ([122,111,115]:Tx) y128).bind fun y132=>ie [[a],[b],[s]] (2:Int) y132).bind fun y133=>yL y133 else yL [[a],[b],[s]]:Res (List Tx))).Ok u6:=by
  have dflt:u6 [[a],[b],[s]]:=⟨a,b,s,rfl,ha,hb,hs⟩
  refine gD (jY (fun _=>eN ?_) fun _=>eN dflt)
  refine jY (fun h2=>?_) fun _=>eN dflt
  obtain⟨j,d,hd,e1,e2⟩:=u5 hs
  simp only[show ic [[a],[b],[s]] 2=yL [s]from rfl,yI,e1,e2,show ie [[a],[b],[s]] 2 [d]=yL [[a],[b],[d]]from rfl]
  exact eN ⟨a,b,d,rfl,ha,hb,hd⟩
 refine gD (step2.imp fun l2 ht=>?_)
 obtain⟨a,b,s,rfl,ha,hb,hs⟩:=ht
 have cell1:∀(x:Nat) (k:Int),0< k→k< 10→∃y,((((gB d2 k).bind fun y158=>yL (y158% 2)).bind fun y159=>yL (decide (y159=(1:Int)))).bind fun y160=>if y160 then yL [x]else yL ([63]:Tx))=.ok [y]∧(y=x∨y=63):=fun x k k0 k1=>by
  rw[kJ k0 (by omega)]
  simp only[yI]
  by_cases h:d2/ k% 2=1
  ·rw[if_pos (by simpa using h)];exact⟨x,rfl,.inl rfl⟩
  ·rw[if_neg (by simpa using h)];exact⟨63,rfl,.inr rfl⟩
 obtain⟨x,ex,hx⟩:=cell1 a 1 (by decide) (by decide)
 obtain⟨y,ey,hy⟩:=cell1 b 2 (by decide) (by decide)
 obtain⟨z,ez,hz⟩:=cell1 s 4 (by decide) (by decide)
 have ec:dA ([[a],[b],[s]].zip [(1:Int),2,4]) (fun(a149:Tx×Int)=>(((gB d2 a149.2).bind fun y158=>yL (y158% 2)).bind fun y159=>yL (decide (y159=(1:Int)))).bind fun y160=>if y160 then yL a149.1 else yL ([63]:Tx))=.ok [[x],[y],[z]]:=by
  unfold dA
  rw[br (show([[a],[b],[s]].zip [(1:Int),2,4]).length≤cap from(by show 3≤100000;decide)),yI]
  show gJ _ [([a],(1:Int)),([b],2),([s],4)]=_
  simp only[gJ,ex,ey,ez,yI]
 simp only[ec,yI,vc,dH (show out.length< 100000 by omega)]
 refine⟨_,⟨⟨x,rfl,?_⟩,⟨y,rfl,?_⟩,⟨z,rfl,?_⟩⟩,rfl⟩
 ·rcases hx with rfl | rfl
  ·exact .inl ha
  ·exact .inr rfl
 ·rcases hy with rfl | rfl
  ·exact .inl hb
  ·exact .inr rfl
 ·rcases hz with rfl | rfl
  ·exact .inl hs
  ·exact .inr rfl
def Marks (n:Nat) (l:List Pl):Prop:=l.length=n∧∀m∈l,Mark m
theorem ge {α β:Type} {xs:List α} {ys:List β} {p:α×β} (h:p∈xs.zip ys):p.1∈xs∧p.2∈ys:=⟨(C1 h).1,(C1 h).2⟩
theorem rM {ps:List Pl} (hp:∀p∈ps,Whole p) (hl:ps.length≤900) (cell:Int) (lies:Bool):(tP ps cell lies).Ok (Marks ps.length):=by
 unfold tP x6
 have e0:∃b:Int,((i9 (8:Int) (if lies then(1:Int)else 0)).bind fun y9=>yL ((56:Int)+y9))=.ok b∧56≤b∧b≤64:=by
  cases lies
  ·exact⟨56,rfl,by decide,by decide⟩
  ·exact⟨64,rfl,by decide,by decide⟩
 obtain⟨b,eb,hb0,hb1⟩:=e0
 rw[eb,yI]
 obtain⟨ns,en,hn,hns⟩:=iL (cell/ 5) ps.length b (by omega) (by omega) (by omega)
 rw[en,yI]
 obtain⟨r,er,hr⟩:=da (f:=vW cell) (fun pre r=>Marks pre.length r) (ps.zip ns) [] ⟨rfl,by simp⟩ (by
  intro pre a post s e ⟨h1,h2⟩
  have ha:a∈ps.zip ns:=by rw[e];simp
  have hlen:pre.length< 900:=by have:=congrArg BH e;simp[B8,hn]at this;omega
  obtain⟨r,er,m,hm,rfl⟩:=(rL cell (hp _ (ge ha).1) (hns _ (ge ha).2).1 (by have:=(hns _ (ge ha).2).2;omega) (out:=s) (by omega)).ex
  refine⟨_,er,by simp[h1],fun x hx=>?_⟩
  rcases zE.mp hx with z | z
  ·exact h2 x z
  ·rw[C7.mp z];exact hm)
 rw[er]
 refine⟨by rw[hr.1,B8,hn];omega,hr.2⟩
theorem Marks.get {n:Nat} {l:List Pl} (h:Marks n l) {i:Int} (h0:0≤i) (h1:i< n):∃m,ic l i=.ok m∧Mark m:=by
 obtain⟨m,e,g⟩:=gO (xs:=l) h0 (by rw[h.1];exact h1)
 exact⟨m,e,h.2 m (zr g)⟩
theorem oS {p:Pl} (h:Mark p):Mark ([63],p.2.1,[63]):=⟨⟨63,rfl,.inr rfl⟩,h.b,⟨63,rfl,.inr rfl⟩⟩
theorem u7 {p:Pl} (hp:Mark p) {d k:Int} {out:List Pl} (ho:out.length< 1000):(vV (p,d) (k,out)).Ok fun r=>∃m,Mark m∧r.2=out++ [m]:=by
 unfold vV
 refine gD (Ag (P:=fun r:Int×Pl=>Mark r.2) (gD (Ag (P:=fun _=>True) (jY (fun _=>eN trivial) fun _=>eN trivial) fun b _=>xH (fun _=>eN (oS hp)) fun _=>eN hp)) fun r hr=>?_)
 rw[dH (show(k,out).2.length< 100000 from(by show out.length< 100000;omega))]
 exact⟨_,hr,rfl⟩
theorem vI (d:Int) (h0:0≤d) (h1:d< 3):∃c,dC ([115,122,111]:Tx) d=.ok [c]∧isSl c:=by
 obtain⟨c,e,h⟩:=fq (x:=([115,122,111]:Tx)) (i:=d) h0 (by simp;omega) (by decide)
 exact⟨c,e,by simpa [isSl] using zr h⟩
theorem u8 {ps:List Pl} (hp:∀p∈ps,Whole p) (hl:ps.length≤900) (h1:1≤ps.length) (cell:Int):(tO ps cell).Ok (Marks ps.length):=by
 unfold tO x5
 obtain⟨ns,en,hn,hns⟩:=iL (cell/ 3) ps.length 11 (by omega) (by decide) (by decide)
 rw[en,yI]
 obtain⟨r,er,hr⟩:=da (f:=vV) (fun pre (r:Int×List Pl)=>Marks pre.length r.2) (ps.zip ns) (0,[]) ⟨rfl,by simp⟩ (by
  intro pre a post s e ⟨h1,h2⟩
  have ha:a∈ps.zip ns:=by rw[e];simp
  have hlen:pre.length< 900:=by have:=congrArg BH e;simp[B8,hn]at this;omega
  obtain⟨k,out⟩:=s
  obtain⟨r,er,m,hm,e2⟩:=(u7 (hp _ (ge ha).1).mark (d:=a.2) (k:=k) (out:=out) (by have:out.length=pre.length:=h1;omega)).ex
  refine⟨r,er,by rw[e2];simp;exact h1,fun x hx=>?_⟩
  rw[e2]at hx
  rcases zE.mp hx with z | z
  ·exact h2 x z
  ·rw[C7.mp z];exact hm)
 rw[er,yI]
 have hr:Marks ps.length r.2:=⟨by rw[hr.1,B8,hn];omega,hr.2⟩
 refine gD (Ag (P:=Marks ps.length) (jY (fun _=>?_) fun _=>eN hr) fun r h=>eN h)
 rw[fS (by omega),yI]
 have b0:=zW (cell/ 3) (show(ps.length:Int)≠0 by omega)
 have b1:=zI (cell/ 3) (show(0:Int)< (ps.length:Int) by omega)
 generalize cell/ 3% (ps.length:Int)=i at b0 b1
 obtain⟨m,em,hm⟩:=hr.get b0 (by omega)
 obtain⟨c,ec,hc⟩:=vI (cell/ 7% 3) (zW _ (by decide)) (zI _ (by decide))
 simp only[em,yI,ec,sQ b0 (show i< r.2.length by rw[hr.1];exact b1)]
 refine⟨by simp[hr.1],fun x hx=>?_⟩
 rcases Dd hx with z | z
 ·exact hr.2 x z
 ·rw[z];exact⟨hm.a,hm.b,⟨c,rfl,.inl hc⟩⟩
theorem rN {n:Nat} {l:List Pl} (h:Marks n l) (hn:n≤900) (cell:Int):(tV l cell).Ok (Marks n):=by
 unfold tV xh
 refine gD (Ag (P:=fun _=>True) (jY (fun _=>eN trivial) fun _=>eN trivial) fun b _=>xH (fun _=>eN h) fun _=>?_)
 obtain⟨ns,en,hl,hns⟩:=iL (cell/ 8) l.length 5 (by rw[h.1];omega) (by decide) (by decide)
 rw[en,yI]
 obtain⟨ys,ey,hy,hP⟩:=qm (xs:=l.zip ns) (P:=fun x y=>Mark x.1→Mark y) (f:=fun(a17:(Tx×Tx×Tx)×Int)=>if(decide ((1:Int)< a17.2))then yL (([63]:Tx),([63]:Tx),([63]:Tx))else yL a17.1) (by rw[B8,hl,h.1];omega) (by
  intro x _
  by_cases z:1< x.2
  ·exact⟨_,if_pos (by simpa using z),fun _=>⟨⟨63,rfl,.inr rfl⟩,⟨63,rfl,.inr rfl⟩,⟨63,rfl,.inr rfl⟩⟩⟩
  ·exact⟨_,if_neg (by simpa using z),fun h=>h⟩)
 rw[ey]
 refine⟨by rw[hy,B8,hl,h.1];omega,fun m hm=>?_⟩
 obtain⟨i,hi⟩:=Bx.mp hm
 have hil:=(yR.mp hi).1
 rw[hy]at hil
 have e:=yM hil
 exact hP i _ m e hi (h.2 _ (ge (AG hil)).1)
def nE (t:Cd):Cd:=(if t.1=[83]then [90]else [83],[cW t 0,cW t 3,cW t 2,cW t 1],(0- t.2.2)% 4)
def mj (c:Nat):Nat:=if c=102 then 98 else if c=98 then 102 else c
def nG (t:Cd) (k:Int):Cd:=(t.1,[cW t ((0- k)% 4),cW t ((1- k)% 4),cW t ((2- k)% 4),cW t ((3- k)% 4)],(t.2.2+k)% 4)
theorem li {t:Cd} (h:Card t):tQ t=.ok (nE t):=by
 unfold tQ x8
 have e1:((gp ([83,90]:Tx) t.1).bind fun y5=>dC ([90,83]:Tx) y5)=.ok (if t.1=[83]then [90]else [83]):=by
  rcases h.lay with e | e <;> rw[e] <;> rfl
 rw[e1]
 simp only[yI,cV h (show(0:Int)≤0 by decide) (by decide),cV h (show(0:Int)≤3 by decide) (by decide),cV h (show(0:Int)≤2 by decide) (by decide),cV h (show(0:Int)≤1 by decide) (by decide)]
 rfl
theorem rO {t:Cd} (h:Card t) {x:Tx} (e:∀c∈x,∃i:Int,0≤i∧i< 4∧c=cW t i):∀c∈x,97≤c∧c≤122:=fun c hc=>by
 obtain⟨i,h0,h1,rfl⟩:=e c hc
 unfold cW
 have:i.toNat< t.2.1.length:=by rw[h.four];omega
 simp only[yM this,Cv]
 exact h.col _ (AG this)
theorem Card.flip {t:Cd} (h:Card t):Card (nE t):=by
 refine⟨?_,rfl,rO h fun c hc=>?_,(dO _).1,(dO _).2⟩
 ·unfold nE;split
  ·exact .inr rfl
  ·exact .inl rfl
 ·have:c=cW t 0∨c=cW t 3∨c=cW t 2∨c=cW t 1:=by simpa [nE] using hc
  rcases this with rfl | rfl | rfl | rfl
  ·exact⟨0,by decide,by decide,rfl⟩
  ·exact⟨3,by decide,by decide,rfl⟩
  ·exact⟨2,by decide,by decide,rfl⟩
  ·exact⟨1,by decide,by decide,rfl⟩
theorem Card.roll {t:Cd} (h:Card t) (k:Int):Card (nG t k):=by
 refine⟨h.lay,rfl,rO h fun c hc=>?_,(dO _).1,(dO _).2⟩
 have:c=cW t ((0- k)% 4)∨c=cW t ((1- k)% 4)∨c=cW t ((2- k)% 4)∨c=cW t ((3- k)% 4):=by simpa [nG] using hc
 rcases this with rfl | rfl | rfl | rfl <;> exact⟨_,(dO _).1,(dO _).2,rfl⟩
theorem u9 {t:Cd} (h:Card t) (k:Int):tS t k=.ok (nG t k):=by
 unfold tS xb
 rw[show eT (4:Int)=yL [(0:Int),1,2,3]from rfl,yI]
 rw[eU (g:=fun i:Int=>[cW t ((i- k)% 4)]) (by decide) (fun i _=>cV h (dO _).1 (dO _).2)]
 rfl
theorem rP {c:Nat} (h:bD c):bD (mj c):=by
 unfold mj;rcases h with rfl | rfl | rfl
 ·exact .inr (.inl rfl)
 ·exact .inl rfl
 ·exact .inr (.inr rfl)
theorem uc {x:Tx} (h:fb x) (hl:x.length≤10000):tR x=.ok (x.map mj):=by
 unfold tR x9
 rw[eU (g:=fun t:Tx=>[mj (t.headD 0)]) (by show(cv x).length≤100000;simp[cv];omega) (fun t ht=>by
  obtain⟨c,hc,rfl⟩:=ft ht
  rcases h c hc with rfl | rfl | rfl <;> rfl),yI]
 have e:((cv x).map fun t:Tx=>[mj (t.headD 0)])=(x.map mj).map fun c=>[c]:=by simp[cv]
 rw[e,kK (by rw[mU];simp;omega),mU]
theorem mm {x:Tx} (h:fb x):fb (x.map mj):=fun c hc=>by
 obtain⟨d,hd,rfl⟩:=zD.mp hc;exact rP (h d hd)
theorem nH (i:Int) (l:List Int) (hl:l.length< 1000):∃l',vX i l=.ok l'∧(∀x,x∈l'↔x∈l∨x=i)∧(l.Nodup→l'.Nodup)∧l'.length≤l.length+1:=by
 unfold vX
 by_cases h:i∈l
 ·refine⟨l,?_,fun x=>⟨.inl,fun z=>z.elim id fun e=>e▸h⟩,id,by omega⟩
  rw[if_neg (by simp[h])];rfl
 ·refine⟨l++ [i],?_,fun x=>by simp,fun hn=>?_,by simp⟩
  ·rw[if_pos (by simp[h]),dH (by omega)];rfl
  ·rw[EM];exact⟨hn,by simp,fun a ha b hb=>by simp at hb;subst hb;intro e;subst e;exact h ha⟩
def uF (t:Cd) (x:Tx) (i:Int):Prop:=∃k,0< k∧k≤x.length∧(i=(ends t (x.take k)).2.2∨i=((ends t (x.take k)).2.2+2)% 4)
theorem ud {t:Cd} (h:Card t) {x:Tx} (hx:fb x) (hl:x.length≤900):∃l,tT t x=.ok l∧l.Pairwise (· ≤ ·)∧l.Nodup∧(∀i∈l,0≤i∧i< 4)∧∀i,i∈l↔uF t x i:=by
 unfold tT xc
 obtain⟨s,e,h1,h2,h3,h4⟩:=da (f:=wI gU) (fun pre (s:Cd×List Int)=>s.1=ends t (x.take pre.length)∧s.2.Nodup∧(∀i∈s.2,0≤i∧i< 4)∧∀i,i∈s.2↔∃k,0< k∧k≤pre.length∧(i=(ends t (x.take k)).2.2∨i=((ends t (x.take k)).2.2+2)% 4)) (cv x) (t,[])
  ⟨by simp[ends],by simp,by simp,fun i=>⟨fun z=>by simp at z,fun⟨k,a,b,_⟩=>by simp at b;omega⟩⟩ (by
  intro pre a post s e ⟨h1,h2,h3,h4⟩
  have ha:a∈cv x:=by rw[e];simp
  obtain⟨c,hc,rfl⟩:=ft ha
  have hlen:pre.length< x.length:=by have:=congrArg BH e;simp[cv]at this;omega
  have hget:x[pre.length]? =some c:=by
   have:=congrArg (fun l=>l[pre.length]?) e
   simp only[cv,yT,zd (yP _),Cj,As]at this
   cases z:x[pre.length]? with
   | none=>rw[z]at this;cases this
   | some d=>rw[z]at this;simp at this;rw[this]
  have htake:x.take (pre.length+1)=x.take pre.length++ [c]:=by
   rw[List.take_add_one,hget];rfl
  have small:s.2.length≤4:=by
   have hsub:s.2 ⊆ [(0:Int),1,2,3]:=fun i hi=>by
    have:=h3 i hi
    have:i=0∨i=1∨i=2∨i=3:=by omega
    simpa using this
   exact(CA h2 hsub)
  unfold wI
  rw[h1,jj (hx c hc),yI]
  have hB:Card (behind (ends t (x.take pre.length)) c):=(h.ends _).behind c
  generalize hbe:behind (ends t (x.take pre.length)) c=B at hB ⊢
  obtain⟨l1,e1,m1,n1,k1⟩:=nH B.2.2 s.2 (by omega)
  obtain⟨l2,e2,m2,n2,k2⟩:=nH ((B.2.2+2)% 4) l1 (by omega)
  have el:bF vX [B.2.2,(B.2.2+2)% 4] s.2=.ok l2:=by simp only[bF,e1,e2,yI]
  rw[el]
  have hE:ends t (x.take (pre.length+1))=B:=by rw[htake,rJ,hbe]
  refine⟨(B,l2),rfl,by simp[hE],n2 (n1 h2),fun i hi=>?_,fun i=>?_⟩
  ·rcases (m2 i).mp hi with z | z
   ·rcases (m1 i).mp z with z | z
    ·exact h3 i z
    ·rw[z];exact⟨hB.low,hB.high⟩
   ·rw[z];exact dO _
  ·rw[m2,m1,h4]
   constructor
   ·rintro ((⟨k,a,b,z⟩ | z) | z)
    ·exact⟨k,a,by simp;omega,z⟩
    ·exact⟨pre.length+1,by omega,by simp,.inl (by rw[hE];exact z)⟩
    ·exact⟨pre.length+1,by omega,by simp,.inr (by rw[hE];exact z)⟩
   ·rintro ⟨k,a,b,z⟩
    simp at b
    rcases Nat.lt_or_ge k (pre.length+1)with q | q
    ·exact .inl (.inl ⟨k,a,by omega,z⟩)
    ·have:k=pre.length+1:=by omega
     subst this
     rw[hE]at z
     rcases z with z | z
     ·exact .inl (.inr z)
     ·exact .inr z)
 rw[e,yI]
 have hsub:s.2 ⊆ [(0:Int),1,2,3]:=fun i hi=>by
  have:=h3 i hi
  have:i=0∨i=1∨i=2∨i=3:=by omega
  simpa using this
 have small:=(CA h2 hsub)
 simp only[AI,CS]at small
 rw[qk (by omega)]
 have pm:=gC s.2
 refine⟨_,rfl,j9 _,pm.nodup_iff.mpr h2,fun i hi=>h3 i (pm.mem_iff.mp hi),fun i=>?_⟩
 rw[pm.mem_iff,h4]
 unfold uF
 simp[cv]
theorem vJ (d:Int) (h0:0≤d) (h1:d< 26):∃c,dC ([97,98,99,100,101,102,103,104,105,106,107,108,109,110,111,112,113,114,115,116,117,118,119,120,121,122]:Tx) d=.ok [c]∧97≤c∧c≤122:=by
 obtain⟨c,e,h⟩:=fq (x:=([97,98,99,100,101,102,103,104,105,106,107,108,109,110,111,112,113,114,115,116,117,118,119,120,121,122]:Tx)) (i:=d) h0 (by simp;omega) (by decide)
 have:∀c∈([97,98,99,100,101,102,103,104,105,106,107,108,109,110,111,112,113,114,115,116,117,118,119,120,121,122]:Tx),97≤c∧c≤122:=by decide
 exact⟨c,e,this c (zr h)⟩
def ue (t:Cd) (i:Nat) (c:Nat):Cd:=(t.1,t.2.1.set i c,t.2.2)
theorem Card.dye {t:Cd} (h:Card t) (i:Nat) {c:Nat} (h0:97≤c) (h1:c≤122):Card (ue t i c):=⟨h.lay,by simp[ue,h.four],fun x hx=>by
 rcases Dd hx with z | z
 ·exact h.col x z
 ·rw[z];exact⟨h0,h1⟩,h.low,h.high⟩
theorem uf {x:Tx} {i c:Nat} (h:i< x.length):x.take i++ [c]++x.drop (i+1)=x.set i c:=by
 rw[List.set_eq_take_append_cons_drop,if_pos h];simp
theorem vK {t:Cd} (h:Card t) {i:Nat} (hi:i< 4) (c:Nat):((((o7 t.2.1 none (some (i:Int))).bind fun y83=>iS y83 [c]).bind fun y84=>(o7 t.2.1 (some ((i:Int)+(1:Int))) none).bind fun y85=>iS y84 y85).bind fun y86=>yL (t.1,y86,t.2.2))=.ok (ue t i c):=by
 have hl:t.2.1.length≤100000:=by rw[h.four];decide
 rw[mT hl,kM,yI,jG (by simp;have:=h.four;omega),yI,show(i:Int)+1=((i+1:Nat):Int)from rfl,mT hl,qo,yI,jG (by simp;have:=h.four;omega),yI,uf (by rw[h.four];exact hi)]
 rfl
theorem vL (cell:Int) (l:List Int) {t:Cd} (h:Card t) {i:Nat} (hi:i< 4):∃t',vY cell l (i:Int) t=.ok t'∧Card t'∧(t'=t∨((i:Int)∉l∧∃c,t'=ue t i c)):=by
 unfold vY
 by_cases z:(i:Int)∈l
 ·rw[if_neg (by simp[z])];exact⟨t,rfl,h,.inl rfl⟩
 ·rw[if_pos (by simp[z]),iw (by omega) (by omega)]
  simp only[yI]
  obtain⟨c,e,h0,h1⟩:=vJ ((cell/ 16+5*(i:Int))% 26) (zW _ (by decide)) (zI _ (by decide))
  rw[e]
  simp only[yI]
  have:=vK h hi c
  rw[this]
  exact⟨_,rfl,h.dye i h0 h1,.inr ⟨z,c,rfl⟩⟩
theorem vM {t:Cd} (h:Card t) {x:Tx} (hx:fb x) (hl:x.length≤900) (cell:Int):(tU t x cell).Ok fun r=>Card r.1∧fb r.2∧r.2.length=x.length:=by
 unfold tU xf
 refine gD (Ag (P:=fun r:Cd×Tx=>Card r.1∧fb r.2∧r.2.length=x.length) (jY (fun _=>?_) fun _=>eN ⟨h,hx,rfl⟩) fun r ⟨h1,h2,h3⟩=>?_)
 ·rw[li h,yI,uc hx (by omega),yI]
  exact⟨h.flip,mm hx,by simp⟩
 ·rw[u9 h1,yI]
  have hr:=h1.roll (cell/ 2% 4)
  generalize nG r.1 (cell/ 2% 4)=R at hr ⊢
  refine gD (Ag (P:=Card) (jY (fun _=>?_) fun _=>eN hr) fun c hc=>eN ⟨hc,h2,h3⟩)
  obtain⟨l,el,_⟩:=ud hr h2 (by omega)
  rw[el,yI,show eT (4:Int)=yL ((Aj 4).map fun(i:Nat)=>(i:Int))from rfl,yI]
  obtain⟨s,es,hs⟩:=da (f:=vY cell l) (fun pre s=>Card s) ((Aj 4).map fun(i:Nat)=>(i:Int)) R hr (by
   intro pre a post s e hs
   have ha:a∈(Aj 4).map fun(i:Nat)=>(i:Int):=by rw[e];simp
   obtain⟨i,hi,rfl⟩:=zD.mp ha
   obtain⟨t',e',h',_⟩:=vL cell l hs (BE.mp hi)
   exact⟨t',e',h'⟩)
  rw[es]
  exact hs
theorem ug {s:List Int} (hs:s.length≤63) (most:Nat) (hm:most≤24):(si s (most:Int)).Ok fun r=>Card r.1∧(∃n,n≤60∧Marks n r.2.1)∧0≤r.2.2∧r.2.2< 4:=by
 unfold si xg
 obtain⟨c0,e0⟩:=iK hs 0 (by decide)
 obtain⟨c1,e1⟩:=iK hs 1 (by decide)
 obtain⟨c2,e2⟩:=iK hs 2 (by decide)
 obtain⟨c3,e3⟩:=iK hs 3 (by decide)
 obtain⟨c4,e4⟩:=iK hs 4 (by decide)
 obtain⟨t,et,ht⟩:=nB c0
 rw[show fJ s 0=.ok c0 from e0,show fJ s 1=.ok c1 from e1,show fJ s 2=.ok c2 from e2,show fJ s 3=.ok c3 from e3,show fJ s 4=.ok c4 from e4]
 simp only[yI,et]
 rw[fS (by omega),yI]
 have z0:=zW c2 (show(most:Int)+1≠0 by omega)
 have z1:=zI c2 (show(0:Int)< (most:Int)+1 by omega)
 refine gD (Ag (P:=fun d=>0≤d∧d≤60) (jY (fun _=>eN ⟨by omega,by omega⟩) fun _=>eN ⟨z0,by omega⟩) fun d1 hd1=>?_)
 refine gD (Ag (P:=fun d=>0≤d∧d≤60) (jY (fun _=>eN ⟨by omega,by omega⟩) fun _=>eN hd1) fun d2 hd2=>?_)
 obtain⟨n,rfl⟩:∃n:Nat,d2=(n:Int):=⟨d2.toNat,by omega⟩
 obtain⟨x,ex,hxl,hx⟩:=rF c1 n (by omega)
 rw[ex]
 simp only[yI,oR ht hx (show x.length≤10000 by omega)]
 have hw:=jS ht x
 have hpl:=md t x
 refine gD (Ag (P:=Marks n) (jY (fun z=>?_) fun _=>?_) fun l hl=>?_)
 ·refine gD (Ag (u8 hw (by omega) (by omega) c3) fun r hr=>eN ?_)
  rw[hpl,hxl]at hr;exact hr
 ·refine gD (Ag (rM hw (by omega) (c3/ 3) _) fun r hr=>eN ?_)
  rw[hpl,hxl]at hr;exact hr
 ·refine gD (Ag (P:=Card) (jY (fun _=>?_) fun _=>eN ht) fun t1 h1=>?_)
  ·exact gD (gD ((vM ht hx (by omega) _).imp fun r hr=>eN (eN hr.1)))
  ·refine gD (Ag (P:=Card) (jY (fun _=>?_) fun _=>eN h1) fun t2 h2=>?_)
   ·obtain⟨t',e',h'⟩:=nB (c4/ 4/ 6)
    rw[e'];exact h'
   ·exact⟨h2,⟨n,by omega,hl⟩,(dO _).1,(dO _).2⟩
def standAt (t:Cd) (i:Int):Cd:=(t.1,t.2.1,(if t.1=[83]then t.2.2+i else t.2.2- i)% 4)
def fits (p m:Pl):Bool:=(decide (m.1=[63]) || decide (m.1=p.1)) && ((decide (m.2.1=[63]) || decide (m.2.1=p.2.1)) && (decide (m.2.2=[63]) || decide (m.2.2=p.2.2)))
theorem Card.standAt {t:Cd} (h:Card t) (i:Int):Card (standAt t i):=⟨h.lay,h.four,h.col,(dO _).1,(dO _).2⟩
theorem vN {t:Cd} (h:Card t):gd t=.ok [cW t t.2.2]:=by
 unfold gd ny
 rw[show t.2.2% 4=t.2.2 from Int.emod_eq_of_lt h.low h.high,cV h h.low h.high]
theorem oT {t:Cd} (h:Card t):tY t=.ok [cW t ((t.2.2+2)% 4)]:=by
 unfold tY xo;rw[cV h (dO _).1 (dO _).2]
theorem gE {t:Cd} {c:Nat} (h:bD c):m8 t [c]=.ok (tw t c):=by
 unfold m8 xl
 have e:getD ([([102],1),([98],(-1)),([105],0)]:List (Tx×Int)) [c]=.ok (go c):=by rcases h with rfl | rfl | rfl <;> rfl
 rw[e,yI]
 by_cases z:t.1=[83]
 ·rw[if_pos (by simpa using z)];unfold tw;rw[if_pos z]
 ·rw[if_neg (by simpa using z)];unfold tw;rw[if_neg z]
theorem oU {i:Int} (h: -1≤i∧i≤1):getD ([(1,[115]),((-1),[122]),(0,[111])]:List (Int×Tx)) i=.ok [lb i]:=by
 have:i= -1∨i=0∨i=1:=by omega
 rcases this with rfl | rfl | rfl <;> rfl
theorem uh {t:Cd} (h:Card t) {c:Nat} (hc:bD c):tZ t [c]=.ok (place t c):=by
 unfold tZ xp
 simp only[vN h,oT h,gE hc,yI,oU (rG t c)]
 rfl
theorem mn (t:Cd) (i:Int):tX t i=.ok (standAt t i):=by
 unfold tX xn standAt
 by_cases z:t.1=[83]
 ·rw[if_pos (by simpa using z),if_pos z];rfl
 ·rw[if_neg (by simpa using z),if_neg z];rfl
theorem rQ (a b:Tx):sm a b=.ok (decide (b=[63]) || decide (b=a)):=by
 unfold sm xq
 by_cases z:b=[63]
 ·rw[if_pos (by simpa using z),decide_eq_true z];rfl
 ·rw[if_neg (by simpa using z),decide_eq_false z];rfl
theorem oV (p m:Pl):u0 p m=.ok (fits p m):=by
 unfold u0 xr
 rw[eU (g:=fun a1:Tx×Tx=>decide (a1.2=[63]) || decide (a1.2=a1.1)) (by show 3≤100000;decide) (fun x _=>rQ x.1 x.2),yI]
 congr 1
 simp[fits]
theorem oW {t:Cd} (h:Card t) (s:Int×Int) {c:Nat} (hc:bD c) (m:Pl):rp t s [c] m=.ok (fits (place (standAt t s.1) c) m):=by
 unfold rp xt
 simp only[mn,yI,uh (h.standAt _) hc,oV]
def aG (t:Cd) (s:Int×Int) (c:Nat):Int×Int:=(s.1+tw t c,if c=105 then s.2+1 else 0)
theorem rR {t:Cd} (s:Int×Int) {c:Nat} (hc:bD c):sk t s [c]=.ok (aG t s c):=by
 unfold sk xm aG
 simp only[gE hc,yI]
 by_cases z:c=105
 ·rw[if_pos (by simp[z]),if_pos z];rfl
 ·rw[if_neg (by simp[z]),if_neg z];rfl
def d6 (s:Int×Int) (loose bound:Int):Bool:=decide (ca s.1≤bound) && decide (s.2≤loose)
theorem jk (s:Int×Int) (loose bound:Int):l8 s loose bound=.ok (d6 s loose bound):=by
 unfold l8 xk d6
 by_cases z:ca s.1≤bound
 ·rw[if_pos (by simpa using z),decide_eq_true z];rfl
 ·rw[if_neg (by simpa using z),decide_eq_false z];rfl
def fc (t:Cd) (loose bound:Int) (s:Int×Int) (c:Nat) (m:Pl):Bool:=d6 (aG t s c) loose bound && fits (place (standAt t (aG t s c).1) c) m
theorem absI_le {i b:Int} :ca i≤b↔ -b≤i∧i≤b:=by unfold ca;split <;> omega
def p6 (t:Cd) (mk:Pl) (loose bound:Int) (s:Int×Int):List Nat:=[102,98,105].filter fun c=>fc t loose bound s c mk
theorem mem_onw {t:Cd} {mk:Pl} {loose bound:Int} {s:Int×Int} {c:Nat} :c∈p6 t mk loose bound s↔bD c∧fc t loose bound s c mk=true:=by
 unfold p6
 rw[DI]
 simp[bD]
theorem oX {t:Cd} (h:Card t) (mk:Pl) (loose bound:Int) (s:Int×Int):rq t mk loose bound s=.ok ((p6 t mk loose bound s).map fun c=>([c],aG t s c)):=by
 unfold rq xu p6
 rw[eU (g:=fun a:Tx=>(a,aG t s (a.headD 0))) (by show 3≤100000;decide) (fun a ha=>by
  obtain⟨c,hc,rfl⟩:=ft ha
  have ht:bD c:=by simpa [bD] using hc
  rw[rR s ht];rfl),yI]
 rw[ql (g:=fun a:Tx×(Int×Int)=>if fc t loose bound s (a.1.headD 0) mk=true then some a else none) (by show 3≤100000;decide) (fun a ha=>by
  obtain⟨x,hx,rfl⟩:=zD.mp ha
  obtain⟨c,hc,rfl⟩:=ft hx
  have ht:bD c:=by simpa [bD] using hc
  show((l8 (aG t s c) loose bound).bind fun y=>if y then rp t (aG t s c) [c] mk else yL false).bind (fun y=>if y then yL (some ([c],aG t s c))else yL none)=_
  rw[jk,yI,oW h _ ht]
  show _=yL (if fc t loose bound s c mk=true then some ([c],aG t s c)else none)
  unfold fc
  cases d6 (aG t s c) loose bound <;> cases fits (place (standAt t (aG t s c).1) c) mk <;> rfl)]
 show yL (List.filterMap _ [([102],aG t s 102),([98],aG t s 98),([105],aG t s 105)])=_
 cases h1:fc t loose bound s 102 mk <;> cases h2:fc t loose bound s 98 mk <;> cases h3:fc t loose bound s 105 mk <;> simp[h1,h2,h3]
theorem mq:∀(n:Nat) (l:List Nat),l.Nodup→(∀x∈l,x< n)→l.length≤n
 | 0, l, _, h => by
  cases l with
  | nil=>simp
  | cons a l=>exact absurd (h a (zk ..)) (by omega)
 | n + 1, l, nd, h => by
  by_cases z:n∈l
  ·have:=mq n (l.erase n) (nd.erase n) fun x hx=>by
    have h1:=h x (Cs hx)
    have h2:x≠n:=fun e=>by subst e;exact(BX nd) hx
    omega
   rw[BY z]at this
   omega
  ·have:=mq n l nd fun x hx=>by
    have h1:=h x hx
    have h2:x≠n:=fun e=>z (e▸hx)
    omega
   omega
theorem jT {α:Type} (pre:List α) (a:α):ic (pre++ [a]) (-(1:Int))=.ok a:=by
 have e:p4 (pre++ [a]) (-1)=some a:=by
  unfold p4 ixN
  rw[if_neg (by decide),if_pos (by simp;omega)]
  show(pre++ [a])[_]? =some a
  have:(-1+((pre++ [a]).length:Int)).toNat=pre.length:=by simp;omega
  rw[this]
  simp
 unfold ic
 rw[e]
 rfl
def gV (p:Int×Int):Prop:= -60≤p.1∧p.1≤60∧0≤p.2∧p.2≤3
theorem jU {l:List (Int×Int)} (nd:l.Nodup) (h:∀p∈l,gV p):l.length≤484:=by
 have nd2:(l.map fun p=>((p.1+60)*4+p.2).toNat).Nodup:=by
  rw[zO,Bb]
  refine(zO.mp nd).imp_of_mem fun {a b} ha hb hne e=>hne ?_
  have h1:=h a ha
  have h2:=h b hb
  unfold gV at h1 h2
  exact D4 (by omega) (by omega)
 have:=mq 484 _ nd2 fun x hx=>by
  obtain⟨p,hp,rfl⟩:=zD.mp hx
  have h1:=h p hp
  unfold gV at h1
  omega
 simpa using this
theorem jV {t:Cd} {mk:Pl} {loose bound:Int} (hl:loose≤3) (hb:bound≤60) {s:Int×Int} (hs:gV s) {c:Nat} (h:fc t loose bound s c mk=true):gV (aG t s c):=by
 unfold fc d6 at h
 simp only[Dv,decide_eq_true_eq]at h
 have h1:=absI_le.mp h.1.1
 have h2:=h.1.2
 unfold gV at hs ⊢
 refine⟨by omega,by omega,?_,by omega⟩
 unfold aG
 dsimp only
 split <;> omega
def Nx (t:Cd) (mk:Pl) (loose bound:Int) (l:List (Int×Int)) (p:Int×Int):Prop:=∃s∈l,∃c,bD c∧fc t loose bound s c mk=true∧p=aG t s c
theorem Nx.inb {t:Cd} {mk:Pl} {loose bound:Int} (hl:loose≤3) (hb:bound≤60) {l:List (Int×Int)} (h:∀p∈l,gV p) {p:Int×Int} (n:Nx t mk loose bound l p):gV p:=by
 obtain⟨s,hs,c,_,hm,rfl⟩:=n
 exact jV hl hb (h s hs) hm
theorem rS {t:Cd} {mk:Pl} {loose bound:Int} {p:Int×Int} :¬Nx t mk loose bound [] p:=fun⟨s,hs,_⟩=>by cases hs
theorem nI {t:Cd} {mk:Pl} {loose bound:Int} {l:List (Int×Int)} {a p:Int×Int} :Nx t mk loose bound (l++ [a]) p↔Nx t mk loose bound l p∨∃c∈p6 t mk loose bound a,p=aG t a c:=by
 constructor
 ·rintro ⟨q,hq,c,hc,hm,rfl⟩
  rcases zE.mp hq with hq | hq
  ·exact .inl ⟨q,hq,c,hc,hm,rfl⟩
  ·have:q=a:=by simpa using hq
   subst this
   exact .inr ⟨c,mem_onw.mpr ⟨hc,hm⟩,rfl⟩
 ·rintro (⟨q,hq,z⟩ | ⟨c,hc,rfl⟩)
  ·exact⟨q,by simp[hq],z⟩
  ·exact⟨a,by simp,c,(mem_onw.mp hc).1,(mem_onw.mp hc).2,rfl⟩
def jW (ks:List (Int×Int)) (k:Int×Int):List (Int×Int):=if k∈ks then ks else k::ks
theorem addP_mem {ks:List (Int×Int)} {k p:Int×Int} :p∈jW ks k↔p∈ks∨p=k:=by
 unfold jW
 split
 ·rename_i z
  exact⟨.inl,fun h=>h.elim id fun e=>e▸z⟩
 ·rw[zq];exact⟨fun h=>h.symm,fun h=>h.symm⟩
theorem nJ {ks:List (Int×Int)} (h:ks.Nodup) (k:Int×Int):(jW ks k).Nodup:=by
 unfold jW
 split
 ·exact h
 ·rename_i z
  exact AB.mpr ⟨z,h⟩
def oY (l ks:List (Int×Int)):List (Int×Int):=l.foldl jW ks
theorem gW:∀(l ks:List (Int×Int)),ks.Nodup→(oY l ks).Nodup∧∀p,p∈oY l ks↔p∈ks∨p∈l
 | [],ks,h=>⟨h,fun p=>by simp[oY]⟩
 | a :: l, ks, h => by
  have ih:=gW l (jW ks a) (nJ h a)
  refine⟨ih.1,fun p=>?_⟩
  show p∈oY l (jW ks a)↔_
  rw[ih.2,addP_mem,zq,or_assoc]
def lq (t:Cd) (mk:Pl) (loose bound:Int) (l:List (Int×Int)):List (Int×Int):=cS (oY (l.flatMap fun s=>(p6 t mk loose bound s).map (aG t s)) [])
theorem lj {t:Cd} {mk:Pl} {loose bound:Int} {l:List (Int×Int)} {p:Int×Int} :p∈(l.flatMap fun s=>(p6 t mk loose bound s).map (aG t s))↔Nx t mk loose bound l p:=by
 rw[List.mem_flatMap]
 constructor
 ·rintro ⟨s,hs,h⟩
  obtain⟨c,hc,rfl⟩:=zD.mp h
  exact⟨s,hs,c,(mem_onw.mp hc).1,(mem_onw.mp hc).2,rfl⟩
 ·rintro ⟨s,hs,c,h1,h2,rfl⟩
  exact⟨s,hs,zD.mpr ⟨c,mem_onw.mpr ⟨h1,h2⟩,rfl⟩⟩
theorem mem_nxt {t:Cd} {mk:Pl} {loose bound:Int} {l:List (Int×Int)} {p:Int×Int} :p∈lq t mk loose bound l↔Nx t mk loose bound l p:=by
 unfold lq
 rw[(dn _).mem_iff,(gW _ [] Co).2,lj]
 simp
theorem mt {t:Cd} {mk:Pl} {loose bound:Int} {l S:List (Int×Int)} (nd:S.Nodup) (h:∀p,p∈S↔Nx t mk loose bound l p):cS S=lq t mk loose bound l:=by
 refine fI ((dn S).trans ?_) (iz S)
 have g:=gW (l.flatMap fun s=>(p6 t mk loose bound s).map (aG t s)) [] Co
 exact(List.perm_ext_iff_of_nodup nd g.1).mpr fun p=>by rw[h,g.2,lj];simp
theorem rV (ys:List (Tx×(Int×Int))) (s0:List (Int×Int)) (nd:s0.Nodup) (h0:∀p∈s0,gV p) (hy:∀a∈ys,gV a.2):
  bF (fun(a:Tx×(Int×Int)) (s:List (Int×Int))=>kO s a.2) ys s0=.ok (oY (ys.map (·.2)) s0):=by
 induction ys generalizing s0 with
 | nil=>rfl
 | cons a ys ih =>
  have hl:=jU nd h0
  show(kO s0 a.2).bind _=_
  rw[show kO s0 a.2=.ok (jW s0 a.2)from br (by omega),yI]
  exact ih (jW s0 a.2) (nJ nd _) (fun p hp=>by
   rcases addP_mem.mp hp with z | z
   ·exact h0 p z
   ·rw[z];exact hy a (zk ..)) fun b hb=>hy b (zh _ hb)
theorem rW {t:Cd} (h:Card t) (mk:Pl) {loose bound:Int} (hl:loose≤3) (hb:bound≤60) {states:List (Int×Int)} (hs:∀p∈states,gV p):m9 t mk loose bound states=.ok (lq t mk loose bound states):=by
 unfold m9 xv
 obtain⟨s,e,h1,h2⟩:=da (f:=fun(a:Int×Int) (s:List (Int×Int))=>(rq t mk loose bound a).bind fun y=>bF (fun(a:Tx×(Int×Int)) (s:List (Int×Int))=>kO s a.2) y s)
  (fun pre s=>s.Nodup∧∀p,p∈s↔Nx t mk loose bound pre p) states [] ⟨Co,fun p=>⟨fun z=>(by cases z),fun z=>absurd z rS⟩⟩ (by
  intro pre a post s e ⟨h1,h2⟩
  have ha:gV a:=hs a (by rw[e];simp)
  have hp:∀p∈pre,gV p:=fun p hp=>hs p (by rw[e];simp[hp])
  rw[oX h,yI,rV _ s h1 (fun p hq=>((h2 p).mp hq).inb hl hb hp) (fun b hb'=>by
   obtain⟨c,hc,rfl⟩:=zD.mp hb'
   exact jV hl hb ha (mem_onw.mp hc).2)]
  have g:=gW (((p6 t mk loose bound a).map fun c=>(([c]:Tx),aG t a c)).map (·.2)) s h1
  refine⟨_,rfl,g.1,fun p=>?_⟩
  rw[g.2,h2,nI,Bq,zD]
  exact or_congr G4 ⟨fun⟨c,h1,h2⟩=>⟨c,h1,h2.symm⟩,fun⟨c,h1,h2⟩=>⟨c,h1,h2.symm⟩⟩)
 have hlen:=jU h1 fun p hp=>((h2 p).mp hp).inb hl hb hs
 rw[show bF _ states []=yL s from e,yI,show qv s=.ok (cS s)from br (by omega),mt h1 h2]
def ee (t:Cd) (loose bound:Int):List Pl→List (Int×Int)→List (List (Int×Int))
 | [],cur=>[cur]
 | m :: r, cur => match cur with
  | []=>[[]]
  | a::q=>(a::q)::ee t loose bound r (lq t m loose bound (a::q))
theorem oZ {t:Cd} {loose bound:Int} (l:List Pl):ee t loose bound l []=[[]]:=by cases l <;> rfl
theorem ll {t:Cd} {loose bound:Int} (l:List Pl) (cur:List (Int×Int)):∃r,ee t loose bound l cur=cur::r:=by
 cases l with
 | nil=>exact⟨_,rfl⟩
 | cons m l => cases cur with
  | nil=>exact⟨_,rfl⟩
  | cons a q=>exact⟨_,rfl⟩
theorem gf {t:Cd} (h:Card t) {loose bound:Int} (hl:loose≤3) (hb:bound≤60):∀(strip:List Pl) (pre:List (List (Int×Int))) (cur:List (Int×Int)),pre.length+strip.length≤1000→(∀p∈cur,gV p)→
  ∃r,fP (uD m9 t loose bound) strip (pre++ [cur])=.ok r∧(r=.nx (pre++ee t loose bound strip cur)∨r=.rt (pre++ee t loose bound strip cur))
 | [],pre,cur,_,_=>⟨_,rfl,.inl rfl⟩
 | m :: strip, pre, cur, hp, hc => by
  simp only[AI]at hp
  show ∃r,(uD m9 t loose bound m (pre++ [cur])).bind _=.ok r∧_
  cases cur with
  | nil =>
   refine⟨.rt (pre++ [[]]),?_,.inr rfl⟩
   unfold uD
   rw[jT]
   rfl
  | cons a q =>
   have e1:uD m9 t loose bound m (pre++ [a::q])=.ok (.nx (pre++ [a::q]++ [lq t m loose bound (a::q)])):=by
    unfold uD
    rw[jT,yI,yI,if_neg (by simp),yI,rW h m hl hb hc,yI,dH (by simp;omega)]
    rfl
   rw[e1,yI]
   obtain⟨r,er,hr⟩:=gf h hl hb strip (pre++ [a::q]) (lq t m loose bound (a::q)) (by simp;omega) (fun p hp=>(mem_nxt.mp hp).inb hl hb hc)
   refine⟨r,er,?_⟩
   have e2:pre++ee t loose bound (m::strip) (a::q)=pre++ [a::q]++ee t loose bound strip (lq t m loose bound (a::q)):=by
    rw[zj];rfl
   rw[e2]
   exact hr
theorem wN:∀p∈[((0:Int),(0:Int))],gV p:=fun p hp=>by
 have:p=(0,0):=by simpa using hp
 subst this
 exact⟨by decide,by decide,by decide,by decide⟩
theorem ui {t:Cd} (h:Card t) {loose bound:Int} (h0:0≤loose) (h1:0≤bound) (hl:loose≤3) (hb:bound≤60) (strip:List Pl) (hs:strip.length≤1000):sn t strip loose bound=.ok (ee t loose bound strip [(0,0)]):=by
 unfold sn xw
 have w:d6 (0,0) loose bound=true:=by
  unfold d6 ca
  simp;omega
 rw[jk,w,yI,if_pos rfl,yI,yI]
 obtain⟨r,er,hr⟩:=gf h hl hb strip [] [(0,0)] (by simpa using hs) wN
 rw[show fP _ strip [[((0:Int),(0:Int))]]=yL r from er,yI]
 rcases hr with rfl | rfl <;> rfl
theorem uj (p m:Pl) (b:Bool):bF sj ([p.1,p.2.1,p.2.2].zip [m.1,m.2.1,m.2.2]) b=.ok (b && fits p m):=by
 have e:∀(a:Tx×Tx) (b:Bool),sj a b=.ok (b && (decide (a.2=[63]) || decide (a.2=a.1))):=fun a b=>by
  unfold sj
  by_cases z:a.2=[63]
  ·simp[z]
  ·by_cases y:a.2=a.1
   ·simp[z,y]
   ·simp[z,y]
 show(sj (p.1,m.1) b).bind (fun s=>(sj (p.2.1,m.2.1) s).bind fun s=>(sj (p.2.2,m.2.2) s).bind fun s=>yL s)=_
 simp only[e,yI]
 unfold fits
 rw[FG,FG]
theorem jX {t:Cd} (h:Card t) (mk:Pl) (loose bound:Int) (s:Int×Int) (hs: -1000000< s.2∧s.2< 1000000) {c:Nat} (hc:bD c) (out:List (Int×Int)) (ho:out.length≤1000):uC gy t mk loose bound s [c] out=.ok (if fc t loose bound s c mk=true then out++ [aG t s c]else out):=by
 unfold uC
 rw[lc hc,yI,iw (by omega) (by omega),yI]
 have e:(s.2+1)*(if decide (([c]:Tx)=[105])=true then(1:Int)else 0)=(aG t s c).2:=by
  unfold aG
  by_cases z:c=105
  ·simp[z]
  ·simp[z]
 have eh:(if decide (t.1=([90]:Tx))=true then yL ((t.2.2- (s.1+tw t c))% 4)else yL ((t.2.2+(s.1+tw t c))% 4):Res Int)=.ok (standAt t (aG t s c).1).2.2:=by
  unfold standAt aG
  dsimp only
  rcases h.lay with z | z
  ·rw[z];rfl
  ·rw[z];rfl
 rw[e,eh,yI]
 have hc2:=h.standAt (aG t s c).1
 have ew:(if decide (ca (s.1+tw t c)≤bound)=true then yL (decide ((aG t s c).2≤loose))else yL false:Res Bool)=.ok (d6 (aG t s c) loose bound):=by
  unfold d6
  show(if decide (ca (aG t s c).1≤bound)=true then _ else _)=_
  cases decide (ca (aG t s c).1≤bound) <;> rfl
 rw[ew,yI]
 rw[show dC t.2.1 (standAt t (aG t s c).1).2.2=.ok [cW (standAt t (aG t s c).1) (standAt t (aG t s c).1).2.2]from cV hc2 hc2.low hc2.high,yI]
 rw[show dC t.2.1 (((standAt t (aG t s c).1).2.2+2)% 4)=.ok [cW (standAt t (aG t s c).1) (((standAt t (aG t s c).1).2.2+2)% 4)]from cV hc2 (dO _).1 (dO _).2,yI]
 rw[rH (rG t c),yI,yI,yI,yI]
 show((bF sj ([(place (standAt t (aG t s c).1) c).1,(place (standAt t (aG t s c).1) c).2.1,(place (standAt t (aG t s c).1) c).2.2].zip [mk.1,mk.2.1,mk.2.2]) (d6 (aG t s c) loose bound)).bind fun g=>(if g=true then(dz out (aG t s c)).bind fun y=>yL y else yL out:Res (List (Int×Int))).bind fun s=>yL s)=_
 rw[uj,yI]
 show((if fc t loose bound s c mk=true then(dz out (aG t s c)).bind fun y=>yL y else yL out:Res (List (Int×Int))).bind fun s=>yL s)=_
 cases fc t loose bound s c mk with
 | false=>rfl
 | true=>rw[if_pos rfl,if_pos rfl,dH (by omega)];rfl
theorem uk {t:Cd} (h:Card t) (mk:Pl) (loose bound:Int) {s:Int×Int} (hs:gV s):jR t mk loose bound s=.ok ((p6 t mk loose bound s).map (aG t s)):=by
 unfold jR xi
 have hs2: -1000000< s.2∧s.2< 1000000:=by unfold gV at hs;omega
 show((uC gy t mk loose bound s [102] []).bind fun s1=>(uC gy t mk loose bound s [98] s1).bind fun s1=>(uC gy t mk loose bound s [105] s1).bind fun s1=>yL s1).bind (fun s1=>yL s1)=_
 rw[jX h mk loose bound s hs2 (.inl rfl) [] (by decide),yI,jX h mk loose bound s hs2 (.inr (.inl rfl)) _ (by split <;> simp),yI,jX h mk loose bound s hs2 (.inr (.inr rfl)) _ (by split <;> split <;> simp),yI,yI]
 unfold p6
 cases h1:fc t loose bound s 102 mk <;> cases h2:fc t loose bound s 98 mk <;> cases h3:fc t loose bound s 105 mk <;> simp[h1,h2,h3]
theorem rX (kvs:List ((Int×Int)×Bool)) (k:Int×Int):(gM kvs k true).map (·.1)=if k∈kvs.map (·.1)then kvs.map (·.1)else kvs.map (·.1)++ [k]:=by
 unfold gM
 by_cases z:k∈kvs.map (·.1)
 ·have:(kvs.any fun kv=>decide (kv.1=k))=true:=by
   obtain⟨kv,h1,h2⟩:=zD.mp z
   exact F6.mpr ⟨kv,h1,by simpa using h2⟩
  rw[if_pos this,if_pos z,Bq]
  refine Eb fun kv _=>?_
  show(if kv.1=k then(kv.1,true)else kv).1=kv.1
  split <;> rfl
 ·have:¬(kvs.any fun kv=>decide (kv.1=k))=true:=fun y=>by
   obtain⟨kv,h1,h2⟩:=F6.mp y
   exact z (zD.mpr ⟨kv,h1,by simpa using h2⟩)
  rw[if_neg this,if_neg z]
  simp
def Ks (kvs:List ((Int×Int)×Bool)) (P:Int×Int→Prop):Prop:=(kvs.map (·.1)).Nodup∧∀p,p∈kvs.map (·.1)↔P p
theorem Ks.put {kvs:List ((Int×Int)×Bool)} {P:Int×Int→Prop} (h:Ks kvs P) (k:Int×Int):Ks (gM kvs k true) fun p=>P p∨p=k:=by
 unfold Ks
 rw[rX]
 by_cases z:k∈kvs.map (·.1)
 ·rw[if_pos z]
  exact⟨h.1,fun p=>by rw[h.2];exact⟨.inl,fun y=>y.elim id fun e=>by rw[e];exact(h.2 k).mp z⟩⟩
 ·rw[if_neg z]
  refine⟨EM.mpr ⟨h.1,by simp,fun a ha b hb e=>?_⟩,fun p=>by rw[zE,h.2];simp⟩
  have:b=k:=by simpa using hb
  subst this;subst e
  exact z ha
theorem Ks.len {kvs:List ((Int×Int)×Bool)} {P:Int×Int→Prop} (h:Ks kvs P) (hb:∀p,P p→gV p):kvs.length≤484:=by
 have:=jU h.1 fun p hp=>hb p ((h.2 p).mp hp)
 simpa using this
theorem Ks.iff {kvs:List ((Int×Int)×Bool)} {P Q:Int×Int→Prop} (h:Ks kvs P) (e:∀p,P p↔Q p):Ks kvs Q:=⟨h.1,fun p=>(h.2 p).trans (e p)⟩
theorem lm:∀(ys:List (Int×Int)) (kvs:List ((Int×Int)×Bool)) (P:Int×Int→Prop),Ks kvs P→(∀p,P p→gV p)→(∀p∈ys,gV p)→∃kvs',bF vF ys kvs=.ok kvs'∧Ks kvs' fun p=>P p∨p∈ys
 | [],kvs,P,h,_,_=>⟨kvs,rfl,h.iff fun p=>by simp⟩
 | a :: ys, kvs, P, h, hP, hy => by
  have hl:=h.len hP
  have e:vF a kvs=.ok (gM kvs a true):=by
   unfold vF
   rw[show qV kvs a true=.ok (gM kvs a true)from br (by omega)]
   rfl
  obtain⟨k',e',h'⟩:=lm ys (gM kvs a true) _ (h.put a) (fun p hp=>hp.elim (hP p) fun e=>by rw[e];exact hy a (zk ..)) fun p hp=>hy p (zh _ hp)
  refine⟨k',?_,h'.iff fun p=>by rw[zq,or_assoc]⟩
  show(vF a kvs).bind _=_
  rw[e,yI]
  exact e'
theorem rY {t:Cd} (h:Card t) (mk:Pl) {loose bound:Int} (hl:loose≤3) (hb:bound≤60) {pre:List (List (Int×Int))} (hp:pre.length≤1000) {cur:List (Int×Int)} (hs:∀p∈cur,gV p):vG jR t loose bound mk (pre++ [cur])=.ok (if lq t mk loose bound cur=[]then .rt (pre++ [cur]++ [lq t mk loose bound cur])else .nx (pre++ [cur]++ [lq t mk loose bound cur])):=by
 unfold vG
 rw[jT,yI]
 obtain⟨s,e,h1⟩:=da (f:=wJ jR t loose bound mk) (fun pre s=>Ks s (Nx t mk loose bound pre)) cur [] ⟨Co,fun p=>⟨fun z=>(by cases z),fun z=>absurd z rS⟩⟩ (by
  intro pre a post s e h1
  have ha:gV a:=hs a (by rw[e];simp)
  have hq:∀p∈pre,gV p:=fun p hp=>hs p (by rw[e];simp[hp])
  unfold wJ
  rw[uk h mk loose bound ha,yI]
  obtain⟨s',e',h'⟩:=lm ((p6 t mk loose bound a).map (aG t a)) s _ h1 (fun p n=>n.inb hl hb hq) (fun p hp=>by
   obtain⟨c,hc,rfl⟩:=zD.mp hp
   exact jV hl hb ha (mem_onw.mp hc).2)
  rw[e',yI]
  exact⟨s',rfl,h'.iff fun p=>by
   rw[nI,zD]
   exact or_congr G4 ⟨fun⟨c,h1,h2⟩=>⟨c,h1,h2.symm⟩,fun⟨c,h1,h2⟩=>⟨c,h1,h2.symm⟩⟩⟩)
 have hlen:=h1.len fun p n=>n.inb hl hb hs
 rw[show bF _ cur []=yL s from e,yI,show qW (s.map (·.1))=.ok (cS (s.map (·.1)))from br ⟨by rw[ze];omega,h1.1⟩,mt h1.1 h1.2,yI,dH (by simp;omega),yI]
 have el:(lq t mk loose bound cur).length=s.length:=by
  rw[←mt h1.1 h1.2,(dn _).length_eq,ze]
 by_cases z:lq t mk loose bound cur=[]
 ·rw[if_pos z,if_pos (by rw[z]at el;simp at el;simp[←el])]
 ·rw[if_neg z,if_neg (fun y=>z (by
   have:s.length=0:=by simpa using y
   exact Bj.mp (by omega)))]
theorem iM {t:Cd} (h:Card t) {loose bound:Int} (hl:loose≤3) (hb:bound≤60):∀(strip:List Pl) (pre:List (List (Int×Int))) (cur:List (Int×Int)),cur≠[]→pre.length+strip.length≤1000→(∀p∈cur,gV p)→
  ∃r,fP (vG jR t loose bound) strip (pre++ [cur])=.ok r∧(r=.nx (pre++ee t loose bound strip cur)∨r=.rt (pre++ee t loose bound strip cur))
 | [],pre,cur,_,_,_=>⟨_,rfl,.inl rfl⟩
 | m::strip,pre,[],hn,hp,hc=>absurd rfl hn
 | m :: strip, pre, a :: q, hn, hp, hc => by
  simp only[AI]at hp
  show ∃r,(vG jR t loose bound m (pre++ [a::q])).bind _=.ok r∧_
  rw[rY h m hl hb (by omega) hc,yI]
  have e2:pre++ee t loose bound (m::strip) (a::q)=pre++ [a::q]++ee t loose bound strip (lq t m loose bound (a::q)):=by
   rw[zj];rfl
  rw[e2]
  by_cases z:lq t m loose bound (a::q)=[]
  ·rw[if_pos z,z,oZ]
   exact⟨_,rfl,.inr rfl⟩
  ·rw[if_neg z]
   exact iM h hl hb strip (pre++ [a::q]) (lq t m loose bound (a::q)) z (by simp;omega) fun p hp=>(mem_nxt.mp hp).inb hl hb hc
theorem rZ {t:Cd} (h:Card t) {loose bound:Int} (hl:loose≤3) (hb:bound≤60) (strip:List Pl) (hs:strip.length≤1000):tW t strip loose bound=.ok (ee t loose bound strip [(0,0)]):=by
 unfold tW xj
 obtain⟨r,er,hr⟩:=iM h hl hb strip [] [(0,0)] (by simp) (by simpa using hs) wN
 rw[show fP _ strip [[((0:Int),(0:Int))]]=yL r from er,yI]
 rcases hr with rfl | rfl <;> rfl
theorem vO (ns:List Int) (h:ns.length≤63):(rA ns).Ok (· =true):=by
 unfold rA nz
 refine gD ((show(si ns (12:Int)).Ok _ from ug h 12 (by decide)).imp fun y ⟨hc,⟨n,hn,hm⟩,g0,g1⟩=>?_)
 have hl:y.2.1.length=n:=hm.1
 obtain⟨c5,e5⟩:=iK h 5 (by decide)
 obtain⟨c6,e6⟩:=iK h 6 (by decide)
 rw[show fJ ns 5=.ok c5 from e5,show fJ ns 6=.ok c6 from e6,yI]
 refine gD ((rN hm (by omega) c6).imp fun strip hs'=>?_)
 have hs:strip.length=n:=hs'.1
 rw[yI,yI]
 refine gD (Ag (P:=fun b=>0≤b∧b≤60) ?_ fun b1 hb1=>?_)
 ·simp only[yI]
  exact jY (fun _=>eN ⟨by omega,by omega⟩) fun _=>eN ⟨by omega,by omega⟩
 refine gD (Ag (P:=fun b=>0≤b∧b≤60) ?_ fun b2 hb2=>?_)
 ·refine gD (Ag (P:=fun _=>True) ?_ fun b _=>xH (fun _=>eN ⟨by decide,by decide⟩) fun _=>hb1)
  exact jY (fun _=>trivial) fun _=>trivial
 rw[rZ hc (by omega) hb2.2 strip (by omega),yI,ui hc g0 hb2.1 (by omega) hb2.2 strip (by omega),yI]
 rw[lN rfl,lN rfl,yI,yI]
 obtain⟨r,hr⟩:=ll (t:=y.1) (loose:=y.2.2) (bound:=b2) strip [(0,0)]
 rw[hr]
 have el:sS (([((0:Int),(0:Int))]:List (Int×Int))::r,fun(b:List (List (Int×Int)))=>b) (0:Int)=.ok ([(0,0)],fun b=>b::r):=by
  unfold sS
  have:ixN (([((0:Int),(0:Int))]:List (Int×Int))::r).length 0=some 0:=by
   unfold ixN
   simp
  rw[this]
  rfl
 rw[show(!true)=false from rfl,if_neg (by decide),yI,if_neg (by decide),el,yI,show dz ([((0:Int),(0:Int))]:List (Int×Int)) (1,1)=.ok [(0,0),(1,1)]from rfl,yI,yI,yI,yI,lN rfl]
 rfl
end Mi
namespace PySem.W.Fast
def tw140001813534094272:=()
def tw4321966507151631593:=()
def tw10698057553749749337:=()
def tw5344687154915797982:=()
def tw9495317472360511255:=()
def tw14842496431369740429:=()
def tw6858818405166986180:=()
def tw17318462890700432884:=()
def tw12297992134047619483:=()
def tw447263597446747957:=()
def tw9879335643197240621:=()
def tw15042883488752021643:=()
def tw8060666987683057360:=()
def tw13769103115541136327:=()
def tw1205274952441263945:=()
def tw4039707410889071942:=()
def tw12330612334027959195:=()
def tw11766667032028208565:=()
def tw9919008367099125623:=()
def tw87601786513091389:=()
def tw13055953723892786844:=()
def tw1413555121281612218:=()
def tw6953138203311097117:=()
def tw13114645530532618160:=()
def tw7164969610272591079:=()
def tw3300257896294614128:=()
def tw10519837036962490867:=()
def tw17483705464198625004:=()
def tw9536688357841153863:=()
def tw6128106870883400570:=()
def tw209982475168477708:=()
def tw16919654943277366748:=()
def tw8899516883271353254:=()
def tw15173544498738437827:=()
def tw15925456577456769635:=()
def tw6469784823511061222:=()
def tw17292613610259460706:=()
def tw12917704675397863716:=()
def tw16140922888777852060:=()
def tw17062427158221528723:=()
def tw6549852094080907030:=()
def tw861502493610598483:=()
def tw5449601097390414333:=()
def tw9615563845995560447:=()
def tw17214186515701724070:=()
def tw6356304189028158447:=()
def tw8002303944043701648:=()
def tw9592521066531166775:=()
def tw4077048163395320219:=()
def tw11823594873375168262:=()
def tw12459912946257978736:=()
def tw13812277999558781770:=()
def tw11738243743197964597:=()
def tw17338325484393633139:=()
def tw1950803216711332702:=()
def tw7424060955962978353:=()
def tw4971374062829452455:=()
def tw10624116801336726872:=()
def tw18334910312642224542:=()
def tw12727641955093265886:=()
def tw17963105932079019327:=()
def tw13757698761724263525:=()
def tw2261719852989239553:=()
def tw9456574344343218679:=()
def tw1495895850433845275:=()
def tw4699756791338806529:=()
def tw4171853373547519906:=()
def tw938635154573522699:=()
def tw14703100239697439463:=()
def tw2570914705882880060:=()
def tw14564479935002850509:=()
def tw10510056951384868246:=()
def tw15402603294489630176:=()
def tw4635989785427082552:=()
def tw11384182702204212275:=()
def tw6968137755033780318:=()
def tw2400638427578300857:=()
def tw3721919958574915784:=()
def tw6229817132586351632:=()
def tw2107523057676978006:=()
def tw16108870410212019532:=()
def tw3042748168174471775:=()
def tw3300454383303005205:=()
def tw7476452910721959123:=()
def tw11589282660436910429:=()
def tw12887044766017154078:=()
def tw9972681490609642005:=()
def tw8854275682344465072:=()
def tw3239113980409921550:=()
def tw8733291241859026926:=()
def tw14172470266813156586:=()
def tw4490611911172417597:=()
def tw16298917771340976007:=()
def tw6148498323302512570:=()
def tw10374632558016547081:=()
def tw13034982811429478159:=()
def tw4562827626845409882:=()
def tw643336161829623379:=()
def tw15401437161963490237:=()
def tw6522051377940421278:=()
def tw14760874974797668852:=()
def tw16409965706819354750:=()
def tw5832305185047221409:=()
def tw9796564346219866840:=()
def tw11564986514327137767:=()
def tw17464319187374939960:=()
def tw12772213712371865176:=()
def tw17518593693041627797:=()
def tw4884199854448574:=()
def tw10016166984437732892:=()
def tw5362036446546632119:=()
def tw2295934692909999376:=()
def tw14226173905949225808:=()
def tw14689541978594310382:=()
def tw12382822922155266910:=()
def tw7217548393331319763:=()
def tw5537553045615171315:=()
def tw9977182230042388008:=()
def tw11421057715548341654:=()
def tw2144661209622563809:=()
def tw2314633323536394700:=()
def tw140236481695663071:=()
def tw3382625519597670723:=()
def tw1708089923452030704:=()
def tw17187875760726034783:=()
def tw13444670453868202053:=()
def tw5498123283257192965:=()
def tw2692750590507578028:=()
def tw4953865588907285216:=()
def tw5438652380644606353:=()
def tw2135409205425526673:=()
def tw15227483606004533461:=()
def tw16053306600634468012:=()
def tw5101696844757716304:=()
def tw14935467056822913822:=()
def tw3308634892276815127:=()
def tw14827714588952709054:=()
def tw16864618592142003386:=()
def tw16955839230299176341:=()
def tw2789304352393801511:=()
def tw7480016910919988345:=()
def tw8157277791214410489:=()
def tw1840220198017710270:=()
def tw15539815450414544023:=()
def tw896878414759379649:=()
def tw8047209995159408440:=()
def tw1000662321505670351:=()
def tw11266997524610791606:=()
def tw5994696166404524948:=()
def tw5459702643516471331:=()
def tw2483420100392427323:=()
def tw2950685276103557050:=()
def tw8739830900816887780:=()
def tw6798380500665416597:=()
def tw14146952199865091922:=()
def tw7322748291113730364:=()
def tw13946496683202179788:=()
def tw9561226457009474297:=()
def tw13622603851894308203:=()
def tw11161164713144168021:=()
def tw2080317491765294665:=()
def tw4804111812005502284:=()
def tw3215387988796971590:=()
def tw3985964047577975286:=()
def tw443766864951011646:=()
def tw10294118229990073760:=()
def tw14782755387869428366:=()
def tw4906484309439969231:=()
def tw13135312941875745310:=()
def tw10792498714594961201:=()
def tw14243238205550065757:=()
def tw16822532161544500889:=()
def tw17351735930882485243:=()
def tw2455152089536381482:=()
def tw13674586047789940208:=()
def tw2369294140325686055:=()
def tw8912161614967838395:=()
def tw4734895289157585001:=()
def tw523537741815420091:=()
def tw10208476319457655227:=()
def tw10295913840692754127:=()
def tw17760279517084355780:=()
def tw3919386906821981792:=()
def tw7774113678449685934:=()
def tw4684226298888400098:=()
def tw1972164579936704799:=()
def tw5217270863462422736:=()
def tw15127105006835628225:=()
def tw896239598344801917:=()
def tw8159993647027272844:=()
def tw1717767836212652739:=()
def tw1915925776726481438:=()
def tw12592172766608505503:=()
def tw11429584451438056573:=()
def tw3641951560692057861:=()
def tw13421457143807847188:=()
def tw8480184845173159842:=()
def tw12903330217458380548:=()
def tw15621415185263527259:=()
def tw2403389108928632939:=()
def tw10876078143196172821:=()
def tw8297923619242306668:=()
def tw15685335758407661847:=()
def tw16902440903046159558:=()
def tw11962351593759143498:=()
def tw3235425350174046738:=()
def tw4075453323654395381:=()
def tw4480162626587320490:=()
def tw12269216009862288129:=()
def tw16723463757517087524:=()
def tw3270257207059953099:=()
def tw8374155422468719031:=()
def tw16120054744476736488:=()
def tw7086961617601330827:=()
def tw8997383693586321770:=()
def tw10258873121960336067:=()
def tw8949853181751564097:=()
def tw9784134513789038367:=()
def tw1825952489489211193:=()
def tw8285278889055680438:=()
def tw6822071536725586909:=()
def tw14424681132571578402:=()
def tw17013487888433625170:=()
def tw8080008513338510535:=()
def tw11898673842065290130:=()
def tw2187251505897268136:=()
end PySem.W.Fast
section
open PySem PySem.W PyProof.Rows
set_option maxHeartbeats 0 in
open_top hd for PySem.Challenge.rw_wornband_k30_searches_told
end
namespace Wb
open PySem L2 Mi
theorem ul {K:PySem.W.Frag} :∀vs H Q E,nA K vs H Q E→de (isScr K) (rs isB) rA vs H Q E:=fun vs H Q E ⟨a,ns,h1,h2,h3,h4⟩=>
 ⟨⟨H,H,.refl _⟩,ns,.ref a,rfl,h1,⟨a,rfl,h2⟩,fun _=>False,Res.Ok.e ((vO ns h3).imp fun r hr u W' _ hu=>by cases hr;cases hu;exact h4 _)⟩
theorem fin_mk {l:PySem.W.OpenLaw} {w:zt} {K:PySem.W.Frag} {h:Heap} {mg:Str→Option yH} {fa:Addr} {Z1w:Addr} {Z8e Z8f:Option Addr} {Z8g:Array (Option yH)} {Z8h Z8i Z8j Z8k Z4P Z8l:yH} {Z3n:Addr} {Za5 Za6:Option Addr} {Za7:Array (Option yH)} {Za8 Za9 Zaa Zab Z6g Zac:yH} {Z2D:Addr} {Z9v Z9w:Option Addr} {Z9x:Array (Option yH)} {Z9y Z9z Z9A Z9B Z5k Z9C:yH} {Z1J:Addr} {Z7d Z7e:Option Addr} {Z7f:Array (Option yH)} {Z7g Z7h Z7i Z7j Z4D Z7k:yH} {Z2e:Addr} {Z8m Z8n:Option Addr} {Z8o:Array (Option yH)} {Z8p Z8q Z8r Z8s Z4Q Z8t:yH} {Z1K:Addr} {Z7l Z7m:Option Addr} {Z7n:Array (Option yH)} {Z7o Z7p Z7q Z7r Z4E Z7s:yH} {Z3o:Addr} {Zad Zae:Option Addr} {Zaf:Array (Option yH)} {Zag Zah Zai Zaj Z6h Zak:yH} {Z1y:Addr} {Z6D Z6E:Option Addr} {Z6F:Array (Option yH)} {Z6G Z6H Z6I Z6J Z40 Z6K:yH} {Z1L:Addr} {Z7t Z7u:Option Addr} {Z7v:Array (Option yH)} {Z7w Z7x Z7y Z7z Z4F Z7A:yH} {Z1z:Addr} {Z6L Z6M:Option Addr} {Z6N:Array (Option yH)} {Z6O Z6P Z6Q Z6R Z41 Z6S:yH} {Z2f:Addr} {Z8u Z8v:Option Addr} {Z8w:Array (Option yH)} {Z8x Z8y Z8z Z8A Z4R Z8B:yH} {Z1M:Addr} {Z7B Z7C:Option Addr} {Z7D:Array (Option yH)} {Z7E Z7F Z7G Z7H Z4G Z7I:yH} {Z1h:Addr} {Z5C Z5D:Option Addr} {Z5E:Array (Option yH)} {Z5F Z5G Z5H Z5I Z2T Z5J:yH} {Z2g:Addr} {Z8C Z8D:Option Addr} {Z8E:Array (Option yH)} {Z8F Z8G Z8H Z8I Z4S Z8J:yH} {Z2h:Addr} {Z8K Z8L:Option Addr} {Z8M:Array (Option yH)} {Z8N Z8O Z8P Z8Q Z4T Z8R:yH} {Z2i:Addr} {Z8S Z8T:Option Addr} {Z8U:Array (Option yH)} {Z8V Z8W Z8X Z8Y Z4U Z8Z:yH} {Z2E:Addr} {Z9D Z9E:Option Addr} {Z9F:Array (Option yH)} {Z9G Z9H Z9I Z9J Z5l Z9K:yH} {Z2j:Addr} {Z90 Z91:Option Addr} {Z92:Array (Option yH)} {Z93 Z94 Z95 Z96 Z4V Z97:yH} {Z1N:Addr} {Z7J Z7K:Option Addr} {Z7L:Array (Option yH)} {Z7M Z7N Z7O Z7P Z4H Z7Q:yH} {Z2k:Addr} {Z98 Z99:Option Addr} {Z9a:Array (Option yH)} {Z9b Z9c Z9d Z9e Z4W Z9f:yH} {Z1O:Addr} {Z7R Z7S:Option Addr} {Z7T:Array (Option yH)} {Z7U Z7V Z7W Z7X Z4I Z7Y:yH} {Z4i:Addr} {ZaD ZaE:Option Addr} {ZaF:Array (Option yH)} {ZaG ZaH ZaI ZaJ Z74 ZaK:yH} {Z2F:Addr} {Z9L Z9M:Option Addr} {Z9N:Array (Option yH)} {Z9O Z9P Z9Q Z9R Z5m Z9S:yH} {Z1t:Addr} {Z6i Z6j:Option Addr} {Z6k:Array (Option yH)} {Z6l Z6m Z6n Z6o Z3p Z6p:yH} {Z3q:Addr} {Zal Zam:Option Addr} {Zan:Array (Option yH)} {Zao Zap Zaq Zar Z6q Zas:yH} {f_top:Addr} {od_top an_top:Option Addr} {sl_top:Array (Option yH)} {oc_top kV_top dc_top pm_top cd_top ct_top:yH} {Z4j:Addr} {ZaL ZaM:Option Addr} {ZaN:Array (Option yH)} {ZaO ZaP ZaQ ZaR Z75 ZaS:yH} {Z1P:Addr} {Z7Z Z80:Option Addr} {Z81:Array (Option yH)} {Z82 Z83 Z84 Z85 Z4J Z86:yH} {Z5i:Addr} {ZbJ ZbK:Option Addr} {ZbL:Array (Option yH)} {ZbM ZbN ZbO ZbP Z9g ZbQ:yH} {Z4k:Addr} {ZaT ZaU:Option Addr} {ZaV:Array (Option yH)} {ZaW ZaX ZaY ZaZ Z76 Zb0:yH} {Z4l:Addr} {Zb1 Zb2:Option Addr} {Zb3:Array (Option yH)} {Zb4 Zb5 Zb6 Zb7 Z77 Zb8:yH} {Z4m:Addr} {Zb9 Zba:Option Addr} {Zbb:Array (Option yH)} {Zbc Zbd Zbe Zbf Z78 Zbg:yH} {Z1i:Addr} {Z5K Z5L:Option Addr} {Z5M:Array (Option yH)} {Z5N Z5O Z5P Z5Q Z2U Z5R:yH} {Z4n:Addr} {Zbh Zbi:Option Addr} {Zbj:Array (Option yH)} {Zbk Zbl Zbm Zbn Z79 Zbo:yH} {f_law:Addr} {od_law an_law:Option Addr} {sl_law:Array (Option yH)} {oc_law kV_law dc_law pm_law cd_law ct_law:yH} {Z27:Tok} {Z1C:Addr} {ZbR:Nat} {x_SLANTS0 y_SLANTS0 x_SLANTS1 y_SLANTS1 x_SLANTS2 y_SLANTS2:Tok} {Z2J:Addr} {Zc3:Nat} {x_START0 x_START1:Tok} {Z26:Addr} {Zc4:Nat} {x_STEPS0 y_STEPS0 x_STEPS1 y_STEPS1 x_STEPS2 y_STEPS2:Tok} {Z6A:Tok} {Z8b:Tok} (X:K.In h) (G:h.Ns mainGlobals mg) (hfa:mg "law" =some (.ref fa))
  (Z2l:PySem.W.nsIn K mainGlobals "_law_same" =some (some (.ref Z1w)))
  (Z3C:K.lookup Z1w=some ⟨Z8h,Z8e,.func (PySem.W.fnOf "_law_same" "_law_same" (defArgs (tp 44)) (defBody (tp 44)) (defScope (tp 44)) .none Z8i Z8j Z8k Z8f Z4P Z8l),Z8g⟩)
  (Z3D:PySem.W.codeIn K Z4P "_law_same" =true)
  (Z1x:PySem.W.keepIn K (.ref Z1w)=true)
  (Z4X:PySem.W.nsIn K mainGlobals "_law_at" =some (some (.ref Z3n)))
  (Z4Y:K.lookup Z3n=some ⟨Za8,Za5,.func (PySem.W.fnOf "_law_at" "_law_at" (defArgs (tp 28)) (defBody (tp 28)) (defScope (tp 28)) .none Za9 Zaa Zab Za6 Z6g Zac),Za7⟩)
  (Z4Z:PySem.W.codeIn K Z6g "_law_at" =true)
  (Z3r:PySem.W.keepIn K (.ref Z3n)=true)
  (Z4o:PySem.W.nsIn K mainGlobals "_law_row" =some (some (.ref Z2D)))
  (Z4p:K.lookup Z2D=some ⟨Z9y,Z9v,.func (PySem.W.fnOf "_law_row" "_law_row" (defArgs (tp 24)) (defBody (tp 24)) (defScope (tp 24)) .none Z9z Z9A Z9B Z9w Z5k Z9C),Z9x⟩)
  (Z4q:PySem.W.codeIn K Z5k "_law_row" =true)
  (Z2G:PySem.W.keepIn K (.ref Z2D)=true)
  (Z2V:PySem.W.nsIn K mainGlobals "_law_holes" =some (some (.ref Z1J)))
  (Z2W:K.lookup Z1J=some ⟨Z7g,Z7d,.func (PySem.W.fnOf "_law_holes" "_law_holes" (defArgs (tp 25)) (defBody (tp 25)) (defScope (tp 25)) .none Z7h Z7i Z7j Z7e Z4D Z7k),Z7f⟩)
  (Z2X:PySem.W.codeIn K Z4D "_law_holes" =true)
  (Z1Q:PySem.W.keepIn K (.ref Z1J)=true)
  (Z3E:PySem.W.nsIn K mainGlobals "_law_card" =some (some (.ref Z2e)))
  (Z3F:K.lookup Z2e=some ⟨Z8p,Z8m,.func (PySem.W.fnOf "_law_card" "_law_card" (defArgs (tp 26)) (defBody (tp 26)) (defScope (tp 26)) .none Z8q Z8r Z8s Z8n Z4Q Z8t),Z8o⟩)
  (Z3G:PySem.W.codeIn K Z4Q "_law_card" =true)
  (Z2m:PySem.W.keepIn K (.ref Z2e)=true)
  (Z2Y:PySem.W.nsIn K mainGlobals "_law_turns" =some (some (.ref Z1K)))
  (Z2Z:K.lookup Z1K=some ⟨Z7o,Z7l,.func (PySem.W.fnOf "_law_turns" "_law_turns" (defArgs (tp 27)) (defBody (tp 27)) (defScope (tp 27)) .none Z7p Z7q Z7r Z7m Z4E Z7s),Z7n⟩)
  (Z30:PySem.W.codeIn K Z4E "_law_turns" =true)
  (Z1R:PySem.W.keepIn K (.ref Z1K)=true)
  (Z50:PySem.W.nsIn K mainGlobals "_law_go" =some (some (.ref Z3o)))
  (Z51:K.lookup Z3o=some ⟨Zag,Zad,.func (PySem.W.fnOf "_law_go" "_law_go" (defArgs (tp 30)) (defBody (tp 30)) (defScope (tp 30)) .none Zah Zai Zaj Zae Z6h Zak),Zaf⟩)
  (Z52:PySem.W.codeIn K Z6h "_law_go" =true)
  (Z3s:PySem.W.keepIn K (.ref Z3o)=true)
  (Z2u:PySem.W.nsIn K mainGlobals "_law_behind" =some (some (.ref Z1y)))
  (Z2v:K.lookup Z1y=some ⟨Z6G,Z6D,.func (PySem.W.fnOf "_law_behind" "_law_behind" (defArgs (tp 31)) (defBody (tp 31)) (defScope (tp 31)) .none Z6H Z6I Z6J Z6E Z40 Z6K),Z6F⟩)
  (Z2w:PySem.W.codeIn K Z40 "_law_behind" =true)
  (Z1A:PySem.W.keepIn K (.ref Z1y)=true)
  (Z31:PySem.W.nsIn K mainGlobals "_law_twist" =some (some (.ref Z1L)))
  (Z32:K.lookup Z1L=some ⟨Z7w,Z7t,.func (PySem.W.fnOf "_law_twist" "_law_twist" (defArgs (tp 32)) (defBody (tp 32)) (defScope (tp 32)) .none Z7x Z7y Z7z Z7u Z4F Z7A),Z7v⟩)
  (Z33:PySem.W.codeIn K Z4F "_law_twist" =true)
  (Z1S:PySem.W.keepIn K (.ref Z1L)=true)
  (Z2x:PySem.W.nsIn K mainGlobals "_law_places" =some (some (.ref Z1z)))
  (Z2y:K.lookup Z1z=some ⟨Z6O,Z6L,.func (PySem.W.fnOf "_law_places" "_law_places" (defArgs (tp 33)) (defBody (tp 33)) (defScope (tp 33)) .none Z6P Z6Q Z6R Z6M Z41 Z6S),Z6N⟩)
  (Z2z:PySem.W.codeIn K Z41 "_law_places" =true)
  (Z1B:PySem.W.keepIn K (.ref Z1z)=true)
  (Z3H:PySem.W.nsIn K mainGlobals "_law_long" =some (some (.ref Z2f)))
  (Z3I:K.lookup Z2f=some ⟨Z8x,Z8u,.func (PySem.W.fnOf "_law_long" "_law_long" (defArgs (tp 35)) (defBody (tp 35)) (defScope (tp 35)) .none Z8y Z8z Z8A Z8v Z4R Z8B),Z8w⟩)
  (Z3J:PySem.W.codeIn K Z4R "_law_long" =true)
  (Z2n:PySem.W.keepIn K (.ref Z2f)=true)
  (Z34:PySem.W.nsIn K mainGlobals "_law_marks" =some (some (.ref Z1M)))
  (Z35:K.lookup Z1M=some ⟨Z7E,Z7B,.func (PySem.W.fnOf "_law_marks" "_law_marks" (defArgs (tp 34)) (defBody (tp 34)) (defScope (tp 34)) .none Z7F Z7G Z7H Z7C Z4G Z7I),Z7D⟩)
  (Z36:PySem.W.codeIn K Z4G "_law_marks" =true)
  (Z1T:PySem.W.keepIn K (.ref Z1M)=true)
  (Z1U:PySem.W.nsIn K mainGlobals "_law_turnover" =some (some (.ref Z1h)))
  (Z1V:K.lookup Z1h=some ⟨Z5F,Z5C,.func (PySem.W.fnOf "_law_turnover" "_law_turnover" (defArgs (tp 36)) (defBody (tp 36)) (defScope (tp 36)) .none Z5G Z5H Z5I Z5D Z2T Z5J),Z5E⟩)
  (Z1W:PySem.W.codeIn K Z2T "_law_turnover" =true)
  (Z1j:PySem.W.keepIn K (.ref Z1h)=true)
  (Z3K:PySem.W.nsIn K mainGlobals "_law_back" =some (some (.ref Z2g)))
  (Z3L:K.lookup Z2g=some ⟨Z8F,Z8C,.func (PySem.W.fnOf "_law_back" "_law_back" (defArgs (tp 37)) (defBody (tp 37)) (defScope (tp 37)) .none Z8G Z8H Z8I Z8D Z4S Z8J),Z8E⟩)
  (Z3M:PySem.W.codeIn K Z4S "_law_back" =true)
  (Z2o:PySem.W.keepIn K (.ref Z2g)=true)
  (Z3N:PySem.W.nsIn K mainGlobals "_law_roll" =some (some (.ref Z2h)))
  (Z3O:K.lookup Z2h=some ⟨Z8N,Z8K,.func (PySem.W.fnOf "_law_roll" "_law_roll" (defArgs (tp 38)) (defBody (tp 38)) (defScope (tp 38)) .none Z8O Z8P Z8Q Z8L Z4T Z8R),Z8M⟩)
  (Z3P:PySem.W.codeIn K Z4T "_law_roll" =true)
  (Z2p:PySem.W.keepIn K (.ref Z2h)=true)
  (Z3Q:PySem.W.nsIn K mainGlobals "_law_seen" =some (some (.ref Z2i)))
  (Z3R:K.lookup Z2i=some ⟨Z8V,Z8S,.func (PySem.W.fnOf "_law_seen" "_law_seen" (defArgs (tp 39)) (defBody (tp 39)) (defScope (tp 39)) .none Z8W Z8X Z8Y Z8T Z4U Z8Z),Z8U⟩)
  (Z3S:PySem.W.codeIn K Z4U "_law_seen" =true)
  (Z2q:PySem.W.keepIn K (.ref Z2i)=true)
  (Z4r:PySem.W.nsIn K mainGlobals "_law_kin" =some (some (.ref Z2E)))
  (Z4s:K.lookup Z2E=some ⟨Z9G,Z9D,.func (PySem.W.fnOf "_law_kin" "_law_kin" (defArgs (tp 40)) (defBody (tp 40)) (defScope (tp 40)) .none Z9H Z9I Z9J Z9E Z5l Z9K),Z9F⟩)
  (Z4t:PySem.W.codeIn K Z5l "_law_kin" =true)
  (Z2H:PySem.W.keepIn K (.ref Z2E)=true)
  (Z3T:PySem.W.nsIn K mainGlobals "_law_case" =some (some (.ref Z2j)))
  (Z3U:K.lookup Z2j=some ⟨Z93,Z90,.func (PySem.W.fnOf "_law_case" "_law_case" (defArgs (tp 41)) (defBody (tp 41)) (defScope (tp 41)) .none Z94 Z95 Z96 Z91 Z4V Z97),Z92⟩)
  (Z3V:PySem.W.codeIn K Z4V "_law_case" =true)
  (Z2r:PySem.W.keepIn K (.ref Z2j)=true)
  (Z37:PySem.W.nsIn K mainGlobals "_law_faded" =some (some (.ref Z1N)))
  (Z38:K.lookup Z1N=some ⟨Z7M,Z7J,.func (PySem.W.fnOf "_law_faded" "_law_faded" (defArgs (tp 45)) (defBody (tp 45)) (defScope (tp 45)) .none Z7N Z7O Z7P Z7K Z4H Z7Q),Z7L⟩)
  (Z39:PySem.W.codeIn K Z4H "_law_faded" =true)
  (Z1X:PySem.W.keepIn K (.ref Z1N)=true)
  (Z3W:PySem.W.nsIn K mainGlobals "_law_next" =some (some (.ref Z2k)))
  (Z3X:K.lookup Z2k=some ⟨Z9b,Z98,.func (PySem.W.fnOf "_law_next" "_law_next" (defArgs (tp 42)) (defBody (tp 42)) (defScope (tp 42)) .none Z9c Z9d Z9e Z99 Z4W Z9f),Z9a⟩)
  (Z3Y:PySem.W.codeIn K Z4W "_law_next" =true)
  (Z2s:PySem.W.keepIn K (.ref Z2k)=true)
  (Z3a:PySem.W.nsIn K mainGlobals "_law_reach" =some (some (.ref Z1O)))
  (Z3b:K.lookup Z1O=some ⟨Z7U,Z7R,.func (PySem.W.fnOf "_law_reach" "_law_reach" (defArgs (tp 43)) (defBody (tp 43)) (defScope (tp 43)) .none Z7V Z7W Z7X Z7S Z4I Z7Y),Z7T⟩)
  (Z3c:PySem.W.codeIn K Z4I "_law_reach" =true)
  (Z1Y:PySem.W.keepIn K (.ref Z1O)=true)
  (Z5S:PySem.W.nsIn K mainGlobals "within" =some (some (.ref Z4i)))
  (Z5T:K.lookup Z4i=some ⟨ZaG,ZaD,.func (PySem.W.fnOf "within" "within" (defArgs (tp 18)) (defBody (tp 18)) (defScope (tp 18)) .none ZaH ZaI ZaJ ZaE Z74 ZaK),ZaF⟩)
  (Z5U:PySem.W.codeIn K Z74 "within" =true)
  (Z4u:PySem.W.keepIn K (.ref Z4i)=true)
  (Z4v:PySem.W.nsIn K mainGlobals "twisting" =some (some (.ref Z2F)))
  (Z4w:K.lookup Z2F=some ⟨Z9O,Z9L,.func (PySem.W.fnOf "twisting" "twisting" (defArgs (tp 6)) (defBody (tp 6)) (defScope (tp 6)) .none Z9P Z9Q Z9R Z9M Z5m Z9S),Z9N⟩)
  (Z4x:PySem.W.codeIn K Z5m "twisting" =true)
  (Z2I:PySem.W.keepIn K (.ref Z2F)=true)
  (Z2a:PySem.W.nsIn K mainGlobals "state_behind" =some (some (.ref Z1t)))
  (Z2b:K.lookup Z1t=some ⟨Z6l,Z6i,.func (PySem.W.fnOf "state_behind" "state_behind" (defArgs (tp 17)) (defBody (tp 17)) (defScope (tp 17)) .none Z6m Z6n Z6o Z6j Z3p Z6p),Z6k⟩)
  (Z2c:PySem.W.codeIn K Z3p "state_behind" =true)
  (Z1u:PySem.W.keepIn K (.ref Z1t)=true)
  (Z53:PySem.W.nsIn K mainGlobals "twisted" =some (some (.ref Z3q)))
  (Z54:K.lookup Z3q=some ⟨Zao,Zal,.func (PySem.W.fnOf "twisted" "twisted" (defArgs (tp 16)) (defBody (tp 16)) (defScope (tp 16)) .none Zap Zaq Zar Zam Z6q Zas),Zan⟩)
  (Z55:PySem.W.codeIn K Z6q "twisted" =true)
  (Z3t:PySem.W.keepIn K (.ref Z3q)=true)
  (a_top:PySem.W.nsIn K mainGlobals "top" =some (some (.ref f_top)))
  (l_top:K.lookup f_top=some ⟨oc_top,od_top,.func (PySem.W.fnOf "top" "top" (defArgs (tp 4)) (defBody (tp 4)) (defScope (tp 4)) .none kV_top dc_top pm_top an_top cd_top ct_top),sl_top⟩)
  (c_top:PySem.W.codeIn K cd_top "top" =true)
  (k_top:PySem.W.keepIn K (.ref f_top)=true)
  (Z5V:PySem.W.nsIn K mainGlobals "bottom" =some (some (.ref Z4j)))
  (Z5W:K.lookup Z4j=some ⟨ZaO,ZaL,.func (PySem.W.fnOf "bottom" "bottom" (defArgs (tp 5)) (defBody (tp 5)) (defScope (tp 5)) .none ZaP ZaQ ZaR ZaM Z75 ZaS),ZaN⟩)
  (Z5X:PySem.W.codeIn K Z75 "bottom" =true)
  (Z4y:PySem.W.keepIn K (.ref Z4j)=true)
  (Z3d:PySem.W.nsIn K mainGlobals "left_place" =some (some (.ref Z1P)))
  (Z3e:K.lookup Z1P=some ⟨Z82,Z7Z,.func (PySem.W.fnOf "left_place" "left_place" (defArgs (tp 9)) (defBody (tp 9)) (defScope (tp 9)) .none Z83 Z84 Z85 Z80 Z4J Z86),Z81⟩)
  (Z3f:PySem.W.codeIn K Z4J "left_place" =true)
  (Z1Z:PySem.W.keepIn K (.ref Z1P)=true)
  (Z6T:PySem.W.nsIn K mainGlobals "suits" =some (some (.ref Z5i)))
  (Z6U:K.lookup Z5i=some ⟨ZbM,ZbJ,.func (PySem.W.fnOf "suits" "suits" (defArgs (tp 13)) (defBody (tp 13)) (defScope (tp 13)) .none ZbN ZbO ZbP ZbK Z9g ZbQ),ZbL⟩)
  (Z6V:PySem.W.codeIn K Z9g "suits" =true)
  (Z5j:PySem.W.keepIn K (.ref Z5i)=true)
  (Z5Y:PySem.W.nsIn K mainGlobals "agrees" =some (some (.ref Z4k)))
  (Z5Z:K.lookup Z4k=some ⟨ZaW,ZaT,.func (PySem.W.fnOf "agrees" "agrees" (defArgs (tp 12)) (defBody (tp 12)) (defScope (tp 12)) .none ZaX ZaY ZaZ ZaU Z76 Zb0),ZaV⟩)
  (Z60:PySem.W.codeIn K Z76 "agrees" =true)
  (Z4z:PySem.W.keepIn K (.ref Z4k)=true)
  (Z61:PySem.W.nsIn K mainGlobals "leaves" =some (some (.ref Z4l)))
  (Z62:K.lookup Z4l=some ⟨Zb4,Zb1,.func (PySem.W.fnOf "leaves" "leaves" (defArgs (tp 19)) (defBody (tp 19)) (defScope (tp 19)) .none Zb5 Zb6 Zb7 Zb2 Z77 Zb8),Zb3⟩)
  (Z63:PySem.W.codeIn K Z77 "leaves" =true)
  (Z4A:PySem.W.keepIn K (.ref Z4l)=true)
  (Z64:PySem.W.nsIn K mainGlobals "onward" =some (some (.ref Z4m)))
  (Z65:K.lookup Z4m=some ⟨Zbc,Zb9,.func (PySem.W.fnOf "onward" "onward" (defArgs (tp 20)) (defBody (tp 20)) (defScope (tp 20)) .none Zbd Zbe Zbf Zba Z78 Zbg),Zbb⟩)
  (Z66:PySem.W.codeIn K Z78 "onward" =true)
  (Z4B:PySem.W.keepIn K (.ref Z4m)=true)
  (Z20:PySem.W.nsIn K mainGlobals "states_behind" =some (some (.ref Z1i)))
  (Z21:K.lookup Z1i=some ⟨Z5N,Z5K,.func (PySem.W.fnOf "states_behind" "states_behind" (defArgs (tp 22)) (defBody (tp 22)) (defScope (tp 22)) .none Z5O Z5P Z5Q Z5L Z2U Z5R),Z5M⟩)
  (Z22:PySem.W.codeIn K Z2U "states_behind" =true)
  (Z1k:PySem.W.keepIn K (.ref Z1i)=true)
  (Z67:PySem.W.nsIn K mainGlobals "search" =some (some (.ref Z4n)))
  (Z68:K.lookup Z4n=some ⟨Zbk,Zbh,.func (PySem.W.fnOf "search" "search" (defArgs (tp 21)) (defBody (tp 21)) (defScope (tp 21)) .none Zbl Zbm Zbn Zbi Z79 Zbo),Zbj⟩)
  (Z69:PySem.W.codeIn K Z79 "search" =true)
  (Z4C:PySem.W.keepIn K (.ref Z4n)=true)
  (a_law:PySem.W.nsIn K mainGlobals "law" =some (some (.ref f_law)))
  (l_law:K.lookup f_law=some ⟨oc_law,od_law,.func (PySem.W.fnOf "law" "law" (defArgs (tp 46)) (defBody (tp 46)) (defScope (tp 46)) .none kV_law dc_law pm_law an_law cd_law ct_law),sl_law⟩)
  (c_law:PySem.W.codeIn K cd_law "law" =true)
  (k_law:PySem.W.keepIn K (.ref f_law)=true)
  (z_abs:PySem.W.nsIn K mainGlobals "abs" =some none)
  (z_all:PySem.W.nsIn K mainGlobals "all" =some none)
  (z_bool:PySem.W.nsIn K mainGlobals "bool" =some none)
  (z_int:PySem.W.nsIn K mainGlobals "int" =some none)
  (z_isinstance:PySem.W.nsIn K mainGlobals "isinstance" =some none)
  (z_len:PySem.W.nsIn K mainGlobals "len" =some none)
  (z_list:PySem.W.nsIn K mainGlobals "list" =some none)
  (z_range:PySem.W.nsIn K mainGlobals "range" =some none)
  (z_sorted:PySem.W.nsIn K mainGlobals "sorted" =some none)
  (z_str:PySem.W.nsIn K mainGlobals "str" =some none)
  (z_tuple:PySem.W.nsIn K mainGlobals "tuple" =some none)
  (z_zip:PySem.W.nsIn K mainGlobals "zip" =some none)
  (Z6W:PySem.W.nsIn K mainGlobals "HOLES" =some (some (.int 4 Z27)))
  (Z6a:PySem.W.nsIn K mainGlobals "SLANTS" =some (some (.ref Z1C)))
  (Z6b:K.lookup Z1C=some {cls:=.type "dict",data:=.dict #[⟨hashInt (1),.int (1) x_SLANTS0,.str (yO "s") y_SLANTS0⟩,⟨hashInt (-1),.int (-1) x_SLANTS1,.str (yO "z") y_SLANTS1⟩,⟨hashInt (0),.int (0) x_SLANTS2,.str (yO "o") y_SLANTS2⟩] ZbR})
  (Z6c:(Z1C == sysModules)=false)
  (Z6X:PySem.W.nsIn K mainGlobals "START" =some (some (.ref Z2J)))
  (Z6Y:K.lookup Z2J=some {cls:=.type "tuple",data:=.seq #[.int (0) x_START0,.int (0) x_START1] Zc3})
  (Z6Z:PySem.W.nsIn K mainGlobals "STEPS" =some (some (.ref Z26)))
  (Z70:K.lookup Z26=some {cls:=.type "dict",data:=.dict #[⟨PySem.PyData.keyHash w.params (yO "f"),.str (yO "f") x_STEPS0,.int (1) y_STEPS0⟩,⟨PySem.PyData.keyHash w.params (yO "b"),.str (yO "b") x_STEPS1,.int (-1) y_STEPS1⟩,⟨PySem.PyData.keyHash w.params (yO "i"),.str (yO "i") x_STEPS2,.int (0) y_STEPS2⟩] Zc4})
  (Z71:(Z26 == sysModules)=false)
  (Z72:PySem.W.nsIn K mainGlobals "TURNS" =some (some (.str (yO "fbi") Z6A)))
  (Z9h:PySem.W.nsIn K mainGlobals "WORN" =some (some (.str (yO "?") Z8b)))
  :∃fd:zu,(∀(s:yK) (v:yH),EB s fd ⟨[v],[]⟩ [("_law_script",v)])∧∀base:Heap,K.In base→base.Ns mainGlobals mg→FnOk l.prog w K mg base CX0 27 fa fd ["_law_script"] (nA K):=by
 have e:=hfa.symm.trans (PySem.W.mg_of X G a_law)
 cases e
 have Z5n:=aW (st:=tp 44) Z3C Z3D Z1x
 have Z5o:=Z5n.binds (ps:=["_law_found","_law_due"]) fun _ _ _ _ _ _ us hl=>match us,hl with | [_,_],_=>rfl
 have Z7a:=aW (st:=tp 28) Z4Y Z4Z Z3r
 have Zbp:=Z7a.binds (ps:=["_law_script","_law_k"]) fun _ _ _ _ _ _ us hl=>match us,hl with | [_,_],_=>rfl
 have Z6r:=aW (st:=tp 24) Z4p Z4q Z2G
 have Zat:=Z6r.binds (ps:=["_law_cell","_law_many","_law_base"]) fun _ _ _ _ _ _ us hl=>match us,hl with | [_,_,_],_=>rfl
 have Z56:=aW (st:=tp 25) Z2W Z2X Z1Q
 have Z9i:=Z56.binds (ps:=["_law_cell"]) fun _ _ _ _ _ _ us hl=>match us,hl with | [_],_=>rfl
 have Z5p:=aW (st:=tp 26) Z3F Z3G Z2m
 have Z9T:=Z5p.binds (ps:=["_law_cell"]) fun _ _ _ _ _ _ us hl=>match us,hl with | [_],_=>rfl
 have Z57:=aW (st:=tp 27) Z2Z Z30 Z1R
 have Z9j:=Z57.binds (ps:=["_law_cell","_law_many"]) fun _ _ _ _ _ _ us hl=>match us,hl with | [_,_],_=>rfl
 have Z7b:=aW (st:=tp 30) Z51 Z52 Z3s
 have Zbq:=Z7b.binds (ps:=["_law_turn"]) fun _ _ _ _ _ _ us hl=>match us,hl with | [_],_=>rfl
 have Z4K:=aW (st:=tp 31) Z2v Z2w Z1A
 have Z87:=Z4K.binds (ps:=["_law_card_here","_law_turn"]) fun _ _ _ _ _ _ us hl=>match us,hl with | [_,_],_=>rfl
 have Z58:=aW (st:=tp 32) Z32 Z33 Z1S
 have Z9k:=Z58.binds (ps:=["_law_card_here","_law_turn"]) fun _ _ _ _ _ _ us hl=>match us,hl with | [_,_],_=>rfl
 have Z4L:=aW (st:=tp 33) Z2y Z2z Z1B
 have Z88:=Z4L.binds (ps:=["_law_card_here","_law_turns_here"]) fun _ _ _ _ _ _ us hl=>match us,hl with | [_,_],_=>rfl
 have Z5q:=aW (st:=tp 35) Z3I Z3J Z2n
 have Z9U:=Z5q.binds (ps:=["_law_places_here","_law_cell"]) fun _ _ _ _ _ _ us hl=>match us,hl with | [_,_],_=>rfl
 have Z59:=aW (st:=tp 34) Z35 Z36 Z1T
 have Z9l:=Z59.binds (ps:=["_law_places_here","_law_cell","_law_lies"]) fun _ _ _ _ _ _ us hl=>match us,hl with | [_,_,_],_=>rfl
 have Z3u:=aW (st:=tp 36) Z1V Z1W Z1j
 have Z6s:=Z3u.binds (ps:=["_law_card_here"]) fun _ _ _ _ _ _ us hl=>match us,hl with | [_],_=>rfl
 have Z5r:=aW (st:=tp 37) Z3L Z3M Z2o
 have Z9V:=Z5r.binds (ps:=["_law_turns_here"]) fun _ _ _ _ _ _ us hl=>match us,hl with | [_],_=>rfl
 have Z5s:=aW (st:=tp 38) Z3O Z3P Z2p
 have Z9W:=Z5s.binds (ps:=["_law_card_here","_law_many"]) fun _ _ _ _ _ _ us hl=>match us,hl with | [_,_],_=>rfl
 have Z5t:=aW (st:=tp 39) Z3R Z3S Z2q
 have Z9X:=Z5t.binds (ps:=["_law_card_here","_law_turns_here"]) fun _ _ _ _ _ _ us hl=>match us,hl with | [_,_],_=>rfl
 have Z6t:=aW (st:=tp 40) Z4s Z4t Z2H
 have Zau:=Z6t.binds (ps:=["_law_card_here","_law_turns_here","_law_cell"]) fun _ _ _ _ _ _ us hl=>match us,hl with | [_,_,_],_=>rfl
 have Z5u:=aW (st:=tp 41) Z3U Z3V Z2r
 have Z9Y:=Z5u.binds (ps:=["_law_script","_law_most"]) fun _ _ _ _ _ _ us hl=>match us,hl with | [_,_],_=>rfl
 have Z5a:=aW (st:=tp 45) Z38 Z39 Z1X
 have Z9m:=Z5a.binds (ps:=["_law_strip","_law_cell"]) fun _ _ _ _ _ _ us hl=>match us,hl with | [_,_],_=>rfl
 have Z5v:=aW (st:=tp 42) Z3X Z3Y Z2s
 have Z9Z:=Z5v.binds (ps:=["_law_card_here","_law_mark","_law_loose","_law_bound","_law_state"]) fun _ _ _ _ _ _ us hl=>match us,hl with | [_,_,_,_,_],_=>rfl
 have Z5b:=aW (st:=tp 43) Z3b Z3c Z1Y
 have Z9n:=Z5b.binds (ps:=["_law_card_here","_law_strip","_law_loose","_law_bound"]) fun _ _ _ _ _ _ us hl=>match us,hl with | [_,_,_,_],_=>rfl
 have Z9o:=aW (st:=tp 18) Z5T Z5U Z4u
 have ZbS:=Z9o.binds (ps:=["state","loose","bound"]) fun _ _ _ _ _ _ us hl=>match us,hl with | [_,_,_],_=>rfl
 have Z6u:=aW (st:=tp 6) Z4w Z4x Z2I
 have Zav:=Z6u.binds (ps:=["tablet","turn"]) fun _ _ _ _ _ _ us hl=>match us,hl with | [_,_],_=>rfl
 have Z42:=aW (st:=tp 17) Z2b Z2c Z1u
 have Z73:=Z42.binds (ps:=["tablet","state","turn"]) fun _ _ _ _ _ _ us hl=>match us,hl with | [_,_,_],_=>rfl
 have Z7c:=aW (st:=tp 16) Z54 Z55 Z3t
 have Zbr:=Z7c.binds (ps:=["tablet","twist"]) fun _ _ _ _ _ _ us hl=>match us,hl with | [_,_],_=>rfl
 have F_top:=aW (st:=tp 4) l_top c_top k_top
 have b_top:=F_top.binds (ps:=["tablet"]) fun _ _ _ _ _ _ us hl=>match us,hl with | [_],_=>rfl
 have Z9p:=aW (st:=tp 5) Z5W Z5X Z4y
 have ZbT:=Z9p.binds (ps:=["tablet"]) fun _ _ _ _ _ _ us hl=>match us,hl with | [_],_=>rfl
 have Z5c:=aW (st:=tp 9) Z3e Z3f Z1Z
 have Z9q:=Z5c.binds (ps:=["tablet","turn"]) fun _ _ _ _ _ _ us hl=>match us,hl with | [_,_],_=>rfl
 have Za1:=aW (st:=tp 13) Z6U Z6V Z5j
 have Zc5:=Za1.binds (ps:=["sign","left"]) fun _ _ _ _ _ _ us hl=>match us,hl with | [_,_],_=>rfl
 have Z9r:=aW (st:=tp 12) Z5Z Z60 Z4z
 have ZbU:=Z9r.binds (ps:=["place","mark"]) fun _ _ _ _ _ _ us hl=>match us,hl with | [_,_],_=>rfl
 have Z9s:=aW (st:=tp 19) Z62 Z63 Z4A
 have ZbV:=Z9s.binds (ps:=["tablet","state","turn","mark"]) fun _ _ _ _ _ _ us hl=>match us,hl with | [_,_,_,_],_=>rfl
 have Z9t:=aW (st:=tp 20) Z65 Z66 Z4B
 have ZbW:=Z9t.binds (ps:=["tablet","mark","loose","bound","state"]) fun _ _ _ _ _ _ us hl=>match us,hl with | [_,_,_,_,_],_=>rfl
 have Z3v:=aW (st:=tp 22) Z21 Z22 Z1k
 have Z6v:=Z3v.binds (ps:=["tablet","mark","loose","bound","states"]) fun _ _ _ _ _ _ us hl=>match us,hl with | [_,_,_,_,_],_=>rfl
 have Z9u:=aW (st:=tp 21) Z68 Z69 Z4C
 have ZbX:=Z9u.binds (ps:=["tablet","strip","loose","bound"]) fun _ _ _ _ _ _ us hl=>match us,hl with | [_,_,_,_],_=>rfl
 have F_law:=aW (st:=tp 46) l_law c_law k_law
 have b_law:=F_law.binds (ps:=["_law_script"]) fun _ _ _ _ _ _ us hl=>match us,hl with | [_],_=>rfl
 have h_abs:=PySem.W.mg_none_of X G z_abs
 have h_all:=PySem.W.mg_none_of X G z_all
 have h_bool:=PySem.W.mg_none_of X G z_bool
 have h_int:=PySem.W.mg_none_of X G z_int
 have h_isinstance:=PySem.W.mg_none_of X G z_isinstance
 have h_len:=PySem.W.mg_none_of X G z_len
 have h_list:=PySem.W.mg_none_of X G z_list
 have h_range:=PySem.W.mg_none_of X G z_range
 have h_sorted:=PySem.W.mg_none_of X G z_sorted
 have h_str:=PySem.W.mg_none_of X G z_str
 have h_tuple:=PySem.W.mg_none_of X G z_tuple
 have h_zip:=PySem.W.mg_none_of X G z_zip
 have Z1s:=PySem.W.mg_of X G Z6W
 have Z5x:=PySem.W.mg_of X G Z6a
 have Z5y:DictK K w Z1C [(Bf (1),.str (yO "s")),(Bf (-1),.str (yO "z")),(Bf (0),.str (yO "o"))]:=⟨by decide,Z6c,by decide +kernel,_,_,Z6b,(.cons ⟨fe _ _,rfl,⟨_,rfl⟩⟩ (.cons ⟨fe _ _,rfl,⟨_,rfl⟩⟩ (.cons ⟨fe _ _,rfl,⟨_,rfl⟩⟩ .nil)))⟩
 have Z5g:=PySem.W.mg_of X G Z6X
 have Z5h:∀H,SqT K H Z2J [.int (0),.int (0)]:=fun H=>.inr ⟨_,_,_,Z6Y,⟨rfl,rfl⟩,rfl,(by show 2≤sizeLine;decide),(.cons ⟨_,rfl⟩ (.cons ⟨_,rfl⟩ .nil))⟩
 have Z6w:=PySem.W.mg_of X G Z6Z
 have Z6x:DictK K w Z26 [(Bg (yO "f"),.int (1)),(Bg (yO "b"),.int (-1)),(Bg (yO "i"),.int (0))]:=⟨by decide,Z71,by decide +kernel,_,_,Z70,(.cons ⟨ff _ _,rfl,⟨_,rfl⟩⟩ (.cons ⟨ff _ _,rfl,⟨_,rfl⟩⟩ (.cons ⟨ff _ _,rfl,⟨_,rfl⟩⟩ .nil)))⟩
 have Z6B:=PySem.W.mg_of X G Z72
 have Z8c:=PySem.W.mg_of X G Z9h
 refine⟨PySem.W.fnOf "law" "law" (defArgs (tp 46)) (defBody (tp 46)) (defScope (tp 46)) .none kV_law dc_law pm_law an_law cd_law ct_law,fun s v=>.of_eq rfl,fun base KB _=>?_⟩
 have SA:∀n:Nat,Cal l.prog w K mg base "_law_same" ["_law_found","_law_due"] n (fu K n):=fun n=>by
  induction n with
  | zero=>exact⟨Z1w,_,u4,PySem.W.mg_of X G Z2l,Z1x,Z5o⟩
  | succ n ih=>exact⟨Z1w,_,rB Z5n h_len h_isinstance h_bool h_int h_str h_list h_tuple h_zip ih,PySem.W.mg_of X G Z2l,Z1x,Z5o⟩
 have Z13:=SA 26
 have Z0x:Cal l.prog w K mg base "_law_at" ["_law_script","_law_k"] (1) (bu (isScr K) isI (rs isI) fJ):=⟨Z3n,_,xV Z7a h_len,PySem.W.mg_of X G Z4X,Z3r,Zbp⟩
 have Z0u:Cal l.prog w K mg base "_law_row" ["_law_cell","_law_many","_law_base"] (1) (dE isI isI isI (ro isI) fv):=⟨Z2D,_,xW Z6r h_abs h_range,PySem.W.mg_of X G Z4o,Z2G,Zat⟩
 have Z2L:Cal l.prog w K mg base "_law_holes" ["_law_cell"] (2) (de isI (rs isS) tL):=⟨Z1J,_,xX Z56 Z0u,PySem.W.mg_of X G Z2V,Z1Q,Z9i⟩
 have Z2d:Cal l.prog w K mg base "_law_card" ["_law_cell"] (3) (de isI (rs (isT3 K isS isS isI)) sf):=⟨Z2e,_,xY Z5p Z2L,PySem.W.mg_of X G Z3E,Z2m,Z9T⟩
 have Z2N:Cal l.prog w K mg base "_law_turns" ["_law_cell","_law_many"] (2) (bu isI isI (rs isS) tM):=⟨Z1K,_,xZ Z57 Z0u,PySem.W.mg_of X G Z2Y,Z1R,Z9j⟩
 have Z1m:Cal l.prog w K mg base "_law_go" ["_law_turn"] (1) (de isS (rs isI) ln):=⟨Z3o,_,yb Z7b,PySem.W.mg_of X G Z50,Z3s,Zbq⟩
 have Z0T:Cal l.prog w K mg base "_law_behind" ["_law_card_here","_law_turn"] (2) (bu (isT3 K isS isS isI) isS (rs (isT3 K isS isS isI)) gU):=⟨Z1y,_,yc Z4K Z1m,PySem.W.mg_of X G Z2u,Z1A,Z87⟩
 have Z16:Cal l.prog w K mg base "_law_twist" ["_law_card_here","_law_turn"] (2) (bu (isT3 K isS isS isI) isS (rs isI) gy):=⟨Z1L,_,yd Z58 Z1m,PySem.W.mg_of X G Z31,Z1S,Z9k⟩
 have Z2t:Cal l.prog w K mg base "_law_places" ["_law_card_here","_law_turns_here"] (3) (bu (isT3 K isS isS isI) isS (ro (isT3 K isS isS isS)) tN):=⟨Z1z,_,ye Z4L Z0T Z16,PySem.W.mg_of X G Z2x,Z1B,Z88⟩
 have Z3z:Cal l.prog w K mg base "_law_long" ["_law_places_here","_law_cell"] (2) (bu (isL (isT3 K isS isS isS)) isI (ro (isT3 K isS isS isS)) tO):=⟨Z2f,_,yf Z5q Z0u h_len h_zip,PySem.W.mg_of X G Z3H,Z2n,Z9U⟩
 have Z2O:Cal l.prog w K mg base "_law_marks" ["_law_places_here","_law_cell","_law_lies"] (2) (dE (isL (isT3 K isS isS isS)) isI isB (ro (isT3 K isS isS isS)) tP):=⟨Z1M,_,yg Z59 Z0u h_int h_len h_tuple h_zip,PySem.W.mg_of X G Z34,Z1T,Z9l⟩
 have Z1G:Cal l.prog w K mg base "_law_turnover" ["_law_card_here"] (1) (de (isT3 K isS isS isI) (rs (isT3 K isS isS isI)) tQ):=⟨Z1h,_,yh Z3u,PySem.W.mg_of X G Z1U,Z1j,Z6s⟩
 have Z3w:Cal l.prog w K mg base "_law_back" ["_law_turns_here"] (1) (de isS (rs isS) tR):=⟨Z2g,_,yi Z5r,PySem.W.mg_of X G Z3K,Z2o,Z9V⟩
 have Z3x:Cal l.prog w K mg base "_law_roll" ["_law_card_here","_law_many"] (1) (bu (isT3 K isS isS isI) isI (rs (isT3 K isS isS isI)) tS):=⟨Z2h,_,yj Z5s h_range,PySem.W.mg_of X G Z3N,Z2p,Z9W⟩
 have Z3y:Cal l.prog w K mg base "_law_seen" ["_law_card_here","_law_turns_here"] (3) (bu (isT3 K isS isS isI) isS (ro isI) tT):=⟨Z2i,_,yk Z5t Z0T h_sorted,PySem.W.mg_of X G Z3Q,Z2q,Z9X⟩
 have Z4g:Cal l.prog w K mg base "_law_kin" ["_law_card_here","_law_turns_here","_law_cell"] (4) (dE (isT3 K isS isS isI) isS isI (rs (isT2 K (isT3 K isS isS isI) isS)) tU):=⟨Z2E,_,yl Z6t Z1G Z3w Z3x Z3y h_range,PySem.W.mg_of X G Z4r,Z2H,Zau⟩
 have Z3B:Cal l.prog w K mg base "_law_case" ["_law_script","_law_most"] (5) (bu (isScr K) isI (rs (isT3 K (isT3 K isS isS isI) (isL (isT3 K isS isS isS)) isI)) si):=⟨Z2j,_,ym Z5u Z2d Z0x Z2N Z2t Z3z Z2O Z4g,PySem.W.mg_of X G Z3T,Z2r,Z9Y⟩
 have Z2R:Cal l.prog w K mg base "_law_faded" ["_law_strip","_law_cell"] (2) (bu (isL (isT3 K isS isS isS)) isI (rs (isL (isT3 K isS isS isS))) tV):=⟨Z1N,_,yn Z5a Z0u h_len h_zip,PySem.W.mg_of X G Z37,Z1X,Z9m⟩
 have Z3A:Cal l.prog w K mg base "_law_next" ["_law_card_here","_law_mark","_law_loose","_law_bound","_law_state"] (3) (iT (isT3 K isS isS isI) (isT3 K isS isS isS) isI isI (isT2 K isI isI) (ro (isT2 K isI isI)) jR):=⟨Z2k,_,yo Z5v Z16 h_abs h_int h_zip,PySem.W.mg_of X G Z3W,Z2s,Z9Z⟩
 have Z2S:Cal l.prog w K mg base "_law_reach" ["_law_card_here","_law_strip","_law_loose","_law_bound"] (4) (gL (isT3 K isS isS isI) (isL (isT3 K isS isS isS)) isI isI (ro (isL (isT2 K isI isI))) tW):=⟨Z1O,_,yp Z5b Z3A h_len h_list h_sorted,PySem.W.mg_of X G Z3a,Z1Y,Z9n⟩
 have Z29:Cal l.prog w K mg base "within" ["state","loose","bound"] (1) (dE (isT2 K isI isI) isI isI (rs isB) l8):=⟨Z4i,_,yq Z9o h_abs,PySem.W.mg_of X G Z5S,Z4u,ZbS⟩
 have Z1r:Cal l.prog w K mg base "twisting" ["tablet","turn"] (1) (bu (isT3 K isS isS isI) isS (rs isI) m8):=⟨Z2F,_,yr Z6u Z6w Z6x,PySem.W.mg_of X G Z4v,Z2I,Zav⟩
 have Z28:Cal l.prog w K mg base "state_behind" ["tablet","state","turn"] (2) (dE (isT3 K isS isS isI) (isT2 K isI isI) isS (rs (isT2 K isI isI)) sk):=⟨Z1t,_,yt Z42 Z1r,PySem.W.mg_of X G Z2a,Z1u,Z73⟩
 have Z4O:Cal l.prog w K mg base "twisted" ["tablet","twist"] (1) (bu (isT3 K isS isS isI) isI (rs (isT3 K isS isS isI)) tX):=⟨Z3q,_,yu Z7c Z1s,PySem.W.mg_of X G Z53,Z3t,Zbr⟩
 have C_top:Cal l.prog w K mg base "top" ["tablet"] (1) (de (isT3 K isS isS isI) (rs isS) gd):=⟨f_top,_,wK F_top Z1s,PySem.W.mg_of X G a_top,k_top,b_top⟩
 have Z5w:Cal l.prog w K mg base "bottom" ["tablet"] (1) (de (isT3 K isS isS isI) (rs isS) tY):=⟨Z4j,_,yv Z9p Z1s,PySem.W.mg_of X G Z5V,Z4y,ZbT⟩
 have Z2Q:Cal l.prog w K mg base "left_place" ["tablet","turn"] (2) (bu (isT3 K isS isS isI) isS (rs (isT3 K isS isS isS)) tZ):=⟨Z1P,_,yw Z5c C_top Z5w Z1r Z5x Z5y,PySem.W.mg_of X G Z3d,Z1Z,Z9q⟩
 have Z6z:Cal l.prog w K mg base "suits" ["sign","left"] (1) (bu isS isS (rs isB) sm):=⟨Z5i,_,yx Za1 Z8c,PySem.W.mg_of X G Z6T,Z5j,Zc5⟩
 have Z5z:Cal l.prog w K mg base "agrees" ["place","mark"] (2) (bu (isT3 K isS isS isS) (isT3 K isS isS isS) (rs isB) u0):=⟨Z4k,_,yy Z9r Z6z h_all h_zip,PySem.W.mg_of X G Z5Y,Z4z,ZbU⟩
 have Z5A:Cal l.prog w K mg base "leaves" ["tablet","state","turn","mark"] (3) (gL (isT3 K isS isS isI) (isT2 K isI isI) isS (isT3 K isS isS isS) (rs isB) rp):=⟨Z4l,_,yA Z9s Z5z Z2Q Z4O,PySem.W.mg_of X G Z61,Z4A,ZbV⟩
 have Z5B:Cal l.prog w K mg base "onward" ["tablet","mark","loose","bound","state"] (4) (iT (isT3 K isS isS isI) (isT3 K isS isS isS) isI isI (isT2 K isI isI) (ro (isT2 K isS (isT2 K isI isI))) rq):=⟨Z4m,_,yB Z9t Z28 Z29 Z5A Z6B,PySem.W.mg_of X G Z64,Z4B,ZbW⟩
 have Z1I:Cal l.prog w K mg base "states_behind" ["tablet","mark","loose","bound","states"] (5) (iT (isT3 K isS isS isI) (isT3 K isS isS isS) isI isI (isL (isT2 K isI isI)) (ro (isT2 K isI isI)) m9):=⟨Z1i,_,yC Z3v Z5B h_sorted,PySem.W.mg_of X G Z20,Z1k,Z6v⟩
 have Z4h:Cal l.prog w K mg base "search" ["tablet","strip","loose","bound"] (6) (gL (isT3 K isS isS isI) (isL (isT3 K isS isS isS)) isI isI (wS (oL (oL (fz (isT2 K isI isI))))) sn):=⟨Z4n,_,yD Z9u Z29 Z1I Z5g Z5h,PySem.W.mg_of X G Z67,Z4C,ZbX⟩
 exact FnOk.imp (wL F_law Z3B Z2R Z0x Z2S Z4h Z13 h_len h_list) ul
theorem walk {l:PySem.W.OpenLaw} {q:zf} {loose:List Str} {XP:(Str→Option yH)→Heap→Prop} {YP:zt→Heap→Prop} {d:DefRec} {K:Gz→PySem.W.Frag} (hn:l.most=some 63) (hdf:d.params.defaults=[]) (hY:∀(w:zt) (h:Heap),YP w h→(K w.params).In h)
  (F:∀(w:zt) (mg:Str→Option yH) (fa:Addr) (h:Heap),(K w.params).In h→h.Ns mainGlobals mg→mg d.name=some (.ref fa)→∃fd:zu,(∀(s:yK) (u:yH),EB s fd ⟨[u],[]⟩ [("_law_script",u)])∧∀base:Heap,(K w.params).In base→base.Ns mainGlobals mg→FnOk l.prog w (K w.params) mg base CX0 27 fa fd ["_law_script"] (nA (K w.params))):
  PySem.W.WalkO q loose XP YP l.row.toRowW d [] (fun f vs=>PySem.call f vs):=
 L2.walk_of (n:=63) (k:=27) (x:="_law_script") (CX:=fun _=>CX0) (sp:=fun w=>nA (K w.params)) hn (by decide) hdf ⟨rfl,by decide,by decide⟩ hY F (fun _ _ a ns hl _ hS=>⟨a,ns,rfl,hS,hl,fun _=>rfl⟩) fun _ _ _ _ _ z=>z
end Wb
open PySem PySem.W PyProof.Rows
set_option maxRecDepth 100000 in
set_option maxHeartbeats 0 in
theorem PySem.Challenge.cw_wornband_k30_searches_told_holds : PySem.Challenge.rw_wornband_k30_searches_told.Holds := by
 refine hd ?_
 k_fill
 refine Wb.walk (l:=PySem.Challenge.rw_wornband_k30_searches_told) rfl rfl (fun w h Y=>PySem.W.kIn_of Y) ?F
 case F=>
  intro w mg fa h KX G hmg
  refine' Wb.fin_mk KX G hmg ?Z2l ?Z3C ?Z3D ?Z1x ?Z4X ?Z4Y ?Z4Z ?Z3r ?Z4o ?Z4p ?Z4q ?Z2G ?Z2V ?Z2W ?Z2X ?Z1Q ?Z3E ?Z3F ?Z3G ?Z2m ?Z2Y ?Z2Z ?Z30 ?Z1R ?Z50 ?Z51 ?Z52 ?Z3s ?Z2u ?Z2v ?Z2w ?Z1A ?Z31 ?Z32 ?Z33 ?Z1S ?Z2x ?Z2y ?Z2z ?Z1B ?Z3H ?Z3I ?Z3J ?Z2n ?Z34 ?Z35 ?Z36 ?Z1T ?Z1U ?Z1V ?Z1W ?Z1j ?Z3K ?Z3L ?Z3M ?Z2o ?Z3N ?Z3O ?Z3P ?Z2p ?Z3Q ?Z3R ?Z3S ?Z2q ?Z4r ?Z4s ?Z4t ?Z2H ?Z3T ?Z3U ?Z3V ?Z2r ?Z37 ?Z38 ?Z39 ?Z1X ?Z3W ?Z3X ?Z3Y ?Z2s ?Z3a ?Z3b ?Z3c ?Z1Y ?Z5S ?Z5T ?Z5U ?Z4u ?Z4v ?Z4w ?Z4x ?Z2I ?Z2a ?Z2b ?Z2c ?Z1u ?Z53 ?Z54 ?Z55 ?Z3t ?a_top ?l_top ?c_top ?k_top ?Z5V ?Z5W ?Z5X ?Z4y ?Z3d ?Z3e ?Z3f ?Z1Z ?Z6T ?Z6U ?Z6V ?Z5j ?Z5Y ?Z5Z ?Z60 ?Z4z ?Z61 ?Z62 ?Z63 ?Z4A ?Z64 ?Z65 ?Z66 ?Z4B ?Z20 ?Z21 ?Z22 ?Z1k ?Z67 ?Z68 ?Z69 ?Z4C ?a_law ?l_law ?c_law ?k_law ?z_abs ?z_all ?z_bool ?z_int ?z_isinstance ?z_len ?z_list ?z_range ?z_sorted ?z_str ?z_tuple ?z_zip ?Z6W ?Z6a ?Z6b ?Z6c ?Z6X ?Z6Y ?Z6Z ?Z70 ?Z71 ?Z72 ?Z9h
  (case Z2l=>k_is)
  (case Z3C=>k_is)
  (case Z3D=>k_is)
  (case Z1x=>k_is)
  (case Z4X=>k_is)
  (case Z4Y=>k_is)
  (case Z4Z=>k_is)
  (case Z3r=>k_is)
  (case Z4o=>k_is)
  (case Z4p=>k_is)
  (case Z4q=>k_is)
  (case Z2G=>k_is)
  (case Z2V=>k_is)
  (case Z2W=>k_is)
  (case Z2X=>k_is)
  (case Z1Q=>k_is)
  (case Z3E=>k_is)
  (case Z3F=>k_is)
  (case Z3G=>k_is)
  (case Z2m=>k_is)
  (case Z2Y=>k_is)
  (case Z2Z=>k_is)
  (case Z30=>k_is)
  (case Z1R=>k_is)
  (case Z50=>k_is)
  (case Z51=>k_is)
  (case Z52=>k_is)
  (case Z3s=>k_is)
  (case Z2u=>k_is)
  (case Z2v=>k_is)
  (case Z2w=>k_is)
  (case Z1A=>k_is)
  (case Z31=>k_is)
  (case Z32=>k_is)
  (case Z33=>k_is)
  (case Z1S=>k_is)
  (case Z2x=>k_is)
  (case Z2y=>k_is)
  (case Z2z=>k_is)
  (case Z1B=>k_is)
  (case Z3H=>k_is)
  (case Z3I=>k_is)
  (case Z3J=>k_is)
  (case Z2n=>k_is)
  (case Z34=>k_is)
  (case Z35=>k_is)
  (case Z36=>k_is)
  (case Z1T=>k_is)
  (case Z1U=>k_is)
  (case Z1V=>k_is)
  (case Z1W=>k_is)
  (case Z1j=>k_is)
  (case Z3K=>k_is)
  (case Z3L=>k_is)
  (case Z3M=>k_is)
  (case Z2o=>k_is)
  (case Z3N=>k_is)
  (case Z3O=>k_is)
  (case Z3P=>k_is)
  (case Z2p=>k_is)
  (case Z3Q=>k_is)
  (case Z3R=>k_is)
  (case Z3S=>k_is)
  (case Z2q=>k_is)
  (case Z4r=>k_is)
  (case Z4s=>k_is)
  (case Z4t=>k_is)
  (case Z2H=>k_is)
  (case Z3T=>k_is)
  (case Z3U=>k_is)
  (case Z3V=>k_is)
  (case Z2r=>k_is)
  (case Z37=>k_is)
  (case Z38=>k_is)
  (case Z39=>k_is)
  (case Z1X=>k_is)
  (case Z3W=>k_is)
  (case Z3X=>k_is)
  (case Z3Y=>k_is)
  (case Z2s=>k_is)
  (case Z3a=>k_is)
  (case Z3b=>k_is)
  (case Z3c=>k_is)
  (case Z1Y=>k_is)
  (case Z5S=>k_is)
  (case Z5T=>k_is)
  (case Z5U=>k_is)
  (case Z4u=>k_is)
  (case Z4v=>k_is)
  (case Z4w=>k_is)
  (case Z4x=>k_is)
  (case Z2I=>k_is)
  (case Z2a=>k_is)
  (case Z2b=>k_is)
  (case Z2c=>k_is)
  (case Z1u=>k_is)
  (case Z53=>k_is)
  (case Z54=>k_is)
  (case Z55=>k_is)
  (case Z3t=>k_is)
  (case a_top=>k_is)
  (case l_top=>k_is)
  (case c_top=>k_is)
  (case k_top=>k_is)
  (case Z5V=>k_is)
  (case Z5W=>k_is)
  (case Z5X=>k_is)
  (case Z4y=>k_is)
  (case Z3d=>k_is)
  (case Z3e=>k_is)
  (case Z3f=>k_is)
  (case Z1Z=>k_is)
  (case Z6T=>k_is)
  (case Z6U=>k_is)
  (case Z6V=>k_is)
  (case Z5j=>k_is)
  (case Z5Y=>k_is)
  (case Z5Z=>k_is)
  (case Z60=>k_is)
  (case Z4z=>k_is)
  (case Z61=>k_is)
  (case Z62=>k_is)
  (case Z63=>k_is)
  (case Z4A=>k_is)
  (case Z64=>k_is)
  (case Z65=>k_is)
  (case Z66=>k_is)
  (case Z4B=>k_is)
  (case Z20=>k_is)
  (case Z21=>k_is)
  (case Z22=>k_is)
  (case Z1k=>k_is)
  (case Z67=>k_is)
  (case Z68=>k_is)
  (case Z69=>k_is)
  (case Z4C=>k_is)
  (case a_law=>k_is)
  (case l_law=>k_is)
  (case c_law=>k_is)
  (case k_law=>k_is)
  (case z_abs=>k_is)
  (case z_all=>k_is)
  (case z_bool=>k_is)
  (case z_int=>k_is)
  (case z_isinstance=>k_is)
  (case z_len=>k_is)
  (case z_list=>k_is)
  (case z_range=>k_is)
  (case z_sorted=>k_is)
  (case z_str=>k_is)
  (case z_tuple=>k_is)
  (case z_zip=>k_is)
  (case Z6W=>k_is)
  (case Z6a=>k_is)
  (case Z6b=>k_is)
  (case Z6c=>rfl)
  (case Z6X=>k_is)
  (case Z6Y=>k_is)
  (case Z6Z=>k_is)
  (case Z70=>k_is)
  (case Z71=>rfl)
  (case Z72=>k_is)
  (case Z9h=>k_is)
