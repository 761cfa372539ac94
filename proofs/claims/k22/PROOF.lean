import PyProof.Rows.All
import Wide.All
import OpenK.AllK
import Wide.FinOn
import PyProof.EqAt
import PyProof.EqKinds
import PyProof.TupleCall
import KE.KDictSum
import KE.KRevIter
import KE.KRevSl
import KE.KDictLaws
import PyProof.StrLawsFirst
import KE.LcSums
import PyProof.EnumMake
import PyProof.TupleIter
import PyProof.StationsW
import PyProof.Rows.Own
import PyProof.NsDelKeeps
import PyProof.RulesAs
import PyProof.ExcAttrAll.ValueError
import KE.KIsAll
import PyProof.ExcBaseAll.ValueError
import PyProof.Rows.FStr
import PyProof.FString
import PyProof.Rows.StrNews
import PyProof.StrLawsTight
import PyProof.StrLawsChain
import PyProof.ExcInit
import PyProof.ExcClass3
import PyProof.InstStoreFacts
import PySem.Challenge.RW_wornband_k22_unlike_strands
set_option Elab.async false
set_option linter.all false
set_option maxRecDepth 100000
namespace L2
open PySem PySem.Spec PyProof.Rows
abbrev Key:=Sum Int Str
def eJ:Key→Value→Bool
 | .inl k,v=>Value.isInt k v
 | .inr x,v=>Value.isStrOf x v
def nN (w:World):Key→Int
 | .inl k=>hashInt k
 | .inr x=>hashStr w x
theorem bB:∀{k:Key} {v:Value},eJ k v=true→(∃i t,k=Sum.inl i∧v=Value.int i t)∨(∃x t,k=Sum.inr x∧v=Value.str x t)
 | .inl i, v, h => by
  obtain⟨t,e⟩:=Value.isInt_shape (k:=i) (v:=v) h
  exact .inl ⟨i,t,rfl,e⟩
 | .inr x, v, h => by
  obtain⟨t,e⟩:=Value.isStrOf_shape (x:=x) (v:=v) h
  exact .inr ⟨x,t,rfl,e⟩
theorem eV (i:Int) (t:Tok):eJ (.inl i) (.int i t)=true:=by simp[eJ,Value.isInt]
theorem cu (x:Str) (t:Tok):eJ (.inr x) (.str x t)=true:=by simp[eJ,Value.isStrOf]
theorem sm (a b:Int):decide ((Sum.inl a:Key)=Sum.inl b)=(a == b):=by
 by_cases e:a=b
 ·subst e;simp
 ·have h:¬(Sum.inl a:Key)=Sum.inl b:=fun q=>e (Sum.inl.inj q)
  rw[decide_eq_false h]
  exact(beq_eq_false_iff_ne.mpr e).symm
theorem sq (a b:Str):decide ((Sum.inr a:Key)=Sum.inr b)=decide (a=b):=by
 by_cases e:a=b
 ·subst e;simp
 ·have h:¬(Sum.inr a:Key)=Sum.inr b:=fun q=>e (Sum.inr.inj q)
  rw[decide_eq_false h,decide_eq_false e]
theorem sr (a:Int) (b:Str):decide ((Sum.inl a:Key)=Sum.inr b)=false:=decide_eq_false (fun q=>nomatch q)
theorem ss (a:Str) (b:Int):decide ((Sum.inr a:Key)=Sum.inl b)=false:=decide_eq_false (fun q=>nomatch q)
def bL (prog:Program) (w:World):PySem.KeyKind prog w Key where
 is:=eJ
 hash:=nN w
 inj:=fun v a b ha hb=>by
  rcases bB ha with⟨i,t,rfl,rfl⟩ | ⟨x,t,rfl,rfl⟩
  ·rcases bB hb with⟨j,u,rfl,e⟩ | ⟨y,u,rfl,e⟩
   ·injection e with e1 _;rw[e1]
   ·exact nomatch e
  ·rcases bB hb with⟨j,u,rfl,e⟩ | ⟨y,u,rfl,e⟩
   ·exact nomatch e
   ·injection e with e1 _;rw[e1]
 byValue:=fun k v h=>by
  rcases bB h with⟨i,t,rfl,rfl⟩ | ⟨x,t,rfl,rfl⟩ <;> rfl
 pyHash:=fun hv h=>by
  rcases bB hv with⟨i,t,rfl,rfl⟩ | ⟨x,t,rfl,rfl⟩
  ·exact wpAny_pyHash_int h
  ·exact wpAny_pyHash_str h
 eqBool:=fun hu hv h=>by
  rcases bB hu with⟨i,t,rfl,rfl⟩ | ⟨x,t,rfl,rfl⟩
  ·rcases bB hv with⟨j,u,rfl,rfl⟩ | ⟨y,u,rfl,rfl⟩
   ·rw[sm]at h;exact wpAny_eqBool_int h
   ·rw[sr]at h;exact SeqAt.EqAt.int_str i t y u _ _ _ _ h
  ·rcases bB hv with⟨j,u,rfl,rfl⟩ | ⟨y,u,rfl,rfl⟩
   ·rw[ss]at h;exact SeqAt.EqAt.str_int x t j u _ _ _ _ h
   ·rw[sq]at h;exact wpAny_eqBool_str h
 «strs» :=fun k x t v h=>by
  rcases bB h with⟨i,u,rfl,e⟩ | ⟨y,u,rfl,e⟩
  ·exact nomatch e
  ·injection e with e1 _
   subst e1
   cases v <;> rfl
theorem jB (prog:Program) (w:World) (i:Int) (t:Tok):(bL prog w).is (.inl i) (.int i t)=true:=eV i t
theorem jC (prog:Program) (w:World) (x:Str) (t:Tok):(bL prog w).is (.inr x) (.str x t)=true:=cu x t
end L2
namespace L2
open PySem PySem.Spec PyProof.Rows
inductive V where
 | non | bl (b:Bool) | int (i:Int) | str (x:Str) | byt (b:Array UInt8) | flt (b:UInt64) | ref (a:Addr) | ty (n:String)
 deriving DecidableEq
def RelV:V→Value→Prop
 | .non,u=>u=Value.none
 | .bl b,u=>u=Value.bool b
 | .int i,u=>∃t,u=Value.int i t
 | .str x,u=>∃t,u=Value.str x t
 | .byt b,u=>∃t,u=Value.bytes b t
 | .flt b,u=>∃t,u=Value.float b t
 | .ref a,u=>u=Value.ref a
 | .ty n,u=>u=Value.type n
abbrev Vals:List V→List Value→Prop:=Paired RelV
theorem Vals.length {xs:List V} {us:List Value} (r:Vals xs us):xs.length=us.length:=Paired.length r
theorem Vals.get:∀{xs:List V} {us:List Value} {i:Nat} {x:V},Vals xs us→xs[i]? =some x→∃u,us[i]? =some u∧RelV x u
 | _,_,_,_,.nil,e=>by simp at e
 | _,_,0,_,.cons r _,e=>by simp at e;subst e;exact⟨_,rfl,r⟩
 | _, _, i + 1, x, .cons _ t, e => by
  obtain⟨u,h1,h2⟩:=Vals.get (i:=i) (x:=x) t (by simpa using e)
  exact⟨u,by simpa using h1,h2⟩
theorem Vals.append:∀{xs ys:List V} {us ws:List Value},Vals xs us→Vals ys ws→Vals (xs++ys) (us++ws)
 | _,_,_,_,.nil,s=>s
 | _,_,_,_,.cons r t,s=>.cons r (Vals.append t s)
theorem Vals.take:∀{xs:List V} {us:List Value} (n:Nat),Vals xs us→Vals (xs.take n) (us.take n)
 | _,_,0,_=>.nil
 | _,_,_+1,.nil=>.nil
 | _,_,n+1,.cons r t=>.cons r (Vals.take n t)
theorem Vals.drop:∀{xs:List V} {us:List Value} (n:Nat),Vals xs us→Vals (xs.drop n) (us.drop n)
 | _,_,0,r=>r
 | _,_,_+1,.nil=>.nil
 | _,_,n+1,.cons _ t=>Vals.drop n t
def RelO:Option V→Option Value→Prop
 | some v,some u=>RelV v u
 | none,none=>True
 | _,_=>False
def KV {κ:Type} :List (κ×V)→List (κ×Value)→Prop:=Paired fun(p:κ×V) (q:κ×Value)=>p.1=q.1∧RelV p.2 q.2
def kV:Key→V
 | .inl i=>.int i
 | .inr x=>.str x
inductive HO where
 | lst (xs:List V)
 | tup (xs:List V)
 | dK (kvs:List (Key×V)) | dT (kvs:List (List Key×V))
 | set (S:Int→Bool) (n:Nat)
 | ins (C dx:Addr) (fs:List (Str×V))
 | own (x:Addr)
 | xd (fs:List (Str×V))
 | met (f x:Addr)
 | rng (lo hi:Int)
 | frz (o:Obj) (u:HO)
 | tbl (ps:Array Value)
 | ext (φ:Heap→Prop)
abbrev Hp:=Addr→Option HO
def bu (H:Hp) (a:Addr) (o:HO):Hp:=fun b=>if b=a then some o else H b
theorem ak {H:Hp} {a:Addr} {o:HO} :bu H a o a=some o:=by unfold bu;rw[if_pos rfl]
theorem ah {H:Hp} {a b:Addr} {o:HO} (h:b≠a):bu H a o b=H b:=by unfold bu;rw[if_neg h]
theorem tS {H:Hp} {a b:Addr} {o u:HO} (h:H a=some o) (h':H b=some u) (d:o≠u):a≠b:=by
 intro e;subst e;rw[h]at h';exact d (Option.some.inj h')
theorem bR {H:Hp} {a b:Addr} {o:HO} (h:H a=some o) (h':H b=none):a≠b:=by
 intro e;subst e;rw[h]at h';cases h'
section
variable (P:Program) (w:World)
def ObjOk (H:Hp) (h:Heap) (a:Addr):HO→Prop
 | .lst xs=>xs.length≤sizeLine∧∃(its:List Value) (n:Nat),Vals xs its∧h.get? a=some {cls:=.type "list",data:=.seq its.toArray n}
 | .tup xs=>xs.length≤sizeLine∧∃its:List Value,Vals xs its∧IsTup h a its.toArray
 | .dK kvs=>kvs.length≤sizeLine∧(a == sysModules)=false∧∃vs,KV kvs vs∧h.DictOf (bL P w) a vs
 | .dT kvs=>kvs.length≤sizeLine∧(a == sysModules)=false∧∃xs:List (List Key×Addr×Value),
   Paired (fun(p:List Key×V) (q:List Key×Addr×Value)=>p.1=q.1∧H q.2.1=some (.tup (p.1.map kV))∧RelV p.2 q.2.2) kvs xs∧
   ∃o es ep,h.get? a=some o∧o.ExactDict∧o.data=.dict es ep∧es.toList=xs.map (entryOfKey (tupleKind (bL P w)))∧(xs.map (·.1)).Nodup
 | .set S n=>h.SetOf (intKind P w) a S n
 | .ins C dx fs=>H dx=some (.own a)∧fs.length≤1000∧dx≠a∧h.get? a=some (PySem.W.instObj C dx)∧
   ∃mA,h.Ns1 dx mA∧(∀f,RelO (fs.lookup f) (mA f))∧PySem.Within mA (fs.map (·.1))
 | .own _=>∃o,h.get? a=some o
 | .xd fs=>∃mA,h.Ns1 a mA∧∀f,RelO (fs.lookup f) (mA f)
 | .rng lo hi=>∃t u v,h.get? a=some {cls:=.type "range",data:=.fields #[.int lo t,.int hi u,.int 1 v]}
 | .frz o u=>h.get? a=some o∧ObjOk H h a u
 | .tbl ps=>h.get? a=some {cls:=.none,data:=.fields ps}
 | .met f x=>h.get? a=some (PySem.W.methodObj (.ref f) (.ref x))
 | .ext φ=>φ h∧(∃o,h.get? a=some o)∧∀h1 h2:Heap,φ h1→(∀o,h1.get? a=some o→h2.get? a=some o)→φ h2
def HOk (H:Hp) (h:Heap):Prop:=∀a o,H a=some o→ObjOk P w H h a o
end
section
variable {P:Program} {w:World} {H H':Hp} {h h':Heap} {a:Addr} {o:HO}
theorem ObjOk.lt (x:ObjOk P w H h a o):a< h.objs.size:=by
 cases o with
 | lst xs=>obtain⟨_,_,_,_,e⟩:=x;exact Heap.lt_size e
 | tup xs=>obtain⟨_,_,_,p⟩:=x;exact p.lt
 | dK kvs=>obtain⟨_,_,_,_,o,_,_,e,_⟩:=x;exact Heap.lt_size e
 | dT kvs=>obtain⟨_,_,_,_,o,_,_,e,_⟩:=x;exact Heap.lt_size e
 | set S n=>obtain⟨o,_,_,_,e,_⟩:=x;exact Heap.lt_size e
 | ins C dx fs=>obtain⟨_,_,_,e,_⟩:=x;exact Heap.lt_size e
 | own y=>obtain⟨_,e⟩:=x;exact Heap.lt_size e
 | xd fs=>obtain⟨_,⟨_,_,_,e,_⟩,_⟩:=x;exact Heap.lt_size e
 | rng lo hi=>obtain⟨_,_,_,e⟩:=x;exact Heap.lt_size e
 | frz ob u=>obtain⟨e,_⟩:=x;exact Heap.lt_size e
 | tbl ps=>exact Heap.lt_size (show h.get? a=some _ from x)
 | met f y=>exact Heap.lt_size (show h.get? a=some _ from x)
 | ext φ=>obtain⟨_,⟨_,e⟩,_⟩:=x;exact Heap.lt_size e
theorem Paired.mapP {α β:Type} {F G:α→β→Prop} :∀{l₁:List α} {l₂:List β},Paired F l₁ l₂→(∀a b,F a b→G a b)→Paired G l₁ l₂
 | _,_,.nil,_=>.nil
 | _,_,.cons r t,f=>.cons (f _ _ r) (Paired.mapP t f)
theorem ObjOk.stay (x:ObjOk P w H h a o) (k:∀b u,(b=a∨H b=some (.own a))→h.get? b=some u→h'.get? b=some u)
  (ho:∀b,H b=some (.own a)→H' b=some (.own a)) (ht:∀b xs,H b=some (.tup xs)→H' b=some (.tup xs)):ObjOk P w H' h' a o:=by
 induction o with
 | lst xs=>obtain⟨z,its,n,r,e⟩:=x;exact⟨z,its,n,r,k _ _ (.inl rfl) e⟩
 | tup xs=>obtain⟨z,its,r,ob,e,c⟩:=x;exact⟨z,its,r,ob,k _ _ (.inl rfl) e,c⟩
 | dK kvs=>obtain⟨z,y,vs,r,ob,es,ep,e,c⟩:=x;exact⟨z,y,vs,r,ob,es,ep,k _ _ (.inl rfl) e,c⟩
 | dT kvs =>
  obtain⟨z,y,xs,r,ob,es,ep,e,c⟩:=x
  exact⟨z,y,xs,Paired.mapP r fun p q z=>⟨z.1,ht _ _ z.2.1,z.2.2⟩,ob,es,ep,k _ _ (.inl rfl) e,c⟩
 | set S n=>obtain⟨ob,es,ep,t,e,c⟩:=x;exact⟨ob,es,ep,t,k _ _ (.inl rfl) e,c⟩
 | ins C dx fs =>
  obtain⟨d,z,ne,e,mA,⟨od,es,ep,e2,c⟩,r⟩:=x
  exact⟨ho _ d,z,ne,k _ _ (.inl rfl) e,mA,⟨od,es,ep,k _ _ (.inr d) e2,c⟩,r⟩
 | own y=>obtain⟨ob,e⟩:=x;exact⟨ob,k _ _ (.inl rfl) e⟩
 | xd fs=>obtain⟨mA,⟨od,es,ep,e,c⟩,r⟩:=x;exact⟨mA,⟨od,es,ep,k _ _ (.inl rfl) e,c⟩,r⟩
 | rng lo hi=>obtain⟨t,u,v,e⟩:=x;exact⟨t,u,v,k _ _ (.inl rfl) e⟩
 | frz ob u ih=>obtain⟨e,q⟩:=x;exact⟨k _ _ (.inl rfl) e,ih q⟩
 | tbl ps =>
  have e:h.get? a=some {cls:=.none,data:=.fields ps} :=x
  show h'.get? a=some {cls:=.none,data:=.fields ps}
  exact k a _ (.inl rfl) e
 | met f y =>
  have e:h.get? a=some (PySem.W.methodObj (.ref f) (.ref y)):=x
  show h'.get? a=some (PySem.W.methodObj (.ref f) (.ref y))
  exact k a _ (.inl rfl) e
 | ext φ=>obtain⟨p,⟨o,e⟩,st⟩:=x;exact⟨st _ _ p fun o q=>k _ _ (.inl rfl) q,⟨o,k _ _ (.inl rfl) e⟩,st⟩
theorem HOk.lt (x:HOk P w H h) (e:H a=some o):a< h.objs.size:=(x a o e).lt
theorem HOk.fresh (x:HOk P w H h) (e:h.objs.size≤a):H a=none:=by
 cases q:H a with
 | none=>rfl
 | some u=>exact absurd (Nat.lt_of_lt_of_le (x.lt q) e) (Nat.lt_irrefl _)
theorem HOk.kept (x:HOk P w H h) (k:∀b u,h.get? b=some u→h'.get? b=some u):HOk P w H h':=fun a o e=>
 (x a o e).stay (fun b u _ q=>k b u q) (fun _ q=>q) fun _ _ q=>q
theorem HOk.laid (x:HOk P w H h) (k:∀b u,h.get? b=some u→h'.get? b=some u) (hp:h.objs.size≤a) (new:ObjOk P w (bu H a o) h' a o):HOk P w (bu H a o) h':=fun b u e=>by
 have hn:=x.fresh hp
 by_cases hb:b=a
 ·subst hb;rw[ak]at e;cases e;exact new
 ·rw[ah hb]at e
  exact(x b u e).stay (fun c v _ q=>k c v q) (fun c q=>by rw[ah (bR q hn)];exact q) fun c xs q=>by rw[ah (bR q hn)];exact q
end
def Rd (H:Hp) (a:Addr) (u:HO):Prop:=H a=some u∨∃o,H a=some (.frz o u)
theorem Rd.ok {P:Program} {w:World} {H:Hp} {h:Heap} {a:Addr} {u:HO} (r:Rd H a u) (x:HOk P w H h):ObjOk P w H h a u:=by
 rcases r with r | ⟨o,r⟩
 ·exact x a u r
 ·obtain⟨_,q⟩:=x a _ r
  exact q
def tT:Option HO→Prop
 | some (.lst _)=>True
 | some (.dK _)=>True
 | some (.dT _)=>True
 | some (.set _ _)=>True
 | some (.ins _ _ _)=>True
 | some (.ext _)=>True
 | _=>False
section
variable {P:Program} {w:World} {H:Hp} {h h':Heap} {x e:Addr} {o':HO}
theorem HOk.write (ok:HOk P w H h) (mu:tT (H x)) (he:e=x∨H e=some (.own x)) (k:∀b u,b≠e→h.get? b=some u→h'.get? b=some u) (heo:∃u,h'.get? e=some u)
  (new:ObjOk P w (bu H x o') h' x o'):HOk P w (bu H x o') h':=fun b u q=>by
 have nown:∀c y,H c=some (.own y)→c≠x:=fun c y r z=>by subst z;rw[r]at mu;exact mu
 have ntup:∀c xs,H c=some (.tup xs)→c≠x:=fun c xs r z=>by subst z;rw[r]at mu;exact mu
 by_cases hb:b=x
 ·subst hb;rw[ak]at q;cases q;exact new
 ·rw[ah hb]at q
  by_cases hbe:b=e
  ·have q':H b=some (.own x):=by
    rcases he with z | z
    ·exact absurd (hbe.trans z) hb
    ·rw[hbe];exact z
   rw[q]at q';cases q'
   obtain⟨v,hv⟩:=heo
   exact⟨v,by rw[hbe];exact hv⟩
  ·refine(ok b u q).stay (fun c v hc r=>k c v ?_ r) (fun c r=>by rw[ah (nown c b r)];exact r) fun c xs r=>by rw[ah (ntup c xs r)];exact r
   rcases hc with rfl | hc
   ·exact hbe
   ·rintro rfl
    rcases he with z | z
    ·exact nown c b hc z
    ·rw[hc]at z;cases z;exact hb rfl
end
structure Un (fs ex:List Addr) (H H':Hp) (h h':Heap):Prop where
 keep:∀b o,h.get? b=some o→H b=none→b∉fs→b∉ex→h'.get? b=some o
 slot:∀b o,h.get? b=some o→H b=none→b∈fs→b∉ex→∃sl,h'.get? b=some {o with slots:=sl}
 free:∀b o,h.get? b=some o→H b=none→b∉ex→H' b=none
 there:∀b o,h.get? b=some o→b∉ex→∃o',h'.get? b=some o'
 tups:∀b xs,H b=some (.tup xs)→H' b=some (.tup xs)
 frzs:∀b o u,H b=some (.frz o u)→H' b=some (.frz o u)
 tbls:∀b ps,H b=some (.tbl ps)→∃more,H' b=some (.tbl (ps++more))
section
variable {fs fs' ex ex':List Addr} {H H1 H2:Hp} {h h1 h2 h':Heap} {a x e:Addr} {o:HO}
theorem Un.any (u:Un fs ex H H1 h h1) {b:Addr} {ob:Obj} (q:h.get? b=some ob) (n:H b=none) (hx:b∉ex):∃sl,h1.get? b=some {ob with slots:=sl} :=by
 by_cases hb:b∈fs
 ·exact u.slot b ob q n hb hx
 ·exact⟨ob.slots,u.keep b ob q n hb hx⟩
theorem Un.kept (k:∀b u,h.get? b=some u→h'.get? b=some u):Un fs ex H H h h':=
 ⟨fun b ob q _ _ _=>k b ob q,fun b ob q _ _ _=>⟨ob.slots,k b ob q⟩,fun _ _ _ n _=>n,fun b ob q _=>⟨ob,k b ob q⟩,fun _ _ q=>q,fun _ _ _ q=>q,fun _ ps q=>⟨#[],by rw[q];simp⟩⟩
theorem Un.refl:Un fs ex H H h h:=Un.kept fun _ _ q=>q
theorem Un.laid (k:∀b u,h.get? b=some u→h'.get? b=some u) (hp:h.objs.size≤a) (hn:H a=none):Un fs ex H (bu H a o) h h' where
 keep:=fun b u q _ _ _=>k b u q
 slot:=fun b u q _ _ _=>⟨u.slots,k b u q⟩
 free:=fun b u q n _=>by rw[ah (Nat.ne_of_lt (Nat.lt_of_lt_of_le (Heap.lt_size q) hp))];exact n
 there:=fun b u q _=>⟨u,k b u q⟩
 tups:=fun b xs q=>by rw[ah (bR q hn)];exact q
 frzs:=fun b u xs q=>by rw[ah (bR q hn)];exact q
 tbls:=fun b ps q=>⟨#[],by rw[ah (bR q hn),q];simp⟩
theorem Un.write (mu:tT (H x)) (he:e=x∨H e=some (.own x)) (k:∀b u,b≠e→h.get? b=some u→h'.get? b=some u) (heo:∃u,h'.get? e=some u):Un fs ex H (bu H x o) h h':=by
 have hx:∀b,H b=none→b≠x:=fun b n z=>by subst z;rw[n]at mu;exact mu
 have hb:∀b,H b=none→b≠e:=fun b n z=>by
  subst z
  rcases he with r | r
  ·exact hx b n r
  ·rw[n]at r;cases r
 have hm:∀b u,H b=some u→¬tT (some u)→b≠x:=fun b u q nm z=>by subst z;rw[q]at mu;exact nm mu
 refine⟨fun b u q n _ _=>k b u (hb b n) q,fun b u q n _ _=>⟨u.slots,k b u (hb b n) q⟩,fun b u q n _=>by rw[ah (hx b n)];exact n,fun b u q _=>?_,
  fun b xs q=>by rw[ah (hm b _ q fun z=>z)];exact q,fun b u xs q=>by rw[ah (hm b _ q fun z=>z)];exact q,fun b ps q=>⟨#[],by rw[ah (hm b _ q fun z=>z),q];simp⟩⟩
 by_cases hbe:b=e
 ·subst hbe;exact heo
 ·exact⟨u,k b u hbe q⟩
end
def fb (h:Heap) (H:Hp):List Addr:=(List.range h.objs.size).filter fun a=>(H a).isSome
def iU (h:Heap) (H:Hp):Heap:=PySem.W.hideAll h (fb h H)
theorem mw (h:Heap) (H:Hp):(iU h H).objs.size=h.objs.size:=PySem.W.hideAll_size _ _
theorem nO {h:Heap} {H:Hp} {b:Addr} {o:Obj} (e:h.get? b=some o) (n:H b=none):(iU h H).get? b=some o:=
 PySem.W.hideAll_get _ e fun hm=>by
  have q:(H b).isSome=true:=(List.mem_filter.mp hm).2
  rw[n]at q;simp at q
theorem qh {h:Heap} {H:Hp} {b:Addr} {o:Obj} (e:(iU h H).get? b=some o):h.get? b=some o∧H b=none:=by
 have e':h.get? b=some o:=PySem.W.of_hideAll (fb h H) e
 refine⟨e',?_⟩
 cases q:H b with
 | none=>rfl
 | some x =>
  have hm:b∈fb h H:=List.mem_filter.mpr ⟨List.mem_range.mpr (Heap.lt_size e'),by simp[q]⟩
  have z:(iU h H).get? b=none:=PySem.W.hideAll_none (fb h H) hm
  rw[z]at e;cases e
end L2
namespace L2
open PySem PySem.Spec PyProof.Rows
structure Mod (K:PySem.W.Frag) (mg:Str→Option Value) (base:Heap):Prop where
 kin:K.In base
 glob:base.Ns mainGlobals mg
 blt:∃mb,base.Ns builtinsNs mb∧∀x:Str,x≠"__name__" →mb x=bootBuiltins x
 nolimit:base.NoLimit
structure Cx where
 prog:Program
 w:World
 K:PySem.W.Frag
 mg:Str→Option Value
 base:Heap
 A:Around
 N:List Str
 s₀:Shared
 H₀:Hp
 env:Env
 outer:List Env
 stack:List Env
 ex:List Addr
 fn:Str→Bool
 calm:Bool
 pn:List (Addr×Obj)
 xe:Value→Shared→Prop
def frs (l:List Env):List Addr:=l.filterMap (·.frame)
abbrev Cx.fs (X:Cx):List Addr:=frs X.outer
def Vis (sc:Scope) (x:Str):Prop:=sc.names.lookup x=some .local∨sc.names.lookup x=some .cell∨sc.names.lookup x=some .free
def tU (sc:Scope) (x:Str):Prop:=sc.names.lookup x=some .local∨sc.names.lookup x=some .cell
def Look (env:Env) (h:Heap) (m:Str→Option Value) (x:Str) (u:Value):Prop:=
 (env.kindOf x=some .local∧m x=some u)∨((env.kindOf x=some .cell∨env.kindOf x=some .free)∧∃c,env.cells.lookup x=some c∧h.IsCell c (some u))
structure Cx.Ok (X:Cx):Prop where
 mod:Mod X.K X.mg X.base
 kind:X.env.scope.kind=.function
 glob:X.env.globals=mainGlobals
 blt:X.env.builtins=builtinsNs
 above:X.s₀.heap.objs.size≤X.env.locals
 inj:∀x y c,X.env.cells.lookup x=some c→X.env.cells.lookup y=some c→x=y
 has:∀x,(X.env.kindOf x=some .cell∨X.env.kindOf x=some .free)→∃c,X.env.cells.lookup x=some c
 cab:∀x c,X.fn x=true→X.env.cells.lookup x=some c→X.s₀.heap.objs.size≤c
 hd:X.calm=true→X.A.handled=none
 frames:X.A.frames=some X.stack
 stk:X.stack=X.outer∨(X.stack=X.env::X.outer∧X.env.frame=some X.env.locals)
 exf:∀b∈X.ex,b≠X.env.locals∧∀x c,X.env.cells.lookup x=some c→c≠b
 bs:∀b o,X.base.get? b=some o→X.s₀.heap.get? b=some o∧X.H₀ b=none
 bsz:X.base.objs.size≤X.s₀.heap.objs.size
 noex:∀b o,X.base.get? b=some o→b∉X.ex
 exfs:∀b∈X.ex,b∉X.fs
 funs:X.s₀.heap.FunFrames X.base X.outer
 frf:∀b∈X.fs,X.H₀ b=none
structure Inv (X:Cx) (pins:List (Addr×Obj)) (σ:List (Option V)) (H:Hp) (s:Shared):Prop where
 ok:X.Ok
 os:s.os=X.s₀.os
 bare:AllBare s.gens
 base:Un X.fs X.ex X.H₀ H X.s₀.heap s.heap
 loc:∃m,s.heap.Ns X.env.locals m∧∀(i:Nat) (x:Str) (v:V),X.N[i]? =some x→σ[i]? =some (some v)→Vis X.env.scope x→∃u,RelV v u∧Look X.env s.heap m x u
 cell:∀x c,X.env.cells.lookup x=some c→∃v,s.heap.IsCell c v
 free:H X.env.locals=none
 freeC:∀x c,X.env.cells.lookup x=some c→H c=none
 pin:∀p∈X.pn++pins,s.heap.get? p.1=some p.2∧H p.1=none∧p.1≠X.env.locals∧p.1∉X.fs∧∀v,p.2.data≠.cell v
 hok:HOk X.prog X.w H s.heap
 len:σ.length=X.N.length
section
variable {X:Cx} {pins:List (Addr×Obj)} {σ:List (Option V)} {H H':Hp} {s:Shared} {h':Heap}
theorem Cx.Ok.nofr (ok:X.Ok) {b:Addr} {o:Obj} (e:X.base.get? b=some o):b∉X.fs:=fun hb=>by
 have:=(ok.funs.mem hb).1
 rw[e]at this;cases this
theorem Inv.bs (I:Inv X pins σ H s):∀b o,X.base.get? b=some o→s.heap.get? b=some o∧H b=none:=fun b o e=>
 ⟨I.base.keep b o (I.ok.bs b o e).1 (I.ok.bs b o e).2 (I.ok.nofr e) (I.ok.noex b o e),I.base.free b o (I.ok.bs b o e).1 (I.ok.bs b o e).2 (I.ok.noex b o e)⟩
theorem Inv.bk (I:Inv X pins σ H s):∀b o,X.base.get? b=some o→s.heap.get? b=some o:=fun b o e=>(I.bs b o e).1
theorem Inv.mod (I:Inv X pins σ H s):Mod X.K X.mg X.base:=I.ok.mod
theorem Inv.kIn (I:Inv X pins σ H s):X.K.In s.heap:=I.ok.mod.kin.keeps I.bk
theorem Inv.lt (I:Inv X pins σ H s):X.env.locals< s.heap.objs.size:=let ⟨_,hn,_⟩:=I.loc;hn.lt
theorem Inv.sz (I:Inv X pins σ H s):X.s₀.heap.objs.size≤s.heap.objs.size:=Nat.le_trans I.ok.above (Nat.le_of_lt I.lt)
theorem Inv.nofs (I:Inv X pins σ H s) {a:Addr} (h:s.heap.objs.size≤a):a∉X.fs:=fun hb=>by
 obtain⟨_,o,ho,_⟩:=I.ok.funs.mem hb
 exact absurd (Nat.lt_of_lt_of_le (Heap.lt_size ho) (Nat.le_trans I.sz h)) (Nat.lt_irrefl _)
theorem Inv.cne (I:Inv X pins σ H s):∀x c,X.env.cells.lookup x=some c→c≠X.env.locals:=fun x c e z=>by
 obtain⟨v,o,ho,hd⟩:=I.cell x c e
 obtain⟨m,⟨o',es,ep,ho',hd',_⟩,_⟩:=I.loc
 rw[z,ho']at ho;cases ho;rw[hd']at hd;cases hd
theorem Inv.funs (I:Inv X pins σ H s):s.heap.FunFrames X.base X.outer:=by
 have all:∀(l:List Env),(∀b∈frs l,b∈X.fs)→X.s₀.heap.FunFrames X.base l→s.heap.FunFrames X.base l:=by
  intro l
  induction l with
  | nil=>intro _ _;trivial
  | cons env r ih =>
   intro hs hl
   obtain⟨hk,⟨L,o,hf,hn,ho,hd⟩,hr⟩:=hl
   have hL:L∈X.fs:=hs L (by unfold frs;rw[List.filterMap_cons,hf];exact List.mem_cons_self)
   obtain⟨sl,e⟩:=I.base.slot L o ho (I.ok.frf L hL) hL fun z=>I.ok.exfs L z hL
   exact⟨hk,⟨L,_,hf,hn,e,hd⟩,ih (fun b hb=>hs b (by unfold frs;rw[List.filterMap_cons,hf];exact List.mem_cons_of_mem _ hb)) hr⟩
 exact all X.outer (fun _ hb=>hb) I.ok.funs
theorem Inv.stack (I:Inv X pins σ H s):s.heap.FunFrames X.base X.stack:=by
 rcases I.ok.stk with e | ⟨e,hf⟩
 ·rw[e];exact I.funs
 ·rw[e]
  obtain⟨m,hn,_⟩:=I.loc
  refine .cons (by rw[I.ok.kind];decide) hf hn ?_ I.funs
  exact Heap.get?_none_of_le (Nat.le_trans I.ok.bsz I.ok.above)
theorem Inv.stkSub (I:Inv X pins σ H s):∀b∈frs X.stack,b∈X.env.locals::X.fs:=fun b hb=>by
 rcases I.ok.stk with e | ⟨e,hf⟩
 ·rw[e]at hb;exact List.mem_cons_of_mem _ hb
 ·rw[e]at hb
  unfold frs at hb
  rw[List.filterMap_cons,hf]at hb
  exact hb
theorem Inv.stkFree (I:Inv X pins σ H s):∀b∈frs X.stack,H b=none:=fun b hb=>by
 rcases List.mem_cons.mp (I.stkSub b hb)with e | hb
 ·rw[e];exact I.free
 ·obtain⟨_,o,ho,_⟩:=I.ok.funs.mem hb
  exact I.base.free b o ho (I.ok.frf b hb) fun z=>I.ok.exfs b z hb
theorem Inv.step {g':Array GenState} {t':Nat} {d':Drawn} {ch:List Addr} (I:Inv X pins σ H s)
  (hch:∀b∈ch,(b∈X.ex∨X.s₀.heap.objs.size≤b)∧b≠X.env.locals∧(∀x c,X.env.cells.lookup x=some c→c≠b)∧∀p∈X.pn++pins,p.1≠b)
  (keep:∀b o,b≠X.env.locals→b∉X.fs→b∉ch→s.heap.get? b=some o→H b=none→h'.get? b=some o)
  (slot:∀b o,b≠X.env.locals→b∈X.fs→b∉ch→s.heap.get? b=some o→H b=none→∃sl,h'.get? b=some {o with slots:=sl}) (free:∀b o,b∉ch→s.heap.get? b=some o→H b=none→H' b=none)
  (there:∀b o,b∉ch→s.heap.get? b=some o→∃o',h'.get? b=some o')
  (tups:∀b xs,H b=some (.tup xs)→H' b=some (.tup xs)) (frzs:∀b o u,H b=some (.frz o u)→H' b=some (.frz o u)) (tbls:∀b ps,H b=some (.tbl ps)→∃more,H' b=some (.tbl (ps++more)))
  (ns:∀m,s.heap.Ns X.env.locals m→h'.Ns X.env.locals m) (hok:HOk X.prog X.w H' h') (hg:AllBare g'):
  Inv X pins σ H' {s with heap:=h',gens:=g',drawn:=d',toks:=t'} :=by
 have neL:∀b o,X.s₀.heap.get? b=some o→b≠X.env.locals:=fun b o e=>Nat.ne_of_lt (Nat.lt_of_lt_of_le (Heap.lt_size e) I.ok.above)
 have neC:∀b o,X.s₀.heap.get? b=some o→b∉X.ex→b∉ch:=fun b o e hx hb=>by
  rcases (hch b hb).1 with z | z
  ·exact hx z
  ·exact absurd (Nat.lt_of_lt_of_le (Heap.lt_size e) z) (Nat.lt_irrefl _)
 have cellK:∀x c,X.env.cells.lookup x=some c→∀v,s.heap.IsCell c v→h'.IsCell c v:=fun x c e v ⟨o,ho,hd⟩=>by
  have nch:c∉ch:=fun z=>(hch c z).2.2.1 x c e rfl
  by_cases hc:c∈X.fs
  ·obtain⟨sl,q⟩:=slot c o (I.cne x c e) hc nch ho (I.freeC x c e)
   exact⟨_,q,hd⟩
  ·exact⟨o,keep c o (I.cne x c e) hc nch ho (I.freeC x c e),hd⟩
 refine⟨I.ok,I.os,hg,⟨fun b o e n hb hx=>?_,fun b o e n hb hx=>?_,fun b o e n hx=>?_,fun b o e hx=>?_,fun b xs e=>tups b xs (I.base.tups b xs e),fun b o xs e=>frzs b o xs (I.base.frzs b o xs e),fun b ps e=>?_⟩,?_,fun x c e=>?_,?_,fun x c e=>?_,fun p hp=>?_,hok,I.len⟩
 ·exact keep b o (neL b o e) hb (neC b o e hx) (I.base.keep b o e n hb hx) (I.base.free b o e n hx)
 ·obtain⟨sl,e1⟩:=I.base.slot b o e n hb hx
  obtain⟨sl',e2⟩:=slot b _ (neL b o e) hb (neC b o e hx) e1 (I.base.free b o e n hx)
  exact⟨sl',e2⟩
 ·obtain⟨o',e1⟩:=I.base.there b o e hx
  exact free b o' (neC b o e hx) e1 (I.base.free b o e n hx)
 ·obtain⟨o',e1⟩:=I.base.there b o e hx
  exact there b o' (neC b o e hx) e1
 ·obtain⟨m1,e1⟩:=I.base.tbls b ps e
  obtain⟨m2,e2⟩:=tbls b _ e1
  exact⟨m1++m2,by rw[e2,Array.append_assoc]⟩
 ·obtain⟨m,hn,hl⟩:=I.loc
  refine⟨m,ns m hn,fun i x v e1 e2 e3=>?_⟩
  obtain⟨u,r,l⟩:=hl i x v e1 e2 e3
  refine⟨u,r,?_⟩
  rcases l with l | ⟨k,c,e,z⟩
  ·exact .inl l
  ·exact .inr ⟨k,c,e,cellK x c e _ z⟩
 ·obtain⟨v,z⟩:=I.cell x c e
  exact⟨v,cellK x c e v z⟩
 ·obtain⟨m,⟨o,_,_,ho,_⟩,_⟩:=I.loc
  exact free _ o (fun z=>(hch _ z).2.1 rfl) ho I.free
 ·obtain⟨v,o,ho,hd⟩:=I.cell x c e
  exact free c o (fun z=>(hch c z).2.2.1 x c e rfl) ho (I.freeC x c e)
 ·obtain⟨e,n,ne,nf,d⟩:=I.pin p hp
  have nch:p.1∉ch:=fun z=>(hch p.1 z).2.2.2 p hp rfl
  exact⟨keep p.1 p.2 ne nf nch e n,free p.1 p.2 nch e n,ne,nf,d⟩
theorem Inv.un {t':Nat} (I:Inv X pins σ H s) (u:Un X.fs [] H H' s.heap h') (hok:HOk X.prog X.w H' h'):Inv X pins σ H' {s with heap:=h',toks:=t'} :=by
 obtain⟨m,⟨o,es,ep,ho,r⟩,_⟩:=id I.loc
 obtain⟨sl,hL⟩:=u.any ho I.free (by simp)
 exact I.step (g':=s.gens) (d':=s.drawn) (ch:=[]) (fun _ z=>nomatch z) (fun b o _ hb _ e n=>u.keep b o e n hb (by simp)) (fun b o _ hb _ e n=>u.slot b o e n hb (by simp)) (fun b o _ e n=>u.free b o e n (by simp)) (fun b o _ e=>u.there b o e (by simp)) u.tups u.frzs u.tbls (fun m' hm=>by
  obtain⟨o',es',ep',ho',r'⟩:=hm
  rw[ho]at ho';cases ho'
  exact⟨_,es',ep',hL,r'⟩) hok I.bare
theorem Inv.call {g':Array GenState} {t':Nat} {d':Drawn} {ch:List Addr} (I:Inv X pins σ H s) (u:Un (frs X.stack) ch H H' s.heap h') (hok:HOk X.prog X.w H' h') (hg:AllBare g')
  (hch:∀b∈ch,(b∈X.ex∨X.s₀.heap.objs.size≤b)∧b≠X.env.locals∧(∀x c,X.env.cells.lookup x=some c→c≠b)∧∀p∈X.pn++pins,p.1≠b):
  Inv X pins σ H' {s with heap:=h',gens:=g',drawn:=d',toks:=t'} :=by
 obtain⟨m,⟨o,es,ep,ho,r⟩,_⟩:=id I.loc
 obtain⟨sl,hL⟩:=u.any ho I.free fun z=>(hch _ z).2.1 rfl
 exact I.step (ch:=ch) hch (fun b o hL hb hc e n=>u.keep b o e n (fun z=>(List.mem_cons.mp (I.stkSub b z)).elim hL hb) hc) (fun b o _ _ hc e n=>u.any e n hc) (fun b o hc e n=>u.free b o e n hc) (fun b o hc e=>u.there b o e hc) u.tups u.frzs u.tbls (fun m' hm=>by
  obtain⟨o',es',ep',ho',r'⟩:=hm
  rw[ho]at ho';cases ho'
  exact⟨_,es',ep',hL,r'⟩) hok hg
theorem Inv.turned {t':Nat} {it:Addr} (I:Inv X pins σ H s) (k:∀b o,b≠it→s.heap.get? b=some o→h'.get? b=some o) (hn:H it=none) (hL:it≠X.env.locals)
  (h1:it∈X.ex∨X.s₀.heap.objs.size≤it) (h2:∀x c,X.env.cells.lookup x=some c→c≠it) (h3:∀p∈X.pn++pins,p.1≠it):Inv X pins σ H {s with heap:=h',toks:=t'} :=by
 have nit:∀b u,H b=some u→b≠it:=fun b u e z=>by rw[z,hn]at e;cases e
 refine I.step (g':=s.gens) (d':=s.drawn) (ch:=[it]) (fun b hb=>?_) (fun b o _ _ hc e _=>k b o (fun z=>hc (by simp[z])) e) (fun b o _ _ hc e _=>⟨o.slots,k b o (fun z=>hc (by simp[z])) e⟩) (fun _ _ _ _ n=>n)
  (fun b o hc e=>⟨o,k b o (fun z=>hc (by simp[z])) e⟩) (fun _ _ e=>e) (fun _ _ _ e=>e) (fun b ps e=>⟨#[],by rw[e];simp⟩) (fun m hm=>?_) (fun b u e=>?_) I.bare
 ·have e:b=it:=by simpa using hb
  subst e
  exact⟨h1,hL,h2,h3⟩
 ·obtain⟨o,es,ep,ho,r⟩:=hm
  exact⟨o,es,ep,k _ o (Ne.symm hL) ho,r⟩
 ·refine(I.hok b u e).stay (fun c v hc q=>k c v ?_ q) (fun _ q=>q) fun _ _ q=>q
  rcases hc with z | z
  ·rw[z];exact nit b u e
  ·exact nit c _ z
theorem Inv.tok (I:Inv X pins σ H s) (t:Nat):Inv X pins σ H {s with toks:=t} :=I.un (h':=s.heap) (t':=t) Un.refl I.hok
theorem Inv.kept {t':Nat} (I:Inv X pins σ H s) (k:∀b u,s.heap.get? b=some u→h'.get? b=some u):Inv X pins σ H {s with heap:=h',toks:=t'} :=I.un (Un.kept k) (I.hok.kept k)
theorem Inv.laid {a:Addr} {o:HO} {t':Nat} (I:Inv X pins σ H s) (k:∀b u,s.heap.get? b=some u→h'.get? b=some u) (hp:s.heap.objs.size≤a) (new:ObjOk X.prog X.w (bu H a o) h' a o):
  Inv X pins σ (bu H a o) {s with heap:=h',toks:=t'} :=I.un (Un.laid k hp (I.hok.fresh hp)) (I.hok.laid k hp new)
theorem Inv.write {x e:Addr} {o:HO} {t':Nat} (I:Inv X pins σ H s) (mu:tT (H x)) (he:e=x∨H e=some (.own x)) (k:∀b u,b≠e→s.heap.get? b=some u→h'.get? b=some u) (heo:∃u,h'.get? e=some u)
  (new:ObjOk X.prog X.w (bu H x o) h' x o):Inv X pins σ (bu H x o) {s with heap:=h',toks:=t'} :=I.un (Un.write mu he k heo) (I.hok.write mu he k heo new)
theorem Inv.weak {σ':List (Option V)} (I:Inv X pins σ H s) (hl:σ'.length=σ.length) (w:∀(i:Nat) v,σ'[i]? =some (some v)→σ[i]? =some (some v)):Inv X pins σ' H s:=
 ⟨I.ok,I.os,I.bare,I.base,let ⟨m,hn,hl'⟩:=I.loc;⟨m,hn,fun i x v e1 e2 e3=>hl' i x v e1 (w i v e2) e3⟩,I.cell,I.free,I.freeC,I.pin,I.hok,hl.trans I.len⟩
theorem Inv.pins_of {pins':List (Addr×Obj)} (I:Inv X pins σ H s) (h:∀p∈pins',s.heap.get? p.1=some p.2∧H p.1=none∧p.1≠X.env.locals∧p.1∉X.fs∧∀v,p.2.data≠.cell v):Inv X pins' σ H s:=
 ⟨I.ok,I.os,I.bare,I.base,I.loc,I.cell,I.free,I.freeC,fun p hp=>(List.mem_append.mp hp).elim (fun z=>I.pin p (List.mem_append_left _ z)) (h p),I.hok,I.len⟩
theorem gw {N:List Str} (hN:N.Nodup) {i j:Nat} {x:Str} (a:N[i]? =some x) (b:N[j]? =some x):i=j:=by
 obtain⟨h1,e1⟩:=List.getElem?_eq_some_iff.mp a
 obtain⟨h2,e2⟩:=List.getElem?_eq_some_iff.mp b
 exact(List.getElem_inj hN).mp (e1.trans e2.symm)
theorem ig {M:Model} {A:Around} {E:Value→Shared→Prop} {i:Nat} {x:Str} {v:V} {u:Value} {Q:Unit→Shared→Prop} (I:Inv X pins σ H s) (hN:X.N.Nodup) (hi:X.N[i]? =some x) (hx:tU X.env.scope x) (r:RelV v u)
  (h:∀s',Inv X pins (σ.set i (some v)) H s'→(∃a,Heap.SameBut a s.heap s'.heap∧(a=X.env.locals∨X.env.cells.lookup x=some a))→Q () s') (hf:X.fn x=true∨X.env.scope.names.lookup x=some .local:=by first | exact .inl rfl | exact .inr rfl | assumption):wpAny M A (storeName X.env x u) Q E s:=by
 obtain⟨m,hn,hl⟩:=id I.loc
 have hcls:(X.env.scope.kind == .class || (X.env.scope.kind == .module && X.env.locals != X.env.globals))=false:=by rw[I.ok.kind];rfl
 have hiσ:i< σ.length:=by rw[I.len];exact(List.getElem?_eq_some_iff.mp hi).1
 have cne:=I.cne
 have tracked:∀{a:Addr} {h':Heap},(∃o,s.heap.get? a=some o∧H a=none)→Heap.SameBut a s.heap h'→HOk X.prog X.w H h':=fun {a h'} ha hs b ob e=>by
  obtain⟨_,_,hfree⟩:=ha
  refine(I.hok b ob e).stay (fun c w' hc q=>(hs.2 c ?_).trans q) (fun _ q=>q) fun _ _ q=>q
  rintro rfl
  rcases hc with rfl | hc
  ·rw[hfree]at e;cases e
  ·rw[hfree]at hc;cases hc
 rcases hx with hk | hk
 ·refine wpAny_storeName_local hk hn (fun h' hn' hs=>?_) hcls
  obtain⟨oL,_,_,hoL,_⟩:=id hn
  refine h _ ⟨I.ok,I.os,I.bare,⟨fun b o e n hb hx=>?_,fun b o e n hb hx=>?_,I.base.free,fun b o e hx=>?_,I.base.tups,I.base.frzs,I.base.tbls⟩,⟨_,hn',fun j y v' e1 e2 e3=>?_⟩,fun y c e=>?_,I.free,I.freeC,fun p hp=>?_,tracked ⟨oL,hoL,I.free⟩ hs,by simpa using I.len⟩ ⟨_,hs,.inl rfl⟩
  ·exact(hs.2 b (Nat.ne_of_lt (Nat.lt_of_lt_of_le (Heap.lt_size e) I.ok.above))).trans (I.base.keep b o e n hb hx)
  ·obtain⟨sl,e1⟩:=I.base.slot b o e n hb hx
   exact⟨sl,(hs.2 b (Nat.ne_of_lt (Nat.lt_of_lt_of_le (Heap.lt_size e) I.ok.above))).trans e1⟩
  ·obtain⟨o',e1⟩:=I.base.there b o e hx
   exact⟨o',(hs.2 b (Nat.ne_of_lt (Nat.lt_of_lt_of_le (Heap.lt_size e) I.ok.above))).trans e1⟩
  ·by_cases hj:j=i
   ·subst hj
    rw[hi]at e1;cases e1
    rw[List.getElem?_set_self hiσ]at e2
    cases e2
    exact⟨u,r,.inl ⟨hk,by simp⟩⟩
   ·rw[List.getElem?_set_ne (Ne.symm hj)]at e2
    obtain⟨u',r',q⟩:=hl j y v' e1 e2 e3
    refine⟨u',r',?_⟩
    rcases q with⟨k,e⟩ | ⟨k,c,e,z⟩
    ·refine .inl ⟨k,?_⟩
     have:y≠x:=fun e=>hj (gw hN e1 (e▸hi))
     simp[this,e]
    ·exact .inr ⟨k,c,e,z.sameBut hs (cne y c e)⟩
  ·obtain⟨w',z⟩:=I.cell y c e
   exact⟨w',z.sameBut hs (cne y c e)⟩
  ·obtain⟨e,n,ne,nf,d⟩:=I.pin p hp
   exact⟨(hs.2 p.1 ne).trans e,n,ne,nf,d⟩
 ·have hfn:X.fn x=true:=by
   rcases hf with z | z
   ·exact z
   ·rw[z]at hk;cases hk
  obtain⟨c,hc⟩:=I.ok.has x (.inl hk)
  obtain⟨w',z⟩:=I.cell x c hc
  refine wpAny_storeName_cell I.ok.kind hk hc z (fun h' hc' hs=>?_)
  obtain⟨oc,hoc,hocd⟩:=id z
  refine h {s with heap:=h'} ⟨I.ok,I.os,I.bare,⟨fun b o e n hb hx=>?_,fun b o e n hb hx=>?_,I.base.free,fun b o e hx=>?_,I.base.tups,I.base.frzs,I.base.tbls⟩,⟨m,hn.sameBut hs (Ne.symm (cne x c hc)),fun j y v' e1 e2 e3=>?_⟩,fun y c' e=>?_,I.free,I.freeC,fun p hp=>?_,tracked ⟨oc,hoc,I.freeC x c hc⟩ hs,by simpa using I.len⟩ ⟨c,hs,.inr hc⟩
  ·exact(hs.2 b (Nat.ne_of_lt (Nat.lt_of_lt_of_le (Heap.lt_size e) (I.ok.cab x c hfn hc)))).trans (I.base.keep b o e n hb hx)
  ·obtain⟨sl,e1⟩:=I.base.slot b o e n hb hx
   exact⟨sl,(hs.2 b (Nat.ne_of_lt (Nat.lt_of_lt_of_le (Heap.lt_size e) (I.ok.cab x c hfn hc)))).trans e1⟩
  ·obtain⟨o',e1⟩:=I.base.there b o e hx
   exact⟨o',(hs.2 b (Nat.ne_of_lt (Nat.lt_of_lt_of_le (Heap.lt_size e) (I.ok.cab x c hfn hc)))).trans e1⟩
  ·by_cases hj:j=i
   ·subst hj
    rw[hi]at e1;cases e1
    rw[List.getElem?_set_self hiσ]at e2
    cases e2
    exact⟨u,r,.inr ⟨.inl hk,c,hc,hc'⟩⟩
   ·rw[List.getElem?_set_ne (Ne.symm hj)]at e2
    obtain⟨u',r',q⟩:=hl j y v' e1 e2 e3
    refine⟨u',r',?_⟩
    rcases q with q | ⟨k,c',e,z'⟩
    ·exact .inl q
    ·refine .inr ⟨k,c',e,z'.sameBut hs ?_⟩
     rintro rfl
     exact hj (gw hN e1 (I.ok.inj _ _ _ e hc▸hi))
  ·by_cases hcc:c'=c
   ·subst hcc;exact⟨_,hc'⟩
   ·obtain⟨w2,z2⟩:=I.cell y c' e
    exact⟨w2,z2.sameBut hs hcc⟩
  ·obtain⟨e,n,ne,nf,d⟩:=I.pin p hp
   refine⟨(hs.2 p.1 ?_).trans e,n,ne,nf,d⟩
   intro q
   rw[q,hoc]at e
   have q':oc=p.2:=Option.some.inj e
   exact d w' (by rw[←q'];exact hocd)
theorem gy {M:Model} {A:Around} {E:Value→Shared→Prop} {i:Nat} {x:Str} {v:V} {u:Value} {Q:Unit→Shared→Prop} (I:Inv X pins σ H s) (hN:X.N.Nodup) (hi:X.N[i]? =some x) (hx:tU X.env.scope x) (r:RelV v u)
  (h:∀s',Inv X pins (σ.set i (some v)) H s'→Q () s') (hf:X.fn x=true∨X.env.scope.names.lookup x=some .local:=by first | exact .inl rfl | exact .inr rfl | assumption):wpAny M A (storeName X.env x u) Q E s:=
 ig I hN hi hx r (fun s' I' _=>h s' I') hf
theorem Inv.call' {s':Shared} {ch:List Addr} (I:Inv X pins σ H s) (ho:s'.os=s.os) (u:Un (frs X.stack) ch H H' s.heap s'.heap) (hok:HOk X.prog X.w H' s'.heap) (hg:AllBare s'.gens)
  (hch:∀b∈ch,(b∈X.ex∨X.s₀.heap.objs.size≤b)∧b≠X.env.locals∧(∀x c,X.env.cells.lookup x=some c→c≠b)∧∀p∈X.pn++pins,p.1≠b):Inv X pins σ H' s':=by
 obtain⟨h',g',d',t',o'⟩:=s'
 have e:o'=s.os:=ho
 subst e
 exact I.call (g':=g') (t':=t') (d':=d') u hok hg hch
end
abbrev XK:=Value→Option Addr→Hp→Prop
abbrev St:=List (Option V)
abbrev VK:=V→Hp→Prop
abbrev TE:=St→Hp→VK→Prop
abbrev TT:=St→Hp→(Bool→Hp→Prop)→Prop
abbrev TA:=St→Hp→(List V→Hp→Prop)→Prop
structure Ends where
 nx:St→Hp→Prop
 rt:VK
 bk:St→Hp→Prop:=fun _ _=>False
 ct:St→Hp→Prop:=fun _ _=>False
abbrev TS:=Ends→St→Hp→Prop
def EP (X:Cx) (pins:List (Addr×Obj)) (σ:St) (Q:VK) (u:Value) (s':Shared):Prop:=∃v H',Inv X pins σ H' s'∧RelV v u∧Q v H'
def TP (X:Cx) (pins:List (Addr×Obj)) (σ:St) (Q:Bool→Hp→Prop) (b:Bool) (s':Shared):Prop:=∃H',Inv X pins σ H' s'∧Q b H'
def AP (X:Cx) (pins:List (Addr×Obj)) (σ:St) (Q:List V→Hp→Prop) (us:List Value) (s':Shared):Prop:=∃vs H',Inv X pins σ H' s'∧Vals vs us∧Q vs H'
def SP (X:Cx) (pins:List (Addr×Obj)) (D:Ends) (f:Flow) (s':Shared):Prop:=
 match f with
 | .next=>∃σ' H',Inv X pins σ' H' s'∧D.nx σ' H'
 | .brk=>∃σ' H',Inv X pins σ' H' s'∧D.bk σ' H'
 | .cont=>∃σ' H',Inv X pins σ' H' s'∧D.ct σ' H'
 | .ret u=>∃v σ' H',Inv X pins σ' H' s'∧RelV v u∧D.rt v H'
def PE (X:Cx) (e:Expr) (t:TE):Prop:=
 ∀(pins:List (Addr×Obj)) (s:Shared) (σ:St) (H:Hp) (Q:VK),Inv X pins σ H s→t σ H Q→wpAny (model X.prog X.w) X.A (eval e X.env) (EP X pins σ Q) X.xe s
def PT (X:Cx) (e:Expr) (t:TT):Prop:=
 ∀(pins:List (Addr×Obj)) (s:Shared) (σ:St) (H:Hp) (Q:Bool→Hp→Prop),Inv X pins σ H s→t σ H Q→wpAny (model X.prog X.w) X.A (isTrue e X.env (eval e X.env)) (TP X pins σ Q) X.xe s
def PW (X:Cx) (e:Expr) (t:TT):Prop:=
 ∀(whole:Sem Value) (pins:List (Addr×Obj)) (s:Shared) (σ:St) (H:Hp) (Q:Bool→Hp→Prop),Inv X pins σ H s→t σ H Q→wpAny (model X.prog X.w) X.A (isTrue e X.env whole) (TP X pins σ Q) X.xe s
theorem PW.pt {X:Cx} {e:Expr} {t:TT} (h:PW X e t):PT X e t:=h _
def PA (X:Cx) (es:List Expr) (t:TA):Prop:=
 ∀(pos:Pos) (pins:List (Addr×Obj)) (s:Shared) (σ:St) (H:Hp) (Q:List V→Hp→Prop),Inv X pins σ H s→t σ H Q→wpAny (model X.prog X.w) X.A (spliced (backTo pos (starEach es X.env))) (AP X pins σ Q) X.xe s
def PS (X:Cx) (st:Stmt) (t:TS):Prop:=
 ∀(pins:List (Addr×Obj)) (s:Shared) (σ:St) (H:Hp) (D:Ends),Inv X pins σ H s→t D σ H→wpAny (model X.prog X.w) X.A (exec st X.env) (SP X pins D) X.xe s
def PSs (X:Cx) (st:List Stmt) (t:TS):Prop:=
 ∀(pins:List (Addr×Obj)) (s:Shared) (σ:St) (H:Hp) (D:Ends),Inv X pins σ H s→t D σ H→wpAny (model X.prog X.w) X.A (execs st X.env) (SP X pins D) X.xe s
theorem bO {α:Type} {t:Sem α} {Q Q':α→Shared→Prop} {M:Model} {A:Around} {E:Value→Shared→Prop} {s:Shared} (h:wpAny M A t Q E s) (hQ:∀a s,Q a s→Q' a s):wpAny M A t Q' E s:=wpAny_mono h hQ fun _ _ x=>x
end L2
namespace L2
open PySem PySem.Spec PyProof.Rows
section
variable {X:Cx}
def bx (i:Nat):TE:=fun σ H Q=>∃v,σ[i]? =some (some v)∧Q v H
def tC (v:V):TE:=fun _ H Q=>Q v H
theorem su {i:Nat} {x:Str} {pos:Pos} (hN:X.N[i]? =some x) (hv:Vis X.env.scope x) (hd:(x == ("__debug__" :Str))=false:=by decide) (hcd:(x == ("__classdict__" :Str))=false:=by decide):PE X (.Name x pos) (bx i):=by
 intro pins s σ H Q I h
 obtain⟨v,e,h⟩:=h
 obtain⟨m,hn,hl⟩:=I.loc
 obtain⟨u,r,l⟩:=hl i x v hN e hv
 have fin:EP X pins σ Q u s:=⟨v,H,I,r,h⟩
 rcases l with⟨hk,hm⟩ | ⟨hk,c,hc,hcell⟩
 ·exact wpAny_Name (wpAny_loadName_local I.ok.kind hk hn hm fin) hd
 ·rcases hk with hk | hk
  ·exact wpAny_Name (wpAny_loadName_cell I.ok.kind hk hc hcell fin) hd
  ·exact wpAny_Name (wpAny_loadName_free I.ok.kind hk hc hcell fin hcd) hd
theorem ad {i j pos} :PE X (.Constant (.int i) j pos) (tC (.int i)):=fun _ _ _ H _ I h=>wpAny_Constant_int ⟨.int i,H,I.tok _,⟨_,rfl⟩,h⟩
theorem eK {b j pos} :PE X (.Constant (.bool b) j pos) (tC (.bl b)):=fun _ _ _ H _ I h=>Constant_bool ⟨.bl b,H,I,rfl,h⟩
theorem kP {j pos} :PE X (.Constant .none j pos) (tC .non):=fun _ _ _ H _ I h=>Constant_none ⟨.non,H,I,rfl,h⟩
theorem ax {x j pos} :PE X (.Constant (.str x) j pos) (tC (.str x)):=fun _ _ _ H _ I h=>Calls.Constant_str ⟨.str x,H,I.tok _,⟨_,rfl⟩,h⟩
def Gl (X:Cx) (x:Str):Prop:=X.env.kindOf x=some .globalImplicit
theorem fh {E:Value→Shared→Prop} {pins:List (Addr×Obj)} {s:Shared} {σ:St} {H:Hp} {x:Str} {u:Value} {pos:Pos} {Q:Value→Shared→Prop} (I:Inv X pins σ H s) (hg:Gl X x) (hm:X.mg x=some u) (h:Q u s)
  (hd:(x == ("__debug__" :Str))=false:=by decide):wpAny (model X.prog X.w) X.A (eval (.Name x pos) X.env) Q E s:=
 Calls.Name_function_global I.ok.kind hg (Calls.loadGlobal_global (by rw[I.ok.glob];exact I.mod.glob.keeps I.bk) hm h) hd
theorem eL {E:Value→Shared→Prop} {pins:List (Addr×Obj)} {s:Shared} {σ:St} {H:Hp} {x:Str} {u:Value} {pos:Pos} {Q:Value→Shared→Prop} (I:Inv X pins σ H s) (hg:Gl X x) (hm:X.mg x=none) (hv:bootBuiltins x=some u) (h:Q u s)
  (hn:x≠"__name__" :=by decide) (hd:(x == ("__debug__" :Str))=false:=by decide):wpAny (model X.prog X.w) X.A (eval (.Name x pos) X.env) Q E s:=by
 obtain⟨mb,h1,h2⟩:=I.mod.blt
 exact Calls.Name_function_global I.ok.kind hg (Calls.loadGlobal_builtin (by rw[I.ok.glob];exact I.mod.glob.keeps I.bk) hm (by rw[I.ok.blt];exact h1.keeps I.bk) ((h2 x hn).trans hv) h) hd
theorem aV {x:Str} {v:V} {u:Value} {pos:Pos} (hg:Gl X x) (hm:X.mg x=some u) (r:RelV v u) (hd:(x == ("__debug__" :Str))=false:=by decide):PE X (.Name x pos) (tC v):=
 fun _ _ _ H _ I h=>fh I hg hm ⟨v,H,I,r,h⟩ hd
theorem cv {x:Str} {v:V} {u:Value} {pos:Pos} (hg:Gl X x) (hm:X.mg x=none) (hv:bootBuiltins x=some u) (r:RelV v u) (hn:x≠"__name__" :=by decide) (hd:(x == ("__debug__" :Str))=false:=by decide):PE X (.Name x pos) (tC v):=
 fun _ _ _ H _ I h=>eL I hg hm hv ⟨v,H,I,r,h⟩ hn hd
variable {a b:Expr} {ta tb:TE} {pos:Pos}
def tB (t:TE):TT:=fun σ H Q=>t σ H fun x H1=>∃c,x=.bl c∧Q c H1
theorem d0 {e:Expr} {t:TE} (h:PE X e t) (he:∀whole,isTrue e X.env whole=(do let v ←whole;standAt e.pos;holding [v] (truthy v)):=by intro _;rfl):PT X e (tB t):=by
 intro pins s σ H Q I hw
 refine isTrue_plain (bO (h pins s σ H _ I hw) fun v s1 ⟨x,H1,I1,r1,q1⟩=>?_) (he _)
 obtain⟨d,rfl,q⟩:=q1
 cases r1
 exact wpAny_truthy_bool ⟨H1,I1,q⟩
variable {tA tB':TT} {rest:List Expr}
def cb (t u:TT):TT:=fun σ H Q=>t σ H fun c H1=>if c=true then u σ H1 Q else Q false H1
def eI (t u:TT):TT:=fun σ H Q=>t σ H fun c H1=>if c=true then Q true H1 else u σ H1 Q
def ce (t:TT):TT:=fun σ H Q=>t σ H fun c H1=>Q (!c) H1
theorem fi (ha:PT X a tA):PW X (.BoolOp .And [a] pos) tA:=by
 intro wh pins s σ H Q I h
 refine isTrue_and (bO (ha pins s σ H Q I h) fun c s1 e=>?_)
 cases c with
 | true=>exact isTrue_and_nil e
 | false=>exact e
theorem sv (ha:PT X a tA):PW X (.BoolOp .Or [a] pos) tA:=by
 intro wh pins s σ H Q I h
 refine isTrue_or (bO (ha pins s σ H Q I h) fun c s1 e=>?_)
 cases c with
 | false=>exact isTrue_or_nil e
 | true=>exact e
theorem fJ (ha:PT X a tA) (hb:PW X (.BoolOp .And (b::rest) pos) tB'):PW X (.BoolOp .And (a::b::rest) pos) (cb tA tB'):=by
 intro wh pins s σ H Q I h
 refine isTrue_and (bO (ha pins s σ H _ I h) fun c s1 ⟨H1,I1,q1⟩=>?_)
 cases c with
 | true=>exact hb wh pins s1 σ H1 Q I1 q1
 | false=>exact⟨H1,I1,q1⟩
theorem rM (ha:PT X a tA) (hb:PW X (.BoolOp .Or (b::rest) pos) tB'):PW X (.BoolOp .Or (a::b::rest) pos) (eI tA tB'):=by
 intro wh pins s σ H Q I h
 refine isTrue_or (bO (ha pins s σ H _ I h) fun c s1 ⟨H1,I1,q1⟩=>?_)
 cases c with
 | true=>exact⟨H1,I1,q1⟩
 | false=>exact hb wh pins s1 σ H1 Q I1 q1
theorem gz (ha:PT X a tA):PT X (.UnaryOp .Not a pos) (ce tA):=by
 intro pins s σ H Q I h
 exact isTrue_not (ha pins s σ H (fun c H1=>Q (!c) H1) I h)
def bv (ta tb:TE):TE:=fun σ H Q=>ta σ H fun x H1=>∃c,x=.bl c∧if c=true then tb σ H1 Q else Q (.bl false) H1
def bp (ta:TE):TE:=fun σ H Q=>ta σ H fun x H1=>∃c,x=.bl c∧Q (.bl (!c)) H1
theorem kQ {op} {t:TE} (h:PE X a t):PE X (.BoolOp op [a] pos) t:=fun pins s σ H Q I hw=>BoolOp_one (h pins s σ H Q I hw)
theorem iV (ha:PE X a ta) (hb:PE X (.BoolOp .And (b::rest) pos) tb):PE X (.BoolOp .And (a::b::rest) pos) (bv ta tb):=by
 intro pins s σ H Q I h
 refine BoolOp_and (bO (ha pins s σ H _ I h) fun v s1 ⟨x,H1,I1,r1,q1⟩=>?_)
 obtain⟨c,rfl,q1⟩:=q1
 cases r1
 refine wpAny_truthy_bool ?_
 cases c with
 | true=>exact hb pins s1 σ H1 Q I1 q1
 | false=>exact⟨.bl false,H1,I1,rfl,q1⟩
theorem kR (ha:PE X a ta):PE X (.UnaryOp .Not a pos) (bp ta):=by
 intro pins s σ H Q I h
 refine UnaryOp_ (bO (ha pins s σ H _ I h) fun v s1 ⟨x,H1,I1,r1,q1⟩=>?_)
 obtain⟨c,rfl,q1⟩:=q1
 cases r1
 exact not_of (wpAny_truthy_bool ⟨.bl (!c),H1,I1,rfl,q1⟩)
def eF (t:TT) (ta tb:TE):TE:=fun σ H Q=>t σ H fun c H1=>if c=true then ta σ H1 Q else tb σ H1 Q
theorem nP {c:Expr} (hc:PT X c tA) (ha:PE X a ta) (hb:PE X b tb):PE X (.IfExp c a b pos) (eF tA ta tb):=by
 intro pins s σ H Q I h
 refine wpAny_IfExp (bO (hc pins s σ H _ I h) fun d s1 ⟨H1,I1,q1⟩=>?_)
 cases d with
 | true=>exact ha pins s1 σ H1 Q I1 q1
 | false=>exact hb pins s1 σ H1 Q I1 q1
end
end L2
namespace L2
open PySem PySem.Spec PyProof.Rows
def SqL (K:PySem.W.Frag) (H:Hp) (a:Addr) (xs:List V):Prop:=
 Rd H a (.lst xs)∨
  ∃(o:Obj) (its:Array Value) (n:Nat),K.lookup a=some o∧o.cls=.type "list" ∧o.dict=none∧o.data=.seq its n∧its.size≤sizeLine∧Vals xs its.toList
def SqT (K:PySem.W.Frag) (H:Hp) (a:Addr) (xs:List V):Prop:=
 Rd H a (.tup xs)∨
  ∃(o:Obj) (its:Array Value) (n:Nat),K.lookup a=some o∧o.cls=.type "tuple" ∧o.data=.seq its n∧its.size≤sizeLine∧Vals xs its.toList
def vK:Value→Option V
 | .none=>some .non
 | .bool b=>some (.bl b)
 | .int i _=>some (.int i)
 | .str x _=>some (.str x)
 | .bytes b _=>some (.byt b)
 | .float b _=>some (.flt b)
 | .ref a=>some (.ref a)
 | .type n=>some (.ty n)
 | _=>none
theorem RelV.abs {x:V} {u:Value} (r:RelV x u):vK u=some x:=by
 cases x with
 | non=>cases r;rfl
 | bl _=>cases r;rfl
 | int _=>obtain⟨t,rfl⟩:=r;rfl
 | str _=>obtain⟨t,rfl⟩:=r;rfl
 | byt _=>obtain⟨t,rfl⟩:=r;rfl
 | flt _=>obtain⟨t,rfl⟩:=r;rfl
 | ref _=>cases r;rfl
 | ty _=>cases r;rfl
theorem RelV.inj {x y:V} {u:Value} (r:RelV x u) (q:RelV y u):x=y:=Option.some.inj (r.abs.symm.trans q.abs)
theorem Vals.inj:∀{xs ys:List V} {us:List Value},Vals xs us→Vals ys us→xs=ys
 | _,_,_,.nil,.nil=>rfl
 | _,_,_,.cons r t,.cons r' t'=>by rw[r.inj r',Vals.inj t t']
section
variable {X:Cx} {pins:List (Addr×Obj)} {σ:St} {H:Hp} {s:Shared} {a:Addr} {xs ys:List V}
theorem SqL.of {K:PySem.W.Frag} (h:H a=some (.lst xs)):SqL K H a xs:=.inl (.inl h)
theorem SqT.of {K:PySem.W.Frag} (h:H a=some (.tup xs)):SqT K H a xs:=.inl (.inl h)
theorem Inv.list (I:Inv X pins σ H s) (h:SqL X.K H a xs):∃its:List Value,Vals xs its∧PlainL s.heap a its.toArray∧xs.length≤sizeLine:=by
 rcases h with h | ⟨o,its,n,hk,hc,hd,hs,hz,r⟩
 ·obtain⟨z,its,n,r,e⟩:=h.ok I.hok
  exact⟨its,r,⟨_,n,e,rfl,rfl,rfl⟩,z⟩
 ·refine⟨its.toList,r,⟨o,n,I.kIn a o hk,hc,hd,by simpa using hs⟩,?_⟩
  have e:=r.length
  simp only[Array.length_toList]at e
  omega
theorem Inv.tuple (I:Inv X pins σ H s) (h:SqT X.K H a xs):∃its:List Value,Vals xs its∧IsTup s.heap a its.toArray∧xs.length≤sizeLine:=by
 rcases h with h | ⟨o,its,n,hk,hc,hs,hz,r⟩
 ·obtain⟨z,its,r,p⟩:=h.ok I.hok
  exact⟨its,r,p,z⟩
 ·refine⟨its.toList,r,⟨o,I.kIn a o hk,hc,n,by simpa using hs⟩,?_⟩
  have e:=r.length
  simp only[Array.length_toList]at e
  omega
theorem Inv.list_inj (I:Inv X pins σ H s) (h:SqL X.K H a xs) (h':SqL X.K H a ys):xs=ys:=by
 obtain⟨its,r,⟨o,n,e,_,_,d⟩,_⟩:=I.list h
 obtain⟨its',r',⟨o',n',e',_,_,d'⟩,_⟩:=I.list h'
 rw[e]at e';cases e'
 rw[d]at d'
 injection d' with d1 _
 have:its=its':=by simpa using congrArg Array.toList d1
 subst this
 exact r.inj r'
theorem Inv.tuple_inj (I:Inv X pins σ H s) (h:SqT X.K H a xs) (h':SqT X.K H a ys):xs=ys:=by
 obtain⟨its,r,⟨o,e,_,n,d⟩,_⟩:=I.tuple h
 obtain⟨its',r',⟨o',e',_,n',d'⟩,_⟩:=I.tuple h'
 rw[e]at e';cases e'
 rw[d]at d'
 injection d' with d1 _
 have:its=its':=by simpa using congrArg Array.toList d1
 subst this
 exact r.inj r'
end
abbrev Cx.wish (X:Cx) (E:Value→Shared→Prop):Cx:={X with xe:=E}
abbrev Cx.nox (X:Cx):Cx:=X.wish fun _ _=>False
theorem Cx.Ok.wish {X:Cx} (ok:X.Ok) (E:Value→Shared→Prop):(X.wish E).Ok:=
 ⟨ok.mod,ok.kind,ok.glob,ok.blt,ok.above,ok.inj,ok.has,ok.cab,ok.hd,ok.frames,ok.stk,ok.exf,ok.bs,ok.bsz,ok.noex,ok.exfs,ok.funs,ok.frf⟩
theorem Cx.Ok.unwish {X:Cx} {E:Value→Shared→Prop} (ok:(X.wish E).Ok):X.Ok:=
 ⟨ok.mod,ok.kind,ok.glob,ok.blt,ok.above,ok.inj,ok.has,ok.cab,ok.hd,ok.frames,ok.stk,ok.exf,ok.bs,ok.bsz,ok.noex,ok.exfs,ok.funs,ok.frf⟩
section
variable {X:Cx} {pins:List (Addr×Obj)} {σ:St} {H:Hp} {s:Shared} {E:Value→Shared→Prop}
theorem Inv.wish (I:Inv X pins σ H s) (E:Value→Shared→Prop):Inv (X.wish E) pins σ H s:=⟨I.ok.wish E,I.os,I.bare,I.base,I.loc,I.cell,I.free,I.freeC,I.pin,I.hok,I.len⟩
theorem Inv.unwish (I:Inv (X.wish E) pins σ H s):Inv X pins σ H s:=⟨I.ok.unwish,I.os,I.bare,I.base,I.loc,I.cell,I.free,I.freeC,I.pin,I.hok,I.len⟩
theorem SP.unwish {D:Ends} {f:Flow} {s':Shared} (h:SP (X.wish E) pins D f s'):SP X pins D f s':=by
 cases f with
 | next=>obtain⟨σ',H',I,q⟩:=h;exact⟨σ',H',I.unwish,q⟩
 | brk=>obtain⟨σ',H',I,q⟩:=h;exact⟨σ',H',I.unwish,q⟩
 | cont=>obtain⟨σ',H',I,q⟩:=h;exact⟨σ',H',I.unwish,q⟩
 | ret u=>obtain⟨v,σ',H',I,r,q⟩:=h;exact⟨v,σ',H',I.unwish,r,q⟩
theorem PSs.nox {st:List Stmt} {t:TS} (h:PSs X.nox st t):PSs X st t:=fun pins s σ H D I hw=>
 wpAny_mono (h pins s σ H D (I.wish _) hw) (fun _ _ q=>q.unwish) fun _ _ z=>False.elim z
end
section
variable {X:Cx} {st:Stmt} {rest:List Stmt} {t u:TS} {e:Expr} {te:TE} {pos:Pos}
def aG:TS:=fun D σ H=>D.nx σ H
def dU (t u:TS):TS:=fun D σ H=>t {D with nx:=u D} σ H
theorem aK:PSs X [] aG:=fun _ _ σ H _ I h=>wpAny_execs_nil ⟨σ,H,I,h⟩
theorem ae (h1:PS X st t) (h2:PSs X rest u):PSs X (st::rest) (dU t u):=by
 intro pins s σ H D I h
 refine wpAny_execs_cons (bO (h1 pins s σ H {D with nx:=u D} I h) fun f s1 q=>?_)
 cases f with
 | next =>
  obtain⟨σ',H',I',q⟩:=q
  exact h2 pins s1 σ' H' D I' q
 | ret v=>exact q
 | brk=>exact q
 | cont=>exact q
theorem af (h1:PS X st t):PSs X [st] t:=by
 intro pins s σ H D I h
 refine wpAny_execs_cons (bO (h1 pins s σ H D I h) fun f s1 q=>?_)
 cases f with
 | next=>exact wpAny_execs_nil q
 | ret v=>exact q
 | brk=>exact q
 | cont=>exact q
theorem Inv.quiet {pins:List (Addr×Obj)} {σ:St} {H:Hp} {s:Shared} (I:Inv X pins σ H s):interactive X.env=false:=by simp[interactive,I.ok.kind]
def bj (te:TE):TS:=fun D σ H=>te σ H fun _ H1=>D.nx σ H1
theorem dW (he:PE X e te) (hs:swapsWith e none pos.line X.env=pure false:=by rfl):PS X (.Expr e pos) (bj te):=by
 intro pins s σ H D I h
 exact wpAny_Expr_any (bO (he pins s σ H _ I h) fun v s1 ⟨x,H1,I1,r1,q1⟩=>⟨σ,H1,I1,q1⟩) I.quiet hs
def bS (te:TE):TS:=fun D σ H=>te σ H D.rt
theorem aw (he:PE X e te):PS X (.Return (some e) pos) (bS te):=by
 intro pins s σ H D I h
 exact wpAny_Return_some (bO (he pins s σ H _ I h) fun v s1 ⟨x,H1,I1,r1,q1⟩=>⟨x,σ,H1,I1,r1,q1⟩)
def gf (c:TT) (t u:TS):TS:=fun D σ H=>c σ H fun b H1=>if b=true then t D σ H1 else u D σ H1
theorem bw {c:Expr} {a b:List Stmt} {tc:TT} (hc:PT X c tc) (ha:PSs X a t) (hb:PSs X b u):PS X (.If c a b pos) (gf tc t u):=by
 intro pins s σ H D I h
 refine wpAny_If (bO (hc pins s σ H _ I h) fun d s1 ⟨H1,I1,q1⟩=>?_)
 cases d with
 | true=>exact ha pins s1 σ H1 D I1 q1
 | false=>exact hb pins s1 σ H1 D I1 q1
def sw:TS:=fun _ _ _=>False
end
abbrev TG:=V→St→Hp→(St→Hp→Prop)→Prop
abbrev qi:=List V→St→Hp→(St→Hp→Prop)→Prop
def PG (X:Cx) (target:Expr) (t:TG):Prop:=
 ∀ (pins : List (Addr × Obj)) (s : Shared) (σ : St) (H : Hp) (v : V) (u : Value) (Q : St → Hp → Prop), Inv X pins σ H s → RelV v u → t v σ H Q →
  wpAny (model X.prog X.w) X.A (assign target X.env u) (fun _ s'=>∃σ' H',Inv X pins σ' H' s'∧Q σ' H') X.xe s
def tG (X:Cx) (ts:List Expr) (t:qi):Prop:=
 ∀ (pins : List (Addr × Obj)) (s : Shared) (σ : St) (H : Hp) (vs : List V) (us : List Value) (Q : St → Hp → Prop), Inv X pins σ H s → Vals vs us → t vs σ H Q →
  wpAny (model X.prog X.w) X.A (assignInOrder ((assignEach ts X.env).map (·.2)) us) (fun _ s'=>∃σ' H',Inv X pins σ' H' s'∧Q σ' H') X.xe s
section
variable {X:Cx} {pos:Pos}
def aN (i:Nat):TG:=fun v σ H Q=>Q (σ.set i (some v)) H
theorem al {i:Nat} {x:Str} (hN:X.N.Nodup) (hi:X.N[i]? =some x) (hx:tU X.env.scope x) (hf:X.fn x=true∨X.env.scope.names.lookup x=some .local:=by first | exact .inl rfl | exact .inr rfl | assumption):PG X (.Name x pos) (aN i):=by
 intro pins s σ H v u Q I r h
 exact wpAny_assign_Name (gy I hN hi hx r (fun s' I'=>⟨_,H,I',h⟩) hf)
def bP:qi:=fun vs σ H Q=>vs=[]∧Q σ H
def bc (t:TG) (u:qi):qi:=fun vs σ H Q=>∃v r,vs=v::r∧t v σ H fun σ' H'=>u r σ' H' Q
theorem bA:tG X [] bP:=by
 intro pins s σ H vs us Q I r h
 obtain⟨e,h⟩:=h
 subst e
 cases r
 exact assignInOrder_nil ⟨σ,H,I,h⟩
theorem ap {e:Expr} {es:List Expr} {t:TG} {u:qi} (h1:PG X e t) (h2:tG X es u)
  (hs:(assignEach (e::es) X.env).map (·.2)=assign e X.env::(assignEach es X.env).map (·.2):=by rfl):tG X (e::es) (bc t u):=by
 intro pins s σ H vs us Q I r h
 obtain⟨v,vr,e1,h⟩:=h
 subst e1
 cases r with
 | cons r rr =>
  rw[hs]
  refine assignInOrder_cons (bO (h1 pins s σ H _ _ _ I r h) fun _ s1 ⟨σ1,H1,I1,q1⟩=>?_)
  exact h2 pins s1 σ1 H1 _ _ Q I1 rr q1
def bK (K:PySem.W.Frag) (n:Nat) (t:qi):TG:=fun v σ H Q=>∃a xs,v=.ref a∧SqT K H a xs∧xs.length=n∧t xs σ H Q
theorem sx {es:List Expr} {k:Nat} {t:qi} {n:Nat} (hc:X.calm=true) (h:tG X es t)
  (hn:(assignEach es X.env).length=n:=by rfl) (hst:(assignEach es X.env).findIdx? (·.1)=none:=by rfl):PG X (.Tuple es k pos) (bK X.K n t):=by
 intro pins s σ H v u Q I r hw
 obtain⟨a,xs,e1,hq,hl,hw⟩:=hw
 subst e1
 cases r
 obtain⟨its,rv,ht,hz⟩:=I.tuple hq
 refine assign_Tuple_tuple (I.ok.hd hc) ht (by simp[hn,←hl,rv.length]) hst fun h' hx=>?_
 have I1:Inv X pins σ H {s with heap:=h'} :=I.kept (t':=s.toks) fun b o e=>hx b o (Nat.ne_of_lt (Heap.lt_size e)) e
 exact h pins _ σ H xs _ Q I1 (by simpa using rv) hw
def bG (te:TE) (g:TG):TS:=fun D σ H=>te σ H fun x H1=>g x σ H1 D.nx
theorem dE {tg e:Expr} {te:TE} {g:TG} (he:PE X e te) (hg:PG X tg g) (hs:swapsWithSole [tg] e pos.line X.env=pure false:=by rfl) (hw:swappedStores [tg] e X.env=pure none:=by rfl)
  (h1:(assignEach [tg] X.env).map (·.2)=[assign tg X.env]:=by rfl):PS X (.Assign [tg] e pos) (bG te g):=by
 intro pins s σ H D I h
 refine wpAny_Assign_stores (bO (he pins s σ H _ I h) fun v s1 ⟨x,H1,I1,r1,q1⟩=>?_) hs hw
 rw[h1]
 exact bO (hg pins s1 σ H1 x v _ I1 r1 q1) fun _ s2 q=>q
theorem av {i:Nat} {x:Str} {e:Expr} {te:TE} {pos':Pos} (hN:X.N.Nodup) (hi:X.N[i]? =some x) (hx:tU X.env.scope x) (he:PE X e te) (hs:swapsWith e (some (.Name x pos')) pos.line X.env=pure false:=by rfl) (hf:X.fn x=true∨X.env.scope.names.lookup x=some .local:=by first | exact .inl rfl | exact .inr rfl | assumption):
  PS X (.Assign [.Name x pos'] e pos) (bG te (aN i)):=by
 intro pins s σ H D I h
 refine wpAny_Assign_Name (bO (he pins s σ H _ I h) fun v s1 ⟨y,H1,I1,r1,q1⟩=>?_) hs
 exact gy I1 hN hi hx r1 (fun s2 I2=>⟨_,H1,I2,q1⟩) hf
end
structure It where
 go:Nat→Hp→Prop
 yld:Nat→Hp→V→Hp→Prop
 stop:Nat→Hp→Prop
def FpOk (X:Cx) (pins:List (Addr×Obj)) (H:Hp) (b:Addr):Prop:=
 H b=none∧b≠X.env.locals∧b∉X.fs∧(b∈X.ex∨X.s₀.heap.objs.size≤b)∧(∀x c,X.env.cells.lookup x=some c→c≠b)∧∀p∈X.pn++pins,p.1≠b
theorem Inv.fpOk {X:Cx} {pins:List (Addr×Obj)} {σ:St} {H H':Hp} {s:Shared} {b:Addr} (I:Inv X pins σ H s) (hb:s.heap.objs.size≤b) (hn:H' b=none):FpOk X pins H' b:=by
 refine⟨hn,Nat.ne_of_gt (Nat.lt_of_lt_of_le I.lt hb),I.nofs hb,.inr (Nat.le_trans I.sz hb),fun x c e z=>?_,fun p hp z=>?_⟩
 ·obtain⟨v,q⟩:=I.cell x c e
  exact absurd (Nat.lt_of_lt_of_le q.lt (by rw[z];exact hb)) (Nat.lt_irrefl _)
 ·exact absurd (Nat.lt_of_lt_of_le (Heap.lt_size (I.pin p hp).1) (by rw[z];exact hb)) (Nat.lt_irrefl _)
structure Turn (P:Program) (w:World) (K:PySem.W.Frag) (tg:Expr) (J:It) (fp:List Addr) (it:Addr) (tn:Nat→Heap→Prop):Prop where
 mem:it∈fp
 obj:∀i h,tn i h→∀b∈fp,∃o,h.get? b=some o∧∀v,o.data≠.cell v
 keep:∀i h h',tn i h→(∀b∈fp,∀o,h.get? b=some o→h'.get? b=some o)→tn i h'
 item:∀(X:Cx),X.prog=P→X.w=w→X.K=K→X.calm=true→∀(i:Nat) (pins:List (Addr×Obj)) (s:Shared) (σ:St) (H:Hp) (E:Value→Shared→Prop),Inv X pins σ H s→(∀b∈fp,FpOk X pins H b)→tn i s.heap→J.go i H→
  wpAny (model P w) X.A (pyNext (.ref it)) (fun r s1=>∃u,r=some u∧
   wpAny (model P w) X.A (letOwnedTupleGo tg (.ref it) u) (fun _ s2=>∃x H',Inv X pins σ H' s2∧RelV x u∧J.yld i H x H'∧tn (i+1) s2.heap∧∀b∈fp,H' b=none) E s1) E s
 done:∀(X:Cx),X.prog=P→X.w=w→X.K=K→X.calm=true→∀(i:Nat) (pins:List (Addr×Obj)) (s:Shared) (σ:St) (H:Hp) (E:Value→Shared→Prop),Inv X pins σ H s→(∀b∈fp,FpOk X pins H b)→tn i s.heap→J.stop i H→
  wpAny (model P w) X.A (pyNext (.ref it)) (fun r s1=>r=none∧Inv X pins σ H s1) E s
 self:∀(A:Around) (i:Nat) (s:Shared) (Q:Value→Shared→Prop) (E:Value→Shared→Prop),tn i s.heap→Q (.ref it) s→wpAny (model P w) A (pyIter (.ref it)) Q E s
abbrev TI:=St→Hp→(It→Hp→Prop)→Prop
def vL (X:Cx) (pins:List (Addr×Obj)) (σ:St) (tg:Expr) (R:It→Hp→Prop) (itv:Value) (s2:Shared):Prop:=
 ∃(it:Addr) (fp:List Addr) (tn:Nat→Heap→Prop) (J:It) (H':Hp),itv=.ref it∧Inv X pins σ H' s2∧Turn X.prog X.w X.K tg J fp it tn∧tn 0 s2.heap∧(∀b∈fp,FpOk X pins H' b)∧R J H'
def PI (X:Cx) (tg iter:Expr) (wi:TI):Prop:=
 ∀ (pins : List (Addr × Obj)) (s : Shared) (σ : St) (H : Hp) (R : It → Hp → Prop), Inv X pins σ H s → wi σ H R →
  wpAny (model X.prog X.w) X.A (eval iter X.env) (fun v s1=>wpAny (model X.prog X.w) X.A (pyIter v) (vL X pins σ tg R) X.xe s1) X.xe s
theorem lE {M:Model} {A:Around} {E:Value→Shared→Prop} {s:Shared} {tg:Expr} {it:Addr} {u:Value} {o:Obj} {n:String} {vs:Array Value} {Q:Unit→Shared→Prop} (ho:s.heap.get? it=some o) (hc:o.cls=.type n) (hd:o.data=.fields vs)
    (hn: ["enumerate","zip","dict_itemiterator","dict_reverseitemiterator","odict_iterator","itertools.zip_longest","itertools.pairwise"].contains n=false) (hQ:Q () s):wpAny M A (letOwnedTupleGo tg (.ref it) u) Q E s:=by
  unfold letOwnedTupleGo
  cases tg <;> first
    | exact wpAny_pure hQ
    | (cases u <;> first
        | exact wpAny_pure hQ
        | (refine wpAny_bind (wpAny_load ho ?_)
           rw[hc,hd]
           show wpAny M A (if(["enumerate","zip","dict_itemiterator","dict_reverseitemiterator","odict_iterator","itertools.zip_longest","itertools.pairwise"].contains n && vs[0]? == some (rawInt _))=true then _ else _) Q E s
           rw[if_neg (by intro h;rw[hn,Bool.false_and]at h;cases h)]
           exact wpAny_pure hQ))
def vM (K:PySem.W.Frag) (a:Addr):It:=
 ⟨fun i H=>∃xs x,SqL K H a xs∧xs[i]? =some x,fun i H x H'=>H'=H∧∀xs,SqL K H a xs→xs[i]? =some x,fun i H=>∃xs,SqL K H a xs∧xs.length≤i⟩
def vN (lo:Int) (n:Nat):It:=⟨fun i _=>i< n,fun i H x H'=>H'=H∧x=.int (lo+i),fun i _=>n≤i⟩
theorem eW {P:Program} {w:World} {K:PySem.W.Frag} {tg:Expr} (a it:Addr):Turn P w K tg (vM K a) [it] it (fun i h=>h.IsListIter it a i) where
 mem:=by simp
 obj:=fun i h st b hb=>by
  have e:b=it:=by simpa using hb
  subst e
  obtain⟨o,e,c,d⟩:=st
  exact⟨o,e,fun v z=>by rw[d]at z;cases z⟩
 keep:=fun i h h' st k=>st.at fun o e=>k it (by simp) o e
 item:=by
  intro X hP hw hK hc i pins s σ H E I hf st hg
  subst hP hw hK
  obtain⟨xs,x,hq,hx⟩:=hg
  obtain⟨its,rv,p,hz⟩:=I.list hq
  obtain⟨u,hu,ru⟩:=rv.get hx
  obtain⟨f0,f1,f2,f3,f4,f5⟩:=hf it (by simp)
  refine wpAny_pyNext_list_item st p.isList (x:=u) (by simpa using hu) fun h' st' sb=>?_
  have I1:Inv X pins σ H {s with heap:=h'} :=I.turned (t':=s.toks) (fun b o hb e=>(sb.2 b hb).trans e) f0 f1 f3 f4 f5
  obtain⟨o,e,c,d⟩:=id st'
  exact⟨u,rfl,lE (s:={s with heap:=h'}) e c d (by decide) ⟨x,H,I1,ru,⟨rfl,fun ys hy=>by rw[I.list_inj hy hq];exact hx⟩,st',fun b hb=>(hf b hb).1⟩⟩
 done:=by
  intro X hP hw hK hc i pins s σ H E I hf st hg
  subst hP hw hK
  obtain⟨xs,hq,hx⟩:=hg
  obtain⟨its,rv,p,hz⟩:=I.list hq
  obtain⟨f0,f1,f2,f3,f4,f5⟩:=hf it (by simp)
  have hl:=rv.length
  exact wpAny_pyNext_list_end (I.ok.hd hc) st p.isList (by simp;omega) fun h' eb=>⟨rfl,I.turned (t':=s.toks) (fun b o hb e=>eb b o hb e) f0 f1 f3 f4 f5⟩
 self:=fun _ _ _ _ _ st h=>wpAny_pyIter_listiter st h
theorem kS {P:Program} {w:World} {K:PySem.W.Frag} {tg:Expr} (it:Addr) (lo:Int) (n:Nat):Turn P w K tg (vN lo n) [it] it (fun i h=>IsRangeIter h it (lo+(i:Nat)*1) ((n:Int)- (i:Nat)) 1) where
 mem:=by simp
 obj:=fun i h st b hb=>by
  have e:b=it:=by simpa using hb
  subst e
  exact⟨_,st,fun v z=>by
   have z':Data.fields _=Data.cell v:=z
   cases z'⟩
 keep:=fun i h h' st k=>k it (by simp) _ st
 item:=by
  intro X hP hw hK hc i pins s σ H E I hf st hg
  subst hP hw hK
  obtain⟨f0,f1,f2,f3,f4,f5⟩:=hf it (by simp)
  have W:=Walks.range (prog:=X.prog) (w:=X.w) (I.ok.hd hc) it lo 1 n
  refine W.item i s _ _ hg st fun v h' tk hv st' kk=>?_
  obtain⟨t,rfl⟩:=hv
  have I1:Inv X pins σ H {s with heap:=h',toks:=tk} :=I.turned (fun b o hb e=>kk b o (by simpa using hb) e) f0 f1 f3 f4 f5
  refine⟨_,rfl,lE (s:={s with heap:=h',toks:=tk}) (n:="range_iterator") st' rfl rfl (by decide) ⟨.int (lo+i),H,I1,⟨t,?_⟩,⟨rfl,rfl⟩,st',fun b hb=>(hf b hb).1⟩⟩
  rw[Int.mul_one]
 done:=by
  intro X hP hw hK hc i pins s σ H E I hf st hg
  subst hP hw hK
  obtain⟨f0,f1,f2,f3,f4,f5⟩:=hf it (by simp)
  exact wpAny_pyNext_range_end (I.ok.hd hc) st (by have:n≤i:=hg;omega) fun h' eb=>⟨rfl,I.turned (t':=s.toks) (fun b o hb e=>eb b o hb e) f0 f1 f3 f4 f5⟩
 self:=fun _ _ _ _ _ st h=>wpAny_pyIter_rangeiter st h
end L2
namespace L2
open PySem PySem.Spec PyProof.Rows
section
variable {X:Cx} {tg:Expr}
def lF (K:PySem.W.Frag) (tl:TE):TI:=fun σ H R=>tl σ H fun x H1=>∃a,x=.ref a∧(∃xs,SqL K H1 a xs)∧R (vM K a) H1
theorem qj {l:Expr} {tl:TE} (hl:PE X l tl):PI X tg l (lF X.K tl):=by
 intro pins s σ H R I h
 refine bO (hl pins s σ H _ I h) fun v s1 ⟨x,H1,I1,r1,q1⟩=>?_
 obtain⟨a,e,⟨xs,hq⟩,q⟩:=q1
 subst e
 cases r1
 obtain⟨its,rv,p,hz⟩:=I1.list hq
 refine wpAny_pyIter_list p.isList ?_
 refine⟨s1.heap.objs.size,[s1.heap.objs.size],_,_,H1,rfl,I1.kept (t':=s1.toks) fun b o e=>Heap.get?_push_of_some _ e,eW a _,⟨_,Heap.get?_push_size _ rfl,rfl,rfl⟩,fun b hb=>?_,q⟩
 have e:b=s1.heap.objs.size:=by simpa using hb
 subst e
 exact I1.fpOk (Nat.le_refl _) (I1.hok.fresh (Nat.le_refl _))
theorem nQ {pins:List (Addr×Obj)} {σ:St} {H:Hp} {s:Shared} {R:It→Hp→Prop} {E:Value→Shared→Prop} {lo hi:Int} {t u v:Tok} {tk:Nat} (I:Inv X pins σ H s) (h1: -(2^62)≤lo) (h2:lo< 2^62) (h3: -(2^62)≤hi) (h4:hi< 2^62)
  (q:R (vN lo (hi- lo).toNat) H):wpAny (model X.prog X.w) X.A (pyIter (.ref s.heap.objs.size)) (vL X pins σ tg R) E {s with heap:=s.heap.push {cls:=.type "range",data:=.fields #[.int lo t,.int hi u,.int 1 v]},toks:=tk} :=by
 refine wpAny_pyIter_range (IsRange.new ..) (small_one h1 h2 h3 h4) ?_
 have I1:Inv X pins σ H {s with heap:=s.heap.push {cls:=.type "range",data:=.fields #[.int lo t,.int hi u,.int 1 v]},toks:=tk} :=I.kept fun b o e=>Heap.get?_push_of_some _ e
 refine⟨(s.heap.push {cls:=.type "range",data:=.fields #[.int lo t,.int hi u,.int 1 v]}).objs.size,[(s.heap.push {cls:=.type "range",data:=.fields #[.int lo t,.int hi u,.int 1 v]}).objs.size],_,_,H,rfl,
  I1.kept (t':=tk) fun b o e=>Heap.get?_push_of_some _ e,kS _ lo (hi- lo).toNat,?_,fun b hb=>?_,q⟩
 ·have e1:lo+((0:Nat):Int)*1=lo:=by simp
  have e2:(((hi- lo).toNat:Nat):Int)- ((0:Nat):Int)=Builtin.Range.rangeSize lo hi 1:=by rw[rangeSize_one];split <;> omega
  show IsRangeIter _ _ (lo+((0:Nat):Int)*1) ((((hi- lo).toNat:Nat):Int)- ((0:Nat):Int)) 1
  rw[e1,e2]
  exact Heap.get?_push_size _ rfl
 ·have e:b=(s.heap.push {cls:=.type "range",data:=.fields #[.int lo t,.int hi u,.int 1 v]}).objs.size:=by simpa using hb
  subst e
  exact I1.fpOk (Nat.le_refl _) (I1.hok.fresh (Nat.le_refl _))
def rN (ta:TA):TI:=fun σ H R=>ta σ H fun vs H1=>∃j:Int,vs=[.int j]∧ -(2^62)≤j∧j< 2^62∧R (vN 0 j.toNat) H1
theorem dL {a:Expr} {ta:TA} {p pos:Pos} (hg:Gl X "range") (hm:X.mg "range" =none) (ha:PA X [a] ta) (hs:starEach [a] X.env=[(false,eval a X.env)]:=by rfl):PI X tg (.Call (.Name "range" p) [a] [] pos) (rN ta):=by
 intro pins s σ H R I h
 refine Call_ (eL I hg hm boot_range (PyProof.Rows.callWith_type1 (bO (ha pos pins s σ H _ I h) fun us s1 ⟨vs,H1,I1,r1,q1⟩=>?_) hs rfl))
 obtain⟨j,e,q1,q2,q⟩:=q1
 subst e
 cases r1 with
 | cons r rr =>
  cases rr
  obtain⟨t,rfl⟩:=r
  exact call_range_1 (nQ I1 (by omega) (by omega) q1 q2 (by simpa using q))
def nR (wi:TI) (g:TG) (tb:TS):TS:=fun D σ H=>wi σ H fun J H1=>∃W:Nat→Nat→St→Hp→Prop,(∃m,W 0 m σ H1)∧∀i m σ H,W i m σ H→
 (J.stop i H∧D.nx σ H)∨(J.go i H∧∃N:St→Hp→Prop,(∀σ' H',N σ' H'→∃m',m'< m∧W (i+1) m' σ' H')∧∀x H',J.yld i H x H'→g x σ H' fun σ2 H2=>tb {D with nx:=N,ct:=N,bk:=D.nx} σ2 H2)
def fK (fp:List Addr) (h:Heap):List (Addr×Obj):=fp.filterMap fun b=>(h.get? b).map fun o=>(b,o)
theorem dX {fp:List Addr} {h:Heap} {b:Addr} {o:Obj} (hb:b∈fp) (e:h.get? b=some o):(b,o)∈fK fp h:=List.mem_filterMap.mpr ⟨b,hb,by rw[e];rfl⟩
theorem my {fp:List Addr} {h:Heap} {p:Addr×Obj} (hp:p∈fK fp h):p.1∈fp∧h.get? p.1=some p.2:=by
 obtain⟨b,hb,e⟩:=List.mem_filterMap.mp hp
 cases q:h.get? b with
 | none=>rw[q]at e;cases e
 | some o =>
  rw[q]at e
  have e':(b,o)=p:=Option.some.inj e
  subst e'
  exact⟨hb,q⟩
theorem Inv.pinned {pins:List (Addr×Obj)} {σ:St} {H:Hp} {s:Shared} {fp:List Addr} (I:Inv X pins σ H s) (hf:∀b∈fp,FpOk X pins H b) (ho:∀b∈fp,∃o,s.heap.get? b=some o∧∀v,o.data≠.cell v):Inv X (pins++fK fp s.heap) σ H s:=
 I.pins_of fun p hp=>(List.mem_append.mp hp).elim (fun z=>I.pin p (List.mem_append_right _ z)) fun z=>by
  obtain⟨hb,e⟩:=my z
  obtain⟨f0,f1,f2,_⟩:=hf p.1 hb
  obtain⟨o,e',d⟩:=ho p.1 hb
  rw[e]at e';cases e'
  exact⟨e,f0,f1,f2,d⟩
theorem Inv.unpinned {pins pl:List (Addr×Obj)} {σ:St} {H:Hp} {s:Shared} (I:Inv X (pins++pl) σ H s):Inv X pins σ H s:=I.pins_of fun p hp=>I.pin p (List.mem_append_right _ (List.mem_append_left _ hp))
theorem cM {iter:Expr} {body:List Stmt} {wi:TI} {g:TG} {tb:TS} {pos:Pos} (hp:PassesOwn (model X.prog X.w) X.A X.env X.xe) (hc:X.calm=true) (hi:PI X tg iter wi) (hg:PG X tg g) (hb:PSs X body tb)
  (hs:∀x,foldedSetIterable iter X.env x=pure x:=by intro _;rfl):PS X (.For tg iter body [] pos) (nR wi g tb):=by
 intro pins s σ H D I h
 refine wpAny_For (bO (hi pins s σ H _ I h) fun v s1 h1=>bO h1 fun itv s2 h2=>?_) hs
 obtain⟨it,fp,tn,J,H2,e,I2,T,st2,f2,W,⟨m0,w0⟩,turn⟩:=h2
 subst e
 have stat:∀{H':Hp},(∀b∈fp,H' b=none)→∀b∈fp,FpOk X pins H' b:=fun hn b hb=>⟨hn b hb,(f2 b hb).2⟩
 refine codeAny_forLoop_any (fun n s'=>∃i σ' H',Inv X pins σ' H' s'∧tn i s'.heap∧(∀b∈fp,H' b=none)∧W i n σ' H') ?_ m0 ⟨0,σ,H2,I2,st2,fun b hb=>(f2 b hb).1,w0⟩
 rintro n s3 ⟨i,σ3,H3,I3,st3,fr3,w3⟩
 rcases turn i n σ3 H3 w3 with⟨stop,qn⟩ | ⟨go,N,hN,step⟩
 ·refine wpAny_passesOwn hp (bO (T.done X rfl rfl rfl hc i pins s3 σ3 H3 X.xe I3 (stat fr3) st3 stop) fun r s4 ⟨hr,I4⟩=>?_)
  subst hr
  exact wpAny_execs_nil ⟨σ3,H3,I4,qn⟩
 ·refine wpAny_passesOwn hp (bO (T.item X rfl rfl rfl hc i pins s3 σ3 H3 X.xe I3 (stat fr3) st3 go) fun r s4 ⟨u,hr,h4⟩=>?_)
  subst hr
  refine wpAny_passesOwn hp (bO h4 fun _ s5 ⟨x,H5,I5,r5,y5,st5,fr5⟩=>?_)
  have I5':=I5.pinned (stat fr5) (T.obj _ _ st5)
  refine wpAny_passesOwn hp (bO (hg _ s5 σ3 H5 x u _ I5' r5 (step x H5 y5)) fun _ s6 ⟨σ6,H6,I6,q6⟩=>?_)
  refine wpAny_passesOwn hp (bO (hb _ s6 σ6 H6 _ I6 q6) fun f s7 q7=>?_)
  have again:∀{σ7:St} {H7:Hp},Inv X (pins++fK fp s5.heap) σ7 H7 s7→N σ7 H7→∃m,m< n∧∃i σ' H',Inv X pins σ' H' s7∧tn i s7.heap∧(∀b∈fp,H' b=none)∧W i m σ' H':=fun {σ7 H7} I7 n7=>by
   obtain⟨m',hm,w7⟩:=hN σ7 H7 n7
   refine⟨m',hm,i+1,σ7,H7,I7.unpinned,T.keep _ _ _ st5 fun b hb o e=>(I7.pin (b,o) (List.mem_append_right _ (List.mem_append_right _ (dX hb e)))).1,fun b hb=>?_,w7⟩
   obtain⟨o,e,d⟩:=T.obj _ _ st5 b hb
   exact(I7.pin (b,o) (List.mem_append_right _ (List.mem_append_right _ (dX hb e)))).2.1
  cases f with
  | next=>obtain⟨σ7,H7,I7,n7⟩:=q7;exact again I7 n7
  | cont=>obtain⟨σ7,H7,I7,n7⟩:=q7;exact again I7 n7
  | brk=>obtain⟨σ7,H7,I7,q7⟩:=q7;exact⟨σ7,H7,I7.unpinned,q7⟩
  | ret v=>obtain⟨x7,σ7,H7,I7,r7,q7⟩:=q7;exact⟨x7,σ7,H7,I7.unpinned,r7,q7⟩
end
end L2
namespace L2
open PySem PySem.Spec PyProof.Rows
abbrev R2:=V→V→Hp→VK→Prop
def OpR (X:Cx) (f:Value→Value→Sem Value) (r:R2):Prop:=
 ∀ (pins : List (Addr × Obj)) (s : Shared) (σ : St) (H : Hp) (x y : V) (v u : Value) (Q : VK), Inv X pins σ H s → RelV x v → RelV y u → r x y H Q →
  wpAny (model X.prog X.w) X.A (f v u) (EP X pins σ Q) X.xe s
def vO (X:Cx) (f:Value→Sem Value) (r:V→Hp→VK→Prop):Prop:=
 ∀ (pins : List (Addr × Obj)) (s : Shared) (σ : St) (H : Hp) (x : V) (v : Value) (Q : VK), Inv X pins σ H s → RelV x v → r x H Q →
  wpAny (model X.prog X.w) X.A (f v) (EP X pins σ Q) X.xe s
def dh (X:Cx) (f:Value) (r:List V→Hp→VK→Prop):Prop:=
 ∀ (pins : List (Addr × Obj)) (s : Shared) (σ : St) (H : Hp) (xs : List V) (us : List Value) (Q : VK), Inv X pins σ H s → Vals xs us → r xs H Q →
  wpAny (model X.prog X.w) X.A (call f us) (EP X pins σ Q) X.xe s
def cB (r:R2) (ta tb:TE):TE:=fun σ H Q=>ta σ H fun x H1=>tb σ H1 fun y H2=>r x y H2 Q
def em (r:V→Hp→VK→Prop) (ta:TE):TE:=fun σ H Q=>ta σ H fun x H1=>r x H1 Q
def rI (C:Int→Int→Prop) (g:Int→Int→V):R2:=fun x y H Q=>∃i j,x=.int i∧y=.int j∧C i j∧Q (g i j) H
def dA (g:Int→Int→V):R2:=fun x y H Q=>∃i j,x=.int i∧y=.int j∧Q (g i j) H
def rU (g:Int→V):V→Hp→VK→Prop:=fun x H Q=>∃i,x=.int i∧Q (g i) H
section
variable {X:Cx} {a b c:Expr} {ta tb tc:TE} {pos:Pos}
theorem sy (ha:PE X a ta) (hb:PE X b tb) {pins:List (Addr×Obj)} {s:Shared} {σ:St} {H:Hp} {R:V→V→Hp→Prop} (I:Inv X pins σ H s)
  (h:ta σ H fun x H1=>tb σ H1 fun y H2=>R x y H2) {Q:Value→Shared→Prop} {f:Value→Value→Sem Value}
  (hf:∀v u s2 x y H2,Inv X pins σ H2 s2→RelV x v→RelV y u→R x y H2→wpAny (model X.prog X.w) X.A (f v u) Q X.xe s2):
  wpAny (model X.prog X.w) X.A (eval a X.env) (fun v s₁=>wpAny (model X.prog X.w) X.A (eval b X.env) (fun u s₂=>wpAny (model X.prog X.w) X.A (f v u) Q X.xe s₂) X.xe s₁) X.xe s:=by
 refine bO (ha pins s σ H _ I h) fun v s1 ⟨x,H1,I1,r1,q1⟩=>?_
 refine bO (hb pins s1 σ H1 _ I1 q1) fun u s2 ⟨y,H2,I2,r2,q2⟩=>?_
 exact hf v u s2 x y H2 I2 r1 r2 q2
theorem ag {op:Operator} {r:R2} (ho:OpR X (binaryOp op) r) (ha:PE X a ta) (hb:PE X b tb):PE X (.BinOp a op b pos) (cB r ta tb):=by
 intro pins s σ H Q I h
 exact wpAny_BinOp (sy ha hb I h fun v u s2 x y H2 I2 rx ry q=>ho pins s2 σ H2 x y v u Q I2 rx ry q)
theorem rO {op:UnaryOp} {r:V→Hp→VK→Prop} (ho:vO X (unaryOp op) r) (ha:PE X a ta):PE X (.UnaryOp op a pos) (em r ta):=by
 intro pins s σ H Q I h
 exact UnaryOp_ (bO (ha pins s σ H _ I h) fun v s1 ⟨x,H1,I1,r1,q1⟩=>ho pins s1 σ H1 x v Q I1 r1 q1)
theorem uW {f:Value→Value→Sem Value} {C:Int→Int→Prop} {g:Int→Int→Int}
  (rule:∀(i j:Int) (t u:Tok) (s:Shared) (Q:Value→Shared→Prop) (E:Value→Shared→Prop),C i j→Q (.int (g i j) s.toks) {s with toks:=s.toks+1}→wpAny (model X.prog X.w) X.A (f (.int i t) (.int j u)) Q E s):
  OpR X f (rI C fun i j=>.int (g i j)):=by
 intro pins s σ H x y v u Q I rx ry h
 obtain⟨i,j,rfl,rfl,hc,q⟩:=h
 obtain⟨t,rfl⟩:=rx
 obtain⟨t',rfl⟩:=ry
 exact rule i j t t' s _ _ hc ⟨.int (g i j),H,I.tok _,⟨_,rfl⟩,q⟩
theorem tV {f:Value→Value→Sem Value} {g:Int→Int→Int}
  (rule:∀(i j:Int) (t u:Tok) (s:Shared) (Q:Value→Shared→Prop) (E:Value→Shared→Prop),Q (.int (g i j) s.toks) {s with toks:=s.toks+1}→wpAny (model X.prog X.w) X.A (f (.int i t) (.int j u)) Q E s):
  OpR X f (dA fun i j=>.int (g i j)):=by
 intro pins s σ H x y v u Q I rx ry h
 obtain⟨i,j,rfl,rfl,q⟩:=h
 obtain⟨t,rfl⟩:=rx
 obtain⟨t',rfl⟩:=ry
 exact rule i j t t' s _ _ ⟨.int (g i j),H,I.tok _,⟨_,rfl⟩,q⟩
theorem sA {f:Value→Value→Sem Value} {g:Int→Int→Bool}
  (rule:∀(i j:Int) (t u:Tok) (s:Shared) (Q:Value→Shared→Prop) (E:Value→Shared→Prop),Q (.bool (g i j)) s→wpAny (model X.prog X.w) X.A (f (.int i t) (.int j u)) Q E s):
  OpR X f (dA fun i j=>.bl (g i j)):=by
 intro pins s σ H x y v u Q I rx ry h
 obtain⟨i,j,rfl,rfl,q⟩:=h
 obtain⟨t,rfl⟩:=rx
 obtain⟨t',rfl⟩:=ry
 exact rule i j t t' s _ _ ⟨.bl (g i j),H,I,rfl,q⟩
def tW (i j:Int):Prop:=0< j∧j< 1073741824
def tX (i j:Int):Prop:=0≤j∧j≤1000000∧i.natAbs< 2^64
def CMul (i j:Int):Prop:=(-(2^64)< i∧i< 2^64)∨(-(2^64)< j∧j< 2^64)
theorem CMul.ok {i j:Int} (h:CMul i j):IntMulOk i j:=by
 rcases h with⟨h1,h2⟩ | ⟨h1,h2⟩
 ·exact .of_left (intBits_le_64 h1 h2)
 ·exact .of_right (intBits_le_64 h1 h2)
theorem bH:OpR X (binaryOp .Add) (dA fun i j=>.int (i+j)):=tV fun _ _ _ _ _ _ _ q=>add_int q
theorem fL:OpR X (binaryOp .Sub) (dA fun i j=>.int (i- j)):=tV fun _ _ _ _ _ _ _ q=>sub_int q
theorem fM:OpR X (binaryOp .Mult) (rI CMul fun i j=>.int (i*j)):=uW fun _ _ _ _ _ _ _ hc q=>mul_int q hc.ok
theorem bz:OpR X (binaryOp .FloorDiv) (rI tW fun i j=>.int (i/ j)):=uW fun i j _ _ _ _ _ hc q=>by
 have h1:(0:Int)< j:=hc.1
 have h2:j< 1073741824:=hc.2
 exact floordiv_int (by omega) (by rw[Int.fdiv_eq_ediv_of_nonneg i (by omega)];exact q) (.inl (PyProof.noPylong_small (by omega)))
theorem aE:OpR X (binaryOp .Mod) (rI (fun _ j=>0< j) fun i j=>.int (i% j)):=uW fun i j _ _ _ _ _ hc q=>by
 have h1:(0:Int)< j:=hc
 exact mod_int' (by omega) (by rw[Int.fmod_eq_emod_of_nonneg i (by omega)];exact q)
theorem sB:OpR X (binaryOp .Pow) (rI tX fun i j=>.int (i^j.toNat)):=uW fun _ _ _ _ _ _ _ hc q=>pow_int_small hc.1 hc.2.1 hc.2.2 q
theorem wr {f:Value→Sem Value} {g:Int→Int}
  (rule:∀(i:Int) (t:Tok) (s:Shared) (Q:Value→Shared→Prop) (E:Value→Shared→Prop),Q (.int (g i) s.toks) {s with toks:=s.toks+1}→wpAny (model X.prog X.w) X.A (f (.int i t)) Q E s):
  vO X f (rU fun i=>.int (g i)):=by
 intro pins s σ H x v Q I rx h
 obtain⟨i,rfl,q⟩:=h
 obtain⟨t,rfl⟩:=rx
 exact rule i t s _ _ ⟨.int (g i),H,I.tok _,⟨_,rfl⟩,q⟩
theorem nS:vO X (unaryOp .USub) (rU fun i=>.int (-i)):=wr fun _ _ _ _ _ q=>neg_int q
end
def cf:V→V→Bool
 | .non,.non=>true | .non,.int _=>true | .int _,.non=>true | .non,.bl _=>true | .bl _,.non=>true | .non,.str _=>true | .str _,.non=>true
 | .int _,.int _=>true | .bl _,.bl _=>true | .str _,.str _=>true | .byt _,.byt _=>true
 | .int _,.str _=>true | .str _,.int _=>true | .bl _,.str _=>true | .str _,.bl _=>true
 | _,_=>false
def er:R2:=fun x y H Q=>cf x y=true∧Q (.bl (decide (x=y))) H
def eu:R2:=fun x y H Q=>cf x y=true∧Q (.bl (!decide (x=y))) H
theorem lG {i j:Int} :decide (V.int i=V.int j)=(i == j):=by
 rw[Bool.eq_iff_iff]
 simp
theorem nU {i j:Bool} :decide (V.bl i=V.bl j)=(i == j):=by
 rw[Bool.eq_iff_iff]
 simp
theorem lH {i j:Str} :decide (V.str i=V.str j)=(i == j):=by
 rw[Bool.eq_iff_iff]
 simp
theorem lI {i j:Array UInt8} :decide (V.byt i=V.byt j)=(i.toList == j.toList):=by
 rw[Bool.eq_iff_iff]
 cases i
 cases j
 simp
section
variable {X:Cx} {a b c:Expr} {ta tb tc:TE} {pos:Pos}
theorem aP {pins:List (Addr×Obj)} {σ:St} {H:Hp} {s:Shared} {Q:VK} {k k':Bool} (I:Inv X pins σ H s) (q:Q (.bl k) H) (e:k=k'):EP X pins σ Q (.bool k') s:=by
 subst e
 exact⟨.bl k,H,I,rfl,q⟩
theorem cH:OpR X (compareOp .Eq) er:=by
 intro pins s σ H x y v u Q I rx ry h
 obtain⟨hs,q⟩:=h
 cases x with
 | non =>
  cases rx
  cases y with
  | non=>cases ry;exact PySem.EqNone.eq_none_none (aP I q (by simp))
  | bl j=>cases ry;exact PySem.EqNone.eq_none_bool (aP I q (by simp))
  | int j=>obtain⟨t',rfl⟩:=ry;exact PySem.EqNone.eq_none_int (aP I q (by simp))
  | str j=>obtain⟨t',rfl⟩:=ry;exact PySem.EqNone.eq_none_str (aP I q (by simp))
  | _=>exact absurd (show false=true from hs) Bool.false_ne_true
 | bl i =>
  cases rx
  cases y with
  | non=>cases ry;exact PySem.EqNone.eq_bool_none (aP I q (by simp))
  | bl j=>cases ry;exact eq_bool (aP I q nU)
  | str j=>obtain⟨t',rfl⟩:=ry;exact PySem.EqMixed.eq_bool_str (aP I q (by simp))
  | _=>exact absurd (show false=true from hs) Bool.false_ne_true
 | int i =>
  obtain⟨t,rfl⟩:=rx
  cases y with
  | non=>cases ry;exact PySem.EqNone.eq_int_none (aP I q (by simp))
  | int j=>obtain⟨t',rfl⟩:=ry;exact eq_int (aP I q lG)
  | str j=>obtain⟨t',rfl⟩:=ry;exact PySem.EqMixed.eq_int_str (aP I q (by simp))
  | _=>exact absurd (show false=true from hs) Bool.false_ne_true
 | str i =>
  obtain⟨t,rfl⟩:=rx
  cases y with
  | non=>cases ry;exact PySem.EqNone.eq_str_none (aP I q (by simp))
  | bl j=>cases ry;exact PySem.EqMixed.eq_str_bool (aP I q (by simp))
  | int j=>obtain⟨t',rfl⟩:=ry;exact PySem.EqMixed.eq_str_int (aP I q (by simp))
  | str j=>obtain⟨t',rfl⟩:=ry;exact eq_str (aP I q lH)
  | _=>exact absurd (show false=true from hs) Bool.false_ne_true
 | byt i =>
  obtain⟨t,rfl⟩:=rx
  cases y with
  | byt j=>obtain⟨t',rfl⟩:=ry;exact PySem.W.eq_bytes (aP I q lI)
  | _=>exact absurd (show false=true from hs) Bool.false_ne_true
 | _=>cases y <;> exact absurd (show false=true from hs) Bool.false_ne_true
theorem fW:OpR X (compareOp .NotEq) eu:=by
 intro pins s σ H x y v u Q I rx ry h
 obtain⟨hs,q⟩:=h
 cases x with
 | non =>
  cases rx
  cases y with
  | non=>cases ry;exact PySem.EqNone.ne_none_none (aP I q (by simp))
  | bl j=>cases ry;exact PySem.EqNone.ne_none_bool (aP I q (by simp))
  | int j=>obtain⟨t',rfl⟩:=ry;exact PySem.EqNone.ne_none_int (aP I q (by simp))
  | str j=>obtain⟨t',rfl⟩:=ry;exact PySem.EqNone.ne_none_str (aP I q (by simp))
  | _=>exact absurd (show false=true from hs) Bool.false_ne_true
 | bl i =>
  cases rx
  cases y with
  | non=>cases ry;exact PySem.EqNone.ne_bool_none (aP I q (by simp))
  | bl j=>cases ry;exact ne_bool (aP I q (congrArg not nU))
  | str j=>obtain⟨t',rfl⟩:=ry;exact PySem.EqMixed.ne_bool_str (aP I q (by simp))
  | _=>exact absurd (show false=true from hs) Bool.false_ne_true
 | int i =>
  obtain⟨t,rfl⟩:=rx
  cases y with
  | non=>cases ry;exact PySem.EqNone.ne_int_none (aP I q (by simp))
  | int j=>obtain⟨t',rfl⟩:=ry;exact ne_int (aP I q (congrArg not lG))
  | str j=>obtain⟨t',rfl⟩:=ry;exact PySem.EqMixed.ne_int_str (aP I q (by simp))
  | _=>exact absurd (show false=true from hs) Bool.false_ne_true
 | str i =>
  obtain⟨t,rfl⟩:=rx
  cases y with
  | non=>cases ry;exact PySem.EqNone.ne_str_none (aP I q (by simp))
  | bl j=>cases ry;exact PySem.EqMixed.ne_str_bool (aP I q (by simp))
  | int j=>obtain⟨t',rfl⟩:=ry;exact PySem.EqMixed.ne_str_int (aP I q (by simp))
  | str j=>obtain⟨t',rfl⟩:=ry;exact ne_str (aP I q (congrArg not lH))
  | _=>exact absurd (show false=true from hs) Bool.false_ne_true
 | byt i =>
  obtain⟨t,rfl⟩:=rx
  cases y with
  | byt j=>obtain⟨t',rfl⟩:=ry;exact PySem.W.ne_bytes (aP I q (congrArg not lI))
  | _=>exact absurd (show false=true from hs) Bool.false_ne_true
 | _=>cases y <;> exact absurd (show false=true from hs) Bool.false_ne_true
theorem rP:OpR X (compareOp .Lt) (dA fun i j=>.bl (decide (i< j))):=sA fun _ _ _ _ _ _ _ q=>lt_int q
theorem tY:OpR X (compareOp .Gt) (dA fun i j=>.bl (decide (j< i))):=sA fun _ _ _ _ _ _ _ q=>gt_int q
theorem tZ:OpR X (compareOp .GtE) (dA fun i j=>.bl (decide (j≤i))):=sA fun _ _ _ _ _ _ _ q=>ge_int q
theorem op_isN:OpR X (compareOp .Is) (fun x y H Q=>y=.non∧Q (.bl (decide (x=.non))) H):=by
 intro pins s σ H x y v u Q I rx ry h
 obtain⟨rfl,q⟩:=h
 cases ry
 refine is_none_gen (aP I q ?_)
 cases x <;> first
  | (cases rx;rfl)
  | (obtain⟨t,rfl⟩:=rx;rfl)
theorem qk:OpR X (compareOp .IsNot) (fun x y H Q=>y=.non∧Q (.bl (!decide (x=.non))) H):=by
 intro pins s σ H x y v u Q I rx ry h
 obtain⟨rfl,q⟩:=h
 cases ry
 refine isnot_none_gen (aP I q ?_)
 cases x <;> first
  | (cases rx;rfl)
  | (obtain⟨t,rfl⟩:=rx;rfl)
theorem OpR.or {f:Value→Value→Sem Value} {r r':R2} (h:OpR X f r) (h':OpR X f r'):OpR X f (fun x y H Q=>r x y H Q∨r' x y H Q):=by
 intro pins s σ H x y v u Q I rx ry q
 rcases q with q | q
 ·exact h pins s σ H x y v u Q I rx ry q
 ·exact h' pins s σ H x y v u Q I rx ry q
theorem b9 (b:Expr) {op:CmpOp} (h:op≠.In:=by decide) (h2:op≠.NotIn:=by decide):behindInMarks op b=false:=by
 have e1:(op == CmpOp.In)=false:=by cases op <;> first | rfl | exact absurd rfl h
 have e2:(op == CmpOp.NotIn)=false:=by cases op <;> first | rfl | exact absurd rfl h2
 cases b <;> simp[behindInMarks,e1,e2]
theorem fj {op:CmpOp} {r:R2} (ho:OpR X (compareOp op) r) (ha:PE X a ta) (hb:PE X b tb) (hm:behindInMarks op b=false):PE X (.Compare a [op] [b] pos) (cB r ta tb):=by
 intro pins s σ H Q I h
 exact wpAny_Compare1 (sy ha hb I h fun v u s2 x y H2 I2 rx ry q=>ho pins s2 σ H2 x y v u Q I2 rx ry q) hm
def bq (t:TE):TT:=fun σ H Q=>t σ H fun x H'=>∃k,x=.bl k∧Q k H'
theorem aL {op:CmpOp} {r:R2} (ho:OpR X (compareOp op) r) (ha:PE X a ta) (hb:PE X b tb) (hm:behindInMarks op b=false):PT X (.Compare a [op] [b] pos) (bq (cB r ta tb)):=by
 intro pins s σ H Q I h
 refine wpAny_isTrue_Compare1 (bO (ha pins s σ H _ I h) fun v s1 ⟨x,H1,I1,r1,q1⟩=>bO (hb pins s1 σ H1 _ I1 q1) fun u s2 ⟨y,H2,I2,r2,q2⟩=>
  bO (ho pins s2 σ H2 x y v u _ I2 r1 r2 q2) fun c s3 ⟨z,H3,I3,r3,k,e,q3⟩=>?_) hm
 subst e
 cases r3
 exact wpAny_truthy_bool ⟨H3,I3,q3⟩
theorem iW:(sizeLine:Nat)< 2^63:=by rw[sizeLine_eq];decide
theorem bb:OpR X (binaryOp .Add) (fun x y H Q=>∃i j,x=.str i∧y=.str j∧i.length+j.length≤sizeLine∧Q (.str (i++j)) H):=by
 intro pins s σ H x y v u Q I rx ry h
 obtain⟨i,j,rfl,rfl,hz,q⟩:=h
 obtain⟨t,rfl⟩:=rx
 obtain⟨t',rfl⟩:=ry
 exact add_str (fun t' tk=>⟨.str (i++j),H,I.tok _,⟨_,rfl⟩,q⟩) hz
theorem fk {x:V} {us:List Value} (r:Vals [x] us):∃u,us=[u]∧RelV x u:=by
 cases r with
 | cons r1 r2=>cases r2;exact⟨_,rfl,r1⟩
theorem ii {x y:V} {us:List Value} (r:Vals [x,y] us):∃u w',us=[u,w']∧RelV x u∧RelV y w':=by
 cases r with
 | cons r1 r2 =>
  cases r2 with
  | cons r3 r4=>cases r4;exact⟨_,_,rfl,r1,r3⟩
theorem nV:dh X (.builtin "abs") (fun xs H Q=>∃i,xs=[.int i]∧Q (.int (if i< 0 then -i else i)) H):=by
 intro pins s σ H xs us Q I r h
 obtain⟨i,rfl,q⟩:=h
 obtain⟨u,rfl,t,rfl⟩:=fk r
 exact call_abs_int fun u tk=>⟨.int (if i< 0 then -i else i),H,I.tok _,⟨_,rfl⟩,q⟩
theorem mz (hc:X.calm=true):dh X (.builtin "max") (fun xs H Q=>∃i j,xs=[.int i,.int j]∧Q (.int (if j> i then j else i)) H):=by
 intro pins s σ H xs us Q I r h
 obtain⟨i,j,rfl,q⟩:=h
 obtain⟨u,w',rfl,⟨t,rfl⟩,⟨t',rfl⟩⟩:=ii r
 refine max_two_ints (I.ok.hd hc) fun h' tk k=>⟨_,H,I.kept k,?_,q⟩
 by_cases hj:j> i
 ·rw[if_pos hj,if_pos hj];exact⟨_,rfl⟩
 ·rw[if_neg hj,if_neg hj];exact⟨_,rfl⟩
theorem fN (hc:X.calm=true):dh X (.builtin "min") (fun xs H Q=>∃i j,xs=[.int i,.int j]∧Q (.int (if j< i then j else i)) H):=by
 intro pins s σ H xs us Q I r h
 obtain⟨i,j,rfl,q⟩:=h
 obtain⟨u,w',rfl,⟨t,rfl⟩,⟨t',rfl⟩⟩:=ii r
 refine min_two_ints (I.ok.hd hc) fun h' tk k=>⟨_,H,I.kept k,?_,q⟩
 by_cases hj:j< i
 ·rw[if_pos hj,if_pos hj];exact⟨_,rfl⟩
 ·rw[if_neg hj,if_neg hj];exact⟨_,rfl⟩
def kT (K:PySem.W.Frag) (x:V) (H:Hp) (n:Nat):Prop:=
 match x with
 | .str y=>y.length≤sizeLine∧n=y.length
 | .byt y=>y.size≤sizeLine∧n=y.size
 | .ref p=>(∃xs,SqL K H p xs∧n=xs.length)∨∃xs,SqT K H p xs∧n=xs.length
 | _=>False
theorem nW:dh X (.builtin "len") (fun xs H Q=>∃x n,xs=[x]∧kT X.K x H n∧Q (.int n) H):=by
 intro pins s σ H xs us Q I r h
 obtain⟨x,n,rfl,e,q⟩:=h
 obtain⟨u,rfl,rx⟩:=fk r
 have hl:=iW
 have hs:sizeLine=16777216:=sizeLine_eq
 cases x with
 | str y =>
  obtain⟨t,rfl⟩:=rx
  obtain⟨hy,e'⟩:y.length≤sizeLine∧n=y.length:=e
  subst e'
  exact len_str (by omega) ⟨.int _,H,I.tok _,⟨_,rfl⟩,q⟩
 | byt y =>
  obtain⟨t,rfl⟩:=rx
  obtain⟨hy,e'⟩:y.size≤sizeLine∧n=y.size:=e
  subst e'
  exact PySem.W.len_bytes (by omega) ⟨.int _,H,I.tok _,⟨_,rfl⟩,q⟩
 | ref p =>
  cases rx
  have e':(∃xs,SqL X.K H p xs∧n=xs.length)∨∃xs,SqT X.K H p xs∧n=xs.length:=e
  rcases e' with⟨xs,hx,e'⟩ | ⟨xs,hx,e'⟩
  ·subst e'
   obtain⟨its,r',pl,hz⟩:=I.list hx
   have hlen:=r'.length
   exact Calls.call_len_list pl.isList (by simp only[List.size_toArray];omega) ⟨.int xs.length,H,I.tok _,⟨_,by simp only[List.size_toArray];rw[hlen]⟩,q⟩
  ·subst e'
   obtain⟨its,r',pl,hz⟩:=I.tuple hx
   have hlen:=r'.length
   exact len_tuple pl (by simp only[List.size_toArray];omega) ⟨.int xs.length,H,I.tok _,⟨_,by simp only[List.size_toArray];rw[hlen]⟩,q⟩
 | _=>exact(show False from e).elim
end
end L2
namespace L2
open PySem PySem.Spec PyProof.Rows
structure ObjM (h:Heap) (x dx C:Addr) (mA:Str→Option Value):Prop where
 obj:h.get? x=some (PySem.W.instObj C dx)
 ns:h.Ns1 dx mA
 ne:dx≠x
theorem dM {h:Heap} {dx:Addr} {mA:Str→Option Value} (n:h.Ns1 dx mA):∃od,h.get? dx=some od∧∀name,PySem.W.lookIn name od=some (mA name):=by
 obtain⟨o,es,ep,ho,hd,hk,_,hm⟩:=n
 refine⟨o,ho,fun name=>?_⟩
 have e:=hm name
 unfold nsFind findBy at e
 rw[←Array.find?_toList]at e
 unfold PySem.W.lookIn
 rw[hd]
 dsimp only
 split
 ·rename_i y q
  rw[q]at e
  exact congrArg some e
 ·rename_i q
  rw[q]at e
  have a:es.toList.any (·.refKey)=false:=by
   rw[List.any_eq_false]
   intro y hy
   obtain⟨z,t,hkey⟩:=hk y (Array.mem_toList_iff.mp hy)
   simp[DictEntry.refKey,hkey]
  have a':¬es.toList.any (·.refKey)=true:=by rw[a];exact Bool.false_ne_true
  rw[if_neg a']
  exact congrArg some e
theorem ObjM.look {h:Heap} {x dx C:Addr} {mA:Str→Option Value} (I:ObjM h x dx C mA):∃od,PySem.W.InstAt h x (PySem.W.instObj C dx) C (some od)∧∀name,PySem.W.lookIn name od=some (mA name):=
 let ⟨od,ho,hl⟩:=dM I.ns
 ⟨od,⟨I.obj,rfl,rfl,ho⟩,hl⟩
def gh (f:Str) (v:V):List (Str×V)→List (Str×V)
 | []=>[(f,v)]
 | (g,x)::r=>if g=f then(g,v)::r else(g,x)::gh f v r
theorem cI (f g:Str) (v:V):∀fs:List (Str×V),(gh f v fs).lookup g=if g=f then some v else fs.lookup g
 | [] => by
  show List.lookup g [(f,v)]=_
  by_cases h:g=f
  ·have hb:(g == f)=true:=beq_iff_eq.mpr h
   simp only[List.lookup,hb,if_pos h]
  ·have hb:(g == f)=false:=beq_eq_false_iff_ne.mpr h
   simp only[List.lookup,hb,if_neg h]
 | (k, x) :: r => by
  have ih:=cI f g v r
  rw[show gh f v ((k,x)::r)=(if k=f then(k,v)::r else(k,x)::gh f v r)from rfl]
  by_cases hk:k=f
  ·rw[if_pos hk]
   by_cases h:g=k
   ·have hb:(g == k)=true:=beq_iff_eq.mpr h
    simp only[List.lookup,hb,if_pos (h.trans hk)]
   ·have hb:(g == k)=false:=beq_eq_false_iff_ne.mpr h
    simp only[List.lookup,hb,if_neg (fun e:g=f=>h (e.trans hk.symm))]
  ·rw[if_neg hk]
   by_cases h:g=k
   ·have hb:(g == k)=true:=beq_iff_eq.mpr h
    simp only[List.lookup,hb,if_neg (fun e:g=f=>hk (h.symm.trans e))]
   ·have hb:(g == k)=false:=beq_eq_false_iff_ne.mpr h
    simp only[List.lookup,hb]
    exact ih
theorem fO (f:Str) (v:V):∀fs:List (Str×V),f∈(gh f v fs).map (·.1)∧∀g,g∈fs.map (·.1)→g∈(gh f v fs).map (·.1)
 | []=>⟨by simp[gh],fun g h=>by simp at h⟩
 | (k, x) :: r => by
  obtain⟨i1,i2⟩:=fO f v r
  rw[show gh f v ((k,x)::r)=(if k=f then(k,v)::r else(k,x)::gh f v r)from rfl]
  by_cases hk:k=f
  ·rw[if_pos hk]
   subst hk
   exact⟨by simp,fun g h=>by simpa using h⟩
  ·rw[if_neg hk]
   refine⟨?_,fun g h=>?_⟩
   ·rw[List.map_cons]
    exact List.mem_cons_of_mem _ i1
   ·rw[List.map_cons]at h ⊢
    rcases List.mem_cons.mp h with e | e
    ·exact List.mem_cons.mpr (.inl e)
    ·exact List.mem_cons_of_mem _ (i2 g e)
theorem RelO.some_of {v:V} {o:Option Value} (r:RelO (some v) o):∃u,o=some u∧RelV v u:=by
 cases o with
 | none=>exact(show False from r).elim
 | some u=>exact⟨u,rfl,r⟩
theorem mC {v:V} {u:Value} (r:RelV v u):PySem.W.handedIn u=true:=by
 cases v with
 | non=>cases (show u=Value.none from r);rfl
 | bl b=>cases (show u=Value.bool b from r);rfl
 | int i=>obtain⟨t,e⟩:=(show ∃t,u=Value.int i t from r);cases e;rfl
 | str x=>obtain⟨t,e⟩:=(show ∃t,u=Value.str x t from r);cases e;rfl
 | byt b=>obtain⟨t,e⟩:=(show ∃t,u=Value.bytes b t from r);cases e;rfl
 | flt b=>obtain⟨t,e⟩:=(show ∃t,u=Value.float b t from r);cases e;rfl
 | ref a=>cases (show u=Value.ref a from r);rfl
 | ty n=>cases (show u=Value.type n from r);rfl
section
variable {P:Program} {w:World} {H H':Hp} {h h':Heap} {a C dx:Addr} {fs fs':List (Str×V)}
theorem ql (hok:HOk P w H h) (e:H a=some (.ins C dx fs)):∃mA,ObjM h a dx C mA∧(∀f,RelO (fs.lookup f) (mA f))∧PySem.Within mA (fs.map (·.1))∧fs.length≤1000∧H dx=some (.own a):=by
 obtain⟨d,z,ne,ob,mA,n,r,q⟩:=(show ObjOk P w H h a (.ins C dx fs)from hok a _ e)
 exact⟨mA,⟨ob,n,ne⟩,r,q,z,d⟩
end
structure Cls (K:PySem.W.Frag) (C:Addr):Prop where
 pg:PySem.W.plainGet K C Str.empty=true
 hd:PySem.W.hasDictIn K C=true
 po:PySem.W.plainOver K C=true
 sa:PySem.W.findIn K (.ref C) "__setattr__" =some (some (.builtin "object.__setattr__"))
theorem Cls.get {K:PySem.W.Frag} {C:Addr} (c:Cls K C) (f:Str):PySem.W.plainGet K C f=true:=c.pg
def NoAttr (K:PySem.W.Frag) (C:Addr) (f:Str):Prop:=PySem.W.findIn K (.ref C) f=some none
section
variable {X:Cx} {pins:List (Addr×Obj)} {σ:St} {H:Hp} {s:Shared} {a C dx:Addr} {fs:List (Str×V)} {f:Str} {v:V} {A:Around} {E:Value→Shared→Prop}
theorem lJ {prog:Program} {w:World} {env:Env} {e:Expr} {f:Str} {pos:Pos} {s:Shared} {Q:Value→Shared→Prop} (hb:attributeBase e f env (eval e env)=eval e env)
  (h:wpAny (model prog w) A (eval e env) (fun o s₁=>wpAny (model prog w) A (getAttr o f true) Q E s₁) E s):wpAny (model prog w) A (eval (.Attribute e f pos) env) Q E s:=
 Attribute_any_ h (by rw[arm_eval_Attribute,hb])
end
section
variable {X:Cx} {pins:List (Addr×Obj)} {σ:St} {H:Hp} {s:Shared} {A:Around} {E:Value→Shared→Prop} {Q:Value→Shared→Prop} {c:Value} {b:Bool}
inductive TyOf (K:PySem.W.Frag) (H:Hp):V→Value→Prop where
 | non:TyOf K H .non (.type "NoneType")
 | bl (x:Bool):TyOf K H (.bl x) (.type "bool")
 | int (i:Int):TyOf K H (.int i) (.type "int")
 | str (x:Str):TyOf K H (.str x) (.type "str")
 | flt (x:UInt64):TyOf K H (.flt x) (.type "float")
 | lst {a:Addr} {xs:List V} (e:H a=some (.lst xs)):TyOf K H (.ref a) (.type "list")
 | frz {a:Addr} {o:Obj} {xs:List V} (e:H a=some (.frz o (.lst xs))):TyOf K H (.ref a) (.type "list")
 | tup {a:Addr} {xs:List V} (e:SqT K H a xs):TyOf K H (.ref a) (.type "tuple")
 | dK {a:Addr} {kvs:List (Key×V)} (e:H a=some (.dK kvs)):TyOf K H (.ref a) (.type "dict")
 | dT {a:Addr} {kvs:List (List Key×V)} (e:H a=some (.dT kvs)):TyOf K H (.ref a) (.type "dict")
 | ins {a C dx:Addr} {fs:List (Str×V)} (e:H a=some (.ins C dx fs)) (cl:Cls K C) (ha:PySem.W.findIn K (.ref C) "__class__" =some (some (.builtin "object.__class__")))
   (hn:PySem.W.specialIn K (.builtin "object.__class__") "__get__" =some (some (.builtin "getset_descriptor.__get__"))) (htk:PySem.W.takesIn K (.builtin "object.__class__")=some true)
   (hm:PySem.W.mroIn K C (.type "object")=some true):TyOf K H (.ref a) (.ref C)
theorem mD {x:V} {u t:Value} (I:Inv X pins σ H s) (rx:RelV x u) (ty:TyOf X.K H x t) (e:PySem.W.kitOne X.K t c=some b) (h:∀tk,Q (.bool b) {s with toks:=tk}):
  wpAny (model X.prog X.w) A (call (.builtin "isinstance") [u,c]) Q E s:=by
 cases ty with
 | non=>cases (show u=Value.none from rx);exact PySem.W.kia_one PySem.W.kitx_none I.kIn True.intro e (fun z=>nomatch z) h
 | bl y=>cases (show u=Value.bool y from rx);exact PySem.W.kia_one PySem.W.kitx_bool I.kIn True.intro e (fun z=>nomatch z) h
 | int i=>obtain⟨t,q⟩:=(show ∃t,u=Value.int i t from rx);cases q;exact PySem.W.kia_one PySem.W.kitx_int I.kIn True.intro e (fun z=>nomatch z) h
 | str y=>obtain⟨t,q⟩:=(show ∃t,u=Value.str y t from rx);cases q;exact PySem.W.kia_one PySem.W.kitx_str I.kIn True.intro e (fun z=>nomatch z) h
 | flt y=>obtain⟨t,q⟩:=(show ∃t,u=Value.float y t from rx);cases q;exact PySem.W.kia_one PySem.W.kitx_float I.kIn True.intro e (fun z=>nomatch z) h
 | @lst a xs ea =>
  cases (show u=Value.ref a from rx)
  obtain⟨_,_,n,_,h1⟩:=(show ObjOk X.prog X.w H s.heap a (.lst xs)from I.hok a _ ea)
  exact PySem.W.kia_one PySem.W.kitx_list I.kIn ⟨_,h1,rfl⟩ e (fun z=>nomatch z) h
 | @frz a ob xs ea =>
  cases (show u=Value.ref a from rx)
  obtain⟨_,_,_,n,_,h1⟩:=(show ObjOk X.prog X.w H s.heap a (.frz ob (.lst xs))from I.hok a _ ea)
  exact PySem.W.kia_one PySem.W.kitx_list I.kIn ⟨_,h1,rfl⟩ e (fun z=>nomatch z) h
 | @tup a xs ea =>
  cases (show u=Value.ref a from rx)
  obtain⟨_,_,p,_⟩:=I.tuple ea
  obtain⟨o,h1,h2,_⟩:=p
  exact PySem.W.kia_one PySem.W.kitx_tuple I.kIn ⟨o,h1,h2⟩ e (fun z=>nomatch z) h
 | @dK a kvs ea =>
  cases (show u=Value.ref a from rx)
  obtain⟨_,_,vs,_,p⟩:=(show ObjOk X.prog X.w H s.heap a (.dK kvs)from I.hok a _ ea)
  obtain⟨o,es,ep,h1,h2,_⟩:=p
  exact PySem.W.kia_one PySem.W.kitx_dict I.kIn ⟨o,h1,h2.1⟩ e (fun z=>nomatch z) h
 | @dT a kvs ea =>
  cases (show u=Value.ref a from rx)
  obtain⟨_,_,xs,_,o,es,ep,h1,h2,_⟩:=(show ObjOk X.prog X.w H s.heap a (.dT kvs)from I.hok a _ ea)
  exact PySem.W.kia_one PySem.W.kitx_dict I.kIn ⟨o,h1,h2.1⟩ e (fun z=>nomatch z) h
 | @ins a C dx fs ea cl ha hn htk hm =>
  cases (show u=Value.ref a from rx)
  obtain⟨mA,O,_⟩:=ql I.hok ea
  obtain⟨od,J,_⟩:=O.look
  exact PySem.W.kia_one (PySem.W.kitx_own (cl.get _) cl.hd ha hn htk hm) I.kIn J e (fun z=>nomatch z) h
end
end L2
namespace L2
open PySem PySem.Spec PyProof.Rows
structure Room (k:Nat) (A:Around):Prop where
 hd:A.handled=none
 dp:A.depth+3*k+5< recursionLimit
 un:A.units+16*k+200< cLine
theorem Room.mono {j k:Nat} {A:Around} (r:Room k A) (h:j≤k):Room j A:=⟨r.hd,by have:=r.dp;omega,by have:=r.un;omega⟩
theorem Room.deeper {k:Nat} {A:Around} (r:Room (k+1) A) (env:Env):Room k (A.deeper env):=
 ⟨r.hd,by have:=r.dp;show A.depth+1+3*k+5< _;omega,by have:=r.un;show A.units+3+16*k+200< _;omega⟩
theorem kU {A:Around} {C:Addr} {us:List Value} {kw:List (Str×Value)} :(A.under (.builtin "type.__call__" ⟨.ref C::us,kw⟩)).depth=A.depth+1:=by
 first | rfl | simp[Around.under,Code.weight,Code.isCreation,Code.isGuard,Code.isCaller,Code.frames,Code.isFrame,guardIds]
theorem kW {A:Around} {C:Addr} {us:List Value} {kw:List (Str×Value)} :(A.under (.builtin "type.__call__" ⟨.ref C::us,kw⟩)).units=A.units+1:=by
 first | rfl | simp[Around.under,Code.cUnits,Code.frames,Code.isFrame]
theorem Room.make {k:Nat} {A:Around} (r:Room (k+1) A) (C:Addr) (us:List Value) (kw:List (Str×Value)):Room k (A.under (.builtin "type.__call__" ⟨.ref C::us,kw⟩)):=
 ⟨r.hd,by have:=r.dp;rw[kU];omega,by have:=r.un;rw[kW];omega⟩
theorem Room.depth {k:Nat} {A:Around} (r:Room k A):A.depth< recursionLimit:=by have:=r.dp;omega
def aX:TA:=fun _ H Q=>Q [] H
def aj (ta:TE) (tr:TA):TA:=fun σ H Q=>ta σ H fun x H1=>tr σ H1 fun xs H2=>Q (x::xs) H2
section
variable {X:Cx} {e:Expr} {es:List Expr} {te:TE} {t:TA} {pos:Pos}
theorem ac:PA X [] aX:=fun _ _ _ _ H Q I h=>Calls.spliced_nil ⟨[],H,I,.nil,h⟩
theorem a8 (ha:PE X e te) (hr:PA X es t) (hs:starEach (e::es) X.env=(false,eval e X.env)::starEach es X.env:=by rfl):PA X (e::es) (aj te t):=by
 intro pos pins s σ H Q I h
 rw[hs]
 show wpAny _ _ (spliced ((false,eval e X.env)::backTo pos (starEach es X.env))) _ _ s
 refine Calls.spliced_cons (bO (ha pins s σ H _ I h) fun u s1 ⟨x,H1,I1,r1,q1⟩=>?_)
 exact bO (hr pos pins s1 σ H1 _ I1 q1) fun us s2 ⟨xs,H2,I2,r2,q2⟩=>⟨x::xs,H2,I2,.cons r1 r2,q2⟩
def bN (t:TA):TE:=fun σ H Q=>t σ H fun xs H1=>xs.length≤sizeLine∧∀p,H1 p=none→Q (.ref p) (bu H1 p (.tup xs))
def bV (t:TA):TE:=fun σ H Q=>t σ H fun xs H1=>xs.length≤sizeLine∧∀p,H1 p=none→Q (.ref p) (bu H1 p (.lst xs))
theorem aI {x1} (h:PA X es t):PE X (.Tuple es x1 pos) (bN t):=by
 intro pins s σ H Q I hq
 refine wpAny_Tuple_spliced (bO (h pos pins s σ H _ I hq) fun us s1 ⟨xs,H1,I1,r,z,q⟩=>⟨by rw[←r.length];exact z,?_⟩)
 have hf:H1 s1.heap.objs.size=none:=I1.hok.fresh (Nat.le_refl _)
 refine⟨.ref s1.heap.objs.size,bu H1 s1.heap.objs.size (.tup xs),I1.laid (t':=s1.toks) (fun b u e=>Heap.get?_push_of_some _ e) (Nat.le_refl _) ?_,rfl,q _ hf⟩
 exact⟨z,us,r,⟨_,Heap.get?_push_size _ rfl,rfl,_,rfl⟩⟩
theorem bT (h:PA X es t):PE X (.List es pos) (bV t):=by
 intro pins s σ H Q I hq
 refine wpAny_List_spliced (bO (h pos pins s σ H _ I hq) fun us s1 ⟨xs,H1,I1,r,z,q⟩=>⟨by rw[←r.length];exact z,?_⟩)
 have hf:H1 s1.heap.objs.size=none:=I1.hok.fresh (Nat.le_refl _)
 refine⟨.ref s1.heap.objs.size,bu H1 s1.heap.objs.size (.lst xs),I1.laid (t':=s1.toks) (fun b u e=>Heap.get?_push_of_some _ e) (Nat.le_refl _) ?_,rfl,q _ hf⟩
 exact⟨z,us,0,r,Heap.get?_push_size _ rfl⟩
end
abbrev Sp:=List V→Hp→VK→XK→Prop
abbrev CXT:=List Env→Hp→Shared→XK→Value→Shared→Prop
structure Env0 (P:Program) (w:World) (K:PySem.W.Frag) (mg:Str→Option Value) (base:Heap) (A:Around) (outer:List Env) (s:Shared) (H:Hp):Prop where
 frames:A.frames=some outer
 mod:Mod K mg base
 bs:∀b o,base.get? b=some o→s.heap.get? b=some o∧H b=none
 bsz:base.objs.size≤s.heap.objs.size
 funs:s.heap.FunFrames base outer
 frf:∀b∈frs outer,H b=none
 hok:HOk P w H s.heap
 bare:AllBare s.gens
def CE (outer:List Env) (P:Program) (w:World) (H:Hp) (s:Shared) (Q:VK) (u:Value) (s':Shared):Prop:=
 ∃v H',s'.os=s.os∧AllBare s'.gens∧Un (frs outer) [] H H' s.heap s'.heap∧HOk P w H' s'.heap∧RelV v u∧Q v H'
def CR (CX:CXT) (outer:List Env) (P:Program) (w:World) (H:Hp) (s:Shared) (Q:VK) (E:XK) (r:Result) (s':Shared):Prop:=
 match r with
 | .ok (.ret u)=>CE outer P w H s Q u s'
 | .ok _=>False
 | .error e=>CX outer H s E e s'
structure FnOk (P:Program) (w:World) (K:PySem.W.Frag) (mg:Str→Option Value) (base:Heap) (CX:CXT) (k:Nat) (f:Addr) (fd:FuncData) (ps:List Str) (sp:Sp):Prop where
 len:∀vs H Q E,sp vs H Q E→vs.length=ps.length
 run:∀(A:Around) (outer:List Env) (s:Shared) (H:Hp) (args:Args) (us:List Value) (vs:List V) (Q:VK) (E:XK),Room k A→Env0 P w K mg base A outer s H→BindsTo s fd args (ps.zip us)→Vals vs us→sp vs H Q E→
  codeAny (model P w) A (.call (.ref f) args) (CR CX outer P w H s Q E) s
theorem FnOk.imp {P:Program} {w:World} {K:PySem.W.Frag} {mg:Str→Option Value} {base:Heap} {CX:CXT} {k:Nat} {f:Addr} {fd:FuncData} {ps:List Str} {sp sp':Sp} (F:FnOk P w K mg base CX k f fd ps sp)
  (h:∀vs H Q E,sp' vs H Q E→sp vs H Q E):FnOk P w K mg base CX k f fd ps sp':=
 ⟨fun vs H Q E q=>F.len vs H Q E (h _ _ _ _ q),fun A outer s H args us vs Q E hr he hb hv hs=>F.run A outer s H args us vs Q E hr he hb hv (h _ _ _ _ hs)⟩
theorem Env0.make {P:Program} {w:World} {K:PySem.W.Frag} {mg:Str→Option Value} {base:Heap} {A:Around} {outer:List Env} {s:Shared} {H:Hp} (e:Env0 P w K mg base A outer s H) (C:Addr) (us:List Value) (kw:List (Str×Value)):
  Env0 P w K mg base (A.under (.builtin "type.__call__" ⟨.ref C::us,kw⟩)) outer s H:=⟨by first | exact e.frames | (simpa [Around.under,Code.envs,Code.isFrame,pushEnvs] using e.frames),e.mod,e.bs,e.bsz,e.funs,e.frf,e.hok,e.bare⟩
section
variable {X:Cx} {pins:List (Addr×Obj)} {σ:St} {H:Hp} {s s':Shared}
theorem Inv.env0 (I:Inv X pins σ H s):Env0 X.prog X.w X.K X.mg X.base X.A X.stack s H:=
 ⟨I.ok.frames,I.ok.mod,I.bs,Nat.le_trans I.ok.bsz I.sz,I.stack,I.stkFree,I.hok,I.bare⟩
theorem Inv.after {Q:VK} {u:Value} (I:Inv X pins σ H s) (h:CE X.stack X.prog X.w H s Q u s'):EP X pins σ Q u s':=by
 obtain⟨v,H',os,bare,un,hok,r,q⟩:=h
 obtain⟨hh,g,d,t,os'⟩:=s'
 obtain rfl:os'=s.os:=os
 exact⟨v,H',I.call (h':=hh) (g':=g) (d':=d) (t':=t) (ch:=[]) un hok bare (fun b z=>absurd z (by simp)),r,q⟩
end
def aU (sp:Sp) (dvs:List V) (E:XK) (t:TA):TE:=fun σ H Q=>t σ H fun vs H1=>sp (vs++dvs) H1 Q E
def Binds (K:PySem.W.Frag) (fd:FuncData) (ps:List Str) (ds:List Value):Prop:=
 ∀(s:Shared) (us:List Value),K.In s.heap→(us++ds).length=ps.length→BindsTo s fd ⟨us,[]⟩ (ps.zip (us++ds))
theorem Binds.all {K:PySem.W.Frag} {fd:FuncData} {ps:List Str} (h:∀us:List Value,us.length=ps.length→bindArgs fd ⟨us,[]⟩=pure (ps.zip us)):Binds K fd ps []:=fun s us _ hl=>by
 rw[List.append_nil]at hl ⊢
 exact .of_eq (h us hl)
def gA (CX:CXT) (X:Cx) (E:XK):Prop:=∀(pins:List (Addr×Obj)) (σ:St) (H:Hp) (s:Shared) (e:Value) (s':Shared),Inv X pins σ H s→CX X.stack H s E e s'→X.xe e s'
section
variable {X:Cx} {CX:CXT} {k:Nat} {f C:Addr} {fd:FuncData} {ps:List Str} {sp:Sp} {dvs:List V} {ds:List Value} {E:XK} {x m:Str} {p pos apos:Pos} {e o:Expr} {es:List Expr} {ta:TE} {t:TA}
theorem sC {pins:List (Addr×Obj)} {σ:St} {H:Hp} {s:Shared} {Q:VK} {us:List Value} {vs:List V} (F:FnOk X.prog X.w X.K X.mg X.base CX k f fd ps sp) (hr:Room k X.A) (hb:Binds X.K fd ps ds) (hd:Vals dvs ds) (hx:gA CX X E)
  (I:Inv X pins σ H s) (r:Vals vs us) (h:sp (vs++dvs) H Q E):wpAny (model X.prog X.w) X.A (call (.ref f) us) (EP X pins σ Q) X.xe s:=by
 have r2:Vals (vs++dvs) (us++ds):=r.append hd
 have hl:(us++ds).length=ps.length:=by rw[←r2.length];exact F.len _ _ _ _ h
 refine wpAny_call (codeAny_mono (F.run X.A X.stack s H ⟨us,[]⟩ (us++ds) (vs++dvs) Q E hr I.env0 (hb s us I.kIn hl) r2 h) fun r s' hq=>?_)
 cases r with
 | error e=>exact hx pins σ H s e s' I hq
 | ok fl =>
  cases fl with
  | ret u=>exact I.after hq
  | next=>exact False.elim hq
  | brk=>exact False.elim hq
  | cont=>exact False.elim hq
theorem lK (F:FnOk X.prog X.w X.K X.mg X.base CX k f fd ps sp) (hr:Room k X.A) (hg:Gl X x) (hm:X.mg x=some (.ref f)) (hk:PySem.W.keepIn X.K (.ref f)=true) (hb:Binds X.K fd ps ds) (hd:Vals dvs ds) (hx:gA CX X E)
  (ha:PA X (e::es) t) (hdb:(x == ("__debug__" :Str))=false:=by decide) (he:starEach (e::es) X.env=(false,eval e X.env)::starEach es X.env:=by rfl) (hpl:(backTo pos (starEach es X.env)).any (·.1)=false:=by rfl):
  PE X (.Call (.Name x p) (e::es) [] pos) (aU sp dvs E t):=by
 intro pins s σ H Q I h
 refine wpAny_Call_Name_kw (fh I hg hm ?_ hdb)
 refine PySem.W.callWith_K (h₀:=X.base) I.ok.mod.kin hk (bO (ha pos pins s σ H _ I h) fun us s1 ⟨vs,H1,I1,r,q⟩=>⟨I1.kIn,?_⟩) he hpl
 exact sC F hr hb hd hx I1 r q
end
structure FnScope (N P:List Str) (sc:Scope):Prop where
 kind:sc.kind=.function
 co:sc.isCoroutine=false
 gen:sc.isGenerator=false
 nd:N.Nodup
 pre:N.take P.length=P
 par:∀x∈P,sc.names.lookup x=some .local∨sc.names.lookup x=some .cell
 nofree:∀y∈sc.names,y.2≠.free
theorem ij {kindOf:Str→Option NameKind} {x:Str} :∀{binds:List (Str×Value)} {m:Str→Option Value},(∀v,(x,v)∉binds)→bindL kindOf binds m x=m x
 | [],_,_=>rfl
 | (n, v) :: r, m, h => by
  unfold bindL
  rw[ij fun w hw=>h w (List.mem_cons_of_mem _ hw)]
  split
  ·have:x≠n:=by rintro rfl;exact h v List.mem_cons_self
   simp[this]
  ·rfl
theorem ik {kindOf:Str→Option NameKind} {x:Str} :∀{binds:List (Str×Value)} {m:Str→Option Value},(∀v,(x,v)∉binds)→bindC kindOf binds m x=m x
 | [],_,_=>rfl
 | (n, v) :: r, m, h => by
  unfold bindC
  rw[ik fun w hw=>h w (List.mem_cons_of_mem _ hw)]
  split
  ·rfl
  ·have:x≠n:=by rintro rfl;exact h v List.mem_cons_self
   simp[this]
theorem il {kindOf:Str→Option NameKind} {x:Str} {v:Value} :∀{P:List Str} {vs:List Value} {i:Nat} {m:Str→Option Value},P.Nodup→P[i]? =some x→vs[i]? =some v→kindOf x=some .local→
  bindL kindOf (P.zip vs) m x=some v
 | [],_,_,_,_,h,_,_=>by simp at h
 | _::_,[],_,_,_,_,h,_=>by simp at h
 | p :: P, w :: vs, 0, m, nd, h1, h2, hk => by
  simp at h1 h2;subst h1;subst h2
  show bindL kindOf ((p,w)::P.zip vs) m p=_
  unfold bindL
  rw[ij fun v hv=>(List.nodup_cons.mp nd).1 (List.of_mem_zip hv).1,if_pos hk]
  simp
 | p :: P, w :: vs, i + 1, m, nd, h1, h2, hk => by
  show bindL kindOf ((p,w)::P.zip vs) m x=_
  unfold bindL
  exact il (i:=i) (List.nodup_cons.mp nd).2 (by simpa using h1) (by simpa using h2) hk
theorem im {kindOf:Str→Option NameKind} {x:Str} {v:Value} :∀{P:List Str} {vs:List Value} {i:Nat} {m:Str→Option Value},P.Nodup→P[i]? =some x→vs[i]? =some v→kindOf x≠some .local→
  bindC kindOf (P.zip vs) m x=some v
 | [],_,_,_,_,h,_,_=>by simp at h
 | _::_,[],_,_,_,_,h,_=>by simp at h
 | p :: P, w :: vs, 0, m, nd, h1, h2, hk => by
  simp at h1 h2;subst h1;subst h2
  show bindC kindOf ((p,w)::P.zip vs) m p=_
  unfold bindC
  rw[ik fun v hv=>(List.nodup_cons.mp nd).1 (List.of_mem_zip hv).1,if_neg hk]
  simp
 | p :: P, w :: vs, i + 1, m, nd, h1, h2, hk => by
  show bindC kindOf ((p,w)::P.zip vs) m x=_
  unfold bindC
  exact im (i:=i) (List.nodup_cons.mp nd).2 (by simpa using h1) (by simpa using h2) hk
def start (N:List Str) (vs:List V):St:=vs.map some++List.replicate (N.length- vs.length) none
def hW (CX:CXT) (P:Program) (w:World) (K:PySem.W.Frag) (mg:Str→Option Value) (base:Heap) (N:List Str) (qual:Str) (scope:Scope) (f:Addr) (cd:Value) (A:Around) (outer:List Env) (s:Shared) (H:Hp) (E:XK):Cx where
 prog:=P
 w:=w
 K:=K
 mg:=mg
 base:=base
 A:=A.deeper (envOfC qual scope s.heap.objs.size f cd)
 N:=N
 s₀:=s
 H₀:=H
 env:=envOfC qual scope s.heap.objs.size f cd
 outer:=outer
 stack:=envOfC qual scope s.heap.objs.size f cd::outer
 ex:=[]
 calm:=true
 fn:=fun _=>true
 pn:=[]
 xe:=fun e s'=>wpAny (model P w) (A.deeper (envOfC qual scope s.heap.objs.size f cd)) (leaving (envOfC qual scope s.heap.objs.size f cd) e) (fun _ s''=>CX outer H s E e s'') (fun e' s''=>CX outer H s E e' s'') s'
theorem jD {sc:Scope} {n:Nat} {x:Str} (h:sc.names.lookup x=some .cell):∃c,(cellsFrom n sc.names []).lookup x=some c:=by
 have q:=PySem.W.cellsFrom_some sc.names n [] (.inl h)
 exact Option.isSome_iff_exists.mp q
theorem io {CX:CXT} {P:Program} {w:World} {K:PySem.W.Frag} {mg:Str→Option Value} {base:Heap} {N ps:List Str} {qual:Str} {scope:Scope} {f:Addr} {cd:Value} {A:Around} {outer:List Env} {s s1:Shared} {H:Hp} {E:XK} {us:List Value} {vs:List V}
  (S:FnScope N ps scope) (hd:A.handled=none) (e0:Env0 P w K mg base A outer s H) (hl:vs.length=ps.length) (r:Vals vs us)
  (x:InCallC s s.heap.objs.size (bindL (envOfC qual scope s.heap.objs.size f cd).kindOf (ps.zip us) fun _=>none) (cellsFrom (s.heap.objs.size+1) scope.names []) (bindC (envOfC qual scope s.heap.objs.size f cd).kindOf (ps.zip us) fun _=>none) s1):
  Inv (hW CX P w K mg base N qual scope f cd A outer s H E) [] (start N vs) H s1:=by
 have hpl:ps.length≤N.length:=by have:=congrArg List.length S.pre;rw[List.length_take]at this;omega
 obtain⟨h1,tk,rfl,hk⟩:=x.done
 have noA:∀b:Addr,b∉(hW CX P w K mg base N qual scope f cd A outer s H E).ex:=fun b z=>absurd (show b∈([]:List Addr)from z) (by simp)
 refine⟨⟨e0.mod,S.kind,rfl,rfl,Nat.le_refl _,fun y z c h1 h2=>?_,fun y hy=>?_,fun y c _ h=>?_,fun _=>hd,Around.frames_deeper e0.frames,.inr ⟨rfl,rfl⟩,fun b z=>absurd z (noA b),e0.bs,e0.bsz,fun b _ _=>noA b,fun b z=>absurd z (noA b),e0.funs,e0.frf⟩,
  rfl,e0.bare,Un.kept hk,⟨_,x.toInCall.ns,fun i y v h1 h2 h3=>?_⟩,fun y c h=>⟨_,x.cell y c h⟩,e0.hok.fresh (Nat.le_refl _),fun y c h=>?_,fun p hp=>absurd (show p∈([]:List (Addr×Obj))from hp) (by simp),e0.hok.kept hk,?_⟩
 ·exact name_of_addr x.apart (PySem.mem_of_lookup h1) (PySem.mem_of_lookup h2)
 ·have hy:scope.names.lookup y=some .cell∨scope.names.lookup y=some .free:=hy
  rcases hy with hy | hy
  ·exact jD hy
  ·exact absurd rfl (S.nofree _ (PySem.mem_of_lookup hy))
 ·exact Nat.le_of_lt (x.above y c (PySem.mem_of_lookup h))
 ·have hi:i< vs.length:=by
   unfold start at h2
   by_cases hi:i< vs.length
   ·exact hi
   ·rw[List.getElem?_append_right (by simpa using hi)]at h2
    rw[List.getElem?_replicate]at h2
    split at h2 <;> cases h2
  have ha:vs[i]? =some v:=by
   unfold start at h2
   rw[List.getElem?_append_left (by simpa using hi),List.getElem?_map]at h2
   cases e:vs[i]? with
   | none=>rw[e]at h2;cases h2
   | some a=>rw[e]at h2;cases h2;rfl
  obtain⟨u,hu,rv⟩:=r.get ha
  have hp:ps[i]? =some y:=by
   rw[←S.pre,List.getElem?_take_of_lt (by omega)];exact h1
  have ndP:ps.Nodup:=by rw[←S.pre];exact S.nd.sublist (List.take_sublist _ _)
  refine⟨u,rv,?_⟩
  rcases S.par y (List.mem_of_getElem? hp)with k | k
  ·exact .inl ⟨k,il ndP hp hu k⟩
  ·obtain⟨c,e⟩:=jD (n:=s.heap.objs.size+1) k
   refine .inr ⟨.inl k,c,e,?_⟩
   have q:=x.cell y c e
   rw[im ndP hp hu (by show scope.names.lookup y≠_;rw[k];decide)]at q
   exact q
 ·exact e0.hok.fresh (Nat.le_of_lt (x.above y c (PySem.mem_of_lookup h)))
 ·unfold start
  show _=N.length
  rw[List.length_append,List.length_map,List.length_replicate]
  omega
theorem rQ {CX:CXT} {P:Program} {w:World} {K:PySem.W.Frag} {mg:Str→Option Value} {base:Heap} {k:Nat} {f:Addr} {name qual:Str} {params:Arguments} {body:List Stmt} {scope:Scope} {dV kV doc pm cdv ct oc:Value} {an od:Option Addr}
  {osl:Array (Option Value)} {N ps:List Str} {sp:Sp} (lk:K.lookup f=some ⟨oc,od,.func (PySem.W.fnOf name qual params body scope dV kV doc pm an cdv ct),osl⟩) (hcd:PySem.W.codeIn K cdv qual=true) (S:FnScope N ps scope)
  (len:∀vs H Q E,sp vs H Q E→vs.length=ps.length)
  (hbody:∀(A:Around) (outer:List Env) (s:Shared) (H:Hp) (vs:List V) (Q:VK) (E:XK),Room k (A.deeper (envOfC qual scope s.heap.objs.size f cdv))→sp vs H Q E→
   ∃t,PSs (hW CX P w K mg base N qual scope f cdv A outer s H E) body t∧t {nx:=fun _ H'=>Q .non H',rt:=Q} (start N vs) H):
  FnOk P w K mg base CX (k+1) f (PySem.W.fnOf name qual params body scope dV kV doc pm an cdv ct) ps sp:=by
 refine⟨len,fun A outer s H args us vs Q E hr e0 hb r hsp=>?_⟩
 have hl:=len _ _ _ _ hsp
 have KX:K.In s.heap:=e0.mod.kin.keeps fun b o e=>(e0.bs b o e).1
 have lim:s.heap.NoLimit:=e0.mod.nolimit.keeps fun b o e=>(e0.bs b o e).1
 have hkind:∀y∈ps.zip us,scope.names.lookup y.1=some .local∨(scope.names.lookup y.1=some .cell∧((cellsFrom (s.heap.objs.size+1) scope.names []).lookup y.1).isSome=true):=fun⟨n,v⟩ hy=>by
  rcases S.par n (List.of_mem_zip hy).1 with q | q
  ·exact .inl q
  ·exact .inr ⟨q,PySem.W.cellsFrom_some _ _ _ (.inl q)⟩
 refine codeAny_call_function hr.depth (KX _ _ lk) rfl S.co S.gen rfl (PySem.W.codeRec_of KX hcd) (hb _ _ _ _ ?_)
 refine wpAny_newFunctionEnv_cells S.kind hkind fun env he s1 x=>?_
 subst he
 refine⟨lim.keeps x.toInCall.keep,codeAny_func ?_⟩
 obtain⟨t,ht,hq⟩:=hbody A outer s H vs Q E (hr.deeper _) hsp
 have I:Inv (hW CX P w K mg base N qual scope f cdv A outer s H E) [] (start N vs) H s1:=io S hr.hd e0 hl r x
 refine wpAny_mono (ht [] s1 (start N vs) H _ I hq) (fun fl s' hs=>?_) fun e s' hs=>hs
 have fin:∀{σ':St} {H':Hp} {v:V} {u:Value},Inv (hW CX P w K mg base N qual scope f cdv A outer s H E) [] σ' H' s'→RelV v u→Q v H'→CE outer P w H s Q u s':=
  fun {σ' H' v u} J rv q=>⟨v,H',J.os,J.bare,J.base,J.hok,rv,q⟩
 cases fl with
 | ret u =>
  obtain⟨v,σ',H',J,rv,q⟩:=hs
  exact fin J rv q
 | next =>
  obtain⟨σ',H',J,q⟩:=hs
  exact fin (v:=V.non) (u:=Value.none) J rfl q
 | brk =>
  obtain⟨_,_,_,q⟩:=hs
  exact False.elim q
 | cont =>
  obtain⟨_,_,_,q⟩:=hs
  exact False.elim q
end L2
namespace L2
open PySem PySem.Spec PyProof.Rows
section
variable {X:Cx} {x:Str} {p pos:Pos} {e:Expr} {es:List Expr} {t:TA} {id T:String} {r:List V→Hp→VK→Prop}
def db (r:List V→Hp→VK→Prop) (t:TA):TE:=fun σ H Q=>t σ H fun vs H1=>r vs H1 Q
theorem ai (hc:dh X (.builtin id) r) (hg:Gl X x) (hm:X.mg x=none) (hv:bootBuiltins x=some (.builtin id)) (ha:PA X (e::es) t) (hn:x≠"__name__" :=by decide) (hdb:(x == ("__debug__" :Str))=false:=by decide)
  (he:starEach (e::es) X.env=(false,eval e X.env)::starEach es X.env:=by rfl) (hpl:(backTo pos (starEach es X.env)).any (·.1)=false:=by rfl):PE X (.Call (.Name x p) (e::es) [] pos) (db r t):=by
 intro pins s σ H Q I h
 refine wpAny_Call_Name_kw (eL I hg hm hv ?_ hn hdb)
 exact PyProof.Rows.callWith_builtin1 (bO (ha pos pins s σ H _ I h) fun us s1 ⟨vs,H1,I1,r1,q1⟩=>hc pins s1 σ H1 vs us Q I1 r1 q1) he hpl
theorem ip (hc:dh X (.type T) r) (hg:Gl X x) (hm:X.mg x=none) (hv:bootBuiltins x=some (.type T)) (ha:PA X (e::es) t) (hn:x≠"__name__" :=by decide) (hdb:(x == ("__debug__" :Str))=false:=by decide)
  (he:starEach (e::es) X.env=(false,eval e X.env)::starEach es X.env:=by rfl) (hpl:(backTo pos (starEach es X.env)).any (·.1)=false:=by rfl):PE X (.Call (.Name x p) (e::es) [] pos) (db r t):=by
 intro pins s σ H Q I h
 refine wpAny_Call_Name_kw (eL I hg hm hv ?_ hn hdb)
 exact PyProof.Rows.callWith_type1 (bO (ha pos pins s σ H _ I h) fun us s1 ⟨vs,H1,I1,r1,q1⟩=>hc pins s1 σ H1 vs us Q I1 r1 q1) he hpl
end
end L2
namespace HT
open PySem PyProof.Rows
section
open PySem.SeqAt
open PySem.AutoSeq1 (wpAny_loadPart')
open PySem.MeetsSeq PySem.MeetsSeq2 PySem.MeetsSeq3
end
section
variable {prog:Program} {w:World} {A:Around} {E:Value→Shared→Prop} {s:Shared}
def sIx (n d:Nat):Option Int→Nat
 | none=>d
 | some v=>if v< 0 then(v+(n:Int)).toNat else min v.toNat n
theorem sIx_le (n d:Nat) (hd:d≤n) (o:Option Int):sIx n d o≤n:=by
 cases o with
 | none=>exact hd
 | some v =>
  show(if v< 0 then(v+(n:Int)).toNat else min v.toNat n)≤n
  by_cases hv:v< 0
  ·rw[if_pos hv];omega
  ·rw[if_neg hv];exact Nat.min_le_right _ _
end
end HT
namespace L2
open PySem PySem.Spec PyProof.Rows
abbrev TO:=St→Hp→(Option Int→Hp→Prop)→Prop
def PO (X:Cx) (e:Option Expr) (t:TO):Prop:=
 ∀ (pins : List (Addr × Obj)) (s : Shared) (σ : St) (H : Hp) (Q : Option Int → Hp → Prop), Inv X pins σ H s → t σ H Q →
  wpAny (model X.prog X.w) X.A (evalPart e X.env) (fun u s'=>∃o H',Inv X pins σ H' s'∧IsPart u o∧Q o H') X.xe s
def aJ:TO:=fun _ H Q=>Q none H
def br (t:TE):TO:=fun σ H Q=>t σ H fun x H1=>∃i,x=.int i∧Q (some i) H1
theorem gB {ns:List Int} :∀{us:List Value},Vals (ns.map V.int) us→IntsAre us ns:=by
 induction ns with
 | nil=>intro us r;rw[List.map_nil]at r;cases r;exact .nil
 | cons n ns ih =>
  intro us r
  rw[List.map_cons]at r
  cases r with
  | cons r1 r2 =>
   obtain⟨t,e⟩:=r1
   subst e
   exact .cons n t (ih r2)
section
variable {X:Cx} {e:Expr} {te:TE} {lo hi:Option Expr} {tl th:TO} {pos p2:Pos}
theorem cC:PO X none aJ:=by
 intro pins s σ H Q I h
 rw[evalPart_none]
 exact wpAny_pure ⟨none,H,I,.none,h⟩
theorem cD (h:PE X e te):PO X (some e) (br te):=by
 intro pins s σ H Q I hw
 rw[evalPart_some]
 refine bO (h pins s σ H _ I hw) fun u s1 ⟨x,H1,I1,r1,q1⟩=>?_
 obtain⟨i,rfl,q⟩:=q1
 obtain⟨t,rfl⟩:=r1
 exact⟨some i,H1,I1,.int i t,q⟩
def uX (X:Cx) (r:V→Option Int→Option Int→Hp→VK→Prop):Prop:=
 ∀ (pins : List (Addr × Obj)) (s : Shared) (σ : St) (H : Hp) (x : V) (v vl vu : Value) (lo hi : Option Int) (sl : Addr) (Q : VK), Inv X pins σ H s → RelV x v → s.heap.IsSliceOf sl vl vu .none → IsPart vl lo → IsPart vu hi → r x lo hi H Q →
  ∃T id,typeLookup (.type T) "__getitem__" =pure (some (.builtin id))∧s.TypeIs v T∧wpAny (model X.prog X.w) X.A (getItem v (.ref sl)) (EP X pins σ Q) X.xe s
def dY (r:V→Option Int→Option Int→Hp→VK→Prop) (te:TE) (tl th:TO):TE:=fun σ H Q=>te σ H fun x H1=>tl σ H1 fun l H2=>th σ H2 fun u H3=>r x l u H3 Q
theorem bW {r:V→Option Int→Option Int→Hp→VK→Prop} (hr:uX X r) (he:PE X e te) (hl:PO X lo tl) (hu:PO X hi th):PE X (.Subscript e (.Slice lo hi none p2) pos) (dY r te tl th):=by
 intro pins s σ H Q I h
 refine Subscript_ (bO (he pins s σ H _ I h) fun v s1 ⟨x,H1,I1,r1,q1⟩=>?_)
 refine wpAny_Slice (bO (hl pins s1 σ H1 _ I1 q1) fun vl s2 ⟨l,H2,I2,pl,q2⟩=>bO (hu pins s2 σ H2 _ I2 q2) fun vu s3 ⟨u,H3,I3,pu,q3⟩=>?_)
 rw[evalPart_none]
 refine wpAny_pure ?_
 have I4:Inv X pins σ H3 {s3 with heap:=s3.heap.push {cls:=.type "slice",data:=.fields #[vl,vu,.none]}} :=I3.kept (t':=s3.toks) fun b ob q=>Heap.get?_push_of_some _ q
 obtain⟨T,id,hT,ht,hg⟩:=hr pins {s3 with heap:=s3.heap.push {cls:=.type "slice",data:=.fields #[vl,vu,.none]}} σ H3 x v vl vu l u s3.heap.objs.size Q I4 r1 (Heap.IsSliceOf.new ..) pl pu q3
 show wpAny (model X.prog X.w) X.A (subscriptTail e (.Slice lo hi none p2) v (.ref s3.heap.objs.size)) (EP X pins σ Q) X.xe {s3 with heap:=s3.heap.push {cls:=.type "slice",data:=.fields #[vl,vu,.none]}}
 exact tail_any (ops:=[.ref s3.heap.objs.size,v]) ht hT hg (by with_unfolding_all rfl)
def kX (xs:List V) (lo hi:Option Int):List V:=(xs.drop (HT.sIx xs.length 0 lo)).take (HT.sIx xs.length xs.length hi- HT.sIx xs.length 0 lo)
theorem jE (xs:List V) (lo hi:Option Int):(kX xs lo hi).length≤xs.length:=by
 unfold kX
 rw[List.length_take,List.length_drop]
 omega
end
end L2
namespace L2
open PySem PySem.Spec PyProof.Rows
def ixN (n:Nat) (i:Int):Option Nat:=if 0≤i then(if i< n then some i.toNat else none)else if -(n:Int)≤i then some (i+n).toNat else none
def atI {α:Type} (xs:List α) (i:Int):Option α:=(ixN xs.length i).bind fun j=>xs[j]?
theorem qm {n:Nat} {i:Int} {j:Nat} (h:ixN n i=some j):seqIndex? i n=some j∧j< n∧ -(n:Int)≤i∧i< n:=by
 unfold ixN at h
 by_cases h0:0≤i
 ·rw[if_pos h0]at h
  by_cases h1:i< n
  ·rw[if_pos h1]at h
   have e:i.toNat=j:=Option.some.inj h
   exact⟨by rw[seqIndex_of h0 h1,e],by omega,by omega,h1⟩
  ·rw[if_neg h1]at h;cases h
 ·rw[if_neg h0]at h
  by_cases h1: -(n:Int)≤i
  ·rw[if_pos h1]at h
   have e:(i+n).toNat=j:=Option.some.inj h
   exact⟨by rw[seqIndex_neg (by omega) h1,e],by omega,h1,by omega⟩
  ·rw[if_neg h1]at h;cases h
theorem iX {α:Type} {xs:List α} {i:Int} {v:α} (h:atI xs i=some v):∃j,seqIndex? i xs.length=some j∧xs[j]? =some v∧j< xs.length∧ -(xs.length:Int)≤i∧i< xs.length:=by
 unfold atI at h
 cases e:ixN xs.length i with
 | none=>rw[e]at h;cases h
 | some j =>
  rw[e]at h
  obtain⟨h1,h2,h3,h4⟩:=qm e
  exact⟨j,h1,h,h2,h3,h4⟩
def qo (b:Expr):Prop:=∀o i,subscripted b false o i=operate [o,i] (getItem o i)
def tH (X:Cx) (r:R2):Prop:=
 ∀ (value slice : Expr) (pins : List (Addr × Obj)) (s : Shared) (σ : St) (H : Hp) (x y : V) (v u : Value) (Q : VK), Inv X pins σ H s → RelV x v → RelV y u → r x y H Q →
  subscripted slice false v u=operate [v,u] (getItem v u)→wpAny (model X.prog X.w) X.A (subscriptTail value slice v u) (EP X pins σ Q) X.xe s
def u5 (X:Cx) (id:String) (r:V→List V→Hp→VK→Prop):Prop:=
 ∀ (pins : List (Addr × Obj)) (s : Shared) (σ : St) (H : Hp) (x : V) (xs : List V) (v : Value) (us : List Value) (Q : VK), Inv X pins σ H s → RelV x v → Vals xs us → r x xs H Q →
  wpAny (model X.prog X.w) X.A (call (.builtin id) (v::us)) (EP X pins σ Q) X.xe s
section
variable {X:Cx} {a b:Expr} {ta tb:TE} {pos:Pos}
theorem au {r:R2} (hr:tH X r) (ha:PE X a ta) (hb:PE X b tb) (hs:qo b):PE X (.Subscript a b pos) (cB r ta tb):=by
 intro pins s σ H Q I h
 exact Subscript_ (sy ha hb I h fun v u s2 x y H2 I2 rx ry q=>hr a b pins s2 σ H2 x y v u Q I2 rx ry q (hs _ _))
def bU (K:PySem.W.Frag):R2:=fun x y H Q=>∃p xs i v,x=.ref p∧y=.int i∧SqL K H p xs∧atI xs i=some v∧Q v H
def bQ (K:PySem.W.Frag):R2:=fun x y H Q=>∃p xs i v,x=.ref p∧y=.int i∧SqT K H p xs∧atI xs i=some v∧Q v H
def cg:R2:=fun x y H Q=>∃z i c,x=.str z∧y=.int i∧z.length≤sizeLine∧atI z.cps.toList i=some c∧Q (.str ⟨#[c]⟩) H
theorem qp:tH X (bU X.K):=by
 intro value slice pins s σ H x y v u Q I rx ry h hs
 obtain⟨p,xs,i,z,rfl,rfl,hq,he,q⟩:=h
 cases rx
 obtain⟨t,rfl⟩:=ry
 obtain⟨its,r,pl,hz⟩:=I.list hq
 obtain⟨j,h1,h2,h3,h4,h5⟩:=iX he
 obtain⟨w,ew,rw'⟩:=r.get h2
 have hl:=r.length
 have hn:=iW
 have fin:EP X pins σ Q w s:=⟨z,H,I,rw',q⟩
 by_cases h0:0≤i
 ·have hj:i.toNat=j:=by
   rw[seqIndex_of h0 h5]at h1
   exact Option.some.inj h1
  exact item_listR pl.isList h0 (by omega) (by rw[hj];simpa using ew) fin hs
 ·have hj:(i+(its.toArray.size:Int)).toNat=j:=by
   rw[seqIndex_neg (by omega) h4]at h1
   rw[List.size_toArray,←hl]
   exact Option.some.inj h1
  exact subscriptTail_builtinR (x:=w) pl.isList.typeIs slot_list_getitem.lookup
   (wpAny_getItem_list_neg (Q:=fun r s'=>r=w∧EP X pins σ Q r s') pl.isList (by omega) (by rw[List.size_toArray] <;> omega) (by omega) (by rw[hj];simpa using ew) ⟨rfl,fin⟩) hs
theorem sD:tH X (bQ X.K):=by
 intro value slice pins s σ H x y v u Q I rx ry h hs
 obtain⟨p,xs,i,z,rfl,rfl,hq,he,q⟩:=h
 cases rx
 obtain⟨t,rfl⟩:=ry
 obtain⟨its,r,pl,hz⟩:=I.tuple hq
 obtain⟨j,h1,h2,h3,h4,h5⟩:=iX he
 obtain⟨w,ew,rw'⟩:=r.get h2
 have hl:=r.length
 have hn:=iW
 have fin:EP X pins σ Q w s:=⟨z,H,I,rw',q⟩
 exact subscriptTail_builtinR (x:=w) pl.typeIs slot_tuple_getitem.lookup
  (getItem_tuple (j:=j) (Q:=fun r s'=>r=w∧EP X pins σ Q r s') pl (by omega) (by omega) (by rw[List.size_toArray,←hl];exact h1) (by simpa using ew) ⟨rfl,fin⟩) hs
theorem bC:tH X cg:=by
 intro value slice pins s σ H x y v u Q I rx ry h hs
 obtain⟨z,i,c,rfl,rfl,hz,he,q⟩:=h
 obtain⟨t,rfl⟩:=rx
 obtain⟨t',rfl⟩:=ry
 obtain⟨j,h1,h2,h3,h4,h5⟩:=iX he
 have hl:z.cps.toList.length=z.length:=by simp[Str.length]
 rw[hl]at h1 h4 h5
 have hn:=iW
 exact tail_any (typeIs_str s z t) slot_str_getitem.lookup (getItem_str (c:=c) (by
  have e1:decide (i< -(2^63:Int))=false:=decide_eq_false (by omega)
  have e2:decide (i≥2^63)=false:=decide_eq_false (by omega)
  rw[e1,e2,Bool.or_false]) (by rw[h1];simpa using h2) ⟨.str ⟨#[c]⟩,H,I.tok _,⟨_,rfl⟩,q⟩) hs
theorem iY (lo hi:Option Int) (n:Nat):(sliceBounds lo hi none n).1=((HT.sIx n 0 lo:Nat):Int)∧(sliceBounds lo hi none n).2.1=((HT.sIx n n hi:Nat):Int)∧(sliceBounds lo hi none n).2.2=1:=by
 refine⟨?_,?_,rfl⟩
 ·cases lo with
  | none=>simp[sliceBounds,HT.sIx]
  | some i =>
   simp only[sliceBounds,HT.sIx,Option.getD_none,show(1:Int)> 0 by decide,if_true]
   by_cases h:i< 0
   ·simp only[h,if_true] <;> omega
   ·simp only[h,if_false] <;> omega
 ·cases hi with
  | none=>simp[sliceBounds,HT.sIx]
  | some i =>
   simp only[sliceBounds,HT.sIx,Option.getD_none,show(1:Int)> 0 by decide,if_true]
   by_cases h:i< 0
   ·simp only[h,if_true] <;> omega
   ·simp only[h,if_false] <;> omega
theorem hX (its:List Value) (lo hi:Option Int):slicePick its.toArray lo hi none=((its.drop (HT.sIx its.length 0 lo)).take (HT.sIx its.length its.length hi- HT.sIx its.length 0 lo)).toArray:=by
 obtain⟨h1,h2,h3⟩:=iY lo hi its.toArray.size
 unfold slicePick
 rw[h1,h2,h3]
 simp only[sliceRange_one,pick_run,List.size_toArray] <;> rfl
def bX (K:PySem.W.Frag):V→Option Int→Option Int→Hp→VK→Prop:=fun x lo hi H Q=>∃a xs,x=.ref a∧SqL K H a xs∧∀p,H p=none→Q (.ref p) (bu H p (.lst (kX xs lo hi)))
theorem qq:uX X (bX X.K):=by
 intro pins s σ H x v vl vu lo hi sl Q I rx hs pl pu h
 obtain⟨a,xs,rfl,hx,q⟩:=h
 cases rx
 obtain⟨its,r,ht,hz⟩:=I.list hx
 have hlen:=r.length
 refine⟨"list",_,slot_list_getitem.lookup,ht.isList.typeIs,?_⟩
 refine wpAny_getItem_list_slice ht.isList hs pl pu .none (by simp) ?_ (by rw[List.size_toArray] <;> omega)
 rw[hX,←hlen]
 refine⟨.ref s.heap.objs.size,_,I.laid (t':=s.toks) (o:=.lst (kX xs lo hi)) (fun b ob q=>Heap.get?_push_of_some _ q) (Nat.le_refl _) ?_,rfl,q _ (I.hok.fresh (Nat.le_refl _))⟩
 exact⟨Nat.le_trans (jE xs lo hi) hz,_,0,(r.drop (HT.sIx xs.length 0 lo)).take (HT.sIx xs.length xs.length hi- HT.sIx xs.length 0 lo),Heap.get?_push_size _ rfl⟩
def flatV:V→Bool
 | .non=>true
 | .bl _=>true
 | .int _=>true
 | .str _=>true
 | _=>false
def eqV:V→V→Bool
 | .non,.non=>true
 | .bl a,.bl b=>a == b
 | .bl a,.int b=>(if a then 1 else 0) == b
 | .int a,.bl b=>a == (if b then 1 else 0)
 | .int a,.int b=>a == b
 | .str a,.str b=>a == b
 | _,_=>false
theorem sE {A:Around} {s:Shared} {y x:V} {u v:Value} (ry:RelV y u) (rx:RelV x v) (fy:flatV y=true) (fx:flatV x=true):SeqAt.EqAt A s u v (eqV y x):=by
 cases y with
 | non =>
  cases ry
  cases x with
  | non=>cases rx;exact SeqAt.EqAt.same _
  | bl b=>cases rx;exact SeqAt.EqAt.none_bool b
  | int b=>obtain⟨t,rfl⟩:=rx;exact SeqAt.EqAt.none_int b t
  | str b=>obtain⟨t,rfl⟩:=rx;exact SeqAt.EqAt.none_str b t
  | _=>exact absurd (show false=true from fx) Bool.false_ne_true
 | bl a =>
  cases ry
  cases x with
  | non=>cases rx;exact SeqAt.EqAt.bool_none a
  | bl b=>cases rx;exact SeqAt.EqAt.bool_bool a b
  | int b=>obtain⟨t,rfl⟩:=rx;exact SeqAt.EqAt.bool_int a b t
  | str b=>obtain⟨t,rfl⟩:=rx;exact SeqAt.EqAt.bool_str a b t
  | _=>exact absurd (show false=true from fx) Bool.false_ne_true
 | int a =>
  obtain⟨t',rfl⟩:=ry
  cases x with
  | non=>cases rx;exact SeqAt.EqAt.int_none a t'
  | bl b=>cases rx;exact SeqAt.EqAt.int_bool a t' b
  | int b=>obtain⟨t,rfl⟩:=rx;exact SeqAt.EqAt.int_int a t' b t
  | str b=>obtain⟨t,rfl⟩:=rx;exact SeqAt.EqAt.int_str a t' b t
  | _=>exact absurd (show false=true from fx) Bool.false_ne_true
 | str a =>
  obtain⟨t',rfl⟩:=ry
  cases x with
  | non=>cases rx;exact SeqAt.EqAt.str_none a t'
  | bl b=>cases rx;exact SeqAt.EqAt.str_bool a t' b
  | int b=>obtain⟨t,rfl⟩:=rx;exact SeqAt.EqAt.str_int a t' b t
  | str b=>obtain⟨t,rfl⟩:=rx;exact SeqAt.EqAt.str_str a t' b t
  | _=>exact absurd (show false=true from fx) Bool.false_ne_true
 | _=>exact absurd (show false=true from fy) Bool.false_ne_true
def kY (x:V) (u:Value):Bool:=match u with
 | .none=>eqV .non x
 | .bool b=>eqV (.bl b) x
 | .int i _=>eqV (.int i) x
 | .str z _=>eqV (.str z) x
 | _=>false
theorem nX {x y:V} {u:Value} (r:RelV y u) (f:flatV y=true):kY x u=eqV y x:=by
 cases y with
 | non=>cases r;rfl
 | bl b=>cases r;rfl
 | int i=>obtain⟨t,rfl⟩:=r;rfl
 | str z=>obtain⟨t,rfl⟩:=r;rfl
 | _=>exact absurd (show false=true from f) Bool.false_ne_true
theorem fm {x:V} :∀{xs:List V} {us:List Value},Vals xs us→xs.all flatV=true→us.any (kY x)=xs.any fun y=>eqV y x
 | _,_,.nil,_=>rfl
 | y :: xs, u :: us, .cons r t, f => by
  rw[List.all_cons,Bool.and_eq_true]at f
  rw[List.any_cons,List.any_cons,nX r f.1,fm t f.2]
theorem eM {A:Around} {s:Shared} {x:V} {v:Value} (rx:RelV x v) (fx:flatV x=true):∀{xs:List V} {us:List Value},Vals xs us→xs.all flatV=true→∀u∈us,SeqAt.EqAt A s u v (kY x u)
 | _,_,.nil,_=>fun u hu=>by cases hu
 | y :: xs, u :: us, .cons r t, f => fun u' hu => by
  rw[List.all_cons,Bool.and_eq_true]at f
  rcases List.mem_cons.mp hu with rfl | hu
  ·rw[nX r f.1];exact sE r rx f.1 fx
  ·exact eM rx fx t f.2 u' hu
def tI (x:V) (xs:List V):Bool:=xs.any fun y=>eqV y x
def dN (K:PySem.W.Frag) (neg:Bool):R2:=fun x y H Q=>∃p xs,y=.ref p∧(SqL K H p xs∨SqT K H p xs)∧flatV x=true∧xs.all flatV=true∧Q (.bl (if neg then !tI x xs else tI x xs)) H
theorem mE:OpR X (compareOp .In) (dN X.K false):=by
 intro pins s σ H x y v u Q I rx ry h
 obtain⟨p,xs,rfl,hq,fx,fs,q⟩:=h
 cases ry
 rcases hq with hq | hq
 ·obtain⟨its,r,pl,hz⟩:=I.list hq
  refine SeqAt.in_listAt (kY x) pl.isList (fun w hw=>eM rx fx r fs w (by simpa using hw)) ⟨.bl _,H,I,rfl,?_⟩
  rw[show its.toArray.any (kY x)=its.any (kY x) by simp,fm r fs]
  exact q
 ·obtain⟨its,r,pl,hz⟩:=I.tuple hq
  refine SeqAt.in_tupleAt (kY x) pl (fun w hw=>eM rx fx r fs w (by simpa using hw)) ⟨.bl _,H,I,rfl,?_⟩
  rw[show its.toArray.any (kY x)=its.any (kY x) by simp,fm r fs]
  exact q
theorem iZ:OpR X (compareOp .NotIn) (dN X.K true):=by
 intro pins s σ H x y v u Q I rx ry h
 obtain⟨p,xs,rfl,hq,fx,fs,q⟩:=h
 cases ry
 rcases hq with hq | hq
 ·obtain⟨its,r,pl,hz⟩:=I.list hq
  refine SeqAt.notIn_listAt (kY x) pl.isList (fun w hw=>eM rx fx r fs w (by simpa using hw)) ⟨.bl _,H,I,rfl,?_⟩
  rw[show its.toArray.any (kY x)=its.any (kY x) by simp,fm r fs]
  exact q
 ·obtain⟨its,r,pl,hz⟩:=I.tuple hq
  refine SeqAt.notIn_tupleAt (kY x) pl (fun w hw=>eM rx fx r fs w (by simpa using hw)) ⟨.bl _,H,I,rfl,?_⟩
  rw[show its.toArray.any (kY x)=its.any (kY x) by simp,fm r fs]
  exact q
theorem j0:dh X (.type "list") (fun xs H Q=>∃p ys,xs=[.ref p]∧(SqL X.K H p ys∨SqT X.K H p ys)∧∀l,H l=none→Q (.ref l) (bu H l (.lst ys))):=by
 intro pins s σ H xs us Q I r h
 obtain⟨p,ys,rfl,hq,q⟩:=h
 obtain⟨u,rfl,rx⟩:=fk r
 cases rx
 have fin:∀(its:List Value),Vals ys its→ys.length≤sizeLine→∀(h':Heap) (c':Nat),(∀b o',s.heap.get? b=some o'→h'.get? b=some o')→
   h'.get? s.heap.objs.size=some {cls:=.type "list",dict:=none,data:=.seq its.toArray c',slots:= #[]}→EP X pins σ Q (.ref s.heap.objs.size) {s with heap:=h'} :=fun its r' hz h' c' kp e=>
  ⟨.ref s.heap.objs.size,_,I.laid (t':=s.toks) kp (Nat.le_refl _) (show ObjOk X.prog X.w _ h' _ (.lst ys)from⟨hz,its,c',r',e⟩),rfl,q _ (I.hok.fresh (Nat.le_refl _))⟩
 rcases hq with hq | hq
 ·obtain⟨its,r',pl,hz⟩:=I.list hq
  have hlen:=r'.length
  obtain⟨o,ho,hc,n,hd⟩:=pl.isList
  exact call_list_seq p (.inl rfl) ho hc hd (fun h' c' kp e=>fin its r' hz h' c' kp e) (by simp only[List.size_toArray] <;> omega)
 ·obtain⟨its,r',pl,hz⟩:=I.tuple hq
  have hlen:=r'.length
  obtain⟨o,ho,hc,n,hd⟩:=pl
  exact call_list_seq p (.inr rfl) ho hc hd (fun h' c' kp e=>fin its r' hz h' c' kp e) (by simp only[List.size_toArray] <;> omega)
def vP (K:PySem.W.Frag) (T:String) (x:V) (H:Hp):Prop:=match x with
 | .str _=>T="str"
 | .int _=>T="int"
 | .ref p=>(T="list" ∧∃xs,SqL K H p xs)∨(T="tuple" ∧∃o,K.lookup p=some o∧o.cls=.type "tuple" ∧o.dict=none)∨
   (T="dict" ∧((∃kvs,H p=some (.dK kvs))∨∃kvs,H p=some (.dT kvs)))∨(T="set" ∧∃S n,H p=some (.set S n))
 | _=>False
theorem sF {pins:List (Addr×Obj)} {σ:St} {H:Hp} {s:Shared} {T:String} {x:V} {v:Value} (I:Inv X pins σ H s) (r:RelV x v) (ty:vP X.K T x H):
  s.TypeIs v T∧∀a,v=.ref a→∃ob,s.heap.get? a=some ob∧ob.dict=none:=by
 cases x with
 | str z =>
  obtain⟨t,rfl⟩:=r
  cases (show T="str" from ty)
  exact⟨typeIs_str s z t,fun _ e=>nomatch e⟩
 | int i =>
  obtain⟨t,rfl⟩:=r
  cases (show T="int" from ty)
  exact⟨typeIs_int s i t,fun _ e=>nomatch e⟩
 | ref p =>
  cases r
  rcases ty with⟨rfl,xs,hq⟩ | ⟨rfl,o,hk,hc,hd⟩ | ⟨rfl,hk⟩ | ⟨rfl,S,n,hk⟩
  ·obtain⟨its,_,pl,_⟩:=I.list hq
   refine⟨pl.isList.typeIs,fun a e=>?_⟩
   cases e
   obtain⟨o,n,e,c,hd,_⟩:=pl
   exact⟨o,e,hd⟩
  ·refine⟨⟨o,I.kIn p o hk,hc⟩,fun a e=>?_⟩
   cases e
   exact⟨o,I.kIn _ o hk,hd⟩
  ·have z:∃o,s.heap.get? p=some o∧o.ExactDict:=by
    rcases hk with⟨kvs,hk⟩ | ⟨kvs,hk⟩
    ·obtain⟨_,_,_,_,o,_,_,e,ex,_⟩:=I.hok p _ hk
     exact⟨o,e,ex⟩
    ·obtain⟨_,_,_,_,o,_,_,e,ex,_⟩:=I.hok p _ hk
     exact⟨o,e,ex⟩
   obtain⟨o,e,ex⟩:=z
   refine⟨⟨o,e,ex.1⟩,fun a e2=>?_⟩
   cases e2
   exact⟨o,e,ex.2.1⟩
  ·obtain⟨o,_,_,_,e,ex,_⟩:=I.hok p _ hk
   refine⟨⟨o,e,ex.1⟩,fun a e2=>?_⟩
   cases e2
   exact⟨o,e,ex.2.1⟩
 | _=>exact False.elim ty
def dC (K:PySem.W.Frag) (T:String) (r:V→List V→Hp→VK→Prop) (to:TE) (t:TA):TE:=fun σ H Q=>to σ H fun x H1=>vP K T x H1∧t σ H1 fun xs H2=>r x xs H2 Q
variable {o e:Expr} {es:List Expr} {to:TE} {t:TA} {name:Str} {apos cpos:Pos} {T id:String} {r:V→List V→Hp→VK→Prop}
theorem u6 (pa:PlainAttrs T) (slot:Slot T name id) (hty:typeOf (.builtin id)=pure (.type "method_descriptor")) (hm:u5 X id r) (ho:PE X o to) (ha:PA X (e::es) t)
  (hbase:attributeBase o name X.env (eval o X.env)=eval o X.env:=by rfl)
  (hfew:((backTo cpos (starEach (e::es) X.env)).all (fun x=> !x.1) && (backToKw cpos (keywordEach [] X.env)).all (fun x=>x.1.isSome)
   && decide ((e::es).length+([]:List Keyword).length+(if([]:List Keyword).isEmpty then 0 else 1)< 30))=true:=by rfl)
  (hline:(apos.endLine == cpos.line)=true:=by rfl) (hs:starEach (e::es) X.env=(false,eval e X.env)::starEach es X.env:=by rfl) (hplain:(backTo cpos (starEach es X.env)).any (·.1)=false:=by rfl):
  PE X (.Call (.Attribute o name apos) (e::es) [] cpos) (dC X.K T r to t):=by
 intro pins s σ H Q I h
 refine wpAny_Call_method_late hbase hfew hline rfl (bO (ho pins s σ H _ I h) fun v s1 ⟨x,H1,I1,r1,ty,q1⟩=>?_)
 obtain⟨h1,h2⟩:=sF I1 r1 ty
 refine⟨T,id,pa,slot,hty,h1,h2,?_⟩
 have hA:=ha cpos pins s1 σ H1 _ I1 q1
 rw[hs]at hA ⊢
 refine Calls.callWith_builtin (by show(false || (backTo cpos (starEach es X.env)).any (·.1))=false;rw[hplain] <;> rfl) (Calls.evalArgs_plain ?_)
 exact bO hA fun us s2 ⟨vs,H2,I2,r2,q2⟩=>hm pins s2 σ H2 x vs v us Q I2 r1 r2 q2
end
end L2
namespace L2
open PySem PySem.Spec PyProof.Rows
def wt (X:Cx) (id:String) (r:V→List V→Hp→VK→Prop):Prop:=
 ∀ (pins : List (Addr × Obj)) (s : Shared) (σ : St) (H : Hp) (x : V) (xs : List V) (v : Value) (us : List Value) (Q : VK), Inv X pins σ H s → RelV x v → Vals xs us → r x xs H Q →
  wpAny (model X.prog X.w) X.A (call (.builtin id) (v::us)) (EP X pins σ Q) X.xe s
theorem Vals.one:∀{x:V} {us:List Value},Vals [x] us→∃u,us=[u]∧RelV x u
 | _,_,.cons r .nil=>⟨_,rfl,r⟩
section
variable {X:Cx} {pins:List (Addr×Obj)} {σ:St} {H:Hp} {s:Shared} {l b:Addr} {xs ys zs:List V}
theorem Inv.lset {its its':List Value} {n:Nat} {f:Array Value→Array Value} {t':Nat} (I:Inv X pins σ H s) (hH:H l=some (.lst xs))
  (e:s.heap.get? l=some {cls:=.type "list",data:=.seq its.toArray n}) (hf:f its.toArray=its'.toArray) (hv:Vals ys its') (hz:ys.length≤sizeLine):
  Inv X pins σ (bu H l (.lst ys)) {s with heap:=s.heap.update l (Obj.mapSeq f),toks:=t'} :=by
 have q:=PySem.IsL.update e f
 rw[hf]at q
 refine I.write (x:=l) (e:=l) (by rw[hH];exact trivial) (.inl rfl) (fun b' u hb hu=>(Heap.get?_update_other s.heap (Obj.mapSeq f) (Ne.symm hb)).trans hu) ⟨_,q⟩ ?_
 exact⟨hz,its',_,hv,q⟩
theorem Inv.lnew {its:List Value} {t':Nat} (I:Inv X pins σ H s) (hv:Vals ys its) (hz:ys.length≤sizeLine):
  Inv X pins σ (bu H s.heap.objs.size (.lst ys)) {s with heap:=s.heap.push {cls:=.type "list",data:=.seq its.toArray},toks:=t'} :=
 I.laid (fun _ _ q=>Heap.get?_push_of_some _ q) (Nat.le_refl _) ⟨hz,its,0,hv,Heap.get?_push_size _ rfl⟩
theorem Inv.fresh (I:Inv X pins σ H s):H s.heap.objs.size=none:=I.hok.fresh (Nat.le_refl _)
theorem Inv.lstM (I:Inv X pins σ H s) (hH:H l=some (.lst xs)):xs.length≤sizeLine∧∃(its:List Value) (n:Nat),Vals xs its∧xs.length=its.length∧s.heap.get? l=some {cls:=.type "list",data:=.seq its.toArray n} :=by
 obtain⟨z,its,n,r,e⟩:=I.hok l _ hH
 exact⟨z,its,n,r,r.length,e⟩
end
section
variable {X:Cx}
def aF:V→List V→Hp→VK→Prop:=fun x vs H Q=>∃l xs y,x=.ref l∧vs=[y]∧H l=some (.lst xs)∧xs.length< sizeLine∧Q .non (bu H l (.lst (xs++ [y])))
theorem mF:wt X "list.append" aF:=by
 intro pins s σ H x vs v us Q I rx rv h
 obtain⟨l,xs,y,rfl,rfl,hH,hz,q⟩:=h
 cases rx
 obtain⟨u,rfl,ru⟩:=rv.one
 obtain⟨z,its,n,r,hl,e⟩:=I.lstM hH
 refine call_meets F.slot_list_append ⟨_,e,rfl⟩ F.entry_list_append (F.args_list_append_2 _ _) (PySem.list_append l its.toArray n u (by rw[List.size_toArray];omega)) ⟨e,?_⟩
 refine⟨.non,_,I.lset (its':=its++ [u]) hH e (by simp) (r.append (.cons ru .nil)) ?_,rfl,q⟩
 rw[List.length_append,List.length_singleton]
 omega
def ci:R2:=fun x y H Q=>∃l b xs zs,x=.ref l∧y=.ref b∧H l=some (.lst xs)∧H b=some (.lst zs)∧xs.length+zs.length≤sizeLine∧∀p,H p=none→Q (.ref p) (bu H p (.lst (xs++zs)))
theorem eN:OpR X (binaryOp .Add) ci:=by
 intro pins s σ H x y v u Q I rx ry h
 obtain⟨l,b,xs,zs,rfl,rfl,hH,hB,hz,q⟩:=h
 cases rx
 cases ry
 obtain⟨z,its,n,r,hl,e⟩:=I.lstM hH
 obtain⟨z2,its2,n2,r2,hl2,e2⟩:=I.lstM hB
 refine PySem.P.add_list e e2 ?_ (by rw[List.size_toArray,List.size_toArray];omega)
 have ea:its.toArray++its2.toArray=(its++its2).toArray:=by simp
 rw[ea]
 exact⟨.ref _,_,I.lnew (t':=s.toks) (r.append r2) (by rw[List.length_append];omega),rfl,q _ I.fresh⟩
end
end L2
namespace L2
open PySem PySem.Spec PyProof.Rows
section
variable {κ:Type} [DecidableEq κ]
def i0 (kvs:List (κ×V)) (k:κ):Option V:=(kvs.find? fun kv=>decide (kv.1=k)).map (·.2)
def fc (kvs:List (κ×V)) (k:κ) (v:V):List (κ×V):=
 if(kvs.any fun kv=>decide (kv.1=k))=true then kvs.map (fun kv=>if kv.1=k then(kv.1,v)else kv)else kvs++ [(k,v)]
theorem fo {p:κ×V} {r:List (κ×V)} {k:κ} (e:p.1=k):i0 (p::r) k=some p.2:=by simp[i0,List.find?_cons,e]
theorem fq {p:κ×V} {r:List (κ×V)} {k:κ} (e:¬p.1=k):i0 (p::r) k=i0 r k:=by simp[i0,List.find?_cons,e]
theorem jF (k:κ):∀kvs:List (κ×V),(kvs.any fun kv=>decide (kv.1=k))=(i0 kvs k).isSome
 | []=>rfl
 | p :: r => by
  rw[List.any_cons]
  by_cases e:p.1=k
  ·simp only[fo e,decide_eq_true e,Bool.true_or,Option.isSome_some]
  ·rw[fq e,decide_eq_false e,Bool.false_or];exact jF k r
theorem fX (kvs:List (κ×V)) (k:κ) (v:V):(fc kvs k v).length≤kvs.length+1:=by
 unfold fc
 split
 ·rw[List.length_map];omega
 ·rw[List.length_append,List.length_cons,List.length_nil];omega
theorem RelO.isSome_eq {o:Option V} {u:Option Value} (r:RelO o u):o.isSome=u.isSome:=by
 cases o with
 | none => cases u with
  | none=>rfl
  | some _=>exact(show False from r).elim
 | some _ => cases u with
  | none=>exact(show False from r).elim
  | some _=>rfl
theorem KV.val {kvs:List (κ×V)} {vs:List (κ×Value)} (r:KV kvs vs) (k:κ):RelO (i0 kvs k) (valueAt vs k):=by
 unfold KV at r
 induction r with
 | nil=>exact True.intro
 | @cons p q ps qs h t ih =>
  obtain⟨h1,h2⟩:=h
  by_cases e:p.1=k
  ·have e':q.1=k:=h1.symm.trans e
   have b:valueAt (q::qs) k=some q.2:=by simp[valueAt,List.find?_cons,e']
   rw[fo e,b];exact h2
  ·have e':¬q.1=k:=fun z=>e (h1.trans z)
   have b:valueAt (q::qs) k=valueAt qs k:=by simp[valueAt,List.find?_cons,e']
   rw[fq e,b];exact ih
theorem KV.any {kvs:List (κ×V)} {vs:List (κ×Value)} (r:KV kvs vs) (k:κ):(kvs.any fun kv=>decide (kv.1=k))=vs.any fun kv=>decide (kv.1=k):=by
 unfold KV at r
 induction r with
 | nil=>rfl
 | cons h t ih=>rw[List.any_cons,List.any_cons,ih,h.1]
theorem KV.repl {kvs:List (κ×V)} {vs:List (κ×Value)} (r:KV kvs vs) (k:κ) {y:V} {u:Value} (ry:RelV y u):
  KV (kvs.map fun kv=>if kv.1=k then(kv.1,y)else kv) (vs.map fun kv=>if kv.1=k then(kv.1,u)else kv):=by
 unfold KV at r ⊢
 induction r with
 | nil=>exact .nil
 | @cons p q ps qs h t ih =>
  rw[List.map_cons,List.map_cons]
  refine .cons ?_ ih
  obtain⟨h1,h2⟩:=h
  by_cases e:p.1=k
  ·rw[if_pos e,if_pos (h1.symm.trans e)];exact⟨h1,ry⟩
  ·rw[if_neg e,if_neg (fun z=>e (h1.trans z))];exact⟨h1,h2⟩
theorem KV.put {kvs:List (κ×V)} {vs:List (κ×Value)} (r:KV kvs vs) (k:κ) {y:V} {u:Value} (ry:RelV y u):KV (fc kvs k y) (stored vs k u):=by
 unfold fc stored
 rw[r.any k]
 by_cases e:(vs.any fun kv=>decide (kv.1=k))=true
 ·rw[if_pos e,if_pos e];exact r.repl k ry
 ·rw[if_neg e,if_neg e];exact Paired.snoc r ⟨rfl,ry⟩
theorem KV.length {kvs:List (κ×V)} {vs:List (κ×Value)} (r:KV kvs vs):kvs.length=vs.length:=Paired.length r
end
theorem nY {P:Program} {w:World} {k:Key} {u:Value} (r:RelV (kV k) u):(bL P w).is k u=true:=by
 cases k with
 | inl i=>obtain⟨t,e⟩:=(show ∃t,u=Value.int i t from r);subst e;exact jB P w i t
 | inr x=>obtain⟨t,e⟩:=(show ∃t,u=Value.str x t from r);subst e;exact jC P w x t
theorem iq {P:Program} {w:World} :∀{ks:List Key} {us:List Value},Vals (ks.map kV) us→ItemsAre (bL P w) ks us
 | [],_,r=>by rw[List.map_nil]at r;cases r;exact .nil
 | k :: ks, _, r => by
  rw[List.map_cons]at r
  cases r with
  | cons h t=>exact .cons (nY h) (iq t)
abbrev KT (H:Hp):List (List Key×V)→List (List Key×Addr×Value)→Prop:=Paired fun p q=>p.1=q.1∧H q.2.1=some (.tup (p.1.map kV))∧RelV p.2 q.2.2
theorem KT.val {H:Hp} {kvs:List (List Key×V)} {xs:List (List Key×Addr×Value)} (r:KT H kvs xs) (k:List Key):RelO (i0 kvs k) ((atKey xs k).map (·.2)):=by
 induction r with
 | nil=>exact True.intro
 | @cons p q ps qs h t ih =>
  obtain⟨h1,_,h2⟩:=h
  by_cases e:p.1=k
  ·have e':q.1=k:=h1.symm.trans e
   have b:atKey (q::qs) k=some q.2:=by simp[atKey,List.find?_cons,e']
   rw[fo e,b];exact h2
  ·have e':¬q.1=k:=fun z=>e (h1.trans z)
   have b:atKey (q::qs) k=atKey qs k:=by simp[atKey,List.find?_cons,e']
   rw[fq e,b];exact ih
theorem KT.repl {H:Hp} {kvs:List (List Key×V)} {xs:List (List Key×Addr×Value)} (r:KT H kvs xs) (k:List Key) {y:V} {u:Value} (ry:RelV y u):
  KT H (kvs.map fun kv=>if kv.1=k then(kv.1,y)else kv) (xs.map (putAt k u)):=by
 induction r with
 | nil=>exact .nil
 | @cons p q ps qs h t ih =>
  rw[List.map_cons,List.map_cons]
  refine .cons ?_ ih
  obtain⟨h1,h2,h3⟩:=h
  unfold putAt
  by_cases e:p.1=k
  ·rw[if_pos e,if_pos (h1.symm.trans e)];exact⟨h1,h2,ry⟩
  ·rw[if_neg e,if_neg (fun z=>e (h1.trans z))];exact⟨h1,h2,h3⟩
theorem KT.put {H:Hp} {kvs:List (List Key×V)} {xs:List (List Key×Addr×Value)} (r:KT H kvs xs) (k:List Key) {b:Addr} {y:V} {u:Value} (hb:H b=some (.tup (k.map kV))) (ry:RelV y u):
  KT H (fc kvs k y) (storedH xs k b u):=by
 have e:(kvs.any fun kv=>decide (kv.1=k))=(atKey xs k).isSome:=by
  rw[jF,(r.val k).isSome_eq,Option.isSome_map]
 unfold fc storedH
 rw[e]
 by_cases q:(atKey xs k).isSome=true
 ·rw[if_pos q,if_pos q];exact r.repl k ry
 ·rw[if_neg q,if_neg q];exact Paired.snoc r ⟨rfl,hb,ry⟩
theorem KT.keeps {H H':Hp} {kvs:List (List Key×V)} {xs:List (List Key×Addr×Value)} (r:KT H kvs xs) (ht:∀b ys,H b=some (.tup ys)→H' b=some (.tup ys)):KT H' kvs xs:=
 Paired.mapP r fun _ _ z=>⟨z.1,ht _ _ z.2.1,z.2.2⟩
section
variable {P:Program} {w:World} {H:Hp} {h:Heap} {a:Addr}
theorem rR {u:HO} (ok:HOk P w H h) (e:Rd H a u):ObjOk P w H h a u:=e.ok ok
theorem u7 {kvs:List (Key×V)} (ok:HOk P w H h) (e:Rd H a (.dK kvs)):kvs.length≤sizeLine∧(a == sysModules)=false∧∃vs,KV kvs vs∧h.DictOf (bL P w) a vs:=
 show ObjOk P w H h a (.dK kvs)from rR ok e
theorem u8 {kvs:List (Key×V)} (ok:HOk P w H h) (e:H a=some (.dK kvs)):kvs.length≤sizeLine∧(a == sysModules)=false∧∃vs,KV kvs vs∧h.DictOf (bL P w) a vs:=u7 ok (.inl e)
theorem nZ {ks:List Key} (ok:HOk P w H h) (e:H a=some (.tup (ks.map kV))):(tupleKind (bL P w)).is h ks a:=by
 obtain⟨_,its,r,o,h1,h2,n,h3⟩:=(show ObjOk P w H h a (.tup (ks.map kV))from ok a _ e)
 exact⟨o,its.toArray,n,h1,h2,h3,by simpa using iq r⟩
theorem u9 {kvs:List (List Key×V)} (ok:HOk P w H h) (e:Rd H a (.dT kvs)):kvs.length≤sizeLine∧(a == sysModules)=false∧
  ∃xs,KT H kvs xs∧h.DictOfH (tupleKind (bL P w)) a xs:=by
 obtain⟨z,y,xs,r,o,es,ep,h1,h2,h3,h4,h5⟩:=(show ObjOk P w H h a (.dT kvs)from rR ok e)
 refine⟨z,y,xs,r,o,es,ep,h1,h2,h3,h4,fun x hx=>?_,h5⟩
 have all:∀{l:List (List Key×V)} {m:List (List Key×Addr×Value)},KT H l m→∀x∈m,(tupleKind (bL P w)).is h x.1 x.2.1:=by
  intro l m q
  induction q with
  | nil=>intro x hx;exact nomatch hx
  | @cons p q ps qs hq t ih =>
   intro x hx
   rcases List.mem_cons.mp hx with e | hx
   ·subst e
    exact nZ ok (by rw[←hq.1];exact hq.2.1)
   ·exact ih x hx
 exact all r x hx
theorem ua {kvs:List (List Key×V)} (ok:HOk P w H h) (e:H a=some (.dT kvs)):kvs.length≤sizeLine∧(a == sysModules)=false∧
  ∃xs,KT H kvs xs∧h.DictOfH (tupleKind (bL P w)) a xs:=u9 ok (.inl e)
end
def DPut (H:Hp) (a:Addr) (y v:V) (H':Hp):Prop:=
 (∃kvs k,H a=some (.dK kvs)∧y=kV k∧kvs.length< sizeLine∧H'=bu H a (.dK (fc kvs k v)))∨
 ∃kvs k b,H a=some (.dT kvs)∧y=.ref b∧H b=some (.tup (k.map kV))∧kvs.length< sizeLine∧H'=bu H a (.dT (fc kvs k v))
theorem DPut.k {H:Hp} {a:Addr} {kvs:List (Key×V)} {k:Key} {v:V} (e:H a=some (.dK kvs)) (hl:kvs.length< sizeLine):DPut H a (kV k) v (bu H a (.dK (fc kvs k v))):=.inl ⟨kvs,k,e,rfl,hl,rfl⟩
section
variable {X:Cx} {pins:List (Addr×Obj)} {σ:St} {H:Hp} {s:Shared} {a:Addr} {y v:V} {u r:Value} {o:Option V} {A:Around} {E:Value→Shared→Prop}
theorem Inv.big (I:Inv X pins σ H s):sysModules< s.heap.objs.size:=by
 have h:mainGlobals< s.heap.objs.size:=(I.mod.glob.keeps I.bk).lt
 exact Nat.lt_trans (by decide) h
theorem lL {h':Heap} {t':Nat} {ob:HO} (I:Inv X pins σ H s) (mu:tT (H a)) (hs:Heap.SameBut a s.heap h') (he:∃q,h'.get? a=some q) (new:ObjOk X.prog X.w (bu H a ob) h' a ob):
  Inv X pins σ (bu H a ob) {s with heap:=h',toks:=t'} :=
 I.write (x:=a) (e:=a) mu (.inl rfl) (fun b q hb z=>(hs.2 b hb).trans z) he new
theorem sG {P:Program} {w:World} {H':Hp} {h':Heap} {kvs:List (Key×V)} {vs:List (Key×Value)} (z:kvs.length≤sizeLine) (hd:(a == sysModules)=false) (rel:KV kvs vs) (dd:h'.DictOf (bL P w) a vs):
  ObjOk P w H' h' a (.dK kvs):=⟨z,hd,vs,rel,dd⟩
theorem mG {H':Hp} {Q:Unit→Shared→Prop} (hu:A.units+1< cLine) (I:Inv X pins σ H s) (g:DPut H a y v H') (ry:RelV y u) (rv:RelV v r) (h:∀s',Inv X pins σ H' s'→Q () s'):
  wpAny (model X.prog X.w) A (setItem (.ref a) u r) Q E s:=by
 rcases g with⟨kvs,k,e,ey,l,eH⟩ | ⟨kvs,k,b,e,ey,eb,l,eH⟩
 ·subst ey eH
  obtain⟨z,hd,vs,rel,dd⟩:=u8 I.hok e
  have hz:vs.length≤sizeLine:=by rw[←rel.length];exact z
  have hl:(fc kvs k v).length≤sizeLine:=by have:=fX kvs k v;omega
  refine wpAny_setItem_pairs (hsz:=hz) (nY ry) dd fun h' dd' hs=>h _ ?_
  have he:∃q,h'.get? a=some q:=let ⟨q,_,_,hq,_⟩:=dd';⟨q,hq⟩
  exact lL I (by rw[e];exact True.intro) hs he (sG hl hd (rel.put k rv) dd')
 ·subst ey eH
  cases (show u=Value.ref b from ry)
  obtain⟨z,hd,xs,rel,dd⟩:=ua I.hok e
  have hz:xs.length≤sizeLine:=by rw[←Paired.length rel];exact z
  have hl:(fc kvs k v).length≤sizeLine:=by have:=fX kvs k v;omega
  refine wpAny_setItem_heap (hsz:=hz) (tupleKind_room_in1 hu) (nZ I.hok eb) dd fun h' dd' hs=>h _ ?_
  obtain⟨q,es,ep,hq,h2,h3,h4,_,h5⟩:=dd'
  refine lL I (by rw[e];exact True.intro) hs ⟨q,hq⟩ ⟨hl,hd,_,(rel.put k eb rv).keeps fun c ys ec=>?_,q,es,ep,hq,h2,h3,h4,h5⟩
  rw[ah (tS ec e (fun z=>nomatch z))]
  exact ec
end
def sH (i:Expr):Prop:=∀ov iv,subscripted i false ov iv=operate [ov,iv] (getItem ov iv)
theorem qr {prog:Program} {w:World} {A:Around} {E:Value→Shared→Prop} {s:Shared} {env:Env} {value slice:Expr} {pos:Pos} {T id:String} {Q:Value→Shared→Prop}
  (hl:typeLookup (.type T) "__getitem__" =pure (some (.builtin id))) (hs:sH slice)
  (h:wpAny (model prog w) A (eval value env) (fun o s₁=>wpAny (model prog w) A (eval slice env) (fun i s₂=>s₂.TypeIs o T∧wpAny (model prog w) A (getItem o i) Q E s₂) E s₁) E s):
  wpAny (model prog w) A (eval (.Subscript value slice pos) env) Q E s:=by
 refine Subscript_ (wpAny_mono h (fun o s₁ h₁=>wpAny_mono h₁ (fun i s₂ h₂=>?_) fun _ _ x=>x) fun _ _ x=>x)
 obtain⟨hT,h₂⟩:=h₂
 unfold subscriptTail
 refine wpAny_bind ?_
 rw[getitemInPython_of_ne hT.not_modules]
 refine wpAny_bind (wpAny_specialOf hT hl ?_)
 have fin:wpAny (model prog w) A (subscripted slice false o i) (fun r s₃=>wpAny (model prog w) A (letTemporaryGo value o r >>= fun _=>pure r) Q E s₃) E s₂:=by
  rw[hs o i]
  exact wpAny_operating (wpAny_mono h₂ (fun r s₃ h₃=>wpAny_bind (wpAny_letTemporaryGo (wpAny_pure h₃))) fun _ _ x=>x)
 first
  | exact wpAny_pure (wpAny_bind fin)
  | exact wpAny_bind (wpAny_pure (wpAny_bind fin))
  | exact wpAny_bind fin
def bn (td ty tv:TE):TS:=fun D σ H=>tv σ H fun v H1=>td σ H1 fun x H2=>ty σ H2 fun y H3=>∃a H4,x=.ref a∧DPut H3 a y v H4∧D.nx σ H4
section
variable {X:Cx} {o i e value:Expr} {pos pos' tpos:Pos} {td ty tv:TE}
theorem lM (hu:X.A.units+1< cLine) (ho:PE X o td) (hi:PE X i ty) (hv:PE X value tv) (hs:swapsWith value (some (.Subscript o i pos')) pos.line X.env=pure false):
  PS X (.Assign [.Subscript o i pos'] value pos) (bn td ty tv):=by
 intro pins s σ H D I h
 refine wpAny_Assign_Subscript (bO (hv pins s σ H _ I h) fun r s1 ⟨v,H1,I1,rv,q1⟩=>bO (ho pins s1 σ H1 _ I1 q1) fun u s2 ⟨x,H2,I2,rx,q2⟩=>bO (hi pins s2 σ H2 _ I2 q2) fun iv s3 ⟨y,H3,I3,ry,a,H4,ex,g,q3⟩=>?_) hs
 subst ex
 obtain rfl:u=Value.ref a:=rx
 exact mG hu I3 g ry rv fun s4 I4=>⟨σ,H4,I4,q3⟩
end
theorem o0 {P:Program} {w:World} {H:Hp} (h:Heap) (hb:sysModules< h.objs.size):ObjOk P w H (h.push {cls:=.type "dict",data:=.dict #[]}) h.objs.size (.dK []):=
 ⟨Nat.zero_le _,beq_eq_false_iff_ne.mpr (Ne.symm (Nat.ne_of_lt hb)),[],.nil,Heap.DictOf.new h⟩
def aY:TE:=fun _ H Q=>∀p,H p=none→Q (.ref p) (bu H p (.dK []))
section
variable {X:Cx} {pos:Pos}
theorem o6:PE X (.Dict [] [] pos) aY:=fun pins s σ H Q I h=>
 wpAny_Dict_empty ⟨.ref s.heap.objs.size,_,I.laid (a:=s.heap.objs.size) (o:=.dK []) (t':=s.toks) (fun _ _ q=>Heap.get?_push_of_some _ q) (Nat.le_refl _) (o0 s.heap I.big),rfl,h _ (I.hok.fresh (Nat.le_refl _))⟩
end
end L2
namespace Att
open PySem PySem.W PySem.Calls PyProof.Rows
theorem gi {P:Params} {h:Heap} :∀(ns:List Int) (vs:List Value),WellAll P h vs (ns.map WData.int)→IntsAre vs ns:=by
 intro ns
 induction ns with
 | nil =>
  intro vs w
  rw[List.map_nil]at w
  cases w
  exact .nil
 | cons n ns ih =>
  intro vs w
  rw[List.map_cons]at w
  cases w with
  | cons a b =>
   cases a
   exact .cons _ _ (ih _ b)
theorem mH {l:OpenLaw} {n:Nat} (hn:l.most=some n) {P:Params} {h:Heap} {args:List WData} {vals:List Value}
  (hpre:l.row.toRowW.claim.pre args=true) (hwl:WellAll P h vals args):
  ∃a vs ns,vals=[Value.ref a]∧args=[WData.list (ns.map WData.int)]∧h.get? a=some {cls:=.type "list",data:=.seq vs.toArray}∧IntsAre vs ns∧ns.length≤n:=by
 have hsh:WShape.hasAll [] args [.list .int]=true:=(pre_splitW hpre).1
 have hc:l.pre.holds [] {args:=args} =true:=(pre_splitW hpre).2
 obtain⟨d,r,rfl,h1,h2⟩:=hasAllW_cons hsh
 obtain rfl:=hasAllW_nil h2
 obtain⟨xs,rfl,h3⟩:=hasW_list h1
 obtain⟨ns,rfl⟩:=items_int h3
 have hlen:ns.length≤n:=by
  unfold OpenLaw.pre at hc
  have h4:(WTm.not (.lt (.lit (.int (n:Int))) (.len (.arg 0)))).holds [] {args:=[.list (ns.map .int)]} =true:=by
   have h4:=(holds_andW hc).1
   rw[hn]at h4
   exact h4
  have h5:=condW_of h4 (w_not (w_lt w_lit (w_len_list (w_arg rfl))))
  rw[List.length_map]at h5
  refine Nat.le_of_not_lt fun q=>?_
  have q':(n:Int)< ((ns.length:Nat):Int):=by omega
  first
   | (rw[decide_eq_true q']at h5;exact absurd h5 (by decide))
   | (simp at h5;omega)
 cases hwl with
 | cons w1 w2 =>
  cases w2
  cases w1 with
  | list ho hall=>exact⟨_,_,ns,rfl,rfl,ho,gi ns _ hall,hlen⟩
theorem mI (l:OpenLaw) (args:List WData):l.row.toRowW.claim.post args (.bool true) args=true:=
 postW_of (r:=l.row.toRowW) (X:=(true == true))
  (show WShape.has [] (.bool true) .bool=true by first | rfl | decide | simp[WShape.has,WShape.arms,WShape.armsAll])
  (show(WTm.eq .res (.lit (.bool true))).value [] {args:=args,res:=some (.bool true),after:=args} =some (.bool (true == true))from w_eq_bool (w_res rfl) w_lit) rfl
theorem attach_call {l:OpenLaw} {n:Nat} {q:Program} {loose:List Str} {XP:(Str→Option Value)→Heap→Prop} {YP:World→Heap→Prop} {d:DefRec}
  (hn:l.most=some n) (hdf:d.params.defaults=[])
  (call:∀(w:World) (s₀ s₁:Shared) (mg mb:Str→Option Value) (fa:Addr) (o:Obj) (pm cd doc:Value) (a:Addr) (vs:List Value) (ns:List Int),
   Ground q loose [] XP w s₀ mg mb s₁.heap→YP w s₁.heap→
   s₁.heap.get? fa=some o→o.data=.func (docDef d.name d.params d.body d.scope pm cd doc)→s₁.heap.CodeRec cd d.name→mg d.name=some (.ref fa)→
   s₁.heap.get? a=some {cls:=.type "list",data:=.seq vs.toArray}→IntsAre vs ns→ns.length≤n→s₁.gens= #[]→
   codeAny (model l.prog w) callerA (.call (.ref fa) ⟨[.ref a],[]⟩) (fun r s'=>r=.ok (.ret (.bool true))∧OldK s₁.heap s'.heap∧s'.os=s₁.os∧AllBare s'.gens) s₁):
  WalkO q loose XP YP l.row.toRowW d [] (fun f vs=>PySem.call f vs):=by
 intro w s₀ s₁ mg mb G Y fa o pm cd doc dV kV ho hd hcd hD hmg hg args vals as hpre hlay hrd hwl hlo
 obtain rfl:dV=.none:=Dflts.none hD hdf
 obtain rfl:kV=.none:=Dflts.noKw hD
 obtain⟨a,vs,ns,rfl,rfl,hobj,hints,hlen⟩:=mH hn hpre hwl
 refine enter_call (codeAny_mono (call w s₀ s₁ mg mb fa o pm cd doc a vs ns G Y ho (fd_plain hd) hcd hmg hobj hints hlen hg) fun r s' hq=>?_)
 obtain⟨rfl,h2,h3,h4⟩:=hq
 exact⟨.inl ⟨.bool true,.bool true,[],rfl,fun _=>rfl,.bool true,mI l _,fun _=>⟨List.Pairwise.nil,fun _ hm=>(nomatch hm)⟩⟩,h2,h3,h4⟩
end Att
namespace L2
open PySem PySem.Spec PyProof.Rows
theorem eX:∀{vs:List Value} {ns:List Int},IntsAre vs ns→Vals (ns.map V.int) vs
 | _,_,.nil=>.nil
 | _,_,.cons n t h=>.cons ⟨t,rfl⟩ (eX h)
def sI (H:Hp):Prop:=∀b,H b=none∨∃o xs,H b=some (.frz o (.lst xs))
theorem o7 {P:Program} {w:World} {K:PySem.W.Frag} {mg mb:Str→Option Value} {CX:CXT} {k:Nat} {fa a:Addr} {fd:FuncData} {x:Str} {sp:Sp} {s₁:Shared} {vs:List Value} {ns:List Int}
  (KX:K.In s₁.heap) (hns:s₁.heap.Ns mainGlobals mg) (hb:s₁.heap.Ns builtinsNs mb) (hbb:∀x:Str,x≠"__name__" →mb x=bootBuiltins x) (hlim:s₁.heap.NoLimit) (hg:s₁.gens= #[])
  (ha:s₁.heap.get? a=some {cls:=.type "list",data:=.seq vs.toArray}) (hi:IntsAre vs ns) (hl:ns.length≤sizeLine) (hr:Room k callerA)
  (F:∀base:Heap,K.In base→base.Ns mainGlobals mg→FnOk P w K mg base CX k fa fd [x] sp) (hbind:∀(s:Shared) (u:Value),BindsTo s fd ⟨[u],[]⟩ [(x,u)])
  (hsp:∀H:Hp,sI H→SqL K H a (ns.map V.int)→sp [.ref a] H (fun v _=>v=.bl true) fun _ _ _=>False)
  (hCX:∀H e s',CX [] H s₁ (fun _ _ _=>False) e s'→False):
  codeAny (model P w) callerA (.call (.ref fa) ⟨[.ref a],[]⟩) (fun r s'=>r=.ok (.ret (.bool true))∧OldK s₁.heap s'.heap∧s'.os=s₁.os∧AllBare s'.gens) s₁:=by
 have rv:=eX hi
 have lenV:=hi.length
 have core:∀H:Hp,sI H→SqL K H a (ns.map V.int)→HOk P w H s₁.heap→(∀b,H b≠none→b=a)→(H a≠none→K.lookup a=none)→
   codeAny (model P w) callerA (.call (.ref fa) ⟨[.ref a],[]⟩) (fun r s'=>r=.ok (.ret (.bool true))∧OldK s₁.heap s'.heap∧s'.os=s₁.os∧AllBare s'.gens) s₁:=by
  intro H hO hS hok hA hK
  have base_of:∀{b:Addr} {o:Obj},s₁.heap.get? b=some o→H b=none→(iU s₁.heap H).get? b=some o:=fun e n=>nO e n
  have noA:∀{b:Addr} {o:Obj} {es:Array DictEntry} {ep:Nat},s₁.heap.get? b=some o→o.data=.dict es ep→H b=none:=fun {b o es ep} e d=>by
   cases q:H b with
   | none=>rfl
   | some u =>
    have e':b=a:=hA b (by rw[q];simp)
    subst e'
    rw[ha]at e;cases e
    have d':Data.seq vs.toArray _=Data.dict es ep:=d
    cases d'
  have nsK:∀{b:Addr} {m:Str→Option Value},s₁.heap.Ns b m→(iU s₁.heap H).Ns b m:=fun {b m} ⟨o,es,ep,e,d,r⟩=>⟨o,es,ep,base_of e (noA e d),d,r⟩
  have hKb:K.In (iU s₁.heap H):=fun b o e=>base_of (KX b o e) (by
   cases q:H b with
   | none=>rfl
   | some u =>
    have e':b=a:=hA b (by rw[q];simp)
    subst e'
    rw[hK (by rw[q];simp)]at e;cases e)
  have hM:Mod K mg (iU s₁.heap H):=⟨hKb,nsK hns,⟨mb,nsK hb,hbb⟩,let ⟨mc,h1,h2⟩:=hlim;⟨mc,nsK h1,h2⟩⟩
  have e0:Env0 P w K mg (iU s₁.heap H) callerA [] s₁ H:=⟨rfl,hM,fun b o e=>qh e,Nat.le_of_eq (mw _ _),trivial,fun b hb=>absurd (show b∈([]:List Addr)from hb) (by simp),hok,.of_eq hg⟩
  refine codeAny_mono ((F _ hKb (nsK hns)).run callerA [] s₁ H ⟨[.ref a],[]⟩ [.ref a] [.ref a] _ _ hr e0 (hbind s₁ (.ref a)) (.cons rfl .nil) (hsp H hO hS)) fun r s' h=>?_
  cases r with
  | error e=>exact(hCX H e s' h).elim
  | ok fl =>
   cases fl with
   | next=>exact False.elim h
   | brk=>exact False.elim h
   | cont=>exact False.elim h
   | ret u =>
    obtain⟨v,H',os,bare,un,hok',r',q⟩:=h
    have q':v=.bl true:=q
    subst q'
    obtain rfl:u=Value.bool true:=r'
    refine⟨rfl,OldK.of_keep fun b o e=>?_,os,bare⟩
    cases q:H b with
    | none=>exact un.keep b o e q (by intro z;exact absurd (show b∈([]:List Addr)from z) (by simp)) (by simp)
    | some u =>
     rcases hO b with z | ⟨ob,xs,z⟩
     ·rw[q]at z;cases z
     ·have z2:=un.frzs b ob _ z
      obtain⟨e1,_⟩:=hok b _ z
      obtain⟨e2,_⟩:=hok' b _ z2
      rw[e]at e1;cases e1
      exact e2
 cases hk:K.lookup a with
 | some o =>
  have e:=KX a o hk
  rw[ha]at e
  cases e
  refine core (fun _=>none) (fun _=>.inl rfl) (.inr ⟨_,vs.toArray,_,hk,rfl,rfl,rfl,by rw[List.size_toArray,lenV];exact hl,by simpa using rv⟩) (fun b u z=>by have z':(none:Option HO)=some u:=z;cases z') (fun b z=>absurd rfl z) fun z=>absurd rfl z
 | none =>
  refine core (fun b=>if b=a then some (.frz {cls:=.type "list",data:=.seq vs.toArray} (.lst (ns.map V.int)))else none) (fun b=>?_) (.inl (.inr ⟨{cls:=.type "list",data:=.seq vs.toArray},if_pos rfl⟩)) (fun b u z=>?_) (fun b z=>?_) fun _=>hk
  ·by_cases hb:b=a
   ·exact .inr ⟨_,_,if_pos hb⟩
   ·exact .inl (if_neg hb)
  ·by_cases hb:b=a
   ·have z':=(if_pos hb).symm.trans z
    cases z'
    subst hb
    exact⟨ha,by rw[List.length_map];exact hl,vs,_,rv,ha⟩
   ·have z':=(if_neg hb).symm.trans z
    cases z'
  ·by_cases hb:b=a
   ·exact hb
   ·exact absurd (if_neg hb) z
end L2
namespace L2
open PySem PySem.Spec PyProof.Rows
theorem walk_of {l:PySem.W.OpenLaw} {n k:Nat} {q:Program} {loose:List Str} {XP:(Str→Option Value)→Heap→Prop} {YP:World→Heap→Prop} {d:DefRec} {K:Params→PySem.W.Frag} {CX:World→CXT} {sp:World→Sp} {x:Str}
  (hn:l.most=some n) (hn2:n≤sizeLine) (hdf:d.params.defaults=[]) (hr:Room k callerA)
  (hY:∀(w:World) (h:Heap),YP w h→(K w.params).In h)
  (F:∀(w:World) (mg:Str→Option Value) (fa:Addr) (h:Heap),(K w.params).In h→h.Ns mainGlobals mg→mg d.name=some (.ref fa)→
   ∃ fd : FuncData, (∀ (s : Shared) (u : Value), BindsTo s fd ⟨[u], []⟩ [(x, u)]) ∧
    ∀base:Heap,(K w.params).In base→base.Ns mainGlobals mg→FnOk l.prog w (K w.params) mg base (CX w) k fa fd [x] (sp w))
  (hsp:∀(w:World) (H:Hp) (a:Addr) (ns:List Int),ns.length≤n→sI H→SqL (K w.params) H a (ns.map V.int)→sp w [.ref a] H (fun v _=>v=.bl true) fun _ _ _=>False)
  (hCX:∀(w:World) (H:Hp) (s:Shared) (e:Value) (s':Shared),CX w [] H s (fun _ _ _=>False) e s'→False):
  PySem.W.WalkO q loose XP YP l.row.toRowW d [] (fun f vs=>PySem.call f vs):=by
 refine Att.attach_call hn hdf fun w s₀ s₁ mg mb fa o pm cd doc a vs ns G Y ho hd hcd hmg hobj hints hlen hg=>?_
 have KX:=hY w _ Y
 obtain⟨fd,hb,hF⟩:=F w mg fa _ KX G.T.g hmg
 exact o7 KX G.T.g G.T.b G.T.builtins G.T.nolimit hg hobj hints (Nat.le_trans hlen hn2) hr hF hb (fun H hO hS=>hsp w H a ns hlen hO hS) fun H e s'=>hCX w H s₁ e s'
end L2
namespace L2
open PySem PySem.Spec PyProof.Rows
def defArgs (s:Stmt):Arguments:=match s with
 | .FunctionDef _ a _ _ _ _ _ _ _ _=>a
 | _=>{posonlyargs:=[],args:=[],vararg:=none,kwonlyargs:=[],kw_defaults:=[],kwarg:=none,defaults:=[]}
def defBody (s:Stmt):List Stmt:=match s with
 | .FunctionDef _ _ b _ _ _ _ _ _ _=>b
 | _=>[]
def defScope (s:Stmt):Scope:=match s with
 | .FunctionDef _ _ _ _ _ _ sc _ _ _=>sc
 | _=>{kind:=.function,names:=[],isGenerator:=false,isCoroutine:=false}
abbrev CX0:CXT:=fun _ _ _ _ _ _=>False
abbrev E0:XK:=fun _ _ _=>False
theorem ub {X:Cx} :gA CX0 X E0:=fun _ _ _ _ _ _ _ h=>h.elim
structure Fun (K:PySem.W.Frag) (x qual:Str) (st:Stmt) (f:Addr) (fd:FuncData):Prop where
 ex:∃(oc:Value) (od:Option Addr) (kV doc pm:Value) (an:Option Addr) (cdv ct:Value) (osl:Array (Option Value)),
  fd=PySem.W.fnOf x qual (defArgs st) (defBody st) (defScope st) .none kV doc pm an cdv ct∧K.lookup f=some ⟨oc,od,.func fd,osl⟩∧PySem.W.codeIn K cdv qual=true
 kp:PySem.W.keepIn K (.ref f)=true
section
variable {P:Program} {w:World} {K:PySem.W.Frag} {mg:Str→Option Value} {base:Heap}
theorem Fun.ok {x qual:Str} {st:Stmt} {f:Addr} {fd:FuncData} {N ps:List Str} {k:Nat} {sp:Sp} (F:Fun K x qual st f fd) (S:FnScope N ps (defScope st)) (len:∀vs H Q E,sp vs H Q E→vs.length=ps.length)
  (hbody:∀(cdv:Value) (A:Around) (outer:List Env) (s:Shared) (H:Hp) (vs:List V) (Q:VK) (E:XK),Room k (A.deeper (envOfC qual (defScope st) s.heap.objs.size f cdv))→sp vs H Q E→
   ∃t,PSs (hW CX0 P w K mg base N qual (defScope st) f cdv A outer s H E).nox (defBody st) t∧t {nx:=fun _ H'=>Q .non H',rt:=Q} (start N vs) H):FnOk P w K mg base CX0 (k+1) f fd ps sp:=by
 obtain⟨oc,od,kV,doc,pm,an,cdv,ct,osl,rfl,lk,hcd⟩:=F.ex
 refine rQ lk hcd S len fun A outer s H vs Q E hr hsp=>?_
 obtain⟨t,h,q⟩:=hbody cdv A outer s H vs Q E hr hsp
 exact⟨t,h.nox,q⟩
theorem Fun.binds {x qual:Str} {st:Stmt} {f:Addr} {fd:FuncData} {ps:List Str} (F:Fun K x qual st f fd)
  (h:∀(kV doc pm:Value) (an:Option Addr) (cdv ct:Value) (us:List Value),us.length=ps.length→bindArgs (PySem.W.fnOf x qual (defArgs st) (defBody st) (defScope st) .none kV doc pm an cdv ct) ⟨us,[]⟩=pure (ps.zip us)):Binds K fd ps []:=by
 obtain⟨oc,od,kV,doc,pm,an,cdv,ct,osl,rfl,lk,hcd⟩:=F.ex
 exact .all (h kV doc pm an cdv ct)
theorem aS {x qual:Str} {st:Stmt} {f:Addr} {oc:Value} {od an:Option Addr} {osl:Array (Option Value)} {kV doc pm cdv ct:Value} (l:K.lookup f=some ⟨oc,od,.func (PySem.W.fnOf x qual (defArgs st) (defBody st) (defScope st) .none kV doc pm an cdv ct),osl⟩)
  (c:PySem.W.codeIn K cdv qual=true) (k:PySem.W.keepIn K (.ref f)=true):Fun K x qual st f (PySem.W.fnOf x qual (defArgs st) (defBody st) (defScope st) .none kV doc pm an cdv ct):=⟨⟨oc,od,kV,doc,pm,an,cdv,ct,osl,rfl,l,c⟩,k⟩
end
section
variable {X:Cx}
theorem pv (i:Nat) {x:Str} {pos:Pos} (hN:X.N[i]? =some x:=by rfl) (hv:Vis X.env.scope x:=by first | exact Or.inl rfl | exact Or.inr (Or.inl rfl) | exact Or.inr (Or.inr rfl)) (hd:(x == ("__debug__" :Str))=false:=by decide)
  (hcd:(x == ("__classdict__" :Str))=false:=by decide):PE X (.Name x pos) (bx i):=su hN hv hd hcd
end
def Same (H H':Hp):Prop:=∀b o,H b=some o→H' b=some o
theorem Same.refl (H:Hp):Same H H:=fun _ _ h=>h
theorem Same.trans {H H1 H2:Hp} (a:Same H H1) (b:Same H1 H2):Same H H2:=fun c o h=>b c o (a c o h)
theorem Same.seq {K:PySem.W.Frag} {H H':Hp} {a:Addr} {xs:List V} (e:Same H H') (h:SqL K H a xs):SqL K H' a xs:=by
 rcases h with(h | ⟨o,h⟩) | h
 ·exact .inl (.inl (e _ _ h))
 ·exact .inl (.inr ⟨o,e _ _ h⟩)
 ·exact .inr h
end L2
set_option maxHeartbeats 4000000
namespace L2
open PySem PySem.Spec PyProof.Rows
abbrev sOf (l:List Nat):Str:=⟨l.toArray⟩
theorem cW (l:List Nat):(sOf l).length=l.length:=by simp[Str.length,sOf]
theorem lN (l:List Nat):(sOf l).cps.toList=l:=by simp[sOf]
theorem kZ (a b:List Nat):sOf a++sOf b=sOf (a++b):=by
 apply PySem.Str.ext'
 rw[PySem.Str.cps_append]
 simp[sOf]
theorem lO {a b:List Nat} (h:sOf a=sOf b):a=b:=by
 have:=congrArg (fun x=>x.cps.toList) h
 simpa [sOf] using this
theorem o8 (x:Str):x=sOf x.cps.toList:=by cases x;simp[sOf]
def DictK (K:PySem.W.Frag) (w:World) (a:Addr) (kvs:List (Key×V)):Prop:=
 kvs.length≤1000∧(a == sysModules)=false∧(kvs.map (·.1)).Nodup∧∃(es:Array DictEntry) (ep:Nat),K.lookup a=some {cls:=.type "dict",data:=.dict es ep}∧
  Paired (fun(p:Key×V) (e:DictEntry)=>eJ p.1 e.key=true∧e.hash=nN w p.1∧RelV p.2 e.val) kvs es.toList
theorem jG {P:Program} {w:World} {kvs:List (Key×V)} {es:List DictEntry} (r:Paired (fun(p:Key×V) (e:DictEntry)=>eJ p.1 e.key=true∧e.hash=nN w p.1∧RelV p.2 e.val) kvs es):
  ∀e∈es,∃k,eJ k e.key=true∧e.hash=nN w k:=by
 induction r with
 | nil=>intro e h;cases h
 | @cons p e ps es h t ih =>
  intro e' h'
  rcases List.mem_cons.mp h' with rfl | h'
  ·exact⟨p.1,h.1,h.2.1⟩
  ·exact ih e' h'
theorem j3 {P:Program} {w:World} {kvs:List (Key×V)} {es:List DictEntry} (r:Paired (fun(p:Key×V) (e:DictEntry)=>eJ p.1 e.key=true∧e.hash=nN w p.1∧RelV p.2 e.val) kvs es):
  ∃vs,KV kvs vs∧Pairs (bL P w) es vs∧vs.map (·.1)=kvs.map (·.1):=by
 induction r with
 | nil=>exact⟨[],.nil,.nil,rfl⟩
 | @cons p e ps es h t ih =>
  obtain⟨vs,h1,h2,h3⟩:=ih
  exact⟨(p.1,e.val)::vs,.cons ⟨rfl,h.2.2⟩ h1,.cons h.1 rfl h2,by simp[h3]⟩
theorem DictK.of {P:Program} {w:World} {K:PySem.W.Frag} {a:Addr} {kvs:List (Key×V)} {h:Heap} (d:DictK K w a kvs) (x:K.In h):(a == sysModules)=false∧∃vs,KV kvs vs∧h.DictOf (bL P w) a vs:=by
 obtain⟨hz,hs,nd,es,ep,lk,r⟩:=d
 obtain⟨vs,h1,h2,h3⟩:=j3 (P:=P) r
 refine⟨hs,vs,h1,_,es,ep,x _ _ lk,⟨rfl,rfl,rfl⟩,rfl,fun e he=>jG (P:=P) r e (by simpa using he),h2,by rw[h3];exact nd⟩
section
variable {X:Cx} {o i e:Expr} {pos:Pos} {td ty:TE}
def aO (K:PySem.W.Frag) (w:World) (td ty:TE):TE:=fun σ H Q=>td σ H fun x H1=>ty σ H1 fun y H2=>∃a kvs k v,x=.ref a∧DictK K w a kvs∧y=kV k∧i0 kvs k=some v∧Q v H2
theorem og (ho:PE X o td) (hi:PE X i ty) (hs:sH i):PE X (.Subscript o i pos) (aO X.K X.w td ty):=by
 intro pins s σ H Q I h
 refine qr PySem.F.slot_dict_getitem.lookup hs (bO (ho pins s σ H _ I h) fun u s1 ⟨x,H1,I1,rx,q1⟩=>bO (hi pins s1 σ H1 _ I1 q1) fun iv s2 ⟨y,H2,I2,ry,a,kvs,k,v,ex,dk,ey,ev,q2⟩=>?_)
 subst ex ey
 obtain rfl:u=Value.ref a:=rx
 obtain⟨hd,vs,rel,dd⟩:=dk.of (P:=X.prog) I2.kIn
 refine⟨dd.typeIs,?_⟩
 obtain⟨w',hw,rw'⟩:=RelO.some_of (v:=v) (o:=valueAt vs k) (by rw[←ev];exact rel.val k)
 exact wpAny_getItem_of (nY ry) dd.mapOf hw ⟨v,H2,I2.tok _,rw',q2⟩
end
section
variable {X:Cx}
theorem gC:OpR X (compareOp .Is) (fun x y H Q=>∃c,y=.bl c∧Q (.bl (decide (x=.bl c))) H):=by
 intro pins s σ H x y v u Q I rx ry h
 obtain⟨c,rfl,q⟩:=h
 cases ry
 cases x with
 | bl b=>cases rx;exact is_bool (aP I q (by cases b <;> cases c <;> simp))
 | non=>cases rx;exact wpAny_pure (aP I q (by simp))
 | int i=>obtain⟨t,rfl⟩:=rx;exact wpAny_pure (aP I q (by simp))
 | str i=>obtain⟨t,rfl⟩:=rx;exact wpAny_pure (aP I q (by simp))
 | byt i=>obtain⟨t,rfl⟩:=rx;exact wpAny_pure (aP I q (by simp))
 | flt i=>obtain⟨t,rfl⟩:=rx;exact wpAny_pure (aP I q (by simp))
 | ref a=>cases rx;exact wpAny_pure (aP I q (by simp))
 | ty a=>cases rx;exact wpAny_pure (aP I q (by simp))
theorem l0:OpR X (binaryOp .Mult) (fun x y H Q=>∃c n,x=.str (sOf [c])∧y=.int n∧0≤n∧n≤100000∧Q (.str (sOf (List.replicate n.toNat c))) H):=by
 intro pins s σ H x y v u Q I rx ry h
 obtain⟨c,n,rfl,rfl,h0,h1,q⟩:=h
 obtain⟨t,rfl⟩:=rx
 obtain⟨t',rfl⟩:=ry
 have hl:(sOf [c]).length=1:=cW [c]
 refine SB.mul ?_ fun t' k=>?_
 ·refine⟨?_,fun _ _=>?_,fun _ _=>?_⟩
  ·have e1:decide (n< -(2^63:Int))=false:=decide_eq_false (by omega)
   have e2:decide (n≥2^63)=false:=decide_eq_false (by omega)
   rw[e1,e2];rfl
  ·rw[hl]
   have h2:1≤n:=by omega
   have:(1:Int)≤(2^63- 1)/ n:=(Int.le_ediv_iff_mul_le (by omega)).mpr (by omega)
   omega
  ·rw[hl]
   unfold Builtin.Str.tooLong
   have:=sizeLine_eq
   simp
   omega
 ·have e:Txt.mul (sOf [c]) n=sOf (List.replicate n.toNat c):=by
   rw[o8 (Txt.mul (sOf [c]) n)]
   show sOf ((Txt.mul ⟨#[c]⟩ n).cps.toList)=_
   rw[mul_one_list]
  exact⟨.str _,H,I.tok _,⟨t',rfl⟩,by rw[e];exact q⟩
end
end L2
namespace L2
open PySem PySem.Spec PyProof.Rows
section
variable {X:Cx}
def gj (l:List Nat) (lo hi:Option Int):List Nat:=(l.drop (HT.sIx l.length 0 lo)).take (HT.sIx l.length l.length hi- HT.sIx l.length 0 lo)
theorem gD (lo hi:Option Int) (n:Nat):Builtin.Str.strSliceIndices lo hi 1 n=sliceRange ((HT.sIx n 0 lo:Nat):Int) ((HT.sIx n n hi:Nat):Int) 1:=by
 unfold Builtin.Str.strSliceIndices
 have e1:(match lo with | none=>(0:Int) | some i=>max 0 (min (if i< 0 then i+(n:Int)else i) n))=((HT.sIx n 0 lo:Nat):Int):=by
  cases lo with
  | none=>simp[HT.sIx]
  | some i=>simp only[HT.sIx];by_cases h:i< 0 <;> simp only[h,if_true,if_false] <;> omega
 have e2:(match hi with | none=>(n:Int) | some i=>max 0 (min (if i< 0 then i+(n:Int)else i) n))=((HT.sIx n n hi:Nat):Int):=by
  cases hi with
  | none=>simp[HT.sIx]
  | some i=>simp only[HT.sIx];by_cases h:i< 0 <;> simp only[h,if_true,if_false] <;> omega
 simp only[show(1:Int)> 0 by decide,if_true]
 rw[←e1,←e2]
 cases lo <;> cases hi <;> rfl
theorem mJ (l:List Nat) (lo hi:Option Int):Txt.slice (sOf l) lo hi=sOf (gj l lo hi):=by
 have hn:(sOf l).length=l.length:=cW l
 have hk:(Builtin.Str.strSliceIndices lo hi 1 l.length).filterMap ((sOf l).cps[·]?)=gj l lo hi:=by
  rw[gD,sliceRange_one,pick_run]
  simp[gj]
 have hlen:(Builtin.Str.strSliceIndices lo hi 1 l.length).length=(gj l lo hi).length:=by
  rw[gD,sliceRange_one]
  have h1:=HT.sIx_le l.length 0 (Nat.zero_le _) lo
  have h2:=HT.sIx_le l.length l.length (Nat.le_refl _) hi
  simp[gj]
  omega
 unfold Txt.slice
 rw[hn]
 split
 ·rename_i h
  have h:(Builtin.Str.strSliceIndices lo hi 1 l.length).length=l.length:=by simpa using h
  have hl:=hlen.symm.trans h
  have e:gj l lo hi=l:=by
   have h3:(gj l lo hi).length≤(l.drop (HT.sIx l.length 0 lo)).length:=by unfold gj;simp;omega
   have h4:HT.sIx l.length 0 lo=0∨l.length=0:=by
    rw[List.length_drop]at h3;omega
   rcases h4 with h4 | h4
   ·unfold gj at hl ⊢
    rw[h4]at hl ⊢
    rw[List.drop_zero]at hl ⊢
    rw[List.length_take]at hl
    exact List.take_of_length_le (by omega)
   ·have:l=[]:=List.length_eq_zero_iff.mp h4
    subst this
    simp[gj]
  rw[e]
 ·rw[hk]
theorem di:uX X (fun x lo hi H Q=>∃l,x=.str (sOf l)∧l.length≤sizeLine∧Q (.str (sOf (gj l lo hi))) H):=by
 intro pins s σ H x v vl vu lo hi sl Q I rx hs pl pu h
 obtain⟨l,rfl,hz,q⟩:=h
 obtain⟨t,rfl⟩:=rx
 obtain⟨a1,rfl,e1⟩:∃a:Option (Int×Tok),vl=partValue a∧a.map (·.1)=lo:=by
  cases pl with
  | none=>exact⟨none,rfl,rfl⟩
  | int i t=>exact⟨some (i,t),rfl,rfl⟩
 obtain⟨a2,rfl,e2⟩:∃a:Option (Int×Tok),vu=partValue a∧a.map (·.1)=hi:=by
  cases pu with
  | none=>exact⟨none,rfl,rfl⟩
  | int i t=>exact⟨some (i,t),rfl,rfl⟩
 have hle:(Txt.slice (sOf l) lo hi).length≤sizeLine:=Nat.le_trans (Txt.slice_le _ _ _) (by rw[cW];exact hz)
 refine⟨"str",_,PySem.F.slot_str_getitem.lookup,typeIs_str _ _ _,wpAny_getItem_str_slice (l:=a1) (u:=a2) (st:=none) hs rfl ?_⟩
 subst e1 e2
 refine post_val_or_str ⟨hle,fun t' k=>⟨.str _,H,I.tok _,⟨t',rfl⟩,?_⟩⟩
 have:=mJ l (a1.map (·.1)) (a2.map (·.1))
 unfold Txt.slice at this
 show Q (.str (if _ then _ else _)) H
 exact this▸q
theorem oh (hc:X.calm=true):u5 X "str.index" (fun x xs H Q=>∃a b,x=.str a∧xs=[.str b]∧0≤Txt.find a b∧Q (.int (Txt.find a b)) H):=by
 intro pins s σ H x xs v us Q I rx rs h
 obtain⟨a,b,rfl,rfl,h0,q⟩:=h
 obtain⟨t,rfl⟩:=rx
 obtain⟨u,rfl,t',rfl⟩:=fk rs
 refine index_or (I.ok.hd hc) (fun e=>?_) fun _ _=>⟨.int _,H,I.tok _,⟨_,rfl⟩,q⟩
 omega
theorem l3 {ys:List (List Nat)} :∀{us:List Value},Vals (ys.map fun y=>V.str (sOf y)) us→StrsAre us (ys.map sOf):=by
 induction ys with
 | nil=>intro us r;cases r;exact .nil
 | cons y ys ih =>
  intro us r
  cases r with
  | cons r1 r2 =>
   obtain⟨t,e⟩:=r1
   subst e
   exact .cons _ t (ih r2)
theorem l4 (ys:List (List Nat)):Txt.join (sOf []) (ys.map sOf)=sOf ys.flatten:=by
 have key:∀(r:List (List Nat)) (acc:List Nat),(r.map sOf).foldl (fun acc p=>acc++(sOf []).cps++p.cps) acc.toArray=(acc++r.flatten).toArray:=by
  intro r
  induction r with
  | nil=>intro acc;simp
  | cons a r ih =>
   intro acc
   rw[List.map_cons,List.foldl_cons,List.flatten_cons,←List.append_assoc,←ih (acc++a)]
   simp[sOf]
 cases ys with
 | nil=>rfl
 | cons a r =>
  show Str.mk (((r.map sOf)).foldl (fun acc p=>acc++(sOf []).cps++p.cps) a.toArray)=_
  rw[key]
  rfl
theorem qu:u5 X "str.join" (fun x xs H Q=>∃(p:Addr) (ys:List (List Nat)),x=.str (sOf [])∧xs=[.ref p]∧SqL X.K H p (ys.map fun y=>V.str (sOf y))∧ys.flatten.length≤100000∧Q (.str (sOf ys.flatten)) H):=by
 intro pins s σ H x xs v us Q I rx rs h
 obtain⟨p,ys,rfl,rfl,hp,hl,q⟩:=h
 obtain⟨t,rfl⟩:=rx
 obtain⟨u,rfl,r1⟩:=fk rs
 cases r1
 obtain⟨its,r,pl,hz⟩:=I.list hp
 refine join_list pl.isList (by simpa using l3 r) ?_ fun t' k=>⟨.str _,H,I.tok _,⟨t',rfl⟩,by rw[l4];exact q⟩
 have e:((ys.map sOf).map (·.length)).sum=ys.flatten.length:=by
  rw[List.map_map,List.length_flatten]
  congr 1
  all_goals exact List.map_congr_left fun y _=>cW y
 have e2:(sOf []).length=0:=cW []
 rw[e,e2]
 omega
theorem jH:dh X (.builtin "isinstance") (fun xs H Q=>∃x T t b,xs=[x,.ty T]∧TyOf X.K H x t∧PySem.W.kitOne X.K t (.type T)=some b∧Q (.bl b) H):=by
 intro pins s σ H xs us Q I r h
 obtain⟨x,T,t,b,rfl,ty,e,q⟩:=h
 obtain⟨u,w',rfl,rx,rT⟩:=ii r
 obtain rfl:w'=.type T:=rT
 exact mD I rx ty e fun tk=>⟨.bl b,H,I.tok _,rfl,q⟩
def wj (l:List Nat):It:=⟨fun i _=>i< l.length,fun i H x H'=>H'=H∧∃c,l[i]? =some c∧x=.str (sOf [c]),fun i _=>l.length≤i⟩
def uc (tl:TE):TI:=fun σ H R=>tl σ H fun x H1=>∃l,x=.str (sOf l)∧R (wj l) H1
end
theorem oi {P:Program} {w:World} {K:PySem.W.Frag} {tg:Expr} (l:List Nat) (it:Addr) (ty:String) (t:Tok) (hty:ty="str_ascii_iterator" ∨ty="str_iterator")
  (W:∀A':Around,A'.handled=none→Walks P w A' it [it] [it] l.length (SignAt (sOf l)) (fun i h=>h.IsStrIter it ty (sOf l) t i)):
  Turn P w K tg (wj l) [it] it (fun i h=>i≤l.length∧h.IsStrIter it ty (sOf l) t i) where
 mem:=by simp
 obj:=fun i h st b hb=>by
  have e:b=it:=by simpa using hb
  subst e
  obtain⟨_,o,e,c,d⟩:=st
  exact⟨o,e,fun v z=>by rw[d]at z;cases z⟩
 keep:=fun i h h' st k=>⟨st.1,by obtain⟨o,e,r⟩:=st.2;exact⟨o,k it (by simp) o e,r⟩⟩
 item:=by
  intro X hP hw hK hc i pins s σ H E I hf st hg
  subst hP hw hK
  obtain⟨f0,f1,f2,f3,f4,f5⟩:=hf it (by simp)
  refine(W X.A (I.ok.hd hc)).item i s _ _ hg st.2 fun v h' tk hv st' kk=>?_
  obtain⟨c,u,hc',rfl⟩:=hv
  have I1:Inv X pins σ H {s with heap:=h',toks:=tk} :=I.turned (fun b o hb e=>kk b o (by simpa using hb) e) f0 f1 f3 f4 f5
  obtain⟨o,e,c1,d⟩:=id st'
  refine⟨_,rfl,lE (s:={s with heap:=h',toks:=tk}) (n:=ty) e c1 d (by rcases hty with rfl | rfl <;> decide) ⟨.str (sOf [c]),H,I1,⟨u,rfl⟩,⟨rfl,c,?_,rfl⟩,⟨hg,st'⟩,fun b hb=>(hf b hb).1⟩⟩
  simpa [sOf] using hc'
 done:=by
  intro X hP hw hK hc i pins s σ H E I hf st hg
  subst hP hw hK
  obtain⟨f0,f1,f2,f3,f4,f5⟩:=hf it (by simp)
  have e:i=l.length:=Nat.le_antisymm st.1 hg
  subst e
  exact(W X.A (I.ok.hd hc)).done s _ _ st.2 fun h' tk kk=>⟨rfl,I.turned (fun b o hb e=>kk b o (by simpa using hb) e) f0 f1 f3 f4 f5⟩
 self:=fun A i s Q E st h=>by
  rcases hty with rfl | rfl
  ·exact wpAny_pyIter_striter_ascii st.2 h
  ·exact wpAny_pyIter_striter_wide st.2 h
theorem gE {X:Cx} {tg l:Expr} {tl:TE} (hl:PE X l tl):PI X tg l (uc tl):=by
 intro pins s σ H R I h
 refine bO (hl pins s σ H _ I h) fun v s1 ⟨x,H1,I1,r1,q1⟩=>?_
 obtain⟨y,e,q⟩:=q1
 subst e
 obtain⟨t,rfl⟩:=r1
 have hn:(sOf y).cps.size=y.length:=by simp[sOf]
 have fin:∀(ob:Obj) (ty:String),(ty="str_ascii_iterator" ∨ty="str_iterator")→(∀A':Around,A'.handled=none→Walks X.prog X.w A' s1.heap.objs.size [s1.heap.objs.size] [s1.heap.objs.size] y.length (SignAt (sOf y)) (fun i h=>h.IsStrIter s1.heap.objs.size ty (sOf y) t i))→
   (s1.heap.push ob).IsStrIter s1.heap.objs.size ty (sOf y) t 0→vL X pins σ tg R (.ref s1.heap.objs.size) {s1 with heap:=s1.heap.push ob} :=fun ob ty hty W st=>by
  refine⟨s1.heap.objs.size,[s1.heap.objs.size],_,_,H1,rfl,I1.kept (t':=s1.toks) fun b o e=>Heap.get?_push_of_some _ e,oi y _ ty t hty W,⟨Nat.zero_le _,st⟩,fun b hb=>?_,q⟩
  have e:b=s1.heap.objs.size:=by simpa using hb
  subst e
  exact I1.fpOk (Nat.le_refl _) (I1.hok.fresh (Nat.le_refl _))
 cases ha:(sOf y).cps.all (· <128)
 ·exact wpAny_pyIter_wide ha (fin _ "str_iterator" (.inr rfl) (fun A' hA=>hn▸Walks.strWide hA _ (sOf y) t) ⟨_,Heap.get?_push_size _ rfl,rfl,rfl⟩)
 ·exact wpAny_pyIter_ascii ha (fin _ "str_ascii_iterator" (.inl rfl) (fun A' hA=>hn▸Walks.strAscii hA _ (sOf y) t) ⟨_,Heap.get?_push_size _ rfl,rfl,rfl⟩)
end L2
namespace L2
open PySem PySem.Spec PyProof.Rows
def bM (env:Env):List (Str×NameKind)→List (Str×Addr)→List (Str×Addr)
 | [],acc=>acc
 | (n,k)::r,acc=>bM env r (if(k == .free)=true then(n,(env.cells.lookup n).getD 0)::acc else acc)
theorem dF {scope:Scope} {env:Env} (h:∀x∈scope.names,x.2=.free→∃c,env.cells.lookup x.1=some c):closureFor scope env=pure (bM env scope.names []):=by
 simp only[closureFor]
 have key:∀(names:List (Str×NameKind)) (acc:List (Str×Addr)),(∀x∈names,x.2=.free→∃c,env.cells.lookup x.1=some c)→
   (forIn names acc fun(x:Str×NameKind) (cs:List (Str×Addr))=>if(x.2 == .free)=true then(do let a ←cellOf env x.1;pure (ForInStep.yield ((x.1,a)::cs)))else pure (ForInStep.yield cs))=(pure (bM env names acc):Sem _):=by
  intro names
  induction names with
  | nil=>intro acc _;rfl
  | cons x r ih =>
   intro acc hx
   obtain⟨n,k⟩:=x
   rw[List.forIn_cons]
   have hr:∀y∈r,y.2=.free→∃c,env.cells.lookup y.1=some c:=fun y hy=>hx y (List.mem_cons_of_mem _ hy)
   unfold bM
   by_cases hk:(k == NameKind.free)=true
   ·obtain⟨c,hc⟩:=hx (n,k) List.mem_cons_self (by simpa using hk)
    have hc:env.cells.lookup n=some c:=hc
    simp only[hk,if_true]
    unfold cellOf
    simp only[hc,Option.getD_some]
    exact ih _ hr
   ·simp only[hk,if_false]
    exact ih _ hr
 have:=key scope.names [] h
 rw[this]
 rfl
theorem eO {env:Env} {x:Str} {c:Addr} :∀(names:List (Str×NameKind)) (acc:List (Str×Addr)),(∀y∈names,y.2=.free→∃c,env.cells.lookup y.1=some c)→(bM env names acc).lookup x=some c→
  ((x,NameKind.free)∈names∧env.cells.lookup x=some c)∨acc.lookup x=some c
 | [],_,_,h=>.inr h
 | (n, k) :: r, acc, hx, h => by
  unfold bM at h
  rcases eO r _ (fun y hy=>hx y (List.mem_cons_of_mem _ hy)) h with⟨q1,q2⟩ | q
  ·exact .inl ⟨List.mem_cons_of_mem _ q1,q2⟩
  ·by_cases hk:(k == NameKind.free)=true
   ·rw[if_pos hk]at q
    have hk':k=.free:=by simpa using hk
    subst hk'
    rw[List.lookup_cons]at q
    cases hb:x == n with
    | true =>
     rw[hb]at q
     have e:x=n:=beq_iff_eq.mp hb
     subst e
     obtain⟨c',hc⟩:=hx (x,.free) List.mem_cons_self rfl
     have hc:env.cells.lookup x=some c':=hc
     rw[hc]at q
     simp at q
     subst q
     exact .inl ⟨List.mem_cons_self,hc⟩
    | false=>rw[hb]at q;exact .inr q
   ·rw[if_neg hk]at q;exact .inr q
theorem fY {env:Env} {x:Str} {c:Addr} :∀(names:List (Str×NameKind)) (acc:List (Str×Addr)),acc.lookup x=some c→env.cells.lookup x=some c→(bM env names acc).lookup x=some c
 | [],_,h,_=>h
 | (n, k) :: r, acc, h, he => by
  unfold bM
  refine fY r _ ?_ he
  by_cases hk:(k == NameKind.free)=true
  ·rw[if_pos hk,List.lookup_cons]
   cases hb:x == n with
   | true =>
    have e:x=n:=beq_iff_eq.mp hb
    subst e
    simp[he]
   | false=>exact h
  ·rw[if_neg hk];exact h
theorem fZ {env:Env} {x:Str} {c:Addr} :∀(names:List (Str×NameKind)) (acc:List (Str×Addr)),(x,NameKind.free)∈names→env.cells.lookup x=some c→(bM env names acc).lookup x=some c
 | (n, k) :: r, acc, h, he => by
  unfold bM
  rcases List.mem_cons.mp h with e | h
  ·cases e
   exact fY r _ (by simp[he]) he
  ·exact fZ r _ h he
theorem bZ:∀(names:List (Str×NameKind)) (n:Nat) (acc:List (Str×Addr)),cellsFrom n names acc=cellsFrom n names []++acc
 | [],_,_=>rfl
 | (x, k) :: r, n, acc => by
  unfold cellsFrom
  split
  ·rw[bZ r _ ((x,n)::acc),bZ r _ [(x,n)],List.append_assoc];rfl
  ·exact bZ r n acc
theorem d4:∀(names:List (Str×NameKind)) (n:Nat) {x:Str} {c:Addr},(x,c)∈cellsFrom n names []→(x,NameKind.cell)∈names
 | [],_,_,_,h=>by cases h
 | (y, k) :: r, n, x, c, h => by
  unfold cellsFrom at h
  split at h
  ·rename_i hk
   rw[bZ]at h
   rcases List.mem_append.mp h with h | h
   ·exact List.mem_cons_of_mem _ (d4 r _ h)
   ·have e:(x,c)=(y,n):=by simpa using h
    cases e
    have hk':k=.cell:=by simpa using hk
    subst hk'
    exact List.mem_cons_self
  ·exact List.mem_cons_of_mem _ (d4 r _ h)
theorem gF {M:Model} {A:Around} {E:Value→Shared→Prop} {s:Shared} {scope:Scope} {env:Env} {cl:List (Str×Addr)} {Q:Env→Shared→Prop}
  (hQ:Q (newEnv scope s.heap.objs.size env.globals (cellsFrom (s.heap.objs.size+1) scope.names cl) env.qual none .none (some env) builtinsNs) {s with heap:=pushCells (s.heap.push {cls:=.type "dict",data:=.dict #[]}) scope.names}):
  wpAny M A (newFunctionEnv scope env.globals cl [] env.qual none .none (some env)) Q E s:=by
 simp only[newFunctionEnv,Option.isSome_some,if_true]
 refine wpAny_bind (wpAny_alloc ?_)
 refine wpAny_bind (wpAny_layCells _ (fun name kind cells=>by cases hkc:kind == NameKind.cell <;> simp[hkc]) _ _ _ _ ?_)
 rw[show({s with heap:=s.heap.push {cls:=.type "dict",data:=.dict #[]}} :Shared).heap.objs.size=s.heap.objs.size+1 from Heap.size_push ..]
 simp only[List.forIn_nil]
 exact wpAny_bind (wpAny_pure (wpAny_pure hQ))
section
variable {prog:Program} {w:World} {A:Around} {R:Result→Shared→Prop} {s:Shared}
theorem ft {elt target iter:Expr} {ifs:List Expr} {scope:Scope} {pos:Pos} {it acc:Value} {env:Env} (I:Nat→Shared→Prop)
  (turn:∀n s,I n s→wpAny (model prog w) A (pyNext it) (fun r s₁=>match r with
   | none=>R (.ok .next) s₁
   | some v=>wpAny (model prog w) A (letOwnedTupleGo target it v) (fun _ s₁'=>wpAny (model prog w) A (assign target env v) (fun _ s₂=>
     wpAny (model prog w) A (forIn ifs true fun c r=>if r=true then do let ok ←isTrue c env (eval c env);pure (ForInStep.yield ok)else pure (ForInStep.yield r)) (fun ok s₃=>
      if ok=true then wpAny (model prog w) A (eval elt env) (fun x s₄=>
       wpAny (model prog w) A (call (.builtin "list.append") [acc,x]) (fun _ s₅=>∃m,m< n∧I m s₅) (fun _ _=>False) s₄) (fun _ _=>False) s₃
      else ∃m,m< n∧I m s₃) (fun _ _=>False) s₂) (fun _ _=>False) s₁') (fun _ _=>False) s₁) (fun _ _=>False) s)
  (n:Nat) (h:I n s):codeAny (model prog w) A (.compLoop (.ListComp elt [⟨target,iter,ifs,0⟩] scope pos) 0 it acc env) R s:=by
 refine codeAny_loop rfl I (fun n s hI=>?_) n h
 show wpAny _ A ((compTurn (.ListComp elt [⟨target,iter,ifs,0⟩] scope pos) 0 it acc env).onRaise (fun x=>do noteFrame x env;theTreesLotGoes x)) _ _ s
 refine wpAny_noted ?_
 rw[compTurn_list]
 refine wpAny_bind (wpAny_standAt (wpAny_bind (wpAny_mono (turn n s hI) (fun r s₁ h₁=>?_) fun _ _ h'=>h'.elim)))
 cases r with
 | none=>exact wpAny_pure h₁
 | some v =>
  refine wpAny_bind (wpAny_mono h₁ (fun _ s₁' h₁'=>?_) fun _ _ h'=>h'.elim)
  refine wpAny_bind (wpAny_mono h₁' (fun _ s₂ h₂=>wpAny_bind (wpAny_mono h₂ (fun ok s₃ h₃=>?_) fun _ _ h'=>h'.elim)) fun _ _ h'=>h'.elim)
  cases ok with
  | true =>
   rw[if_pos rfl]at h₃
   exact wpAny_bind (wpAny_bind (wpAny_mono h₃ (fun x s₄ h₄=>wpAny_bind (wpAny_mono h₄ (fun _ s₅ h₅=>wpAny_pure (wpAny_pure ⟨rfl,h₅⟩)) fun _ _ h'=>h'.elim)) fun _ _ h'=>h'.elim))
  | false =>
   rw[if_neg Bool.false_ne_true]at h₃
   exact wpAny_pure ⟨rfl,h₃⟩
end
def oj (scope:Scope) (x:Str):Bool:=scope.names.lookup x == some .local || scope.names.lookup x == some .cell
def aD (X:Cx) (scope:Scope) (N:List Str) (s:Shared) (H:Hp) (C:Addr) (fp:List Addr):Cx:=
 {X with N:=N,s₀:=s,H₀:=H,env:=compEnvC scope (cellsFrom (C+1) scope.names (bM X.env scope.names [])) C X.env,outer:=X.stack,ex:=fp,fn:=oj scope,pn:=[],xe:=fun _ _=>False}
def bD (cap:List (Option Nat)) (σ:St):St:=cap.map fun o=>o.bind fun j=>(σ[j]?).bind id
structure CompScope (X:Cx) (scope:Scope) (N:List Str) (cap:List (Option Nat)):Prop where
 kind:scope.kind=.function
 nd:N.Nodup
 len:cap.length=N.length
 uniq:(scope.names.map (·.1)).Nodup
 free:∀x∈scope.names,x.2=.free→(X.env.kindOf x.1=some .cell∨X.env.kindOf x.1=some .free)
 cap:∀(k:Nat) (x:Str) (j:Nat),N[k]? =some x→cap[k]? =some (some j)→X.N[j]? =some x∧(x,NameKind.free)∈scope.names
theorem cw {α:Type} :∀{l:List (Str×α)} {x:Str} {k:α},(l.map (·.1)).Nodup→(x,k)∈l→l.lookup x=some k
 | (y, j) :: r, x, k, nd, h => by
  obtain⟨n1,n2⟩:=List.nodup_cons.mp (show(y::r.map (·.1)).Nodup from nd)
  rw[List.lookup_cons]
  rcases List.mem_cons.mp h with e | h
  ·cases e;simp
  ·have:(x == y)=false:=beq_eq_false_iff_ne.mpr fun e=>n1 (e▸List.mem_map.mpr ⟨(x,k),h,rfl⟩)
   rw[this]
   exact cw n2 h
theorem dj {env:Env} :∀{names:List (Str×NameKind)} {x:Str},(names.map fun(p:Str×NameKind)=>if(p.2 == NameKind.free && env.scope.kind == .function && env.kindOf p.1 == some .cell)=true then(p.1,NameKind.cell)else(p.1,p.2)).lookup x=
  (names.lookup x).map fun k=>if(k == NameKind.free && env.scope.kind == .function && env.kindOf x == some .cell)=true then .cell else k
 | [],_=>rfl
 | (n, k) :: r, x => by
  rw[List.map_cons]
  have ih:= @dj env r x
  by_cases hx:x=n
  ·subst hx
   by_cases hc:(k == NameKind.free && env.scope.kind == .function && env.kindOf x == some .cell)=true
   ·simp only[hc,if_true,List.lookup_cons,beq_self_eq_true,Option.map_some]
   ·rw[if_neg hc,List.lookup_cons,List.lookup_cons,beq_self_eq_true];simp only[Option.map_some];rw[if_neg hc]
  ·have hb:(x == n)=false:=beq_eq_false_iff_ne.mpr hx
   by_cases hc:(k == NameKind.free && env.scope.kind == .function && env.kindOf n == some .cell)=true
   ·simp only[hc,if_true,List.lookup_cons,hb];exact ih
   ·rw[if_neg hc,List.lookup_cons,List.lookup_cons,hb];exact ih
end L2
namespace L2
open PySem PySem.Spec PyProof.Rows
def sJ (X:Cx) (ifs:List Expr) (t:TT):Prop:=
 ∀ (pins : List (Addr × Obj)) (s : Shared) (σ : St) (H : Hp) (Q : Bool → Hp → Prop), Inv X pins σ H s → t σ H Q →
  wpAny (model X.prog X.w) X.A (forIn ifs true fun c r=>if r=true then do let ok ←isTrue c X.env (eval c X.env);pure (ForInStep.yield ok)else pure (ForInStep.yield r)) (TP X pins σ Q) X.xe s
def ud:TT:=fun _ H Q=>Q true H
theorem dZ {X:Cx} :sJ X [] ud:=fun _ _ _ H _ I h=>wpAny_tests_nil ⟨H,I,h⟩
theorem lP {X:Cx} {c:Expr} {t:TT} (h:PT X c t):sJ X [c] t:=fun pins s σ H Q I hq=>wpAny_tests_one (h pins s σ H Q I hq)
def Keep:St→St→Prop
 | [],_=>True
 | none::a,_::b=>Keep a b
 | some v::a,some u::b=>v=u∧Keep a b
 | _,_=>False
theorem Keep.get:∀{a b:St} {j:Nat} {v:V},Keep a b→a[j]? =some (some v)→b[j]? =some (some v)
 | [],_,_,_,_,h=>by simp at h
 | none::a,_::b,0,_,_,h=>by simp at h
 | none::a,_::b,j+1,v,k,h=>Keep.get (j:=j) (a:=a) (b:=b) k h
 | some w :: a, some u :: b, 0, v, k, h => by
  have e:w=u:=k.1
  subst e
  exact h
 | some w::a,some u::b,j+1,v,k,h=>Keep.get (j:=j) (a:=a) (b:=b) k.2 h
 | none::_,[],_,_,k,_=>k.elim
 | some _::_,[],_,_,k,_=>k.elim
 | some _::_,none::_,_,_,k,_=>k.elim
def ue (cap:List (Option Nat)) (g:TG) (tf:TT) (te:TE) (σ:St) (H1:Hp) (Q:VK) (J:It):Prop:=∃W:Nat→Nat→List V→Hp→Prop,(∃m,W 0 m [] H1)∧∀i m ys H,W i m ys H→ys.length< sizeLine∧
  ((J.stop i H∧∀D,H D=none→Q (.ref D) (bu H D (.lst ys)))∨
   (J.go i H∧∃N:List V→Hp→Prop,(∀ys' H',N ys' H'→∃m',m'< m∧W (i+1) m' ys' H')∧∀x H',J.yld i H x H'→g x (bD cap σ) H' fun σ2 H2=>Keep (bD cap σ) σ2∧tf σ2 H2 fun b H3=>if b=true then te σ2 H3 fun y H4=>N (ys++ [y]) H4 else N ys H3))
def jI (cap:List (Option Nat)) (wi:TI) (g:TG) (tf:TT) (te:TE):TE:=fun σ H Q=>wi σ H fun J H1=>ue cap g tf te σ H1 Q J
theorem cn {X:Cx} {scope:Scope} {C:Addr} {x:Str} {c:Addr} (frc:∀x∈scope.names,x.2=.free→∃c,X.env.cells.lookup x.1=some c)
  (h:(cellsFrom (C+1) scope.names (bM X.env scope.names [])).lookup x=some c):(x,c)∈cellsFrom (C+1) scope.names []∨((x,NameKind.free)∈scope.names∧X.env.cells.lookup x=some c):=by
 rw[bZ,List.lookup_append]at h
 cases e:(cellsFrom (C+1) scope.names []).lookup x with
 | some d =>
  rw[e]at h
  have h:some d=some c:=h
  cases h
  exact .inl (PySem.mem_of_lookup e)
 | none =>
  rw[e]at h
  have h:(bM X.env scope.names []).lookup x=some c:=h
  rcases eO _ _ frc h with q | q
  ·exact .inr q
  ·cases q
theorem jJ {X:Cx} {scope:Scope} {C:Addr} {x:Str} {c:Addr} (uq:(scope.names.map (·.1)).Nodup) (hx:(x,NameKind.free)∈scope.names) (hc:X.env.cells.lookup x=some c):
  (cellsFrom (C+1) scope.names (bM X.env scope.names [])).lookup x=some c:=by
 rw[bZ,List.lookup_append]
 cases e:(cellsFrom (C+1) scope.names []).lookup x with
 | some d =>
  have h1:=cw uq (d4 _ _ (PySem.mem_of_lookup e))
  have h2:=cw uq hx
  rw[h1]at h2;cases h2
 | none=>exact fZ _ _ hx hc
section
variable {X:Cx} {scope:Scope} {N:List Str} {cap:List (Option Nat)} {pins:List (Addr×Obj)} {σ:St} {H:Hp} {s:Shared} {C:Addr} {fp:List Addr}
theorem mK {h4:Heap} (S:CompScope X scope N cap) (I:Inv X pins σ H s) (hC:s.heap.objs.size≤C) (ck:CellsOk h4 (C+1) (cellsFrom (C+1) scope.names []))
  (hf:∀b∈fp,FpOk X pins H b) (hlt:∀b∈fp,b< C):(aD X scope N s H C fp).Ok:=by
 have frc:∀x∈scope.names,x.2=.free→∃c,X.env.cells.lookup x.1=some c:=fun x hx hk=>I.ok.has x.1 (S.free x hx hk)
 have old:∀x c,X.env.cells.lookup x=some c→c< C:=fun x c e=>by
  obtain⟨v,q⟩:=I.cell x c e
  exact Nat.lt_of_lt_of_le q.lt hC
 have own:∀x c,(x,c)∈cellsFrom (C+1) scope.names []→C< c:=fun x c e=>(ck.empty x c e).2
 refine⟨I.ok.mod,S.kind,I.ok.glob,I.ok.blt,hC,fun x y c h1 h2=>?_,fun x hx=>?_,fun x c hfn h=>?_,I.ok.hd,I.ok.frames,.inl rfl,fun b hb=>⟨Nat.ne_of_lt (hlt b hb),fun x c h=>?_⟩,I.bs,Nat.le_trans I.ok.bsz I.sz,fun b o e hb=>?_,fun b hb z=>?_,I.stack,I.stkFree⟩
 ·rcases cn frc h1 with a | ⟨a1,a2⟩ <;> rcases cn frc h2 with b | ⟨b1,b2⟩
  ·exact name_of_addr ck.apart a b
  ·exact absurd (Nat.lt_trans (own x c a) (old y c b2)) (Nat.lt_irrefl _)
  ·exact absurd (Nat.lt_trans (own y c b) (old x c a2)) (Nat.lt_irrefl _)
  ·exact I.ok.inj x y c a2 b2
 ·have hx:(relabel scope X.env).names.lookup x=some .cell∨(relabel scope X.env).names.lookup x=some .free:=hx
  have e:(relabel scope X.env).names.lookup x=_:=dj (env:=X.env) (names:=scope.names) (x:=x)
  rw[e]at hx
  cases q:scope.names.lookup x with
  | none=>rw[q]at hx;rcases hx with z | z <;> cases z
  | some k =>
   have hm:=PySem.mem_of_lookup q
   by_cases hk:k=.free
   ·subst hk
    obtain⟨c,hc⟩:=frc _ hm rfl
    exact⟨c,jJ S.uniq hm hc⟩
   ·have hk':(k == NameKind.free)=false:=by simpa using hk
    rw[q]at hx
    simp only[Option.map_some,hk',Bool.false_and,Bool.false_eq_true,if_false]at hx
    have hkc:k=.cell:=by
     rcases hx with z | z
     ·exact Option.some.inj z
     ·exact absurd (Option.some.inj z) hk
    subst hkc
    exact Option.isSome_iff_exists.mp (PySem.W.cellsFrom_some scope.names (C+1) _ (.inl q))
 ·rcases cn frc h with a | ⟨a1,a2⟩
  ·exact Nat.le_trans hC (Nat.le_of_lt (own x c a))
  ·have q:=cw S.uniq a1
   have z:oj scope x=true:=hfn
   unfold oj at z
   rw[q]at z
   exact absurd z (by decide)
 ·rcases cn frc h with a | ⟨a1,a2⟩
  ·exact Nat.ne_of_gt (Nat.lt_trans (hlt b hb) (own x c a))
  ·exact(hf b hb).2.2.2.2.1 x c a2
 ·rcases (hf b hb).2.2.2.1 with z | z
  ·exact I.ok.noex b o e z
  ·exact absurd (Nat.lt_of_lt_of_le (Nat.lt_of_lt_of_le (Heap.lt_size e) I.ok.bsz) z) (Nat.lt_irrefl _)
 ·rcases List.mem_cons.mp (I.stkSub b z)with q | q
  ·exact(hf b hb).2.1 q
  ·exact(hf b hb).2.2.1 q
theorem gG {s4:Shared} (S:CompScope X scope N cap) (I:Inv X pins σ H s) (hC:s.heap.objs.size≤C) (ck:CellsOk s4.heap (C+1) (cellsFrom (C+1) scope.names []))
  (hf:∀b∈fp,FpOk X pins H b) (hlt:∀b∈fp,b< C) (h4:∃h' tk,s4={s with heap:=h',toks:=tk}) (hn:s4.heap.Ns C fun _=>none) (hk:∀b o,s.heap.get? b=some o→s4.heap.get? b=some o):
  Inv (aD X scope N s H C fp) [] (bD cap σ) H s4:=by
 have frc:∀x∈scope.names,x.2=.free→∃c,X.env.cells.lookup x.1=some c:=fun x hx hk=>I.ok.has x.1 (S.free x hx hk)
 obtain⟨h',tk,rfl⟩:=h4
 refine⟨mK S I hC ck hf hlt,rfl,I.bare,Un.kept hk,⟨_,hn,fun i x v e1 e2 e3=>?_⟩,fun x c h=>?_,I.hok.fresh hC,fun x c h=>?_,fun p hp=>absurd (show p∈([]:List (Addr×Obj))from hp) (by simp),I.hok.kept hk,?_⟩
 ·have e1:N[i]? =some x:=e1
  unfold bD at e2
  rw[List.getElem?_map]at e2
  cases q:cap[i]? with
  | none=>rw[q]at e2;cases e2
  | some o =>
   cases o with
   | none=>rw[q]at e2;cases e2
   | some j =>
    rw[q]at e2
    obtain⟨hj,hm⟩:=S.cap i x j e1 q
    have e2:σ[j]?.bind id=some v:=Option.some.inj e2
    have e2':σ[j]? =some (some v):=by
     cases z:σ[j]? with
     | none=>rw[z]at e2;cases e2
     | some o=>rw[z]at e2;exact congrArg some e2
    have kd:=S.free _ hm rfl
    obtain⟨m,_,hl⟩:=I.loc
    obtain⟨u,r,lk⟩:=hl j x v hj e2' (by rcases kd with z | z;exact .inr (.inl z);exact .inr (.inr z))
    refine⟨u,r,.inr ?_⟩
    rcases lk with⟨z,_⟩ | ⟨_,c,hc,hcell⟩
    ·rcases kd with q | q <;> · rw[show X.env.kindOf x=_ from q]at z;cases z
    ·refine⟨?_,c,jJ S.uniq hm hc,hcell.keeps hk⟩
     have e:(relabel scope X.env).names.lookup x=_:=dj (env:=X.env) (names:=scope.names) (x:=x)
     rw[cw S.uniq hm]at e
     simp only[Option.map_some]at e
     show(relabel scope X.env).names.lookup x=some .cell∨(relabel scope X.env).names.lookup x=some .free
     rw[e]
     split
     ·exact .inl rfl
     ·exact .inr rfl
 ·rcases cn frc h with a | ⟨a1,a2⟩
  ·exact⟨_,(ck.empty x c a).1⟩
  ·obtain⟨v,q⟩:=I.cell x c a2
   exact⟨v,q.keeps hk⟩
 ·rcases cn frc h with a | ⟨a1,a2⟩
  ·exact I.hok.fresh (Nat.le_trans hC (Nat.le_of_lt (ck.empty x c a).2))
  ·exact I.freeC x c a2
 ·show(bD cap σ).length=N.length
  unfold bD
  rw[List.length_map,S.len]
end
end L2
namespace L2
open PySem PySem.Spec PyProof.Rows
abbrev cR (its:List Value) (k:Nat):Obj:={cls:=.type "list",data:=.seq its.toArray k}
section
variable {X:Cx} {scope:Scope} {N:List Str} {cap:List (Option Nat)} {tg iter elt:Expr} {ifs:List Expr} {pos:Pos} {wi:TI} {g:TG} {tf:TT} {te:TE}
theorem ir (S:CompScope X scope N cap) (hc:X.calm=true)
  (hg:∀s H C fp,PG (aD X scope N s H C fp) tg g) (hf:∀s H C fp,sJ (aD X scope N s H C fp) ifs tf) (he:∀s H C fp,PE (aD X scope N s H C fp) elt te)
  {pins:List (Addr×Obj)} {σ:St} {H2:Hp} {s2:Shared} {it:Addr} {fp:List Addr} {tn:Nat→Heap→Prop} {J:It} {Qv:VK} {E:Value→Shared→Prop} {RR:Value→Addr→Result→Shared→Prop}
  (I2:Inv X pins σ H2 s2) (T:Turn X.prog X.w X.K tg J fp it tn) (st2:tn 0 s2.heap) (f2:∀b∈fp,FpOk X pins H2 b) {W:Nat→Nat→List V→Hp→Prop} (w0:∃m,W 0 m [] H2)
  (turn:∀i m ys H,W i m ys H→ys.length< sizeLine∧((J.stop i H∧∀D,H D=none→Qv (.ref D) (bu H D (.lst ys)))∨
   (J.go i H∧∃N:List V→Hp→Prop,(∀ys' H',N ys' H'→∃m',m'< m∧W (i+1) m' ys' H')∧∀x H',J.yld i H x H'→g x (bD cap σ) H' fun σ2 H2=>Keep (bD cap σ) σ2∧tf σ2 H2 fun b H3=>if b=true then te σ2 H3 fun y H4=>N (ys++ [y]) H4 else N ys H3)))
  (fin:∀(D C:Addr) (σ':St) (H':Hp) (s':Shared) (its:List Value) (k:Nat) (ys:List V),s2.heap.objs.size≤D→s2.heap.objs.size≤C→D≠C→Inv (aD X scope N s2 H2 C fp) [(D,cR its k)] σ' H' s'→Vals ys its→ys.length≤sizeLine→
   Qv (.ref D) (bu H' D (.lst ys))→RR (.ref D) C (.ok .next) s'):
  wpAny (model X.prog X.w) X.A (newList []) (fun acc s₃=>wpAny (model X.prog X.w) X.A (newFunctionEnv scope X.env.globals (bM X.env scope.names []) [] X.env.qual none .none (some X.env)) (fun cenv s₄=>
   codeAny (model X.prog X.w) X.A (.compStart (.ListComp elt [⟨tg,iter,ifs,0⟩] scope pos) 0 (.ref it) acc {cenv with scope:=relabel scope X.env}) (RR acc cenv.locals) s₄) E s₃) E s2:=by
 refine wpAny_newObj_type (gF ?_)
 generalize hD:s2.heap.objs.size=D
 generalize hH3:s2.heap.push {cls:=.type "list",dict:=none,data:=.seq ([]:List Value).toArray} =h3
 have hz3:h3.objs.size=D+1:=by rw[←hH3,Heap.size_push,hD]
 dsimp only
 have eC:({s2 with heap:=h3} :Shared).heap.objs.size=D+1:=hz3
 rw[show h3.objs.size=D+1 from hz3]
 generalize hH4:pushCells (h3.push {cls:=.type "dict",data:=.dict #[]}) scope.names=h4
 have hz3':(h3.push {cls:=.type "dict",data:=.dict #[]}).objs.size=D+1+1:=by rw[Heap.size_push,hz3]
 have ck:CellsOk h4 (D+1+1) (cellsFrom (D+1+1) scope.names []):=by
  have:=cellsFrom_ok scope.names (h3.push {cls:=.type "dict",data:=.dict #[]}) (D+1+1) [] ⟨fun _ _ hm=>(nomatch hm),List.Pairwise.nil⟩ (by rw[hz3'];exact Nat.le_refl _)
  rw[hz3',hH4]at this
  exact this
 have k23:∀b o,s2.heap.get? b=some o→h3.get? b=some o:=fun b o e=>by rw[←hH3];exact Heap.get?_push_of_some _ e
 have k34:∀b o,h3.get? b=some o→h4.get? b=some o:=fun b o e=>by rw[←hH4];exact pushCells_keeps _ _ b o (Heap.get?_push_of_some _ e)
 have hD4:h4.get? D=some (cR [] 0):=k34 _ _ (by rw[←hH3,←hD];exact Heap.get?_push_size _ rfl)
 have hn4:h4.Ns (D+1) fun _=>none:=by
  rw[←hH4,←hz3]
  exact(Heap.Ns.new h3 (.type "dict")).keeps (pushCells_keeps _ _)
 have fpD:∀b∈fp,b< D:=fun b hb=>by
  obtain⟨o,e,_⟩:=T.obj _ _ st2 b hb
  rw[←hD];exact Heap.lt_size e
 have hlt:∀b∈fp,b< D+1:=fun b hb=>Nat.lt_succ_of_lt (fpD b hb)
 have hDC:s2.heap.objs.size≤D+1:=by rw[hD];exact Nat.le_succ _
 have hDs:s2.heap.objs.size≤D:=by rw[hD];exact Nat.le_refl _
 have IC:Inv (aD X scope N s2 H2 (D+1) fp) [] (bD cap σ) H2 {s2 with heap:=h4} :=
  gG S I2 hDC ck f2 hlt ⟨_,_,rfl⟩ hn4 fun b o e=>k34 b o (k23 b o e)
 have okC:=IC.ok
 have nfs:∀{b:Addr},s2.heap.objs.size≤b→b∉frs X.stack:=fun {b} hb hm=>by
  obtain⟨_,o,ho,_⟩:=I2.stack.mem hm
  exact absurd (Nat.lt_of_lt_of_le (Heap.lt_size ho) hb) (Nat.lt_irrefl _)
 have frc:∀x∈scope.names,x.2=.free→∃c,X.env.cells.lookup x.1=some c:=fun x hx hk=>I2.ok.has x.1 (S.free x hx hk)
 have cellsD:∀x c,(aD X scope N s2 H2 (D+1) fp).env.cells.lookup x=some c→c≠D:=fun x c e=>by
  rcases cn frc e with a | ⟨_,a⟩
  ·have q:D+1+1≤c:=(ck.empty x c a).2
   exact Nat.ne_of_gt (Nat.lt_of_lt_of_le (Nat.lt_of_lt_of_le (Nat.lt_succ_self D) (Nat.le_succ _)) q)
  ·obtain⟨v,q⟩:=I2.cell x c a
   have:=q.lt
   rw[hD]at this
   exact Nat.ne_of_lt this
 have fpO:∀{H':Hp} {its:List Value} {k:Nat},(∀b∈fp,H' b=none)→∀b∈fp,FpOk (aD X scope N s2 H2 (D+1) fp) [(D,cR its k)] H' b:=fun {H' its k} hn b hb=>
  ⟨hn b hb,Nat.ne_of_lt (hlt b hb),okC.exfs b hb,.inl hb,(okC.exf b hb).2,fun p hp=>by
   have e:p=(D,cR its k):=by simpa [aD] using hp
   subst e
   exact Nat.ne_of_gt (fpD b hb)⟩
 have pinD:∀{σ':St} {H':Hp} {s':Shared} {its:List Value} {k:Nat},Inv (aD X scope N s2 H2 (D+1) fp) [] σ' H' s'→s'.heap.get? D=some (cR its k)→H' D=none→Inv (aD X scope N s2 H2 (D+1) fp) [(D,cR its k)] σ' H' s':=fun {σ' H' s' its k} J e n=>
  J.pins_of fun p hp=>by
   have e':p=(D,cR its k):=by simpa using hp
   subst e'
   exact⟨e,n,Nat.ne_of_lt (Nat.lt_succ_self _),nfs hDs,fun v z=>by
    have z':Data.seq its.toArray k=Data.cell v:=z
    cases z'⟩
 have loop:codeAny (model X.prog X.w) X.A (.compLoop (.ListComp elt [⟨tg,iter,ifs,0⟩] scope pos) 0 (.ref it) (.ref D) (aD X scope N s2 H2 (D+1) fp).env) (RR (.ref D) (D+1)) {s2 with heap:=h4} :=by
  obtain⟨m0,w0⟩:=w0
  refine ft (fun n s'=>∃i ys its k σ' H',Inv (aD X scope N s2 H2 (D+1) fp) [(D,cR its k)] σ' H' s'∧tn i s'.heap∧(∀b∈fp,H' b=none)∧Vals ys its∧(∀(j:Nat) (v:V),(bD cap σ)[j]? =some (some v)→σ'[j]? =some (some v))∧W i n ys H') ?_ m0
   ⟨0,[],[],0,bD cap σ,H2,pinD IC hD4 (I2.hok.fresh hDs),T.keep _ _ _ st2 fun b hb o e=>k34 b o (k23 b o e),fun b hb=>(f2 b hb).1,.nil,fun _ _ e=>e,w0⟩
  rintro n s3 ⟨i,ys,its,k,σ3,H3,I3,st3,fr3,rv,kp,w3⟩
  obtain⟨hyl,tr⟩:=turn i n ys H3 w3
  have pin3:=I3.pin (D,cR its k) (List.mem_append_right _ List.mem_cons_self)
  rcases tr with⟨stop,qn⟩ | ⟨go,NN,hNN,step⟩
  ·refine bO (T.done (aD X scope N s2 H2 (D+1) fp) rfl rfl rfl hc i _ s3 σ3 H3 _ I3 (fpO fr3) st3 stop) fun r s4 ⟨hr,I4⟩=>?_
   subst hr
   exact fin D (D+1) σ3 H3 s4 its k ys hDs hDC (Nat.ne_of_lt (Nat.lt_succ_self _)) I4 rv (Nat.le_of_lt hyl) (qn D pin3.2.1)
  ·have I3':Inv (aD X scope N s2 H2 (D+1) fp) [(D,cR its k)] (bD cap σ) H3 s3:=I3.weak (by rw[I3.len,IC.len]) kp
   refine bO (T.item (aD X scope N s2 H2 (D+1) fp) rfl rfl rfl hc i _ s3 _ H3 _ I3' (fpO fr3) st3 go) fun r s4 ⟨u,hr,h4⟩=>?_
   subst hr
   refine bO h4 fun _ s5 ⟨x,H5,I5,r5,y5,st5,fr5⟩=>?_
   have I5':=I5.pinned (fpO fr5) (T.obj _ _ st5)
   refine bO (hg _ _ _ _ _ s5 _ H5 x u _ I5' r5 (step x H5 y5)) fun _ s6 ⟨σ6,H6,I6,kp6,q6⟩=>?_
   refine bO (hf _ _ _ _ _ s6 σ6 H6 _ I6 q6) fun ok s7 ⟨H7,I7,q7⟩=>?_
   have back:∀{s8:Shared} {H8:Hp},Inv (aD X scope N s2 H2 (D+1) fp) ([(D,cR its k)]++fK fp s5.heap) σ6 H8 s8→tn (i+1) s8.heap∧(∀b∈fp,H8 b=none)∧s8.heap.get? D=some (cR its k)∧H8 D=none:=fun {s8 H8} I8=>by
    have at_:∀b∈fp,∀o,s5.heap.get? b=some o→s8.heap.get? b=some o∧H8 b=none:=fun b hb o e=>by
     have z:=I8.pin (b,o) (List.mem_append_right _ (List.mem_append_right _ (dX hb e)))
     exact⟨z.1,z.2.1⟩
    have pd:=I8.pin (D,cR its k) (List.mem_append_right _ (List.mem_append_left _ List.mem_cons_self))
    refine⟨T.keep _ _ _ st5 fun b hb o e=>(at_ b hb o e).1,fun b hb=>?_,pd.1,pd.2.1⟩
    obtain⟨o,e,d⟩:=T.obj _ _ st5 b hb
    exact(at_ b hb o e).2
   cases ok with
   | false =>
    rw[if_neg Bool.false_ne_true]at q7 ⊢
    obtain⟨m',hm,w'⟩:=hNN _ _ q7
    obtain⟨t7,f7,d7,n7⟩:=back I7
    exact⟨m',hm,i+1,ys,its,k,σ6,H7,I7.unpinned,t7,f7,rv,fun j v e=>Keep.get kp6 e,w'⟩
   | true =>
    rw[if_pos rfl]at q7 ⊢
    refine bO (he _ _ _ _ _ s7 σ6 H7 _ I7 q7) fun y8 s8 ⟨y,H8,I8,r8,q8⟩=>?_
    obtain⟨m',hm,w'⟩:=hNN _ _ q8
    obtain⟨t8,f8,d8,n8⟩:=back I8
    refine append_at (D:=D) (its:=its.toArray) (n:=k) d8 (fun h' hs' hD'=>?_) (by rw[List.size_toArray,←rv.length];exact Nat.le_of_lt hyl)
    have J0:Inv (aD X scope N s2 H2 (D+1) fp) [] σ6 H8 s8:=I8.pins_of fun p hp=>by cases hp
    have J1:Inv (aD X scope N s2 H2 (D+1) fp) [] σ6 H8 {s8 with heap:=h'} :=J0.turned (it:=D) (t':=s8.toks) (fun b o hb e=>(hs'.2 b hb).trans e) n8 (Nat.ne_of_lt (Nat.lt_succ_self _)) (.inr hDs) cellsD fun p hp=>by
     have:p∈([]:List (Addr×Obj)):=hp
     cases this
    refine⟨m',hm,i+1,ys++ [y],its++ [y8],k+1,σ6,H8,pinD J1 (by simpa using hD') n8,T.keep _ _ _ t8 fun b hb o e=>(hs'.2 b (Nat.ne_of_lt (fpD b hb))).trans e,f8,rv.append (.cons r8 .nil),fun j v e=>Keep.get kp6 e,w'⟩
 exact codeAny_compStart_list loop (wpAny_mono (T.self _ 0 _ _ _ (T.keep _ _ _ st2 fun b hb o e=>k34 b o (k23 b o e)) loop) (fun _ _ h=>h) fun _ _ h=>h)
end
end L2
namespace L2
open PySem PySem.Spec PyProof.Rows
section
variable {X:Cx} {scope:Scope} {N:List Str} {cap:List (Option Nat)} {tg iter elt:Expr} {ifs:List Expr} {pos:Pos} {wi:TI} {g:TG} {tf:TT} {te:TE}
theorem gH {pins:List (Addr×Obj)} {σ σ':St} {H2 H':Hp} {s2 s':Shared} {fp:List Addr} {D C:Addr} {its:List Value} {k:Nat} {ys:List V} {h':Heap} (I2:Inv X pins σ H2 s2) (f2:∀b∈fp,FpOk X pins H2 b)
  (hD:s2.heap.objs.size≤D) (hC:s2.heap.objs.size≤C) (hDC:D≠C) (I':Inv (aD X scope N s2 H2 C fp) [(D,cR its k)] σ' H' s') (rv:Vals ys its) (hl:ys.length≤sizeLine) (hs:Heap.SameBut C s'.heap h'):
  Inv X pins σ (bu H' D (.lst ys)) {s' with heap:=h'} :=by
 have pd:=I'.pin (D,cR its k) (List.mem_append_right _ List.mem_cons_self)
 have nD:H' D=none:=pd.2.1
 have nC:H' C=none:=I'.free
 have lt2:∀b o,s2.heap.get? b=some o→b≠D∧b≠C:=fun b o e=>⟨Nat.ne_of_lt (Nat.lt_of_lt_of_le (Heap.lt_size e) hD),Nat.ne_of_lt (Nat.lt_of_lt_of_le (Heap.lt_size e) hC)⟩
 have hk:∀b o,b≠C→s'.heap.get? b=some o→h'.get? b=some o:=fun b o hb e=>(hs.2 b hb).trans e
 have B:Un (frs X.stack) fp H2 H' s2.heap s'.heap:=I'.base
 have tr:∀b u,H' b=some u→b≠D∧b≠C:=fun b u e=>⟨fun z=>(by rw[z,nD]at e;cases e),fun z=>(by rw[z,nC]at e;cases e)⟩
 refine I2.call' (ch:=fp) I'.os ⟨fun b o e n hb hx=>?_,fun b o e n hb hx=>?_,fun b o e n hx=>?_,fun b o e hx=>?_,fun b xs e=>?_,fun b o u e=>?_,fun b ps e=>?_⟩ (fun b u e=>?_) I'.bare fun b hb=>⟨(f2 b hb).2.2.2.1,(f2 b hb).2.1,(f2 b hb).2.2.2.2.1,(f2 b hb).2.2.2.2.2⟩
 ·exact hk b o (lt2 b o e).2 (B.keep b o e n hb hx)
 ·obtain⟨sl,q⟩:=B.slot b o e n hb hx
  exact⟨sl,hk b _ (lt2 b o e).2 q⟩
 ·rw[ah (lt2 b o e).1];exact B.free b o e n hx
 ·obtain⟨o',q⟩:=B.there b o e hx
  exact⟨o',hk b _ (lt2 b o e).2 q⟩
 ·rw[ah (tr b _ (B.tups b xs e)).1];exact B.tups b xs e
 ·rw[ah (tr b _ (B.frzs b o u e)).1];exact B.frzs b o u e
 ·obtain⟨more,q⟩:=B.tbls b ps e
  exact⟨more,by rw[ah (tr b _ q).1];exact q⟩
 ·by_cases hb:b=D
  ·subst hb
   rw[ak]at e;cases e
   exact⟨hl,its,k,rv,hk _ _ hDC pd.1⟩
  ·rw[ah hb]at e
   refine(I'.hok b u e).stay (fun c w' hc q=>hk c w' ?_ q) (fun c q=>by rw[ah (tr c _ q).1];exact q) fun c xs q=>by rw[ah (tr c _ q).1];exact q
   rcases hc with z | z
   ·rw[z];exact(tr b u e).2
   ·exact(tr c _ z).2
theorem fe (S:CompScope X scope N cap):∀x∈scope.names,x.2=.local→scope.names.lookup x.1=some .local:=fun x hx hl=>cw S.uniq (by rw[←hl];exact hx)
theorem ee (S:CompScope X scope N cap) (hc:X.calm=true) (hi:PI X tg iter wi)
  (hg:∀s H C fp,PG (aD X scope N s H C fp) tg g) (hf:∀s H C fp,sJ (aD X scope N s H C fp) ifs tf) (he:∀s H C fp,PE (aD X scope N s H C fp) elt te)
  (hs:∀x,foldedSetIterable iter X.env x=pure x:=by intro _;rfl):PE X (.ListComp elt [⟨tg,iter,ifs,0⟩] scope pos) (jI cap wi g tf te):=by
 intro pins s σ H Q I h
 rw[eval_ListComp]
 have frc:∀x∈scope.names,x.2=.free→∃c,X.env.cells.lookup x.1=some c:=fun x hx hk=>I.ok.has x.1 (S.free x hx hk)
 refine wpAny_comprehension_free (use:=none) rfl hs (dF frc) S.kind (fe S) (bO (hi pins s σ H _ I h) fun v s1 h1=>bO h1 fun itv s2 h2=>?_)
 obtain⟨it,fp,tn,J,H2,rfl,I2,T,st2,f2,W,w0,turn⟩:=h2
 refine ir (RR:=fun acc C=>compPost (model X.prog X.w) X.A X.xe none (EP X pins σ Q) acc C) S hc hg hf he I2 T st2 f2 w0 turn fun D C σ' H' s' its k ys hD hC hDC I' rv hl q=>?_
 obtain⟨m,hn,_⟩:=I'.loc
 exact⟨m,hn,fun h' hs'=>⟨.ref D,_,gH I2 f2 hD hC hDC I' rv hl hs',rfl,q⟩⟩
end
end L2
namespace L2
open PySem PySem.Spec PyProof.Rows
section
variable {X:Cx} {scope:Scope} {N:List Str} {cap:List (Option Nat)} {tg iter elt:Expr} {ifs:List Expr} {pos spos py:Pos} {wi:TI} {g:TG} {tf:TT} {te:TE} {i:Nat} {y:Str}
theorem l5 (hN:X.N.Nodup) (hi':X.N[i]? =some y) (hy:tU X.env.scope y) (S:CompScope X scope N cap) (hc:X.calm=true) (hi:PI X tg iter wi)
  (hg:∀s H C fp,PG (aD X scope N s H C fp) tg g) (hf:∀s H C fp,sJ (aD X scope N s H C fp) ifs tf) (he:∀s H C fp,PE (aD X scope N s H C fp) elt te)
  (hsw:swapsWith (.ListComp elt [⟨tg,iter,ifs,0⟩] scope pos) (some (.Name y py)) spos.line X.env=pure true:=by rfl)
  (hs:∀x,foldedSetIterable iter X.env x=pure x:=by intro _;rfl) (hfn:X.fn y=true∨X.env.scope.names.lookup y=some .local:=by first | exact .inl rfl | exact .inr rfl | assumption):
  PS X (.Assign [.Name y py] (.ListComp elt [⟨tg,iter,ifs,0⟩] scope pos) spos) (bG (jI cap wi g tf te) (aN i)):=by
 intro pins s σ H D I h
 rw[exec_Assign_Name_used _ _ _ _ hsw]
 refine wpAny_bind (wpAny_standAt (wpAny_bind ?_))
 show wpAny _ X.A (do let _ ←comprehension (.ListComp elt [⟨tg,iter,ifs,0⟩] scope pos) scope X.env _ (newList []) false (eval iter X.env) (some (assign (.Name y py) X.env))) _ _ s
 have frc:∀x∈scope.names,x.2=.free→∃c,X.env.cells.lookup x.1=some c:=fun x hx hk=>I.ok.has x.1 (S.free x hx hk)
 refine wpAny_bind (wpAny_mono (wpAny_comprehension_free (use:=some (assign (.Name y py) X.env)) (Q:=fun _ s'=>SP X pins D .next s') rfl hs (dF frc) S.kind (fe S) (bO (hi pins s σ H _ I h) fun v s1 h1=>bO h1 fun itv s2 h2=>?_)) (fun _ s' hq=>wpAny_pure (wpAny_pure hq)) fun _ _ e=>e)
 obtain⟨it,fp,tn,J,H2,rfl,I2,T,st2,f2,W,w0,turn⟩:=h2
 refine ir (Qv:=fun x H1=>aN i x σ H1 D.nx) (RR:=fun acc C=>compPost (model X.prog X.w) X.A X.xe (some (assign (.Name y py) X.env)) (fun _ s'=>SP X pins D .next s') acc C) S hc hg hf he I2 T st2 f2 w0 turn fun d C σ' H' s' its k ys hD hC hDC I' rv hl q=>?_
 obtain⟨m,hn,_⟩:=I'.loc
 have I3:Inv X pins σ (bu H' d (.lst ys)) s':=gH (h':=s'.heap) I2 f2 hD hC hDC I' rv hl (.refl ..)
 have nC:(bu H' d (.lst ys)) C=none:=by rw[ah (Ne.symm hDC)];exact I'.free
 have cL:C≠X.env.locals:=fun z=>absurd (Nat.lt_of_lt_of_le I2.lt hC) (by rw[z];exact Nat.lt_irrefl _)
 have cc:∀x c,X.env.cells.lookup x=some c→c≠C:=fun x c e z=>by
  obtain⟨v,q⟩:=I2.cell x c e
  exact absurd (Nat.lt_of_lt_of_le q.lt hC) (by rw[z];exact Nat.lt_irrefl _)
 show wpAny _ X.A (assign (.Name y py) X.env (.ref d)) _ _ _
 refine wpAny_assign_Name (ig (v:=.ref d) I3 hN hi' hy rfl (fun s4 I4 ⟨a,sb,ha⟩=>?_) hfn)
 have aC:C≠a:=by
  rcases ha with z | z
  ·rw[z];exact cL
  ·exact Ne.symm (cc _ _ z)
 refine⟨m,hn.sameBut sb aC,fun h' hs'=>?_⟩
 exact⟨_,_,I4.turned (it:=C) (t':=s4.toks) (fun b o hb e=>(hs'.2 b hb).trans e) nC cL (.inr (Nat.le_trans I2.sz hC)) cc (fun p hp z=>absurd (Nat.lt_of_lt_of_le (Heap.lt_size (I2.pin p hp).1) hC) (by rw[z];exact Nat.lt_irrefl _)),q⟩
end
inductive Src where
 | lst (a:Addr) | tup (a:Addr) | str (l:List Nat)
def Src.has (K:PySem.W.Frag) (H:Hp):Src→List V→Prop
 | .lst a,xs=>SqL K H a xs
 | .tup a,xs=>SqT K H a xs
 | .str l,xs=>xs=l.map fun c=>V.str (sOf [c])
def Src.at (it:Addr) (i:Nat) (h:Heap):Src→Prop
 | .lst a=>h.IsListIter it a i
 | .tup a=>h.IsTupleIter it a i
 | .str l=>∃t,h.IsStrIter it "str_ascii_iterator" (sOf l) t i∨h.IsStrIter it "str_iterator" (sOf l) t i
def Src.val:Src→V
 | .lst a=>.ref a
 | .tup a=>.ref a
 | .str l=>.str (sOf l)
section
variable {P:Program} {w:World} {A:Around} {E:Value→Shared→Prop} {s:Shared}
theorem j5 {j a:Addr} {k:Nat} {us:Array Value} {x:Value} {Q:Value→Shared→Prop} (g:s.heap.IsTupleIter j a k) (ga:s.heap.IsTuple a us) (gx:us[k]? =some x)
  (q:∀h',h'.IsTupleIter j a (k+1)→Heap.SameBut j s.heap h'→Q x {s with heap:=h'}):wpAny (model P w) A (Builtin.SmallTypes.nextOf (.ref j)) Q E s:=by
 obtain⟨ob,e1,e2,e3⟩:=id g;obtain⟨ot,f1,_,nn,f3⟩:=ga
 unfold Builtin.SmallTypes.nextOf
 refine wpAny_bind (wpAny_callSpecial?_slot (name:=Str.ofString "__next__") g.typeIs PySem.F.slot_tuple_iterator_next (wpAny_call_entry PySem.F.slot_tuple_iterator_next g.typeIs PySem.F.entry_tuple_iterator_next ?_ (PySem.F.args_tuple_iterator_next_1 _)))
 show wpAny (model P w) _ (field (.ref j) 0 >>= _) _ _ s
 refine wpAny_bind (wpAny_field e1 e3 (x:=.ref a) rfl ?_)
 show wpAny (model P w) _ (if(Value.ref a == Value.none)=true then _ else _) _ _ s
 rw[if_neg (show ¬((Value.ref a == Value.none)=true)from Bool.false_ne_true)]
 show wpAny (model P w) _ (field (.ref j) 1 >>= _) _ _ s
 refine wpAny_bind (wpAny_field e1 e3 (x:=.int k 0) rfl ?_)
 show wpAny (model P w) _ (seqItems? (.ref a) >>= _) _ _ s
 refine wpAny_bind (wpAny_seqItems f1 f3 ?_)
 simp only[Int.toNat_natCast,gx]
 refine wpAny_bind (wpAny_setField e1 e3 (by simp) (wpAny_pure ⟨x,rfl,wpAny_pure (q _ ⟨_,Heap.get?_update_self _ e1 (Obj.isFreed_of_fields (Obj.data_mapFields e3 _)),(Obj.cls_mapFields ..).trans e2,(by rw[Obj.data_mapFields e3];simp[rawInt])⟩ (Heap.SameBut.update ..))⟩))
theorem jK {j a:Addr} {k:Nat} {us:Array Value} {Q:Value→Shared→Prop} (hh:A.handled=none) (g:s.heap.IsTupleIter j a k) (ga:s.heap.IsTuple a us) (gx:us[k]? =none)
  (q:∀h' e,Heap.ExtBut j s.heap h'→(∃o,h'.get? e=some o∧o.cls=.type "StopIteration")→E (.ref e) {s with heap:=h'}):wpAny (model P w) A (Builtin.SmallTypes.nextOf (.ref j)) Q E s:=by
 obtain⟨ob,e1,e2,e3⟩:=id g;obtain⟨ot,f1,_,nn,f3⟩:=ga
 unfold Builtin.SmallTypes.nextOf
 refine wpAny_bind (wpAny_callSpecial?_slot (name:=Str.ofString "__next__") g.typeIs PySem.F.slot_tuple_iterator_next (wpAny_call_entry PySem.F.slot_tuple_iterator_next g.typeIs PySem.F.entry_tuple_iterator_next ?_ (PySem.F.args_tuple_iterator_next_1 _)))
 show wpAny (model P w) _ (field (.ref j) 0 >>= _) _ _ s
 refine wpAny_bind (wpAny_field e1 e3 (x:=.ref a) rfl ?_)
 show wpAny (model P w) _ (if(Value.ref a == Value.none)=true then _ else _) _ _ s
 rw[if_neg (show ¬((Value.ref a == Value.none)=true)from Bool.false_ne_true)]
 show wpAny (model P w) _ (field (.ref j) 1 >>= _) _ _ s
 refine wpAny_bind (wpAny_field e1 e3 (x:=.int k 0) rfl ?_)
 show wpAny (model P w) _ (seqItems? (.ref a) >>= _) _ _ s
 refine wpAny_bind (wpAny_seqItems f1 f3 ?_)
 simp only[Int.toNat_natCast,gx]
 refine wpAny_bind (wpAny_rule (wpAny_bind (wpAny_setField e1 e3 (by simp) ?_)))
 show wpAny (model P w) _ (newExc (.type "StopIteration") [] >>= _) _ _ _
 refine wpAny_bind ?_;simp only[newExc,newTuple]
 refine wpAny_bind (wpAny_newObj_type (wpAny_bind (m:=firstArgMember _ _) (wpAny_of_eq (a:=Value.none) (by first | rfl | (simp only[firstArgMember];rfl)) (wpAny_newObj_type ?_ (by size_fits)))) (by size_fits))
 simp only[raiseNew];refine wpAny_bind (wpAny_handled ?_)
 first | rw[show A.in1.handled=none from hh] | rw[hh]
 exact wpAny_bind (wpAny_pure (wpAny_throw (q _ _ (((Heap.SameBut.update ..).extBut.push _).push _) ⟨_,Heap.get?_push_size _ rfl,rfl⟩)))
theorem om (hh:A.handled=none) (j a:Addr) (ne:a≠j) (us:Array Value):Draws P w A j [j,a] us.size (fun k v=>us[k]? =some v) (fun k h=>h.IsTupleIter j a k∧h.IsTuple a us) where
 live:=fun _ _ st=>by obtain⟨⟨o,e,_⟩,_⟩:=st;exact⟨o,e⟩
 frame:=fun _ _ _ st hk=>⟨st.1.at fun o e=>hk j (by simp) o e,by obtain⟨o,e,r⟩:=st.2;exact⟨o,hk a (by simp) o e,r⟩⟩
 item:=fun k s Q E hk st q=>j5 st.1 st.2 (x:=us[k]) (by simp[hk]) fun h' g' sb=>q _ h' s.toks (by simp[hk]) ⟨g',by obtain⟨o,e,r⟩:=st.2;exact⟨o,(sb.2 a ne).trans e,r⟩⟩ sb
 done:=fun s Q E st q=>jK hh st.1 st.2 (by simp) q
theorem Src.draws {X:Cx} {pins:List (Addr×Obj)} {σ:St} {H:Hp} {s0:Shared} {c:Src} {xs:List V} {it:Addr} {i:Nat} (hh:A.handled=none) (I:Inv X pins σ H s0) (hs:c.has X.K H xs) (ht:c.at it i s0.heap) (hit:H it=none):
  ∃ (fp : List Addr) (Pt : Nat → Value → Prop) (St : Nat → Heap → Prop), Draws X.prog X.w A it fp xs.length Pt St ∧ St i s0.heap ∧ (∀ k v, Pt k v → ∃ x, xs[k]? = some x ∧ RelV x v) ∧ (∀ k h, St k h → c.at it k h) ∧ it ∈ fp ∧
   ∀b∈fp,b=it∨H b≠none∨∃o,X.base.get? b=some o:=by
 cases c with
 | lst a =>
  obtain⟨its,rv,p,hz⟩:=I.list hs
  have ne:a≠it:=fun z=>by
   obtain⟨o,e,c1,_⟩:=(show s0.heap.IsListIter it a i from ht)
   obtain⟨o2,e2,c2,_⟩:=p.isList
   rw[z,e]at e2;cases e2;rw[c1]at c2;exact absurd c2 (by decide)
  have dr:=Draws.list (prog:=X.prog) (w:=X.w) hh it a ne its.toArray
  rw[List.size_toArray,←rv.length]at dr
  refine⟨_,_,_,dr,⟨ht,p.isList⟩,fun k v e=>?_,fun k h st=>st.1,by simp,fun b hb=>?_⟩
  ·have e:its[k]? =some v:=by simpa using e
   have hk:k< xs.length:=by rw[rv.length];exact(List.getElem?_eq_some_iff.mp e).1
   obtain⟨u,hu,ru⟩:=rv.get (i:=k) (x:=xs[k]) (by simp[hk])
   rw[e]at hu;cases hu
   exact⟨_,by simp[hk],ru⟩
  ·rcases List.mem_cons.mp hb with z | z
   ·exact .inl z
   ·have z:b=a:=by simpa using z
    subst z
    rcases (show SqL X.K H b xs from hs)with(z | ⟨o,z⟩) | ⟨o,_,_,z,_⟩
    ·exact .inr (.inl (by rw[z];simp))
    ·exact .inr (.inl (by rw[z];simp))
    ·exact .inr (.inr ⟨_,I.mod.kin _ _ z⟩)
 | tup a =>
  obtain⟨its,rv,p,hz⟩:=I.tuple hs
  have p:s0.heap.IsTuple a its.toArray:=p
  have ne:a≠it:=fun z=>by
   obtain⟨o,e,c1,_⟩:=(show s0.heap.IsTupleIter it a i from ht)
   obtain⟨o2,e2,c2,_⟩:=id p
   rw[z,e]at e2;cases e2;rw[c1]at c2;exact absurd c2 (by decide)
  have dr:=om (P:=X.prog) (w:=X.w) hh it a ne its.toArray
  rw[List.size_toArray,←rv.length]at dr
  refine⟨_,_,_,dr,⟨ht,p⟩,fun k v e=>?_,fun k h st=>st.1,by simp,fun b hb=>?_⟩
  ·have e:its[k]? =some v:=by simpa using e
   have hk:k< xs.length:=by rw[rv.length];exact(List.getElem?_eq_some_iff.mp e).1
   obtain⟨u,hu,ru⟩:=rv.get (i:=k) (x:=xs[k]) (by simp[hk])
   rw[e]at hu;cases hu
   exact⟨_,by simp[hk],ru⟩
  ·rcases List.mem_cons.mp hb with z | z
   ·exact .inl z
   ·have z:b=a:=by simpa using z
    subst z
    rcases (show SqT X.K H b xs from hs)with(z | ⟨o,z⟩) | ⟨o,_,_,z,_⟩
    ·exact .inr (.inl (by rw[z];simp))
    ·exact .inr (.inl (by rw[z];simp))
    ·exact .inr (.inr ⟨_,I.mod.kin _ _ z⟩)
 | str l =>
  have hs:xs=l.map fun c=>V.str (sOf [c]):=hs
  obtain⟨t,ht⟩:=(show ∃t,s0.heap.IsStrIter it "str_ascii_iterator" (sOf l) t i∨s0.heap.IsStrIter it "str_iterator" (sOf l) t i from ht)
  have hn:(sOf l).cps.size=xs.length:=by rw[hs];simp[sOf]
  have sg:∀(k:Nat) (v:Value),(∃c u,(sOf l).cps[k]? =some c∧v=.str ⟨#[c]⟩ u)→∃x,xs[k]? =some x∧RelV x v:=fun k v ⟨c,u,e,ev⟩=>by
   have e:l[k]? =some c:=by simpa [sOf] using e
   exact⟨.str (sOf [c]),by rw[hs];simp[e],⟨u,ev⟩⟩
  rcases ht with ht | ht
  ·exact⟨_,_,_,hn▸Draws.strAscii hh it (sOf l) t,ht,sg,fun k h st=>⟨t,.inl st⟩,by simp,fun b hb=>.inl (by simpa using hb)⟩
  ·exact⟨_,_,_,hn▸Draws.strWide hh it (sOf l) t,ht,sg,fun k h st=>⟨t,.inr st⟩,by simp,fun b hb=>.inl (by simpa using hb)⟩
end
end L2
namespace L2
open PySem PySem.Spec PyProof.Rows
def gI (v:Value) (h:Heap) (o:Obj):Prop:=∀(prog:Program) (w:World) (A:Around) (E:Value→Shared→Prop) (Q:Value→Shared→Prop) (s:Shared),s.heap=h→Q (.ref h.objs.size) {s with heap:=h.push o}→wpAny (model prog w) A (pyIter v) Q E s
def uf (h:Heap) (o1 o2:Obj):Heap:=((h.push o1).push o2).push {cls:=.type "tuple",data:=.seq #[.ref h.objs.size,.ref (h.push o1).objs.size]}
def ug (h:Heap) (o1 o2:Obj):Heap:=(uf h o1 o2).push {cls:=.type "tuple",data:=.seq #[.none,.none]}
def tJ (h:Heap) (o1 o2:Obj):Heap:=(ug h o1 o2).push {cls:=.type "zip",data:=.fields #[.none,.bool false,.bool false,.ref ((h.push o1).push o2).objs.size,.ref (uf h o1 o2).objs.size]}
theorem j6 (v1 v2:Value) (o1 o2:Obj):Meets (Builtin.«zip.__new__» ⟨[.type "zip",v1,v2],[]⟩) (fun _ R s=>gI v1 s.heap o1∧gI v2 (s.heap.push o1) o2∧R (.ok (.ret (.ref (ug s.heap o1 o2).objs.size))) {s with heap:=tJ s.heap o1 o2}):=
 .of_wp fun prog w A R s h=>by
  obtain⟨hp,g,d,tk,os⟩:=s;obtain⟨i1,i2,h⟩:=h
  have hsub:=sub_zip
  have j1:=fun(A:Around) (E:Value→Shared→Prop) (Q:Value→Shared→Prop) (q:Q _ _)=>i1 prog w A E Q ⟨hp,g,d,tk,os⟩ rfl q
  have j2:=fun(A:Around) (E:Value→Shared→Prop) (Q:Value→Shared→Prop) (q:Q _ _)=>i2 prog w A E Q ⟨hp.push o1,g,d,tk,os⟩ rfl q
  wp_walk using j1 _ _ _,j2 _ _ _
  exact⟨_,rfl,h⟩
theorem iu {P:Program} {w:World} {A:Around} {E:Value→Shared→Prop} {s:Shared} {v1 v2:Value} {o1 o2:Obj} {Q:Value→Shared→Prop} (i1:gI v1 s.heap o1) (i2:gI v2 (s.heap.push o1) o2)
  (f1:o1.isFreed=false) (f2:o2.isFreed=false)
  (q:∀h',IsZip h' (s.heap.objs.size+4) (s.heap.objs.size+2) (s.heap.objs.size+3) .none→IsPair h' (s.heap.objs.size+2) (.ref s.heap.objs.size) (.ref (s.heap.objs.size+1))→IsPair h' (s.heap.objs.size+3) .none .none→
   h'.get? s.heap.objs.size=some o1→h'.get? (s.heap.objs.size+1)=some o2→(∀c o,s.heap.get? c=some o→h'.get? c=some o)→Q (.ref (s.heap.objs.size+4)) {s with heap:=h'}):
  wpAny (model P w) A (call (.type "zip") [v1,v2]) Q E s:=by
 refine callType_new PySem.F.called_zip (by decide) (PySem.F.typeCall_zip_2 _ _) (PySem.F.newCall_zip_2 _ _) (fun obj=>PySem.F.args_object_init_3 obj _ _) PySem.F.entry_zip_new (j6 v1 v2 o1 o2) ⟨i1,i2,?_⟩
 have z1:(s.heap.push o1).objs.size=s.heap.objs.size+1:=Heap.size_push ..
 have z2:((s.heap.push o1).push o2).objs.size=s.heap.objs.size+2:=by rw[Heap.size_push,z1]
 have z3:(uf s.heap o1 o2).objs.size=s.heap.objs.size+3:=by unfold uf;rw[Heap.size_push,z2]
 have z4:(ug s.heap o1 o2).objs.size=s.heap.objs.size+4:=by unfold ug;rw[Heap.size_push,z3]
 have g5:(tJ s.heap o1 o2).get? (ug s.heap o1 o2).objs.size=some _:=Heap.get?_push_size _ rfl
 have g4:(tJ s.heap o1 o2).get? (uf s.heap o1 o2).objs.size=some _:=Heap.get?_push_of_some _ (Heap.get?_push_size _ rfl)
 have g3:(tJ s.heap o1 o2).get? ((s.heap.push o1).push o2).objs.size=some _:=Heap.get?_push_of_some _ (Heap.get?_push_of_some _ (Heap.get?_push_size _ rfl))
 have g2:(tJ s.heap o1 o2).get? (s.heap.push o1).objs.size=some o2:=Heap.get?_push_of_some _ (Heap.get?_push_of_some _ (Heap.get?_push_of_some _ (Heap.get?_push_size _ f2)))
 have g1:(tJ s.heap o1 o2).get? s.heap.objs.size=some o1:=Heap.get?_push_of_some _ (Heap.get?_push_of_some _ (Heap.get?_push_of_some _ (Heap.get?_push_of_some _ (Heap.get?_push_size _ f1))))
 show _∧_
 rw[z2,z3,z4]at g5
 rw[z1,z2]at g3
 rw[z3]at g4
 rw[z1]at g2
 rw[z4]
 exact⟨⟨_,g5,rfl⟩,q _ g5 g3 g4 g1 g2 fun c o x=>Heap.get?_push_of_some _ (Heap.get?_push_of_some _ (Heap.get?_push_of_some _ (Heap.get?_push_of_some _ (Heap.get?_push_of_some _ x))))⟩
theorem Src.iter {X:Cx} {pins:List (Addr×Obj)} {σ:St} {H:Hp} {s:Shared} {c:Src} {xs:List V} {v:Value} {h:Heap} (I:Inv X pins σ H s) (hs:c.has X.K H xs) (rv:RelV c.val v) (k:∀b o,s.heap.get? b=some o→h.get? b=some o):
  ∃o,gI v h o∧o.isFreed=false∧(∀h':Heap,h'.get? h.objs.size=some o→c.at h.objs.size 0 h'):=by
 cases c with
 | lst a =>
  obtain⟨its,r,p,hz⟩:=I.list hs
  cases (show v=.ref a from rv)
  obtain⟨o,e,r2⟩:=p.isList
  refine⟨{cls:=.type "list_iterator",data:=.fields #[.ref a,.int 0 0]},fun prog w A E Q s' e' q=>?_,rfl,fun h' e'=>⟨_,e',rfl,rfl⟩⟩
  subst e'
  exact wpAny_pyIter_list ⟨o,k a o e,r2⟩ q
 | tup a =>
  obtain⟨its,r,p,hz⟩:=I.tuple hs
  cases (show v=.ref a from rv)
  obtain⟨o,e,r2⟩:=p
  refine⟨{cls:=.type "tuple_iterator",data:=.fields #[.ref a,.int 0 0]},fun prog w A E Q s' e' q=>?_,rfl,fun h' e'=>⟨_,e',rfl,rfl⟩⟩
  subst e'
  exact wpAny_pyIter_tuple ⟨o,k a o e,r2⟩ q
 | str l =>
  obtain⟨t,rfl⟩:=(show ∃t,v=.str (sOf l) t from rv)
  cases ha:(sOf l).cps.all (· <128)
  ·exact⟨{cls:=.type "str_iterator",data:=.fields #[.str (sOf l) t,.int 0 0]},fun prog w A E Q s' e' q=>by subst e';exact wpAny_pyIter_wide ha q,rfl,fun h' e'=>⟨t,.inr ⟨_,e',rfl,rfl⟩⟩⟩
  ·exact⟨{cls:=.type "str_ascii_iterator",data:=.fields #[.str (sOf l) t,.int 0 0]},fun prog w A E Q s' e' q=>by subst e';exact wpAny_pyIter_ascii ha q,rfl,fun h' e'=>⟨t,.inl ⟨_,e',rfl,rfl⟩⟩⟩
end L2
namespace L2
open PySem PySem.Spec PyProof.Rows
section
variable {P:Program} {w:World} {A:Around} {E:Value→Shared→Prop} {s:Shared} {z TI TO i1 i2:Addr} {fp1 fp2:List Addr} {n1 n2 k:Nat} {P1 P2:Nat→Value→Prop} {S1 S2:Nat→Heap→Prop} {a b:Value}
structure ZApart (z TI TO i1 i2:Addr) (fp1 fp2:List Addr):Prop where
 c1:TI≠z
 c2:TO≠z
 c3:i1≠z
 c4:i2≠z
 c5:TI≠TO
 c6:TI≠i1
 c7:TI≠i2
 c8:TO≠i1
 c9:TO≠i2
 d1:z∉fp1∧TO∉fp1∧i2∉fp1
 d2:z∉fp2∧TO∉fp2∧i1∉fp2
theorem aA {n:Nat} {it:Addr} {fp:List Addr} {Pt:Nat→Value→Prop} {S:Nat→Heap→Prop} (D:Draws P w A it fp n Pt S) {j:Nat} {h h':Heap} {c:Addr} (st:S j h) (sb:Heap.SameBut c h h') (hc:c∉fp):S j h':=
 D.frame _ _ _ st fun b hb o e=>(sb.2 b fun q=>hc (q▸hb)).trans e
theorem mL {Q:Option Value→Shared→Prop} (D1:Draws P w A.in1 i1 fp1 n1 P1 S1) (D2:Draws P w A.in1 i2 fp2 n2 P2 S2) (Z:ZApart z TI TO i1 i2 fp1 fp2) (h1:k< n1) (h2:k< n2) (hz:IsZip s.heap z TI TO .none)
  (hI:IsPair s.heap TI (.ref i1) (.ref i2)) (hO:IsPair s.heap TO a b) (t1:S1 k s.heap) (t2:S2 k s.heap)
  (q:∀x y h' tk T,P1 k x→P2 k y→T=s.heap.objs.size→IsZip h' z TI TO (rawInt T)→IsPair h' TO x y→S1 (k+1) h'→S2 (k+1) h'→IsPair h' T x y→
   (∀c o,c≠z→c≠TO→c≠i1→c≠i2→s.heap.get? c=some o→h'.get? c=some o)→Q (some (.ref T)) {s with heap:=h',toks:=tk}):
  wpAny (model P w) A (pyNext (.ref z)) Q E s:=by
 have hT:s.TypeIs (.ref z) "zip" :=⟨_,hz,rfl⟩
 unfold pyNext
 refine wpAny_bind (wpAny_attempt (wpAny_callSpecial?_slot (name:=Str.ofString "__next__") hT PySem.F.slot_zip_next (wpAny_call_entry PySem.F.slot_zip_next hT PySem.F.entry_zip_next ?_ (PySem.F.args_zip_next_1 _))))
 obtain⟨hp,gg,dd,tk0,os⟩:=s
 show wpAny (model P w) _ (field (.ref z) 2 >>= _) _ _ _
 refine wpAny_bind (wpAny_field hz rfl (x:=.bool false) rfl ?_)
 show wpAny (model P w) _ (field (.ref z) 3 >>= _) _ _ _
 refine wpAny_bind (wpAny_field hz rfl (x:=.ref TI) rfl (wpAny_bind (wpAny_seqItems hI rfl ?_)))
 show wpAny (model P w) _ (Builtin.SmallTypes.ownedTupleIsFree (.ref z) >>= _) _ _ _
 refine wpAny_bind ?_;unfold Builtin.SmallTypes.ownedTupleIsFree
 refine wpAny_bind (wpAny_field hz rfl (x:=.none) rfl (wpAny_pure ?_));simp only[if_true]
 refine wpAny_bind (wpAny_rule (wpAny_bind (wpAny_field hz rfl (x:=.ref TO) rfl (wpAny_bind (wpAny_setField_rec hz (by simp) fun g1 y1 b1=>?_)))))
 replace y1:IsZip g1 z TI TO .ellipsis:=y1
 replace b1:Heap.SameBut z hp g1:=b1
 refine wpAny_bind ?_;simp only[List.zipIdx_cons,List.zipIdx_nil,List.forIn_cons,List.forIn_nil]
 refine wpAny_bind (wpAny_bind (wpAny_onRaise ?_))
 show wpAny (model P w) _ (Builtin.SmallTypes.nextOf (.ref i1) >>= _) _ _ _
 refine wpAny_bind (D1.item k _ _ _ h1 (aA D1 t1 b1 Z.d1.1) fun x g2 tk2 px u1 b2=>wpAny_pure ?_)
 replace b2:Heap.SameBut i1 g1 g2:=b2
 have O2:IsPair g2 TO a b:=b2.extBut _ _ Z.c8 (b1.extBut _ _ Z.c2 hO)
 refine wpAny_bind (wpAny_seqItems O2 rfl (wpAny_bind (wpAny_updateSeq_pair O2 fun g3 O3 b3=>?_)))
 replace O3:IsPair g3 TO x b:=O3
 replace b3:Heap.SameBut TO g2 g3:=b3
 refine wpAny_bind (wpAny_letGo (wpAny_pure (wpAny_bind (wpAny_bind (wpAny_onRaise ?_)))))
 show wpAny (model P w) _ (Builtin.SmallTypes.nextOf (.ref i2) >>= _) _ _ _
 refine wpAny_bind (D2.item k _ _ _ h2 (aA D2 (aA D2 (aA D2 t2 b1 Z.d2.1) b2 Z.d2.2.2) b3 Z.d2.2.1) fun y g4 tk4 py u2 b4=>wpAny_pure ?_)
 replace b4:Heap.SameBut i2 g3 g4:=b4
 have O4:IsPair g4 TO x b:=b4.extBut _ _ Z.c9 O3
 refine wpAny_bind (wpAny_seqItems O4 rfl (wpAny_bind (wpAny_updateSeq_pair O4 fun g5 O5 b5=>?_)))
 replace O5:IsPair g5 TO x y:=O5
 replace b5:Heap.SameBut TO g4 g5:=b5
 refine wpAny_bind (wpAny_letGo (wpAny_pure (wpAny_pure (wpAny_bind (wpAny_seqItems O5 rfl (wpAny_bind (wpAny_newTuple ?_)))))))
 have sz:g5.objs.size=hp.objs.size:=by rw[b5.1,b4.1,b3.1,b2.1,b1.1]
 have y5:IsZip g5 z TI TO .ellipsis:=b5.extBut _ _ Z.c2.symm (b4.extBut _ _ Z.c4.symm (b3.extBut _ _ Z.c2.symm (b2.extBut _ _ Z.c3.symm y1)))
 have k5:∀c o,c≠z→c≠TO→c≠i1→c≠i2→hp.get? c=some o→g5.get? c=some o:=fun c o e1 e2 e3 e4 e=>b5.extBut _ _ e2 (b4.extBut _ _ e4 (b3.extBut _ _ e2 (b2.extBut _ _ e3 (b1.extBut _ _ e1 e))))
 have v1:S1 (k+1) g5:=aA D1 (aA D1 (aA D1 u1 b3 Z.d1.2.1) b4 Z.d1.2.2) b5 Z.d1.2.1
 have v2:S2 (k+1) g5:=aA D2 u2 b5 Z.d2.2.1
 have lz:z< g5.objs.size:=Heap.lt_size y5
 show wpAny (model P w) _ (Builtin.SmallTypes.ownedTupleHandOut (.ref z) (.ref g5.objs.size) >>= _) _ _ _
 refine wpAny_bind ?_;unfold Builtin.SmallTypes.ownedTupleHandOut
 have y6:IsZip (g5.push {cls:=.type "tuple",data:=.seq #[x,y]}) z TI TO .ellipsis:=Heap.get?_push_of_some _ y5
 refine wpAny_bind (wpAny_setField_rec y6 (by simp) fun g7 y7 b7=>?_)
 replace y7:IsZip g7 z TI TO (rawInt g5.objs.size):=y7
 replace b7:Heap.SameBut z (g5.push {cls:=.type "tuple",data:=.seq #[x,y]}) g7:=b7
 refine wpAny_setField_rec y7 (by simp) fun g8 y8 b8=>?_
 replace y8:IsZip g8 z TI TO (rawInt g5.objs.size):=y8
 replace b8:Heap.SameBut z g7 g8:=b8
 have up:∀c o,c≠z→g5.get? c=some o→g8.get? c=some o:=fun c o e1 e=>b8.extBut _ _ e1 (b7.extBut _ _ e1 (Heap.get?_push_of_some _ e))
 have T8:IsPair g8 g5.objs.size x y:=b8.extBut _ _ (Nat.ne_of_gt lz) (b7.extBut _ _ (Nat.ne_of_gt lz) (Heap.get?_push_size _ rfl))
 refine wpAny_pure ⟨_,rfl,wpAny_pure (q x y g8 _ g5.objs.size px py sz y8 (up _ _ Z.c2 O5) (D1.frame _ _ _ v1 fun b hb o e=>up b o (fun q=>Z.d1.1 (q▸hb)) e) (D2.frame _ _ _ v2 fun b hb o e=>up b o (fun q=>Z.d2.1 (q▸hb)) e) T8 fun c o e1 e2 e3 e4 e=>up c o e1 (k5 c o e1 e2 e3 e4 e))⟩
theorem on {Q:Option Value→Shared→Prop} (hh:A.handled=none) (D1:Draws P w A.in1 i1 fp1 n1 P1 S1) (D2:Draws P w A.in1 i2 fp2 n2 P2 S2) (Z:ZApart z TI TO i1 i2 fp1 fp2) (hk:k=n1∨(k< n1∧k=n2)) (hz:IsZip s.heap z TI TO .none)
  (hI:IsPair s.heap TI (.ref i1) (.ref i2)) (hO:IsPair s.heap TO a b) (t1:S1 k s.heap) (t2:S2 k s.heap)
  (q:∀h' tk,(∀c o,c≠z→c≠TO→c≠i1→c≠i2→s.heap.get? c=some o→h'.get? c=some o)→Q none {s with heap:=h',toks:=tk}):
  wpAny (model P w) A (pyNext (.ref z)) Q E s:=by
 have hT:s.TypeIs (.ref z) "zip" :=⟨_,hz,rfl⟩
 unfold pyNext
 refine wpAny_bind (wpAny_attempt (wpAny_callSpecial?_slot (name:=Str.ofString "__next__") hT PySem.F.slot_zip_next (wpAny_call_entry PySem.F.slot_zip_next hT PySem.F.entry_zip_next ?_ (PySem.F.args_zip_next_1 _))))
 obtain⟨hp,gg,dd,tk0,os⟩:=s
 show wpAny (model P w) _ (field (.ref z) 2 >>= _) _ _ _
 refine wpAny_bind (wpAny_field hz rfl (x:=.bool false) rfl ?_)
 show wpAny (model P w) _ (field (.ref z) 3 >>= _) _ _ _
 refine wpAny_bind (wpAny_field hz rfl (x:=.ref TI) rfl (wpAny_bind (wpAny_seqItems hI rfl ?_)))
 show wpAny (model P w) _ (Builtin.SmallTypes.ownedTupleIsFree (.ref z) >>= _) _ _ _
 refine wpAny_bind ?_;unfold Builtin.SmallTypes.ownedTupleIsFree
 refine wpAny_bind (wpAny_field hz rfl (x:=.none) rfl (wpAny_pure ?_));simp only[if_true]
 refine wpAny_bind (wpAny_rule (wpAny_bind (wpAny_field hz rfl (x:=.ref TO) rfl (wpAny_bind (wpAny_setField_rec hz (by simp) fun g1 y1 b1=>?_)))))
 replace y1:IsZip g1 z TI TO .ellipsis:=y1
 replace b1:Heap.SameBut z hp g1:=b1
 refine wpAny_bind ?_;simp only[List.zipIdx_cons,List.zipIdx_nil,List.forIn_cons,List.forIn_nil]
 refine wpAny_bind (wpAny_bind (wpAny_onRaise ?_))
 show wpAny (model P w) _ (Builtin.SmallTypes.nextOf (.ref i1) >>= _) _ _ _
 rcases hk with hk | ⟨hk1,hk2⟩
 ·subst hk
  refine wpAny_bind (D1.done _ _ _ (aA D1 t1 b1 Z.d1.1) fun g2 e b2 he=>?_)
  obtain⟨oe,hoe,hce⟩:=he
  replace b2:Heap.ExtBut i1 g1 g2:=b2
  have y2:IsZip g2 z TI TO .ellipsis:=b2 _ _ Z.c3.symm y1
  have ez:e≠z:=fun x=>by subst x;rw[y2]at hoe;cases hoe;simp at hce
  refine wpAny_setField_rec y2 (by simp) fun g3 _ b3=>?_
  exact wpAny_bind (wpAny_isInstance (T:="StopIteration") (b:=true) ⟨oe,b3.extBut _ _ ez hoe,hce⟩ isSubtype_stop (wpAny_pure (q g3 _ fun c o e1 _ e3 _ x=>b3.extBut _ _ e1 (b2 _ _ e3 (b1.extBut _ _ e1 x)))))
 ·subst hk2
  refine wpAny_bind (D1.item k _ _ _ hk1 (aA D1 t1 b1 Z.d1.1) fun x g2 tk2 px u1 b2=>wpAny_pure ?_)
  replace b2:Heap.SameBut i1 g1 g2:=b2
  have O2:IsPair g2 TO a b:=b2.extBut _ _ Z.c8 (b1.extBut _ _ Z.c2 hO)
  refine wpAny_bind (wpAny_seqItems O2 rfl (wpAny_bind (wpAny_updateSeq_pair O2 fun g3 O3 b3=>?_)))
  replace b3:Heap.SameBut TO g2 g3:=b3
  refine wpAny_bind (wpAny_letGo (wpAny_pure (wpAny_bind (wpAny_bind (wpAny_onRaise ?_)))))
  show wpAny (model P w) _ (Builtin.SmallTypes.nextOf (.ref i2) >>= _) _ _ _
  refine wpAny_bind (D2.done _ _ _ (aA D2 (aA D2 (aA D2 t2 b1 Z.d2.1) b2 Z.d2.2.2) b3 Z.d2.2.1) fun g4 e b4 he=>?_)
  obtain⟨oe,hoe,hce⟩:=he
  replace b4:Heap.ExtBut i2 g3 g4:=b4
  have y4:IsZip g4 z TI TO .ellipsis:=b4 _ _ Z.c4.symm (b3.extBut _ _ Z.c2.symm (b2.extBut _ _ Z.c3.symm y1))
  have ez:e≠z:=fun x=>by subst x;rw[y4]at hoe;cases hoe;simp at hce
  refine wpAny_setField_rec y4 (by simp) fun g5 _ b5=>?_
  exact wpAny_bind (wpAny_isInstance (T:="StopIteration") (b:=true) ⟨oe,b5.extBut _ _ ez hoe,hce⟩ isSubtype_stop (wpAny_pure (q g5 _ fun c o e1 e2 e3 e4 x=>b5.extBut _ _ e1 (b4 _ _ e4 (b3.extBut _ _ e2 (b2.extBut _ _ e3 (b1.extBut _ _ e1 x)))))))
end
end L2
namespace L2
open PySem PySem.Spec PyProof.Rows
def uh (K:PySem.W.Frag) (c1 c2:Src):It:=
  ⟨fun i H=>∃xs ys x y,c1.has K H xs∧c2.has K H ys∧xs[i]? =some x∧ys[i]? =some y,
   fun i H v H'=>∃p x y,H p=none∧v=.ref p∧(∀xs,c1.has K H xs→xs[i]? =some x)∧(∀ys,c2.has K H ys→ys[i]? =some y)∧H'=bu H p (.tup [x,y]),
   fun i H=>∃xs ys,c1.has K H xs∧c2.has K H ys∧(i=xs.length∨(i< xs.length∧i=ys.length))⟩
theorem Src.inj {X:Cx} {pins:List (Addr×Obj)} {σ:St} {H:Hp} {s:Shared} {c:Src} {xs ys:List V} (I:Inv X pins σ H s) (h1:c.has X.K H xs) (h2:c.has X.K H ys):xs=ys:=by
 cases c with
 | lst a=>exact I.list_inj h1 h2
 | tup a=>exact I.tuple_inj h1 h2
 | str l=>exact Eq.trans h1 (Eq.symm h2)
theorem Src.at_keep {c:Src} {it:Addr} {i:Nat} {h h':Heap} (st:c.at it i h) (k:∀o,h.get? it=some o→h'.get? it=some o):c.at it i h':=by
 cases c with
 | lst a=>obtain⟨o,e,r⟩:=st;exact⟨o,k o e,r⟩
 | tup a=>obtain⟨o,e,r⟩:=st;exact⟨o,k o e,r⟩
 | str l =>
  obtain⟨t,st⟩:=st
  rcases st with⟨o,e,r⟩ | ⟨o,e,r⟩
  ·exact⟨t,.inl ⟨o,k o e,r⟩⟩
  ·exact⟨t,.inr ⟨o,k o e,r⟩⟩
theorem Src.at_obj {c:Src} {it:Addr} {i:Nat} {h:Heap} (st:c.at it i h):∃o,h.get? it=some o∧∃vs,o.data=.fields vs:=by
 cases c with
 | lst a=>obtain⟨o,e,_,r⟩:=st;exact⟨o,e,_,r⟩
 | tup a=>obtain⟨o,e,_,r⟩:=st;exact⟨o,e,_,r⟩
 | str l =>
  obtain⟨t,st⟩:=st
  rcases st with⟨o,e,_,r⟩ | ⟨o,e,_,r⟩
  ·exact⟨o,e,_,r⟩
  ·exact⟨o,e,_,r⟩
def wu (c1 c2:Src) (z TI TO i1 i2:Addr) (i:Nat) (h:Heap):Prop:=IsZip h z TI TO .none∧IsPair h TI (.ref i1) (.ref i2)∧(∃a b,IsPair h TO a b)∧c1.at i1 i h∧c2.at i2 i h
structure ZIds (z TI TO i1 i2:Addr):Prop where
 c1:TI≠z
 c2:TO≠z
 c3:i1≠z
 c4:i2≠z
 c5:TI≠TO
 c6:TI≠i1
 c7:TI≠i2
 c8:TO≠i1
 c9:TO≠i2
 c10:i1≠i2
theorem j7 {X:Cx} {pins:List (Addr×Obj)} {σ:St} {H:Hp} {s:Shared} {z TI TO i1 i2:Addr} {fp1 fp2:List Addr} (I:Inv X pins σ H s) (Z:ZIds z TI TO i1 i2) (hf:∀b∈[z,TI,TO,i1,i2],FpOk X pins H b)
  (g1:∀b∈fp1,b=i1∨H b≠none∨∃o,X.base.get? b=some o) (g2:∀b∈fp2,b=i2∨H b≠none∨∃o,X.base.get? b=some o):ZApart z TI TO i1 i2 fp1 fp2:=by
 have no:∀b∈[z,TI,TO,i1,i2],¬(H b≠none∨∃o,X.base.get? b=some o):=fun b hb q=>by
  rcases q with q | ⟨o,q⟩
  ·exact q (hf b hb).1
  ·rcases (hf b hb).2.2.2.1 with y | y
   ·exact I.ok.noex b o q y
   ·exact absurd (Nat.lt_of_lt_of_le (Nat.lt_of_lt_of_le (Heap.lt_size q) I.ok.bsz) y) (Nat.lt_irrefl _)
 refine⟨Z.c1,Z.c2,Z.c3,Z.c4,Z.c5,Z.c6,Z.c7,Z.c8,Z.c9,⟨fun m=>?_,fun m=>?_,fun m=>?_⟩,⟨fun m=>?_,fun m=>?_,fun m=>?_⟩⟩
 ·exact(g1 _ m).elim (fun e=>Z.c3 e.symm) (no z (by simp))
 ·exact(g1 _ m).elim (fun e=>Z.c8 e) (no TO (by simp))
 ·exact(g1 _ m).elim (fun e=>Z.c10 e.symm) (no i2 (by simp))
 ·exact(g2 _ m).elim (fun e=>Z.c4 e.symm) (no z (by simp))
 ·exact(g2 _ m).elim (fun e=>Z.c9 e) (no TO (by simp))
 ·exact(g2 _ m).elim (fun e=>Z.c10 e) (no i1 (by simp))
theorem oo {P:Program} {w:World} {K:PySem.W.Frag} {elts:List Expr} {kk:Nat} {tp:Pos} (c1 c2:Src) (z TI TO i1 i2:Addr) (Z:ZIds z TI TO i1 i2):
  Turn P w K (.Tuple elts kk tp) (uh K c1 c2) [z,TI,TO,i1,i2] z (wu c1 c2 z TI TO i1 i2) where
 mem:=by simp
 obj:=fun i h st b hb=>by
  obtain⟨hz,hI,⟨a,b',hO⟩,t1,t2⟩:=st
  obtain⟨o1,e1,v1,d1⟩:=Src.at_obj t1
  obtain⟨o2,e2,v2,d2⟩:=Src.at_obj t2
  simp only[List.mem_cons,List.not_mem_nil,or_false]at hb
  rcases hb with rfl | rfl | rfl | rfl | rfl
  ·exact⟨_,hz,fun v q=>by cases (show Data.fields _=Data.cell v from q)⟩
  ·exact⟨_,hI,fun v q=>by cases (show Data.seq _ _=Data.cell v from q)⟩
  ·exact⟨_,hO,fun v q=>by cases (show Data.seq _ _=Data.cell v from q)⟩
  ·exact⟨_,e1,fun v q=>by rw[d1]at q;cases q⟩
  ·exact⟨_,e2,fun v q=>by rw[d2]at q;cases q⟩
 keep:=fun i h h' st k=>by
  obtain⟨hz,hI,⟨a,b',hO⟩,t1,t2⟩:=st
  exact⟨k z (by simp) _ hz,k TI (by simp) _ hI,⟨a,b',k TO (by simp) _ hO⟩,Src.at_keep t1 (k i1 (by simp)),Src.at_keep t2 (k i2 (by simp))⟩
 item:=by
  intro X hP hw hK hc i pins s σ H E I hf st hg
  subst hP hw hK
  obtain⟨xs,ys,x,y,hx,hy,ex,ey⟩:=hg
  obtain⟨hz,hI,⟨a,b',hO⟩,t1,t2⟩:=st
  have hh:X.A.in1.handled=none:=I.ok.hd hc
  obtain⟨fp1,P1,S1,D1,u1,r1,a1,_,g1⟩:=Src.draws (A:=X.A.in1) hh I hx t1 (hf i1 (by simp)).1
  obtain⟨fp2,P2,S2,D2,u2,r2,a2,_,g2⟩:=Src.draws (A:=X.A.in1) hh I hy t2 (hf i2 (by simp)).1
  have ZA:=j7 I Z hf g1 g2
  refine mL D1 D2 ZA (List.getElem?_eq_some_iff.mp ex).1 (List.getElem?_eq_some_iff.mp ey).1 hz hI hO u1 u2 fun vx vy h' tk T px py hT hz' hO' w1 w2 hTp kp=>?_
  obtain⟨x',ex',rx⟩:=r1 i vx px
  obtain⟨y',ey',ry⟩:=r2 i vy py
  rw[ex]at ex';cases ex'
  rw[ey]at ey';cases ey'
  have nT:H T=none:=by rw[hT];exact I.hok.fresh (Nat.le_refl _)
  refine⟨_,rfl,wpAny_letOwnedTupleGo_zip hz' fun h2 hz2 sb=>?_⟩
  have lt:∀{c o},s.heap.get? c=some o→c≠T:=fun e=>by rw[hT];exact Nat.ne_of_lt (Heap.lt_size e)
  have up:∀c o,c≠z→h'.get? c=some o→h2.get? c=some o:=fun c o hc e=>(sb.2 c hc).trans e
  have kp2:∀b o,b∉[z,TO,i1,i2]→s.heap.get? b=some o→h2.get? b=some o:=fun b o hb e=>by
   simp only[List.mem_cons,List.not_mem_nil,or_false,not_or]at hb
   exact up b o hb.1 (kp b o hb.1 hb.2.1 hb.2.2.1 hb.2.2.2 e)
  have ch:∀b∈[z,TO,i1,i2],b∈[z,TI,TO,i1,i2]:=fun b hb=>by
   simp only[List.mem_cons,List.not_mem_nil,or_false]at hb ⊢
   rcases hb with h | h | h | h <;> simp[h]
  have fb:∀b u,H b=some u→b∉[z,TO,i1,i2]∧b≠T:=fun b u e=>⟨fun hb=>(by rw[(hf b (ch b hb)).1]at e;cases e),fun q=>(by rw[q,nT]at e;cases e)⟩
  have I2:Inv X pins σ (bu H T (.tup [x,y])) {s with heap:=h2,gens:=s.gens,drawn:=s.drawn,toks:=tk} :=by
   refine I.step (g':=s.gens) (d':=s.drawn) (t':=tk) (ch:=[z,TO,i1,i2]) (fun b hb=>⟨(hf b (ch b hb)).2.2.2.1,(hf b (ch b hb)).2.1,(hf b (ch b hb)).2.2.2.2.1,(hf b (ch b hb)).2.2.2.2.2⟩) (fun b o _ _ hb e _=>kp2 b o hb e) (fun b o _ _ hb e _=>⟨o.slots,kp2 b o hb e⟩)
    (fun b o hb e n=>by rw[ah (lt e)];exact n) (fun b o hb e=>⟨o,kp2 b o hb e⟩) (fun b xs e=>by rw[ah (fb b _ e).2];exact e) (fun b o u e=>by rw[ah (fb b _ e).2];exact e) (fun b ps e=>⟨#[],by rw[ah (fb b _ e).2,e];simp⟩) (fun m hm=>?_) (fun b u e=>?_) I.bare
   ·obtain⟨o,es,ep,ho,r⟩:=hm
    exact⟨o,es,ep,kp2 _ o (fun hb=>(hf _ (ch _ hb)).2.1 rfl) ho,r⟩
   ·by_cases hb:b=T
    ·subst hb
     rw[ak]at e;cases e
     refine⟨(by show 2≤sizeLine;rw[sizeLine_eq];decide),[vx,vy],.cons rx (.cons ry .nil),⟨_,up _ _ ?_ hTp,rfl,_,rfl⟩⟩
     exact fun q=>lt hz q.symm
    ·rw[ah hb]at e
     refine(I.hok b u e).stay (fun c v hc q=>kp2 c v ?_ q) (fun c q=>by rw[ah (fb c _ q).2];exact q) fun c xs q=>by rw[ah (fb c _ q).2];exact q
     rcases hc with q | q
     ·rw[q];exact(fb b u e).1
     ·exact(fb c _ q).1
  refine⟨.ref T,_,I2,rfl,⟨T,x,y,nT,rfl,fun xs' h=>by rw[Src.inj I h hx];exact ex,fun ys' h=>by rw[Src.inj I h hy];exact ey,rfl⟩,⟨hz2,up _ _ Z.c1 (kp _ _ Z.c1 Z.c5 Z.c6 Z.c7 hI),⟨_,_,up _ _ Z.c2 hO'⟩,Src.at_keep (a1 _ _ w1) fun o e=>up _ o Z.c3 e,Src.at_keep (a2 _ _ w2) fun o e=>up _ o Z.c4 e⟩,fun b hb=>?_⟩
  have hbT:b≠T:=by
   obtain⟨o,e⟩:∃o,s.heap.get? b=some o:=by
    obtain⟨o1,e1,_⟩:=Src.at_obj t1
    obtain⟨o2,e2,_⟩:=Src.at_obj t2
    simp only[List.mem_cons,List.not_mem_nil,or_false]at hb
    rcases hb with rfl | rfl | rfl | rfl | rfl
    ·exact⟨_,hz⟩
    ·exact⟨_,hI⟩
    ·exact⟨_,hO⟩
    ·exact⟨_,e1⟩
    ·exact⟨_,e2⟩
   exact lt e
  rw[ah hbT]
  exact(hf b hb).1
 done:=by
  intro X hP hw hK hc i pins s σ H E I hf st hg
  subst hP hw hK
  obtain⟨xs,ys,hx,hy,hend⟩:=hg
  obtain⟨hz,hI,⟨a,b',hO⟩,t1,t2⟩:=st
  have hh:X.A.in1.handled=none:=I.ok.hd hc
  obtain⟨fp1,P1,S1,D1,u1,r1,a1,_,g1⟩:=Src.draws (A:=X.A.in1) hh I hx t1 (hf i1 (by simp)).1
  obtain⟨fp2,P2,S2,D2,u2,r2,a2,_,g2⟩:=Src.draws (A:=X.A.in1) hh I hy t2 (hf i2 (by simp)).1
  have ZA:=j7 I Z hf g1 g2
  have ch:∀b∈[z,TO,i1,i2],b∈[z,TI,TO,i1,i2]:=fun b hb=>by
   simp only[List.mem_cons,List.not_mem_nil,or_false]at hb ⊢
   rcases hb with h | h | h | h <;> simp[h]
  refine on hh D1 D2 ZA hend hz hI hO u1 u2 fun h2 tk kp=>⟨rfl,?_⟩
  have kp2:∀b o,b∉[z,TO,i1,i2]→s.heap.get? b=some o→h2.get? b=some o:=fun b o hb e=>by
   simp only[List.mem_cons,List.not_mem_nil,or_false,not_or]at hb
   exact kp b o hb.1 hb.2.1 hb.2.2.1 hb.2.2.2 e
  refine I.step (g':=s.gens) (d':=s.drawn) (t':=tk) (ch:=[z,TO,i1,i2]) (fun b hb=>⟨(hf b (ch b hb)).2.2.2.1,(hf b (ch b hb)).2.1,(hf b (ch b hb)).2.2.2.2.1,(hf b (ch b hb)).2.2.2.2.2⟩) (fun b o _ _ hb e _=>kp2 b o hb e) (fun b o _ _ hb e _=>⟨o.slots,kp2 b o hb e⟩)
   (fun b o hb e n=>n) (fun b o hb e=>⟨o,kp2 b o hb e⟩) (fun b xs e=>e) (fun b o u e=>e) (fun b ps e=>⟨#[],by rw[e];simp⟩) (fun m hm=>?_) (fun b u e=>?_) I.bare
  ·obtain⟨o,es,ep,ho,r⟩:=hm
   exact⟨o,es,ep,kp2 _ o (fun hb=>(hf _ (ch _ hb)).2.1 rfl) ho,r⟩
  ·have fb:∀b u,H b=some u→b∉[z,TO,i1,i2]:=fun b u e hb=>by rw[(hf b (ch b hb)).1]at e;cases e
   refine(I.hok b u e).stay (fun c v hc q=>kp2 c v ?_ q) (fun c q=>q) fun c xs q=>q
   rcases hc with q | q
   ·rw[q];exact fb b u e
   ·exact fb c _ q
 self:=fun _ _ _ _ _ st h=>wpAny_pyIter_zip st.1 h
theorem i3 (n a b:Nat) (h:a≠b): @Ne Nat (n+a) (n+b):=fun e=>h (Nat.add_left_cancel e)
def sK (K:PySem.W.Frag) (t:TA):TI:=fun σ H R=>t σ H fun vs H1=>∃c1 c2 xs ys,vs=[c1.val,c2.val]∧c1.has K H1 xs∧c2.has K H1 ys∧R (uh K c1 c2) H1
theorem sL {X:Cx} {a b:Expr} {ta:TA} {p pos tp:Pos} {elts:List Expr} {kk:Nat} (hg:Gl X "zip") (hm:X.mg "zip" =none) (ha:PA X [a,b] ta)
  (hs:starEach [a,b] X.env=[(false,eval a X.env),(false,eval b X.env)]:=by rfl) (hs2:starEach [b] X.env=[(false,eval b X.env)]:=by rfl):PI X (.Tuple elts kk tp) (.Call (.Name "zip" p) [a,b] [] pos) (sK X.K ta):=by
 intro pins s σ H R I h
 refine Call_ (eL I hg hm boot_zip (PyProof.Rows.callWith_type1 (bO (ha pos pins s σ H _ I h) fun us s1 ⟨vs,H1,I1,r1,q1⟩=>?_) (by rw[hs,hs2]) (by rw[hs2];rfl)))
 obtain⟨c1,c2,xs,ys,e,h1,h2,q⟩:=q1
 subst e
 obtain⟨v1,v2,rfl,ra,rb⟩:=ii r1
 obtain⟨o1,i1,f1,n1⟩:=Src.iter I1 h1 ra fun _ _ e=>e
 obtain⟨o2,i2,f2,n2⟩:=Src.iter (h:=s1.heap.push o1) I1 h2 rb fun _ _ e=>Heap.get?_push_of_some _ e
 have z1:(s1.heap.push o1).objs.size=s1.heap.objs.size+1:=Heap.size_push ..
 rw[z1]at n2
 refine iu i1 i2 f1 f2 fun h' hz hI hO e1 e2 kp=>?_
 refine wpAny_pyIter_zip hz ?_
 have zi:∀n:Nat,ZIds (n+4) (n+2) (n+3) n (n+1):=fun n=>⟨(i3 n 2 4 (by decide)),(i3 n 3 4 (by decide)),(i3 n 0 4 (by decide)),(i3 n 1 4 (by decide)),(i3 n 2 3 (by decide)),(i3 n 2 0 (by decide)),(i3 n 2 1 (by decide)),(i3 n 3 0 (by decide)),(i3 n 3 1 (by decide)),(i3 n 0 1 (by decide))⟩
 refine⟨s1.heap.objs.size+4,[s1.heap.objs.size+4,s1.heap.objs.size+2,s1.heap.objs.size+3,s1.heap.objs.size,s1.heap.objs.size+1],_,_,H1,rfl,I1.kept (t':=s1.toks) kp,oo c1 c2 _ _ _ _ _ (zi s1.heap.objs.size),⟨hz,hI,⟨_,_,hO⟩,n1 h' e1,n2 h' e2⟩,fun b hb=>?_,q⟩
 have hb':s1.heap.objs.size≤b:=by
  simp only[List.mem_cons,List.not_mem_nil,or_false]at hb
  rcases hb with z | z | z | z | z <;> rw[z]
  ·exact Nat.le_add_right _ 4
  ·exact Nat.le_add_right _ 2
  ·exact Nat.le_add_right _ 3
  ·exact Nat.le_refl _
  ·exact Nat.le_add_right _ 1
 exact I1.fpOk hb' (I1.hok.fresh hb')
theorem qv {K:PySem.W.Frag} {c1 c2:Src} {xs ys:List V} {g:TG} {tb:TS} {D:Ends} {σ:St} {H:Hp} (Pv:Nat→St→Hp→Prop) (h0:Pv 0 σ H) (hl:∀i σ H,Pv i σ H→c1.has K H xs∧c2.has K H ys) (hn:xs.length=ys.length)
  (hs:∀i x y p σ H,xs[i]? =some x→ys[i]? =some y→H p=none→Pv i σ H→g (.ref p) σ (bu H p (.tup [x,y])) fun σ2 H2=>tb {D with nx:=Pv (i+1),ct:=Pv (i+1),bk:=D.nx} σ2 H2) (hd:∀σ H,Pv xs.length σ H→D.nx σ H):
  ∃ W : Nat → Nat → St → Hp → Prop, (∃ m, W 0 m σ H) ∧ ∀ i m σ H, W i m σ H →
   ((uh K c1 c2).stop i H∧D.nx σ H)∨((uh K c1 c2).go i H∧∃N:St→Hp→Prop,(∀σ' H',N σ' H'→∃m',m'< m∧W (i+1) m' σ' H')∧∀x H',(uh K c1 c2).yld i H x H'→g x σ H' fun σ2 H2=>tb {D with nx:=N,ct:=N,bk:=D.nx} σ2 H2):=by
 refine⟨fun i m σ H=>m=xs.length- i∧i≤xs.length∧Pv i σ H,⟨xs.length,by simp,Nat.zero_le _,h0⟩,?_⟩
 rintro i m σ H ⟨rfl,hi,p⟩
 obtain⟨q1,q2⟩:=hl i σ H p
 by_cases hlt:i< xs.length
 ·refine .inr ⟨⟨xs,ys,xs[i],ys[i],q1,q2,by simp[hlt],by simp[←hn,hlt]⟩,Pv (i+1),fun σ' H' p'=>⟨xs.length- (i+1),by omega,rfl,hlt,p'⟩,fun v H' ⟨a,x,y,na,ev,ex,ey,eh⟩=>?_⟩
  subst ev eh
  exact hs i x y a σ H (ex xs q1) (ey ys q2) na p
 ·have e:i=xs.length:=by omega
  subst e
  exact .inl ⟨⟨xs,ys,q1,q2,.inl rfl⟩,hd σ H p⟩
end L2
namespace L2
open PySem PySem.Spec PyProof.Rows
structure Cal (P:Program) (w:World) (K:PySem.W.Frag) (mg:Str→Option Value) (base:Heap) (x:Str) (ps:List Str) (k:Nat) (sp:Sp):Prop where
 ex:∃(f:Addr) (fd:FuncData),FnOk P w K mg base CX0 k f fd ps sp∧mg x=some (.ref f)∧PySem.W.keepIn K (.ref f)=true∧Binds K fd ps []
theorem ay {X:Cx} {x:Str} {ps:List Str} {k:Nat} {sp:Sp} {p pos:Pos} {e:Expr} {es:List Expr} {t:TA} (C:Cal X.prog X.w X.K X.mg X.base x ps k sp) (hr:Room k X.A) (hg:Gl X x) (ha:PA X (e::es) t)
  (hdb:(x == ("__debug__" :Str))=false:=by decide) (he:starEach (e::es) X.env=(false,eval e X.env)::starEach es X.env:=by rfl) (hpl:(backTo pos (starEach es X.env)).any (·.1)=false:=by rfl):
  PE X (.Call (.Name x p) (e::es) [] pos) (aU sp [] E0 t):=by
 obtain⟨f,fd,F,hm,hk,hb⟩:=C.ex
 exact lK F hr hg hm hk hb .nil ub ha hdb he hpl
theorem j8 {X:Cx} {scope:Scope} {N:List Str} {cap:List (Option Nat)} (kind:scope.kind=.function) (nd:N.Nodup) (len:cap.length=N.length) (uniq:(scope.names.map (·.1)).Nodup)
  (fr:(scope.names.all fun x=>x.2 != .free || (X.env.kindOf x.1 == some .cell || X.env.kindOf x.1 == some .free))=true)
  (cp:((N.zip cap).all fun p=>match p.2 with | none=>true | some j=>X.N[j]? == some p.1 && scope.names.contains (p.1,NameKind.free))=true):CompScope X scope N cap:=by
 refine⟨kind,nd,len,uniq,fun x hx hk=>?_,fun k x j h1 h2=>?_⟩
 ·have:=List.all_eq_true.mp fr x hx
  rw[hk]at this
  simpa using this
 ·have hm:(x,some j)∈N.zip cap:=by
   rw[List.mem_iff_getElem?]
   exact⟨k,by rw[List.getElem?_zip_eq_some];exact⟨h1,h2⟩⟩
  have:=List.all_eq_true.mp cp _ hm
  simpa using this
def flat:V→Bool
 | .non=>true
 | .bl _=>true
 | .int _=>true
 | .str _=>true
 | _=>false
theorem cY {H:Hp} {p:Addr} {o:HO} (h:H p=none):Same H (bu H p o):=fun b u e=>by rw[ah (bR e h)];exact e
end L2
namespace L2
open PySem PySem.Spec PyProof.Rows
theorem cS (x:String) (l:List Nat) (h:(Str.ofString x).cps.toList=l):Str.ofString x=sOf l:=by rw[o8 (Str.ofString x),h]
end L2
namespace L2
open PySem PySem.Spec PyProof.Rows
section
variable {X:Cx} {K:PySem.W.Frag} {w:World}
theorem am (h:X.K=K):tH X (bQ K):=h▸sD
theorem dl (h:X.K=K):tH X (bU K):=h▸qp
theorem bh (h:X.K=K):dh X (.builtin "len") (fun xs H Q=>∃x n,xs=[x]∧kT K x H n∧Q (.int n) H):=h▸nW
theorem bg (h:X.K=K):dh X (.builtin "isinstance") (fun xs H Q=>∃x T t b,xs=[x,.ty T]∧TyOf K H x t∧PySem.W.kitOne K t (.type T)=some b∧Q (.bl b) H):=h▸jH
theorem oq (h:X.K=K):u5 X "str.join" (fun x xs H Q=>∃(p:Addr) (ys:List (List Nat)),x=.str (sOf [])∧xs=[.ref p]∧SqL K H p (ys.map fun y=>V.str (sOf y))∧ys.flatten.length≤100000∧Q (.str (sOf ys.flatten)) H):=h▸qu
theorem ou (h:X.K=K):uX X (bX K):=h▸qq
theorem dO (h:X.K=K) (hw:X.w=w) {o i:Expr} {pos:Pos} {td ty:TE} (ho:PE X o td) (hi:PE X i ty) (hs:sH i):PE X (.Subscript o i pos) (aO K w td ty):=h▸hw▸og ho hi hs
theorem bF (h:X.K=K) {pos:Pos} {es:List Expr} {k:Nat} {t:qi} {n:Nat} (hc:X.calm=true) (hg:tG X es t) (hn:(assignEach es X.env).length=n:=by rfl) (hst:(assignEach es X.env).findIdx? (·.1)=none:=by rfl):PG X (.Tuple es k pos) (bK K n t):=h▸sx hc hg hn hst
theorem dP (h:X.K=K) {tg l:Expr} {tl:TE} (hl:PE X l tl):PI X tg l (lF K tl):=h▸qj hl
theorem j9 (h:X.K=K) {a b:Expr} {ta:TA} {p pos tp:Pos} {elts:List Expr} {kk:Nat} (hg:Gl X "zip") (hm:X.mg "zip" =none) (ha:PA X [a,b] ta)
  (hs:starEach [a,b] X.env=[(false,eval a X.env),(false,eval b X.env)]:=by rfl) (hs2:starEach [b] X.env=[(false,eval b X.env)]:=by rfl):PI X (.Tuple elts kk tp) (.Call (.Name "zip" p) [a,b] [] pos) (sK K ta):=h▸sL hg hm ha hs hs2
theorem l6 (h:X.K=K) {o e:Expr} {es:List Expr} {to:TE} {t:TA} {name:Str} {apos cpos:Pos} {T id:String} {r:V→List V→Hp→VK→Prop} (pa:PlainAttrs T) (slot:Slot T name id) (hty:typeOf (.builtin id)=pure (.type "method_descriptor")) (hm:u5 X id r) (ho:PE X o to) (ha:PA X (e::es) t)
  (hbase:attributeBase o name X.env (eval o X.env)=eval o X.env:=by rfl)
  (hfew:((backTo cpos (starEach (e::es) X.env)).all (fun x=> !x.1) && (backToKw cpos (keywordEach [] X.env)).all (fun x=>x.1.isSome) && decide ((e::es).length+([]:List Keyword).length+(if([]:List Keyword).isEmpty then 0 else 1)< 30))=true:=by rfl)
  (hline:(apos.endLine == cpos.line)=true:=by rfl) (hs:starEach (e::es) X.env=(false,eval e X.env)::starEach es X.env:=by rfl) (hplain:(backTo cpos (starEach es X.env)).any (·.1)=false:=by rfl):
  PE X (.Call (.Attribute o name apos) (e::es) [] cpos) (dC K T r to t):=h▸u6 pa slot hty hm ho ha hbase hfew hline hs hplain
end
end L2
namespace L2
open PySem PySem.Spec PyProof.Rows
end L2
namespace L2
open PySem PySem.Spec PyProof.Rows
end L2
namespace Wb
open PySem L2
abbrev Rp (α:Type):=Hp→α→V→Prop
class Mono {α:Type} (R:Rp α):Prop where
 mono:∀{H H':Hp} {m:α} {v:V},Same H H'→R H m v→R H' m v
def LR {α:Type} (R:Rp α) (H:Hp) (ms:List α) (vs:List V):Prop:=vs.length=ms.length∧∀(i:Nat) (v:V) (m:α),vs[i]? =some v→ms[i]? =some m→R H m v
theorem LR.nil {α:Type} {R:Rp α} {H:Hp} :LR R H [] []:=⟨rfl,fun i v m e=>by simp at e⟩
theorem LR.same {α:Type} {R:Rp α} [Mono R] {H H':Hp} {ms:List α} {vs:List V} (h:LR R H ms vs) (e:Same H H'):LR R H' ms vs:=⟨h.1,fun i v m a b=>Mono.mono e (h.2 i v m a b)⟩
theorem LR.snoc {α:Type} {R:Rp α} {H:Hp} {ms:List α} {vs:List V} {m:α} {v:V} (h:LR R H ms vs) (r:R H m v):LR R H (ms++ [m]) (vs++ [v]):=by
 refine⟨by simp[h.1],fun i v' m' a b=>?_⟩
 by_cases hi:i< vs.length
 ·rw[List.getElem?_append_left hi]at a
  rw[List.getElem?_append_left (by rw[←h.1];exact hi)]at b
  exact h.2 i v' m' a b
 ·rw[List.getElem?_append_right (by omega)]at a
  rw[List.getElem?_append_right (by rw[←h.1];omega)]at b
  rw[←h.1]at b
  cases e:i- vs.length with
  | zero=>rw[e]at a b;simp at a b;subst a b;exact r
  | succ n=>rw[e]at a;simp at a
theorem LR.get {α:Type} {R:Rp α} {H:Hp} {ms:List α} {vs:List V} {i:Nat} {m:α} (h:LR R H ms vs) (e:ms[i]? =some m):∃v,vs[i]? =some v∧R H m v:=by
 have hi:i< vs.length:=by rw[h.1];exact(List.getElem?_eq_some_iff.mp e).1
 exact⟨vs[i],by simp[hi],h.2 i _ m (by simp[hi]) e⟩
def isL {α:Type} (R:Rp α):Rp (List α):=fun H ms v=>∃p vs,v=.ref p∧H p=some (.lst vs)∧LR R H ms vs
instance zkeep1 {α:Type} {R:Rp α} [Mono R]:Mono (isL R):=⟨fun e ⟨p,vs,h1,h2,h3⟩=>⟨p,vs,h1,e _ _ h2,h3.same e⟩⟩
def isS:Rp (List Nat):=fun _ l v=>v=.str (sOf l)
instance zkeep2:Mono isS:=⟨fun _ h=>h⟩
def isI:Rp Int:=fun _ l v=>v=.int l
instance zkeep4:Mono isI:=⟨fun _ h=>h⟩
theorem LR.str {H:Hp} {ms:List (List Nat)} {vs:List V} (h:LR isS H ms vs):vs=ms.map fun l=>V.str (sOf l):=by
 refine List.ext_getElem? fun i=>?_
 rw[List.getElem?_map]
 cases e:ms[i]? with
 | none=>rw[List.getElem?_eq_none_iff]at e;rw[List.getElem?_eq_none_iff.mpr (by rw[h.1];exact e)];rfl
 | some m=>obtain⟨v,a,b⟩:=h.get e;rw[a];cases b;rfl
end Wb
namespace L2
open PySem PySem.Spec PyProof.Rows
section
variable {X:Cx} {K:PySem.W.Frag} {w:World}
theorem i4 (h:X.K=K):dh X (.type "list") (fun xs H Q=>∃p ys,xs=[.ref p]∧(SqL K H p ys∨SqT K H p ys)∧∀l,H l=none→Q (.ref l) (bu H l (.lst ys))):=h▸j0
end
end L2
namespace Wb
open PySem L2
theorem LR.take {α:Type} {R:Rp α} {H:Hp} {ms:List α} {vs:List V} (h:LR R H ms vs) (k:Nat):LR R H (ms.take k) (vs.take k):=by
 refine⟨by simp[h.1],fun i v m a b=>?_⟩
 rw[List.getElem?_take]at a b
 split at a
 ·rw[if_pos (by assumption)]at b;exact h.2 i v m a b
 ·cases a
theorem LR.drop {α:Type} {R:Rp α} {H:Hp} {ms:List α} {vs:List V} (h:LR R H ms vs) (k:Nat):LR R H (ms.drop k) (vs.drop k):=by
 refine⟨by simp[h.1],fun i v m a b=>?_⟩
 rw[List.getElem?_drop]at a b
 exact h.2 _ v m a b
theorem bi {H H':Hp} {p:Addr} (e:Same H H') (h:H' p=none):H p=none:=by
 cases z:H p with
 | none=>rfl
 | some x=>have:=e _ _ z;rw[h]at this;cases this
theorem mM {H H3:Hp} {p:Addr} {o:HO} (e:Same H H3) (h:H p=none):Same H (bu H3 p o):=fun a u z=>by
 rw[ah (bR z h)];exact e _ _ z
end Wb
namespace L2
open PySem PySem.Spec PyProof.Rows
end L2
namespace L2
open PySem PySem.Spec PyProof.Rows
theorem gJ:∀(xs:List V) (us:List Value),us.length=xs.length→(∀(j:Nat) (x:V) (u:Value),xs[j]? =some x→us[j]? =some u→RelV x u)→Vals xs us
 | [],[],_,_=>.nil
 | x::xs,u::us,hl,h=>.cons (h 0 x u rfl rfl) (gJ xs us (by simpa using hl) fun j x u a b=>h (j+1) x u (by simpa using a) (by simpa using b))
 | [],_::_,hl,_=>by simp at hl
 | _::_,[],hl,_=>by simp at hl
theorem iw {α β:Type} {F:α→β→Prop} :∀{l₁:List α} {l₂:List β},Paired F l₁ l₂→∀{j:Nat} {b:β},l₂[j]? =some b→∃a,l₁[j]? =some a∧F a b
 | _,_,.nil,j,b,h=>by simp at h
 | _,_,.cons r rs,0,b,h=>by simp at h;subst h;exact⟨_,rfl,r⟩
 | _,_,.cons r rs,j+1,b,h=>by simp at h;obtain⟨a,h1,h2⟩:=iw rs h;exact⟨a,by simpa using h1,h2⟩
section
variable {X:Cx} {K:PySem.W.Frag} {w:World}
theorem gK (hc:X.calm=true):dh X (.type "list") (fun xs H Q=>∃l:List Nat,xs=[.str (sOf l)]∧l.length≤sizeLine∧∀p,H p=none→Q (.ref p) (bu H p (.lst (l.map fun c=>V.str (sOf [c]))))):=by
 intro pins s σ H xs us Q I r h
 obtain⟨l,rfl,hl,q⟩:=h
 obtain⟨u,rfl,t,rfl⟩:=fk r
 refine PySem.call_list_str (I.ok.hd hc) (sOf l) t (fun h' tk acc c' hk e hacc=>?_) (by simpa [sOf] using hl)
 refine⟨.ref s.heap.objs.size,_,I.laid (t':=tk) hk (Nat.le_refl _) (show ObjOk X.prog X.w _ h' _ (.lst (l.map fun c=>V.str (sOf [c])))from⟨by rw[List.length_map];exact hl,acc.toList,c',?_,by rw[Array.toArray_toList];exact e⟩),rfl,q _ (I.hok.fresh (Nat.le_refl _))⟩
 refine gJ _ _ (by rw[Array.length_toList,hacc.1,List.length_map];simp[sOf]) fun j x u hx hu=>?_
 obtain⟨c,t',h1,rfl⟩:=hacc.2 j u (by rw[←Array.getElem?_toList];exact hu)
 rw[List.getElem?_map]at hx
 obtain⟨c',h2,rfl⟩:=Option.map_eq_some_iff.mp hx
 have h3:l[j]? =some c:=by simpa [sOf] using h1
 rw[h3]at h2;cases h2
 exact⟨t',rfl⟩
theorem ja (h:X.K=K):dh X (.builtin "sorted") (fun xs H Q=>∃(p:Addr) (ns:List Int),xs=[.ref p]∧SqL K H p (ns.map V.int)∧ns.length< 64∧∀(q:Addr) (ns':List Int),H q=none→ns'.Perm ns→ns'.Pairwise (· ≤ ·)→Q (.ref q) (bu H q (.lst (ns'.map V.int)))):=by
 subst h
 intro pins s σ H xs us Q I r h
 obtain⟨p,ns,rfl,hq,h64,q⟩:=h
 obtain⟨u,rfl,rx⟩:=fk r
 cases rx
 obtain⟨its,r',pl,hz⟩:=I.list hq
 have hi:=gB r'
 have hlen:=IntsAre.length hi
 refine sorted_ints pl.isList hi (by omega) fun out ns' a1 a2 a3=>?_
 obtain⟨e,he⟩:=sortedAll_at s.heap its out
 have hl':=a2.length_eq
 refine⟨.ref (s.heap.objs.size+1),_,I.laid (t':=s.toks) (fun _ _=>sortedAll_old) (Nat.le_succ _) (show ObjOk X.prog X.w _ _ _ (.lst (ns'.map V.int))from⟨by rw[List.length_map,sizeLine_eq];omega,out.toList,e,eX a1,by rw[Array.toArray_toList];exact he⟩),rfl,q _ ns' (I.hok.fresh (Nat.le_succ _)) a2 a3⟩
theorem jb (hc:X.calm=true):dh X (.builtin "sorted") (fun xs H Q=>∃(p:Addr) (kvs:List (Key×V)) (ns:List Int),xs=[.ref p]∧H p=some (.dK kvs)∧kvs.map (·.1)=ns.map Sum.inl∧ns.length< 64∧∀(q:Addr) (ns':List Int),H q=none→ns'.Perm ns→ns'.Pairwise (· ≤ ·)→Q (.ref q) (bu H q (.lst (ns'.map V.int)))):=by
 intro pins s σ H xs us Q I r h
 obtain⟨p,kvs,ns,rfl,hp,hks,h64,q⟩:=h
 obtain⟨u,rfl,rx⟩:=fk r
 cases rx
 obtain⟨hz,lo,vs,kv,hD⟩:=I.hok p _ hp
 obtain⟨ep,hat⟩:=hD.dictAt
 have hvl:vs.length=ns.length:=by
  have h1:kvs.length=vs.length:=Paired.length kv
  have h2:=congrArg List.length hks
  simp at h2;omega
 refine Calls.call_function_entry kind_sorted plain_sorted entry_sorted (args_sorted1 _) ?_
 unfold Builtin.«sorted»
 refine wpAny_bind (m:=checkCount "sorted" 1 1 _) (wpAny_pure ?_)
 refine wpAny_bind (PySem.W.kdu_collect (A:=X.A.in1) (PySem.W.kdl_dict (knd:=bL X.prog X.w) (kvs:=vs) (ep:=ep) lo) (I.ok.hd hc) hat (by rw[sizeLine_eq];omega) fun h' tk acc hk hacc=>?_)
 have hal:acc.toList.length=ns.length:=by rw[Array.length_toList,hacc.1,hvl]
 have hI:IntsAre acc.toList ns:=gB (gJ _ _ (by rw[hal,List.length_map]) fun j x u hx hu=>by
  obtain⟨k,y,h1,h2⟩:=hacc.2 j u (by rw[←Array.getElem?_toList];exact hu)
  rw[List.getElem?_map]at hx
  obtain⟨n,h3,rfl⟩:=Option.map_eq_some_iff.mp hx
  have h4:(kvs.map (·.1))[j]? =some k:=by
   obtain⟨a,ha,hab⟩:=iw kv h1
   rw[List.getElem?_map,ha]
   exact congrArg some hab.1
  rw[hks,List.getElem?_map,h3]at h4
  cases h4
  rcases bB (show eJ (Sum.inl n) u=true from h2)with⟨i,t,e1,rfl⟩ | ⟨x,t,e1,rfl⟩
  ·cases e1;exact⟨t,rfl⟩
  ·cases e1)
 refine wpAny_bind (wpAny_newList ?_ (by rw[hal,sizeLine_eq];omega))
 have hoL:(h'.push (seqObj "list" acc.toList.toArray 0)).get? h'.objs.size=some (seqObj "list" acc.toList.toArray 0):=Heap.get?_push_size _ rfl
 refine wpAny_bind (wpAny_holding (wpAny_call_entry slot_list_sort ⟨_,hoL,rfl⟩ entry_list_sort (list_sort_tree hoL hI (by omega) fun out ns' a1 a2 a3=>⟨_,rfl,?_⟩) (args_list_sort _)))
 obtain⟨e,he⟩:=sortedHeap_at (h:=h'.push (seqObj "list" acc.toList.toArray 0)) (a:=h'.objs.size) (vs:=acc.toList) (out:=out) (n:=0) hoL
 have hl':=a2.length_eq
 have I':=I.kept (t':=tk) hk
 refine wpAny_pure ⟨_,rfl,.ref h'.objs.size,_,I'.laid (t':=tk) (fun b o z=>?_) (Nat.le_refl _) (show ObjOk X.prog X.w _ _ _ (.lst (ns'.map V.int))from⟨by rw[List.length_map,sizeLine_eq];omega,out.toList,e,eX a1,by rw[Array.toArray_toList];exact he⟩),rfl,q _ ns' (I'.hok.fresh (Nat.le_refl _)) a2 a3⟩
 show(sortedHeap _ _ _ _).get? b=some o
 rw[sortedHeap_old (Nat.ne_of_lt (Heap.lt_size z)) (by rw[size_push'];exact Nat.lt_succ_of_lt (Heap.lt_size z))]
 exact Heap.get?_push_of_some _ z
theorem f9 (h:X.K=K):OpR X (compareOp .NotIn) (dN K true):=h▸iZ
theorem l7 (h:X.K=K):OpR X (compareOp .In) (dN K false):=h▸mE
end
end L2
namespace L2
theorem ow {k:Nat} {A:PySem.Around} (r:Room k A):A.units+1< PySem.cLine:=by have:=r.un;omega
end L2
namespace L2
open PySem PySem.Spec PyProof.Rows
def wk (K:PySem.W.Frag) (c:Src):It:=
  ⟨fun i H=>∃xs x,c.has K H xs∧xs[i]? =some x,
   fun i H v H'=>∃p x,H p=none∧v=.ref p∧(∀xs,c.has K H xs→xs[i]? =some x)∧H'=bu H p (.tup [.int i,x]),
   fun i H=>∃xs,c.has K H xs∧xs.length=i⟩
def wv (c:Src) (e it:Addr) (i:Nat) (h:Heap):Prop:=(∃old,IsEnum h e it i old)∧c.at it i h
theorem l8 {P:Program} {w:World} {K:PySem.W.Frag} {elts:List Expr} {kk:Nat} {tp:Pos} (c:Src) (e it:Addr) (ne:e≠it):Turn P w K (.Tuple elts kk tp) (wk K c) [e,it] e (wv c e it) where
 mem:=by simp
 obj:=fun i h st b hb=>by
  obtain⟨⟨old,he⟩,t1⟩:=st
  obtain⟨o1,e1,v1,d1⟩:=Src.at_obj (c:=c) t1
  simp only[List.mem_cons,List.not_mem_nil,or_false]at hb
  rcases hb with rfl | rfl
  ·exact⟨_,he,fun v q=>by cases (show Data.fields _=Data.cell v from q)⟩
  ·exact⟨_,e1,fun v q=>by rw[d1]at q;cases q⟩
 keep:=fun i h h' st k=>by
  obtain⟨⟨old,he⟩,t1⟩:=st
  exact⟨⟨old,k e (by simp) _ he⟩,Src.at_keep (c:=c) t1 (k it (by simp))⟩
 item:=by
  intro X hP hw hK hc i pins s σ H E I hf st hg
  subst hP hw hK
  obtain⟨xs,x,hx,ex⟩:=hg
  obtain⟨⟨old,he⟩,t1⟩:=st
  have hh:X.A.in1.handled=none:=I.ok.hd hc
  obtain⟨fp1,P1,S1,D1,u1,r1,a1,_,g1⟩:=Src.draws (A:=X.A.in1) (c:=c) hh I hx t1 (hf it (by simp)).1
  have nof:e∉fp1:=fun m=>by
   rcases g1 e m with q | q | ⟨o,q⟩
   ·exact ne q
   ·exact q (hf e (by simp)).1
   ·rcases (hf e (by simp)).2.2.2.1 with y | y
    ·exact I.ok.noex e o q y
    ·exact absurd (Nat.lt_of_lt_of_le (Nat.lt_of_lt_of_le (Heap.lt_size q) I.ok.bsz) y) (Nat.lt_irrefl _)
  refine wpAny_pyNext_enum_itemD D1 he u1 (List.getElem?_eq_some_iff.mp ex).1 ne nof fun vx h' tk px ho w1 hTp hsz kp=>?_
  obtain⟨x',ex',rx⟩:=r1 i vx px
  rw[ex]at ex';cases ex'
  have nT:H s.heap.objs.size=none:=I.hok.fresh (Nat.le_refl _)
  refine⟨_,rfl,wpAny_letOwnedTupleGo_enum ho fun h2 he2 sb=>?_⟩
  have lt:∀{z o},s.heap.get? z=some o→z≠s.heap.objs.size:=fun e=>Nat.ne_of_lt (Heap.lt_size e)
  have kp2:∀b o,b∉[e,it]→s.heap.get? b=some o→h2.get? b=some o:=fun b o hb q=>by
   simp only[List.mem_cons,List.not_mem_nil,or_false,not_or]at hb
   exact(sb.2 b hb.1).trans (kp b o hb.1 hb.2 q)
  have fb:∀b u,H b=some u→b∉[e,it]∧b≠s.heap.objs.size:=fun b u q=>⟨fun hb=>(by rw[(hf b hb).1]at q;cases q),fun z=>(by rw[z,nT]at q;cases q)⟩
  have I2:Inv X pins σ (bu H s.heap.objs.size (.tup [.int i,x])) {s with heap:=h2,gens:=s.gens,drawn:=s.drawn,toks:=tk+1} :=by
   refine I.step (g':=s.gens) (d':=s.drawn) (t':=tk+1) (ch:=[e,it]) (fun b hb=>⟨(hf b hb).2.2.2.1,(hf b hb).2.1,(hf b hb).2.2.2.2.1,(hf b hb).2.2.2.2.2⟩) (fun b o _ _ hb q _=>kp2 b o hb q) (fun b o _ _ hb q _=>⟨o.slots,kp2 b o hb q⟩)
    (fun b o hb q n=>by rw[ah (lt q)];exact n) (fun b o hb q=>⟨o,kp2 b o hb q⟩) (fun b xs q=>by rw[ah (fb b _ q).2];exact q) (fun b o u q=>by rw[ah (fb b _ q).2];exact q) (fun b ps q=>⟨#[],by rw[ah (fb b _ q).2,q];simp⟩) (fun m hm=>?_) (fun b u q=>?_) I.bare
   ·obtain⟨o,es,ep,ho',r⟩:=hm
    exact⟨o,es,ep,kp2 _ o (fun hb=>(hf _ hb).2.1 rfl) ho',r⟩
   ·by_cases hb:b=s.heap.objs.size
    ·subst hb
     rw[ak]at q;cases q
     refine⟨(by show 2≤sizeLine;rw[sizeLine_eq];decide),[.int i tk,vx],.cons ⟨_,rfl⟩ (.cons rx .nil),⟨_,(sb.2 _ ?_).trans hTp,rfl,_,rfl⟩⟩
     exact fun z=>lt he z.symm
    ·rw[ah hb]at q
     refine(I.hok b u q).stay (fun c2 v hc z=>kp2 c2 v ?_ z) (fun c2 z=>by rw[ah (fb c2 _ z).2];exact z) fun c2 xs z=>by rw[ah (fb c2 _ z).2];exact z
     rcases hc with z | z
     ·rw[z];exact(fb b u q).1
     ·exact(fb _ _ z).1
  refine⟨.ref s.heap.objs.size,_,I2,rfl,⟨_,x,nT,rfl,fun xs' h=>by rw[Src.inj I h hx];exact ex,rfl⟩,⟨⟨_,by simpa using he2⟩,Src.at_keep (c:=c) (a1 _ _ w1) fun o q=>(sb.2 _ (Ne.symm ne)).trans q⟩,fun b hb=>?_⟩
  have hbT:b≠s.heap.objs.size:=by
   obtain⟨o1,e1,_⟩:=Src.at_obj (c:=c) t1
   simp only[List.mem_cons,List.not_mem_nil,or_false]at hb
   rcases hb with rfl | rfl
   ·exact lt he
   ·exact lt e1
  rw[ah hbT]
  exact(hf b hb).1
 done:=by
  intro X hP hw hK hc i pins s σ H E I hf st hg
  subst hP hw hK
  obtain⟨xs,hx,hl⟩:=hg
  obtain⟨⟨old,he⟩,t1⟩:=st
  have hh:X.A.in1.handled=none:=I.ok.hd hc
  obtain⟨fp1,P1,S1,D1,u1,r1,a1,_,g1⟩:=Src.draws (A:=X.A.in1) (c:=c) hh I hx t1 (hf it (by simp)).1
  subst hl
  obtain⟨f0,f1,f2,f3,f4,f5⟩:=hf it (by simp)
  exact wpAny_pyNext_enum_endD D1 he u1 fun h' hx'=>⟨rfl,I.turned (t':=s.toks) (fun b o hb q=>hx' b o hb q) f0 f1 f3 f4 f5⟩
 self:=fun _ _ _ _ _ st h=>by obtain⟨⟨old,he⟩,_⟩:=st;exact wpAny_pyIter_enum he h
end L2
namespace L2
open PySem PySem.Spec PyProof.Rows
end L2
namespace Wb
open PySem L2
end Wb
namespace L2
open PySem PySem.Spec PyProof.Rows Wb
end L2
namespace L2
open PySem PySem.Spec PyProof.Rows
end L2
namespace L2
open PySem PySem.Spec PyProof.Rows
end L2
namespace L2
open PySem PySem.Spec PyProof.Rows
end L2
namespace Mi
inductive Res (α:Type) where
 | ok (a:α) | err (j:Nat) | stuck
namespace Res
variable {α β:Type}
def Ok (m:Res α) (P:α→Prop):Prop:=match m with | .ok a=>P a | _=>False
def bind (m:Res α) (f:α→Res β):Res β:=match m with | .ok a=>f a | .err j=>.err j | .stuck=>.stuck
theorem bind_ok {m:Res α} {f:α→Res β} {P:β→Prop} (h:m.Ok fun a=>(f a).Ok P):(m.bind f).Ok P:=by cases m <;> exact h
theorem Ok.imp {m:Res α} {P Q:α→Prop} (h:m.Ok P) (k:∀a,P a→Q a):m.Ok Q:=by cases m <;> first | exact k _ h | exact h
def OkE (m:Res α) (Er:Nat→Prop) (P:α→Prop):Prop:=match m with | .ok a=>P a | .err j=>Er j | .stuck=>False
theorem okE_bind {m:Res α} {f:α→Res β} {Er:Nat→Prop} {P:β→Prop} (h:(m.bind f).OkE Er P):m.OkE Er fun a=>(f a).OkE Er P:=by cases m <;> exact h
theorem OkE.imp {m:Res α} {Er:Nat→Prop} {P Q:α→Prop} (h:m.OkE Er P) (k:∀a,P a→Q a):m.OkE Er Q:=by cases m <;> first | exact k _ h | exact h
theorem Ok.e {m:Res α} {Er:Nat→Prop} {P:α→Prop} (h:m.Ok P):m.OkE Er P:=by
 cases m with
 | ok a=>exact h
 | err j=>exact h.elim
 | stuck=>exact h.elim
def tryR (m:Res α):Res (α ⊕ Nat):=match m with | .ok a=>.ok (.inl a) | .err j=>.ok (.inr j) | .stuck=>.stuck
theorem tryR_OkE {m:Res α} {Er:Nat→Prop} {P:α ⊕ Nat→Prop} (h:(tryR m).OkE Er P):m.OkE (fun j=>P (.inr j)) fun a=>P (.inl a):=by cases m <;> exact h
@[simp] theorem bind_ok' (a:α) (f:α→Res β):(Res.ok a).bind f=f a:=rfl
end Res
abbrev cap:Nat:=100000
def dG (b:Prop) [Decidable b] {α:Type} (a:α):Res α:=if b then .ok a else .stuck
theorem bI {b:Prop} [Decidable b] {α:Type} {a:α} (h:b):dG b a=.ok a:=if_pos h
theorem bt {b:Prop} [Decidable b] {α:Type} {a:α} {Er:Nat→Prop} {P:α→Prop} (h:(dG b a).OkE Er P):b∧P a:=by
 unfold dG at h
 by_cases hb:b
 ·rw[if_pos hb]at h;exact⟨hb,h⟩
 ·rw[if_neg hb]at h;exact h.elim
def ix {α:Type} :Option α→Res α
 | some a=>.ok a
 | none=>.stuck
theorem de {α:Type} {o:Option α} {Er:Nat→Prop} {P:α→Prop} (h:(ix o).OkE Er P):∃a,o=some a∧P a:=by
 cases o with
 | none=>exact h.elim
 | some a=>exact⟨a,rfl,h⟩
abbrev Tx:=List Nat
def cT (i:Int):Int:=if i< 0 then -i else i
def jL (i j:Int):Res Int:=dG ((-(2^64)< i∧i< 2^64)∨(-(2^64)< j∧j< 2^64)) (i*j)
def lQ (i j:Int):Res Int:=dG (0< j∧j< 1073741824) (i/ j)
def i5 (i j:Int):Res Int:=dG (0< j) (i% j)
def ixN (n:Nat) (i:Int):Option Nat:=if 0≤i then(if i< n then some i.toNat else none)else if -(n:Int)≤i then some (i+n).toNat else none
def q9 {α:Type} (xs:List α) (i:Int):Option α:=(ixN xs.length i).bind fun j=>xs[j]?
theorem qw {α:Type} {xs:List α} {j:Nat} {v:α} (h:xs[j]? =some v):q9 xs (j:Int)=some v:=by
 have hl:j< xs.length:=(List.getElem?_eq_some_iff.mp h).1
 unfold q9 ixN
 rw[if_pos (by omega),if_pos (by omega),Int.toNat_natCast]
 exact h
theorem l9 {α:Type} {xs:List α} {i:Int} (h0:0≤i) (h1:i< xs.length):∃h:i.toNat< xs.length,q9 xs i=some xs[i.toNat]:=by
 have h2:i.toNat< xs.length:=by omega
 refine⟨h2,?_⟩
 have:=qw (xs:=xs) (j:=i.toNat) (v:=xs[i.toNat]) (by simp[h2])
 rw[Int.toNat_of_nonneg h0]at this
 exact this
def jM {α:Type} (xs:List α) (i:Int):Res α:=ix (q9 xs i)
def eA (x:Tx) (i:Int):Res Tx:=(dG (x.length≤cap) x).bind fun x=>(ix (q9 x i)).bind fun c=>.ok [c]
def df (a b:Tx):Res Tx:=dG (a.length+b.length≤cap) (a++b)
def sM {α:Type} (a b:List α):Res (List α):=dG (a.length+b.length≤cap) (a++b)
def eP {α:Type} (a:List α) (x:α):Res (List α):=dG (a.length< cap) (a++ [x])
def sN (a:Tx) (n:Int):Res Tx:=match a with
 | [c]=>dG (0≤n∧n≤cap) (List.replicate n.toNat c)
 | _=>.stuck
def oy (x:Tx):Res Int:=dG (x.length≤cap) (x.length:Int)
def sIx (n d:Nat):Option Int→Nat
 | none=>d
 | some v=>if v< 0 then(v+(n:Int)).toNat else min v.toNat n
def cut {α:Type} (l:List α) (lo hi:Option Int):List α:=(l.drop (sIx l.length 0 lo)).take (sIx l.length l.length hi- sIx l.length 0 lo)
def ff (x:Tx) (lo hi:Option Int):Res Tx:=dG (x.length≤cap) (cut x lo hi)
def oz (x:Tx) (c:Nat):Option Nat:=x.findIdx? (· == c)
def mO (x y:Tx):Res Int:=match y with
 | [c]=>(ix (oz x c)).bind fun j=>.ok (j:Int)
 | _=>.stuck
def iy (xs:List Tx):Res Tx:=dG (xs.flatten.length≤cap) xs.flatten
def look {κ α:Type} [DecidableEq κ] (kvs:List (κ×α)) (k:κ):Option α:=(kvs.find? fun p=>decide (p.1=k)).map (·.2)
def getD {κ α:Type} [DecidableEq κ] (kvs:List (κ×α)) (k:κ):Res α:=ix (look kvs k)
def jc {α β:Type} (f:α→Res β):List α→Res (List β)
 | []=>.ok []
 | a::r=>(f a).bind fun b=>(jc f r).bind fun bs=>.ok (b::bs)
def dQ {α β:Type} (xs:List α) (f:α→Res β):Res (List β):=(dG (xs.length≤cap) xs).bind fun xs=>jc f xs
def fu {α β:Type} (f:α→Res (Option β)):List α→Res (List β)
 | []=>.ok []
 | a::r=>(f a).bind fun b=>(fu f r).bind fun bs=>.ok (match b with | some b=>b::bs | none=>bs)
def iz {α β:Type} (xs:List α) (f:α→Res (Option β)):Res (List β):=(dG (xs.length≤cap) xs).bind fun xs=>fu f xs
def forR {α S:Type} (f:α→S→Res S):List α→S→Res S
 | [],s=>.ok s
 | a::r,s=>(f a s).bind fun s=>forR f r s
inductive Fl (γ S:Type) where
 | nx (s:S) | bk (s:S) | rt (r:γ)
def qx {S γ:Type} (k:S→Res (Fl γ S)):Fl γ S→Res (Fl γ S)
 | .nx s=>k s
 | .bk s=>.ok (.nx s)
 | .rt x=>.ok (.rt x)
def dH {α S γ:Type} (f:α→S→Res (Fl γ S)):List α→S→Res (Fl γ S)
 | [],s=>.ok (.nx s)
 | a::r,s=>(f a s).bind (qx (dH f r))
def gL (n:Int):List Int:=(List.range n.toNat).map fun(i:Nat)=>(i:Int)
def dm (n:Int):Res (List Int):=dG (-(2^62)≤n∧n< 2^62) (gL n)
def cJ {α:Type} (xs:List α):List (Int×α):=(List.range xs.length).zipWith (fun(i:Nat) x=>((i:Int),x)) xs
def aZ (x:Tx):List Tx:=x.map fun c=>[c]
def eQ (xs:List Int):List Int:=xs.mergeSort fun a b=>decide (a≤b)
theorem g6 (xs:List Int):(eQ xs).Perm xs:=List.mergeSort_perm _ _
theorem iA (xs:List Int):(eQ xs).Pairwise (· ≤ ·):=by
 have:=List.pairwise_mergeSort (le:=fun a b:Int=>decide (a≤b)) (fun a b c h1 h2=>by simp at *;omega) (fun a b=>by simp;omega) xs
 exact this.imp fun h=>by simpa using h
theorem iC {xs ys:List Int} (h:ys.Perm xs) (hs:ys.Pairwise (· ≤ ·)):ys=eQ xs:=
 List.Perm.eq_of_pairwise (le:=(· ≤ ·)) (fun a b _ _ h1 h2=>by omega) hs (iA xs) (h.trans (g6 xs).symm)
def oA (xs:List Int):Res (List Int):=dG (xs.length< 64) (eQ xs)
def jA {α:Type} (t:α×α×α) (i:Int):Res α:=ix (q9 [t.1,t.2.1,t.2.2] i)
def lR (x:Tx):Res (List Tx):=dG (x.length≤cap) (aZ x)
def ui {α:Type} [DecidableEq α] (a b:α):Res Bool:=if a=b then .ok true else .stuck
theorem lS {α β:Type} {f:α→Res β} {g:α→β} :∀{xs:List α},(∀x∈xs,f x=.ok (g x))→jc f xs=.ok (xs.map g)
 | [],_=>rfl
 | a :: r, h => by
  unfold jc
  rw[h a (List.mem_cons_self ..),Res.bind_ok',lS fun x hx=>h x (List.mem_cons_of_mem _ hx)]
  rfl
theorem dq {α β:Type} {f:α→Res β} {g:α→β} {xs:List α} (hl:xs.length≤cap) (h:∀x∈xs,f x=.ok (g x)):dQ xs f=.ok (xs.map g):=by
 unfold dQ;rw[bI hl,Res.bind_ok',lS h]
end Mi
namespace Mi
end Mi
namespace Wb
open PySem L2 Mi
variable {Er:Nat→Prop}
structure Wd where
 G:Hp
 H:Hp
 ok:Same G H
structure Ext (W W':Wd):Prop where
 g:Same W.G W'.G
 h:Same W.H W'.H
 k:∀p,W.H p≠none→W'.G p=W.G p
theorem Ext.refl (W:Wd):Ext W W:=⟨.refl _,.refl _,fun _ _=>rfl⟩
theorem Ext.trans {W W1 W2:Wd} (a:Ext W W1) (b:Ext W1 W2):Ext W W2:=⟨a.g.trans b.g,a.h.trans b.h,fun p hp=>by
 obtain⟨o,ho⟩:=Option.ne_none_iff_exists'.mp hp
 rw[b.k p (by rw[a.h p o ho];exact fun z=>nomatch z),a.k p hp]⟩
theorem Same.upd2 {G H:Hp} (h:Same G H) (p:Addr) (o:HO):Same (bu G p o) (bu H p o):=fun a u e=>by
 by_cases z:a=p
 ·subst z;rw[ak]at e ⊢;exact e
 ·rw[ah z]at e ⊢;exact h _ _ e
def Wd.new (W:Wd) (p:Addr) (o:HO):Wd:=⟨bu W.G p o,bu W.H p o,Same.upd2 W.ok p o⟩
theorem Wd.gnone (W:Wd) {p:Addr} (h:W.H p=none):W.G p=none:=bi W.ok h
theorem Ext.new {W:Wd} {p:Addr} (o:HO) (h:W.H p=none):Ext W (W.new p o):=⟨cY (W.gnone h),cY h,fun q hq=>ah fun z=>hq (z▸h)⟩
def Wd.mut (W:Wd) (p:Addr) (o:HO) (h:W.G p=none):Wd:=⟨W.G,bu W.H p o,mM W.ok h⟩
theorem Ext.own {W:Wd} {p:Addr} (o:HO) (h:W.H p=none):Ext W (W.mut p o (W.gnone h)):=⟨.refl _,cY h,fun _ _=>rfl⟩
def Wd.frz (W:Wd) (p:Addr) (o:HO) (h:W.H p=some o):Wd:=⟨bu W.G p o,W.H,fun a u e=>by
 by_cases z:a=p
 ·subst z;rw[ak]at e;cases e;exact h
 ·rw[ah z]at e;exact W.ok _ _ e⟩
theorem Ext.mut {W0 W:Wd} {p:Addr} {o:HO} (e:Ext W0 W) (hp:W0.H p=none) (h:W.G p=none):Ext W0 (W.mut p o h):=
 ⟨e.g,fun a u z=>by show bu W.H p o a=_;rw[ah (bR z hp)];exact e.h _ _ z,e.k⟩
theorem Ext.frz {W0 W:Wd} {p:Addr} {o:HO} (e:Ext W0 W) (hp:W0.H p=none) (h:W.H p=some o) (hg:W.G p=none):Ext W0 (W.frz p o h):=
 ⟨e.g.trans (cY hg),e.h,fun q hq=>by show bu W.G p o q=_;rw[ah (fun z=>hq (by rw[z];exact hp))];exact e.k q hq⟩
abbrev Rw (α:Type):=Wd→α→V→Prop
class MonoW {α:Type} (R:Rw α):Prop where
 mono:∀{W W':Wd} {a:α} {v:V},Ext W W'→R W a v→R W' a v
def sh {α:Type} (R:Rp α):Rw α:=fun W a v=>R W.G a v
instance zkeep8 {α:Type} {R:Rp α} [Mono R]:MonoW (sh R):=⟨fun e h=>Mono.mono (R:=R) e.g h⟩
def pk {α:Type} (R:Rp α):Rw (List α):=fun W xs v=>∃p vs,v=.ref p∧W.H p=some (.lst vs)∧LR R W.G xs vs
instance zkeep9 {α:Type} {R:Rp α} [Mono R]:MonoW (pk R):=⟨fun e ⟨p,vs,a,b,c⟩=>⟨p,vs,a,e.h _ _ b,c.same e.g⟩⟩
theorem pk.of {α:Type} {R:Rp α} {W:Wd} {xs:List α} {v:V} (h:isL R W.G xs v):pk R W xs v:=by
 obtain⟨p,vs,a,b,c⟩:=h
 exact⟨p,vs,a,W.ok _ _ b,c⟩
structure Ow {α:Type} (R:Rp α) (W:Wd) (p:Addr) (xs:List α):Prop where
 g:W.G p=none
 h:∃vs,W.H p=some (.lst vs)∧LR R W.G xs vs
theorem Ow.mono {α:Type} {R:Rp α} [Mono R] {W W':Wd} {p:Addr} {xs:List α} (o:Ow R W p xs) (e:Ext W W'):Ow R W' p xs:=by
 obtain⟨vs,a,b⟩:=o.h
 exact⟨by rw[e.k p (by rw[a];exact fun z=>nomatch z)];exact o.g,vs,e.h _ _ a,b.same e.g⟩
theorem Ow.pk {α:Type} {R:Rp α} {W:Wd} {p:Addr} {xs:List α} (o:Ow R W p xs):pk R W xs (.ref p):=by
 obtain⟨vs,a,b⟩:=o.h
 exact⟨p,vs,rfl,a,b⟩
theorem Ow.frz {α:Type} {R:Rp α} [Mono R] {W0 W:Wd} {p:Addr} {xs:List α} (o:Ow R W p xs) (e:Ext W0 W) (hp:W0.H p=none):
  ∃W',W'.H=W.H∧Ext W0 W'∧Same W.G W'.G∧isL R W'.G xs (.ref p)∧∀q,q≠p→W'.G q=W.G q:=by
 obtain⟨vs,a,b⟩:=o.h
 exact⟨W.frz p _ a,rfl,e.frz hp a o.g,cY o.g,⟨p,vs,rfl,ak,b.same (cY o.g)⟩,fun q hq=>ah hq⟩
def EV (Er:Nat→Prop) {α:Type} (t:TE) (σ:St) (W:Wd) (R:Rw α) (m:Res α):Prop:=∀W1,Ext W W1→∀Q:VK,m.OkE Er (fun a=>∀v W2,Ext W1 W2→R W2 a v→Q v W2.H)→t σ W1.H Q
def EVo (Er:Nat→Prop) {α:Type} (t:TE) (σ:St) (W:Wd) (R:Rp α) (m:Res (List α)):Prop:=∀W1,Ext W W1→∀Q:VK,m.OkE Er (fun xs=>∀p W2,Ext W1 W2→W1.H p=none→Ow R W2 p xs→Q (.ref p) W2.H)→t σ W1.H Q
def TV (Er:Nat→Prop) (t:TT) (σ:St) (W:Wd) (m:Res Bool):Prop:=∀W1,Ext W W1→∀Q:Bool→Hp→Prop,m.OkE Er (fun b=>∀W2,Ext W1 W2→Q b W2.H)→t σ W1.H Q
section
variable {α β γ:Type} {t ta tb:TE} {σ:St} {W W0 W':Wd} {K:PySem.W.Frag}
theorem EV.imp {R R':Rw α} {m:Res α} (h:EV Er t σ W R m) (f:∀W a v,R W a v→R' W a v):EV Er t σ W R' m:=fun W1 e1 Q k=>h W1 e1 Q (k.imp fun a ka v W2 e2 r=>ka v W2 e2 (f _ _ _ r))
theorem EVo.ev {R:Rp α} [Mono R] {m:Res (List α)} (h:EVo Er t σ W R m):EV Er t σ W (sh (isL R)) m:=fun W1 e1 Q k=>h W1 e1 Q (k.imp fun xs kx p W2 e2 hp o=>by
 obtain⟨W3,hH,e3,_,r,_⟩:=o.frz e2 hp
 rw[←hH]
 exact kx (.ref p) W3 e3 r)
theorem EVo.pk {R:Rp α} [Mono R] {m:Res (List α)} (h:EVo Er t σ W R m):EV Er t σ W (pk R) m:=fun W1 e1 Q k=>h W1 e1 Q (k.imp fun xs kx p W2 e2 hp o=>kx (.ref p) W2 e2 o.pk)
theorem EV.pk {R:Rp α} {m:Res (List α)} (h:EV Er t σ W (sh (isL R)) m):EV Er t σ W (pk R) m:=h.imp fun _ _ _ r=>pk.of r
theorem aa {R:Rw α} [MonoW R] {i:Nat} {v:V} {a:α} (r:R W a v) (h:σ[i]? =some (some v):=by rfl):EV Er (bx i) σ W R (.ok a):=fun W1 e1 Q k=>⟨v,h,k v W1 (.refl _) (MonoW.mono e1 r)⟩
theorem lT {R:Rp α} [Mono R] {i:Nat} {p:Addr} {a:List α} (r:Ow R W p a) (h:σ[i]? =some (some (.ref p)):=by rfl):EV Er (bx i) σ W (pk R) (.ok a):=aa r.pk h
def isB:Rp Bool:=fun _ b v=>v=.bl b
instance zkeep10:Mono isB:=⟨fun _ h=>h⟩
def isO (R:Rp α):Rp (Option α):=fun H o v=>match o with | none=>v=.non | some a=>R H a v∧v≠.non
instance zkeep12 {R:Rp α} [Mono R]:Mono (isO R):=⟨fun {H H' m v} e h=>by
 cases m with
 | none=>exact h
 | some a=>exact⟨Mono.mono e h.1,h.2⟩⟩
theorem ao {i:Int} :EV Er (tC (.int i)) σ W (sh isI) (.ok i):=fun W1 _ Q k=>k _ W1 (.refl _) rfl
theorem az {x:Str} {l:Tx} (h:x=sOf l):EV Er (tC (.str x)) σ W (sh isS) (.ok l):=fun W1 _ Q k=>k _ W1 (.refl _) (by rw[h];rfl)
theorem lU {b:Bool} :EV Er (tC (.bl b)) σ W (sh isB) (.ok b):=fun W1 _ Q k=>k _ W1 (.refl _) rfl
theorem qy {R:Rp α} :EV Er (tC .non) σ W (sh (isO R)) (.ok none):=fun W1 _ Q k=>k _ W1 (.refl _) rfl
theorem kK {r:R2} {Ra:Rw α} [MonoW Ra] {Rb:Rw β} {R:Rw γ} {ma:Res α} {mb:Res β} {f:α→β→Res γ} (ha:EV Er ta σ W Ra ma) (hb:EV Er tb σ W Rb mb)
  (h:∀W a b x y Q,Ra W a x→Rb W b y→(f a b).OkE Er (fun c=>∀v W2,Ext W W2→R W2 c v→Q v W2.H)→r x y W.H Q):EV Er (cB r ta tb) σ W R (ma.bind fun a=>mb.bind fun b=>f a b):=fun W1 e1 Q k=>by
 refine ha W1 e1 _ ((Res.okE_bind k).imp fun a ka x W2 e2 hx=>?_)
 refine hb W2 (e1.trans e2) _ ((Res.okE_bind ka).imp fun b kb y W3 e3 hy=>?_)
 exact h W3 a b x y Q (MonoW.mono e3 hx) hy (kb.imp fun c kc v W4 e4 hv=>kc v W4 ((e2.trans e3).trans e4) hv)
theorem ww {r:V→Hp→VK→Prop} {Ra:Rw α} {R:Rw γ} {ma:Res α} {f:α→Res γ} (ha:EV Er ta σ W Ra ma)
  (h:∀W a x Q,Ra W a x→(f a).OkE Er (fun c=>∀v W2,Ext W W2→R W2 c v→Q v W2.H)→r x W.H Q):EV Er (em r ta) σ W R (ma.bind f):=fun W1 e1 Q k=>by
 refine ha W1 e1 _ ((Res.okE_bind k).imp fun a ka x W2 e2 hx=>?_)
 exact h W2 a x Q hx (ka.imp fun c kc v W4 e4 hv=>kc v W4 (e2.trans e4) hv)
section
variable {ma mb:Res Int}
theorem bo {g:Int→Int→Int} (ha:EV Er ta σ W (sh isI) ma) (hb:EV Er tb σ W (sh isI) mb):EV Er (cB (dA fun i j=>.int (g i j)) ta tb) σ W (sh isI) (ma.bind fun a=>mb.bind fun b=>.ok (g a b)):=
 kK ha hb fun W a b x y Q hx hy k=>by cases hx;cases hy;exact⟨a,b,rfl,rfl,k _ W (.refl _) rfl⟩
theorem oC {C:Int→Int→Prop} {g:Int→Int→Int} {f:Int→Int→Res Int} (hf:∀a b P,(f a b).OkE Er P→C a b∧P (g a b)) (ha:EV Er ta σ W (sh isI) ma) (hb:EV Er tb σ W (sh isI) mb):
  EV Er (cB (rI C fun i j=>.int (g i j)) ta tb) σ W (sh isI) (ma.bind fun a=>mb.bind fun b=>f a b):=
 kK ha hb fun W a b x y Q hx hy k=>by cases hx;cases hy;exact⟨a,b,rfl,rfl,(hf a b _ k).1,(hf a b _ k).2 _ W (.refl _) rfl⟩
theorem la (ha:EV Er ta σ W (sh isI) ma) (hb:EV Er tb σ W (sh isI) mb):EV Er (cB (rI CMul fun i j=>.int (i*j)) ta tb) σ W (sh isI) (ma.bind fun a=>mb.bind fun b=>jL a b):=oC (fun a b P h=>by unfold jL at h;obtain⟨h1,h2⟩:=bt h;exact⟨h1,h2⟩) ha hb
theorem qz (ha:EV Er ta σ W (sh isI) ma) (hb:EV Er tb σ W (sh isI) mb):EV Er (cB (rI tW fun i j=>.int (i/ j)) ta tb) σ W (sh isI) (ma.bind fun a=>mb.bind fun b=>lQ a b):=oC (fun a b P h=>by unfold lQ at h;obtain⟨h1,h2⟩:=bt h;exact⟨h1,h2⟩) ha hb
theorem gM (ha:EV Er ta σ W (sh isI) ma) (hb:EV Er tb σ W (sh isI) mb):EV Er (cB (rI (fun _ j=>0< j) fun i j=>.int (i% j)) ta tb) σ W (sh isI) (ma.bind fun a=>mb.bind fun b=>i5 a b):=oC (fun a b P h=>by unfold i5 at h;obtain⟨h1,h2⟩:=bt h;exact⟨h1,h2⟩) ha hb
theorem ar {C:Int→Int→Prop} {g:Int→Int→Int} {n:Int} (hn:∀a,C a n) (ha:EV Er ta σ W (sh isI) ma):EV Er (cB (rI C fun i j=>.int (g i j)) ta (tC (.int n))) σ W (sh isI) (ma.bind fun a=>.ok (g a n)):=
 fun W1 e1 Q k=>ha W1 e1 _ ((Res.okE_bind k).imp fun a ka x W2 e2 hx=>by cases hx;exact⟨a,n,rfl,rfl,hn a,ka _ W2 e2 rfl⟩)
end
end
end Wb
namespace Wb
open PySem L2 Mi
variable {Er:Nat→Prop}
section
variable {α β γ δ:Type} {t ta tb tc:TE} {σ:St} {W W0 W':Wd} {K:PySem.W.Frag}
theorem lb {n:Nat} (h:n≤cap):n≤sizeLine:=by rw[sizeLine_eq];unfold cap at h;omega
section
variable {ma mb:Res Int}
theorem oE (ha:EV Er ta σ W (sh isI) ma):EV Er (em (rU fun i=>.int (-i)) ta) σ W (sh isI) (ma.bind fun a=>.ok (-a)):=
 ww ha fun W a x Q hx k=>by cases hx;exact⟨a,rfl,k _ W (.refl _) rfl⟩
theorem jd {g:Int→Int→Bool} (ha:EV Er ta σ W (sh isI) ma) (hb:EV Er tb σ W (sh isI) mb):EV Er (cB (dA fun i j=>.bl (g i j)) ta tb) σ W (sh isB) (ma.bind fun a=>mb.bind fun b=>.ok (g a b)):=
 kK ha hb fun W a b x y Q hx hy k=>by cases hx;cases hy;exact⟨a,b,rfl,rfl,k _ W (.refl _) rfl⟩
end
theorem dI {a b:Int} :decide (V.int a=V.int b)=decide (a=b):=by rw[Bool.eq_iff_iff];simp
theorem dS {a b:Tx} :decide (V.str (sOf a)=V.str (sOf b))=decide (a=b):=by
 rw[Bool.eq_iff_iff,decide_eq_true_eq,decide_eq_true_eq]
 exact⟨fun h=>lO (V.str.inj h),fun h=>by rw[h]⟩
theorem d5 {ma mb:Res Int} (ha:EV Er ta σ W (sh isI) ma) (hb:EV Er tb σ W (sh isI) mb):EV Er (cB er ta tb) σ W (sh isB) (ma.bind fun a=>mb.bind fun b=>.ok (decide (a=b))):=
 kK ha hb fun W a b x y Q hx hy k=>by cases hx;cases hy;exact⟨rfl,by rw[dI];exact k _ W (.refl _) rfl⟩
theorem je {ma mb:Res Tx} (ha:EV Er ta σ W (sh isS) ma) (hb:EV Er tb σ W (sh isS) mb):EV Er (cB er ta tb) σ W (sh isB) (ma.bind fun a=>mb.bind fun b=>.ok (decide (a=b))):=
 kK ha hb fun W a b x y Q hx hy k=>by cases hx;cases hy;exact⟨rfl,by rw[dS];exact k _ W (.refl _) rfl⟩
theorem lc {ma mb:Res Int} (ha:EV Er ta σ W (sh isI) ma) (hb:EV Er tb σ W (sh isI) mb):EV Er (cB eu ta tb) σ W (sh isB) (ma.bind fun a=>mb.bind fun b=>.ok (!decide (a=b))):=
 kK ha hb fun W a b x y Q hx hy k=>by cases hx;cases hy;exact⟨rfl,by rw[dI];exact k _ W (.refl _) rfl⟩
theorem jf {ma mb:Res Tx} (ha:EV Er ta σ W (sh isS) ma) (hb:EV Er tb σ W (sh isS) mb):EV Er (cB eu ta tb) σ W (sh isB) (ma.bind fun a=>mb.bind fun b=>.ok (!decide (a=b))):=
 kK ha hb fun W a b x y Q hx hy k=>by cases hx;cases hy;exact⟨rfl,by rw[dS];exact k _ W (.refl _) rfl⟩
theorem qA {R:Rp α} {ma:Res (Option α)} (ha:EV Er ta σ W (sh (isO R)) ma):EV Er (cB (fun x y H Q=>y=.non∧Q (.bl (!decide (x=.non))) H) ta (tC .non)) σ W (sh isB) (ma.bind fun a=>.ok a.isSome):=fun W1 e1 Q k=>
 ha W1 e1 _ ((Res.okE_bind k).imp fun a ka x W2 e2 hx=>⟨rfl,by
  have e:(!decide (x=V.non))=a.isSome:=by
   cases a with
   | none=>cases hx;rfl
   | some b=>rw[decide_eq_false hx.2];rfl
  rw[e];exact ka _ W2 e2 rfl⟩)
theorem aW {m:Res Bool} (h:EV Er t σ W (sh isB) m):TV Er (bq t) σ W m:=fun W1 e1 Q k=>h W1 e1 _ (k.imp fun b kb v W2 e2 hv=>⟨b,hv,kb W2 e2⟩)
theorem oF {m:Res Bool} (h:EV Er t σ W (sh isB) m):TV Er (tB t) σ W m:=fun W1 e1 Q k=>h W1 e1 _ (k.imp fun b kb v W2 e2 hv=>⟨b,hv,kb W2 e2⟩)
theorem oG {t:TT} {m:Res Bool} (h:TV Er t σ W m):TV Er (ce t) σ W (m.bind fun b=>.ok (!b)):=fun W1 e1 Q k=>h W1 e1 _ ((Res.okE_bind k).imp fun b kb W2 e2=>kb W2 e2)
theorem jg {t u:TT} {m n:Res Bool} (h:TV Er t σ W m) (g:TV Er u σ W n):TV Er (cb t u) σ W (m.bind fun b=>if b then n else .ok false):=fun W1 e1 Q k=>h W1 e1 _ ((Res.okE_bind k).imp fun b kb W2 e2=>by
 cases b with
 | true=>exact g W2 (e1.trans e2) _ (kb.imp fun c kc W3 e3=>kc W3 (e2.trans e3))
 | false=>exact kb W2 e2)
theorem oH {m:Res Bool} (h:EV Er ta σ W (sh isB) m):EV Er (bp ta) σ W (sh isB) (m.bind fun b=>.ok (!b)):=fun W1 e1 Q k=>h W1 e1 _ ((Res.okE_bind k).imp fun b kb v W2 e2 hv=>⟨b,hv,kb _ W2 e2 rfl⟩)
theorem uj {R:Rw α} {c:TT} {mc:Res Bool} {m n:Res α} (hc:TV Er c σ W mc) (h:EV Er ta σ W R m) (g:EV Er tb σ W R n):EV Er (eF c ta tb) σ W R (mc.bind fun b=>if b then m else n):=fun W1 e1 Q k=>hc W1 e1 _ ((Res.okE_bind k).imp fun b kb W2 e2=>by
 cases b with
 | true=>exact h W2 (e1.trans e2) _ (kb.imp fun c kc v W3 e3 hv=>kc v W3 (e2.trans e3) hv)
 | false=>exact g W2 (e1.trans e2) _ (kb.imp fun c kc v W3 e3 hv=>kc v W3 (e2.trans e3) hv))
theorem bJ {ma mb:Res Tx} (ha:EV Er ta σ W (sh isS) ma) (hb:EV Er tb σ W (sh isS) mb):EV Er (cB (fun x y H Q=>∃i j,x=.str i∧y=.str j∧i.length+j.length≤sizeLine∧Q (.str (i++j)) H) ta tb) σ W (sh isS) (ma.bind fun a=>mb.bind fun b=>df a b):=
 kK ha hb fun W a b x y Q hx hy k=>by
  cases hx;cases hy
  obtain⟨h1,h2⟩:=bt k
  exact⟨_,_,rfl,rfl,by rw[cW,cW];exact lb h1,by rw[kZ];exact h2 _ W (.refl _) rfl⟩
theorem qB {ma:Res Tx} {mb:Res Int} (ha:EV Er ta σ W (sh isS) ma) (hb:EV Er tb σ W (sh isI) mb):EV Er (cB (fun x y H Q=>∃c n,x=.str (sOf [c])∧y=.int n∧0≤n∧n≤100000∧Q (.str (sOf (List.replicate n.toNat c))) H) ta tb) σ W (sh isS) (ma.bind fun a=>mb.bind fun b=>sN a b):=
 kK ha hb fun W a b x y Q hx hy k=>by
  cases hx;cases hy
  match a,k with
  | [c], k =>
   obtain⟨h1,h2⟩:=bt k
   exact⟨c,b,rfl,rfl,h1.1,h1.2,h2 _ W (.refl _) rfl⟩
theorem bE {ma:Res Tx} {mb:Res Int} (ha:EV Er ta σ W (sh isS) ma) (hb:EV Er tb σ W (sh isI) mb):EV Er (cB cg ta tb) σ W (sh isS) (ma.bind fun a=>mb.bind fun b=>eA a b):=
 kK ha hb fun W a b x y Q hx hy k=>by
  cases hx;cases hy
  obtain⟨h1,h2⟩:=bt (Res.okE_bind k)
  obtain⟨c,h3,h4⟩:=de (Res.okE_bind h2)
  exact⟨_,b,c,rfl,rfl,by rw[cW];exact lb h1,by rw[lN];exact h3,h4 _ W (.refl _) rfl⟩
theorem uk {R:Rw α} {r:V→Option Int→Option Int→Hp→VK→Prop} {Ra:Rw β} [MonoW Ra] {ma:Res β} {tl th:TO} {ml mh:Res (Option Int)} {f:β→Option Int→Option Int→Res α} (ha:EV Er ta σ W Ra ma)
  (hl:∀W1,Ext W W1→∀Q:Option Int→Hp→Prop,ml.OkE Er (fun o=>∀W2,Ext W1 W2→Q o W2.H)→tl σ W1.H Q) (hh:∀W1,Ext W W1→∀Q:Option Int→Hp→Prop,mh.OkE Er (fun o=>∀W2,Ext W1 W2→Q o W2.H)→th σ W1.H Q)
  (h:∀W a x lo hi Q,Ra W a x→(f a lo hi).OkE Er (fun c=>∀v W2,Ext W W2→R W2 c v→Q v W2.H)→r x lo hi W.H Q):EV Er (dY r ta tl th) σ W R (ma.bind fun a=>ml.bind fun lo=>mh.bind fun hi=>f a lo hi):=fun W1 e1 Q k=>
 ha W1 e1 _ ((Res.okE_bind k).imp fun a ka x W2 e2 hx=>hl W2 (e1.trans e2) _ ((Res.okE_bind ka).imp fun lo kl W3 e3=>hh W3 ((e1.trans e2).trans e3) _ ((Res.okE_bind kl).imp fun hi kh W4 e4=>
  h W4 a x lo hi Q (MonoW.mono (e3.trans e4) hx) (kh.imp fun c kc v W5 e5 hv=>kc v W5 (((e2.trans e3).trans e4).trans e5) hv))))
theorem eD:∀W1,Ext W W1→∀Q:Option Int→Hp→Prop,(Res.ok (none:Option Int)).OkE Er (fun o=>∀W2,Ext W1 W2→Q o W2.H)→aJ σ W1.H Q:=fun W1 _ Q k=>k W1 (.refl _)
theorem eE {m:Res Int} (h:EV Er t σ W (sh isI) m):∀W1,Ext W W1→∀Q:Option Int→Hp→Prop,(m.bind fun i=>.ok (some i)).OkE Er (fun o=>∀W2,Ext W1 W2→Q o W2.H)→br t σ W1.H Q:=fun W1 e1 Q k=>
 h W1 e1 _ ((Res.okE_bind k).imp fun i ki v W2 e2 hv=>⟨i,hv,ki W2 e2⟩)
theorem cN {ma:Res Tx} {tl th:TO} {ml mh:Res (Option Int)} (ha:EV Er ta σ W (sh isS) ma)
  (hl:∀W1,Ext W W1→∀Q:Option Int→Hp→Prop,ml.OkE Er (fun o=>∀W2,Ext W1 W2→Q o W2.H)→tl σ W1.H Q) (hh:∀W1,Ext W W1→∀Q:Option Int→Hp→Prop,mh.OkE Er (fun o=>∀W2,Ext W1 W2→Q o W2.H)→th σ W1.H Q):
  EV Er (dY (fun x lo hi H Q=>∃l,x=.str (sOf l)∧l.length≤sizeLine∧Q (.str (sOf (gj l lo hi))) H) ta tl th) σ W (sh isS) (ma.bind fun a=>ml.bind fun lo=>mh.bind fun hi=>ff a lo hi):=
 uk ha hl hh fun W a x lo hi Q hx k=>by
  cases hx
  obtain⟨h1,h2⟩:=bt k
  exact⟨a,rfl,lb h1,h2 _ W (.refl _) rfl⟩
theorem ul (x:Tx) (c j:Nat) (h:oz x c=some j):Txt.find (sOf x) (sOf [c])=(j:Int):=by
 unfold oz at h
 rw[List.findIdx?_eq_some_iff_getElem]at h
 obtain⟨hj,h1,h2⟩:=h
 have hat:∀i,StrLaws.At (sOf x) (sOf [c]) (sOf x).length i↔x[i]? =some c:=fun i=>by
  have:=StrLaws.subAt_one (sOf x) c i
  rw[lN]at this
  exact this
 unfold Txt.find
 rcases StrLaws.occ_head (sOf x) (sOf [c]) 1 (Nat.le_refl _)with⟨_,hn⟩ | ⟨i,r,e,hi,hk⟩
 ·exact absurd ((hat j).mpr (by rw[List.getElem?_eq_getElem hj];simpa using h1)) (hn j)
 ·rw[e]
  have e2:=(hat i).mp hi
  obtain⟨hil,e3⟩:=List.getElem?_eq_some_iff.mp e2
  have:i=j:=by
   rcases Nat.lt_trichotomy i j with z | z | z
   ·exact absurd e3 (by simpa using h2 i z)
   ·exact z
   ·exact absurd ((hat j).mpr (by rw[List.getElem?_eq_getElem hj];simpa using h1)) (hk j z)
  rw[this]
theorem jh {ma mb:Res Tx} {K:PySem.W.Frag} (ha:EV Er ta σ W (sh isS) ma) (hb:EV Er tb σ W (sh isS) mb):EV Er (dC K "str" (fun x xs H Q=>∃a b,x=.str a∧xs=[.str b]∧0≤Txt.find a b∧Q (.int (Txt.find a b)) H) ta (aj tb aX)) σ W (sh isI) (ma.bind fun a=>mb.bind fun b=>mO a b):=fun W1 e1 Q k=>
 ha W1 e1 _ ((Res.okE_bind k).imp fun a ka x W2 e2 hx=>by
  cases hx
  refine⟨rfl,hb W2 (e1.trans e2) _ ((Res.okE_bind ka).imp fun b kb y W3 e3 hy=>?_)⟩
  cases hy
  match b,kb with
  | [c], kb =>
   obtain⟨j,h1,h2⟩:=de (Res.okE_bind kb)
   have e:=ul a c j h1
   exact⟨_,_,rfl,rfl,by rw[e];omega,by rw[e];exact h2 _ W3 (e2.trans e3) rfl⟩)
theorem Same.tup {H H':Hp} {a:Addr} {xs:List V} (e:Same H H') (h:SqT K H a xs):SqT K H' a xs:=by
 rcases h with(h | ⟨o,h⟩) | h
 ·exact .inl (.inl (e _ _ h))
 ·exact .inl (.inr ⟨o,e _ _ h⟩)
 ·exact .inr h
def um (K:PySem.W.Frag) (R1:Rp α):Rp α:=fun H a v=>∃p x,v=.ref p∧SqT K H p [x]∧R1 H a x
def isT2 (K:PySem.W.Frag) (R1:Rp α) (R2:Rp β):Rp (α×β):=fun H a v=>∃p x y,v=.ref p∧SqT K H p [x,y]∧R1 H a.1 x∧R2 H a.2 y
def isT3 (K:PySem.W.Frag) (R1:Rp α) (R2:Rp β) (R3:Rp γ):Rp (α×β×γ):=fun H a v=>∃p x y z,v=.ref p∧SqT K H p [x,y,z]∧R1 H a.1 x∧R2 H a.2.1 y∧R3 H a.2.2 z
def uo (K:PySem.W.Frag) (R1:Rp α) (R2:Rp β) (R3:Rp γ) (R4:Rp δ):Rp (α×β×γ×δ):=fun H a v=>∃p x y z u,v=.ref p∧SqT K H p [x,y,z,u]∧R1 H a.1 x∧R2 H a.2.1 y∧R3 H a.2.2.1 z∧R4 H a.2.2.2 u
instance zkeep14 {R1:Rp α} {R2:Rp β} [Mono R1] [Mono R2]:Mono (isT2 K R1 R2):=⟨fun e ⟨p,x,y,h0,h,h1,h2⟩=>⟨p,x,y,h0,Same.tup e h,Mono.mono e h1,Mono.mono e h2⟩⟩
instance zkeep15 {R1:Rp α} {R2:Rp β} {R3:Rp γ} [Mono R1] [Mono R2] [Mono R3]:Mono (isT3 K R1 R2 R3):=⟨fun e ⟨p,x,y,z,h0,h,h1,h2,h3⟩=>⟨p,x,y,z,h0,Same.tup e h,Mono.mono e h1,Mono.mono e h2,Mono.mono e h3⟩⟩
theorem bd {R1:Rp α} {R2:Rp β} [Mono R1] [Mono R2] {ma:Res α} {mb:Res β} (ha:EV Er ta σ W (sh R1) ma) (hb:EV Er tb σ W (sh R2) mb):EV Er (bN (aj ta (aj tb aX))) σ W (sh (isT2 K R1 R2)) (ma.bind fun a=>mb.bind fun b=>.ok (a,b)):=fun W1 e1 Q k=>
 ha W1 e1 _ ((Res.okE_bind k).imp fun a ka x W2 e2 hx=>hb W2 (e1.trans e2) _ ((Res.okE_bind ka).imp fun b kb y W3 e3 hy=>⟨(by show 2≤sizeLine;decide),fun p hp=>
  kb (.ref p) (W3.new p (.tup [x,y])) ((e2.trans e3).trans (.new _ hp)) ⟨p,x,y,rfl,SqT.of ak,Mono.mono (Ext.new _ hp).g (Mono.mono (R:=R1) e3.g hx),Mono.mono (R:=R2) (Ext.new _ hp).g hy⟩⟩))
theorem cx {R1:Rp α} {R2:Rp β} {R3:Rp γ} [Mono R1] [Mono R2] [Mono R3] {ma:Res α} {mb:Res β} {mc:Res γ} (ha:EV Er ta σ W (sh R1) ma) (hb:EV Er tb σ W (sh R2) mb) (hc:EV Er tc σ W (sh R3) mc):
  EV Er (bN (aj ta (aj tb (aj tc aX)))) σ W (sh (isT3 K R1 R2 R3)) (ma.bind fun a=>mb.bind fun b=>mc.bind fun c=>.ok (a,b,c)):=fun W1 e1 Q k=>
 ha W1 e1 _ ((Res.okE_bind k).imp fun a ka x W2 e2 hx=>hb W2 (e1.trans e2) _ ((Res.okE_bind ka).imp fun b kb y W3 e3 hy=>hc W3 ((e1.trans e2).trans e3) _ ((Res.okE_bind kb).imp fun c kc z W4 e4 hz=>⟨(by show 3≤sizeLine;decide),fun p hp=>
  kc (.ref p) (W4.new p (.tup [x,y,z])) (((e2.trans e3).trans e4).trans (.new _ hp)) ⟨p,x,y,z,rfl,SqT.of ak,Mono.mono (Ext.new _ hp).g (Mono.mono (R:=R1) (e3.trans e4).g hx),Mono.mono (R:=R2) (Ext.new _ hp).g (Mono.mono (R:=R2) e4.g hy),Mono.mono (R:=R3) (Ext.new _ hp).g hz⟩⟩)))
theorem aH {R:Rp α} {Rt:Rp β} {m:Res β} {i:Int} {f:β→α} (h:∀H b v,Rt H b v→∃p xs x,v=.ref p∧SqT K H p xs∧L2.atI xs i=some x∧R H (f b) x) (ha:EV Er ta σ W (sh Rt) m):EV Er (cB (bQ K) ta (tC (.int i))) σ W (sh R) (m.bind fun b=>.ok (f b)):=fun W1 e1 Q k=>
 ha W1 e1 _ ((Res.okE_bind k).imp fun b kb v W2 e2 hv=>by
  obtain⟨p,xs,x,h1,h2,h3,h4⟩:=h _ _ _ hv
  exact⟨p,xs,i,x,h1,rfl,Same.tup W2.ok h2,h3,kb _ W2 e2 h4⟩)
theorem gN {R1:Rp α} {R2:Rp β} :∀H b v,isT2 K R1 R2 H b v→∃p xs x,v=.ref p∧SqT K H p xs∧L2.atI xs 0=some x∧R1 H b.1 x:=fun _ _ _ ⟨p,x,y,h0,h,h1,h2⟩=>⟨p,_,x,h0,h,rfl,h1⟩
theorem qC {R1:Rp α} {R2:Rp β} :∀H b v,isT2 K R1 R2 H b v→∃p xs x,v=.ref p∧SqT K H p xs∧L2.atI xs 1=some x∧R2 H b.2 x:=fun _ _ _ ⟨p,x,y,h0,h,h1,h2⟩=>⟨p,_,y,h0,h,rfl,h2⟩
theorem ji {R1:Rp α} {R2:Rp β} {R3:Rp γ} :∀H b v,isT3 K R1 R2 R3 H b v→∃p xs x,v=.ref p∧SqT K H p xs∧L2.atI xs 0=some x∧R1 H b.1 x:=fun _ _ _ ⟨p,x,y,z,h0,h,h1,h2,h3⟩=>⟨p,_,x,h0,h,rfl,h1⟩
theorem gO {R1:Rp α} {R2:Rp β} {R3:Rp γ} :∀H b v,isT3 K R1 R2 R3 H b v→∃p xs x,v=.ref p∧SqT K H p xs∧L2.atI xs 1=some x∧R2 H b.2.1 x:=fun _ _ _ ⟨p,x,y,z,h0,h,h1,h2,h3⟩=>⟨p,_,y,h0,h,rfl,h2⟩
theorem fP {R1:Rp α} {R2:Rp β} {R3:Rp γ} :∀H b v,isT3 K R1 R2 R3 H b v→∃p xs x,v=.ref p∧SqT K H p xs∧L2.atI xs 2=some x∧R3 H b.2.2 x:=fun _ _ _ ⟨p,x,y,z,h0,h,h1,h2,h3⟩=>⟨p,_,z,h0,h,rfl,h3⟩
theorem gr {R:Rp α} {H:Hp} {as:List α} {xs:List V} (h:LR R H as xs) {i:Int} {a:α} (e:q9 as i=some a):∃x,L2.atI xs i=some x∧R H a x:=by
 unfold q9 at e
 unfold L2.atI
 rw[h.1]
 cases z:Mi.ixN as.length i with
 | none=>rw[z]at e;cases e
 | some j =>
  rw[z]at e
  obtain⟨x,h1,h2⟩:=h.get (i:=j) e
  exact⟨x,by show(L2.ixN as.length i).bind _=_;rw[show L2.ixN as.length i=Mi.ixN as.length i from rfl,z];exact h1,h2⟩
theorem LR.three {R:Rp α} {H:Hp} {a b c:α} {x y z:V} (h1:R H a x) (h2:R H b y) (h3:R H c z):LR R H [a,b,c] [x,y,z]:=⟨rfl,fun i v m e1 e2=>by
 match i,e1,e2 with
 | 0,e1,e2=>cases e1;cases e2;exact h1
 | 1,e1,e2=>cases e1;cases e2;exact h2
 | 2,e1,e2=>cases e1;cases e2;exact h3⟩
theorem jj {R:Rp α} [Mono R] {ma:Res (α×α×α)} {mb:Res Int} (ha:EV Er ta σ W (sh (isT3 K R R R)) ma) (hb:EV Er tb σ W (sh isI) mb):EV Er (cB (bQ K) ta tb) σ W (sh R) (ma.bind fun a=>mb.bind fun b=>jA a b):=
 kK ha hb fun W a b x y Q hx hy k=>by
  cases hy
  obtain⟨p,u,v,w,rfl,h,h1,h2,h3⟩:=hx
  obtain⟨c,h4,h5⟩:=de k
  obtain⟨z,h6,h7⟩:=gr (LR.three h1 h2 h3) h4
  exact⟨p,_,b,z,rfl,rfl,Same.tup W.ok h,h6,h5 _ W (.refl _) h7⟩
theorem fQ {R:Rp α} [Mono R] {ma:Res (List α)} {mb:Res Int} (ha:EV Er ta σ W (pk R) ma) (hb:EV Er tb σ W (sh isI) mb):EV Er (cB (bU K) ta tb) σ W (sh R) (ma.bind fun a=>mb.bind fun b=>jM a b):=
 kK ha hb fun W a b x y Q hx hy k=>by
  cases hy
  obtain⟨p,vs,rfl,h,h1⟩:=hx
  obtain⟨c,h4,h5⟩:=de k
  obtain⟨z,h6,h7⟩:=gr h1 h4
  exact⟨p,_,b,z,rfl,rfl,SqL.of h,h6,h5 _ W (.refl _) h7⟩
theorem fv {R:Rp α} :EVo Er (bV aX) σ W R (.ok []):=fun W1 e1 Q k=>⟨by decide,fun p hp=>k p (W1.mut p (.lst []) (W1.gnone hp)) (.own _ hp) hp ⟨W1.gnone hp,[],ak,.nil⟩⟩
def AV (Er:Nat→Prop) (t:TA) (σ:St) (W:Wd) (R:Rp α) (n:Nat) (m:Res (List α)):Prop:=∀W1,Ext W W1→∀Q:List V→Hp→Prop,m.OkE Er (fun as=>∀vs W2,Ext W1 W2→vs.length=n→LR R W2.G as vs→Q vs W2.H)→t σ W1.H Q
theorem cO {R:Rp α} :AV Er aX σ W R 0 (.ok []):=fun W1 _ Q k=>k [] W1 (.refl _) rfl .nil
theorem LR.cons {R:Rp α} {H:Hp} {a:α} {v:V} {as:List α} {vs:List V} (h:R H a v) (r:LR R H as vs):LR R H (a::as) (v::vs):=⟨by simp[r.1],fun i x m e1 e2=>by
 cases i with
 | zero=>cases e1;cases e2;exact h
 | succ j=>exact r.2 j x m e1 e2⟩
theorem ba {R:Rp α} [Mono R] {n:Nat} {ts:TA} {m:Res α} {ms:Res (List α)} (h:EV Er t σ W (sh R) m) (g:AV Er ts σ W R n ms):AV Er (aj t ts) σ W R (n+1) (m.bind fun a=>ms.bind fun as=>.ok (a::as)):=fun W1 e1 Q k=>
 h W1 e1 _ ((Res.okE_bind k).imp fun a ka v W2 e2 hv=>g W2 (e1.trans e2) _ ((Res.okE_bind ka).imp fun as kas vs W3 e3 hn hvs=>kas (v::vs) W3 (e2.trans e3) (by simp[hn]) (.cons (Mono.mono (R:=R) e3.g hv) hvs)))
theorem cP {R:Rp α} [Mono R] {n:Nat} {ts:TA} {ms:Res (List α)} (g:AV Er ts σ W R n ms) (hn:n≤cap:=by decide):EVo Er (bV ts) σ W R ms:=fun W1 e1 Q k=>
 g W1 e1 _ (k.imp fun as ka vs W2 e2 hv hvs=>⟨by rw[hv];exact lb hn,fun p hp=>ka p (W2.mut p (.lst vs) (W2.gnone hp)) (e2.trans (.own _ hp)) (bi e2.h hp) ⟨W2.gnone hp,vs,ak,hvs⟩⟩)
theorem dD {R:Rp α} [Mono R] {ma mb:Res (List α)} (ha:EV Er ta σ W (pk R) ma) (hb:EV Er tb σ W (pk R) mb):EVo Er (cB ci ta tb) σ W R (ma.bind fun a=>mb.bind fun b=>sM a b):=fun W1 e1 Q k=>
 ha W1 e1 _ ((Res.okE_bind k).imp fun a ka x W2 e2 hx=>hb W2 (e1.trans e2) _ ((Res.okE_bind ka).imp fun b kb y W3 e3 hy=>by
  obtain⟨p,vs,rfl,h1,h2⟩:=MonoW.mono e3 hx
  obtain⟨q,us,rfl,h3,h4⟩:=hy
  obtain⟨h5,h6⟩:=bt kb
  refine⟨p,q,vs,us,rfl,rfl,h1,h3,by rw[h2.1,h4.1];exact lb h5,fun r hr=>h6 r (W3.mut r (.lst (vs++us)) (W3.gnone hr)) ((e2.trans e3).trans (.own _ hr)) (bi (e2.trans e3).h hr) ⟨W3.gnone hr,_,ak,?_⟩⟩
  exact⟨by rw[List.length_append,List.length_append,h2.1,h4.1],fun i v m q1 q2=>by
   by_cases hi:i< vs.length
   ·rw[List.getElem?_append_left hi]at q1
    rw[List.getElem?_append_left (by rw[←h2.1];exact hi)]at q2
    exact h2.2 i v m q1 q2
   ·rw[List.getElem?_append_right (by omega)]at q1
    rw[List.getElem?_append_right (by rw[←h2.1];omega)]at q2
    rw[←h2.1]at q2
    exact h4.2 _ v m q1 q2⟩))
theorem LR.cut {R:Rp α} {H:Hp} {as:List α} {vs:List V} (h:LR R H as vs) (lo hi:Option Int):LR R H (Mi.cut as lo hi) (kX vs lo hi):=by
 unfold Mi.cut kX
 rw[h.1]
 exact(h.drop _).take _
theorem qD {R:Rp α} [Mono R] {ma:Res (List α)} {tl th:TO} {ml mh:Res (Option Int)} (ha:EV Er ta σ W (pk R) ma)
  (hl:∀W1,Ext W W1→∀Q:Option Int→Hp→Prop,ml.OkE Er (fun o=>∀W2,Ext W1 W2→Q o W2.H)→tl σ W1.H Q) (hh:∀W1,Ext W W1→∀Q:Option Int→Hp→Prop,mh.OkE Er (fun o=>∀W2,Ext W1 W2→Q o W2.H)→th σ W1.H Q):
  EVo Er (dY (bX K) ta tl th) σ W R (ma.bind fun a=>ml.bind fun lo=>mh.bind fun hi=>.ok (Mi.cut a lo hi)):=fun W1 e1 Q k=>
 ha W1 e1 _ ((Res.okE_bind k).imp fun a ka x W2 e2 hx=>hl W2 (e1.trans e2) _ ((Res.okE_bind ka).imp fun lo kl W3 e3=>hh W3 ((e1.trans e2).trans e3) _ ((Res.okE_bind kl).imp fun hi kh W4 e4=>by
  obtain⟨p,vs,rfl,h1,h2⟩:=MonoW.mono (e3.trans e4) hx
  have e5:=(e2.trans e3).trans e4
  exact⟨p,vs,rfl,SqL.of h1,fun r hr=>kh r (W4.mut r (.lst (kX vs lo hi)) (W4.gnone hr)) (e5.trans (.own _ hr)) (bi e5.h hr) ⟨W4.gnone hr,_,ak,h2.cut lo hi⟩⟩)))
theorem sO {ma:Res Int} (ha:EV Er ta σ W (sh isI) ma):EV Er (db (fun xs H Q=>∃i,xs=[.int i]∧Q (.int (if i< 0 then -i else i)) H) (aj ta aX)) σ W (sh isI) (ma.bind fun a=>.ok (cT a)):=fun W1 e1 Q k=>
 ha W1 e1 _ ((Res.okE_bind k).imp fun a ka x W2 e2 hx=>by cases hx;exact⟨a,rfl,ka _ W2 e2 rfl⟩)
theorem cX {R:Rp α} {ma:Res (List α)} (ha:EV Er ta σ W (pk R) ma):EV Er (db (fun xs H Q=>∃x n,xs=[x]∧kT K x H n∧Q (.int n) H) (aj ta aX)) σ W (sh isI) (ma.bind fun a=>.ok (a.length:Int)):=fun W1 e1 Q k=>
 ha W1 e1 _ ((Res.okE_bind k).imp fun a ka x W2 e2 hx=>by
  obtain⟨p,vs,rfl,h1,h2⟩:=hx
  exact⟨_,a.length,rfl,.inl ⟨vs,SqL.of h1,h2.1.symm⟩,ka _ W2 e2 rfl⟩)
theorem jk {ma:Res Tx} (ha:EV Er ta σ W (sh isS) ma):EV Er (db (fun xs H Q=>∃x n,xs=[x]∧kT K x H n∧Q (.int n) H) (aj ta aX)) σ W (sh isI) (ma.bind fun a=>oy a):=fun W1 e1 Q k=>
 ha W1 e1 _ ((Res.okE_bind k).imp fun a ka x W2 e2 hx=>by
  cases hx
  obtain⟨h1,h2⟩:=bt ka
  exact⟨_,a.length,rfl,⟨by rw[cW];exact lb h1,by rw[cW]⟩,h2 _ W2 e2 rfl⟩)
theorem gs {ma:Res (List Tx)} {x:Str} (hx:x=sOf []) (ha:EV Er ta σ W (pk isS) ma):EV Er (dC K "str" (fun x xs H Q=>∃(p:Addr) (ys:List (List Nat)),x=.str (sOf [])∧xs=[.ref p]∧SqL K H p (ys.map fun y=>V.str (sOf y))∧ys.flatten.length≤100000∧Q (.str (sOf ys.flatten)) H) (tC (.str x)) (aj ta aX)) σ W (sh isS) (ma.bind fun a=>iy a):=fun W1 e1 Q k=>
 ⟨by show vP K "str" (.str x) W1.H;rfl,ha W1 e1 _ ((Res.okE_bind k).imp fun a ka v W2 e2 hv=>by
  obtain⟨p,vs,rfl,h1,h2⟩:=hv
  obtain⟨h3,h4⟩:=bt ka
  exact⟨p,a,by rw[hx],rfl,SqL.of (by rw[h1,h2.str]),h3,h4 _ W2 e2 rfl⟩)⟩
end
end Wb
namespace Wb
open PySem L2 Mi
variable {Er:Nat→Prop}
abbrev Rt (β:Type):=Wd→β→VK→Prop
def rs {β:Type} (R:Rp β):Rt β:=fun W r Q=>∀u W',Ext W W'→R W'.G r u→Q u W'.H
def ro {β:Type} (R:Rp β):Rt (List β):=fun W r Q=>∀p W',Ext W W'→W.H p=none→Ow R W' p r→Q (.ref p) W'.H
section
variable {α β γ δ ε ζ:Type}
def bY (R1:Rp α) (rt:Rt β) (m:α→Res β):Sp:=fun vs H Q _=>∃(W:Wd) (a:α) (v:V),W.H=H∧vs=[v]∧R1 W.G a v∧∃Er:Nat→Prop,(m a).OkE Er fun r=>rt W r Q
def bf (R1:Rp α) (R2:Rp γ) (rt:Rt β) (m:α→γ→Res β):Sp:=fun vs H Q _=>∃(W:Wd) (a:α) (b:γ) (v u:V),W.H=H∧vs=[v,u]∧R1 W.G a v∧R2 W.G b u∧∃Er:Nat→Prop,(m a b).OkE Er fun r=>rt W r Q
def gl (R1:Rp α) (R2:Rp γ) (R3:Rp δ) (rt:Rt β) (m:α→γ→δ→Res β):Sp:=fun vs H Q _=>∃(W:Wd) (a:α) (b:γ) (c:δ) (v u w:V),W.H=H∧vs=[v,u,w]∧R1 W.G a v∧R2 W.G b u∧R3 W.G c w∧∃Er:Nat→Prop,(m a b c).OkE Er fun r=>rt W r Q
variable {t t1 t2 t3 t4 t5:TE} {σ:St} {W W0 W':Wd} {K:PySem.W.Frag}
section
variable {R1:Rp α} {R2:Rp γ} {R3:Rp δ} {R4:Rp ε} {R5:Rp ζ} [Mono R1] [Mono R2] [Mono R3] [Mono R4] [Mono R5] {m1:Res α} {m2:Res γ} {m3:Res δ} {m4:Res ε} {m5:Res ζ} {E:XK}
theorem cq {R:Rp β} {m:α→Res β} (h1:EV Er t1 σ W (sh R1) m1):EV Er (aU (bY R1 (rs R) m) [] E (aj t1 aX)) σ W (sh R) (m1.bind fun a=>m a):=fun W1 e1 Q k=>
 h1 W1 e1 _ ((Res.okE_bind k).imp fun a ka v W2 e2 hv=>⟨W2,a,v,rfl,rfl,hv,Er,ka.imp fun r kr u W' e hu=>kr u W' (e2.trans e) hu⟩)
theorem fR {R:Rp β} {m:α→Res (List β)} (h1:EV Er t1 σ W (sh R1) m1):EVo Er (aU (bY R1 (ro R) m) [] E (aj t1 aX)) σ W R (m1.bind fun a=>m a):=fun W1 e1 Q k=>
 h1 W1 e1 _ ((Res.okE_bind k).imp fun a ka v W2 e2 hv=>⟨W2,a,v,rfl,rfl,hv,Er,ka.imp fun r kr p W' e hp o=>kr p W' (e2.trans e) (bi e2.h hp) o⟩)
theorem aR {R:Rp β} {m:α→γ→Res β} (h1:EV Er t1 σ W (sh R1) m1) (h2:EV Er t2 σ W (sh R2) m2):EV Er (aU (bf R1 R2 (rs R) m) [] E (aj t1 (aj t2 aX))) σ W (sh R) (m1.bind fun a=>m2.bind fun b=>m a b):=fun W1 e1 Q k=>
 h1 W1 e1 _ ((Res.okE_bind k).imp fun a ka v W2 e2 hv=>h2 W2 (e1.trans e2) _ ((Res.okE_bind ka).imp fun b kb u W3 e3 hu=>⟨W3,a,b,v,u,rfl,rfl,MonoW.mono (R:=sh R1) e3 hv,hu,Er,kb.imp fun r kr u W' e hu=>kr u W' ((e2.trans e3).trans e) hu⟩))
theorem dg {R:Rp β} {m:α→γ→Res (List β)} (h1:EV Er t1 σ W (sh R1) m1) (h2:EV Er t2 σ W (sh R2) m2):EVo Er (aU (bf R1 R2 (ro R) m) [] E (aj t1 (aj t2 aX))) σ W R (m1.bind fun a=>m2.bind fun b=>m a b):=fun W1 e1 Q k=>
 h1 W1 e1 _ ((Res.okE_bind k).imp fun a ka v W2 e2 hv=>h2 W2 (e1.trans e2) _ ((Res.okE_bind ka).imp fun b kb u W3 e3 hu=>⟨W3,a,b,v,u,rfl,rfl,MonoW.mono (R:=sh R1) e3 hv,hu,Er,kb.imp fun r kr p W' e hp o=>kr p W' ((e2.trans e3).trans e) (bi (e2.trans e3).h hp) o⟩))
theorem jN {R:Rp β} {m:α→γ→δ→Res β} (h1:EV Er t1 σ W (sh R1) m1) (h2:EV Er t2 σ W (sh R2) m2) (h3:EV Er t3 σ W (sh R3) m3):EV Er (aU (gl R1 R2 R3 (rs R) m) [] E (aj t1 (aj t2 (aj t3 aX)))) σ W (sh R) (m1.bind fun a=>m2.bind fun b=>m3.bind fun c=>m a b c):=fun W1 e1 Q k=>
 h1 W1 e1 _ ((Res.okE_bind k).imp fun a ka v W2 e2 hv=>h2 W2 (e1.trans e2) _ ((Res.okE_bind ka).imp fun b kb u W3 e3 hu=>h3 W3 ((e1.trans e2).trans e3) _ ((Res.okE_bind kb).imp fun c kc w W4 e4 hw=>
  ⟨W4,a,b,c,v,u,w,rfl,rfl,MonoW.mono (R:=sh R1) (e3.trans e4) hv,MonoW.mono (R:=sh R2) e4 hu,hw,Er,kc.imp fun r kr u W' e hu=>kr u W' (((e2.trans e3).trans e4).trans e) hu⟩)))
theorem iD {R:Rp β} {m:α→γ→δ→Res (List β)} (h1:EV Er t1 σ W (sh R1) m1) (h2:EV Er t2 σ W (sh R2) m2) (h3:EV Er t3 σ W (sh R3) m3):EVo Er (aU (gl R1 R2 R3 (ro R) m) [] E (aj t1 (aj t2 (aj t3 aX)))) σ W R (m1.bind fun a=>m2.bind fun b=>m3.bind fun c=>m a b c):=fun W1 e1 Q k=>
 h1 W1 e1 _ ((Res.okE_bind k).imp fun a ka v W2 e2 hv=>h2 W2 (e1.trans e2) _ ((Res.okE_bind ka).imp fun b kb u W3 e3 hu=>h3 W3 ((e1.trans e2).trans e3) _ ((Res.okE_bind kb).imp fun c kc w W4 e4 hw=>
  ⟨W4,a,b,c,v,u,w,rfl,rfl,MonoW.mono (R:=sh R1) (e3.trans e4) hv,MonoW.mono (R:=sh R2) e4 hu,hw,Er,kc.imp fun r kr p W' e hp o=>kr p W' (((e2.trans e3).trans e4).trans e) (bi ((e2.trans e3).trans e4).h hp) o⟩)))
end
def Yl (J:It) (W:Wd) (R:Rp α) (xs:List α):Prop:=∀W1:Wd,Same W.G W1.G→(∀(i:Nat) (a:α),xs[i]? =some a→J.go i W1.H∧∀x H',J.yld i W1.H x H'→∃W2:Wd,W2.H=H'∧Ext W1 W2∧R W2.G a x)∧J.stop xs.length W1.H
def IV (Er:Nat→Prop) (wi:TI) (σ:St) (W:Wd) (R:Rp α) (m:Res (List α)):Prop:=∀W1,Ext W W1→∀P:It→Hp→Prop,m.OkE Er (fun xs=>∀J W2,Ext W1 W2→Yl J W2 R xs→P J W2.H)→wi σ W1.H P
theorem ef {R:Rp α} [Mono R] {m:Res (List α)} (h:EV Er t σ W (sh (isL R)) m):IV Er (lF K t) σ W R m:=fun W1 e1 P k=>
 h W1 e1 _ (k.imp fun xs kx v W2 e2 hv => by
  obtain⟨p,vs,rfl,h1,h2⟩:=hv
  refine⟨p,rfl,⟨vs,SqL.of (W2.ok _ _ h1)⟩,kx _ W2 e2 fun W3 e3=>⟨fun i a ha=>?_,vs,SqL.of (W3.ok _ _ (e3 _ _ h1)),by rw[h2.1];exact Nat.le_refl _⟩⟩
  obtain⟨x,hx,hr⟩:=h2.get ha
  refine⟨⟨vs,x,SqL.of (W3.ok _ _ (e3 _ _ h1)),hx⟩,fun y H' ⟨z1,z2⟩=>⟨W3,z1.symm,.refl _,?_⟩⟩
  have:=z2 vs (SqL.of (W3.ok _ _ (e3 _ _ h1)))
  rw[hx]at this
  cases this
  exact Mono.mono e3 hr)
theorem gP {m:Res Tx} (h:EV Er t σ W (sh isS) m):IV Er (uc t) σ W isS (m.bind fun x=>.ok (aZ x)):=fun W1 e1 P k=>
 h W1 e1 _ ((Res.okE_bind k).imp fun x kx v W2 e2 hv => by
  cases hv
  refine⟨x,rfl,kx _ W2 e2 fun W3 e3=>⟨fun i a ha=>?_,by show x.length≤(aZ x).length;simp[aZ]⟩⟩
  unfold aZ at ha
  rw[List.getElem?_map]at ha
  cases hc:x[i]? with
  | none=>rw[hc]at ha;cases ha
  | some c =>
   rw[hc]at ha;cases ha
   refine⟨(List.getElem?_eq_some_iff.mp hc).1,fun y H' ⟨z1,c',z2,z3⟩=>⟨W3,z1.symm,.refl _,?_⟩⟩
   rw[hc]at z2;cases z2
   exact z3)
theorem eR {m:Res Int} (h:EV Er t σ W (sh isI) m):IV Er (rN (aj t aX)) σ W isI (m.bind fun n=>dm n):=fun W1 e1 P k=>
 h W1 e1 _ ((Res.okE_bind k).imp fun n kn v W2 e2 hv => by
  cases hv
  obtain⟨hb,kn⟩:=bt kn
  refine⟨n,rfl,hb.1,hb.2,kn _ W2 e2 fun W3 e3=>⟨fun i a ha=>?_,by show n.toNat≤(gL n).length;simp[gL]⟩⟩
  unfold gL at ha
  rw[List.getElem?_map]at ha
  have hi:i< n.toNat:=by
   refine Classical.byContradiction fun z=>?_
   rw[List.getElem?_eq_none_iff.mpr (by simp;omega)]at ha;cases ha
  rw[List.getElem?_range hi]at ha
  cases ha
  exact⟨hi,fun y H' ⟨z1,z2⟩=>⟨W3,z1.symm,.refl _,by rw[z2];show V.int (0+(i:Int))=.int (i:Int);rw[Int.zero_add]⟩⟩)
def SrcR (K:PySem.W.Frag) (W:Wd) (R:Rp α) (xs:List α) (v:V):Prop:=∃(c:Src) (vs:List V),v=c.val∧(∀W1:Wd,Same W.G W1.G→c.has K W1.H vs)∧LR R W.G xs vs
theorem SrcR.mono {R:Rp α} [Mono R] {xs:List α} {v:V} (h:SrcR K W R xs v) (e:Same W.G W'.G):SrcR K W' R xs v:=by
 obtain⟨c,vs,h1,h2,h3⟩:=h
 exact⟨c,vs,h1,fun W1 e1=>h2 W1 (e.trans e1),h3.same e⟩
def SV (Er:Nat→Prop) (t:TE) (σ:St) (W:Wd) (K:PySem.W.Frag) (R:Rp α) (m:Res (List α)):Prop:=EV Er t σ W (fun W xs v=>SrcR K W R xs v) m
theorem jl {R:Rp α} [Mono R] {m:Res (List α)} (h:EV Er t σ W (sh (isL R)) m):SV Er t σ W K R m:=h.imp fun W xs v ⟨p,vs,h0,h1,h2⟩=>⟨.lst p,vs,h0,fun W1 e1=>SqL.of (W1.ok _ _ (e1 _ _ h1)),h2⟩
theorem jO {H:Hp} (x:Tx):LR isS H (aZ x) (x.map fun c=>V.str (sOf [c])):=⟨by simp[aZ],fun i v m e1 e2=>by
 unfold aZ at e2
 rw[List.getElem?_map]at e1 e2
 cases hc:x[i]? with
 | none=>rw[hc]at e1;cases e1
 | some c=>rw[hc]at e1 e2;cases e1;cases e2;rfl⟩
theorem jm {m:Res Tx} (h:EV Er t σ W (sh isS) m):SV Er t σ W K isS (m.bind fun x=>.ok (aZ x)):=fun W1 e1 Q k=>
 h W1 e1 _ ((Res.okE_bind k).imp fun x kx v W2 e2 hv=>by cases hv;exact kx _ W2 e2 ⟨.str x,_,rfl,fun _ _=>rfl,jO x⟩)
theorem oJ {R1:Rp α} {R2:Rp β} [Mono R1] [Mono R2] {m1:Res (List α)} {m2:Res (List β)} (h1:SV Er t1 σ W K R1 m1) (h2:SV Er t2 σ W K R2 m2):IV Er (sK K (aj t1 (aj t2 aX))) σ W (isT2 K R1 R2) (m1.bind fun xs=>m2.bind fun ys=>.ok (xs.zip ys)):=fun W1 e1 P k=>
 h1 W1 e1 _ ((Res.okE_bind k).imp fun xs kx v W2 e2 hv=>h2 W2 (e1.trans e2) _ ((Res.okE_bind kx).imp fun ys ky u W3 e3 hu=>by
  obtain⟨c1,vs,rfl,a1,b1⟩:=SrcR.mono hv e3.g
  obtain⟨c2,us,rfl,a2,b2⟩:=hu
  refine⟨c1,c2,vs,us,rfl,a1 W3 (.refl _),a2 W3 (.refl _),ky _ W3 (e2.trans e3) fun W4 e4=>⟨fun i ab hab=>?_,?_⟩⟩
  ·rw[List.getElem?_zip_eq_some]at hab
   obtain⟨x,hx,rx⟩:=b1.get hab.1
   obtain⟨y,hy,ry⟩:=b2.get hab.2
   refine⟨⟨vs,us,x,y,a1 W4 e4,a2 W4 e4,hx,hy⟩,fun z H' ⟨p,x',y',hp,z0,z1,z2,z3⟩=>⟨W4.new p (.tup [x',y']),by rw[z3];rfl,.new _ hp,p,x',y',z0,SqT.of ak,?_,?_⟩⟩
   ·have:=z1 vs (a1 W4 e4);rw[hx]at this;cases this
    exact Mono.mono (e4.trans (Ext.new _ hp).g) rx
   ·have:=z2 us (a2 W4 e4);rw[hy]at this;cases this
    exact Mono.mono (e4.trans (Ext.new _ hp).g) ry
  ·refine⟨vs,us,a1 W4 e4,a2 W4 e4,?_⟩
   rw[List.length_zip,b1.1,b2.1]
   omega))
theorem jP {xs:List α} {i:Nat} {p:Int×α} (h:(cJ xs)[i]? =some p):p.1=(i:Int)∧xs[i]? =some p.2:=by
 unfold cJ at h
 rw[List.getElem?_zipWith]at h
 cases h1:(List.range xs.length)[i]? with
 | none=>rw[h1]at h;cases h
 | some j =>
  cases h2:xs[i]? with
  | none=>rw[h1,h2]at h;cases h
  | some x =>
   rw[h1,h2]at h;cases h
   have hi:=(List.getElem?_eq_some_iff.mp h2).1
   rw[List.getElem?_range hi]at h1
   cases h1
   exact⟨rfl,rfl⟩
theorem jQ {xs:List α} :(cJ xs).length=xs.length:=by simp[cJ]
theorem mP {f:α→Res β} {xs:List α} {i:Nat} {a:α} (h:xs[i]? =some a):jc f (xs.drop i)=(f a).bind fun b=>(jc f (xs.drop (i+1))).bind fun bs=>.ok (b::bs):=by
 obtain⟨hi,e⟩:=List.getElem?_eq_some_iff.mp h
 rw[List.drop_eq_getElem_cons hi,e]
 rfl
theorem ld {f:α→Res (Option β)} {xs:List α} {i:Nat} {a:α} (h:xs[i]? =some a):fu f (xs.drop i)=(f a).bind fun b=>(fu f (xs.drop (i+1))).bind fun bs=>.ok (match b with | some b=>b::bs | none=>bs):=by
 obtain⟨hi,e⟩:=List.getElem?_eq_some_iff.mp h
 rw[List.drop_eq_getElem_cons hi,e]
 rfl
theorem eg {cap:List (Option Nat)} {wi:TI} {g:TG} {te:TE} {R:Rp α} {R':Rp β} [Mono R'] {m:Res (List α)} {f:α→Res β} (hi:IV Er wi σ W R m)
  (hb:∀(W1:Wd) (a:α) (v:V),Ext W W1→R W1.G a v→∀Q:VK,(f a).OkE Er (fun b=>∀u W2,Ext W1 W2→R' W2.G b u→Q u W2.H)→g v (bD cap σ) W1.H fun σ2 H2=>Keep (bD cap σ) σ2∧te σ2 H2 Q):
  EVo Er (jI cap wi g ud te) σ W R' (m.bind fun xs=>dQ xs f):=fun W1 e1 Q k=>by
 refine hi W1 e1 _ ((Res.okE_bind k).imp fun xs kx J W2 e2 hy=>?_)
 obtain⟨hl,kx⟩:=bt (Res.okE_bind kx)
 refine⟨fun i n ys H=>n=xs.length- i∧i≤xs.length∧ys.length≤i∧∃(W3:Wd) (bs:List β),W3.H=H∧Ext W2 W3∧LR R' W3.G bs ys∧(jc f (xs.drop i)).OkE Er (fun r=>∀p W4,Ext W1 W4→W1.H p=none→Ow R' W4 p (bs++r)→Q (.ref p) W4.H),⟨xs.length,by simp,by simp,by simp,W2,[],rfl,.refl _,.nil,?_⟩,?_⟩
 ·simpa using kx
 ·rintro i n ys H ⟨rfl,hi1,hyl,W3,bs,rfl,e3,lr,q⟩
  refine⟨by rw[sizeLine_eq];unfold Mi.cap at hl;omega,?_⟩
  by_cases hlt:i< xs.length
  ·obtain⟨a,ha⟩:∃a,xs[i]? =some a:=⟨xs[i],by simp[hlt]⟩
   obtain⟨h1,h2⟩:=(hy W3 e3.g).1 i a ha
   refine .inr ⟨h1,fun ys' H'=>ys'.length≤i+1∧∃(W3:Wd) (bs:List β),W3.H=H'∧Ext W2 W3∧LR R' W3.G bs ys'∧(jc f (xs.drop (i+1))).OkE Er (fun r=>∀p W4,Ext W1 W4→W1.H p=none→Ow R' W4 p (bs++r)→Q (.ref p) W4.H),fun ys' H' ⟨z1,z2⟩=>⟨xs.length- (i+1),by omega,rfl,hlt,z1,z2⟩,fun x H' hx=>?_⟩
   obtain⟨W4,rfl,e4,rx⟩:=h2 x H' hx
   rw[mP ha]at q
   have:=hb W4 a x (e1.trans ((e2.trans e3).trans e4)) rx (fun y H4=>(ys++ [y]).length≤i+1∧∃(W3:Wd) (bs:List β),W3.H=H4∧Ext W2 W3∧LR R' W3.G bs (ys++ [y])∧(jc f (xs.drop (i+1))).OkE Er (fun r=>∀p W4,Ext W1 W4→W1.H p=none→Ow R' W4 p (bs++r)→Q (.ref p) W4.H))
    ((Res.okE_bind q).imp fun b kb u W5 e5 hu=>⟨by simp;exact hyl,W5,bs++ [b],rfl,(e3.trans e4).trans e5,(lr.same (e4.trans e5).g).snoc hu,(Res.okE_bind kb).imp fun r kr=>by rw[List.append_assoc];exact kr⟩)
   exact this
  ·have e:i=xs.length:=by omega
   subst e
   rw[List.drop_length]at q
   refine .inl ⟨(hy W3 e3.g).2,fun D hD=>?_⟩
   have e13:=e2.trans e3
   have:=q D (W3.mut D (.lst ys) (W3.gnone hD)) (e13.trans (.own _ hD)) (bi e13.h hD) ⟨W3.gnone hD,ys,ak,by rw[List.append_nil];exact lr⟩
   exact this
theorem jR {cap:List (Option Nat)} {wi:TI} {g:TG} {tf:TT} {te:TE} {R:Rp α} {R':Rp β} [Mono R'] {m:Res (List α)} {f:α→Res (Option β)} (hi:IV Er wi σ W R m)
    (hb:∀(W1:Wd) (a:α) (v:V),Ext W W1→R W1.G a v→∀Q:Option V→Hp→Prop,(f a).OkE Er (fun b=>∀u W2,Ext W1 W2→(match b,u with | some b,some u=>R' W2.G b u | none,none=>True | _,_=>False)→Q u W2.H)→g v (bD cap σ) W1.H fun σ2 H2=>Keep (bD cap σ) σ2∧tf σ2 H2 fun b H3=>if b=true then te σ2 H3 (fun y H4=>Q (some y) H4)else Q none H3):
    EVo Er (jI cap wi g tf te) σ W R' (m.bind fun xs=>iz xs f):=fun W1 e1 Q k=>by
  refine hi W1 e1 _ ((Res.okE_bind k).imp fun xs kx J W2 e2 hy=>?_)
  obtain⟨hl,kx⟩:=bt (Res.okE_bind kx)
  refine⟨fun i n ys H=>n=xs.length- i∧i≤xs.length∧ys.length≤i∧∃(W3:Wd) (bs:List β),W3.H=H∧Ext W2 W3∧LR R' W3.G bs ys∧(fu f (xs.drop i)).OkE Er (fun r=>∀p W4,Ext W1 W4→W1.H p=none→Ow R' W4 p (bs++r)→Q (.ref p) W4.H),⟨xs.length,by simp,by simp,by simp,W2,[],rfl,.refl _,.nil,?_⟩,?_⟩
  · simpa using kx
  · rintro i n ys H ⟨rfl,hi1,hyl,W3,bs,rfl,e3,lr,q⟩
    refine⟨by rw[sizeLine_eq];unfold Mi.cap at hl;omega,?_⟩
    by_cases hlt:i< xs.length
    · obtain⟨a,ha⟩:∃a,xs[i]? =some a:=⟨xs[i],by simp[hlt]⟩
      obtain⟨h1,h2⟩:=(hy W3 e3.g).1 i a ha
      refine .inr ⟨h1,fun ys' H'=>ys'.length≤i+1∧∃(W3:Wd) (bs:List β),W3.H=H'∧Ext W2 W3∧LR R' W3.G bs ys'∧(fu f (xs.drop (i+1))).OkE Er (fun r=>∀p W4,Ext W1 W4→W1.H p=none→Ow R' W4 p (bs++r)→Q (.ref p) W4.H),fun ys' H' ⟨z1,z2⟩=>⟨xs.length- (i+1),by omega,rfl,hlt,z1,z2⟩,fun x H' hx=>?_⟩
      obtain⟨W4,rfl,e4,rx⟩:=h2 x H' hx
      rw[ld ha]at q
      have:=hb W4 a x (e1.trans ((e2.trans e3).trans e4)) rx (fun y H4=>(match y with | some y=>ys++ [y] | none=>ys).length≤i+1∧∃(W3:Wd) (bs:List β),W3.H=H4∧Ext W2 W3∧LR R' W3.G bs (match y with | some y=>ys++ [y] | none=>ys)∧(fu f (xs.drop (i+1))).OkE Er (fun r=>∀p W4,Ext W1 W4→W1.H p=none→Ow R' W4 p (bs++r)→Q (.ref p) W4.H))
        ((Res.okE_bind q).imp fun b kb u W5 e5 hu=>by
          match b,u,hu,kb with
          | some b,some u,hu,kb=>exact⟨by simp;exact hyl,W5,bs++ [b],rfl,(e3.trans e4).trans e5,(lr.same (e4.trans e5).g).snoc hu,(Res.okE_bind kb).imp fun r kr=>by rw[List.append_assoc];exact kr⟩
          | none,none,hu,kb=>exact⟨by show ys.length≤i+1;omega,W5,bs,rfl,(e3.trans e4).trans e5,lr.same (e4.trans e5).g,(Res.okE_bind kb).imp fun r kr=>kr⟩)
      exact this
    · have e:i=xs.length:=by omega
      subst e
      rw[List.drop_length]at q
      refine .inl ⟨(hy W3 e3.g).2,fun D hD=>?_⟩
      have e13:=e2.trans e3
      have:=q D (W3.mut D (.lst ys) (W3.gnone hD)) (e13.trans (.own _ hD)) (bi e13.h hD) ⟨W3.gnone hD,ys,ak,by rw[List.append_nil];exact lr⟩
      exact this
end
end Wb
namespace Wb
open PySem L2 Mi
variable {Er:Nat→Prop}
section
variable {α β γ δ:Type} {t u:TS} {te ti:TE} {g:TG} {D:Ends} {σ:St} {W W0 W':Wd} {K:PySem.W.Frag} {i j k n:Nat} {P:St→Hp→Prop} {H:Hp} {v:V}
theorem gn {σ':St} (h:P σ' H) (hσ:σ.set i (some v)=σ':=by rfl):aN i v σ H P:=by subst hσ;exact h
theorem jS {σ':V→V→St} {R1:Rp α} {R2:Rp β} {ab:α×β} (h:isT2 K R1 R2 W.G ab v) (q:∀x y,R1 W.G ab.1 x→R2 W.G ab.2 y→P (σ' x y) W.H) (hσ:∀x y,(σ.set i (some x)).set j (some y)=σ' x y:=by intro _ _;rfl):bK K 2 (bc (aN i) (bc (aN j) bP)) v σ W.H P:=by
 obtain⟨p,x,y,h0,h,h1,h2⟩:=h
 exact⟨p,_,h0,Same.tup W.ok h,rfl,x,_,rfl,y,_,rfl,rfl,by have:=q x y h1 h2;rw[←hσ]at this;exact this⟩
theorem mQ {σ':V→V→V→St} {R1:Rp α} {R2:Rp β} {R3:Rp γ} {ab:α×β×γ} (h:isT3 K R1 R2 R3 W.G ab v) (q:∀x y z,R1 W.G ab.1 x→R2 W.G ab.2.1 y→R3 W.G ab.2.2 z→P (σ' x y z) W.H) (hσ:∀x y z,((σ.set i (some x)).set j (some y)).set k (some z)=σ' x y z:=by intro _ _ _;rfl):bK K 3 (bc (aN i) (bc (aN j) (bc (aN k) bP))) v σ W.H P:=by
 obtain⟨p,x,y,z,h0,h,h1,h2,h3⟩:=h
 exact⟨p,_,h0,Same.tup W.ok h,rfl,x,_,rfl,y,_,rfl,z,_,rfl,rfl,by have:=q x y z h1 h2 h3;rw[←hσ]at this;exact this⟩
theorem rS {σ':V→V→V→St} {R1:Rp α} {R2:Rp β} {R3:Rp γ} {ab:α×β×γ} (h:isT2 K R1 (isT2 K R2 R3) W.G ab v) (q:∀x y z,R1 W.G ab.1 x→R2 W.G ab.2.1 y→R3 W.G ab.2.2 z→P (σ' x y z) W.H) (hσ:∀x y z,((σ.set i (some x)).set j (some y)).set k (some z)=σ' x y z:=by intro _ _ _;rfl):bK K 2 (bc (aN i) (bc (bK K 2 (bc (aN j) (bc (aN k) bP))) bP)) v σ W.H P:=by
 obtain⟨p,x,y,h0,h,h1,p2,y2,z2,h3,h4,h5,h6⟩:=h
 exact⟨p,_,h0,Same.tup W.ok h,rfl,x,_,rfl,y,_,rfl,p2,_,h3,Same.tup W.ok h4,rfl,y2,_,rfl,z2,_,rfl,rfl,rfl,by have:=q x y2 z2 h1 h5 h6;rw[←hσ]at this;exact this⟩
theorem cQ {σ':V→St} {R:Rw α} {m:Res α} (h:EV Er te σ W R m) (q:m.OkE Er fun a=>∀v W',Ext W W'→R W' a v→D.nx (σ' v) W'.H) (hσ:∀v,σ.set i (some v)=σ' v:=by intro _;rfl):bG te (aN i) D σ W.H:=h W (.refl _) _ (q.imp fun a k v W' e r=>by have:=k v W' e r;rw[←hσ]at this;exact this)
theorem qE {σ':Addr→St} {R:Rp α} {m:Res (List α)} (h:EVo Er te σ W R m) (q:m.OkE Er fun a=>∀p W',Ext W W'→W.H p=none→Ow R W' p a→D.nx (σ' p) W'.H) (hσ:∀p,σ.set i (some (.ref p))=σ' p:=by intro _;rfl):bG te (aN i) D σ W.H:=h W (.refl _) _ (q.imp fun a k p W' e hp r=>by have:=k p W' e hp r;rw[←hσ]at this;exact this)
theorem aQ {R:Rw α} {m:Res α} (h:EV Er te σ W R m) (q:m.OkE Er fun a=>∀v W',Ext W W'→R W' a v→D.rt v W'.H):bS te D σ W.H:=h W (.refl _) _ q
theorem eY {R:Rp α} {m:Res (List α)} (h:EVo Er te σ W R m) (q:m.OkE Er fun a=>∀p W',Ext W W'→W.H p=none→Ow R W' p a→D.rt (.ref p) W'.H):bS te D σ W.H:=h W (.refl _) _ q
theorem rV {c:TT} {m:Res Bool} (h:TV Er c σ W m) (q:m.OkE Er fun b=>∀W',Ext W W'→if b=true then t D σ W'.H else u D σ W'.H):gf c t u D σ W.H:=h W (.refl _) _ q
theorem jn {S:Type} {c:TT} {m:Res Bool} {mA mB:Res S} {P:S→Prop} (Iv:S→Wd→St→Prop) (h:TV Er c σ W m) (q:(m.bind fun b=>if b then mA else mB).OkE Er P)
  (hA:∀W' (N:St→Hp→Prop),Ext W W'→(∀s W1 σ1,Same W.G W1.G→Iv s W1 σ1→P s→N σ1 W1.H)→mA.OkE Er P→t {D with nx:=N} σ W'.H)
  (hB:∀W' (N:St→Hp→Prop),Ext W W'→(∀s W1 σ1,Same W.G W1.G→Iv s W1 σ1→P s→N σ1 W1.H)→mB.OkE Er P→u {D with nx:=N} σ W'.H)
  (hd:∀s W1 σ1,Same W.G W1.G→Iv s W1 σ1→P s→D.nx σ1 W1.H):gf c t u D σ W.H:=h W (.refl _) _ ((Res.okE_bind q).imp fun b kb W' e=>by
 cases b with
 | true=>exact hA W' D.nx e hd kb
 | false=>exact hB W' D.nx e hd kb)
structure Mu (W W':Wd) (p:Addr):Prop where
 g:Same W.G W'.G
 e:∀W0:Wd,Ext W0 W→W0.H p=none→Ext W0 W'
 h:∀q,q≠p→W.H q≠none→W'.H q=W.H q∧W'.G q=W.G q
theorem Mu.of {W1:Wd} {p:Addr} {o:HO} (e1:Ext W W1) (hg:W1.G p=none):Mu W (W1.mut p o hg) p:=⟨e1.g,fun W0 e0 hp=>(e0.trans e1).mut hp hg,fun q hq hn=>by
 obtain⟨o',ho⟩:=Option.ne_none_iff_exists'.mp hn
 exact⟨by show bu W1.H p o q=_;rw[ah hq,e1.h _ _ ho,ho],e1.k q hn⟩⟩
theorem fS {R:Rp α} [Mono R] {p:Addr} {xs:List α} {m:Res α} (o:Ow R W p xs) (h:EV Er te σ W (sh R) m) (q:(m.bind fun a=>eP xs a).OkE Er fun ys=>∀W',Mu W W' p→Ow R W' p ys→D.nx σ W'.H) (hi:σ[i]? =some (some (.ref p)):=by rfl):bj (dC K "list" aF (bx i) (aj te aX)) D σ W.H:=by
 obtain⟨vs,h1,h2⟩:=o.h
 refine⟨.ref p,hi,.inl ⟨rfl,vs,SqL.of h1⟩,h W (.refl _) _ ((Res.okE_bind q).imp fun a ka v W2 e2 hv=>?_)⟩
 obtain⟨h3,h4⟩:=bt ka
 have hg:=(o.mono e2).g
 refine⟨p,vs,v,rfl,rfl,e2.h _ _ h1,by rw[h2.1,sizeLine_eq];unfold Mi.cap at h3;omega,h4 (W2.mut p (.lst (vs++ [v])) hg) (.of e2 hg) ⟨hg,_,ak,(h2.same e2.g).snoc hv⟩⟩
def oK {S:Type} (W:Wd) (Iv:S→Wd→St→Prop) (P:S→Prop):St→Hp→Prop:=fun σ' H'=>∃s' W',W'.H=H'∧Same W.G W'.G∧Iv s' W' σ'∧P s'
theorem mR {S:Type} {f:α→S→Res S} {xs:List α} {i:Nat} {a:α} {s:S} (h:xs[i]? =some a):forR f (xs.drop i) s=(f a s).bind fun s=>forR f (xs.drop (i+1)) s:=by
 obtain⟨hi,e⟩:=List.getElem?_eq_some_iff.mp h
 rw[List.drop_eq_getElem_cons hi,e]
 rfl
theorem lf {S:Type} {wi:TI} {tb:TS} {R:Rp α} {m:Res (List α)} {f:α→S→Res S} {s0:S} {P:S→Prop} (Iv:S→Wd→St→Prop) (hi:IV Er wi σ W R m) (q:(m.bind fun xs=>forR f xs s0).OkE Er P)
  (h0:∀W1,Ext W W1→Iv s0 W1 σ)
  (hs:∀Wb W1 W2 a v s σ1 P',Same W.G W1.G→Same Wb.G W1.G→Iv s W1 σ1→Ext W1 W2→R W2.G a v→(f a s).OkE Er P'→g v σ1 W2.H fun σ2 H2=>tb {D with nx:=oK Wb Iv P',ct:=oK Wb Iv P',bk:=D.nx} σ2 H2)
  (hd:∀s W1 σ1,Same W.G W1.G→Iv s W1 σ1→P s→D.nx σ1 W1.H):nR wi g tb D σ W.H:=by
 refine hi W (.refl _) _ ((Res.okE_bind q).imp fun xs kx J W1 e1 hy=>?_)
 refine⟨fun i n σ' H'=>n=xs.length- i∧i≤xs.length∧∃s' W',W'.H=H'∧Same W1.G W'.G∧Iv s' W' σ'∧(forR f (xs.drop i) s').OkE Er P,⟨xs.length,by simp,by simp,s0,W1,rfl,.refl _,h0 W1 e1,by simpa using kx⟩,?_⟩
 rintro i n σ1 H1 ⟨rfl,hi1,s,W2,rfl,e2,iv,k⟩
 by_cases hlt:i< xs.length
 ·obtain⟨a,ha⟩:∃a,xs[i]? =some a:=⟨xs[i],by simp[hlt]⟩
  obtain⟨h1,h2⟩:=(hy W2 e2).1 i a ha
  refine .inr ⟨h1,oK W1 Iv fun s'=>(forR f (xs.drop (i+1)) s').OkE Er P,fun σ' H' ⟨s',W',z1,z2,z3,z4⟩=>⟨xs.length- (i+1),by omega,rfl,hlt,s',W',z1,z2,z3,z4⟩,fun x H' hx=>?_⟩
  obtain⟨W3,rfl,e3,rx⟩:=h2 x H' hx
  rw[mR ha]at k
  exact hs W1 W2 W3 a x s σ1 (fun s'=>(forR f (xs.drop (i+1)) s').OkE Er P) (e1.g.trans e2) e2 iv e3 rx (Res.okE_bind k)
 ·have e:i=xs.length:=by omega
  subst e
  rw[List.drop_length]at k
  exact .inl ⟨(hy W2 e2).2,hd s W2 σ1 (e1.g.trans e2) iv k⟩
theorem mS {S:Type} {f:α→S→Res (Fl γ S)} {xs:List α} {i:Nat} {a:α} {s:S} (h:xs[i]? =some a):dH f (xs.drop i) s=(f a s).bind (qx (dH f (xs.drop (i+1)))):=by
 obtain⟨hi,e⟩:=List.getElem?_eq_some_iff.mp h
 rw[List.drop_eq_getElem_cons hi,e]
 rfl
theorem jo {S:Type} {wi:TI} {tb:TS} {R:Rp α} {m:Res (List α)} {f:α→S→Res (Fl γ S)} {s0:S} {P:Fl γ S→Prop} (Iv:S→Wd→St→Prop) (hi:IV Er wi σ W R m) (q:(m.bind fun xs=>dH f xs s0).OkE Er P)
  (h0:∀W1,Ext W W1→Iv s0 W1 σ)
  (hs:∀Wb W1 W2 a v s σ1 P',Same W.G W1.G→Same Wb.G W1.G→Iv s W1 σ1→Ext W1 W2→R W2.G a v→(∀r,P' (.rt r)→P (.rt r))→(f a s).OkE Er P'→g v σ1 W2.H fun σ2 H2=>tb {D with nx:=oK Wb Iv fun s'=>P' (.nx s'),ct:=oK Wb Iv fun s'=>P' (.nx s'),bk:=D.nx} σ2 H2)
  (hd:∀s W1 σ1,Same W.G W1.G→Iv s W1 σ1→P (.nx s)→D.nx σ1 W1.H):nR wi g tb D σ W.H:=by
 refine hi W (.refl _) _ ((Res.okE_bind q).imp fun xs kx J W1 e1 hy=>?_)
 refine⟨fun i n σ' H'=>n=xs.length- i∧i≤xs.length∧∃s' W',W'.H=H'∧Same W1.G W'.G∧Iv s' W' σ'∧(dH f (xs.drop i) s').OkE Er P,⟨xs.length,by simp,by simp,s0,W1,rfl,.refl _,h0 W1 e1,by simpa using kx⟩,?_⟩
 rintro i n σ1 H1 ⟨rfl,hi1,s,W2,rfl,e2,iv,k⟩
 by_cases hlt:i< xs.length
 ·obtain⟨a,ha⟩:∃a,xs[i]? =some a:=⟨xs[i],by simp[hlt]⟩
  obtain⟨h1,h2⟩:=(hy W2 e2).1 i a ha
  refine .inr ⟨h1,oK W1 Iv fun s'=>(dH f (xs.drop (i+1)) s').OkE Er P,fun σ' H' ⟨s',W',z1,z2,z3,z4⟩=>⟨xs.length- (i+1),by omega,rfl,hlt,s',W',z1,z2,z3,z4⟩,fun x H' hx=>?_⟩
  obtain⟨W3,rfl,e3,rx⟩:=h2 x H' hx
  rw[mS ha]at k
  exact hs W1 W2 W3 a x s σ1 (fun fl=>match fl with | .nx s'=>(dH f (xs.drop (i+1)) s').OkE Er P | .bk s'=>P (.nx s') | .rt r=>P (.rt r)) (e1.g.trans e2) e2 iv e3 rx (fun r h=>h) ((Res.okE_bind k).imp fun fl h=>by cases fl <;> exact h)
 ·have e:i=xs.length:=by omega
  subst e
  rw[List.drop_length]at k
  exact .inl ⟨(hy W2 e2).2,hd s W2 σ1 (e1.g.trans e2) iv k⟩
section
variable {r:TS}
theorem aq {σ':V→St} {R:Rw α} {m:Res α} (h:EV Er te σ W R m) (q:m.OkE Er fun a=>∀v W',Ext W W'→R W' a v→r D (σ' v) W'.H) (hσ:∀v,σ.set i (some v)=σ' v:=by intro _;rfl):dU (bG te (aN i)) r D σ W.H:=cQ (D:={D with nx:=r D}) h q hσ
theorem dR {σ':Addr→St} {R:Rp α} {m:Res (List α)} (h:EVo Er te σ W R m) (q:m.OkE Er fun a=>∀p W',Ext W W'→W.H p=none→Ow R W' p a→r D (σ' p) W'.H) (hσ:∀p,σ.set i (some (.ref p))=σ' p:=by intro _;rfl):dU (bG te (aN i)) r D σ W.H:=qE (D:={D with nx:=r D}) h q hσ
theorem cz {R:Rw α} {m:Res α} (h:EV Er te σ W R m) (q:m.OkE Er fun a=>∀v W',Ext W W'→R W' a v→g v σ W'.H (r D)):dU (bG te g) r D σ W.H:=h W (.refl _) _ q
theorem cE {c:TT} {m:Res Bool} (h:TV Er c σ W m) (q:m.OkE Er fun b=>∀W',Ext W W'→if b=true then t {D with nx:=r D} σ W'.H else u {D with nx:=r D} σ W'.H):dU (gf c t u) r D σ W.H:=h W (.refl _) _ q
theorem cr {S:Type} {c:TT} {m:Res Bool} {mA mB:Res S} {P:S→Prop} (Iv:S→Wd→St→Prop) (h:TV Er c σ W m) (q:(m.bind fun b=>if b then mA else mB).OkE Er P)
  (hA:∀W' (N:St→Hp→Prop),Ext W W'→(∀s W1 σ1,Same W.G W1.G→Iv s W1 σ1→P s→N σ1 W1.H)→mA.OkE Er P→t {D with nx:=N} σ W'.H)
  (hB:∀W' (N:St→Hp→Prop),Ext W W'→(∀s W1 σ1,Same W.G W1.G→Iv s W1 σ1→P s→N σ1 W1.H)→mB.OkE Er P→u {D with nx:=N} σ W'.H)
  (hd:∀s W1 σ1,Same W.G W1.G→Iv s W1 σ1→P s→r D σ1 W1.H):dU (gf c t u) r D σ W.H:=jn (D:={D with nx:=r D}) Iv h q hA hB hd
theorem jT {R:Rp α} [Mono R] {p:Addr} {xs:List α} {m:Res α} (o:Ow R W p xs) (h:EV Er te σ W (sh R) m) (q:(m.bind fun a=>eP xs a).OkE Er fun ys=>∀W',Mu W W' p→Ow R W' p ys→r D σ W'.H) (hi:σ[i]? =some (some (.ref p)):=by rfl):dU (bj (dC K "list" aF (bx i) (aj te aX))) r D σ W.H:=fS (D:={D with nx:=r D}) o h q hi
theorem du {S:Type} {wi:TI} {tb:TS} {R:Rp α} {m:Res (List α)} {f:α→S→Res S} {s0:S} {P:S→Prop} (Iv:S→Wd→St→Prop) (hi:IV Er wi σ W R m) (q:(m.bind fun xs=>forR f xs s0).OkE Er P)
  (h0:∀W1,Ext W W1→Iv s0 W1 σ)
  (hs:∀Wb W1 W2 a v s σ1 P',Same W.G W1.G→Same Wb.G W1.G→Iv s W1 σ1→Ext W1 W2→R W2.G a v→(f a s).OkE Er P'→g v σ1 W2.H fun σ2 H2=>tb {D with nx:=oK Wb Iv P',ct:=oK Wb Iv P',bk:=r D} σ2 H2)
  (hd:∀s W1 σ1,Same W.G W1.G→Iv s W1 σ1→P s→r D σ1 W1.H):dU (nR wi g tb) r D σ W.H:=lf (D:={D with nx:=r D}) Iv hi q h0 hs hd
theorem iE {S:Type} {wi:TI} {tb:TS} {R:Rp α} {m:Res (List α)} {f:α→S→Res (Fl γ S)} {s0:S} {P:Fl γ S→Prop} (Iv:S→Wd→St→Prop) (hi:IV Er wi σ W R m) (q:(m.bind fun xs=>dH f xs s0).OkE Er P)
  (h0:∀W1,Ext W W1→Iv s0 W1 σ)
  (hs:∀Wb W1 W2 a v s σ1 P',Same W.G W1.G→Same Wb.G W1.G→Iv s W1 σ1→Ext W1 W2→R W2.G a v→(∀r,P' (.rt r)→P (.rt r))→(f a s).OkE Er P'→g v σ1 W2.H fun σ2 H2=>tb {D with nx:=oK Wb Iv fun s'=>P' (.nx s'),ct:=oK Wb Iv fun s'=>P' (.nx s'),bk:=r D} σ2 H2)
  (hd:∀s W1 σ1,Same W.G W1.G→Iv s W1 σ1→P (.nx s)→r D σ1 W1.H):dU (nR wi g tb) r D σ W.H:=jo (D:={D with nx:=r D}) Iv hi q h0 hs hd
end
theorem cV {S:Type} {Wb W:Wd} {Iv:S→Wd→St→Prop} {P:S→Prop} (s:S) (hs:Same Wb.G W.G) (iv:Iv s W σ) (hq:P s):oK Wb Iv P σ W.H:=⟨s,W,rfl,hs,iv,hq⟩
end
end Wb
namespace L2
open PySem PySem.Spec PyProof.Rows
end L2
namespace Wb
open PySem L2 Mi
variable {Er:Nat→Prop}
section
variable {α β γ δ:Type} {t ta tb tc:TE} {σ:St} {W W0 W':Wd} {K:PySem.W.Frag} {w:World}
theorem qF {a n r:Int} (hc:0≤n∧n≤1000000∧a.natAbs< 2^64) (hr:a^n.toNat=r):EV Er (cB (rI tX fun i j=>.int (i^j.toNat)) (tC (.int a)) (tC (.int n))) σ W (sh isI) (.ok r):=fun W1 e1 Q k=>⟨a,n,rfl,rfl,hc,by show Q (.int (a^n.toNat)) W1.H;rw[hr];exact k _ W1 (.refl _) rfl⟩
def isScr (K:PySem.W.Frag):Rp (List Int):=fun H ns v=>∃a,v=.ref a∧SqL K H a (ns.map V.int)
instance zkeep17:Mono (isScr K):=⟨fun e ⟨a,h1,h2⟩=>⟨a,h1,e.seq h2⟩⟩
theorem iF {ma:Res (List Int)} (ha:EV Er ta σ W (sh (isScr K)) ma):EV Er (db (fun xs H Q=>∃x n,xs=[x]∧kT K x H n∧Q (.int n) H) (aj ta aX)) σ W (sh isI) (ma.bind fun a=>.ok (a.length:Int)):=fun W1 e1 Q k=>
 ha W1 e1 _ ((Res.okE_bind k).imp fun a ka x W2 e2 hx=>by
  obtain⟨p,rfl,h1⟩:=hx
  exact⟨_,a.length,rfl,.inl ⟨_,W2.ok.seq h1,by simp⟩,ka _ W2 e2 rfl⟩)
theorem oM {ma:Res (List Int)} {mb:Res Int} (ha:EV Er ta σ W (sh (isScr K)) ma) (hb:EV Er tb σ W (sh isI) mb):EV Er (cB (bU K) ta tb) σ W (sh isI) (ma.bind fun a=>mb.bind fun b=>jM a b):=
 kK ha hb fun W a b x y Q hx hy k=>by
  cases hy
  obtain⟨p,rfl,h1⟩:=hx
  obtain⟨c,h4,h5⟩:=de k
  have lr:LR isI W.G a (a.map V.int):=⟨by simp,fun i v m e1 e2=>by rw[List.getElem?_map,e2]at e1;cases e1;rfl⟩
  obtain⟨z,h6,h7⟩:=gr lr h4
  exact⟨p,_,b,z,rfl,rfl,W.ok.seq h1,h6,h5 _ W (.refl _) h7⟩
theorem jp {R:Rp α} {W1 W2:Wd} {xs:List α} {vs:List V} {Q:VK} (h:LR R W2.G xs vs) (e:Ext W1 W2) (k:∀p W2,Ext W1 W2→W1.H p=none→Ow R W2 p xs→Q (.ref p) W2.H) (r:Addr) (hr:W2.H r=none):Q (.ref r) (bu W2.H r (.lst vs)):=
 k r (W2.mut r (.lst vs) (W2.gnone hr)) (e.trans (.own _ hr)) (bi e.h hr) ⟨W2.gnone hr,vs,ak,h⟩
theorem oN {R:Rp α} {ma:Res (List α)} (ha:EV Er ta σ W (pk R) ma):EVo Er (db (fun xs H Q=>∃p ys,xs=[.ref p]∧(SqL K H p ys∨SqT K H p ys)∧∀l,H l=none→Q (.ref l) (bu H l (.lst ys))) (aj ta aX)) σ W R ma:=fun W1 e1 Q k=>
 ha W1 e1 _ (k.imp fun a ka x W2 e2 hx=>by
  obtain⟨p,vs,rfl,h1,h2⟩:=hx
  exact⟨p,vs,rfl,.inl (SqL.of h1),fun l hl=>jp h2 e2 ka l hl⟩)
theorem oO {ma:Res Tx} (ha:EV Er ta σ W (sh isS) ma):EVo Er (db (fun xs H Q=>∃l:List Nat,xs=[.str (sOf l)]∧l.length≤sizeLine∧∀p,H p=none→Q (.ref p) (bu H p (.lst (l.map fun c=>V.str (sOf [c]))))) (aj ta aX)) σ W isS (ma.bind fun a=>lR a):=fun W1 e1 Q k=>
 ha W1 e1 _ ((Res.okE_bind k).imp fun a ka x W2 e2 hx=>by
  cases hx
  obtain⟨h1,h2⟩:=bt ka
  exact⟨a,rfl,lb h1,fun p hp=>jp (jO a) e2 h2 p hp⟩)
theorem LR.ints {H:Hp} {ns:List Int} {vs:List V} (h:LR isI H ns vs):vs=ns.map V.int:=by
 refine List.ext_getElem? fun i=>?_
 rw[List.getElem?_map]
 cases e:ns[i]? with
 | none=>rw[List.getElem?_eq_none_iff]at e;rw[List.getElem?_eq_none_iff.mpr (by rw[h.1];exact e)];rfl
 | some m=>obtain⟨v,a,b⟩:=h.get e;rw[a];cases b;rfl
theorem qG {ma mb:Res Int} (ha:EV Er ta σ W (sh isI) ma) (hb:EV Er tb σ W (sh isI) mb):EV Er (db (fun xs H Q=>∃i j,xs=[.int i,.int j]∧Q (.int (if j> i then j else i)) H) (aj ta (aj tb aX))) σ W (sh isI) (ma.bind fun a=>mb.bind fun b=>.ok (if b> a then b else a)):=fun W1 e1 Q k=>
 ha W1 e1 _ ((Res.okE_bind k).imp fun a ka x W2 e2 hx=>hb W2 (e1.trans e2) _ ((Res.okE_bind ka).imp fun b kb y W3 e3 hy=>by cases hx;cases hy;exact⟨a,b,rfl,kb _ W3 (e2.trans e3) rfl⟩))
theorem jq {ma mb:Res Int} (ha:EV Er ta σ W (sh isI) ma) (hb:EV Er tb σ W (sh isI) mb):EV Er (db (fun xs H Q=>∃i j,xs=[.int i,.int j]∧Q (.int (if j< i then j else i)) H) (aj ta (aj tb aX))) σ W (sh isI) (ma.bind fun a=>mb.bind fun b=>.ok (if b< a then b else a)):=fun W1 e1 Q k=>
 ha W1 e1 _ ((Res.okE_bind k).imp fun a ka x W2 e2 hx=>hb W2 (e1.trans e2) _ ((Res.okE_bind ka).imp fun b kb y W3 e3 hy=>by cases hx;cases hy;exact⟨a,b,rfl,kb _ W3 (e2.trans e3) rfl⟩))
theorem oP {f:α→V} {g:β→Key} [DecidableEq β] (hg:∀a b,g a=g b→a=b) (kvs:List (β×α)) (k:β):i0 (kvs.map fun p=>(g p.1,f p.2)) (g k)=(look kvs k).map f:=by
 induction kvs with
 | nil=>rfl
 | cons p r ih =>
  unfold look at ih ⊢
  rw[List.map_cons]
  by_cases z:p.1=k
  ·rw[fo (by rw[z]),List.find?_cons_of_pos (by simpa using z)];rfl
  ·rw[fq (fun e=>z (hg _ _ e)),ih,List.find?_cons_of_neg (by simpa using z)]
theorem jr {R:Rp α} {Rk:Rp β} [DecidableEq β] {d:Addr} {kv:List (Key×V)} {kvs:List (β×α)} {f:α→V} {g:β→Key} (hg:∀a b,g a=g b→a=b) (hf:∀H a,R H a (f a)) (hk:∀H b v,Rk H b v→v=kV (g b)) (D:DictK K w d kv) (e:kv=kvs.map fun p=>(g p.1,f p.2)) {m:Res β} (h:EV Er t σ W (sh Rk) m):
  EV Er (aO K w (tC (.ref d)) t) σ W (sh R) (m.bind fun k=>getD kvs k):=fun W1 e1 Q k=>
 h W1 e1 _ ((Res.okE_bind k).imp fun b kb v W2 e2 hv => by
  obtain⟨a,h1,h2⟩:=de kb
  refine⟨d,kv,g b,f a,rfl,D,hk _ _ _ hv,?_,h2 _ W2 e2 (hf _ _)⟩
  rw[e,oP hg,h1];rfl)
theorem ur:∀a b:Tx,(Sum.inr (sOf a):Key)=Sum.inr (sOf b)→a=b:=fun a b e=>lO (Sum.inr.inj e)
theorem sP:∀a b:Int,(Sum.inl a:Key)=Sum.inl b→a=b:=fun a b e=>Sum.inl.inj e
theorem iG {d:Addr} {kv:List (Key×V)} {kvs:List (Tx×Int)} (D:DictK K w d kv) (e:kv=kvs.map fun p=>(Sum.inr (sOf p.1),V.int p.2)) {m:Res Tx} (h:EV Er t σ W (sh isS) m):EV Er (aO K w (tC (.ref d)) t) σ W (sh isI) (m.bind fun k=>getD kvs k):=jr (R:=isI) (f:=V.int) (g:=fun a=>Sum.inr (sOf a)) ur (fun _ _=>rfl) (fun _ _ _ h=>h) D e h
theorem iH {d:Addr} {kv:List (Key×V)} {kvs:List (Tx×Tx)} (D:DictK K w d kv) (e:kv=kvs.map fun p=>(Sum.inr (sOf p.1),V.str (sOf p.2))) {m:Res Tx} (h:EV Er t σ W (sh isS) m):EV Er (aO K w (tC (.ref d)) t) σ W (sh isS) (m.bind fun k=>getD kvs k):=jr (R:=isS) (f:=fun a=>V.str (sOf a)) (g:=fun a=>Sum.inr (sOf a)) ur (fun _ _=>rfl) (fun _ _ _ h=>h) D e h
theorem mT {d:Addr} {kv:List (Key×V)} {kvs:List (Int×Tx)} (D:DictK K w d kv) (e:kv=kvs.map fun p=>(Sum.inl p.1,V.str (sOf p.2))) {m:Res Int} (h:EV Er t σ W (sh isI) m):EV Er (aO K w (tC (.ref d)) t) σ W (sh isS) (m.bind fun k=>getD kvs k):=jr (R:=isS) (f:=fun a=>V.str (sOf a)) (g:=fun a=>Sum.inl a) sP (fun _ _=>rfl) (fun _ _ _ h=>h) D e h
theorem qH {ma:Res Int} {mb:Res (List Int)} (ha:EV Er ta σ W (sh isI) ma) (hb:EV Er tb σ W (pk isI) mb):EV Er (cB (dN K false) ta tb) σ W (sh isB) (ma.bind fun a=>mb.bind fun b=>.ok (b.contains a)):=
 kK ha hb fun W a b x y Q hx hy k=>by
  cases hx
  obtain⟨p,vs,rfl,h1,h2⟩:=hy
  refine⟨p,vs,rfl,.inl (SqL.of h1),rfl,by rw[h2.ints];simp[L2.flatV],?_⟩
  have e:tI (.int a) vs=b.contains a:=by
   rw[h2.ints];unfold tI
   rw[List.any_map,Bool.eq_iff_iff]
   simp[L2.eqV]
   try exact⟨fun⟨x,h,e⟩=>by subst e;exact h,fun h=>⟨a,h,rfl⟩⟩
  rw[if_neg Bool.false_ne_true,e]
  exact k _ W (.refl _) rfl
theorem gQ {ma:Res Int} {mb:Res (List Int)} (ha:EV Er ta σ W (sh isI) ma) (hb:EV Er tb σ W (pk isI) mb):EV Er (cB (dN K true) ta tb) σ W (sh isB) (ma.bind fun a=>mb.bind fun b=>.ok (!b.contains a)):=
 kK ha hb fun W a b x y Q hx hy k=>by
  cases hx
  obtain⟨p,vs,rfl,h1,h2⟩:=hy
  refine⟨p,vs,rfl,.inl (SqL.of h1),rfl,by rw[h2.ints];simp[L2.flatV],?_⟩
  have e:tI (.int a) vs=b.contains a:=by
   rw[h2.ints];unfold tI
   rw[List.any_map,Bool.eq_iff_iff]
   simp[L2.eqV]
   try exact⟨fun⟨x,h,e⟩=>by subst e;exact h,fun h=>⟨a,h,rfl⟩⟩
  rw[if_pos rfl,e]
  exact k _ W (.refl _) rfl
def EqK (K:PySem.W.Frag) (H:Hp):Nat→V→V→Prop
  | 0,v,u=>v=u∧flat v=true
  | n + 1, v, u => (v = u ∧ flat v = true) ∨ ∃ p q xs ys, v = .ref p ∧ u = .ref q ∧ ((H p = some (.lst xs) ∧ H q = some (.lst ys)) ∨ (SqT K H p xs ∧ SqT K H q ys)) ∧ xs.length = ys.length ∧
      ∀(i:Nat) (x y:V),xs[i]? =some x→ys[i]? =some y→EqK K H n x y
theorem EqK.same {H H':Hp} (e:Same H H'):∀{n:Nat} {v u:V},EqK K H n v u→EqK K H' n v u
 | 0,_,_,h=>h
 | n + 1, _, _, h => by
  rcases h with h | ⟨p,q,xs,ys,h1,h2,h3,h4,h5⟩
  ·exact .inl h
  ·refine .inr ⟨p,q,xs,ys,h1,h2,?_,h4,fun i x y e1 e2=>EqK.same e (h5 i x y e1 e2)⟩
   rcases h3 with⟨a,b⟩ | ⟨a,b⟩
   ·exact .inl ⟨e _ _ a,e _ _ b⟩
   ·exact .inr ⟨Same.tup e a,Same.tup e b⟩
theorem EqK.flat {H:Hp} {n:Nat} {v:V} (h:L2.flat v=true):EqK K H n v v:=by cases n with | zero=>exact⟨rfl,h⟩ | succ n=>exact .inl ⟨rfl,h⟩
class EqR (K:PySem.W.Frag) {α:Type} (R:Rp α) (n:outParam Nat):Prop where
 eq:∀H a v u m,n≤m→R H a v→R H a u→EqK K H m v u
instance zkeep18:EqR K isI 0:=⟨fun H a v u m _ h1 h2=>by cases h1;cases h2;exact .flat rfl⟩
instance zkeep19:EqR K isS 0:=⟨fun H a v u m _ h1 h2=>by cases h1;cases h2;exact .flat rfl⟩
instance zkeep24 {R1:Rp α} {R2:Rp β} {n k:Nat} [EqR K R1 n] [EqR K R2 k]:EqR K (isT2 K R1 R2) (max n k+1):=⟨fun H a v u m hm ⟨p,x,y,h0,h,h1,h2⟩ ⟨q,x',y',g0,g,g1,g2⟩=>by
 cases m with
 | zero=>omega
 | succ m =>
  refine .inr ⟨p,q,_,_,h0,g0,.inr ⟨h,g⟩,rfl,fun i z z' e1 e2=>?_⟩
  match i,e1,e2 with
  | 0,e1,e2=>cases e1;cases e2;exact EqR.eq H _ _ _ m (by omega) h1 g1
  | 1,e1,e2=>cases e1;cases e2;exact EqR.eq H _ _ _ m (by omega) h2 g2⟩
end
end Wb
namespace L2
open PySem PySem.Spec PyProof.Rows
section
variable {X:Cx} {K:PySem.W.Frag} {w:World} {o e:Expr} {to:TE} {t:TA} {apos cpos:Pos}
def ut (K:PySem.W.Frag):V→List V→Hp→VK→Prop:=fun x xs H Q=>∃(p:Addr) (ys:List (List Nat)),x=.str (sOf [])∧xs=[.ref p]∧SqL K H p (ys.map fun y=>V.str (sOf y))∧ys.flatten.length≤100000∧Q (.str (sOf ys.flatten)) H
def uu:V→List V→Hp→VK→Prop:=fun x xs H Q=>∃a b,x=.str a∧xs=[.str b]∧0≤Txt.find a b∧Q (.int (Txt.find a b)) H
abbrev vQ (X:Cx) (cpos:Pos) (e:Expr):Prop:=((backTo cpos (starEach [e] X.env)).all (fun x=> !x.1) && (backToKw cpos (keywordEach [] X.env)).all (fun x=>x.1.isSome) && decide ([e].length+([]:List Keyword).length+(if([]:List Keyword).isEmpty then 0 else 1)< 30))=true
theorem fw (h:X.K=K) (ho:PE X o to) (ha:PA X [e] t) (hbase:attributeBase o "join" X.env (eval o X.env)=eval o X.env:=by rfl) (hfew:vQ X cpos e:=by rfl) (hline:(apos.endLine == cpos.line)=true:=by rfl) (hs:starEach [e] X.env=(false,eval e X.env)::starEach [] X.env:=by rfl) (hplain:(backTo cpos (starEach [] X.env)).any (·.1)=false:=by rfl):
  PE X (.Call (.Attribute o "join" apos) [e] [] cpos) (dC K "str" (ut K) to t):=l6 (K:=K) h PySem.F.plainAttrs_str PySem.F.slot_str_join PySem.F.type_str_join (oq (K:=K) h) ho ha hbase hfew hline hs hplain
theorem fT (h:X.K=K) (hc:X.calm=true) (ho:PE X o to) (ha:PA X [e] t) (hbase:attributeBase o "index" X.env (eval o X.env)=eval o X.env:=by rfl) (hfew:vQ X cpos e:=by rfl) (hline:(apos.endLine == cpos.line)=true:=by rfl) (hs:starEach [e] X.env=(false,eval e X.env)::starEach [] X.env:=by rfl) (hplain:(backTo cpos (starEach [] X.env)).any (·.1)=false:=by rfl):
  PE X (.Call (.Attribute o "index" apos) [e] [] cpos) (dC K "str" uu to t):=l6 (K:=K) h PySem.F.plainAttrs_str PySem.F.slot_str_index PySem.F.type_str_index (oh hc) ho ha hbase hfew hline hs hplain
theorem cF (h:X.K=K) (ho:PE X o to) (ha:PA X [e] t) (hbase:attributeBase o "append" X.env (eval o X.env)=eval o X.env:=by rfl) (hfew:vQ X cpos e:=by rfl) (hline:(apos.endLine == cpos.line)=true:=by rfl) (hs:starEach [e] X.env=(false,eval e X.env)::starEach [] X.env:=by rfl) (hplain:(backTo cpos (starEach [] X.env)).any (·.1)=false:=by rfl):
  PE X (.Call (.Attribute o "append" apos) [e] [] cpos) (dC K "list" aF to t):=l6 (K:=K) h PySem.F.plainAttrs_list PySem.F.slot_list_append PySem.F.type_list_append mF ho ha hbase hfew hline hs hplain
end
end L2
namespace Wb
open PySem L2 Mi
variable {Er:Nat→Prop}
section
variable {α β γ δ:Type} {t t1 t2 t3 ta tb tc:TE} {σ:St} {W W0 W':Wd} {K:PySem.W.Frag} {w:World}
class NN {α:Type} (R:Rp α):Prop where
 nn:∀H a v,R H a v→v≠.non
instance zkeep30 {R1:Rp α} {R2:Rp β} :NN (isT2 K R1 R2):=⟨fun _ _ _ ⟨p,x,y,h,_⟩=>by rw[h];exact fun z=>nomatch z⟩
theorem jU {R:Rp α} [NN R] {m:Res α} (h:EV Er t σ W (sh R) m):EV Er t σ W (sh (isO R)) (m.bind fun a=>.ok (some a)):=fun W1 e1 Q k=>
 h W1 e1 _ ((Res.okE_bind k).imp fun a ka v W2 e2 hv=>ka v W2 e2 ⟨hv,NN.nn _ _ _ hv⟩)
theorem oQ {R:Rp α} {m:Res (Option α)} (h:EV Er t σ W (sh (isO R)) m):EV Er t σ W (sh R) (m.bind fun a=>ix a):=fun W1 e1 Q k=>
 h W1 e1 _ ((Res.okE_bind k).imp fun a ka v W2 e2 hv => by
  obtain⟨b,rfl,hb⟩:=de ka
  exact hb v W2 e2 hv.1)
theorem oR {ma:Res (List Int)} (ha:EV Er ta σ W (pk isI) ma):EVo Er (db (fun xs H Q=>∃(p:Addr) (ns:List Int),xs=[.ref p]∧SqL K H p (ns.map V.int)∧ns.length< 64∧∀(q:Addr) (ns':List Int),H q=none→ns'.Perm ns→ns'.Pairwise (· ≤ ·)→Q (.ref q) (bu H q (.lst (ns'.map V.int)))) (aj ta aX)) σ W isI (ma.bind fun a=>oA a):=fun W1 e1 Q k=>
 ha W1 e1 _ ((Res.okE_bind k).imp fun a ka x W2 e2 hx=>by
  obtain⟨p,vs,rfl,h1,h2⟩:=hx
  obtain⟨h3,h4⟩:=bt ka
  refine⟨p,a,rfl,SqL.of (by rw[h1,h2.ints]),h3,fun q ns' hq hp hs=>?_⟩
  rw[iC hp hs]
  exact jp (vs:=(eQ a).map V.int) ⟨by simp,fun i v m e1 e2=>by rw[List.getElem?_map,e2]at e1;cases e1;rfl⟩ e2 h4 q hq)
theorem oS {R1:Rp α} {R2:Rp β} {R3:Rp γ} {d:Addr} {x y z:V} {a:α} {b:β} {c:γ} (T:∀H,SqT K H d [x,y,z]) (h1:∀H,R1 H a x) (h2:∀H,R2 H b y) (h3:∀H,R3 H c z):EV Er (tC (.ref d)) σ W (sh (isT3 K R1 R2 R3)) (.ok (a,b,c)):=fun W1 _ Q k=>k _ W1 (.refl _) ⟨d,x,y,z,rfl,T _,h1 _,h2 _,h3 _⟩
theorem gS (x:String) (l:Tx) (h:(Str.ofString x).cps.toList=l):∀H,isS H l (.str (Str.ofString x)):=fun _=>by rw[cS x l h];rfl
end
end Wb
namespace Mi
theorem fz {a b:Int} (h:0< b):i5 a b=.ok (a% b):=bI h
theorem oU {a b:Int} (h1:0< b) (h2:b< 1073741824):lQ a b=.ok (a/ b):=bI ⟨h1,h2⟩
theorem jV {a b:Int} (h1: -18446744073709551616< a) (h2:a< 18446744073709551616):jL a b=.ok (a*b):=bI (.inl ⟨h1,h2⟩)
theorem oV {a b:Int} (h1: -18446744073709551616< b) (h2:b< 18446744073709551616):jL a b=.ok (a*b):=bI (.inr ⟨h1,h2⟩)
theorem eZ {α:Type} {xs:List α} {x:α} (h:xs.length< 100000):eP xs x=.ok (xs++ [x]):=bI h
theorem f6 {a b:Tx} (h:a.length+b.length≤100000):df a b=.ok (a++b):=bI h
theorem qI {α:Type} {a b:List α} (h:a.length+b.length≤100000):sM a b=.ok (a++b):=bI h
theorem js {a:Tx} (h:a.length≤100000):oy a=.ok (a.length:Int):=bI h
theorem qJ {c:Nat} {n:Int} (h0:0≤n) (h1:n≤100000):sN [c] n=.ok (List.replicate n.toNat c):=bI ⟨h0,h1⟩
theorem fA {a:Tx} {lo hi:Option Int} (h:a.length≤100000):ff a lo hi=.ok (cut a lo hi):=bI h
theorem gR {xs:List Tx} (h:xs.flatten.length≤100000):iy xs=.ok xs.flatten:=bI h
theorem iI {n:Nat} (h:n≤100000):dm (n:Int)=.ok ((List.range n).map fun(i:Nat)=>(i:Int)):=by
 unfold dm;rw[bI ⟨by omega,by omega⟩];simp[gL]
theorem oW {α:Type} [Inhabited α] {xs:List α} {i:Int} (h0:0≤i) (h1:i< xs.length):jM xs i=.ok (xs[i.toNat]?.getD default):=by
 obtain⟨h,e⟩:=l9 h0 h1
 unfold jM;rw[e];simp[h,ix]
theorem jt {α:Type} {xs:List α} {i:Int} (h0:0≤i) (h1:i< xs.length):∃x,jM xs i=.ok x∧xs[i.toNat]? =some x:=by
 obtain⟨h,e⟩:=l9 h0 h1
 exact⟨xs[i.toNat],by unfold jM;rw[e];rfl,by simp[h]⟩
theorem fB {x:Tx} {i:Int} (h0:0≤i) (h1:i< x.length) (h2:x.length≤100000):∃c,eA x i=.ok [c]∧x[i.toNat]? =some c:=by
 obtain⟨h,e⟩:=l9 h0 h1
 refine⟨x[i.toNat],?_,by simp[h]⟩
 unfold eA;rw[bI h2];show(ix (q9 x i)).bind _=_;rw[e];rfl
theorem sQ {x:Tx} {i:Int} (h0:0≤i) (h1:i< x.length) (h2:x.length≤100000):eA x i=.ok [x[i.toNat]?.getD 0]:=by
 obtain⟨c,e,h⟩:=fB h0 h1 h2
 rw[e,h];rfl
theorem sR {α:Type} [DecidableEq α] {a b:α} (h:a=b):ui a b=.ok true:=if_pos h
theorem oX {xs:List Int} (h:xs.length< 64):oA xs=.ok (eQ xs):=bI h
theorem fC {α S:Type} {f:α→S→Res S} (I:List α→S→Prop) (xs:List α) (s0:S) (h0:I [] s0) (step:∀pre a post s,xs=pre++a::post→I pre s→∃s',f a s=.ok s'∧I (pre++ [a]) s'):
  ∃s,forR f xs s0=.ok s∧I xs s:=by
 have key:∀(post pre:List α) (s:S),xs=pre++post→I pre s→∃s',forR f post s=.ok s'∧I xs s':=by
  intro post
  induction post with
  | nil=>intro pre s e h;rw[List.append_nil]at e;subst e;exact⟨s,rfl,h⟩
  | cons a r ih =>
   intro pre s e h
   obtain⟨s1,e1,h1⟩:=step pre a r s e h
   obtain⟨s2,e2,h2⟩:=ih (pre++ [a]) s1 (by rw[e];simp) h1
   exact⟨s2,by unfold forR;rw[e1];exact e2,h2⟩
 exact key xs [] s0 rfl h0
theorem jW {α S γ:Type} {f:α→S→Res (Fl γ S)} (I:List α→S→Prop) (xs:List α) (s0:S) (h0:I [] s0) (step:∀pre a post s,xs=pre++a::post→I pre s→∃s',f a s=.ok (.nx s')∧I (pre++ [a]) s'):
  ∃s,dH f xs s0=.ok (.nx s)∧I xs s:=by
 have key:∀(post pre:List α) (s:S),xs=pre++post→I pre s→∃s',dH f post s=.ok (.nx s')∧I xs s':=by
  intro post
  induction post with
  | nil=>intro pre s e h;rw[List.append_nil]at e;subst e;exact⟨s,rfl,h⟩
  | cons a r ih =>
   intro pre s e h
   obtain⟨s1,e1,h1⟩:=step pre a r s e h
   obtain⟨s2,e2,h2⟩:=ih (pre++ [a]) s1 (by rw[e];simp) h1
   exact⟨s2,by unfold dH;rw[e1];exact e2,h2⟩
 exact key xs [] s0 rfl h0
theorem iJ {α γ:Type} {f:α→Unit→Res (Fl γ Unit)} {g:α→Option γ} (xs:List α) (step:∀a∈xs,f a ()=.ok (match g a with | some r=>.rt r | none=>.nx ())):dH f xs ()=.ok (match xs.findSome? g with | some r=>.rt r | none=>.nx ()):=by
 induction xs with
 | nil=>rfl
 | cons a r ih =>
  unfold dH
  rw[step a (List.mem_cons_self ..)]
  cases h:g a with
  | some z=>simp[h,qx]
  | none=>simp only[Res.bind_ok',qx,List.findSome?_cons,h];exact ih fun b hb=>step b (List.mem_cons_of_mem _ hb)
theorem jX {α β:Type} {f:α→Res (Option β)} {g:α→Option β} :∀{xs:List α},(∀x∈xs,f x=.ok (g x))→fu f xs=.ok (xs.filterMap g)
 | [],_=>rfl
 | a :: r, h => by
  unfold fu
  rw[h a (List.mem_cons_self ..),Res.bind_ok',jX fun x hx=>h x (List.mem_cons_of_mem _ hx),Res.bind_ok',List.filterMap_cons]
  cases g a <;> rfl
theorem oY {α β:Type} {f:α→Res (Option β)} {g:α→Option β} {xs:List α} (hl:xs.length≤100000) (h:∀x∈xs,f x=.ok (g x)):iz xs f=.ok (xs.filterMap g):=by
 unfold iz;rw[bI hl,Res.bind_ok',jX h]
theorem lV (l:List Nat):((l.map fun c=>[c]):List Tx).flatten=l:=by induction l with | nil=>rfl | cons a r ih=>simp[ih]
theorem gU {α:Type} (l:List α) (k:Nat):cut l none (some (k:Int))=l.take k:=by
 unfold cut sIx;simp only[]
 rw[if_neg (by omega),Int.toNat_natCast];simp[List.take_eq_take_iff]
theorem jY {α:Type} (l:List α) (k:Nat):cut l (some (k:Int)) none=l.drop k:=by
 unfold cut sIx;simp only[]
 rw[if_neg (by omega),Int.toNat_natCast]
 by_cases h:k≤l.length
 ·rw[Nat.min_eq_left h,List.take_of_length_le (by simp)]
 ·rw[Nat.min_eq_right (by omega),List.drop_eq_nil_of_le (by omega),List.drop_eq_nil_of_le (by omega)];simp
theorem fU {x:Tx} {t:Tx} (h:t∈aZ x):∃c∈x,t=[c]:=by
 unfold aZ at h;obtain⟨c,hc,e⟩:=List.mem_map.mp h;exact⟨c,hc,e.symm⟩
theorem qK (a:Int):0≤cT a:=by unfold cT;split <;> omega
section
variable {α β:Type} {P:α→Prop} {Q:β→Prop}
theorem kL {m:Res α} {f:α→Res β} (h:m.Ok fun a=>(f a).Ok Q):(m.bind f).Ok Q:=Res.bind_ok h
theorem vR {b:Bool} {A B:Res α} (h1:b=true→A.Ok P) (h2:b=false→B.Ok P):(if b=true then A else B).Ok P:=by
 cases b with
 | true=>exact h1 rfl
 | false=>exact h2 rfl
theorem qL {c:Prop} [Decidable c] {A B:Res α} (h1:c→A.Ok P) (h2:¬c→B.Ok P):(if decide c=true then A else B).Ok P:=by
 by_cases h:c
 ·rw[decide_eq_true h];exact h1 h
 ·rw[decide_eq_false h];exact h2 h
theorem okR {a:α} (h:P a):(Res.ok a).Ok P:=h
theorem wx {m:Res α} {a:α} (e:m=.ok a) (h:P a):m.Ok P:=by rw[e];exact h
end
theorem uv {x:Tx} {lo hi:Option Int} {c:Nat} (h:c∈cut x lo hi):c∈x:=by
 unfold cut at h;exact List.mem_of_mem_drop (List.mem_of_mem_take h)
theorem qM {α:Type} (x:List α) (lo hi:Option Int):(cut x lo hi).length≤x.length:=by
 unfold cut;rw[List.length_take,List.length_drop];omega
end Mi
namespace L2
open PySem PySem.Spec PyProof.Rows Wb
end L2
namespace L2
open PySem PySem.Spec PyProof.Rows
abbrev cj (h:Heap) (z TI TO:Addr) (f0:Value) (f1:Bool):Prop:=h.get? z=some {cls:=.type "zip",dict:=none,data:=.fields #[f0,.bool f1,.bool false,.ref TI,.ref TO],slots:= #[]}
def jZ (f0:Value):Prop:=f0=.none∨∃n:Nat,f0=rawInt n
section
variable {P:Program} {w:World} {A:Around} {E:Value→Shared→Prop} {s:Shared} {z TI TO i1 i2:Addr} {fp1 fp2:List Addr} {n1 n2 k:Nat} {P1 P2:Nat→Value→Prop} {S1 S2:Nat→Heap→Prop} {a b:Value} {f0:Value} {f1:Bool}
theorem k4 {x:Addr} {Q:Option Obj→Shared→Prop} (h:Q (s.heap.get? x) s):wpAny (model P w) A (loadIfAlive x) Q E s:=fun Γ p hΓ=>by
 unfold loadIfAlive
 rw[Sem.wp_loadIfAlive]
 exact wpAny_pure h Γ p hΓ
theorem lW {Q:Bool→Shared→Prop} (hz:cj s.heap z TI TO f0 f1) (hf:jZ f0) (qt:Q true s) (qf:∀h',cj h' z TI TO f0 true→Heap.SameBut z s.heap h'→Q false {s with heap:=h'}):
  wpAny (model P w) A (Builtin.SmallTypes.ownedTupleIsFree (.ref z)) Q E s:=by
 obtain⟨hp,gg,dd,tk0,os⟩:=s
 unfold Builtin.SmallTypes.ownedTupleIsFree
 refine wpAny_bind (wpAny_field hz rfl (x:=f0) rfl ?_)
 rcases hf with rfl | ⟨n,rfl⟩
 ·exact wpAny_pure qt
 show wpAny (model P w) _ (loadIfAlive _ >>= _) _ _ _
 refine wpAny_bind (k4 ?_)
 cases Heap.get? hp (n:Int).toNat with
 | none=>exact wpAny_pure qt
 | some o =>
  show wpAny (model P w) _ (field (.ref z) 1 >>= _) _ _ _
  refine wpAny_bind (wpAny_field hz rfl (x:=.bool f1) rfl ?_)
  cases f1 with
  | true=>exact wpAny_pure (qf hp hz ⟨rfl,fun _ _=>rfl⟩)
  | false =>
   show wpAny (model P w) _ (setField (.ref z) 1 (.bool true) >>= _) _ _ _
   exact wpAny_bind (wpAny_setField_rec hz (by simp) fun g1 y1 b1=>wpAny_pure (qf g1 y1 b1))
theorem lg {Q:Value→Shared→Prop} (D1:Draws P w A.in1 i1 fp1 n1 P1 S1) (D2:Draws P w A.in1 i2 fp2 n2 P2 S2) (Z:ZApart z TI TO i1 i2 fp1 fp2) (h1:k< n1) (h2:k< n2) (hf:jZ f0) (hz:cj s.heap z TI TO f0 f1)
  (hI:IsPair s.heap TI (.ref i1) (.ref i2)) (hO:IsPair s.heap TO a b) (t1:S1 k s.heap) (t2:S2 k s.heap)
  (q:∀x y h' tk T f0' f1',P1 k x→P2 k y→T=s.heap.objs.size→h'.objs.size=s.heap.objs.size+1→jZ f0'→cj h' z TI TO f0' f1'→(∃a b,IsPair h' TO a b)→S1 (k+1) h'→S2 (k+1) h'→IsPair h' T x y→
   (∀c o,c≠z→c≠TO→c≠i1→c≠i2→s.heap.get? c=some o→h'.get? c=some o)→Q (.ref T) {s with heap:=h',toks:=tk}):
  wpAny (model P w) A (Builtin.SmallTypes.nextOf (.ref z)) Q E s:=by
 have hT:s.TypeIs (.ref z) "zip" :=⟨_,hz,rfl⟩
 unfold Builtin.SmallTypes.nextOf
 refine wpAny_bind (wpAny_callSpecial?_slot (name:=Str.ofString "__next__") hT PySem.F.slot_zip_next (wpAny_call_entry PySem.F.slot_zip_next hT PySem.F.entry_zip_next ?_ (PySem.F.args_zip_next_1 _)))
 obtain⟨hp,gg,dd,tk0,os⟩:=s
 show wpAny (model P w) _ (field (.ref z) 2 >>= _) _ _ _
 refine wpAny_bind (wpAny_field hz rfl (x:=.bool false) rfl ?_)
 show wpAny (model P w) _ (field (.ref z) 3 >>= _) _ _ _
 refine wpAny_bind (wpAny_field hz rfl (x:=.ref TI) rfl (wpAny_bind (wpAny_seqItems hI rfl ?_)))
 show wpAny (model P w) _ (Builtin.SmallTypes.ownedTupleIsFree (.ref z) >>= _) _ _ _
 refine wpAny_bind (lW hz hf ?_ fun g1 y1 b1=>?_)
 ·simp only[if_true]
  refine wpAny_bind (wpAny_rule (wpAny_bind (wpAny_field hz rfl (x:=.ref TO) rfl (wpAny_bind (wpAny_setField_rec hz (by simp) fun g1 y1 b1=>?_)))))
  replace y1:cj g1 z TI TO .ellipsis f1:=y1
  replace b1:Heap.SameBut z hp g1:=b1
  refine wpAny_bind ?_;simp only[List.zipIdx_cons,List.zipIdx_nil,List.forIn_cons,List.forIn_nil]
  refine wpAny_bind (wpAny_bind (wpAny_onRaise ?_))
  show wpAny (model P w) _ (Builtin.SmallTypes.nextOf (.ref i1) >>= _) _ _ _
  refine wpAny_bind (D1.item k _ _ _ h1 (aA D1 t1 b1 Z.d1.1) fun x g2 tk2 px u1 b2=>wpAny_pure ?_)
  replace b2:Heap.SameBut i1 g1 g2:=b2
  have O2:IsPair g2 TO a b:=b2.extBut _ _ Z.c8 (b1.extBut _ _ Z.c2 hO)
  refine wpAny_bind (wpAny_seqItems O2 rfl (wpAny_bind (wpAny_updateSeq_pair O2 fun g3 O3 b3=>?_)))
  replace O3:IsPair g3 TO x b:=O3
  replace b3:Heap.SameBut TO g2 g3:=b3
  refine wpAny_bind (wpAny_letGo (wpAny_pure (wpAny_bind (wpAny_bind (wpAny_onRaise ?_)))))
  show wpAny (model P w) _ (Builtin.SmallTypes.nextOf (.ref i2) >>= _) _ _ _
  refine wpAny_bind (D2.item k _ _ _ h2 (aA D2 (aA D2 (aA D2 t2 b1 Z.d2.1) b2 Z.d2.2.2) b3 Z.d2.2.1) fun y g4 tk4 py u2 b4=>wpAny_pure ?_)
  replace b4:Heap.SameBut i2 g3 g4:=b4
  have O4:IsPair g4 TO x b:=b4.extBut _ _ Z.c9 O3
  refine wpAny_bind (wpAny_seqItems O4 rfl (wpAny_bind (wpAny_updateSeq_pair O4 fun g5 O5 b5=>?_)))
  replace O5:IsPair g5 TO x y:=O5
  replace b5:Heap.SameBut TO g4 g5:=b5
  refine wpAny_bind (wpAny_letGo (wpAny_pure (wpAny_pure (wpAny_bind (wpAny_seqItems O5 rfl (wpAny_bind (wpAny_newTuple ?_)))))))
  have sz:g5.objs.size=hp.objs.size:=by rw[b5.1,b4.1,b3.1,b2.1,b1.1]
  have y5:cj g5 z TI TO .ellipsis f1:=b5.extBut _ _ Z.c2.symm (b4.extBut _ _ Z.c4.symm (b3.extBut _ _ Z.c2.symm (b2.extBut _ _ Z.c3.symm y1)))
  have k5:∀c o,c≠z→c≠TO→c≠i1→c≠i2→hp.get? c=some o→g5.get? c=some o:=fun c o e1 e2 e3 e4 e=>b5.extBut _ _ e2 (b4.extBut _ _ e4 (b3.extBut _ _ e2 (b2.extBut _ _ e3 (b1.extBut _ _ e1 e))))
  have v1:S1 (k+1) g5:=aA D1 (aA D1 (aA D1 u1 b3 Z.d1.2.1) b4 Z.d1.2.2) b5 Z.d1.2.1
  have v2:S2 (k+1) g5:=aA D2 u2 b5 Z.d2.2.1
  have lz:z< g5.objs.size:=Heap.lt_size y5
  show wpAny (model P w) _ (Builtin.SmallTypes.ownedTupleHandOut (.ref z) (.ref g5.objs.size) >>= _) _ _ _
  refine wpAny_bind ?_;unfold Builtin.SmallTypes.ownedTupleHandOut
  have y6:cj (g5.push {cls:=.type "tuple",data:=.seq #[x,y]}) z TI TO .ellipsis f1:=Heap.get?_push_of_some _ y5
  refine wpAny_bind (wpAny_setField_rec y6 (by simp) fun g7 y7 b7=>?_)
  replace y7:cj g7 z TI TO (rawInt g5.objs.size) f1:=y7
  replace b7:Heap.SameBut z (g5.push {cls:=.type "tuple",data:=.seq #[x,y]}) g7:=b7
  refine wpAny_setField_rec y7 (by simp) fun g8 y8 b8=>?_
  replace y8:cj g8 z TI TO (rawInt g5.objs.size) false:=y8
  replace b8:Heap.SameBut z g7 g8:=b8
  have up:∀c o,c≠z→g5.get? c=some o→g8.get? c=some o:=fun c o e1 e=>b8.extBut _ _ e1 (b7.extBut _ _ e1 (Heap.get?_push_of_some _ e))
  have T8:IsPair g8 g5.objs.size x y:=b8.extBut _ _ (Nat.ne_of_gt lz) (b7.extBut _ _ (Nat.ne_of_gt lz) (Heap.get?_push_size _ rfl))
  have s8:g8.objs.size=hp.objs.size+1:=by rw[b8.1,b7.1,Heap.size_push,sz]
  exact wpAny_pure ⟨_,rfl,wpAny_pure (q x y g8 _ g5.objs.size _ _ px py sz s8 (.inr ⟨_,rfl⟩) y8 ⟨_,_,up _ _ Z.c2 O5⟩ (D1.frame _ _ _ v1 fun b hb o e=>up b o (fun q=>Z.d1.1 (q▸hb)) e) (D2.frame _ _ _ v2 fun b hb o e=>up b o (fun q=>Z.d2.1 (q▸hb)) e) T8 fun c o e1 e2 e3 e4 e=>up c o e1 (k5 c o e1 e2 e3 e4 e))⟩
 ·replace b1:Heap.SameBut z hp g1:=b1
  simp only[Bool.false_eq_true,if_false]
  refine wpAny_bind ?_;simp only[List.forIn_toArray,List.forIn_cons,List.forIn_nil]
  refine wpAny_bind (wpAny_bind (wpAny_holding ?_))
  show wpAny (model P w) _ (Builtin.SmallTypes.nextOf (.ref i1) >>= _) _ _ _
  refine wpAny_bind (D1.item k _ _ _ h1 (aA D1 t1 b1 Z.d1.1) fun x g2 tk2 px u1 b2=>wpAny_pure ?_)
  replace b2:Heap.SameBut i1 g1 g2:=b2
  refine wpAny_pure (wpAny_bind (wpAny_bind (wpAny_holding ?_)))
  show wpAny (model P w) _ (Builtin.SmallTypes.nextOf (.ref i2) >>= _) _ _ _
  refine wpAny_bind (D2.item k _ _ _ h2 (aA D2 (aA D2 t2 b1 Z.d2.1) b2 Z.d2.2.2) fun y g4 tk4 py u2 b4=>wpAny_pure ?_)
  replace b4:Heap.SameBut i2 g2 g4:=b4
  refine wpAny_pure (wpAny_pure (wpAny_bind (wpAny_newTuple (hsz:=by show 2≤sizeLine;rw[sizeLine_eq];decide) ?_)))
  have sz:g4.objs.size=hp.objs.size:=by rw[b4.1,b2.1,b1.1]
  have y4:cj g4 z TI TO f0 true:=b4.extBut _ _ Z.c4.symm (b2.extBut _ _ Z.c3.symm y1)
  have up:∀c o,g4.get? c=some o→(g4.push {cls:=.type "tuple",data:=.seq #[x,y]}).get? c=some o:=fun c o e=>Heap.get?_push_of_some _ e
  exact wpAny_pure ⟨_,rfl,wpAny_pure (q x y _ _ g4.objs.size _ _ px py sz (by rw[Heap.size_push,sz]) hf (up _ _ y4) ⟨_,_,up _ _ (b4.extBut _ _ Z.c9 (b2.extBut _ _ Z.c8 (b1.extBut _ _ Z.c2 hO)))⟩ (D1.frame _ _ _ (aA D1 u1 b4 Z.d1.2.2) fun b hb o e=>up b o e) (D2.frame _ _ _ u2 fun b hb o e=>up b o e) (Heap.get?_push_size _ rfl) fun c o e1 e2 e3 e4 e=>up c o (b4.extBut _ _ e4 (b2.extBut _ _ e3 (b1.extBut _ _ e1 e))))⟩
theorem mU {Q:Value→Shared→Prop} (hh:A.handled=none) (D1:Draws P w A.in1 i1 fp1 n1 P1 S1) (D2:Draws P w A.in1 i2 fp2 n2 P2 S2) (Z:ZApart z TI TO i1 i2 fp1 fp2) (hk:k=n1∨(k< n1∧k=n2)) (hf:jZ f0) (hz:cj s.heap z TI TO f0 f1)
  (hI:IsPair s.heap TI (.ref i1) (.ref i2)) (hO:IsPair s.heap TO a b) (t1:S1 k s.heap) (t2:S2 k s.heap)
  (q:∀h' tk e,(∀c o,c≠z→c≠TO→c≠i1→c≠i2→s.heap.get? c=some o→h'.get? c=some o)→(∃o,h'.get? e=some o∧o.cls=.type "StopIteration")→E (.ref e) {s with heap:=h',toks:=tk}):
  wpAny (model P w) A (Builtin.SmallTypes.nextOf (.ref z)) Q E s:=by
 have hT:s.TypeIs (.ref z) "zip" :=⟨_,hz,rfl⟩
 unfold Builtin.SmallTypes.nextOf
 refine wpAny_bind (wpAny_callSpecial?_slot (name:=Str.ofString "__next__") hT PySem.F.slot_zip_next (wpAny_call_entry PySem.F.slot_zip_next hT PySem.F.entry_zip_next ?_ (PySem.F.args_zip_next_1 _)))
 obtain⟨hp,gg,dd,tk0,os⟩:=s
 show wpAny (model P w) _ (field (.ref z) 2 >>= _) _ _ _
 refine wpAny_bind (wpAny_field hz rfl (x:=.bool false) rfl ?_)
 show wpAny (model P w) _ (field (.ref z) 3 >>= _) _ _ _
 refine wpAny_bind (wpAny_field hz rfl (x:=.ref TI) rfl (wpAny_bind (wpAny_seqItems hI rfl ?_)))
 show wpAny (model P w) _ (Builtin.SmallTypes.ownedTupleIsFree (.ref z) >>= _) _ _ _
 refine wpAny_bind (lW hz hf ?_ fun g1 y1 b1=>?_)
 ·simp only[if_true]
  refine wpAny_bind (wpAny_rule (wpAny_bind (wpAny_field hz rfl (x:=.ref TO) rfl (wpAny_bind (wpAny_setField_rec hz (by simp) fun g1 y1 b1=>?_)))))
  replace y1:cj g1 z TI TO .ellipsis f1:=y1
  replace b1:Heap.SameBut z hp g1:=b1
  refine wpAny_bind ?_;simp only[List.zipIdx_cons,List.zipIdx_nil,List.forIn_cons,List.forIn_nil]
  refine wpAny_bind (wpAny_bind (wpAny_onRaise ?_))
  show wpAny (model P w) _ (Builtin.SmallTypes.nextOf (.ref i1) >>= _) _ _ _
  rcases hk with hk | ⟨hk1,hk2⟩
  ·subst hk
   refine wpAny_bind (D1.done _ _ _ (aA D1 t1 b1 Z.d1.1) fun g2 e b2 he=>?_)
   obtain⟨oe,hoe,hce⟩:=he
   replace b2:Heap.ExtBut i1 g1 g2:=b2
   have y2:cj g2 z TI TO .ellipsis f1:=b2 _ _ Z.c3.symm y1
   have ez:e≠z:=fun x=>by subst x;rw[y2]at hoe;cases hoe;simp at hce
   refine wpAny_setField_rec y2 (by simp) fun g3 _ b3=>?_
   exact q g3 _ e (fun c o e1 _ e3 _ x=>b3.extBut _ _ e1 (b2 _ _ e3 (b1.extBut _ _ e1 x))) ⟨oe,b3.extBut _ _ ez hoe,hce⟩
  ·subst hk2
   refine wpAny_bind (D1.item k _ _ _ hk1 (aA D1 t1 b1 Z.d1.1) fun x g2 tk2 px u1 b2=>wpAny_pure ?_)
   replace b2:Heap.SameBut i1 g1 g2:=b2
   have O2:IsPair g2 TO a b:=b2.extBut _ _ Z.c8 (b1.extBut _ _ Z.c2 hO)
   refine wpAny_bind (wpAny_seqItems O2 rfl (wpAny_bind (wpAny_updateSeq_pair O2 fun g3 O3 b3=>?_)))
   replace b3:Heap.SameBut TO g2 g3:=b3
   refine wpAny_bind (wpAny_letGo (wpAny_pure (wpAny_bind (wpAny_bind (wpAny_onRaise ?_)))))
   show wpAny (model P w) _ (Builtin.SmallTypes.nextOf (.ref i2) >>= _) _ _ _
   refine wpAny_bind (D2.done _ _ _ (aA D2 (aA D2 (aA D2 t2 b1 Z.d2.1) b2 Z.d2.2.2) b3 Z.d2.2.1) fun g4 e b4 he=>?_)
   obtain⟨oe,hoe,hce⟩:=he
   replace b4:Heap.ExtBut i2 g3 g4:=b4
   have y4:cj g4 z TI TO .ellipsis f1:=b4 _ _ Z.c4.symm (b3.extBut _ _ Z.c2.symm (b2.extBut _ _ Z.c3.symm y1))
   have ez:e≠z:=fun x=>by subst x;rw[y4]at hoe;cases hoe;simp at hce
   refine wpAny_setField_rec y4 (by simp) fun g5 _ b5=>?_
   exact q g5 _ e (fun c o e1 e2 e3 e4 x=>b5.extBut _ _ e1 (b4 _ _ e4 (b3.extBut _ _ e2 (b2.extBut _ _ e3 (b1.extBut _ _ e1 x))))) ⟨oe,b5.extBut _ _ ez hoe,hce⟩
 ·replace b1:Heap.SameBut z hp g1:=b1
  simp only[Bool.false_eq_true,if_false]
  refine wpAny_bind ?_;simp only[List.forIn_toArray,List.forIn_cons,List.forIn_nil]
  refine wpAny_bind (wpAny_bind (wpAny_holding ?_))
  show wpAny (model P w) _ (Builtin.SmallTypes.nextOf (.ref i1) >>= _) _ _ _
  rcases hk with hk | ⟨hk1,hk2⟩
  ·subst hk
   refine wpAny_bind (D1.done _ _ _ (aA D1 t1 b1 Z.d1.1) fun g2 e b2 he=>?_)
   replace b2:Heap.ExtBut i1 g1 g2:=b2
   exact q g2 _ e (fun c o e1 _ e3 _ x=>b2 _ _ e3 (b1.extBut _ _ e1 x)) he
  ·subst hk2
   refine wpAny_bind (D1.item k _ _ _ hk1 (aA D1 t1 b1 Z.d1.1) fun x g2 tk2 px u1 b2=>wpAny_pure ?_)
   replace b2:Heap.SameBut i1 g1 g2:=b2
   refine wpAny_pure (wpAny_bind (wpAny_bind (wpAny_holding ?_)))
   show wpAny (model P w) _ (Builtin.SmallTypes.nextOf (.ref i2) >>= _) _ _ _
   refine wpAny_bind (D2.done _ _ _ (aA D2 (aA D2 t2 b1 Z.d2.1) b2 Z.d2.2.2) fun g4 e b4 he=>?_)
   replace b4:Heap.ExtBut i2 g2 g4:=b4
   exact q g4 _ e (fun c o e1 e2 e3 e4 x=>b4 _ _ e4 (b2.extBut _ _ e3 (b1.extBut _ _ e1 x))) he
theorem lh {e:Addr} {old:Value} {Q:Option Value→Shared→Prop} (D1:Draws P w A.in1.in1 i1 fp1 n1 P1 S1) (D2:Draws P w A.in1.in1 i2 fp2 n2 P2 S2) (Z:ZApart z TI TO i1 i2 fp1 fp2) (h1:k< n1) (h2:k< n2) (hf:jZ f0) (hz:cj s.heap z TI TO f0 f1)
  (hI:IsPair s.heap TI (.ref i1) (.ref i2)) (hO:IsPair s.heap TO a b) (t1:S1 k s.heap) (t2:S2 k s.heap) (he:IsEnum s.heap e z k old) (ne:e≠z∧e≠TO∧e≠i1∧e≠i2∧e≠TI) (nf:e∉fp1∧e∉fp2)
  (q:∀x y h' tk f0' f1',P1 k x→P2 k y→jZ f0'→cj h' z TI TO f0' f1'→(∃a b,IsPair h' TO a b)→S1 (k+1) h'→S2 (k+1) h'→IsPair h' s.heap.objs.size x y→
   IsEnumOut h' e z ((k:Int)+1) (.ref s.heap.objs.size) (s.heap.objs.size+1)→h'.get? (s.heap.objs.size+1)=some {cls:=.type "tuple",data:=.seq #[.int k tk,.ref s.heap.objs.size]}→
   (∀c o,c≠e→c≠z→c≠TO→c≠i1→c≠i2→s.heap.get? c=some o→h'.get? c=some o)→Q (some (.ref (s.heap.objs.size+1))) {s with heap:=h',toks:=tk+1}):
  wpAny (model P w) A (pyNext (.ref e)) Q E s:=by
 have hT:s.TypeIs (.ref e) "enumerate" :=⟨_,he,rfl⟩
 unfold pyNext
 refine wpAny_bind (wpAny_attempt (wpAny_callSpecial?_slot (name:=Str.ofString "__next__") hT PySem.F.slot_enumerate_next (wpAny_call_entry PySem.F.slot_enumerate_next hT PySem.F.entry_enumerate_next ?_ (PySem.F.args_enumerate_next_1 _))))
 obtain⟨hp,g,d,tk0,os⟩:=s
 show wpAny (model P w) _ (field (.ref e) 2 >>= _) _ _ _
 refine wpAny_bind (wpAny_field he rfl (x:=.ref z) rfl ?_)
 refine wpAny_bind (lg (A:=A.in1) D1 D2 Z h1 h2 hf hz hI hO t1 t2 fun x y h₁ tk T f0' f1' px py hTT sz1 zo hz1 hO1 w1 w2 hp1 kp1=>?_)
 have hTT':T=hp.objs.size:=hTT
 subst hTT'
 have he₁:IsEnum h₁ e z k old:=kp1 _ _ ne.1 ne.2.1 ne.2.2.1 ne.2.2.2.1 he
 show wpAny _ _ (field (.ref e) 3 >>= _) _ _ _
 refine wpAny_bind (wpAny_field he₁ rfl (x:=rawInt k) rfl ?_)
 show wpAny _ _ (field (.ref e) 4 >>= _) _ _ _
 refine wpAny_bind (wpAny_field he₁ rfl (x:=.none) rfl ?_)
 show wpAny _ _ (mkInt k >>= _) _ _ _
 refine wpAny_bind (wpAny_mkInt ?_)
 show wpAny _ _ (setField (.ref e) 3 (rawInt ((k:Int)+1)) >>= _) _ _ _
 refine wpAny_bind (wpAny_setField_rec he₁ (by simp) fun h₂ he₂ hs₂=>?_)
 replace hs₂:Heap.SameBut e h₁ h₂:=hs₂
 replace he₂:IsEnum h₂ e z ((k:Int)+1) old:=he₂
 show wpAny _ _ (setField (.ref e) 4 .none >>= _) _ _ _
 refine wpAny_bind (wpAny_setField_rec he₂ (by simp) fun h₃ he₃ hs₃=>?_)
 replace hs₃:Heap.SameBut e h₂ h₃:=hs₃
 replace he₃:IsEnum h₃ e z ((k:Int)+1) old:=he₃
 show wpAny _ _ (newTuple [.int k tk,.ref hp.objs.size] >>= _) _ _ _
 refine wpAny_bind (wpAny_newTuple ?_)
 have he₄:IsEnum (h₃.push {cls:=.type "tuple",data:=.seq #[.int k tk,.ref hp.objs.size]}) e z ((k:Int)+1) old:=Heap.get?_push_of_some _ he₃
 generalize hh₄:h₃.push {cls:=.type "tuple",data:=.seq #[.int k tk,.ref hp.objs.size]} =h₄ at he₄
 have hsz:h₃.objs.size=hp.objs.size+1:=by rw[hs₃.1,hs₂.1];exact sz1
 have hel:e< hp.objs.size:=Heap.lt_size he
 have hne:hp.objs.size+1≠e:=fun q=>by rw[←q]at hel;exact absurd hel (Nat.not_lt.mpr (Nat.le_succ _))
 have ht₄:h₄.get? (hp.objs.size+1)=some {cls:=.type "tuple",data:=.seq #[.int k tk,.ref hp.objs.size]} :=by rw[←hh₄,←hsz];exact Heap.get?_push_size _ rfl
 have up4:∀c o,c≠e→h₁.get? c=some o→h₄.get? c=some o:=fun c o hc y=>by
  rw[←hh₄];exact Heap.get?_push_of_some _ (hs₃.extBut c o hc (hs₂.extBut c o hc y))
 show wpAny _ _ (Builtin.SmallTypes.ownedTupleIsFree (.ref e) >>= _) _ _ _
 rw[hsz]
 refine wpAny_bind ?_
 unfold Builtin.SmallTypes.ownedTupleIsFree
 refine wpAny_bind (wpAny_field he₄ rfl (x:=.none) rfl (wpAny_pure ?_))
 simp only[if_true]
 refine wpAny_bind (wpAny_rule ?_)
 refine wpAny_bind (wpAny_field he₄ rfl (x:=old) rfl ?_)
 refine wpAny_bind (wpAny_setField_rec he₄ (by simp) fun h₅ he₅ hs₅=>?_)
 replace hs₅:Heap.SameBut e h₄ h₅:=hs₅
 replace he₅:IsEnum h₅ e z ((k:Int)+1) (.ref hp.objs.size):=he₅
 show wpAny _ _ (Builtin.SmallTypes.ownedTupleHandOut (.ref e) (.ref (hp.objs.size+1)) >>= _) _ _ _
 refine wpAny_bind ?_
 unfold Builtin.SmallTypes.ownedTupleHandOut
 refine wpAny_bind (wpAny_setField_rec he₅ (by simp) fun h₆ he₆ hs₆=>?_)
 replace hs₆:Heap.SameBut e h₅ h₆:=hs₆
 replace he₆:IsEnumOut h₆ e z ((k:Int)+1) (.ref hp.objs.size) (hp.objs.size+1):=he₆
 refine wpAny_setField_rec he₆ (by simp) fun h₇ he₇ hs₇=>?_
 replace hs₇:Heap.SameBut e h₆ h₇:=hs₇
 replace he₇:IsEnumOut h₇ e z ((k:Int)+1) (.ref hp.objs.size) (hp.objs.size+1):=he₇
 have up:∀c o,c≠e→h₁.get? c=some o→h₇.get? c=some o:=fun c o hc y=>hs₇.extBut c o hc (hs₆.extBut c o hc (hs₅.extBut c o hc (up4 c o hc y)))
 refine wpAny_bind (wpAny_letGo (wpAny_pure ⟨_,rfl,wpAny_pure (q x y h₇ tk _ _ px py zo (up _ _ (Ne.symm ne.1) hz1) ?_ ?_ ?_ (up _ _ (Nat.ne_of_gt hel) hp1) he₇ ?_ ?_)⟩))
 ·obtain⟨a',b',hab⟩:=hO1;exact⟨a',b',up _ _ (Ne.symm ne.2.1) hab⟩
 ·exact D1.frame _ _ _ w1 fun b hb o y=>up b o (fun q=>nf.1 (q▸hb)) y
 ·exact D2.frame _ _ _ w2 fun b hb o y=>up b o (fun q=>nf.2 (q▸hb)) y
 ·exact hs₇.extBut _ _ hne (hs₆.extBut _ _ hne (hs₅.extBut _ _ hne ht₄))
 ·exact fun c o n1 n2 n3 n4 n5 y=>up c o n1 (kp1 c o n2 n3 n4 n5 y)
theorem mV {e:Addr} {old:Value} {i:Int} {Q:Option Value→Shared→Prop} (hh:A.handled=none) (D1:Draws P w A.in1.in1 i1 fp1 n1 P1 S1) (D2:Draws P w A.in1.in1 i2 fp2 n2 P2 S2) (Z:ZApart z TI TO i1 i2 fp1 fp2) (hk:k=n1∨(k< n1∧k=n2)) (hf:jZ f0) (hz:cj s.heap z TI TO f0 f1)
  (hI:IsPair s.heap TI (.ref i1) (.ref i2)) (hO:IsPair s.heap TO a b) (t1:S1 k s.heap) (t2:S2 k s.heap) (he:IsEnum s.heap e z i old)
  (q:∀h' tk,(∀c o,c≠z→c≠TO→c≠i1→c≠i2→s.heap.get? c=some o→h'.get? c=some o)→Q none {s with heap:=h',toks:=tk}):
  wpAny (model P w) A (pyNext (.ref e)) Q E s:=by
 have hT:s.TypeIs (.ref e) "enumerate" :=⟨_,he,rfl⟩
 unfold pyNext
 refine wpAny_bind (wpAny_attempt (wpAny_callSpecial?_slot (name:=Str.ofString "__next__") hT PySem.F.slot_enumerate_next (wpAny_call_entry PySem.F.slot_enumerate_next hT PySem.F.entry_enumerate_next ?_ (PySem.F.args_enumerate_next_1 _))))
 show wpAny (model P w) _ (field (.ref e) 2 >>= _) _ _ _
 refine wpAny_bind (wpAny_field he rfl (x:=.ref z) rfl ?_)
 refine wpAny_bind (mU (A:=A.in1) hh D1 D2 Z hk hf hz hI hO t1 t2 fun h' tk x kp hx=>?_)
 obtain⟨o,ho,hc⟩:=hx
 exact wpAny_bind (wpAny_isInstance (T:="StopIteration") (b:=true) ⟨o,ho,hc⟩ isSubtype_stop (wpAny_pure (q _ _ kp)))
end
open AutoSeq1 (wpAny_loadPart')in
theorem eS (z TI TO:Addr):
  Meets (Builtin.«enumerate.__new__» ⟨[.type "enumerate",.ref z],[]⟩) (fun _ R s=>IsZip s.heap z TI TO .none∧
   R (.ok (.ret (.ref s.heap.objs.size))) {s with heap:=s.heap.push {cls:=.type "enumerate",data:=.fields #[.none,.bool false,.ref z,rawInt 0,.none,.none]}}):=
 .of_wp fun prog w A R s h=>by
  obtain⟨hp,g,d,tk,os⟩:=s;obtain⟨hl,h⟩:=h
  have hsub:=sub_enumerate
  have hL:IsZip (Shared.heap ⟨hp,g,d,tk,os⟩) z TI TO .none:=hl
  wp_walk using wpAny_loadPart' hl
  refine wpAny_stack_any fun st=>wpAny_pure ?_
  split
  ·rename_i c _ _ _ _ _
   cases (c == Value.type "enumerate")
   ·wp_walk using wpAny_loadPart' hl,wpAny_pyIter_zip hL
    exact⟨_,rfl,h⟩
   ·wp_walk using wpAny_loadPart' hl,wpAny_pyIter_zip hL
    exact⟨_,rfl,h⟩
  ·wp_walk using wpAny_loadPart' hl,wpAny_pyIter_zip hL
   exact⟨_,rfl,h⟩
theorem fg {P:Program} {w:World} {A:Around} {E:Value→Shared→Prop} {s:Shared} {z TI TO:Addr} {Q:Value→Shared→Prop} (hz:IsZip s.heap z TI TO .none)
  (h:∀h',IsEnum h' s.heap.objs.size z 0 .none→(∀b o,s.heap.get? b=some o→h'.get? b=some o)→Q (.ref s.heap.objs.size) {s with heap:=h'}):
  wpAny (model P w) A (call (.type "enumerate") [.ref z]) Q E s:=by
 refine callType_new PySem.F.called_enumerate (by decide) (PySem.F.typeCall_enumerate_1 _) (PySem.F.newCall_enumerate_1 _) (fun obj=>PySem.F.args_object_init_2 obj _) PySem.F.entry_enumerate_new (eS z TI TO) ⟨hz,?_⟩
 show _∧_
 have he:IsEnum (s.heap.push {cls:=.type "enumerate",data:=.fields #[.none,.bool false,.ref z,rawInt 0,.none,.none]}) s.heap.objs.size z 0 .none:=Heap.get?_push_size _ rfl
 exact⟨⟨_,he,rfl⟩,h _ he fun b o x=>Heap.get?_push_of_some _ x⟩
def uw (K:PySem.W.Frag) (c1 c2:Src):It:=
  ⟨fun i H=>∃xs ys x y,c1.has K H xs∧c2.has K H ys∧xs[i]? =some x∧ys[i]? =some y,
   fun i H v H'=>∃p q x y,H p=none∧H q=none∧p≠q∧v=.ref q∧(∀xs,c1.has K H xs→xs[i]? =some x)∧(∀ys,c2.has K H ys→ys[i]? =some y)∧H'=bu (bu H p (.tup [x,y])) q (.tup [.int i,.ref p]),
   fun i H=>∃xs ys,c1.has K H xs∧c2.has K H ys∧(i=xs.length∨(i< xs.length∧i=ys.length))⟩
def vS (c1 c2:Src) (e z TI TO i1 i2:Addr) (i:Nat) (h:Heap):Prop:=(∃old,IsEnum h e z i old)∧(∃f0 f1,jZ f0∧cj h z TI TO f0 f1)∧IsPair h TI (.ref i1) (.ref i2)∧(∃a b,IsPair h TO a b)∧c1.at i1 i h∧c2.at i2 i h
theorem li {P:Program} {w:World} {K:PySem.W.Frag} {elts:List Expr} {kk:Nat} {tp:Pos} (c1 c2:Src) (e z TI TO i1 i2:Addr) (Z:ZIds z TI TO i1 i2) (ne:e≠z∧e≠TO∧e≠i1∧e≠i2∧e≠TI):
  Turn P w K (.Tuple elts kk tp) (uw K c1 c2) [e,z,TI,TO,i1,i2] e (vS c1 c2 e z TI TO i1 i2) where
 mem:=by simp
 obj:=fun i h st b hb=>by
  obtain⟨⟨old,he⟩,⟨f0,f1,zo,hz⟩,hI,⟨a,b',hO⟩,t1,t2⟩:=st
  obtain⟨o1,e1,v1,d1⟩:=Src.at_obj t1
  obtain⟨o2,e2,v2,d2⟩:=Src.at_obj t2
  simp only[List.mem_cons,List.not_mem_nil,or_false]at hb
  rcases hb with rfl | rfl | rfl | rfl | rfl | rfl
  ·exact⟨_,he,fun v q=>by cases (show Data.fields _=Data.cell v from q)⟩
  ·exact⟨_,hz,fun v q=>by cases (show Data.fields _=Data.cell v from q)⟩
  ·exact⟨_,hI,fun v q=>by cases (show Data.seq _ _=Data.cell v from q)⟩
  ·exact⟨_,hO,fun v q=>by cases (show Data.seq _ _=Data.cell v from q)⟩
  ·exact⟨_,e1,fun v q=>by rw[d1]at q;cases q⟩
  ·exact⟨_,e2,fun v q=>by rw[d2]at q;cases q⟩
 keep:=fun i h h' st k=>by
  obtain⟨⟨old,he⟩,⟨f0,f1,zo,hz⟩,hI,⟨a,b',hO⟩,t1,t2⟩:=st
  exact⟨⟨old,k e (by simp) _ he⟩,⟨f0,f1,zo,k z (by simp) _ hz⟩,k TI (by simp) _ hI,⟨a,b',k TO (by simp) _ hO⟩,Src.at_keep t1 (k i1 (by simp)),Src.at_keep t2 (k i2 (by simp))⟩
 item:=by
  intro X hP hw hK hc i pins s σ H E I hf st hg
  subst hP hw hK
  obtain⟨xs,ys,x,y,hx,hy,ex,ey⟩:=hg
  obtain⟨⟨old,he⟩,⟨f0,f1,zo,hz⟩,hI,⟨a,b',hO⟩,t1,t2⟩:=st
  have hh:X.A.in1.in1.handled=none:=I.ok.hd hc
  obtain⟨fp1,P1,S1,D1,u1,r1,a1,_,g1⟩:=Src.draws (A:=X.A.in1.in1) hh I hx t1 (hf i1 (by simp)).1
  obtain⟨fp2,P2,S2,D2,u2,r2,a2,_,g2⟩:=Src.draws (A:=X.A.in1.in1) hh I hy t2 (hf i2 (by simp)).1
  have ZA:=j7 I Z (fun b hb=>hf b (List.mem_cons_of_mem _ hb)) g1 g2
  have no:¬(H e≠none∨∃o,X.base.get? e=some o):=fun q=>by
   rcases q with q | ⟨o,q⟩
   ·exact q (hf e (by simp)).1
   ·rcases (hf e (by simp)).2.2.2.1 with y | y
    ·exact I.ok.noex e o q y
    ·exact absurd (Nat.lt_of_lt_of_le (Nat.lt_of_lt_of_le (Heap.lt_size q) I.ok.bsz) y) (Nat.lt_irrefl _)
  refine lh D1 D2 ZA (List.getElem?_eq_some_iff.mp ex).1 (List.getElem?_eq_some_iff.mp ey).1 zo hz hI hO u1 u2 he ne ⟨fun m=>(g1 _ m).elim (fun q=>ne.2.2.1 q) no,fun m=>(g2 _ m).elim (fun q=>ne.2.2.2.1 q) no⟩ fun vx vy h' tk f0' f1' px py zo' hz' hO' w1 w2 hTp ho hT1 kp=>?_
  obtain⟨x',ex',rx⟩:=r1 i vx px
  obtain⟨y',ey',ry⟩:=r2 i vy py
  rw[ex]at ex';cases ex'
  rw[ey]at ey';cases ey'
  have nT:H s.heap.objs.size=none:=I.hok.fresh (Nat.le_refl _)
  have nT1:H (s.heap.objs.size+1)=none:=I.hok.fresh (Nat.le_succ _)
  have nTT:s.heap.objs.size≠s.heap.objs.size+1:=Nat.ne_of_lt (Nat.lt_succ_self _)
  refine⟨_,rfl,wpAny_letOwnedTupleGo_enum ho fun h2 he2 sb=>?_⟩
  have lt:∀{c o},s.heap.get? c=some o→c≠s.heap.objs.size:=fun e=>Nat.ne_of_lt (Heap.lt_size e)
  have lt1:∀{c o},s.heap.get? c=some o→c≠s.heap.objs.size+1:=fun e=>Nat.ne_of_lt (Nat.lt_succ_of_lt (Heap.lt_size e))
  have up:∀c o,c≠e→h'.get? c=some o→h2.get? c=some o:=fun c o hc q=>(sb.2 c hc).trans q
  have kp2:∀b o,b∉[e,z,TO,i1,i2]→s.heap.get? b=some o→h2.get? b=some o:=fun b o hb q=>by
   simp only[List.mem_cons,List.not_mem_nil,or_false,not_or]at hb
   exact up b o hb.1 (kp b o hb.1 hb.2.1 hb.2.2.1 hb.2.2.2.1 hb.2.2.2.2 q)
  have ch:∀b∈[e,z,TO,i1,i2],b∈[e,z,TI,TO,i1,i2]:=fun b hb=>by
   simp only[List.mem_cons,List.not_mem_nil,or_false]at hb ⊢
   rcases hb with h | h | h | h | h <;> simp[h]
  have fb:∀b u,H b=some u→b∉[e,z,TO,i1,i2]∧b≠s.heap.objs.size∧b≠s.heap.objs.size+1:=fun b u q=>⟨fun hb=>(by rw[(hf b (ch b hb)).1]at q;cases q),fun z=>(by rw[z,nT]at q;cases q),fun z=>(by rw[z,nT1]at q;cases q)⟩
  have U:∀b u,H b=some u→bu (bu H s.heap.objs.size (.tup [x,y])) (s.heap.objs.size+1) (.tup [.int i,.ref s.heap.objs.size]) b=some u:=fun b u q=>by rw[ah (fb b _ q).2.2,ah (fb b _ q).2.1];exact q
  have hne:∀{o},s.heap.get? e=some o→s.heap.objs.size≠e∧s.heap.objs.size+1≠e:=fun q=>⟨(lt q).symm,(lt1 q).symm⟩
  have I2:Inv X pins σ (bu (bu H s.heap.objs.size (.tup [x,y])) (s.heap.objs.size+1) (.tup [.int i,.ref s.heap.objs.size])) {s with heap:=h2,gens:=s.gens,drawn:=s.drawn,toks:=tk+1} :=by
   refine I.step (g':=s.gens) (d':=s.drawn) (t':=tk+1) (ch:=[e,z,TO,i1,i2]) (fun b hb=>⟨(hf b (ch b hb)).2.2.2.1,(hf b (ch b hb)).2.1,(hf b (ch b hb)).2.2.2.2.1,(hf b (ch b hb)).2.2.2.2.2⟩) (fun b o _ _ hb e _=>kp2 b o hb e) (fun b o _ _ hb e _=>⟨o.slots,kp2 b o hb e⟩)
    (fun b o hb e n=>by rw[ah (lt1 e),ah (lt e)];exact n) (fun b o hb e=>⟨o,kp2 b o hb e⟩) (fun b xs q=>U b _ q) (fun b o u q=>U b _ q) (fun b ps q=>⟨#[],by rw[U b _ q];simp⟩) (fun m hm=>?_) (fun b u q=>?_) I.bare
   ·obtain⟨o,es,ep,ho,r⟩:=hm
    exact⟨o,es,ep,kp2 _ o (fun hb=>(hf _ (ch _ hb)).2.1 rfl) ho,r⟩
   ·by_cases hb:b=s.heap.objs.size+1
    ·subst hb
     rw[ak]at q;cases q
     exact⟨(by show 2≤sizeLine;rw[sizeLine_eq];decide),[.int i tk,.ref s.heap.objs.size],.cons ⟨_,rfl⟩ (.cons rfl .nil),⟨_,up _ _ (hne he).2 hT1,rfl,_,rfl⟩⟩
    ·rw[ah hb]at q
     by_cases hb2:b=s.heap.objs.size
     ·subst hb2
      rw[ak]at q;cases q
      exact⟨(by show 2≤sizeLine;rw[sizeLine_eq];decide),[vx,vy],.cons rx (.cons ry .nil),⟨_,up _ _ (hne he).1 hTp,rfl,_,rfl⟩⟩
     ·rw[ah hb2]at q
      refine(I.hok b u q).stay (fun c v hc z=>kp2 c v ?_ z) (fun c z=>U c _ z) fun c xs z=>U c _ z
      rcases hc with z | z
      ·rw[z];exact(fb b u q).1
      ·exact(fb c _ z).1
  refine⟨.ref (s.heap.objs.size+1),_,I2,rfl,⟨s.heap.objs.size,_,x,y,nT,nT1,nTT,rfl,fun xs' h=>by rw[Src.inj I h hx];exact ex,fun ys' h=>by rw[Src.inj I h hy];exact ey,rfl⟩,⟨⟨_,by simpa using he2⟩,⟨_,_,zo',up _ _ (Ne.symm ne.1) hz'⟩,up _ _ (Ne.symm ne.2.2.2.2) (kp _ _ (Ne.symm ne.2.2.2.2) Z.c1 Z.c5 Z.c6 Z.c7 hI),?_,Src.at_keep (a1 _ _ w1) fun o q=>up _ o (Ne.symm ne.2.2.1) q,Src.at_keep (a2 _ _ w2) fun o q=>up _ o (Ne.symm ne.2.2.2.1) q⟩,fun b hb=>?_⟩
  ·obtain⟨a',b',hab⟩:=hO';exact⟨a',b',up _ _ (Ne.symm ne.2.1) hab⟩
  have hbT:∃o,s.heap.get? b=some o:=by
   obtain⟨o1,e1,_⟩:=Src.at_obj t1
   obtain⟨o2,e2,_⟩:=Src.at_obj t2
   simp only[List.mem_cons,List.not_mem_nil,or_false]at hb
   rcases hb with rfl | rfl | rfl | rfl | rfl | rfl
   ·exact⟨_,he⟩
   ·exact⟨_,hz⟩
   ·exact⟨_,hI⟩
   ·exact⟨_,hO⟩
   ·exact⟨_,e1⟩
   ·exact⟨_,e2⟩
  obtain⟨o,eo⟩:=hbT
  rw[ah (lt1 eo),ah (lt eo)]
  exact(hf b hb).1
 done:=by
  intro X hP hw hK hc i pins s σ H E I hf st hg
  subst hP hw hK
  obtain⟨xs,ys,hx,hy,hend⟩:=hg
  obtain⟨⟨old,he⟩,⟨f0,f1,zo,hz⟩,hI,⟨a,b',hO⟩,t1,t2⟩:=st
  have hh:X.A.in1.in1.handled=none:=I.ok.hd hc
  have hh1:X.A.handled=none:=I.ok.hd hc
  obtain⟨fp1,P1,S1,D1,u1,r1,a1,_,g1⟩:=Src.draws (A:=X.A.in1.in1) hh I hx t1 (hf i1 (by simp)).1
  obtain⟨fp2,P2,S2,D2,u2,r2,a2,_,g2⟩:=Src.draws (A:=X.A.in1.in1) hh I hy t2 (hf i2 (by simp)).1
  have ZA:=j7 I Z (fun b hb=>hf b (List.mem_cons_of_mem _ hb)) g1 g2
  have ch:∀b∈[z,TO,i1,i2],b∈[e,z,TI,TO,i1,i2]:=fun b hb=>by
   simp only[List.mem_cons,List.not_mem_nil,or_false]at hb ⊢
   rcases hb with h | h | h | h <;> simp[h]
  refine mV hh1 D1 D2 ZA hend zo hz hI hO u1 u2 he fun h2 tk kp=>⟨rfl,?_⟩
  have kp2:∀b o,b∉[z,TO,i1,i2]→s.heap.get? b=some o→h2.get? b=some o:=fun b o hb e=>by
   simp only[List.mem_cons,List.not_mem_nil,or_false,not_or]at hb
   exact kp b o hb.1 hb.2.1 hb.2.2.1 hb.2.2.2 e
  refine I.step (g':=s.gens) (d':=s.drawn) (t':=tk) (ch:=[z,TO,i1,i2]) (fun b hb=>⟨(hf b (ch b hb)).2.2.2.1,(hf b (ch b hb)).2.1,(hf b (ch b hb)).2.2.2.2.1,(hf b (ch b hb)).2.2.2.2.2⟩) (fun b o _ _ hb e _=>kp2 b o hb e) (fun b o _ _ hb e _=>⟨o.slots,kp2 b o hb e⟩)
   (fun b o hb e n=>n) (fun b o hb e=>⟨o,kp2 b o hb e⟩) (fun b xs e=>e) (fun b o u e=>e) (fun b ps e=>⟨#[],by rw[e];simp⟩) (fun m hm=>?_) (fun b u e=>?_) I.bare
  ·obtain⟨o,es,ep,ho,r⟩:=hm
   exact⟨o,es,ep,kp2 _ o (fun hb=>(hf _ (ch _ hb)).2.1 rfl) ho,r⟩
  ·have fb:∀b u,H b=some u→b∉[z,TO,i1,i2]:=fun b u e hb=>by rw[(hf b (ch b hb)).1]at e;cases e
   refine(I.hok b u e).stay (fun c v hc q=>kp2 c v ?_ q) (fun c q=>q) fun c xs q=>q
   rcases hc with q | q
   ·rw[q];exact fb b u e
   ·exact fb c _ q
 self:=fun _ _ _ _ _ st h=>by obtain⟨⟨old,he⟩,_⟩:=st;exact wpAny_pyIter_enum he h
def oZ (K:PySem.W.Frag) (t:TA):TI:=fun σ H R=>t σ H fun vs H1=>∃c1 c2 xs ys,vs=[c1.val,c2.val]∧c1.has K H1 xs∧c2.has K H1 ys∧R (uw K c1 c2) H1
theorem k6 {X:Cx} {K:PySem.W.Frag} (hK:X.K=K) {a b:Expr} {ta:TA} {p p2 pos pos2 tp:Pos} {elts:List Expr} {kk:Nat} (hg:Gl X "enumerate") (hm:X.mg "enumerate" =none) (hg2:Gl X "zip") (hm2:X.mg "zip" =none) (ha:PA X [a,b] ta)
  (hs0:starEach [.Call (.Name "zip" p2) [a,b] [] pos2] X.env=[(false,eval (.Call (.Name "zip" p2) [a,b] [] pos2) X.env)]:=by rfl)
  (hs:starEach [a,b] X.env=[(false,eval a X.env),(false,eval b X.env)]:=by rfl) (hs2:starEach [b] X.env=[(false,eval b X.env)]:=by rfl):
  PI X (.Tuple elts kk tp) (.Call (.Name "enumerate" p) [.Call (.Name "zip" p2) [a,b] [] pos2] [] pos) (oZ K ta):=by
 subst hK
 intro pins s σ H R I h
 refine Call_ (eL I hg hm boot_enumerate (PyProof.Rows.callWith_type1 ?_ hs0 rfl))
 rw[hs0]
 show wpAny _ _ (spliced ((false,eval (.Call (.Name "zip" p2) [a,b] [] pos2) X.env):: [])) _ _ s
 refine Calls.spliced_cons ?_
 refine Call_ (eL I hg2 hm2 boot_zip (PyProof.Rows.callWith_type1 (bO (ha pos2 pins s σ H _ I h) fun us s1 ⟨vs,H1,I1,r1,q1⟩=>?_) (by rw[hs,hs2]) (by rw[hs2];rfl)))
 obtain⟨c1,c2,xs,ys,e,h1,h2,q⟩:=q1
 subst e
 obtain⟨v1,v2,rfl,ra,rb⟩:=ii r1
 obtain⟨o1,i1,f1,n1⟩:=Src.iter I1 h1 ra fun _ _ e=>e
 obtain⟨o2,i2,f2,n2⟩:=Src.iter (h:=s1.heap.push o1) I1 h2 rb fun _ _ e=>Heap.get?_push_of_some _ e
 have z1:(s1.heap.push o1).objs.size=s1.heap.objs.size+1:=Heap.size_push ..
 rw[z1]at n2
 refine iu i1 i2 f1 f2 fun h' hz hI hO e1 e2 kp=>?_
 refine Calls.spliced_nil ?_
 refine fg (s:={s1 with heap:=h'}) hz fun h'' he kp2=>?_
 refine wpAny_pyIter_enum he ?_
 have zi:∀n:Nat,ZIds (n+4) (n+2) (n+3) n (n+1):=fun n=>⟨(i3 n 2 4 (by decide)),(i3 n 3 4 (by decide)),(i3 n 0 4 (by decide)),(i3 n 1 4 (by decide)),(i3 n 2 3 (by decide)),(i3 n 2 0 (by decide)),(i3 n 2 1 (by decide)),(i3 n 3 0 (by decide)),(i3 n 3 1 (by decide)),(i3 n 0 1 (by decide))⟩
 have gt:∀{c o},h'.get? c=some o→h'.objs.size≠c:=fun x=>Nat.ne_of_gt (Heap.lt_size x)
 refine⟨h'.objs.size,[h'.objs.size,s1.heap.objs.size+4,s1.heap.objs.size+2,s1.heap.objs.size+3,s1.heap.objs.size,s1.heap.objs.size+1],_,_,H1,rfl,I1.kept (t':=s1.toks) (fun b o x=>kp2 b o (kp b o x)),li c1 c2 _ _ _ _ _ _ (zi s1.heap.objs.size) ⟨gt hz,gt hO,gt e1,gt e2,gt hI⟩,⟨⟨_,he⟩,⟨_,_,.inl rfl,kp2 _ _ hz⟩,kp2 _ _ hI,⟨_,_,kp2 _ _ hO⟩,n1 h'' (kp2 _ _ e1),n2 h'' (kp2 _ _ e2)⟩,fun b hb=>?_,q⟩
 have hb':s1.heap.objs.size≤b:=by
  simp only[List.mem_cons,List.not_mem_nil,or_false]at hb
  rcases hb with z | z | z | z | z | z <;> rw[z]
  ·exact Nat.le_of_lt (Heap.lt_size e1)
  ·exact Nat.le_add_right _ 4
  ·exact Nat.le_add_right _ 2
  ·exact Nat.le_add_right _ 3
  ·exact Nat.le_refl _
  ·exact Nat.le_add_right _ 1
 exact I1.fpOk hb' (I1.hok.fresh hb')
end L2
namespace Wb
open PySem L2 Mi
variable {Er:Nat→Prop}
section
variable {α β γ:Type} {K:PySem.W.Frag} {σ:L2.St} {W:Wd}
theorem k7 {t1 t2:TE} {R1:Rp α} {R2:Rp β} [Mono R1] [Mono R2] {m1:Res (List α)} {m2:Res (List β)} (h1:SV Er t1 σ W K R1 m1) (h2:SV Er t2 σ W K R2 m2):IV Er (oZ K (aj t1 (aj t2 aX))) σ W (isT2 K isI (isT2 K R1 R2)) (m1.bind fun xs=>m2.bind fun ys=>.ok (cJ (xs.zip ys))):=fun W1 e1 P k=>
 h1 W1 e1 _ ((Res.okE_bind k).imp fun xs kx v W2 e2 hv=>h2 W2 (e1.trans e2) _ ((Res.okE_bind kx).imp fun ys ky u W3 e3 hu=>by
  obtain⟨c1,vs,rfl,a1,b1⟩:=SrcR.mono hv e3.g
  obtain⟨c2,us,rfl,a2,b2⟩:=hu
  refine⟨c1,c2,vs,us,rfl,a1 W3 (.refl _),a2 W3 (.refl _),ky _ W3 (e2.trans e3) fun W4 e4=>⟨fun i ab hab=>?_,?_⟩⟩
  ·obtain⟨hi,hz⟩:=jP hab
   rw[List.getElem?_zip_eq_some]at hz
   obtain⟨x,hx,rx⟩:=b1.get hz.1
   obtain⟨y,hy,ry⟩:=b2.get hz.2
   refine⟨⟨vs,us,x,y,a1 W4 e4,a2 W4 e4,hx,hy⟩,fun z H' ⟨p,q,x',y',hp,hq,hpq,z0,z1,z2,z3⟩=>?_⟩
   have hq':(W4.new p (.tup [x',y'])).H q=none:=by show bu W4.H p _ q=none;rw[ah (Ne.symm hpq)];exact hq
   have E1:Ext W4 (W4.new p (.tup [x',y'])):=.new _ hp
   have E2:Ext (W4.new p (.tup [x',y'])) ((W4.new p (.tup [x',y'])).new q (.tup [.int i,.ref p])):=.new _ hq'
   refine⟨(W4.new p (.tup [x',y'])).new q (.tup [.int i,.ref p]),by rw[z3];rfl,E1.trans E2,q,_,.ref p,z0,SqT.of ak,by rw[hi];rfl,p,x',y',rfl,SqT.of ?_,?_,?_⟩
   ·show bu (bu W4.G p _) q _ p=_;rw[ah hpq,ak]
   ·have:=z1 vs (a1 W4 e4);rw[hx]at this;cases this
    exact Mono.mono (e4.trans (E1.trans E2).g) rx
   ·have:=z2 us (a2 W4 e4);rw[hy]at this;cases this
    exact Mono.mono (e4.trans (E1.trans E2).g) ry
  ·refine⟨vs,us,a1 W4 e4,a2 W4 e4,?_⟩
   rw[jQ,List.length_zip,b1.1,b2.1]
   omega))
end
end Wb
namespace Mi
inductive Dat where
 | n | b (x:Bool) | i (x:Int) | s (x:Tx) | t (xs:List Dat) | l (xs:List Dat)
noncomputable instance zkeep38:DecidableEq Dat:=fun _ _=>Classical.propDecidable _
def Dat.le:Nat→Dat→Prop
 | 0,d=>match d with | .t _=>False | .l _=>False | _=>True
 | k+1,d=>match d with | .t xs=>∀x∈xs,Dat.le k x | .l xs=>∀x∈xs,Dat.le k x | _=>True
open Classical in
noncomputable def ux (a b:Dat):Res Bool:=if a=b∧a.le 24 then .ok true else .stuck
theorem p0 {a b:Dat} (h:a=b) (hl:a.le 24):ux a b=.ok true:=if_pos ⟨h,hl⟩
def mW (d:Dat) (i:Int):Res Dat:=match d with | .t xs=>ix (q9 xs i) | _=>.stuck
def cU (k:Nat) (d:Dat):Bool:=match d,k with
 | .b _,0=>true | .b _,1=>true | .i _,1=>true | .s _,2=>true | .l _,3=>true | .t _,4=>true | _,_=>false
def uY:Dat→Option Int | .i x=>some x | _=>none
def uy:Dat→Option Tx | .s x=>some x | _=>none
def qN {κ α:Type} [DecidableEq κ] (kvs:List (κ×α)) (k:κ) (a:α):List (κ×α):=
 if(kvs.any fun kv=>decide (kv.1=k))=true then kvs.map (fun kv=>if kv.1=k then(kv.1,a)else kv)else kvs++ [(k,a)]
def qO {κ α:Type} [DecidableEq κ] (kvs:List (κ×α)) (k:κ) (a:α):Res (List (κ×α)):=dG (kvs.length< cap) (qN kvs k a)
def rW {α:Type} (kvs:List (Int×α)):Res (List Int):=dG (kvs.length< 64) (eQ (kvs.map (·.1)))
theorem wy {α:Type} {a:α} {Er:Nat→Prop} {P:α→Prop} (h:P a):(Res.ok a).OkE Er P:=h
end Mi
namespace PySem
open Sem (wp)
open AutoSeq1 (wpAny_loadPart')
abbrev k8 (a:Addr):Obj:={cls:=.type "tuple_iterator",data:=.fields #[.ref a,.int 0 0]}
abbrev sS (j:Addr):Obj:={cls:=.type "enumerate",data:=.fields #[.none,.bool false,.ref j,rawInt 0,.none,.none]}
theorem gV (a:Addr) (us:Array Value) (k:Nat) (dc:Option Addr) (so:Array (Option Value)):
  Meets (Builtin.«enumerate.__new__» ⟨[.type "enumerate",.ref a],[]⟩) (fun _ R s=>s.heap.get? a=some {cls:=.type "tuple",dict:=dc,data:=.seq us k,slots:=so}∧
   R (.ok (.ret (.ref (s.heap.push (k8 a)).objs.size))) {s with heap:=(s.heap.push (k8 a)).push (sS s.heap.objs.size)}):=
 .of_wp fun prog w A R s h=>by
  obtain⟨hp,g,d,tk,os⟩:=s
  obtain⟨ha,h⟩:=h
  have hsub:=sub_enumerate
  have hT:Heap.IsTuple (Shared.heap ⟨hp,g,d,tk,os⟩) a us:=⟨_,ha,rfl,k,rfl⟩
  wp_walk using wpAny_loadPart' ha
  refine wpAny_stack_any fun _=>wpAny_pure ?_
  split
  ·rename_i c _ _ _ _ _
   cases (c == Value.type "enumerate") <;> (wp_walk using wpAny_loadPart' ha,wpAny_pyIter_tuple hT;exact⟨_,rfl,h⟩)
  ·wp_walk using wpAny_loadPart' ha,wpAny_pyIter_tuple hT
   exact⟨_,rfl,h⟩
theorem i6 {prog:Program} {w:World} {A:Around} {E:Value→Shared→Prop} {s:Shared} {a:Addr} {us:Array Value} {Q:Value→Shared→Prop} (hT:s.heap.IsTuple a us)
  (h:∀h',IsEnum h' (s.heap.objs.size+1) s.heap.objs.size 0 .none→h'.IsTupleIter s.heap.objs.size a 0→(∀b o,s.heap.get? b=some o→h'.get? b=some o)→Q (.ref (s.heap.objs.size+1)) {s with heap:=h'}):
  wpAny (model prog w) A (call (.type "enumerate") [.ref a]) Q E s:=by
 obtain⟨⟨c,dc,dt,so⟩,ha,hc,n,hd⟩:=hT
 replace hc:c=.type "tuple" :=hc
 replace hd:dt=.seq us n:=hd
 subst hc hd
 refine callType_new F.called_enumerate (by decide) (F.typeCall_enumerate_1 _) (F.newCall_enumerate_1 _) (fun obj=>F.args_object_init_2 obj _) F.entry_enumerate_new (gV a us n dc so) ⟨ha,?_⟩
 have hz:(s.heap.push (k8 a)).objs.size=s.heap.objs.size+1:=Heap.size_push ..
 show _∧_
 rw[hz]
 have he:IsEnum ((s.heap.push (k8 a)).push (sS s.heap.objs.size)) (s.heap.objs.size+1) s.heap.objs.size 0 .none:=by
  have q:=Heap.get?_push_size (s.heap.push (k8 a)) (o:=sS s.heap.objs.size) rfl
  rw[hz]at q;exact q
 exact⟨⟨_,he,rfl⟩,h _ he ⟨_,Heap.get?_push_of_some _ (Heap.get?_push_size _ rfl),rfl,rfl⟩ fun b o x=>Heap.get?_push_of_some _ (Heap.get?_push_of_some _ x)⟩
end PySem
namespace L2
open PySem PySem.Spec PyProof.Rows
def p4 (t:TA) (K:PySem.W.Frag):TI:=fun σ H R=>t σ H fun vs H1=>∃(a:Addr) (xs:List V),vs=[.ref a]∧SqT K H1 a xs∧R (wk K (.tup a)) H1
theorem lj {X:Cx} {K:PySem.W.Frag} (hK:X.K=K) {b:Expr} {ta:TA} {p pos tp:Pos} {elts:List Expr} {kk:Nat} (hg:Gl X "enumerate") (hm:X.mg "enumerate" =none) (ha:PA X [b] ta) (hs:starEach [b] X.env=[(false,eval b X.env)]:=by rfl):
  PI X (.Tuple elts kk tp) (.Call (.Name "enumerate" p) [b] [] pos) (p4 ta K):=by
 subst hK
 intro pins s σ H R I h
 refine Call_ (eL I hg hm boot_enumerate (PyProof.Rows.callWith_type1 (bO (ha pos pins s σ H _ I h) fun us s1 ⟨vs,H1,I1,r1,q1⟩=>?_) hs rfl))
 obtain⟨a,xs,e,hq,q⟩:=q1
 subst e
 obtain⟨v1,rfl,rx⟩:=fk r1
 cases rx
 obtain⟨its,rr,pl,_⟩:=I1.tuple hq
 refine i6 (show s1.heap.IsTuple a its.toArray from pl) fun h' he hi kp=>?_
 refine wpAny_pyIter_enum he ?_
 refine⟨s1.heap.objs.size+1,[s1.heap.objs.size+1,s1.heap.objs.size],_,_,H1,rfl,I1.kept (t':=s1.toks) kp,l8 (.tup a) _ _ (i3 s1.heap.objs.size 1 0 (by decide)),⟨⟨_,he⟩,hi⟩,fun b hb=>?_,q⟩
 have hb':s1.heap.objs.size≤b:=by
  simp only[List.mem_cons,List.not_mem_nil,or_false]at hb
  rcases hb with z | z <;> rw[z]
  ·exact Nat.le_add_right _ 1
  ·exact Nat.le_refl _
 exact I1.fpOk hb' (I1.hok.fresh hb')
end L2
namespace L2
end L2
namespace Wb
open PySem L2 Mi
variable {Er:Nat→Prop}
inductive isU (K:PySem.W.Frag) (H:Hp):Dat→V→Prop where
 | n:isU K H .n .non
 | b {x:Bool} :isU K H (.b x) (.bl x)
 | i {x:Int} :isU K H (.i x) (.int x)
 | s {x:Tx} :isU K H (.s x) (.str (sOf x))
 | t {p:Addr} {xs:List Dat} {vs:List V} (h:SqT K H p vs) (hl:vs.length=xs.length) (r:∀(j:Nat) x v,xs[j]? =some x→vs[j]? =some v→isU K H x v):isU K H (.t xs) (.ref p)
 | l {p:Addr} {xs:List Dat} {vs:List V} (h:H p=some (.lst vs)) (hl:vs.length=xs.length) (r:∀(j:Nat) x v,xs[j]? =some x→vs[j]? =some v→isU K H x v):isU K H (.l xs) (.ref p)
section
variable {α β γ δ:Type} {t t1 t2 t3 t4 ta tb tc td:TE} {σ:St} {W W0 W':Wd} {K:PySem.W.Frag} {w:World}
theorem isU.same {H H':Hp} {d:Dat} {v:V} (e:Same H H') (h:isU K H d v):isU K H' d v:=by
 induction h with
 | n=>exact .n
 | b=>exact .b
 | i=>exact .i
 | s=>exact .s
 | t h hl r ih=>exact .t (Same.tup e h) hl ih
 | l h hl r ih=>exact .l (e _ _ h) hl ih
instance zkeep39:Mono (isU K):=⟨fun e h=>isU.same e h⟩
theorem isU.eqk {H:Hp} :∀(n:Nat) (d:Dat) (v u:V),d.le n→isU K H d v→isU K H d u→EqK K H n v u:=by
 intro n
 induction n with
 | zero =>
  intro d v u hd h1 h2
  cases h1 with
  | n=>cases h2;exact .flat rfl
  | b=>cases h2;exact .flat rfl
  | i=>cases h2;exact .flat rfl
  | s=>cases h2;exact .flat rfl
  | t h hl r=>exact hd.elim
  | l h hl r=>exact hd.elim
 | succ n ih =>
  intro d v u hd h1 h2
  cases h1 with
  | n=>cases h2;exact .flat rfl
  | b=>cases h2;exact .flat rfl
  | i=>cases h2;exact .flat rfl
  | s=>cases h2;exact .flat rfl
  | @t p xs vs h hl r =>
   cases h2 with
   | @t q _ us h' hl' r' =>
    refine .inr ⟨p,q,vs,us,rfl,rfl,.inr ⟨h,h'⟩,by rw[hl,hl'],fun i x y e1 e2=>?_⟩
    have hi:i< xs.length:=by rw[←hl];exact(List.getElem?_eq_some_iff.mp e1).1
    have e3:xs[i]? =some xs[i]:=List.getElem?_eq_getElem hi
    exact ih xs[i] x y (hd _ (List.getElem_mem hi)) (r i _ x e3 e1) (r' i _ y e3 e2)
  | @l p xs vs h hl r =>
   cases h2 with
   | @l q _ us h' hl' r' =>
    refine .inr ⟨p,q,vs,us,rfl,rfl,.inl ⟨h,h'⟩,by rw[hl,hl'],fun i x y e1 e2=>?_⟩
    have hi:i< xs.length:=by rw[←hl];exact(List.getElem?_eq_some_iff.mp e1).1
    have e3:xs[i]? =some xs[i]:=List.getElem?_eq_getElem hi
    exact ih xs[i] x y (hd _ (List.getElem_mem hi)) (r i _ x e3 e1) (r' i _ y e3 e2)
def iK (K:PySem.W.Frag) (R:Rp α) (u:α→Dat):Prop:=∀H a v,R H a v→isU K H (u a) v
theorem ke:iK K isI .i:=fun _ _ _ h=>by cases h;exact .i
theorem cZ:iK K isS .s:=fun _ _ _ h=>by cases h;exact .s
theorem uz:iK K (isU K) id:=fun _ _ _ h=>h
theorem lX {R:Rp α} {u:α→Dat} (h:iK K R u):iK K (isL R) (fun xs=>.l (xs.map u)):=fun H xs v ⟨p,vs,h0,h1,h2⟩=>by
 subst h0
 refine .l h1 (by rw[List.length_map,h2.1]) fun j x v e1 e2=>?_
 rw[List.getElem?_map]at e1
 obtain⟨a,ha,rfl⟩:=Option.map_eq_some_iff.mp e1
 exact h _ _ _ (h2.2 j v a e2 ha)
theorem kf {R1:Rp α} {u1:α→Dat} (h1:iK K R1 u1):iK K (um K R1) (fun x=>.t [u1 x]):=fun H a v ⟨p,x,h0,h,r1⟩=>by
 subst h0
 refine .t h rfl fun j d v e1 e2=>?_
 match j,e1,e2 with
 | 0,e1,e2=>cases e1;cases e2;exact h1 _ _ _ r1
theorem uA {R1:Rp α} {R2:Rp β} {u1:α→Dat} {u2:β→Dat} (h1:iK K R1 u1) (h2:iK K R2 u2):iK K (isT2 K R1 R2) (fun x=>.t [u1 x.1,u2 x.2]):=fun H a v ⟨p,x,y,h0,h,r1,r2⟩=>by
 subst h0
 refine .t h rfl fun j d v e1 e2=>?_
 match j,e1,e2 with
 | 0,e1,e2=>cases e1;cases e2;exact h1 _ _ _ r1
 | 1,e1,e2=>cases e1;cases e2;exact h2 _ _ _ r2
theorem uB {R1:Rp α} {R2:Rp β} {R3:Rp γ} {u1:α→Dat} {u2:β→Dat} {u3:γ→Dat} (h1:iK K R1 u1) (h2:iK K R2 u2) (h3:iK K R3 u3):iK K (isT3 K R1 R2 R3) (fun x=>.t [u1 x.1,u2 x.2.1,u3 x.2.2]):=fun H a v ⟨p,x,y,z,h0,h,r1,r2,r3⟩=>by
 subst h0
 refine .t h rfl fun j d v e1 e2=>?_
 match j,e1,e2 with
 | 0,e1,e2=>cases e1;cases e2;exact h1 _ _ _ r1
 | 1,e1,e2=>cases e1;cases e2;exact h2 _ _ _ r2
 | 2,e1,e2=>cases e1;cases e2;exact h3 _ _ _ r3
theorem dv {R:Rp α} {u:α→Dat} {m:Res α} (h:iK K R u) (e:EV Er t σ W (sh R) m):EV Er t σ W (sh (isU K)) (m.bind fun a=>.ok (u a)):=fun W1 e1 Q k=>
 e W1 e1 _ ((Res.okE_bind k).imp fun a ka v W2 e2 hv=>ka v W2 e2 (h _ _ _ hv))
def vT (K:PySem.W.Frag) (R:Rp α) (f:Dat→Option α):Prop:=∀H d v a,isU K H d v→f d=some a→R H a v
theorem rX:vT K isI uY:=fun _ _ _ _ h e=>by cases h <;> cases e;rfl
theorem p5:vT K isS uy:=fun _ _ _ _ h e=>by cases h <;> cases e;rfl
theorem gW {R:Rp α} {f:Dat→Option α} {m:Res Dat} (h:vT K R f) (e:EV Er t σ W (sh (isU K)) m):EV Er t σ W (sh R) (m.bind fun d=>ix (f d)):=fun W1 e1 Q k=>
 e W1 e1 _ ((Res.okE_bind k).imp fun d kd v W2 e2 hv => by
  obtain⟨a,h1,h2⟩:=de kd
  exact h2 v W2 e2 (h _ _ _ _ hv h1))
theorem gX {ma:Res Dat} {mb:Res Int} (ha:EV Er ta σ W (sh (isU K)) ma) (hb:EV Er tb σ W (sh isI) mb):EV Er (cB (bQ K) ta tb) σ W (sh (isU K)) (ma.bind fun a=>mb.bind fun b=>mW a b):=
 kK ha hb fun W a b x y Q hx hy k=>by
  cases hy
  unfold mW at k
  cases hx with
  | @t p xs vs h hl r =>
   obtain⟨c,h4,h5⟩:=de k
   obtain⟨z,h6,h7⟩:=gr (R:=isU K) (H:=W.G) (as:=xs) (xs:=vs) ⟨hl,fun i v m e1 e2=>r i m v e2 e1⟩ h4
   exact⟨p,_,b,z,rfl,rfl,Same.tup W.ok h,h6,h5 _ W (.refl _) h7⟩
  | _=>exact k.elim
theorem mX {K:PySem.W.Frag} (a b:String) (r:Bool) (h:PySem.W.kitOne [] (.type a) (.type b)=some r):PySem.W.kitOne K (.type a) (.type b)=some r:=by first | exact h | (rw[←h];rfl)
def uC:Nat→String | 0=>"bool" | 1=>"int" | 2=>"str" | 3=>"list" | _=>"tuple"
theorem p6 {ma:Res Dat} {j:Nat} (hj:j< 5) (ha:EV Er ta σ W (sh (isU K)) ma):EV Er (db (fun xs H Q=>∃x T t b,xs=[x,.ty T]∧TyOf K H x t∧PySem.W.kitOne K t (.type T)=some b∧Q (.bl b) H) (aj ta (aj (tC (.ty (uC j))) aX))) σ W (sh isB) (ma.bind fun a=>.ok (cU j a)):=fun W1 e1 Q k=>
  ha W1 e1 _ ((Res.okE_bind k).imp fun a ka x W2 e2 hx=>by
    have hj':j=0∨j=1∨j=2∨j=3∨j=4:=by omega
    cases hx with
    | n => refine ⟨_, _, _, false, rfl, .non, ?_, ?_⟩
           · rcases hj' with rfl | rfl | rfl | rfl | rfl <;> exact mX _ _ _ rfl
           · have:=ka (.bl (cU j .n)) W2 e2 rfl
             rcases hj' with rfl | rfl | rfl | rfl | rfl <;> exact this
    | b => rename_i x
           refine⟨_,_,_,cU j (.b x),rfl,.bl _,?_,ka _ W2 e2 rfl⟩
           rcases hj' with rfl | rfl | rfl | rfl | rfl <;> exact mX _ _ _ rfl
    | i => rename_i x
           refine⟨_,_,_,cU j (.i x),rfl,.int _,?_,ka _ W2 e2 rfl⟩
           rcases hj' with rfl | rfl | rfl | rfl | rfl <;> exact mX _ _ _ rfl
    | s => rename_i x
           refine⟨_,_,_,cU j (.s x),rfl,.str _,?_,ka _ W2 e2 rfl⟩
           rcases hj' with rfl | rfl | rfl | rfl | rfl <;> exact mX _ _ _ rfl
    | @t p xs vs h hl r =>
           refine⟨_,_,_,cU j (.t xs),rfl,.tup (Same.tup W2.ok h),?_,ka _ W2 e2 rfl⟩
           rcases hj' with rfl | rfl | rfl | rfl | rfl <;> exact mX _ _ _ rfl
    | @l p xs vs h hl r =>
           refine⟨_,_,_,cU j (.l xs),rfl,.lst (W2.ok _ _ h),?_,ka _ W2 e2 rfl⟩
           rcases hj' with rfl | rfl | rfl | rfl | rfl <;> exact mX _ _ _ rfl)
def ei (K:PySem.W.Frag):Nat→Sp
 | 0=>fun _ _ _ _=>False
 | n+1=>fun vs H Q _=>∃v u,vs=[v,u]∧((EqK K H n v u∧∀H',Same H H'→Q (.bl true) H')∨∃x y,v=.str x∧u=.str y∧Q (.bl (decide (V.str x=V.str y))) H)
theorem p8 [DecidableEq α] {R:Rp α} [Mono R] {n N:Nat} [EqR K R n] {E:XK} {ma mb:Res α} (hn:n< N) (ha:EV Er ta σ W (sh R) ma) (hb:EV Er tb σ W (sh R) mb):EV Er (aU (ei K N) [] E (aj ta (aj tb aX))) σ W (sh isB) (ma.bind fun a=>mb.bind fun b=>ui a b):=fun W1 e1 Q k=>
 ha W1 e1 _ ((Res.okE_bind k).imp fun a ka x W2 e2 hx=>hb W2 (e1.trans e2) _ ((Res.okE_bind ka).imp fun b kb y W3 e3 hy=>by
  unfold ui at kb
  by_cases z:a=b
  ·rw[if_pos z]at kb
   subst z
   cases N with
   | zero=>omega
   | succ N =>
    refine⟨x,y,rfl,.inl ⟨EqR.eq W3.H a x y N (by omega) (Mono.mono W3.ok (Mono.mono (R:=R) e3.g hx)) (Mono.mono W3.ok hy),fun H' hs=>?_⟩⟩
    exact kb (.bl true) ⟨W3.G,H',W3.ok.trans hs⟩ ⟨e2.g.trans e3.g,(e2.h.trans e3.h).trans hs,fun p hp=>(e2.trans e3).k p hp⟩ rfl
  ·rw[if_neg z]at kb;exact kb.elim))
theorem kg {N:Nat} {E:XK} {ma mb:Res Dat} (hn:24< N) (ha:EV Er ta σ W (sh (isU K)) ma) (hb:EV Er tb σ W (sh (isU K)) mb):EV Er (aU (ei K N) [] E (aj ta (aj tb aX))) σ W (sh isB) (ma.bind fun a=>mb.bind fun b=>ux a b):=fun W1 e1 Q k=>
  ha W1 e1 _ ((Res.okE_bind k).imp fun a ka x W2 e2 hx=>hb W2 (e1.trans e2) _ ((Res.okE_bind ka).imp fun b kb y W3 e3 hy=>by
    unfold ux at kb
    by_cases z:a=b∧a.le 24
    · rw[if_pos z]at kb
      obtain⟨z,hz⟩:=z
      subst z
      cases N with
      | zero=>omega
      | succ N =>
        have up:∀(m n:Nat) (d:Dat),n≤m→d.le n→d.le m:=by
          intro m
          induction m with
          | zero => intro n d h1 h2; have : n = 0 := by omega
                    subst this;exact h2
          | succ m ih =>
            intro n d h1 h2
            cases n with
            | zero => cases d with
              | t xs=>exact h2.elim
              | l xs=>exact h2.elim
              | _=>trivial
            | succ n => cases d with
              | t xs=>exact fun x hx=>ih n x (by omega) (h2 x hx)
              | l xs=>exact fun x hx=>ih n x (by omega) (h2 x hx)
              | _=>trivial
        refine⟨x,y,rfl,.inl ⟨isU.eqk N a x y (up N 24 a (by omega) hz) (isU.same W3.ok (isU.same e3.g hx)) (isU.same W3.ok hy),fun H' hs=>?_⟩⟩
        exact kb (.bl true) ⟨W3.G,H',W3.ok.trans hs⟩ ⟨e2.g.trans e3.g,(e2.h.trans e3.h).trans hs,fun p hp=>(e2.trans e3).k p hp⟩ rfl
    · rw[if_neg z]at kb;exact kb.elim))
theorem fD {R1:Rp α} [Mono R1] {ma:Res α} (ha:EV Er ta σ W (sh R1) ma):EV Er (bN (aj ta aX)) σ W (sh (um K R1)) ma:=fun W1 e1 Q k=>
 ha W1 e1 _ (k.imp fun a ka x W2 e2 hx=>⟨(by show 1≤sizeLine;decide),fun p hp=>
  ka (.ref p) (W2.new p (.tup [x])) (e2.trans (.new _ hp)) ⟨p,x,rfl,SqT.of ak,Mono.mono (R:=R1) (Ext.new _ hp).g hx⟩⟩)
theorem ju {R1:Rp α} {R2:Rp β} {R3:Rp γ} {R4:Rp δ} [Mono R1] [Mono R2] [Mono R3] [Mono R4] {ma:Res α} {mb:Res β} {mc:Res γ} {md:Res δ} (ha:EV Er ta σ W (sh R1) ma) (hb:EV Er tb σ W (sh R2) mb) (hc:EV Er tc σ W (sh R3) mc) (hd:EV Er td σ W (sh R4) md):
  EV Er (bN (aj ta (aj tb (aj tc (aj td aX))))) σ W (sh (uo K R1 R2 R3 R4)) (ma.bind fun a=>mb.bind fun b=>mc.bind fun c=>md.bind fun d=>.ok (a,b,c,d)):=fun W1 e1 Q k=>
 ha W1 e1 _ ((Res.okE_bind k).imp fun a ka x W2 e2 hx=>hb W2 (e1.trans e2) _ ((Res.okE_bind ka).imp fun b kb y W3 e3 hy=>hc W3 ((e1.trans e2).trans e3) _ ((Res.okE_bind kb).imp fun c kc z W4 e4 hz=>hd W4 (((e1.trans e2).trans e3).trans e4) _ ((Res.okE_bind kc).imp fun d kd u W5 e5 hu=>⟨(by show 4≤sizeLine;decide),fun p hp=>
  kd (.ref p) (W5.new p (.tup [x,y,z,u])) ((((e2.trans e3).trans e4).trans e5).trans (.new _ hp)) ⟨p,x,y,z,u,rfl,SqT.of ak,Mono.mono (Ext.new _ hp).g (Mono.mono (R:=R1) ((e3.trans e4).trans e5).g hx),Mono.mono (R:=R2) (Ext.new _ hp).g (Mono.mono (R:=R2) (e4.trans e5).g hy),Mono.mono (R:=R3) (Ext.new _ hp).g (Mono.mono (R:=R3) e5.g hz),Mono.mono (R:=R4) (Ext.new _ hp).g hu⟩⟩))))
theorem p9 {R:Rp α} [Mono R] {m:Res (α×α×α)} (h:EV Er t σ W (sh (isT3 K R R R)) m):IV Er (p4 (aj t aX) K) σ W (isT2 K isI R) (m.bind fun x=>.ok (cJ [x.1,x.2.1,x.2.2])):=fun W1 e1 P k=>
 h W1 e1 _ ((Res.okE_bind k).imp fun x kx v W2 e2 hv => by
  obtain⟨p,a,b,c,h0,hp,r1,r2,r3⟩:=hv
  refine⟨p,[a,b,c],by rw[h0],Same.tup W2.ok hp,kx _ W2 e2 fun W3 e3=>⟨fun i ab hab=>?_,_,Same.tup (e3.trans W3.ok) hp,by rw[jQ];rfl⟩⟩
  obtain⟨hi,ha⟩:=jP hab
  obtain⟨y,hy,ry⟩:=(LR.three (R:=R) (Mono.mono e3 r1) (Mono.mono e3 r2) (Mono.mono e3 r3)).get ha
  refine⟨⟨_,y,Same.tup (e3.trans W3.ok) hp,hy⟩,fun z H' ⟨q,x',hq,z0,z1,z2⟩=>⟨W3.new q (.tup [.int i,x']),by rw[z2];rfl,.new _ hq,q,_,x',z0,SqT.of ak,by rw[hi];rfl,?_⟩⟩
  have:=z1 _ (Same.tup (e3.trans W3.ok) hp);rw[hy]at this;cases this
  exact Mono.mono (Ext.new _ hq).g ry)
structure OwD (gk:β→Key) (R:Rp α) (W:Wd) (p:Addr) (xs:List (β×α)):Prop where
 g:W.G p=none
 h:∃kv,W.H p=some (.dK kv)∧kv.length=xs.length∧∀(i:Nat) (q:Key×V) (x:β×α),kv[i]? =some q→xs[i]? =some x→q.1=gk x.1∧R W.G x.2 q.2
section
variable {g:β→Key} {R:Rp α}
theorem OwD.mono [Mono R] {p:Addr} {xs:List (β×α)} (o:OwD g R W p xs) (e:Ext W W'):OwD g R W' p xs:=by
 obtain⟨kv,a,b,c⟩:=o.h
 exact⟨by rw[e.k p (by rw[a];exact fun z=>nomatch z)];exact o.g,kv,e.h _ _ a,b,fun i q x h1 h2=>⟨(c i q x h1 h2).1,Mono.mono e.g (c i q x h1 h2).2⟩⟩
def vU (Er:Nat→Prop) (t:TE) (σ:St) (W:Wd) (g:β→Key) (R:Rp α) (m:Res (List (β×α))):Prop:=∀W1,Ext W W1→∀Q:VK,m.OkE Er (fun xs=>∀p W2,Ext W1 W2→W1.H p=none→OwD g R W2 p xs→Q (.ref p) W2.H)→t σ W1.H Q
theorem qP:vU Er aY σ W g R (.ok []):=fun W1 e1 Q k p hp=>k p (W1.mut p (.dK []) (W1.gnone hp)) (.own _ hp) hp ⟨W1.gnone hp,[],ak,rfl,fun i q x h=>by simp at h⟩
theorem qQ [DecidableEq β] (hg:∀a b,g a=g b→a=b) {H:Hp} {kv:List (Key×V)} {xs:List (β×α)} (hl:kv.length=xs.length) (h:∀(i:Nat) (q:Key×V) (x:β×α),kv[i]? =some q→xs[i]? =some x→q.1=g x.1∧R H x.2 q.2) {k:β} {a:α} {v:V} (r:R H a v):
  (fc kv (g k) v).length=(qN xs k a).length∧∀(i:Nat) (q:Key×V) (x:β×α),(fc kv (g k) v)[i]? =some q→(qN xs k a)[i]? =some x→q.1=g x.1∧R H x.2 q.2:=by
 have hany:(kv.any fun p=>decide (p.1=g k))=(xs.any fun p=>decide (p.1=k)):=by
  have key:∀(kv:List (Key×V)) (xs:List (β×α)),kv.length=xs.length→(∀(i:Nat) (q:Key×V) (x:β×α),kv[i]? =some q→xs[i]? =some x→q.1=g x.1∧R H x.2 q.2)→(kv.any fun p=>decide (p.1=g k))=(xs.any fun p=>decide (p.1=k)):=by
   intro kv
   induction kv with
   | nil=>intro xs hl _;cases xs with | nil=>rfl | cons _ _=>cases hl
   | cons q kv ih =>
    intro xs hl h
    cases xs with
    | nil=>cases hl
    | cons x xs =>
     rw[List.any_cons,List.any_cons,ih xs (by simpa using hl) fun i q x h1 h2=>h (i+1) q x h1 h2]
     congr 1
     rw[(h 0 q x rfl rfl).1,Bool.eq_iff_iff]
     simp only[decide_eq_true_eq]
     exact⟨hg _ _,fun e=>by rw[e]⟩
  exact key kv xs hl h
 unfold fc qN
 rw[hany]
 by_cases c:(xs.any fun p=>decide (p.1=k))=true
 ·rw[if_pos c,if_pos c]
  refine⟨by simp[hl],fun i q x h1 h2=>?_⟩
  rw[List.getElem?_map]at h1 h2
  obtain⟨q0,hq0,rfl⟩:=Option.map_eq_some_iff.mp h1
  obtain⟨x0,hx0,rfl⟩:=Option.map_eq_some_iff.mp h2
  obtain⟨h3,h4⟩:=h i q0 x0 hq0 hx0
  by_cases z:x0.1=k
  ·rw[if_pos z,if_pos (by rw[h3,z])];exact⟨h3,r⟩
  ·rw[if_neg z,if_neg (fun e=>z (hg _ _ (by rw[←h3];exact e)))];exact⟨h3,h4⟩
 ·rw[if_neg c,if_neg c]
  refine⟨by simp[hl],fun i q x h1 h2=>?_⟩
  by_cases hi:i< kv.length
  ·rw[List.getElem?_append_left hi]at h1
   rw[List.getElem?_append_left (by rw[←hl];exact hi)]at h2
   exact h i q x h1 h2
  ·rw[List.getElem?_append_right (by omega)]at h1
   rw[List.getElem?_append_right (by rw[←hl];omega),←hl]at h2
   match i- kv.length,h1,h2 with
   | 0,h1,h2=>cases h1;cases h2;exact⟨rfl,r⟩
end
section
variable {g:β→Key} {R:Rp α} {D:Ends} {r:TS} {te ti:TE} {i:Nat}
theorem qR {σ':Addr→St} {m:Res (List (β×α))} (h:vU Er te σ W g R m) (q:m.OkE Er fun a=>∀p W',Ext W W'→W.H p=none→OwD g R W' p a→D.nx (σ' p) W'.H) (hσ:∀p,σ.set i (some (.ref p))=σ' p:=by intro _;rfl):bG te (aN i) D σ W.H:=h W (.refl _) _ (q.imp fun a k p W' e hp r=>by have:=k p W' e hp r;rw[←hσ]at this;exact this)
theorem mY {σ':Addr→St} {m:Res (List (β×α))} (h:vU Er te σ W g R m) (q:m.OkE Er fun a=>∀p W',Ext W W'→W.H p=none→OwD g R W' p a→r D (σ' p) W'.H) (hσ:∀p,σ.set i (some (.ref p))=σ' p:=by intro _;rfl):dU (bG te (aN i)) r D σ W.H:=qR (D:={D with nx:=r D}) h q hσ
theorem lY [DecidableEq β] [Mono R] {Rk:Rp β} {p:Addr} {xs:List (β×α)} {m:Res α} {mk:Res β} (hg:∀a b,g a=g b→a=b) (hk:∀H b v,Rk H b v→v=kV (g b)) (o:OwD g R W p xs) (h:EV Er te σ W (sh R) m) (hj:EV Er ti σ W (sh Rk) mk)
  (q:(m.bind fun a=>mk.bind fun k=>qO xs k a).OkE Er fun ys=>∀W',Mu W W' p→OwD g R W' p ys→D.nx σ W'.H) (hi:σ[i]? =some (some (.ref p)):=by rfl):bn (bx i) ti te D σ W.H:=by
 refine h W (.refl _) _ ((Res.okE_bind q).imp fun a ka v W2 e2 hv=>⟨.ref p,hi,hj W2 e2 _ ((Res.okE_bind ka).imp fun k kk x W3 e3 hx=>?_)⟩)
 obtain⟨h3,h4⟩:=bt kk
 have e:=e2.trans e3
 have o':=o.mono e
 obtain⟨kv,o1,o2,o3⟩:=o'.h
 obtain⟨p1,p2⟩:=qQ hg o2 o3 (k:=k) (Mono.mono (R:=R) e3.g hv)
 refine⟨p,_,rfl,by rw[hk _ _ _ hx];exact DPut.k o1 (by rw[o2,sizeLine_eq];unfold Mi.cap at h3;omega),?_⟩
 exact h4 (W3.mut p (.dK (fc kv (g k) v)) o'.g) (.of e o'.g) ⟨o'.g,_,ak,p1,p2⟩
theorem mZ [DecidableEq β] [Mono R] {Rk:Rp β} {p:Addr} {xs:List (β×α)} {m:Res α} {mk:Res β} (hg:∀a b,g a=g b→a=b) (hk:∀H b v,Rk H b v→v=kV (g b)) (o:OwD g R W p xs) (h:EV Er te σ W (sh R) m) (hj:EV Er ti σ W (sh Rk) mk)
  (q:(m.bind fun a=>mk.bind fun k=>qO xs k a).OkE Er fun ys=>∀W',Mu W W' p→OwD g R W' p ys→r D σ W'.H) (hi:σ[i]? =some (some (.ref p)):=by rfl):dU (bn (bx i) ti te) r D σ W.H:=lY (D:={D with nx:=r D}) hg hk o h hj q hi
end
theorem pb {R:Rp α} [Mono R] {i:Nat} {p:Addr} {xs:List (Int×α)} (o:OwD Sum.inl R W p xs) (hi:σ[i]? =some (some (.ref p)):=by rfl):EVo Er (db (fun xs H Q=>∃(p:Addr) (kvs:List (Key×V)) (ns:List Int),xs=[.ref p]∧H p=some (.dK kvs)∧kvs.map (·.1)=ns.map Sum.inl∧ns.length< 64∧∀(q:Addr) (ns':List Int),H q=none→ns'.Perm ns→ns'.Pairwise (· ≤ ·)→Q (.ref q) (bu H q (.lst (ns'.map V.int)))) (aj (bx i) aX)) σ W isI (rW xs):=fun W1 e1 Q k=>by
 obtain⟨h3,h4⟩:=bt k
 obtain⟨kv,o1,o2,o3⟩:=(o.mono e1).h
 refine⟨.ref p,hi,p,kv,xs.map (·.1),rfl,o1,?_,by simpa using h3,fun q ns' hq hp hs=>?_⟩
 ·refine List.ext_getElem? fun j=>?_
  rw[List.getElem?_map,List.getElem?_map,List.getElem?_map]
  cases z:xs[j]? with
  | none =>
   have:kv[j]? =none:=List.getElem?_eq_none_iff.mpr (by rw[o2];exact List.getElem?_eq_none_iff.mp z)
   rw[this];rfl
  | some x =>
   have hj:j< kv.length:=by rw[o2];exact(List.getElem?_eq_some_iff.mp z).1
   rw[List.getElem?_eq_getElem hj]
   exact congrArg some (o3 j _ x (List.getElem?_eq_getElem hj) z).1
 ·rw[iC hp hs]
  exact jp (vs:=(eQ (xs.map (·.1))).map V.int) ⟨by simp,fun i v m e1 e2=>by rw[List.getElem?_map,e2]at e1;cases e1;rfl⟩ (.refl _) h4 q hq
theorem kI:∀(H:Hp) (b:Int) (v:V),isI H b v→v=kV (Sum.inl b):=fun _ _ _ h=>h
theorem EV.go {W1:Wd} {R:Rw α} {m:Res α} {Q:VK} (e:Ext W W1) (h:EV Er t σ W R m) (k:m.OkE Er fun a=>∀v W2,Ext W1 W2→R W2 a v→Q v W2.H):t σ W1.H Q:=h W1 e Q k
theorem pc {X:Cx} {st:Stmt} :PS X st sw:=fun _ _ _ _ _ _ h=>h.elim
end
end Wb
namespace Mi
def kindN:List Tx:=[[66,97,100,84,97,98,108,101,116],[66,97,100,82,111,119],[66,97,100,84,101,120,116],[66,97,100,77,97,114,107],[84,111,111,76,111,110,103],[84,111,111,84,105,103,104,116],[83,112,111,111,108,68,114,121],[78,111,84,97,98,108,101,116],[78,111,116,104,105,110,103,76,101,102,116],[85,110,108,105,107,101],[83,101,101,110,84,104,114,101,97,100],[78,111,83,117,99,104,87,97,121],[66,97,114,114,101,100]]
end Mi
namespace L2
open PySem PySem.Spec PyProof.Rows
def XV (x:Addr):Option Addr→Value
 | none=>.ref x
 | some d=>.int (Int.ofNat d) 0
theorem n6 {f:Array Value→Array Value} {o:Obj} :(Obj.mapFields f o).dict=o.dict:=by
 unfold Obj.mapFields
 split <;> rfl
structure Fly (h:Heap) (H:Hp) (lim:Heap) (e C:Addr) (od:Option Addr):Prop where
 he:H e=none
 hl:lim.get? e=none
 ob:∃(oe:Obj) (vs:Array Value),h.get? e=some oe∧(oe.cls=.ref C∧oe.dict=od)∧oe.data=.fields vs∧vs[2]? =some .none∧
  (vs[1]? =some .none∨∃(T:Addr) (oT:Obj) (ts:Array Value),vs[1]? =some (.ref T)∧T≠e∧H T=none∧lim.get? T=none∧h.get? T=some oT∧oT.data=.fields ts∧ts[3]? =some .none)
structure Gone (fs:List Addr) (H:Hp) (lim:Heap) (e:Addr) (h h':Heap):Prop where
 keep:∀b o,h.get? b=some o→b∉fs→b≠e→(H b≠none∨lim.get? b≠none)→h'.get? b=some o
 slot:∀b o,h.get? b=some o→b∈fs→∃sl,h'.get? b=some {o with slots:=sl}
 there:∀b o,h.get? b=some o→∃o',h'.get? b=some o'
theorem Gone.trans {fs:List Addr} {H:Hp} {lim:Heap} {e:Addr} {h h1 h2:Heap} (a:Gone fs H lim e h h1) (b:Gone fs H lim e h1 h2):Gone fs H lim e h h2:=
 ⟨fun c o q n m k=>b.keep c o (a.keep c o q n m k) n m k,fun c o q n=>by
  obtain⟨sl,z⟩:=a.slot c o q n
  obtain⟨sl',z'⟩:=b.slot c _ z n
  exact⟨sl',z'⟩,fun c o q=>by
  obtain⟨o',z⟩:=a.there c o q
  exact b.there c o' z⟩
section
variable {M:Model} {A:Around} {E:Value→Shared→Prop} {s:Shared} {base lim:Heap} {H:Hp} {env:Env} {outer:List Env} {L e C:Addr} {od:Option Addr}
abbrev uZ (head:Value) (L:Addr) (pl:List Value):Obj:={cls:=.type "traceback",dict:=none,data:=.fields ([head,.ref L,.none,rawInt L,.none]++(if pl.isEmpty then List.replicate 6 Value.none else pl)).toArray}
theorem lZ {head:Value} {hn:Bool} {oe:Obj} {vs:Array Value} {Q:Unit→Shared→Prop} (hfr:A.frames=some (env::outer)) (hfn:s.heap.FunFrames base (env::outer)) (hf:env.frame=some L)
  (he:s.heap.get? e=some oe) (hd:oe.data=.fields vs) (hc:oe.cls=.ref C∧oe.dict=od) (h2:vs[2]? =some .none) (hH:H e=none) (hlm:lim.get? e=none)
  (hfree:∀b,s.heap.objs.size≤b→H b=none∧lim.get? b=none)
  (h:∀h',Gone (frs (env::outer)) H lim e s.heap h'→Fly h' H lim e C od→Q () {s with heap:=h'}):
  wpAny M A (do let a ←frameOf env;let pl ←entryPlaceOf L hn;let b ←EntryCells.newEntry head a .none (rawInt L) .none pl;setField (.ref e) 1 b) (fun _ s'=>wpAny M A (setFlight (.ref e) none) Q E s') E s:=by
 have hsz:1< vs.size:=by have:=(Array.getElem?_eq_some_iff.mp h2).1;omega
 have nfr:e∉(env::outer).filterMap (·.frame):=fun hm=>by
  obtain⟨_,o,ho,hnf⟩:=hfn.mem hm
  rw[he]at ho
  exact hnf vs (by rw[←Option.some.inj ho];exact hd)
 refine wpAny_bind (wpAny_frameOf_fun hfr hfn hf fun h1 hs1=>?_)
 refine wpAny_bind (wpAny_entryPlaceOf fun pl hpl=>?_)
 unfold EntryCells.newEntry newFields
 refine wpAny_bind (wpAny_newObj_type ?_ (hpl.sizeOk5 _ _ _ _ _))
 have g1:h1.get? e=some oe:=(hs1.2.1 e nfr).trans he
 have g2:(h1.push (uZ head L pl)).get? e=some oe:=Heap.get?_push_of_some _ g1
 refine wpAny_setField g2 hd hsz ?_
 have ne:h1.objs.size≠e:=Nat.ne_of_gt (Heap.lt_size g1)
 have d3:=Obj.data_mapFields hd (·.setIfInBounds 1 (Value.ref h1.objs.size))
 have g3:=Heap.get?_update_self (Obj.mapFields (·.setIfInBounds 1 (Value.ref h1.objs.size))) g2 (Obj.isFreed_of_fields d3)
 have gT:=(Heap.get?_update_other (h1.push (uZ head L pl)) (Obj.mapFields (·.setIfInBounds 1 (Value.ref h1.objs.size))) (Ne.symm ne)).trans (Heap.get?_push_size h1 rfl)
 unfold setFlight
 refine wpAny_bind (wpAny_field g3 d3 (x:=.ref h1.objs.size) (by simp[hsz]) ?_)
 rw[if_pos (show(Value.ref h1.objs.size != Value.none)=true from by simp)]
 refine wpAny_setField gT rfl (by simp only[List.size_toArray,List.length_append,List.length_cons,List.length_nil] <;> omega) ?_
 have keep1:∀b o,b≠e→h1.get? b=some o→(((h1.push (uZ head L pl)).update e (Obj.mapFields (·.setIfInBounds 1 (Value.ref h1.objs.size)))).update h1.objs.size (Obj.mapFields (·.setIfInBounds 3 ((none:Option Addr).elim Value.none fun f=>rawInt f)))).get? b=some o:=fun b o hb hq=>by
  rw[Heap.get?_update_other _ _ (Nat.ne_of_gt (Heap.lt_size hq)),Heap.get?_update_other _ _ (Ne.symm hb)]
  exact Heap.get?_push_of_some _ hq
 have ge:(((h1.push (uZ head L pl)).update e (Obj.mapFields (·.setIfInBounds 1 (Value.ref h1.objs.size)))).update h1.objs.size (Obj.mapFields (·.setIfInBounds 3 ((none:Option Addr).elim Value.none fun f=>rawInt f)))).get? e=some (Obj.mapFields (·.setIfInBounds 1 (Value.ref h1.objs.size)) oe):=by
  rw[Heap.get?_update_other _ _ ne];exact g3
 have big:s.heap.objs.size≤h1.objs.size:=hs1.1▸Nat.le_refl _
 refine h _ ⟨fun b o q n m _=>keep1 b o m ((hs1.2.1 b n).trans q),fun b o q n=>?_,fun b o q=>?_⟩ ⟨hH,hlm,_,_,ge,⟨by rw[Obj.cls_mapFields];exact hc.1,by rw[n6];exact hc.2⟩,d3,by rw[Array.getElem?_setIfInBounds_ne (by decide)];exact h2,.inr ⟨h1.objs.size,_,_,by simp[hsz],ne,(hfree _ big).1,(hfree _ big).2,Heap.get?_update_self _ gT (Obj.isFreed_of_fields (Obj.data_mapFields rfl _)),Obj.data_mapFields rfl _,?_⟩⟩
 ·obtain⟨sl,z⟩:=hs1.2.2 b o q
  exact⟨sl,keep1 b _ (fun y=>nfr (y▸n)) z⟩
 ·by_cases y:b=e
  ·rw[y];exact⟨_,ge⟩
  ·obtain⟨sl,z⟩:=hs1.2.2 b o q
   exact⟨_,keep1 b _ y z⟩
 ·first | (simp;done) | (rcases hpl with rfl | ⟨_,_,_,_,_,_,_,rfl⟩ <;> simp)
theorem m6 {Q:Unit→Shared→Prop} (hfr:A.frames=some (env::outer)) (hfn:s.heap.FunFrames base (env::outer)) (hf:env.frame=some L) (x:Fly s.heap H lim e C od)
  (hfree:∀b,s.heap.objs.size≤b→H b=none∧lim.get? b=none)
  (h:∀h',Gone (frs (env::outer)) H lim e s.heap h'→Fly h' H lim e C od→Q () {s with heap:=h'}):wpAny M A (noteFrame (.ref e) env) (fun _ s'=>wpAny M A (setFlight (.ref e) none) Q E s') E s:=by
 obtain⟨hH,hlm,oe,vs,he,hc,hd,h2,h1⟩:=x
 unfold noteFrame
 simp only[hf]
 rcases h1 with h1 | ⟨T,oT,ts,h1,hTe,hT0,hTl,hT,hdT,h3⟩
 ·refine wpAny_bind (wpAny_field he hd h1 ?_)
  rw[if_neg (by decide)]
  exact lZ hfr hfn hf he hd hc h2 hH hlm hfree h
 ·refine wpAny_bind (wpAny_field he hd h1 ?_)
  rw[if_pos (show(Value.ref T != Value.none)=true from by simp)]
  refine wpAny_bind (wpAny_field hT hdT h3 ?_)
  rw[if_neg (show ¬((Value.none == rawInt L)=true)from by simp[rawInt])]
  refine wpAny_bind (wpAny_setField hT hdT (Array.getElem?_eq_some_iff.mp h3).1 ?_)
  have other:∀b,b≠T→(s.heap.update T (Obj.mapFields (·.setIfInBounds 3 Value.none))).get? b=s.heap.get? b:=fun b hb=>Heap.get?_update_other _ _ (Ne.symm hb)
  have nT:∀b o,s.heap.get? b=some o→(∀vs,o.data≠.fields vs)→b≠T:=fun b o q hn z=>by
   rw[z,hT]at q
   exact hn ts (by rw[←Option.some.inj q];exact hdT)
  have g0:Gone (frs (env::outer)) H lim e s.heap (s.heap.update T (Obj.mapFields (·.setIfInBounds 3 Value.none))):=⟨fun b o q n m k=>(other b fun z=>by
    rw[z,hT0,hTl]at k
    rcases k with k | k <;> exact k rfl).trans q,fun b o q n=>⟨o.slots,(other b (by
    obtain⟨_,o',ho,hnf⟩:=hfn.mem n
    exact nT b o' ho hnf)).trans q⟩,fun b o q=>by
    by_cases z:b=T
    ·rw[z];exact⟨_,Heap.get?_update_self _ hT (Obj.isFreed_of_fields (Obj.data_mapFields hdT _))⟩
    ·exact⟨o,(other b z).trans q⟩⟩
  have sz:(s.heap.update T (Obj.mapFields (·.setIfInBounds 3 Value.none))).objs.size=s.heap.objs.size:=Heap.size_update ..
  refine lZ (s:={s with heap:=s.heap.update T (Obj.mapFields (·.setIfInBounds 3 Value.none))}) hfr (hfn.of_keeps fun b o q hn=>⟨o,(other b (nT b o q hn)).trans q,rfl⟩) hf ((other e (Ne.symm hTe)).trans he) hd hc h2 hH hlm (fun b hb=>hfree b (by rw[←sz];exact hb)) fun h' g1 f1=>h h' (g0.trans g1) f1
theorem n9 {Q:Unit→Shared→Prop} (hfr:A.frames=some (env::outer)) (hfn:s.heap.FunFrames base (env::outer)) (hf:env.frame=some L) (x:Fly s.heap H lim e C od)
  (hfree:∀b,s.heap.objs.size≤b→H b=none∧lim.get? b=none)
  (h:∀h',Gone (frs (env::outer)) H lim e s.heap h'→Fly h' H lim e C od→Q () {s with heap:=h'}):wpAny M A (leaving env (.ref e)) Q E s:=by
 unfold leaving
 exact wpAny_bind (m6 hfr hfn hf x hfree h)
theorem pe {Q:Unit→Shared→Prop} (hfn:s.heap.FunFrames base (env::outer)) (x:Fly s.heap H lim e C od)
  (h:∀h',Gone (frs (env::outer)) H lim e s.heap h'→Fly h' H lim e C od→Q () {s with heap:=h'}):wpAny M A (setFlight (.ref e) none) Q E s:=by
 obtain⟨hH,hlm,oe,vs,he,hc,hd,h2,h1⟩:=x
 unfold setFlight
 rcases h1 with h1 | ⟨T,oT,ts,h1,hTe,hT0,hTl,hT,hdT,h3⟩
 ·refine wpAny_bind (wpAny_field he hd h1 ?_)
  rw[if_neg (by decide)]
  exact wpAny_pure (h s.heap ⟨fun b o q _ _ _=>q,fun b o q _=>⟨o.slots,q⟩,fun b o q=>⟨o,q⟩⟩ ⟨hH,hlm,oe,vs,he,hc,hd,h2,.inl h1⟩)
 ·refine wpAny_bind (wpAny_field he hd h1 ?_)
  rw[if_pos (show(Value.ref T != Value.none)=true from by simp)]
  refine wpAny_setField hT hdT (Array.getElem?_eq_some_iff.mp h3).1 ?_
  have other:∀b,b≠T→(s.heap.update T (Obj.mapFields (·.setIfInBounds 3 ((none:Option Addr).elim Value.none fun f=>rawInt f)))).get? b=s.heap.get? b:=fun b hb=>Heap.get?_update_other _ _ (Ne.symm hb)
  have gT:=Heap.get?_update_self (Obj.mapFields (·.setIfInBounds 3 ((none:Option Addr).elim Value.none fun f=>rawInt f))) hT (Obj.isFreed_of_fields (Obj.data_mapFields hdT _))
  refine h _ ⟨fun b o q n m k=>(other b fun z=>by
    rw[z,hT0,hTl]at k
    rcases k with k | k <;> exact k rfl).trans q,fun b o q n=>⟨o.slots,(other b (by
    obtain⟨_,o',ho,hnf⟩:=hfn.mem n
    intro z
    rw[z,hT]at ho
    exact hnf ts (by rw[←Option.some.inj ho];exact hdT))).trans q⟩,fun b o q=>by
    by_cases z:b=T
    ·rw[z];exact⟨_,gT⟩
    ·exact⟨o,(other b z).trans q⟩⟩ ⟨hH,hlm,oe,vs,(other e (Ne.symm hTe)).trans he,hc,hd,h2,.inr ⟨T,_,_,h1,hTe,hT0,hTl,gT,Obj.data_mapFields hdT _,?_⟩⟩
  have:=(Array.getElem?_eq_some_iff.mp h3).1
  simp[this]
end
end L2
namespace L2
open PySem PySem.Spec PyProof.Rows
def CXR (P:Program) (w:World):CXT:=fun outer H s E e s'=>∃(x C:Addr) (H':Hp) (od:Option Addr),e=.ref x∧Fly s'.heap H' s.heap x C od∧s'.os=s.os∧AllBare s'.gens∧Un (frs outer) [] H H' s.heap s'.heap∧HOk P w H' s'.heap∧E (XV x od) (some C) H'
section
variable {P:Program} {w:World} {K:PySem.W.Frag} {mg:Str→Option Value} {base:Heap} {N:List Str} {qual:Str} {scope:Scope} {f:Addr} {cd:Value} {A:Around} {outer:List Env} {s0 s:Shared} {H0 H:Hp} {E:XK} {pins:List (Addr×Obj)} {σ:St} {e C:Addr} {od:Option Addr}
abbrev rY (P:Program) (w:World) (K:PySem.W.Frag) (mg:Str→Option Value) (base:Heap) (N:List Str) (qual:Str) (scope:Scope) (f:Addr) (cd:Value) (A:Around) (outer:List Env) (s0:Shared) (H0:Hp) (E:XK):Cx:=hW (CXR P w) P w K mg base N qual scope f cd A outer s0 H0 E
theorem uD (I:Inv (rY P w K mg base N qual scope f cd A outer s0 H0 E) pins σ H s) (x:Fly s.heap H s0.heap e C od) (q:E (XV e od) (some C) H):(rY P w K mg base N qual scope f cd A outer s0 H0 E).xe (.ref e) s:=by
 have hsz:s0.heap.objs.size≤s.heap.objs.size:=I.sz
 have hfree:∀b,s.heap.objs.size≤b→H b=none∧s0.heap.get? b=none:=fun b hb=>⟨I.hok.fresh hb,Heap.get?_none_of_le (Nat.le_trans hsz hb)⟩
 refine n9 (base:=base) (env:=envOfC qual scope s0.heap.objs.size f cd) (outer:=outer) (L:=s0.heap.objs.size) (H:=H) (lim:=s0.heap) I.ok.frames I.stack rfl x hfree fun h' g fl=>?_
 have stk:∀b,b∈frs (envOfC qual scope s0.heap.objs.size f cd::outer)→H b=none:=I.stkFree
 have low:∀b o,s0.heap.get? b=some o→b∉frs outer→b∉frs (envOfC qual scope s0.heap.objs.size f cd::outer):=fun b o q n m=>by
  have:b=s0.heap.objs.size∨b∈frs outer:=List.mem_cons.mp (show b∈s0.heap.objs.size::frs outer from m)
  rcases this with z | z
  ·have:=Heap.lt_size q;rw[z]at this;exact Nat.lt_irrefl _ this
  ·exact n z
 have sub:∀b,b∈frs outer→b∈frs (envOfC qual scope s0.heap.objs.size f cd::outer):=fun b m=>by
  show b∈s0.heap.objs.size::frs outer
  exact List.mem_cons_of_mem _ m
 have ne0:∀b o,s0.heap.get? b=some o→b≠e:=fun b o q z=>by rw[z,x.hl]at q;cases q
 have U:=I.base
 refine⟨e,C,H,od,rfl,fl,I.os,I.bare,⟨fun b o q1 n hb hx=>g.keep b o (U.keep b o q1 n hb hx) (low b o q1 hb) (ne0 b o q1) (.inr (by rw[q1];exact fun z=>nomatch z)),fun b o q1 n hb hx=>?_,U.free,fun b o q1 hx=>?_,U.tups,U.frzs,U.tbls⟩,fun b u hb=>?_,q⟩
 ·obtain⟨sl,z⟩:=U.slot b o q1 n hb hx
  obtain⟨sl',z'⟩:=g.slot b _ z (sub b hb)
  exact⟨sl',z'⟩
 ·obtain⟨o',z⟩:=U.there b o q1 hx
  exact g.there b o' z
 ·refine(I.hok b u hb).stay (fun c v hc q1=>?_) (fun _ q1=>q1) fun _ _ q1=>q1
  have hn:H c≠none:=by
   rcases hc with z | z
   ·rw[z,hb];exact fun z=>nomatch z
   ·rw[z];exact fun z=>nomatch z
  exact g.keep c v q1 (fun m=>hn (stk c m)) (fun z=>hn (by rw[z];exact x.he)) (.inl hn)
end
section
variable {X:Cx} {pins:List (Addr×Obj)} {σ:St} {H:Hp} {s:Shared}
theorem Inv.to_nox (I:Inv X pins σ H s):Inv X.nox pins σ H s:=⟨⟨I.ok.mod,I.ok.kind,I.ok.glob,I.ok.blt,I.ok.above,I.ok.inj,I.ok.has,I.ok.cab,I.ok.hd,I.ok.frames,I.ok.stk,I.ok.exf,I.ok.bs,I.ok.bsz,I.ok.noex,I.ok.exfs,I.ok.funs,I.ok.frf⟩,I.os,I.bare,I.base,I.loc,I.cell,I.free,I.freeC,I.pin,I.hok,I.len⟩
theorem Inv.of_nox (I:Inv X.nox pins σ H s):Inv X pins σ H s:=⟨⟨I.ok.mod,I.ok.kind,I.ok.glob,I.ok.blt,I.ok.above,I.ok.inj,I.ok.has,I.ok.cab,I.ok.hd,I.ok.frames,I.ok.stk,I.ok.exf,I.ok.bs,I.ok.bsz,I.ok.noex,I.ok.exfs,I.ok.funs,I.ok.frf⟩,I.os,I.bare,I.base,I.loc,I.cell,I.free,I.freeC,I.pin,I.hok,I.len⟩
theorem sT {D:Ends} {fl:Flow} {s':Shared} (h:SP X.nox pins D fl s'):SP X pins D fl s':=by
 cases fl with
 | next=>obtain⟨σ',H',J,z⟩:=h;exact⟨σ',H',J.of_nox,z⟩
 | ret u=>obtain⟨v,σ',H',J,r,z⟩:=h;exact⟨v,σ',H',J.of_nox,r,z⟩
 | brk=>obtain⟨σ',H',J,z⟩:=h;exact⟨σ',H',J.of_nox,z⟩
 | cont=>obtain⟨σ',H',J,z⟩:=h;exact⟨σ',H',J.of_nox,z⟩
theorem sU {st:Stmt} {t:TS} (h:PS X.nox st t):PS X st t:=fun pins s σ H D I q=>wpAny_mono (h pins s σ H D I.to_nox q) (fun fl s' z=>sT z) fun _ _ z=>z.elim
end
end L2
namespace L2
open PySem PySem.Spec PyProof.Rows
theorem ObjOk.ex {P:Program} {w:World} {H:Hp} {h:Heap} {a:Addr} :∀{o:HO},ObjOk P w H h a o→∃ob,h.get? a=some ob:=by
 intro o
 induction o with
 | lst xs=>intro x;obtain⟨_,its,n,r,e⟩:=x;exact⟨_,e⟩
 | tup xs=>intro x;obtain⟨_,its,r,ob,e,c⟩:=x;exact⟨_,e⟩
 | dK kvs=>intro x;obtain⟨_,_,vs,r,ob,es,ep,e,c⟩:=x;exact⟨_,e⟩
 | dT kvs=>intro x;obtain⟨_,_,xs,r,ob,es,ep,e,c⟩:=x;exact⟨_,e⟩
 | set S n=>intro x;obtain⟨o,e,_⟩:=Heap.SetOf.objOf x;exact⟨_,e⟩
 | ins C dx fs=>intro x;obtain⟨_,_,_,e,_⟩:=x;exact⟨_,e⟩
 | own y=>intro x;exact x
 | xd fs=>intro x;obtain⟨mA,hn,_⟩:=x;obtain⟨o,es,ep,e,_⟩:=hn;exact⟨_,e⟩
 | rng lo hi=>intro x;obtain⟨t,u,v,e⟩:=x;exact⟨_,e⟩
 | frz o u=>intro x;exact⟨_,x.1⟩
 | tbl ps=>intro x;exact⟨_,x⟩
 | met f y=>intro x;exact⟨_,x⟩
 | ext φ=>intro x;exact x.2.1
end L2
namespace L2
open PySem PySem.Spec PyProof.Rows
def Xcl (h:Heap) (C:Addr) (bm:List Value):Prop:=∃nm q N bs hdct sn sub ab col dd k0 k1 k2 k3 k5 newId,h.get? C=some (excClassObj nm q C N bs bm hdct sn sub ab col dd k0 k1 k2 k3 k5 newId)∧bm.contains (.type "BaseException")=true
theorem Xcl.keeps {h h':Heap} {C:Addr} {bm:List Value} (x:Xcl h C bm) (k:∀b o,h.get? b=some o→h'.get? b=some o):Xcl h' C bm:=by
 obtain⟨nm,q,N,bs,hdct,sn,sub,ab,col,dd,k0,k1,k2,k3,k5,newId,e,hb⟩:=x
 exact⟨nm,q,N,bs,hdct,sn,sub,ab,col,dd,k0,k1,k2,k3,k5,newId,k _ _ e,hb⟩
section
variable {M:Model} {A:Around} {E:Value→Shared→Prop}
theorem i7 {s:Shared} {e C D:Addr} {bmC bmD:List Value} {oe:Obj} {Q:Bool→Shared→Prop} (hC:Xcl s.heap C bmC) (hD:Xcl s.heap D bmD) (he:s.heap.get? e=some oe) (hcls:oe.cls=.ref C) (hq:Q ((Value.ref C::bmC).contains (.ref D)) s):wpAny M A (excMatches (.ref e) (.ref D)) Q E s:=by
 obtain⟨h,g,d,t,os⟩:=s
 obtain⟨nm,q,N,bs,hdct,sn,sub,ab,col,dd,k0,k1,k2,k3,k5,newId,hC,hbase⟩:=hC
 obtain⟨nm',q',N',bs',hdct',sn',sub',ab',col',dd',k0',k1',k2',k3',k5',newId',hD,hbase'⟩:=hD
 have hcB:(Value.ref D::bmD).contains (.type "BaseException")=true:=by rw[List.contains_cons,hbase',Bool.or_true]
 have f:=tc_notTuple
 generalize hb:(Value.ref C::bmC).contains (.ref D)=b at hq
 unfold excMatches
 repeat (first | (with_reducible refine wpAny_loadPart_at he ?_;rw[hcls]) | with_reducible refine wpAny_loadPart_at hD ?_ | (with_reducible refine wpAny_isSubtype_exc hD ?_;rw[hcB]) | (with_reducible refine wpAny_isSubtype_exc hC ?_;rw[hb]) | wp_step)
 first | exact hq | (cases b <;> (wp_walk;exact hq))
end
end L2
namespace L2
open PySem PySem.Spec PyProof.Rows
structure Big (X:Cx) (pins:List (Addr×Obj)) (lim:Heap):Prop where
 old:∀b o,X.s₀.heap.get? b=some o→b∉X.ex→lim.get? b≠none
 loc:lim.get? X.env.locals≠none
 cell:∀x c,X.env.cells.lookup x=some c→lim.get? c≠none
 pin:∀p∈X.pn++pins,lim.get? p.1≠none
def Own (X:Cx):Prop:=X.stack=X.env::X.outer∧X.env.frame=some X.env.locals
section
variable {X:Cx} {pins:List (Addr×Obj)} {σ:St} {H:Hp} {s:Shared} {lim h':Heap} {e C:Addr} {od:Option Addr} {oe:Obj}
theorem Own.frs (o:Own X):frs X.stack=X.env.locals::X.fs:=by
 rw[o.1];unfold L2.frs;rw[List.filterMap_cons,o.2];rfl
theorem Inv.bigX (I:Inv X pins σ H s):Big X pins s.heap:=by
 refine⟨fun b o q n=>?_,?_,fun x c q=>?_,fun p hp=>?_⟩
 ·obtain⟨o',z⟩:=I.base.there b o q n
  rw[z];exact fun z=>nomatch z
 ·obtain⟨m,⟨o,es,ep,ho,_⟩,_⟩:=I.loc
  rw[ho];exact fun z=>nomatch z
 ·obtain⟨v,o,ho,_⟩:=I.cell x c q
  rw[ho];exact fun z=>nomatch z
 ·rw[(I.pin p hp).1];exact fun z=>nomatch z
theorem Inv.gone (I:Inv X pins σ H s) (w:Own X) (x:Fly s.heap H lim e C od) (B:Big X pins lim) (g:Gone (frs X.stack) H lim e s.heap h'):Inv X pins σ H {s with heap:=h'} :=by
 have hf:=w.frs
 have ne:∀b,lim.get? b≠none→b≠e:=fun b hb z=>hb (by rw[z];exact x.hl)
 have low:∀b o,X.s₀.heap.get? b=some o→b∉X.fs→b∉frs X.stack:=fun b o q n m=>by
  rw[hf]at m
  rcases List.mem_cons.mp m with z | z
  ·have:=Heap.lt_size q;rw[z]at this;exact absurd (Nat.lt_of_lt_of_le this I.ok.above) (Nat.lt_irrefl _)
  ·exact n z
 have cellK:∀y c,X.env.cells.lookup y=some c→∀v,s.heap.IsCell c v→h'.IsCell c v:=fun y c q v ⟨o,ho,hd⟩=>by
  by_cases m:c∈frs X.stack
  ·obtain⟨sl,z⟩:=g.slot c o ho m
   exact⟨_,z,hd⟩
  ·exact⟨o,g.keep c o ho m (ne c (B.cell y c q)) (.inr (B.cell y c q)),hd⟩
 refine⟨I.ok,I.os,I.bare,⟨fun b o q n hb hx=>?_,fun b o q n hb hx=>?_,I.base.free,fun b o q hx=>?_,I.base.tups,I.base.frzs,I.base.tbls⟩,?_,fun y c q=>?_,I.free,I.freeC,fun p hp=>?_,fun b u hb=>?_,I.len⟩
 ·exact g.keep b o (I.base.keep b o q n hb hx) (low b o q hb) (ne b (B.old b o q hx)) (.inr (B.old b o q hx))
 ·obtain⟨sl,z⟩:=I.base.slot b o q n hb hx
  obtain⟨sl',z'⟩:=g.slot b _ z (by rw[hf];exact List.mem_cons_of_mem _ hb)
  exact⟨sl',z'⟩
 ·obtain⟨o',z⟩:=I.base.there b o q hx
  exact g.there b o' z
 ·obtain⟨m,⟨o,es,ep,ho,hd,hk,hm⟩,hl⟩:=I.loc
  obtain⟨sl,z⟩:=g.slot _ o ho (by rw[hf];exact List.mem_cons_self ..)
  refine⟨m,⟨_,es,ep,z,hd,hk,hm⟩,fun i y v q1 q2 q3=>?_⟩
  obtain⟨u,r,l⟩:=hl i y v q1 q2 q3
  refine⟨u,r,?_⟩
  rcases l with l | ⟨k,c,q,z⟩
  ·exact .inl l
  ·exact .inr ⟨k,c,q,cellK y c q _ z⟩
 ·obtain⟨v,z⟩:=I.cell y c q
  exact⟨v,cellK y c q v z⟩
 ·obtain⟨q,n,nl,nf,d⟩:=I.pin p hp
  exact⟨g.keep p.1 p.2 q (fun m=>by
   rw[hf]at m
   rcases List.mem_cons.mp m with z | z
   ·exact nl z
   ·exact nf z) (ne _ (B.pin p hp)) (.inr (B.pin p hp)),n,nl,nf,d⟩
 ·refine(I.hok b u hb).stay (fun c v hc q1=>?_) (fun _ q1=>q1) fun _ _ q1=>q1
  have hn:H c≠none:=by
   rcases hc with z | z
   ·rw[z,hb];exact fun z=>nomatch z
   ·rw[z];exact fun z=>nomatch z
  exact g.keep c v q1 (fun m=>hn (I.stkFree c m)) (fun z=>hn (by rw[z];exact x.he)) (.inl hn)
abbrev Cx.held (X:Cx) (e:Addr) (oe:Obj):Cx:={X with A:=X.A.mark (some (.ref e)),calm:=false,pn:=(e,oe)::X.pn,xe:=fun _ _=>False}
theorem Inv.held (I:Inv X pins σ H s) (q:s.heap.get? e=some oe) (n:H e=none) (nl:e≠X.env.locals) (nf:e∉X.fs) (d:∀v,oe.data≠.cell v):Inv (X.held e oe) pins σ H s:=
 ⟨⟨I.ok.mod,I.ok.kind,I.ok.glob,I.ok.blt,I.ok.above,I.ok.inj,I.ok.has,I.ok.cab,fun z=>(nomatch z),I.ok.frames,I.ok.stk,I.ok.exf,I.ok.bs,I.ok.bsz,I.ok.noex,I.ok.exfs,I.ok.funs,I.ok.frf⟩,I.os,I.bare,I.base,I.loc,I.cell,I.free,I.freeC,fun p hp=>by
  rcases List.mem_cons.mp hp with z | z
  ·subst z;exact⟨q,n,nl,nf,d⟩
  ·exact I.pin p z,I.hok,I.len⟩
theorem Inv.unheld (ok:X.Ok) (I:Inv (X.held e oe) pins σ H s):Inv X pins σ H s:=⟨ok,I.os,I.bare,I.base,I.loc,I.cell,I.free,I.freeC,fun p hp=>I.pin p (List.mem_cons_of_mem _ hp),I.hok,I.len⟩
abbrev Cx.pinsX (X:Cx) (ps:List (Addr×Obj)):Cx:={X with pn:=X.pn++ps}
theorem Inv.pinnedX (I:Inv X pins σ H s):Inv (X.pinsX pins) [] σ H s:=⟨⟨I.ok.mod,I.ok.kind,I.ok.glob,I.ok.blt,I.ok.above,I.ok.inj,I.ok.has,I.ok.cab,I.ok.hd,I.ok.frames,I.ok.stk,I.ok.exf,I.ok.bs,I.ok.bsz,I.ok.noex,I.ok.exfs,I.ok.funs,I.ok.frf⟩,I.os,I.bare,I.base,I.loc,I.cell,I.free,I.freeC,fun p hp=>I.pin p (by simpa using hp),I.hok,I.len⟩
theorem Inv.unpinnedX {pins':List (Addr×Obj)} (ok:X.Ok) (I:Inv (X.pinsX pins) pins' σ H s):Inv X pins σ H s:=⟨ok,I.os,I.bare,I.base,I.loc,I.cell,I.free,I.freeC,fun p hp=>I.pin p (List.mem_append_left _ hp),I.hok,I.len⟩
def pf (X:Cx) (E:XK) (v:Value) (s:Shared):Prop:=∃(pins:List (Addr×Obj)) (σ:St) (H:Hp) (x C:Addr) (lim:Heap) (od:Option Addr),v=.ref x∧Inv X pins σ H s∧Fly s.heap H lim x C od∧Big X pins lim∧(∀b,s.heap.objs.size≤b→lim.get? b=none)∧E (XV x od) (some C) H
theorem uE {E:XK} :gA (CXR X.prog X.w) (X.wish (pf X E)) E:=fun pins σ H s v s' I ⟨x,C,H',od,hv,fl,os,bare,un,hok,q⟩=>by
 subst hv
 have I0:Inv X pins σ H s:=I.unwish
 have I':Inv X pins σ H' s':=I0.call' os un hok bare fun b z=>absurd z (by simp)
 refine⟨pins,σ,H',x,C,s.heap,od,rfl,I',fl,I0.bigX,fun b hb=>?_,q⟩
 cases z:s.heap.get? b with
 | none=>rfl
 | some o =>
  obtain⟨o',z'⟩:=un.there b o z (by simp)
  exact absurd (Nat.lt_of_lt_of_le (Heap.lt_size z') hb) (Nat.lt_irrefl _)
end
end L2
namespace L2
open PySem PySem.Spec PyProof.Rows
section
variable {X:Cx} {pins:List (Addr×Obj)} {σ:St} {H:Hp} {s:Shared} {lim h':Heap} {e C:Addr} {oe:Obj} {M:Model} {A:Around} {E:Value→Shared→Prop}
theorem gu {i:Nat} {x:Str} {pos:Pos} {Q:Unit→Shared→Prop} (I:Inv X pins σ H s) (hN:X.N.Nodup) (hi:X.N[i]? =some x) (hk:X.env.scope.names.lookup x=some .local)
  (h:∀s',Inv X pins (σ.set i none) H s'→Q () s'):wpAny M A (do bindName X.env x .none;unbindBehindTheSuite X.env x pos) Q E s:=by
 obtain⟨m,hn,hl⟩:=id I.loc
 have hcls:(X.env.scope.kind == .class || (X.env.scope.kind == .module && X.env.locals != X.env.globals))=false:=by rw[I.ok.kind];rfl
 have hiσ:i< σ.length:=by rw[I.len];exact(List.getElem?_eq_some_iff.mp hi).1
 have cne:=I.cne
 obtain⟨oL,_,_,hoL,_⟩:=id hn
 refine wpAny_nameGoes_keeps hk hn hcls fun h' v hn' hs=>?_
 have tracked:HOk X.prog X.w H h':=fun b ob q=>by
  refine(I.hok b ob q).stay (fun c w' hc q'=>(hs.2 c ?_).trans q') (fun _ q=>q) fun _ _ q=>q
  rintro rfl
  rcases hc with rfl | hc
  ·rw[I.free]at q;cases q
  ·rw[I.free]at hc;cases hc
 refine h _ ⟨I.ok,I.os,I.bare,⟨fun b o q n hb hx=>?_,fun b o q n hb hx=>?_,I.base.free,fun b o q hx=>?_,I.base.tups,I.base.frzs,I.base.tbls⟩,⟨_,hn',fun j y v' e1 e2 e3=>?_⟩,fun y c q=>?_,I.free,I.freeC,fun p hp=>?_,tracked,by simpa using I.len⟩
 ·exact(hs.2 b (Nat.ne_of_lt (Nat.lt_of_lt_of_le (Heap.lt_size q) I.ok.above))).trans (I.base.keep b o q n hb hx)
 ·obtain⟨sl,q1⟩:=I.base.slot b o q n hb hx
  exact⟨sl,(hs.2 b (Nat.ne_of_lt (Nat.lt_of_lt_of_le (Heap.lt_size q) I.ok.above))).trans q1⟩
 ·obtain⟨o',q1⟩:=I.base.there b o q hx
  exact⟨o',(hs.2 b (Nat.ne_of_lt (Nat.lt_of_lt_of_le (Heap.lt_size q) I.ok.above))).trans q1⟩
 ·by_cases hj:j=i
  ·subst hj
   rw[List.getElem?_set_self hiσ]at e2
   cases e2
  ·rw[List.getElem?_set_ne (Ne.symm hj)]at e2
   obtain⟨u',r',q⟩:=hl j y v' e1 e2 e3
   refine⟨u',r',?_⟩
   rcases q with⟨k,q⟩ | ⟨k,c,q,z⟩
   ·refine .inl ⟨k,?_⟩
    have:y≠x:=fun z=>hj (gw hN e1 (z▸hi))
    simp[this,q]
   ·exact .inr ⟨k,c,q,z.sameBut hs (cne y c q)⟩
 ·obtain⟨w',z⟩:=I.cell y c q
  exact⟨w',z.sameBut hs (cne y c q)⟩
 ·obtain⟨q,n,ne,nf,d⟩:=I.pin p hp
  exact⟨(hs.2 p.1 ne).trans q,n,ne,nf,d⟩
end
def Held (oe:Obj) (C:Addr) (od:Option Addr):Prop:=(oe.cls=.ref C∧oe.dict=od)∧∃vs:Array Value,oe.data=.fields vs∧vs[2]? =some .none
def uF (E:XK) (i:Nat) (tb:TS) (ts:Addr→Addr→Option Addr→Obj→TS):TS:=fun D σ H=>tb D σ H∧∀(x C:Addr) (od:Option Addr) (oe:Obj) (σ':St) (H':Hp),E (XV x od) (some C) H'→H' x=none→Held oe C od→σ'.length=σ.length→ts x C od oe {nx:=fun σ'' H''=>D.nx (σ''.set i none) H'',rt:=D.rt,bk:=fun σ'' H''=>D.bk (σ''.set i none) H'',ct:=fun σ'' H''=>D.ct (σ''.set i none) H''} (σ'.set i (some (.ref x))) H'
section
variable {X:Cx} {E:XK} {D:Addr} {bmD:List Value} {body suite:List Stmt} {b₀:Stmt} {xn n:Str} {i:Nat} {np pos pos':Pos} {tb:TS} {ts:Addr→Addr→Option Addr→Obj→TS}
theorem sV (w:Own X) (hb:∀ps,PSs ((X.pinsX ps).wish (pf (X.pinsX ps) E)) body tb) (hg:Gl X xn) (hm:X.mg xn=some (.ref D)) (hD:Xcl X.base D bmD)
  (hcl:∀v C H,E v (some C) H→∃bmC,Xcl X.base C bmC∧(Value.ref C::bmC).contains (.ref D)=true)
  (hN:X.N.Nodup) (hi:X.N[i]? =some n) (hk:X.env.scope.names.lookup n=some .local) (hsu:∀x C od oe,Held oe C od→PSs (X.held x oe) (b₀::suite) (ts x C od oe))
  (hdb:(xn == ("__debug__" :Str))=false:=by decide):
  PS X (.Try body [.ExceptHandler (some (.Name xn np)) (some n) (b₀::suite) pos] [] [] pos') (uF E i tb ts):=by
 intro pins s σ H Dn I h
 refine wpAny_Try_except (wpAny_mono (hb pins [] s σ H Dn (I.pinnedX.wish _) h.1) (fun f s1 q=>?_) fun v s1 q=>?_)
 ·cases f with
  | next =>
   obtain⟨σ1,H1,J,z⟩:=q
   exact wpAny_execs_nil ⟨σ1,H1,J.unwish.unpinnedX I.ok,z⟩
  | brk=>obtain⟨σ1,H1,J,z⟩:=q;exact⟨σ1,H1,J.unwish.unpinnedX I.ok,z⟩
  | cont=>obtain⟨σ1,H1,J,z⟩:=q;exact⟨σ1,H1,J.unwish.unpinnedX I.ok,z⟩
  | ret u=>obtain⟨v,σ1,H1,J,r,z⟩:=q;exact⟨v,σ1,H1,J.unwish.unpinnedX I.ok,r,z⟩
 ·obtain⟨pins1,σ1,H1,x,C,lim,od,rfl,J0,fl,B0,hsz,hE⟩:=q
  have J:Inv X pins σ1 H1 s1:=J0.unpinnedX I.ok
  have B:Big X pins lim:=⟨B0.old,B0.loc,B0.cell,fun p hp=>B0.pin p (List.mem_append_left _ hp)⟩
  have hfr:X.A.frames=some (X.env::X.outer):=w.1▸I.ok.frames
  refine m6 (base:=X.base) (H:=H1) (lim:=lim) (C:=C) hfr (w.1▸J.stack) w.2 fl (fun b hb=>⟨J.hok.fresh hb,hsz b hb⟩) fun h2 g2 fl2=>?_
  have J2:Inv X pins σ1 H1 {s1 with heap:=h2} :=J.gone w fl B (by rw[w.1];exact g2)
  obtain⟨bmC,hC,hup⟩:=hcl _ _ _ hE
  have nl:x≠X.env.locals:=fun z=>B.loc (by rw[←z];exact fl.hl)
  have nf:x∉X.fs:=fun z=>by
   obtain⟨_,o,ho,_⟩:=I.ok.funs.mem z
   exact B.old x o ho (fun y=>I.ok.exfs x y z) fl.hl
  have held:∀{s':Shared},Inv X pins σ1 H1 s'→Fly s'.heap H1 lim x C od→∃oe,Held oe C od∧s'.heap.get? x=some oe∧Inv (X.held x oe) pins σ1 H1 s':=fun {s'} J' f'=>by
   obtain⟨_,_,oe,vs,h1,h2,h3,h4,_⟩:=id f'
   exact⟨oe,⟨h2,vs,h3,h4⟩,h1,J'.held h1 f'.he nl nf fun v z=>by rw[h3]at z;cases z⟩
  obtain⟨oe2,hh2,ge2,K2⟩:=held J2 fl2
  refine wpAny_handleBy_cons (codeAny_handlers_test ?_) (by intro q;cases q)
  refine fh K2 hg hm ?_ hdb
  refine i7 (C:=C) (D:=D) (bmC:=bmC) (bmD:=bmD) (hC.keeps J2.bk) (hD.keeps J2.bk) ge2 hh2.1.1 ?_
  rw[hup]
  refine codeAny_handlers_suite_as ?_
  refine pe (base:=X.base) (env:=X.env) (outer:=X.outer) (H:=H1) (lim:=lim) (C:=C) (w.1▸J2.stack) fl2 fun h3 g3 fl3=>?_
  have J3:Inv X pins σ1 H1 {s1 with heap:=h3} :=J2.gone w fl2 B (by rw[w.1];exact g3)
  obtain⟨oe,hh,ge,K3⟩:=held J3 fl3
  refine gy (X:=X.held x oe) (i:=i) (v:=.ref x) K3 hN hi (.inl hk) rfl (fun s4 K4=>?_) (.inr hk)
  refine wpAny_mono (hsu x C od oe hh pins s4 _ H1 _ K4 (h.2 x C od oe σ1 H1 hE fl.he hh (by rw[J.len,I.len]))) (fun f s5 q=>?_) fun _ _ z=>z.elim
  show wpAny _ _ (do bindName X.env n .none;unbindBehindTheSuite X.env n pos) _ _ _
  cases f with
  | next=>obtain⟨σ5,H5,K5,z⟩:=q;exact gu (K5.unheld I.ok) hN hi hk fun s6 K6=>⟨_,H5,K6,z⟩
  | brk=>obtain⟨σ5,H5,K5,z⟩:=q;exact gu (K5.unheld I.ok) hN hi hk fun s6 K6=>⟨_,H5,K6,z⟩
  | cont=>obtain⟨σ5,H5,K5,z⟩:=q;exact gu (K5.unheld I.ok) hN hi hk fun s6 K6=>⟨_,H5,K6,z⟩
  | ret u=>obtain⟨v,σ5,H5,K5,r,z⟩:=q;exact gu (K5.unheld I.ok) hN hi hk fun s6 K6=>⟨v,_,H5,K6,r,z⟩
end
end L2
namespace L2
open PySem PySem.Spec PyProof.Rows
theorem i8:plainId "proto.unchain" =true:=by decide +kernel
theorem i9:entryFor table "proto.unchain" =some Builtin.«proto.unchain» :=entryFor_of_fast (by kernel_rfl)
def Hdl (A:Around) (h:Heap):Prop:=∃(x C:Addr) (od:Option Addr) (oe:Obj),A.handled=some (.ref x)∧h.get? x=some oe∧Held oe C od
theorem Hdl.keeps {A:Around} {h h':Heap} (x:Hdl A h) (k:∀b o C,h.get? b=some o→o.cls=.ref C→h'.get? b=some o):Hdl A h':=by
 obtain⟨a,C,od,oe,h1,h2,h3⟩:=x
 exact⟨a,C,od,oe,h1,k a oe C h2 h3.1.1,h3⟩
section
variable {prog:Program} {w:World} {A:Around} {E:Value→Shared→Prop} {s:Shared}
theorem ia {α:Type} {a:Addr} {oa:Obj} {vs:Array Value} {T:String} {Q:α→Shared→Prop} (hh:Hdl A s.heap) (ha:s.heap.get? a=some oa) (hc:oa.cls=.type T) (hd:oa.data=.fields vs) (h2:2< vs.size)
  (h:∀h',h'.get? a=some (Obj.mapFields (·.setIfInBounds 2 (A.handled.getD .none)) oa)→Heap.SameBut a s.heap h'→E (.ref a) {s with heap:=h'}):wpAny (model prog w) A (raiseNew (.ref a):Sem α) Q E s:=by
 obtain⟨x,C,od,oe,e1,e2,⟨e3,_⟩,us,e4,e5⟩:=hh
 have ne:x≠a:=fun z=>by
  rw[z,ha]at e2;rw[Option.some.inj e2,e3]at hc;cases hc
 unfold raiseNew
 refine wpAny_bind (wpAny_handled ?_)
 rw[e1]
 show wpAny _ _ (if(Value.ref x != Value.ref a)=true then _ else _) _ _ _
 rw[if_pos (bne_iff_ne.mpr fun z=>ne (Value.ref.inj z))]
 refine wpAny_bind (wpAny_holding (wpAny_runValue (codeAny_builtin i9 ?_)))
 rw[Around.under_plainId i8 _]
 unfold Builtin.«proto.unchain»
 refine wpAny_bind (wpAny_field e2 e4 e5 ?_)
 rw[if_pos (by decide)]
 refine wpAny_bind (wpAny_pure ?_)
 refine wpAny_pure ?_
 refine wpAny_bind (wpAny_setField ha hd h2 (wpAny_throw ?_))
 refine h _ ?_ (Heap.SameBut.update ..)
 rw[e1]
 exact Heap.get?_update_self _ ha (Obj.isFreed_of_fields (Obj.data_mapFields hd _))
theorem iL {α:Type} {Q:α→Shared→Prop} (hh:Hdl A s.heap)
  (h:∀a h',({s with heap:=h'} :Shared).TypeIs (.ref a) "StopIteration" →s.heap.get? a=none→(∀b o,s.heap.get? b=some o→h'.get? b=some o)→E (.ref a) {s with heap:=h'}):
  wpAny (model prog w) A (do let e ←newExc (.type "StopIteration") [];raiseNew e:Sem α) Q E s:=by
 refine wpAny_bind ?_
 simp only[newExc,newTuple]
 refine wpAny_bind (wpAny_newObj_type ?_ (by size_fits))
 refine wpAny_bind (m:=firstArgMember _ _) (wpAny_of_eq (a:=Value.none) (by first | rfl | (simp only[firstArgMember];rfl)) ?_)
 refine wpAny_newObj_type ?_ (by size_fits)
 generalize hg:s.heap.push _=h1
 have k1:∀b o,s.heap.get? b=some o→h1.get? b=some o:=fun b o q=>by rw[←hg];exact Heap.get?_push_of_some _ q
 have z1:s.heap.objs.size≤h1.objs.size:=by rw[←hg,Heap.size_push];exact Nat.le_succ _
 refine ia (T:="StopIteration") (hh.keeps fun b o C q _=>Heap.get?_push_of_some _ (k1 b o q)) (Heap.get?_push_size _ rfl) rfl rfl (by simp[ownMembersOf]) fun h' e1 hs=>?_
 refine h _ _ ⟨_,e1,by rw[Obj.cls_mapFields]⟩ (Heap.get?_none_of_le z1) fun b o q=>(hs.2 b fun z=>?_).trans (Heap.get?_push_of_some _ (k1 b o q))
 exact absurd (Heap.lt_size (k1 b o q)) (by rw[z];exact Nat.lt_irrefl _)
theorem ib {it l:Addr} {i:Nat} {items:Array Value} {Q:Option Value→Shared→Prop} (hh:Hdl A s.heap) (hit:s.heap.IsListIter it l i) (hl:s.heap.IsList l items) (hx:items[i]? =none)
  (hQ:∀h',Heap.ExtBut it s.heap h'→Q none {s with heap:=h'}):wpAny (model prog w) A (pyNext (.ref it)) Q E s:=by
 obtain⟨o,ho,hc,hd⟩:=id hit
 obtain⟨ol,hol,_,nl,hdl⟩:=hl
 unfold pyNext
 refine wpAny_bind (wpAny_attempt (wpAny_callSpecial?_slot (name:=Str.ofString "__next__") hit.typeIs slot_listiter_next (wpAny_call_entry slot_listiter_next hit.typeIs entry_listiter_next ?_ (args_listiter_next _))))
 show wpAny _ _ (field (.ref it) 0 >>= _) _ _ s
 refine wpAny_bind (wpAny_field ho hd (x:=.ref l) rfl ?_)
 show wpAny _ _ (if(Value.ref l == Value.none)=true then _ else _) _ _ s
 rw[if_neg (show ¬((Value.ref l == Value.none)=true)from Bool.false_ne_true)]
 show wpAny _ _ (field (.ref it) 1 >>= _) _ _ s
 refine wpAny_bind (wpAny_field ho hd (x:=.int i 0) rfl ?_)
 show wpAny _ _ (seqItems? (.ref l) >>= _) _ _ s
 refine wpAny_bind (wpAny_seqItems hol hdl ?_)
 simp only[Int.toNat_natCast,hx]
 refine wpAny_bind (wpAny_rule (wpAny_bind (wpAny_setField ho hd (by simp) ?_)))
 refine iL (A:=A.in1) ?_ fun a h' tp nw hk=>?_
 ·exact Hdl.keeps (A:=A.in1) hh fun b ob C q z=>(Heap.get?_update_other _ _ fun y=>by
   rw[←y,ho]at q;rw[←Option.some.inj q,hc]at z;cases z).trans q
 ·refine wpAny_bind (wpAny_isInstance (T:="StopIteration") (b:=true) tp isSubtype_stop ?_)
  exact wpAny_pure (hQ _ fun b ob hb q=>hk b ob ((Heap.get?_update_other _ _ (Ne.symm hb)).trans q))
theorem gY {it l:Addr} {i:Nat} {items:Array Value} {Q:Option Value→Shared→Prop} (hh:Hdl A s.heap) (hit:IsTupIter s.heap it l i) (hl:IsTup s.heap l items) (hx:items[i]? =none)
  (hQ:∀h',Heap.ExtBut it s.heap h'→Q none {s with heap:=h'}):wpAny (model prog w) A (pyNext (.ref it)) Q E s:=by
 obtain⟨o,ho,hc,hd⟩:=id hit
 obtain⟨ol,hol,_,nl,hdl⟩:=hl
 unfold pyNext
 refine wpAny_bind (wpAny_attempt (wpAny_callSpecial?_slot (name:=Str.ofString "__next__") hit.typeIs slot_tupleiter_next (wpAny_call_entry slot_tupleiter_next hit.typeIs entry_tupleiter_next ?_ (args_tupleiter_next _))))
 show wpAny _ _ (field (.ref it) 0 >>= _) _ _ s
 refine wpAny_bind (wpAny_field ho hd (x:=.ref l) rfl ?_)
 show wpAny _ _ (if(Value.ref l == Value.none)=true then _ else _) _ _ s
 rw[if_neg (show ¬((Value.ref l == Value.none)=true)from Bool.false_ne_true)]
 show wpAny _ _ (field (.ref it) 1 >>= _) _ _ s
 refine wpAny_bind (wpAny_field ho hd (x:=.int i 0) rfl ?_)
 show wpAny _ _ (seqItems? (.ref l) >>= _) _ _ s
 refine wpAny_bind (wpAny_seqItems hol hdl ?_)
 simp only[Int.toNat_natCast,hx]
 refine wpAny_bind (wpAny_rule (wpAny_bind (wpAny_setField ho hd (by simp) ?_)))
 refine iL (A:=A.in1) ?_ fun a h' tp nw hk=>?_
 ·exact Hdl.keeps (A:=A.in1) hh fun b ob C q z=>(Heap.get?_update_other _ _ fun y=>by
   rw[←y,ho]at q;rw[←Option.some.inj q,hc]at z;cases z).trans q
 ·refine wpAny_bind (wpAny_isInstance (T:="StopIteration") (b:=true) tp isSubtype_stop ?_)
  exact wpAny_pure (hQ _ fun b ob hb q=>hk b ob ((Heap.get?_update_other _ _ (Ne.symm hb)).trans q))
theorem kj {t:Addr} {items:Array Value} {Q:List Value→Shared→Prop} (hh:Hdl A s.heap) (ht:IsTup s.heap t items)
  (hQ:∀h',Heap.ExtBut s.heap.objs.size s.heap h'→Q items.toList {s with heap:=h'}):wpAny (model prog w) A (unpackItems (.ref t) items.size none) Q E s:=by
 have hlt:t≠s.heap.objs.size:=by obtain⟨o,ho,_⟩:=ht;exact Nat.ne_of_lt (Heap.lt_size ho)
 unfold unpackItems
 refine wpAny_bind ?_
 unfold notIterableAtAll
 refine wpAny_bind (wpAny_specialOf ht.typeIs slot_tuple_iter.lookup (wpAny_pure ?_))
 simp only[Bool.false_eq_true,if_false]
 refine wpAny_bind (wpAny_holding (iter_tuple ht ?_))
 refine wpAny_bind (wpAny_holding (draw_tuple hlt items.size 0 _ _ ⟨_,Heap.get?_push_size _ rfl,rfl,rfl⟩ (ht.push _) (by omega) fun h1 hit1 hs1=>?_))
 rw[show List.take items.size (List.drop 0 items.toList)=items.toList by rw[List.drop_zero];exact List.take_of_length_le (by simp),if_neg (by simp)]
 have kp:∀b o,s.heap.get? b=some o→h1.get? b=some o:=fun b o q=>(hs1.2 b (Nat.ne_of_lt (Heap.lt_size q))).trans (Heap.get?_push_of_some _ q)
 refine wpAny_bind (wpAny_holding (gY (hh.keeps fun b o C q _=>kp b o q) hit1 ((ht.push _).extBut hs1.extBut hlt) (by simp) fun h2 he2=>?_))
 simp only[Option.isSome_none,Bool.false_eq_true,if_false]
 exact wpAny_pure (hQ h2 fun b o hb q=>he2 b o hb (kp b o q))
theorem fE {env:Env} {elts:List Expr} {x1} {pos:Pos} {t:Addr} {items:Array Value} {Q:Unit→Shared→Prop} (hh:Hdl A s.heap) (ht:IsTup s.heap t items)
  (hn:(assignEach elts env).length=items.size) (hstar:(assignEach elts env).findIdx? (·.1)=none)
  (h:∀h',Heap.ExtBut s.heap.objs.size s.heap h'→wpAny (model prog w) A (assignInOrder ((assignEach elts env).map (·.2)) items.toList) Q E {s with heap:=h'}):
  wpAny (model prog w) A (assign (.Tuple elts x1 pos) env (.ref t)) Q E s:=by
 rw[assign_Tuple]
 refine wpAny_bind (wpAny_standAt ?_)
 unfold unpack
 rw[hn,hstar]
 exact wpAny_bind (wpAny_holding (kj hh ht h))
end
end L2
namespace L2
open PySem PySem.Spec PyProof.Rows
def HdX (X:Cx):Prop:=∃(x C:Addr) (od:Option Addr) (oe:Obj),X.A.handled=some (.ref x)∧Held oe C od∧X.s₀.heap.get? x=some oe∧X.H₀ x=none∧x∉X.fs∧x∉X.ex
section
variable {X:Cx} {pins:List (Addr×Obj)} {σ:St} {H:Hp} {s:Shared}
theorem Inv.hdl (I:Inv X pins σ H s) (x:HdX X):Hdl X.A s.heap:=by
 obtain⟨a,C,od,oe,h1,h2,h3,h4,h5,h6⟩:=x
 exact⟨a,C,od,oe,h1,I.base.keep a oe h3 h4 h5 h6,h2⟩
theorem HdX.comp {scope:Scope} {N:List Str} {C:Addr} {fp:List Addr} (x:HdX X) (I:Inv X pins σ H s) (f:∀b∈fp,FpOk X pins H b):HdX (aD X scope N s H C fp):=by
 obtain⟨a,C',od,oe,h1,h2,h3,h4,h5,h6⟩:=x
 refine⟨a,C',od,oe,h1,h2,I.base.keep a oe h3 h4 h5 h6,I.base.free a oe h3 h4 h6,fun m=>?_,fun m=>?_⟩
 ·rcases List.mem_cons.mp (I.stkSub a m)with z | z
  ·have:=Heap.lt_size h3
   rw[z]at this
   exact absurd (Nat.lt_of_lt_of_le this I.ok.above) (Nat.lt_irrefl _)
  ·exact h5 z
 ·rcases (f a m).2.2.2.1 with z | z
  ·exact h6 z
  ·exact absurd (Nat.lt_of_lt_of_le (Heap.lt_size h3) z) (Nat.lt_irrefl _)
end
structure TurnH (P:Program) (w:World) (K:PySem.W.Frag) (A:Around) (tg:Expr) (J:It) (fp:List Addr) (it:Addr) (tn:Nat→Heap→Prop):Prop where
 obj:∀i h,tn i h→∀b∈fp,∃o,h.get? b=some o∧∀v,o.data≠.cell v
 keep:∀i h h',tn i h→(∀b∈fp,∀o,h.get? b=some o→h'.get? b=some o)→tn i h'
 item:∀(X:Cx),X.prog=P→X.w=w→X.K=K→X.A=A→HdX X→∀(i:Nat) (pins:List (Addr×Obj)) (s:Shared) (σ:St) (H:Hp) (E:Value→Shared→Prop),Inv X pins σ H s→(∀b∈fp,FpOk X pins H b)→tn i s.heap→J.go i H→
  wpAny (model P w) X.A (pyNext (.ref it)) (fun r s1=>∃u,r=some u∧
   wpAny (model P w) X.A (letOwnedTupleGo tg (.ref it) u) (fun _ s2=>∃x H',Inv X pins σ H' s2∧RelV x u∧J.yld i H x H'∧tn (i+1) s2.heap∧∀b∈fp,H' b=none) E s1) E s
 done:∀(X:Cx),X.prog=P→X.w=w→X.K=K→X.A=A→HdX X→∀(i:Nat) (pins:List (Addr×Obj)) (s:Shared) (σ:St) (H:Hp) (E:Value→Shared→Prop),Inv X pins σ H s→(∀b∈fp,FpOk X pins H b)→tn i s.heap→J.stop i H→
  wpAny (model P w) X.A (pyNext (.ref it)) (fun r s1=>r=none∧Inv X pins σ H s1) E s
 self:∀(A:Around) (i:Nat) (s:Shared) (Q:Value→Shared→Prop) (E:Value→Shared→Prop),tn i s.heap→Q (.ref it) s→wpAny (model P w) A (pyIter (.ref it)) Q E s
theorem ll {P:Program} {w:World} {K:PySem.W.Frag} {A:Around} {tg:Expr} (a it:Addr):TurnH P w K A tg (vM K a) [it] it (fun i h=>h.IsListIter it a i) where
 obj:=(eW (P:=P) (w:=w) (K:=K) (tg:=tg) a it).obj
 keep:=(eW (P:=P) (w:=w) (K:=K) (tg:=tg) a it).keep
 self:=(eW (P:=P) (w:=w) (K:=K) (tg:=tg) a it).self
 item:=by
  intro X hP hw hK hA hx i pins s σ H E I hf st hg
  subst hP hw hK hA
  obtain⟨xs,x,hq,hx⟩:=hg
  obtain⟨its,rv,p,hz⟩:=I.list hq
  obtain⟨u,hu,ru⟩:=rv.get hx
  obtain⟨f0,f1,f2,f3,f4,f5⟩:=hf it (by simp)
  refine wpAny_pyNext_list_item st p.isList (x:=u) (by simpa using hu) fun h' st' sb=>?_
  have I1:Inv X pins σ H {s with heap:=h'} :=I.turned (t':=s.toks) (fun b o hb e=>(sb.2 b hb).trans e) f0 f1 f3 f4 f5
  obtain⟨o,e,c,d⟩:=id st'
  exact⟨u,rfl,lE (s:={s with heap:=h'}) e c d (by decide) ⟨x,H,I1,ru,⟨rfl,fun ys hy=>by rw[I.list_inj hy hq];exact hx⟩,st',fun b hb=>(hf b hb).1⟩⟩
 done:=by
  intro X hP hw hK hA hx i pins s σ H E I hf st hg
  subst hP hw hK hA
  obtain⟨xs,hq,hl'⟩:=hg
  obtain⟨its,rv,p,hz⟩:=I.list hq
  obtain⟨f0,f1,f2,f3,f4,f5⟩:=hf it (by simp)
  have hl:=rv.length
  exact ib (I.hdl hx) st p.isList (by simp;omega) fun h' eb=>⟨rfl,I.turned (t':=s.toks) (fun b o hb e=>eb b o hb e) f0 f1 f3 f4 f5⟩
def wm (X:Cx) (tg iter:Expr) (wi:TI):Prop:=
 ∀ (pins : List (Addr × Obj)) (s : Shared) (σ : St) (H : Hp) (R : It → Hp → Prop), Inv X pins σ H s → wi σ H R →
  wpAny (model X.prog X.w) X.A (eval iter X.env) (fun v s1=>wpAny (model X.prog X.w) X.A (pyIter v) (fun itv s2=>∃(it:Addr) (fp:List Addr) (tn:Nat→Heap→Prop) (J:It) (H':Hp),itv=.ref it∧Inv X pins σ H' s2∧TurnH X.prog X.w X.K X.A tg J fp it tn∧tn 0 s2.heap∧(∀b∈fp,FpOk X pins H' b)∧R J H') X.xe s1) X.xe s
section
variable {X:Cx} {tg:Expr} {K:PySem.W.Frag}
theorem ph {l:Expr} {tl:TE} (hK:X.K=K) (hl:PE X l tl):wm X tg l (lF K tl):=by
 subst hK
 intro pins s σ H R I h
 refine bO (hl pins s σ H _ I h) fun v s1 ⟨x,H1,I1,r1,q1⟩=>?_
 obtain⟨a,e,⟨xs,hq⟩,q⟩:=q1
 subst e
 cases r1
 obtain⟨its,rv,p,hz⟩:=I1.list hq
 refine wpAny_pyIter_list p.isList ?_
 refine⟨s1.heap.objs.size,[s1.heap.objs.size],_,_,H1,rfl,I1.kept (t':=s1.toks) fun b o e=>Heap.get?_push_of_some _ e,ll a _,⟨_,Heap.get?_push_size _ rfl,rfl,rfl⟩,fun b hb=>?_,q⟩
 have e:b=s1.heap.objs.size:=by simpa using hb
 subst e
 exact I1.fpOk (Nat.le_refl _) (I1.hok.fresh (Nat.le_refl _))
theorem qS {pos:Pos} {es:List Expr} {k:Nat} {t:qi} {n:Nat} (hK:X.K=K) (hx:HdX X) (h:tG X es t)
  (hn:(assignEach es X.env).length=n:=by rfl) (hst:(assignEach es X.env).findIdx? (·.1)=none:=by rfl):PG X (.Tuple es k pos) (bK K n t):=by
 subst hK
 intro pins s σ H v u Q I r hw
 obtain⟨a,xs,e1,hq,hl,hw⟩:=hw
 subst e1
 cases r
 obtain⟨its,rv,ht,hz⟩:=I.tuple hq
 refine fE (I.hdl hx) ht (by simp[hn,←hl,rv.length]) hst fun h' hx=>?_
 have I1:Inv X pins σ H {s with heap:=h'} :=I.kept (t':=s.toks) fun b o e=>hx b o (Nat.ne_of_lt (Heap.lt_size e)) e
 exact h pins _ σ H xs _ Q I1 (by simpa using rv) hw
end
section
variable {X:Cx} {scope:Scope} {N:List Str} {cap:List (Option Nat)} {tg iter elt:Expr} {ifs:List Expr} {pos:Pos} {wi:TI} {g:TG} {tf:TT} {te:TE}
theorem lm (S:CompScope X scope N cap) (hx:HdX X)
  (hg:∀s H C fp,HdX (aD X scope N s H C fp)→PG (aD X scope N s H C fp) tg g) (hf:∀s H C fp,sJ (aD X scope N s H C fp) ifs tf) (he:∀s H C fp,PE (aD X scope N s H C fp) elt te)
  {pins:List (Addr×Obj)} {σ:St} {H2:Hp} {s2:Shared} {it:Addr} {fp:List Addr} {tn:Nat→Heap→Prop} {J:It} {Qv:VK} {E:Value→Shared→Prop} {RR:Value→Addr→Result→Shared→Prop}
  (I2:Inv X pins σ H2 s2) (T:TurnH X.prog X.w X.K X.A tg J fp it tn) (st2:tn 0 s2.heap) (f2:∀b∈fp,FpOk X pins H2 b) {W:Nat→Nat→List V→Hp→Prop} (w0:∃m,W 0 m [] H2)
  (turn:∀i m ys H,W i m ys H→ys.length< sizeLine∧((J.stop i H∧∀D,H D=none→Qv (.ref D) (bu H D (.lst ys)))∨
   (J.go i H∧∃N:List V→Hp→Prop,(∀ys' H',N ys' H'→∃m',m'< m∧W (i+1) m' ys' H')∧∀x H',J.yld i H x H'→g x (bD cap σ) H' fun σ2 H2=>Keep (bD cap σ) σ2∧tf σ2 H2 fun b H3=>if b=true then te σ2 H3 fun y H4=>N (ys++ [y]) H4 else N ys H3)))
  (fin:∀(D C:Addr) (σ':St) (H':Hp) (s':Shared) (its:List Value) (k:Nat) (ys:List V),s2.heap.objs.size≤D→s2.heap.objs.size≤C→D≠C→Inv (aD X scope N s2 H2 C fp) [(D,cR its k)] σ' H' s'→Vals ys its→ys.length≤sizeLine→
   Qv (.ref D) (bu H' D (.lst ys))→RR (.ref D) C (.ok .next) s'):
  wpAny (model X.prog X.w) X.A (newList []) (fun acc s₃=>wpAny (model X.prog X.w) X.A (newFunctionEnv scope X.env.globals (bM X.env scope.names []) [] X.env.qual none .none (some X.env)) (fun cenv s₄=>
   codeAny (model X.prog X.w) X.A (.compStart (.ListComp elt [⟨tg,iter,ifs,0⟩] scope pos) 0 (.ref it) acc {cenv with scope:=relabel scope X.env}) (RR acc cenv.locals) s₄) E s₃) E s2:=by
 have frz:HdX X:=hx
 refine wpAny_newObj_type (gF ?_)
 generalize hD:s2.heap.objs.size=D
 generalize hH3:s2.heap.push {cls:=.type "list",dict:=none,data:=.seq ([]:List Value).toArray} =h3
 have hz3:h3.objs.size=D+1:=by rw[←hH3,Heap.size_push,hD]
 dsimp only
 have eC:({s2 with heap:=h3} :Shared).heap.objs.size=D+1:=hz3
 rw[show h3.objs.size=D+1 from hz3]
 generalize hH4:pushCells (h3.push {cls:=.type "dict",data:=.dict #[]}) scope.names=h4
 have hz3':(h3.push {cls:=.type "dict",data:=.dict #[]}).objs.size=D+1+1:=by rw[Heap.size_push,hz3]
 have ck:CellsOk h4 (D+1+1) (cellsFrom (D+1+1) scope.names []):=by
  have:=cellsFrom_ok scope.names (h3.push {cls:=.type "dict",data:=.dict #[]}) (D+1+1) [] ⟨fun _ _ hm=>(nomatch hm),List.Pairwise.nil⟩ (by rw[hz3'];exact Nat.le_refl _)
  rw[hz3',hH4]at this
  exact this
 have k23:∀b o,s2.heap.get? b=some o→h3.get? b=some o:=fun b o e=>by rw[←hH3];exact Heap.get?_push_of_some _ e
 have k34:∀b o,h3.get? b=some o→h4.get? b=some o:=fun b o e=>by rw[←hH4];exact pushCells_keeps _ _ b o (Heap.get?_push_of_some _ e)
 have hD4:h4.get? D=some (cR [] 0):=k34 _ _ (by rw[←hH3,←hD];exact Heap.get?_push_size _ rfl)
 have hn4:h4.Ns (D+1) fun _=>none:=by
  rw[←hH4,←hz3]
  exact(Heap.Ns.new h3 (.type "dict")).keeps (pushCells_keeps _ _)
 have fpD:∀b∈fp,b< D:=fun b hb=>by
  obtain⟨o,e,_⟩:=T.obj _ _ st2 b hb
  rw[←hD];exact Heap.lt_size e
 have hlt:∀b∈fp,b< D+1:=fun b hb=>Nat.lt_succ_of_lt (fpD b hb)
 have hDC:s2.heap.objs.size≤D+1:=by rw[hD];exact Nat.le_succ _
 have hDs:s2.heap.objs.size≤D:=by rw[hD];exact Nat.le_refl _
 have IC:Inv (aD X scope N s2 H2 (D+1) fp) [] (bD cap σ) H2 {s2 with heap:=h4} :=
  gG S I2 hDC ck f2 hlt ⟨_,_,rfl⟩ hn4 fun b o e=>k34 b o (k23 b o e)
 have okC:=IC.ok
 have nfs:∀{b:Addr},s2.heap.objs.size≤b→b∉frs X.stack:=fun {b} hb hm=>by
  obtain⟨_,o,ho,_⟩:=I2.stack.mem hm
  exact absurd (Nat.lt_of_lt_of_le (Heap.lt_size ho) hb) (Nat.lt_irrefl _)
 have frc:∀x∈scope.names,x.2=.free→∃c,X.env.cells.lookup x.1=some c:=fun x hx hk=>I2.ok.has x.1 (S.free x hx hk)
 have cellsD:∀x c,(aD X scope N s2 H2 (D+1) fp).env.cells.lookup x=some c→c≠D:=fun x c e=>by
  rcases cn frc e with a | ⟨_,a⟩
  ·have q:D+1+1≤c:=(ck.empty x c a).2
   exact Nat.ne_of_gt (Nat.lt_of_lt_of_le (Nat.lt_of_lt_of_le (Nat.lt_succ_self D) (Nat.le_succ _)) q)
  ·obtain⟨v,q⟩:=I2.cell x c a
   have:=q.lt
   rw[hD]at this
   exact Nat.ne_of_lt this
 have fpO:∀{H':Hp} {its:List Value} {k:Nat},(∀b∈fp,H' b=none)→∀b∈fp,FpOk (aD X scope N s2 H2 (D+1) fp) [(D,cR its k)] H' b:=fun {H' its k} hn b hb=>
  ⟨hn b hb,Nat.ne_of_lt (hlt b hb),okC.exfs b hb,.inl hb,(okC.exf b hb).2,fun p hp=>by
   have e:p=(D,cR its k):=by simpa [aD] using hp
   subst e
   exact Nat.ne_of_gt (fpD b hb)⟩
 have pinD:∀{σ':St} {H':Hp} {s':Shared} {its:List Value} {k:Nat},Inv (aD X scope N s2 H2 (D+1) fp) [] σ' H' s'→s'.heap.get? D=some (cR its k)→H' D=none→Inv (aD X scope N s2 H2 (D+1) fp) [(D,cR its k)] σ' H' s':=fun {σ' H' s' its k} J e n=>
  J.pins_of fun p hp=>by
   have e':p=(D,cR its k):=by simpa using hp
   subst e'
   exact⟨e,n,Nat.ne_of_lt (Nat.lt_succ_self _),nfs hDs,fun v z=>by
    have z':Data.seq its.toArray k=Data.cell v:=z
    cases z'⟩
 have loop:codeAny (model X.prog X.w) X.A (.compLoop (.ListComp elt [⟨tg,iter,ifs,0⟩] scope pos) 0 (.ref it) (.ref D) (aD X scope N s2 H2 (D+1) fp).env) (RR (.ref D) (D+1)) {s2 with heap:=h4} :=by
  obtain⟨m0,w0⟩:=w0
  refine ft (fun n s'=>∃i ys its k σ' H',Inv (aD X scope N s2 H2 (D+1) fp) [(D,cR its k)] σ' H' s'∧tn i s'.heap∧(∀b∈fp,H' b=none)∧Vals ys its∧(∀(j:Nat) (v:V),(bD cap σ)[j]? =some (some v)→σ'[j]? =some (some v))∧W i n ys H') ?_ m0
   ⟨0,[],[],0,bD cap σ,H2,pinD IC hD4 (I2.hok.fresh hDs),T.keep _ _ _ st2 fun b hb o e=>k34 b o (k23 b o e),fun b hb=>(f2 b hb).1,.nil,fun _ _ e=>e,w0⟩
  rintro n s3 ⟨i,ys,its,k,σ3,H3,I3,st3,fr3,rv,kp,w3⟩
  obtain⟨hyl,tr⟩:=turn i n ys H3 w3
  have pin3:=I3.pin (D,cR its k) (List.mem_append_right _ List.mem_cons_self)
  rcases tr with⟨stop,qn⟩ | ⟨go,NN,hNN,step⟩
  ·refine bO (T.done (aD X scope N s2 H2 (D+1) fp) rfl rfl rfl rfl (hx.comp I2 f2) i _ s3 σ3 H3 _ I3 (fpO fr3) st3 stop) fun r s4 ⟨hr,I4⟩=>?_
   subst hr
   exact fin D (D+1) σ3 H3 s4 its k ys hDs hDC (Nat.ne_of_lt (Nat.lt_succ_self _)) I4 rv (Nat.le_of_lt hyl) (qn D pin3.2.1)
  ·have I3':Inv (aD X scope N s2 H2 (D+1) fp) [(D,cR its k)] (bD cap σ) H3 s3:=I3.weak (by rw[I3.len,IC.len]) kp
   refine bO (T.item (aD X scope N s2 H2 (D+1) fp) rfl rfl rfl rfl (hx.comp I2 f2) i _ s3 _ H3 _ I3' (fpO fr3) st3 go) fun r s4 ⟨u,hr,h4⟩=>?_
   subst hr
   refine bO h4 fun _ s5 ⟨x,H5,I5,r5,y5,st5,fr5⟩=>?_
   have I5':=I5.pinned (fpO fr5) (T.obj _ _ st5)
   refine bO (hg _ _ _ _ (hx.comp I2 f2) _ s5 _ H5 x u _ I5' r5 (step x H5 y5)) fun _ s6 ⟨σ6,H6,I6,kp6,q6⟩=>?_
   refine bO (hf _ _ _ _ _ s6 σ6 H6 _ I6 q6) fun ok s7 ⟨H7,I7,q7⟩=>?_
   have back:∀{s8:Shared} {H8:Hp},Inv (aD X scope N s2 H2 (D+1) fp) ([(D,cR its k)]++fK fp s5.heap) σ6 H8 s8→tn (i+1) s8.heap∧(∀b∈fp,H8 b=none)∧s8.heap.get? D=some (cR its k)∧H8 D=none:=fun {s8 H8} I8=>by
    have at_:∀b∈fp,∀o,s5.heap.get? b=some o→s8.heap.get? b=some o∧H8 b=none:=fun b hb o e=>by
     have z:=I8.pin (b,o) (List.mem_append_right _ (List.mem_append_right _ (dX hb e)))
     exact⟨z.1,z.2.1⟩
    have pd:=I8.pin (D,cR its k) (List.mem_append_right _ (List.mem_append_left _ List.mem_cons_self))
    refine⟨T.keep _ _ _ st5 fun b hb o e=>(at_ b hb o e).1,fun b hb=>?_,pd.1,pd.2.1⟩
    obtain⟨o,e,d⟩:=T.obj _ _ st5 b hb
    exact(at_ b hb o e).2
   cases ok with
   | false =>
    rw[if_neg Bool.false_ne_true]at q7 ⊢
    obtain⟨m',hm,w'⟩:=hNN _ _ q7
    obtain⟨t7,f7,d7,n7⟩:=back I7
    exact⟨m',hm,i+1,ys,its,k,σ6,H7,I7.unpinned,t7,f7,rv,fun j v e=>Keep.get kp6 e,w'⟩
   | true =>
    rw[if_pos rfl]at q7 ⊢
    refine bO (he _ _ _ _ _ s7 σ6 H7 _ I7 q7) fun y8 s8 ⟨y,H8,I8,r8,q8⟩=>?_
    obtain⟨m',hm,w'⟩:=hNN _ _ q8
    obtain⟨t8,f8,d8,n8⟩:=back I8
    refine append_at (D:=D) (its:=its.toArray) (n:=k) d8 (fun h' hs' hD'=>?_) (by rw[List.size_toArray,←rv.length];exact Nat.le_of_lt hyl)
    have J0:Inv (aD X scope N s2 H2 (D+1) fp) [] σ6 H8 s8:=I8.pins_of fun p hp=>by cases hp
    have J1:Inv (aD X scope N s2 H2 (D+1) fp) [] σ6 H8 {s8 with heap:=h'} :=J0.turned (it:=D) (t':=s8.toks) (fun b o hb e=>(hs'.2 b hb).trans e) n8 (Nat.ne_of_lt (Nat.lt_succ_self _)) (.inr hDs) cellsD fun p hp=>by
     have:p∈([]:List (Addr×Obj)):=hp
     cases this
    refine⟨m',hm,i+1,ys++ [y],its++ [y8],k+1,σ6,H8,pinD J1 (by simpa using hD') n8,T.keep _ _ _ t8 fun b hb o e=>(hs'.2 b (Nat.ne_of_lt (fpD b hb))).trans e,f8,rv.append (.cons r8 .nil),fun j v e=>Keep.get kp6 e,w'⟩
 exact codeAny_compStart_list loop (wpAny_mono (T.self _ 0 _ _ _ (T.keep _ _ _ st2 fun b hb o e=>k34 b o (k23 b o e)) loop) (fun _ _ h=>h) fun _ _ h=>h)
theorem pi (S:CompScope X scope N cap) (hx:HdX X) (hi:wm X tg iter wi)
  (hg:∀s H C fp,HdX (aD X scope N s H C fp)→PG (aD X scope N s H C fp) tg g) (hf:∀s H C fp,sJ (aD X scope N s H C fp) ifs tf) (he:∀s H C fp,PE (aD X scope N s H C fp) elt te)
  (hs:∀x,foldedSetIterable iter X.env x=pure x:=by intro _;rfl):PE X (.ListComp elt [⟨tg,iter,ifs,0⟩] scope pos) (jI cap wi g tf te):=by
 intro pins s σ H Q I h
 rw[eval_ListComp]
 have frc:∀x∈scope.names,x.2=.free→∃c,X.env.cells.lookup x.1=some c:=fun x hx hk=>I.ok.has x.1 (S.free x hx hk)
 refine wpAny_comprehension_free (use:=none) rfl hs (dF frc) S.kind (fe S) (bO (hi pins s σ H _ I h) fun v s1 h1=>bO h1 fun itv s2 h2=>?_)
 obtain⟨it,fp,tn,J,H2,rfl,I2,T,st2,f2,W,w0,turn⟩:=h2
 refine lm (RR:=fun acc C=>compPost (model X.prog X.w) X.A X.xe none (EP X pins σ Q) acc C) S hx hg hf he I2 T st2 f2 w0 turn fun D C σ' H' s' its k ys hD hC hDC I' rv hl q=>?_
 obtain⟨m,hn,_⟩:=I'.loc
 exact⟨m,hn,fun h' hs'=>⟨.ref D,_,gH I2 f2 hD hC hDC I' rv hl hs',rfl,q⟩⟩
end
end L2
namespace L2
open PySem PySem.Spec PySem.Calls PyProof.Rows
open PySem.W (findIn findObj mroIn looks_findIn looks_find looks_mroIn class_get KitX clsIn Frag)
structure XK1 (K:Frag) (C:Addr):Prop where
 ga:findIn K (.ref C) "__getattribute__" =some (some (.builtin "BaseException.__getattribute__"))
 gt:findIn K (.ref C) "__getattr__" =some none
 cl:∀od,findObj K C od "__class__" =some (.bind (.builtin "getset_descriptor.__get__") (.builtin "object.__class__"))
 ob:mroIn K C (.type "object")=some true
 be:mroIn K C (.type "BaseException")=some true
section
variable {prog:Program} {w:World} {A:Around} {E:Value→Shared→Prop} {s:Shared} {K:Frag} {x C:Addr} {ox:Obj} {od:Option Obj}
theorem nb {Q:Option Value→Shared→Prop} (Z:XK1 K C) (X:K.In s.heap) (I:PySem.W.InstAt s.heap x ox C od) (h:Q (some (.ref C)) {s with toks:=s.toks+1}):wpAny (model prog w) A (getAttr? (.ref x) "__class__") Q E s:=by
 obtain⟨hh,g,d,t,os⟩:=s
 have L0:=I.type (M:=model prog w)
 have L1:=looks_findIn (M:=model prog w) X Z.ga
 have L2:=looks_findIn (M:=model prog w) X Z.gt
 have L3:=looks_find (M:=model prog w) X I (Z.cl od)
 have L4:=looks_mroIn (M:=model prog w) X Z.be
 unfold getAttr? getAttrBy? getAttrBy
 refine wpAny_bind (wpAny_mkText (wpAny_bind (wpAny_attempt (wpAny_holding (wpAny_bind (L0.at (wpAny_bind (L1.at ?_))))))))
 dsimp only
 rw[show(Value.builtin "BaseException.__getattribute__" == Value.builtin "object.__getattribute__")=false from by decide +kernel,Bool.and_false,if_neg (by decide)]
 unfold getAttrByItsOwn hookBefore
 rw[if_pos (show onTheHeap (Value.ref C)=true from rfl)]
 refine wpAny_bind (L2.at ?_)
 refine wpAny_bind (wpAny_attempt (wpAny_holding ?_))
 unfold callGetattribute
 rw[if_neg (by simp)]
 unfold boundAndCalled
 rw[PySem.F.excAttr_ValueError.ga.bind]
 have LI:PySem.W.Looks (model prog w) hh (isInstance (.ref x) (.type "BaseException")) true:=L0.andThen L4
 have chk:∀{A':Around} {E':Value→Shared→Prop} {Q':Unit→Shared→Prop} {tk:Nat},Q' () ⟨hh,g,d,tk,os⟩→wpAny (model prog w) A' (checkBuiltinCall "BaseException.__getattribute__" ⟨[.ref x,.str "__class__" t],[]⟩) Q' E' ⟨hh,g,d,tk,os⟩:=fun {A' E' Q' tk} hq=>by
  have hk:builtinKind "BaseException.__getattribute__" =some .slot:=by decide +kernel
  have hsplit:splitId "BaseException.__getattribute__" =some ("BaseException","__getattribute__"):=by decide +kernel
  have ha:=F.args_bexc_ga (.ref x) (.str "__class__" t)
  simp only[checkBuiltinCall,hk,hsplit]
  refine wpAny_bind (LI.at ?_)
  repeat wp_step
  exact hq
 refine wpAny_bind (wpAny_pure (wpAny_call (codeAny_call_builtin PySem.F.excAttr_ValueError.ga.plain F.entry_bexc_ga (chk ?_))))
 refine wpAny_bind (m:=slotArgs _ _ _) (wpAny_pure ?_)
 refine wpAny_bind (wpAny_pure (wpAny_bind (L0.at (wpAny_bind (L3.at ?_)))))
 show wpAny _ _ (holding [.builtin "object.__class__"] (call (.builtin "getset_descriptor.__get__") [.builtin "object.__class__",.ref x,.ref C]) >>= ret) _ _ _
 refine wpAny_bind (wpAny_holding (wpAny_call (class_get (s:=⟨hh,g,d,t+1,os⟩) (ox:=ox) (od:=od) X I Z.ob (wpAny_pure ?_))))
 exact PySem.W.handed_on rfl (wpAny_pure h)
theorem pj (Z:XK1 K C):KitX K (.ref x) (.ref C) (fun h=>PySem.W.InstAt h x ox C od) where
 ty:=fun _ _ _ I=>I.type
 it:=fun _ _ X _=>by
  obtain⟨cd,a,_⟩:=Option.bind_eq_some_iff.mp Z.ob
  unfold clsIn at a
  split at a
  ·rename_i c' d' cd' sl' ho
   intro A' Q' E' s' k q
   unfold isType loadHead
   exact wpAny_bind (wpAny_loadPart (k _ _ (X _ _ ho)) (wpAny_pure q))
  ·cases a
 ne:=fun h tp dd its n sl X htp=>by
  obtain⟨cd,a,_⟩:=Option.bind_eq_some_iff.mp Z.ob
  refine Bool.eq_false_iff.mpr fun q=>?_
  have e:C=tp:=Value.ref.inj (beq_iff_eq.mp q)
  subst e
  unfold clsIn at a
  split at a
  ·rename_i c' d' cd' sl' ho
   have z:=(X _ _ ho).symm.trans htp
   cases z
  ·cases a
 ca:=fun X I k=>nb Z X I k
theorem ln {c:Value} {b:Bool} {Q:Value→Shared→Prop} (Z:XK1 K C) (X:K.In s.heap) (I:PySem.W.InstAt s.heap x ox C od) (e:PySem.W.kitOne K (.ref C) c=some b) (h:∀tk,Q (.bool b) {s with toks:=tk}):
  wpAny (model prog w) A (call (.builtin "isinstance") [.ref x,c]) Q E s:=PySem.W.kia_one (pj Z) X I e (fun z=>by cases z) h
end
end L2
namespace L2
open PySem PySem.Spec PySem.Calls PyProof.Rows
def HdE (X:Cx) (x C:Addr):Prop:=∃(oe:Obj) (od:Option Addr),(∀d,od=some d→∃o u,X.H₀ d=some (.frz o u))∧X.A.handled=some (.ref x)∧Held oe C od∧X.s₀.heap.get? x=some oe∧X.H₀ x=none∧x∉X.fs∧x∉X.ex
theorem HdE.hdx {X:Cx} {x C:Addr} (h:HdE X x C):HdX X:=let ⟨oe,od,_,z⟩:=h;⟨x,C,od,oe,z⟩
theorem Inv.inst {X:Cx} {pins:List (Addr×Obj)} {σ:St} {H:Hp} {s:Shared} {x C:Addr} (I:Inv X pins σ H s) (h:HdE X x C):∃ox od,PySem.W.InstAt s.heap x ox C od:=by
 obtain⟨oe,od,hf,h1,⟨⟨h2,h2'⟩,vs,h7,h8⟩,h3,h4,h5,h6⟩:=h
 have nc:PySem.W.notCls oe=true:=by unfold PySem.W.notCls;rw[h7]
 have hk:=I.base.keep x oe h3 h4 h5 h6
 cases od with
 | none=>exact⟨oe,none,hk,h2,nc,by rw[h2'];trivial⟩
 | some d =>
  obtain⟨o,u,z⟩:=hf d rfl
  have:=I.hok d _ (I.base.frzs d o u z)
  exact⟨oe,some o,hk,h2,nc,by rw[h2'];exact this.1⟩
def kv:V→Option Value
 | .ref D=>some (.ref D)
 | .ty T=>some (.type T)
 | _=>none
section
variable {X:Cx} {K:PySem.W.Frag} {x C:Addr}
theorem aT (hK:X.K=K) (h:HdE X x C) (Z:XK1 K C):dh X (.builtin "isinstance") (fun xs H Q=>∃v c b,xs=[.ref x,v]∧kv v=some c∧PySem.W.kitOne K (.ref C) c=some b∧Q (.bl b) H):=by
 subst hK
 intro pins s σ H xs us Q I r q
 obtain⟨v,c,b,rfl,hv,e,q⟩:=q
 obtain⟨u,w',rfl,rx,rv⟩:=ii r
 obtain rfl:u=.ref x:=rx
 have hw:w'=c:=by
  unfold kv at hv
  split at hv
  ·cases hv;exact rv
  ·cases hv;exact rv
  ·cases hv
 subst hw
 obtain⟨ox,od,J⟩:=I.inst h
 exact ln Z I.kIn J e fun tk=>⟨.bl b,H,I.tok _,rfl,q⟩
end
structure RoomH (k:Nat) (A:Around):Prop where
 dp:A.depth+3*k+5< recursionLimit
 un:A.units+16*k+200< cLine
theorem Room.h {k:Nat} {A:Around} (r:Room k A) (v:Option Value):RoomH k (A.mark v):=⟨r.dp,r.un⟩
abbrev uG (P:Program) (w:World) (K:PySem.W.Frag) (mg:Str→Option Value) (base:Heap) (N:List Str) (qual:Str) (scope:Scope) (f:Addr) (cd:Value) (A:Around) (outer:List Env) (s0:Shared) (H0:Hp) (E:XK):Cx:={hW CX0 P w K mg base N qual scope f cd A outer s0 H0 E with calm:=false,xe:=fun _ _=>False}
structure FnOkH (P:Program) (w:World) (K:PySem.W.Frag) (mg:Str→Option Value) (base:Heap) (k:Nat) (f:Addr) (fd:FuncData) (ps:List Str) (sp:Addr→Addr→Sp):Prop where
 len:∀x C vs H Q E,sp x C vs H Q E→vs.length=ps.length
 run:∀(x C:Addr) (od:Option Addr) (oe:Obj) (A:Around) (outer:List Env) (s:Shared) (H:Hp) (args:Args) (us:List Value) (vs:List V) (Q:VK) (E:XK),RoomH k A→A.handled=some (.ref x)→Held oe C od→(∀d,od=some d→∃o u,H d=some (.frz o u))→s.heap.get? x=some oe→H x=none→x∉frs outer→
  Env0 P w K mg base A outer s H→BindsTo s fd args (ps.zip us)→Vals vs us→sp x C vs H Q E→codeAny (model P w) A (.call (.ref f) args) (CR CX0 outer P w H s Q E) s
section
variable {P:Program} {w:World} {K:PySem.W.Frag} {mg:Str→Option Value} {base:Heap}
theorem Fun.okH {x0 qual:Str} {st:Stmt} {f:Addr} {fd:FuncData} {N ps:List Str} {k:Nat} {sp:Addr→Addr→Sp} (F:Fun K x0 qual st f fd) (S:FnScope N ps (defScope st)) (len:∀x C vs H Q E,sp x C vs H Q E→vs.length=ps.length)
  (hbody:∀(x C:Addr) (cdv:Value) (A:Around) (outer:List Env) (s:Shared) (H:Hp) (vs:List V) (Q:VK) (E:XK),HdE (uG P w K mg base N qual (defScope st) f cdv A outer s H E) x C→RoomH k (A.deeper (envOfC qual (defScope st) s.heap.objs.size f cdv))→sp x C vs H Q E→
   ∃t,PSs (uG P w K mg base N qual (defScope st) f cdv A outer s H E) (defBody st) t∧t {nx:=fun _ H'=>Q .non H',rt:=Q} (start N vs) H):FnOkH P w K mg base (k+1) f fd ps sp:=by
 obtain⟨oc,od,kV,doc,pm,an,cdv,ct,osl,rfl,lk,hcd⟩:=F.ex
 refine⟨len,fun x C od oe A outer s H args us vs Q E hr hA hh hfz hx hHx hxo e0 hb r hsp=>?_⟩
 have hl:=len _ _ _ _ _ _ hsp
 have KX:K.In s.heap:=e0.mod.kin.keeps fun b o e=>(e0.bs b o e).1
 have lim:s.heap.NoLimit:=e0.mod.nolimit.keeps fun b o e=>(e0.bs b o e).1
 have hkind:∀y∈ps.zip us,(defScope st).names.lookup y.1=some .local∨((defScope st).names.lookup y.1=some .cell∧((cellsFrom (s.heap.objs.size+1) (defScope st).names []).lookup y.1).isSome=true):=fun⟨n,v⟩ hy=>by
  rcases S.par n (List.of_mem_zip hy).1 with q | q
  ·exact .inl q
  ·exact .inr ⟨q,PySem.W.cellsFrom_some _ _ _ (.inl q)⟩
 refine codeAny_call_function (by have:=hr.dp;omega) (KX _ _ lk) rfl S.co S.gen rfl (PySem.W.codeRec_of KX hcd) (hb _ _ _ _ ?_)
 refine wpAny_newFunctionEnv_cells S.kind hkind fun env he s1 z=>?_
 subst he
 refine⟨lim.keeps z.toInCall.keep,codeAny_func ?_⟩
 have hE:HdE (uG P w K mg base N qual (defScope st) f cdv A outer s H E) x C:=⟨oe,od,hfz,hA,hh,hx,hHx,hxo,fun m=>absurd (show x∈([]:List Addr)from m) (by simp)⟩
 obtain⟨t,ht,hq⟩:=hbody x C cdv A outer s H vs Q E hE ⟨by have:=hr.dp;show A.depth+1+3*k+5< _;omega,by have:=hr.un;show A.units+3+16*k+200< _;omega⟩ hsp
 have e0':Env0 P w K mg base {A with handled:=none} outer s H:=⟨e0.frames,e0.mod,e0.bs,e0.bsz,e0.funs,e0.frf,e0.hok,e0.bare⟩
 have I0:Inv (hW CX0 P w K mg base N qual (defScope st) f cdv {A with handled:=none} outer s H E) [] (start N vs) H s1:=io S rfl e0' hl r z
 have I:Inv (uG P w K mg base N qual (defScope st) f cdv A outer s H E) [] (start N vs) H s1:=
  ⟨⟨I0.ok.mod,I0.ok.kind,I0.ok.glob,I0.ok.blt,I0.ok.above,I0.ok.inj,I0.ok.has,I0.ok.cab,fun z=>(nomatch z),Around.frames_deeper e0.frames,I0.ok.stk,I0.ok.exf,I0.ok.bs,I0.ok.bsz,I0.ok.noex,I0.ok.exfs,I0.ok.funs,I0.ok.frf⟩,I0.os,I0.bare,I0.base,I0.loc,I0.cell,I0.free,I0.freeC,I0.pin,I0.hok,I0.len⟩
 refine wpAny_mono (ht [] s1 (start N vs) H _ I hq) (fun fl s' hs=>?_) fun e s' hs=>hs.elim
 have fin:∀{σ':St} {H':Hp} {v:V} {u:Value},Inv (uG P w K mg base N qual (defScope st) f cdv A outer s H E) [] σ' H' s'→RelV v u→Q v H'→CE outer P w H s Q u s':=
  fun {σ' H' v u} J rv q=>⟨v,H',J.os,J.bare,J.base,J.hok,rv,q⟩
 cases fl with
 | ret u=>obtain⟨v,σ',H',J,rv,q⟩:=hs;exact fin J rv q
 | next=>obtain⟨σ',H',J,q⟩:=hs;exact fin (v:=V.non) (u:=Value.none) J rfl q
 | brk=>obtain⟨_,_,_,q⟩:=hs;exact False.elim q
 | cont=>obtain⟨_,_,_,q⟩:=hs;exact False.elim q
end
def uH (od:Option Addr) (sp:Sp):Sp:=fun vs H Q E=>(∀d,od=some d→∃o u,H d=some (.frz o u))∧sp vs H Q E
section
variable {X:Cx} {k:Nat} {f x C:Addr} {od:Option Addr} {oe:Obj} {fd:FuncData} {ps:List Str} {sp:Addr→Addr→Sp} {xn:Str} {p pos:Pos} {e:Expr} {es:List Expr} {t:TA}
theorem pp (F:FnOkH X.prog X.w X.K X.mg X.base k f fd ps sp) (hr:RoomH k X.A) (hA:X.A.handled=some (.ref x)) (hh:Held oe C od) (hp:(x,oe)∈X.pn) (hg:Gl X xn) (hm:X.mg xn=some (.ref f)) (hk:PySem.W.keepIn X.K (.ref f)=true) (hb:Binds X.K fd ps [])
  (ha:PA X (e::es) t) (hdb:(xn == ("__debug__" :Str))=false:=by decide) (he:starEach (e::es) X.env=(false,eval e X.env)::starEach es X.env:=by rfl) (hpl:(backTo pos (starEach es X.env)).any (·.1)=false:=by rfl):
  PE X (.Call (.Name xn p) (e::es) [] pos) (aU (uH od (sp x C)) [] E0 t):=by
 intro pins s σ H Q I h
 refine wpAny_Call_Name_kw (fh I hg hm ?_ hdb)
 refine PySem.W.callWith_K (h₀:=X.base) I.ok.mod.kin hk (bO (ha pos pins s σ H _ I h) fun us s1 ⟨vs,H1,I1,r,q⟩=>⟨I1.kIn,?_⟩) he hpl
 obtain⟨g1,g2,g3,g4,_⟩:=I1.pin (x,oe) (List.mem_append_left _ hp)
 have hfr:x∉frs X.stack:=fun m=>by
  rcases List.mem_cons.mp (I1.stkSub x m)with z | z
  ·exact g3 z
  ·exact g4 z
 have q:uH od (sp x C) (vs++ []) H1 Q E0:=q
 rw[List.append_nil]at q
 obtain⟨hfz,q⟩:=q
 rw[List.nil_append]
 have hl:us.length=ps.length:=by rw[←r.length];exact F.len _ _ _ _ _ _ q
 refine wpAny_call (codeAny_mono (F.run x C od oe X.A X.stack s1 H1 ⟨us,[]⟩ us vs Q E0 hr hA hh hfz g1 g2 hfr I1.env0 (by have:=hb s1 us I1.kIn (by simpa using hl);simpa using this) r q) fun r s' hq=>?_)
 cases r with
 | error e=>exact hq.elim
 | ok fl =>
  cases fl with
  | ret u=>exact I1.after hq
  | next=>exact False.elim hq
  | brk=>exact False.elim hq
  | cont=>exact False.elim hq
end
end L2
namespace L2
open PySem PySem.Spec PySem.Calls PyProof.Rows Mi
section
variable {P:Program} {w:World} {K:PySem.W.Frag} {mg:Str→Option Value} {base:Heap}
theorem Fun.okR {x qual:Str} {st:Stmt} {f:Addr} {fd:FuncData} {N ps:List Str} {k:Nat} {sp:Sp} (F:Fun K x qual st f fd) (S:FnScope N ps (defScope st)) (len:∀vs H Q E,sp vs H Q E→vs.length=ps.length)
  (hbody:∀(cdv:Value) (A:Around) (outer:List Env) (s:Shared) (H:Hp) (vs:List V) (Q:VK) (E:XK),Room k (A.deeper (envOfC qual (defScope st) s.heap.objs.size f cdv))→sp vs H Q E→
   ∃t,PSs (rY P w K mg base N qual (defScope st) f cdv A outer s H E) (defBody st) t∧t {nx:=fun _ H'=>Q .non H',rt:=Q} (start N vs) H):FnOk P w K mg base (CXR P w) (k+1) f fd ps sp:=by
 obtain⟨oc,od,kV,doc,pm,an,cdv,ct,osl,rfl,lk,hcd⟩:=F.ex
 exact rQ lk hcd S len fun A outer s H vs Q E hr hsp=>hbody cdv A outer s H vs Q E hr hsp
end
end L2
namespace Wb
open PySem L2 Mi
end Wb
namespace Wb
open PySem L2 Mi
structure CalR (P:Program) (w:World) (K:PySem.W.Frag) (mg:Str→Option Value) (base:Heap) (x:Str) (ps:List Str) (k:Nat) (sp:Sp):Prop where
 ex:∃(f:Addr) (fd:FuncData),FnOk P w K mg base (CXR P w) k f fd ps sp∧mg x=some (.ref f)∧PySem.W.keepIn K (.ref f)=true∧Binds K fd ps []
theorem qT {X:Cx} {x:Str} {ps:List Str} {k:Nat} {sp:Sp} {E:XK} {p pos:Pos} {e:Expr} {es:List Expr} {t:TA} (C:CalR X.prog X.w X.K X.mg X.base x ps k sp) (hx:gA (CXR X.prog X.w) X E) (hr:Room k X.A) (hg:Gl X x) (ha:PA X (e::es) t)
  (hdb:(x == ("__debug__" :Str))=false:=by decide) (he:starEach (e::es) X.env=(false,eval e X.env)::starEach es X.env:=by rfl) (hpl:(backTo pos (starEach es X.env)).any (·.1)=false:=by rfl):
  PE X (.Call (.Name x p) (e::es) [] pos) (aU sp [] E t):=by
 obtain⟨f,fd,F,hm,hk,hb⟩:=C.ex
 exact lK F hr hg hm hk hb .nil hx ha hdb he hpl
structure CalH (P:Program) (w:World) (K:PySem.W.Frag) (mg:Str→Option Value) (base:Heap) (x:Str) (ps:List Str) (k:Nat) (sp:Addr→Addr→Sp):Prop where
 ex:∃(f:Addr) (fd:FuncData),FnOkH P w K mg base k f fd ps sp∧mg x=some (.ref f)∧PySem.W.keepIn K (.ref f)=true∧Binds K fd ps []
theorem qU {X:Cx} {xn:Str} {ps:List Str} {k:Nat} {sp:Addr→Addr→Sp} {x C:Addr} {od:Option Addr} {oe:Obj} {p pos:Pos} {e:Expr} {es:List Expr} {t:TA} (F:CalH X.prog X.w X.K X.mg X.base xn ps k sp) (hh:Held oe C od) (hr:RoomH k X.A) (hA:X.A.handled=some (.ref x)) (hp:(x,oe)∈X.pn) (hg:Gl X xn) (ha:PA X (e::es) t)
  (hdb:(xn == ("__debug__" :Str))=false:=by decide) (he:starEach (e::es) X.env=(false,eval e X.env)::starEach es X.env:=by rfl) (hpl:(backTo pos (starEach es X.env)).any (·.1)=false:=by rfl):
  PE X (.Call (.Name xn p) (e::es) [] pos) (aU (uH od (sp x C)) [] E0 t):=by
 obtain⟨f,fd,F,hm,hk,hb⟩:=F.ex
 exact pp F hr hA hh hp hg hm hk hb ha hdb he hpl
def fF (K:PySem.W.Frag) (cs:List Addr) (aB:Addr) (x C:Addr):Sp:=fun vs H Q _=>∃(W:Wd) (j:Nat),W.H=H∧vs=[.ref x]∧XK1 K C∧j< 13∧(∀i a,cs[i]? =some a→PySem.W.kitOne K (.ref C) (.ref a)=some (decide (i=j)))∧PySem.W.kitOne K (.ref C) (.ref aB)=some true∧PySem.W.kitOne K (.ref C) (.type "ValueError")=some true∧∀p W',Ext W W'→W.H p=none→Ow isS W' p [kindN.getD j []]→Q (.ref p) W'.H
structure Kin (K:PySem.W.Frag) (base:Heap) (cs:List Addr) (aB:Addr):Prop where
 len:cs.length=13
 top:∃bm,Xcl base aB bm
 one:∀(j:Nat) (C:Addr),cs[j]? =some C→XK1 K C∧(∀(i:Nat) (a:Addr),cs[i]? =some a→PySem.W.kitOne K (.ref C) (.ref a)=some (decide (i=j)))∧PySem.W.kitOne K (.ref C) (.ref aB)=some true∧PySem.W.kitOne K (.ref C) (.type "ValueError")=some true∧∃bm,Xcl base C bm∧(Value.ref C::bm).contains (.ref aB)=true
end Wb
namespace Wb
open PySem L2 Mi
end Wb
namespace Wb
open PySem L2 Mi
end Wb
namespace Wb
open PySem L2 Mi
open PySem.W (findIn findObj mroIn kitOne kitCls clsIn typeIn subIn specialIn takesIn Frag)
def vE:List Value:=[.type "ValueError",.type "Exception",.type "BaseException",.type "object"]
def XcK (K:Frag) (C N:Addr) (bm:List Value):Prop:=∃nm q bs hdct sn sub ab col dd k0 k1 k2 k3 k5,K.lookup C=some (excClassObj nm q C N bs bm hdct sn sub ab col dd k0 k1 k2 k3 k5 "ValueError.__new__")
structure Cx1 (K:Frag) (aB C:Addr):Prop where
 at_:∃N,XcK K C N (.ref aB::vE)
 ga:findIn K (.ref C) "__getattribute__" =some (some (.builtin "BaseException.__getattribute__"))
 gt:findIn K (.ref C) "__getattr__" =some none
 cl:findIn K (.ref C) "__class__" =some (some (.builtin "object.__class__"))
section
variable {K:Frag} {base:Heap} {C D N:Addr} {bm bm':List Value}
theorem XcK.cls (x:XcK K C N bm):∃cd,clsIn K C=some cd∧cd.mro=.ref C::bm∧typeIn K (.ref C)=some (.type "type"):=by
 obtain⟨nm,q,bs,hdct,sn,sub,ab,col,dd,k0,k1,k2,k3,k5,e⟩:=x
 refine⟨{name:=nm,bases:=bs,mro:=.ref C::bm,ns:=N,qualname:=q,hasDict:=hdct,slotNames:=sn,subclasses:=sub,abstract:=ab,collection:=col,hasDel:=false},?_,rfl,?_⟩
 ·unfold clsIn;rw[e]
 ·show Option.map (fun x=>x.cls) (List.lookup C K)=_
  rw[e];rfl
theorem XcK.xcl (x:XcK K C N bm) (X:K.In base) (hb:bm.contains (.type "BaseException")=true):Xcl base C bm:=by
 obtain⟨nm,q,bs,hdct,sn,sub,ab,col,dd,k0,k1,k2,k3,k5,e⟩:=x
 exact⟨nm,q,N,bs,hdct,sn,sub,ab,col,dd,k0,k1,k2,k3,k5,_,X _ _ e,hb⟩
theorem XcK.mro (x:XcK K C N bm) (v:Value):mroIn K C v=some ((Value.ref C::bm).contains v):=by
 obtain⟨cd,h1,h2,_⟩:=x.cls
 unfold mroIn
 rw[h1,Option.bind_some,h2]
 rfl
theorem XcK.kit {N':Addr} (x:XcK K C N bm) (y:XcK K D N' bm'):kitOne K (.ref C) (.ref D)=some ((Value.ref C::bm).contains (.ref D)):=by
 obtain⟨cd,h1,h2,h3⟩:=y.cls
 unfold kitOne
 by_cases e:(Value.ref C == Value.ref D)=true
 ·rw[if_pos e]
  rw[beq_iff_eq.mp e,List.contains_cons]
  simp
 ·rw[if_neg e]
  show(if((clsIn K D).isSome && typeIn K (.ref D) == some (.type "type"))=true then subIn K (.ref C) (.ref D)else none)=_
  rw[h1,h3,if_pos (by simp)]
  exact x.mro _
theorem XcK.kitT {T:String} (x:XcK K C N bm) (hT:PySem.W.kitMeta T=true):kitOne K (.ref C) (.type T)=some ((Value.ref C::bm).contains (.type T)):=by
 unfold kitOne
 rw[if_neg (by intro z;cases beq_iff_eq.mp z)]
 show(if PySem.W.kitMeta T=true then subIn K (.ref C) (.type T)else none)=_
 rw[if_pos hT]
 exact x.mro _
end
theorem Cx1.xk {K:Frag} {aB C:Addr} (x:Cx1 K aB C) (hn:specialIn K (.builtin "object.__class__") "__get__" =some (some (.builtin "getset_descriptor.__get__"))) (ht:takesIn K (.builtin "object.__class__")=some true):XK1 K C:=by
 obtain⟨N,h⟩:=x.at_
 refine⟨x.ga,x.gt,?_,?_,?_⟩
 ·intro od
  obtain⟨cd,h1,h2,h3⟩:=h.cls
  unfold findObj
  rw[h1,Option.bind_some,x.cl,Option.bind_some]
  simp[hn,ht]
 ·rw[h.mro];simp[vE]
 ·rw[h.mro];simp[vE]
theorem iM {α:Type} :∀{l:List α},l.Nodup→∀{i j:Nat} {x:α},l[i]? =some x→l[j]? =some x→i=j
 | [],_,i,j,x,a,_=>by simp at a
 | y::r,nd,0,0,x,a,b=>rfl
 | y :: r, nd, 0, j + 1, x, a, b => by
  simp at a b
  subst a
  exact absurd (List.mem_of_getElem? b) (List.nodup_cons.mp nd).1
 | y :: r, nd, i + 1, 0, x, a, b => by
  simp at a b
  subst b
  exact absurd (List.mem_of_getElem? a) (List.nodup_cons.mp nd).1
 | y :: r, nd, i + 1, j + 1, x, a, b => by
  simp at a b
  rw[iM (List.nodup_cons.mp nd).2 a b]
theorem Kin.of {K:Frag} {base:Heap} {cs:List Addr} {aB NB:Addr} (X:K.In base) (hn:specialIn K (.builtin "object.__class__") "__get__" =some (some (.builtin "getset_descriptor.__get__"))) (ht:takesIn K (.builtin "object.__class__")=some true)
  (len:cs.length=13) (nd:(aB::cs).Nodup) (top:XcK K aB NB vE) (all:∀C∈cs,Cx1 K aB C):Kin K base cs aB:=by
 have one:∀(j:Nat) (C:Addr),cs[j]? =some C→C∈cs:=fun j C h=>List.mem_of_getElem? h
 refine⟨len,⟨vE,top.xcl X (by decide)⟩,fun j C h=>?_⟩
 have hC:=all C (one j C h)
 obtain⟨N,hx⟩:=hC.at_
 refine⟨hC.xk hn ht,fun i a hi=>?_,?_,?_,.ref aB::vE,hx.xcl X (by simp[vE]),by simp⟩
 ·have ha:=all a (one i a hi)
  obtain⟨N',hy⟩:=ha.at_
  rw[hx.kit hy]
  have nB:a≠aB:=fun z=>(List.nodup_cons.mp nd).1 (z▸one i a hi)
  have nd':=(List.nodup_cons.mp nd).2
  have key:(a=C)↔i=j:=by
   constructor
   ·intro z
    subst z
    obtain⟨l1,e1⟩:=List.getElem?_eq_some_iff.mp hi
    obtain⟨l2,e2⟩:=List.getElem?_eq_some_iff.mp h
    exact iM nd' hi h
   ·intro z
    subst z
    rw[hi]at h
    exact Option.some.inj h
  by_cases z:i=j
  ·have:=key.mpr z
   subst this
   simp[z]
  ·have:¬a=C:=fun y=>z (key.mp y)
   simp[z,this,nB,vE]
 ·rw[hx.kit top];simp
 ·rw[hx.kitT (by decide +kernel)];simp[vE]
def pq:Value→Bool
 | .str _ _=>true
 | _=>false
theorem strKeys_of {es:Array DictEntry} (h:(es.toList.all fun e=>pq e.key)=true):StrKeys es:=fun e he=>by
 have:=List.all_eq_true.mp h e (Array.mem_toList_iff.mpr he)
 unfold pq at this
 split at this
 ·rename_i n t q;exact⟨n,t,q⟩
 ·cases this
end Wb
namespace Wb
open PySem L2 Mi
end Wb
namespace L2
open PySem PySem.Spec PyProof.Rows
end L2
namespace Wb
open PySem L2 Mi
end Wb
namespace Mi
end Mi
namespace Mi
end Mi
namespace Wb
open PySem L2 Mi
end Wb
namespace Wb
open PySem L2 Mi
end Wb
namespace L2
open PySem PySem.Spec PyProof.Rows
end L2
namespace Wb
open PySem L2 Mi
end Wb
namespace L2
open PySem PySem.Spec PySem.Calls PyProof.Rows Mi
end L2
namespace Wb
open PySem L2 Mi
end Wb
namespace L2
open PySem PySem.Spec PyProof.Rows
end L2
namespace L2
open PySem PySem.Spec PyProof.Rows
end L2
namespace Wb
open PySem L2 Mi
end Wb
namespace L2
open PySem PySem.Spec PyProof.Rows
end L2
namespace Wb
open PySem L2 Mi
end Wb
namespace Wb
open PySem L2 Mi
end Wb
namespace Mi
end Mi
namespace Wb
open PySem L2 Mi
end Wb
namespace Wb
open PySem L2 Mi
end Wb
namespace Wb
open PySem L2 Mi
end Wb
namespace L2
open PySem PySem.Spec PyProof.Rows
end L2
namespace L2
open PySem PySem.Spec PyProof.Rows
end L2
namespace Wb
open PySem L2 Mi
end Wb
namespace Mi
end Mi
namespace Wb
open PySem L2 Mi
end Wb
namespace Mi
end Mi
namespace Wb
open PySem L2 Mi
section
open PyProof PyProof.Rows
variable {X:Cx} {pos:Pos}
end
end Wb
namespace Wb
open PySem L2 Mi
end Wb
namespace Mi
end Mi
namespace Wb
open PySem L2 Mi
end Wb
namespace Mi
end Mi
namespace Wb
open PySem L2 Mi
end Wb
namespace L2
open PySem PySem.Spec PyProof.Rows
abbrev gZ (rest:List Value):Obj:={cls:=.type "tuple",data:=.seq rest.toArray}
abbrev eG (C t:Addr) (od:Option Addr):Obj:={cls:=.ref C,dict:=od,data:=.fields #[.ref t,.none,.none,.none,.bool false,.none]}
def Icl (h:Heap) (C fI:Addr):Prop:=∃nm q N bs bm hdct sn sub ab col dd k0 k1 k2 k3 k5 newId mN B initId bmB oI,h.get? C=some (excClassObj nm q C N bs bm hdct sn sub ab col dd k0 k1 k2 k3 k5 newId)∧h.Ns N mN∧mN "__init__" =some (.ref fI)∧OwnTail h bmB bm∧ExcBaseFacts B newId initId bmB∧h.get? fI=some oI∧oI.cls=.type "function"
theorem Icl.keeps {h h':Heap} {C fI:Addr} (x:Icl h C fI) (k:∀b o,h.get? b=some o→h'.get? b=some o):Icl h' C fI:=by
 obtain⟨nm,q,N,bs,bm,hdct,sn,sub,ab,col,dd,k0,k1,k2,k3,k5,newId,mN,B,initId,bmB,oI,a1,a2,a3,a4,a5,a6,a7⟩:=x
 exact⟨nm,q,N,bs,bm,hdct,sn,sub,ab,col,dd,k0,k1,k2,k3,k5,newId,mN,B,initId,bmB,oI,k _ _ a1,a2.keeps k,a3,a4.keeps k,a5,k _ _ a6,a7⟩
section
variable {prog:Program} {w:World} {A:Around} {E:Value→Shared→Prop} {h:Heap} {g:Array GenState} {d:Drawn} {t:Nat} {os:OsState} {C fI:Addr} {rest:List Value}
theorem ng (x:Icl h C fI) {Q:PySem.Fin→Shared→Prop} (hrest:rest.length≤sizeLine)
  (hq:wpAny (model prog w) A (call (.ref fI) (.ref (h.objs.size+1)::rest)) (fun r s'=>r=.none∧Q (.done (.ret (.ref (h.objs.size+1)))) s') E ⟨(h.push (gZ rest)).push (eG C h.objs.size none),g,d,t,os⟩):
  wpAny (model prog w) A (Builtin.«type.__call__» ⟨.ref C::rest,[]⟩) Q E ⟨h,g,d,t,os⟩:=by
 have kk:∀b o,h.get? b=some o→((h.push (gZ rest)).push (eG C h.objs.size none)).get? b=some o:=fun b o q=>Heap.get?_push_of_some _ (Heap.get?_push_of_some _ q)
 have x1:=x.keeps kk
 obtain⟨nm,q,N,bs,bm,hdct,sn,sub,ab,col,dd,k0,k1,k2,k3,k5,newId,mN,B,initId,bmB,oI,hC,hn,hi,T,F,hf,hfc⟩:=x
 repeat (first | with_reducible refine wpAny_loadPart_at hC ?_ | with_reducible refine wpAny_madeBy_exc hC ?_ | wp_step)
 refine codeAny_call_builtin_code (Code.quiet_builtin _ F.quiet) (wpAny_check_new_subU F F.hasB T hC ?_)
 refine codeAny_exc_new_subU F F.hasB F T hC ?_ hrest
 show wpAny _ _ _ _ _ _
 have hget:((h.push (gZ rest)).push (eG C h.objs.size none)).get? (h.objs.size+1)=some (eG C h.objs.size none):=by heap_get
 have hcC:(Value.ref C::bm).contains (.ref C)=true:=by simp
 unfold isInstance
 repeat (first | with_reducible refine wpAny_loadPart_at hget ?_ | (with_reducible refine wpAny_isSubtype_exc (kk _ _ hC) ?_;rw[hcC]) | wp_step)
 show wpAny _ _ (typeLookup (.ref C) _) _ _ _
 refine wpAny_typeLookup_tail (kk _ _ hC) (hn.keeps kk) (T.keeps kk) F.mroIs F.init.lookup ?_
 rw[hi]
 refine wpAny_holding (wpAny_bind ?_)
 unfold bindSpecial
 refine wpAny_bind (wpAny_typeOf (T:="function") ⟨_,kk _ _ hf,hfc⟩ ?_)
 rw[if_pos (by decide)]
 refine wpAny_pure (wpAny_bind (wpAny_mono hq (fun r s' hr=>?_) fun _ _ x=>x))
 obtain⟨rfl,hQ⟩:=hr
 wp_walk
 exact hQ
theorem nh (x:Icl h C fI) {Q:Value→Shared→Prop} (hrest:rest.length≤sizeLine)
  (hq:wpAny (model prog w) (A.under (.builtin "type.__call__" ⟨.ref C::rest,[]⟩)) (call (.ref fI) (.ref (h.objs.size+1)::rest)) (fun r s'=>r=.none∧Q (.ref (h.objs.size+1)) s') E ⟨(h.push (gZ rest)).push (eG C h.objs.size none),g,d,t,os⟩):
  wpAny (model prog w) A (call (.ref C) rest) Q E ⟨h,g,d,t,os⟩:=by
 have f1:=tc_lookup
 have f2:=tc_bind (.ref C)
 obtain⟨nm,q,N,bs,bm,hdct,sn,sub,ab,col,dd,k0,k1,k2,k3,k5,newId,mN,B,initId,bmB,oI,hC,_⟩:=id x
 have hT:(⟨h,g,d,t,os⟩:Shared).TypeIs (.ref C) "type" :=⟨_,hC,rfl⟩
 refine wpAny_call (codeAny_of_tree ?_)
 show wpAny _ _ (callAny (.ref C) _) _ _ _
 repeat (any_goals (first | assumption | with_reducible refine wpAny_loadPart_at hC ?_ | wp_step))
 refine⟨rfl,?_⟩
 exact codeAny_call_builtin_at (Code.quiet_builtin _ (by decide +kernel)) entry_typeCall (wpAny_check_type_call_sub hC (ng x hrest hq))
end
end L2
namespace L2
open PySem PySem.Spec PyProof.Rows Builtin Builtin.ObjectAttr
open PySem.W (findIn findObj mroIn looks_findIn looks_find looks_mroIn looks_clsIn clsIn Frag InstAt Looks)
structure XcF (K:Frag) (C:Addr):Prop where
 sa:findIn K (.ref C) "__setattr__" =some (some (.builtin "object.__setattr__"))
 cd:∃(cd:ClassData) (aB:Addr),clsIn K C=some cd∧cd.mro=[.ref C,.ref aB,.type "ValueError",.type "Exception",.type "BaseException",.type "object"]∧cd.hasDict=true
section
variable {prog:Program} {w:World} {A:Around} {E:Value→Shared→Prop} {s:Shared} {K:Frag} {x C:Addr} {ox:Obj} {od:Option Obj} {name:Str} {v:Value}
theorem rZ {tk:Tok} {R:Result→Shared→Prop} (X:K.In s.heap) (I:InstAt s.heap x ox C od) (Z:XcF K C) (hn:findIn K (.ref C) name=some none)
  (h:∀b,wpAny (model prog w) A.in1 (storeInOwnDict (.ref x) (.ref C) (.str name tk) name v b)
   (fun fin s'=>match fin with | .done f=>R (.ok f) s' | .again c'=>c'.quiet=true∧codeAny (model prog w) A c' R s') (fun e s'=>R (.error e) s') s):
  codeAny (model prog w) A (.call (.builtin "object.__setattr__") ⟨[.ref x,.str name tk,v],[]⟩) R s:=by
 have SF:=PySem.F.store_object
 obtain⟨cd,aB,hc,ho,_⟩:=Z.cd
 have sub:Looks (model prog w) s.heap (isInstance (.ref x) (.type "object")) true:=I.type.andThen (looks_mroIn X (by unfold mroIn;rw[hc,Option.bind_some,ho];simp))
 refine codeAny_call_builtin SF.slot.plain SF.entry (@PySem.W.check_slot (model prog w) _ _ s "object.__setattr__" "object" "__setattr__" (.ref x) [.str name tk,v] [] _ SF.kind SF.split sub (SF.args (.ref x) (.str name tk) v) ?_)
 have hm:Looks (model prog w) s.heap (mroOf (.ref C)) cd.mro:=(looks_clsIn X hc).andThen .now
 rw[PySem.W.osa_eq,refuse_eq]
 refine wpAny_bind (wpAny_bind (I.type.here (wpAny_bind (hm.here ?_))))
 rw[ho,refuseLoop_ref,refuseLoop_ref,PySem.F.store_ValueError.passes]
 refine wpAny_pure (wpAny_bind (I.type.here (wpAny_bind ((looks_findIn X hn).here (wpAny_bind ?_)))))
 exact wpAny_pure (h _)
theorem uI {Q:Unit→Shared→Prop} (X:K.In s.heap) (I:InstAt s.heap x ox C none) (Z:XcF K C) (hn:findIn K (.ref C) name=some none)
  (h:∀h' tk,h'.get? x=some {ox with dict:=some s.heap.objs.size}→h'.Ns1 s.heap.objs.size (fun y=>if y=name then some v else none)→(∀b o,b≠x→s.heap.get? b=some o→h'.get? b=some o)→Q () {s with heap:=h',toks:=tk}):
  wpAny (model prog w) A (setAttr (.ref x) name v) Q E s:=by
 obtain⟨cd,aB,hc,ho,hd'⟩:=Z.cd
 refine PySem.W.set_plain X I Z.sa (rZ (s:={s with toks:=s.toks+1}) X I Z hn fun b=>?_)
 obtain⟨hx,hcl,hnc,hdi⟩:=I
 obtain⟨oc,odi,oda,osl⟩:=ox
 dsimp only at hcl hdi
 subst hcl
 obtain rfl:odi=none:=by cases odi with | none=>rfl | some _=>exact hdi.elim
 refine wpAny_bind (wpAny_pure (wpAny_bind (wpAny_bind (wpAny_loadPart hx (wpAny_bind (looks_clsIn (M:=model prog w) X hc _ _ _ _ (fun _ _ e=>e) ?_))))))
 rw[hd']
 have hfr:=(Heap.get?_some_iff.mp hx).2
 have hx₁:(s.heap.push {cls:=.type "dict",data:=.dict #[]}).get? x=some ⟨.ref C,none,oda,osl⟩:=Heap.get?_push_of_some _ hx
 have hxs:x≠s.heap.objs.size:=Nat.ne_of_lt (Heap.lt_size hx)
 have hgd:((s.heap.push {cls:=.type "dict",data:=.dict #[]}).update x fun o=>{o with dict:=some s.heap.objs.size}).get? s.heap.objs.size=some {cls:=.type "dict",data:=.dict #[]} :=
  (Heap.get?_update_ne _ _ _ _ hxs.symm).trans (Heap.get?_push_at rfl rfl)
 have hnd:((s.heap.push {cls:=.type "dict",data:=.dict #[]}).update x fun o=>{o with dict:=some s.heap.objs.size}).Ns s.heap.objs.size (fun _=>none):=
  ⟨_, #[],_,hgd,rfl,fun e he=>absurd he (by simp),fun _=>rfl⟩
 have fin:wpAny (model prog w) A.in1 (storeInDict s.heap.objs.size (.str name s.toks) name v)
   (fun fin s'=>match fin with | .done f=>(match (Except.ok f:Result)with | .ok (.ret _)=>Q () s' | .ok _=>False | .error e=>E e s') | .again c'=>c'.quiet=true∧codeAny (model prog w) A c' (fun r s'=>match r with | .ok (.ret _)=>Q () s' | .ok _=>False | .error e=>E e s') s') (fun e s'=>E e s')
   {s with heap:=(s.heap.push {cls:=.type "dict",data:=.dict #[]}).update x fun o=>{o with dict:=some s.heap.objs.size},toks:=s.toks+1} :=by
  unfold storeInDict newKeyGuard
  refine wpAny_bind (wpAny_pure (wpAny_bind (wpAny_nsSet1 (Heap.Ns1.of_empty hnd) fun h' hn' hs=>?_)))
  obtain⟨oD,esD,epD,hoD,hdD,hcD⟩:=hn'.count (Within.cons name v Within.nil)
  refine wpAny_bind (wpAny_lookBehind hoD (by rw[hdD];exact pastItsLine_dict (Nat.le_trans hcD (by rw[List.length_cons,List.length_nil,sizeLine_eq];omega))) ?_)
  wp_walk
  refine h h' _ ?_ hn' fun b ob hbx hb=>(hs.2 b (Nat.ne_of_lt (Heap.lt_size hb))).trans ((Heap.get?_update_ne _ _ _ _ hbx).trans (Heap.get?_push_of_some _ hb))
  refine(hs.2 x hxs).trans (Heap.get?_update_self _ hx₁ ?_)
  cases oda <;> first | rfl | exact hfr
 cases oda with
 | cls c=>cases hnc
 | _=>exact wpAny_bind (wpAny_alloc' (wpAny_bind (wpAny_update' hx₁ (wpAny_pure fin))))
theorem uJ {Q:Unit→Shared→Prop} {o1:Obj} {D:Addr} {mA:Str→Option Value} {ns:List Str} (X:K.In s.heap) (I:InstAt s.heap x ox C (some o1)) (hD:ox.dict=some D) (hns:s.heap.Ns1 D mA) (hw:Within mA ns) (hsz:ns.length< 1000) (Z:XcF K C) (hn:findIn K (.ref C) name=some none)
  (h:∀h' tk,h'.Ns1 D (fun y=>if y=name then some v else mA y)→Heap.SameBut D s.heap h'→Q () {s with heap:=h',toks:=tk}):
  wpAny (model prog w) A (setAttr (.ref x) name v) Q E s:=by
 obtain⟨cd,aB,hc,ho,hd'⟩:=Z.cd
 refine PySem.W.set_plain X I Z.sa (rZ (s:={s with toks:=s.toks+1}) X I Z hn fun b=>?_)
 obtain⟨hx,hcl,hnc,hdi⟩:=I
 obtain⟨oc,odi,oda,osl⟩:=ox
 dsimp only at hcl hdi hD
 subst hcl hD
 refine wpAny_bind (wpAny_pure (wpAny_bind (wpAny_bind (wpAny_loadPart hx (wpAny_bind (looks_clsIn (M:=model prog w) X hc _ _ _ _ (fun _ _ e=>e) ?_))))))
 rw[hd']
 refine wpAny_pure (a:=some D) ?_
 show wpAny _ _ (storeInDict D (.str name s.toks) name v) _ _ _
 unfold storeInDict newKeyGuard
 refine wpAny_bind (wpAny_pure (wpAny_bind (wpAny_nsSet1 (s:={s with toks:=s.toks+1}) hns fun h' hn' hs=>?_)))
 obtain⟨oD,esD,epD,hoD,hdD,hcD⟩:=hn'.count (Within.cons name v hw)
 refine wpAny_bind (wpAny_lookBehind hoD (by rw[hdD];exact pastItsLine_dict (Nat.le_trans hcD (by rw[List.length_cons,sizeLine_eq];omega))) ?_)
 wp_walk
 exact h h' _ hn' hs
end
end L2
namespace L2
open PySem PySem.Spec PySem.Calls PyProof.Rows
open PySem.W (findIn findObj mroIn looks_findIn looks_find looks_mroIn class_get KitX clsIn Frag InstAt lookIn)
section
variable {prog:Program} {w:World} {A:Around} {E:Value→Shared→Prop} {s:Shared} {K:Frag} {x C:Addr} {ox:Obj} {od:Option Obj} {name:Str} {v:Value}
theorem vV {b:Bool} {Q:Value→Shared→Prop} (Z:XK1 K C) (X:K.In s.heap) (I:InstAt s.heap x ox C od) (hf:findObj K C od name=some (.value v)) (hv:PySem.W.handedIn v=true) (h:Q v {s with toks:=s.toks+1}):wpAny (model prog w) A (getAttr (.ref x) name b) Q E s:=by
 obtain⟨hh,g,d,t,os⟩:=s
 have L0:=I.type (M:=model prog w)
 have L1:=looks_findIn (M:=model prog w) X Z.ga
 have L2:=looks_findIn (M:=model prog w) X Z.gt
 have L3:=looks_find (M:=model prog w) X I hf
 have L4:=looks_mroIn (M:=model prog w) X Z.be
 unfold getAttr getAttrBy
 refine wpAny_bind (wpAny_mkText (wpAny_holding (wpAny_bind (L0.at (wpAny_bind (L1.at ?_))))))
 dsimp only
 rw[show(Value.builtin "BaseException.__getattribute__" == Value.builtin "object.__getattribute__")=false from by decide +kernel,Bool.and_false,if_neg (by decide)]
 unfold getAttrByItsOwn hookBefore
 rw[if_pos (show onTheHeap (Value.ref C)=true from rfl)]
 refine wpAny_bind (L2.at ?_)
 refine wpAny_bind (wpAny_attempt (wpAny_holding ?_))
 unfold callGetattribute
 rw[if_neg (by simp[onTheHeap])]
 unfold boundAndCalled
 rw[PySem.F.excAttr_ValueError.ga.bind]
 have LI:PySem.W.Looks (model prog w) hh (isInstance (.ref x) (.type "BaseException")) true:=L0.andThen L4
 have chk:∀{A':Around} {E':Value→Shared→Prop} {Q':Unit→Shared→Prop} {tk:Nat},Q' () ⟨hh,g,d,tk,os⟩→wpAny (model prog w) A' (checkBuiltinCall "BaseException.__getattribute__" ⟨[.ref x,.str name t],[]⟩) Q' E' ⟨hh,g,d,tk,os⟩:=fun {A' E' Q' tk} hq=>by
  have hk:builtinKind "BaseException.__getattribute__" =some .slot:=by decide +kernel
  have hsplit:splitId "BaseException.__getattribute__" =some ("BaseException","__getattribute__"):=by decide +kernel
  have ha:=F.args_bexc_ga (.ref x) (.str name t)
  simp only[checkBuiltinCall,hk,hsplit]
  refine wpAny_bind (LI.at ?_)
  repeat wp_step
  exact hq
 refine wpAny_bind (wpAny_pure (wpAny_call (codeAny_call_builtin PySem.F.excAttr_ValueError.ga.plain F.entry_bexc_ga (chk ?_))))
 refine wpAny_bind (m:=slotArgs _ _ _) (wpAny_pure ?_)
 refine wpAny_bind (wpAny_pure (wpAny_bind (L0.at (wpAny_bind (L3.at ?_)))))
 exact wpAny_pure (PySem.W.handed_on hv (h))
end
def XO (a:Addr) (o:Obj):HO:=.ext fun h=>h.get? a=some o
def XD (d:Addr) (fs:List (Str×V)):HO:=.ext fun h=>∃mA,h.Ns1 d mA∧(∀f,RelO (fs.lookup f) (mA f))∧Within mA (fs.map (·.1))
section
variable {P:Program} {w:World} {H:Hp} {h:Heap} {a d:Addr} {o:Obj} {fs:List (Str×V)} {mA:Str→Option Value}
theorem XO.ok (e:h.get? a=some o):ObjOk P w H h a (XO a o):=⟨e,⟨_,e⟩,fun _ _ p k=>k _ p⟩
theorem XD.ok (n:h.Ns1 d mA) (r:∀f,RelO (fs.lookup f) (mA f)) (q:Within mA (fs.map (·.1))):ObjOk P w H h d (XD d fs):=
 ⟨⟨mA,n,r,q⟩,let ⟨o,_,_,e,_⟩:=n;⟨o,e⟩,fun _ _ ⟨mA,n,r,q⟩ k=>⟨mA,n.at k,r,q⟩⟩
end
def unt (H:Hp) (a:Addr):Hp:=fun b=>if b=a then none else H b
theorem fG {H:Hp} {a:Addr} :unt H a a=none:=if_pos rfl
theorem eT {H:Hp} {a b:Addr} (h:b≠a):unt H a b=H b:=if_neg h
section
variable {X:Cx} {pins:List (Addr×Obj)} {σ:St} {H:Hp} {s:Shared} {h':Heap} {a d C:Addr} {oe:Obj} {f:Str} {y:V} {fs:List (Str×V)}
theorem Inv.unt (I:Inv X pins σ H s) (e:∃φ,H a=some (.ext φ)):Inv X pins σ (unt H a) s:=by
 obtain⟨φ,e⟩:=e
 have ne:∀b u,H b=some u→(∀ψ,u≠.ext ψ)→b≠a:=fun b u q n z=>by subst z;rw[e]at q;cases q;exact n _ rfl
 refine I.un (t':=s.toks) (h':=s.heap) ⟨fun b o q _ _ _=>q,fun b o q _ _ _=>⟨o.slots,q⟩,fun b o _ n _=>?_,fun b o q _=>⟨o,q⟩,fun b xs q=>?_,fun b o u q=>?_,fun b ps q=>⟨#[],?_⟩⟩ fun b u q=>?_
 ·by_cases z:b=a
  ·rw[z];exact fG
  ·rw[eT z];exact n
 ·rw[eT (ne b _ q fun _ z=>nomatch z)];exact q
 ·rw[eT (ne b _ q fun _ z=>nomatch z)];exact q
 ·rw[eT (ne b _ q fun _ z=>nomatch z),q];simp
 ·by_cases z:b=a
  ·rw[z,fG]at q;cases q
  ·rw[eT z]at q
   exact(I.hok b u q).stay (fun _ _ _ q=>q) (fun c q=>by rw[eT (ne c _ q fun _ z=>nomatch z)];exact q) fun c xs q=>by rw[eT (ne c _ q fun _ z=>nomatch z)];exact q
theorem Inv.two {oa od:HO} {φ:Heap→Prop} {t':Nat} (I:Inv X pins σ H s) (e:H a=some (.ext φ)) (k:∀b o,b≠a→s.heap.get? b=some o→h'.get? b=some o) (hd:s.heap.objs.size≤d) (na:d≠a)
  (ha:ObjOk X.prog X.w (bu (bu H d od) a oa) h' a oa) (hD:ObjOk X.prog X.w (bu (bu H d od) a oa) h' d od):Inv X pins σ (bu (bu H d od) a oa) {s with heap:=h',toks:=t'} :=by
 have dn:H d=none:=I.hok.fresh hd
 have ne:∀b u,H b=some u→(∀ψ,u≠.ext ψ)→b≠a:=fun b u q n z=>by subst z;rw[e]at q;cases q;exact n _ rfl
 have nd:∀b o,s.heap.get? b=some o→b≠d:=fun b o q=>Nat.ne_of_lt (Nat.lt_of_lt_of_le (Heap.lt_size q) hd)
 have st:∀b u,H b=some u→(∀ψ,u≠.ext ψ)→bu (bu H d od) a oa b=some u:=fun b u q n=>by rw[ah (ne b u q n),ah (bR q dn)];exact q
 have na':∀b,H b=none→b≠a:=fun b n z=>by subst z;rw[e]at n;cases n
 refine I.un (t':=t') (h':=h') ⟨fun b o q n _ _=>k b o (na' b n) q,fun b o q n _ _=>⟨o.slots,k b o (na' b n) q⟩,fun b o q n _=>?_,fun b o q _=>?_,fun b xs q=>st b _ q (fun _ z=>nomatch z),fun b o u q=>st b _ q (fun _ z=>nomatch z),fun b ps q=>⟨#[],?_⟩⟩ fun b u q=>?_
 ·rw[ah (na' b n),ah (nd b o q)];exact n
 ·by_cases z:b=a
  ·rw[z];exact ha.ex
  ·exact⟨o,k b o z q⟩
 ·rw[st b _ q fun _ z=>nomatch z];simp
 ·by_cases z:b=a
  ·subst z;rw[ak]at q;cases q;exact ha
  ·rw[ah z]at q
   by_cases z':b=d
   ·subst z';rw[ak]at q;cases q;exact hD
   ·rw[ah z']at q
    refine(I.hok b u q).stay (fun c v hc q1=>k c v ?_ q1) (fun c q=>st c _ q fun _ z=>nomatch z) fun c xs q=>st c _ q fun _ z=>nomatch z
    rcases hc with y | y
    ·rw[y];exact z
    ·exact ne c _ y fun _ z=>nomatch z
end
def vW (K:Frag) (ta tv:TE) (f:Str):TS:=fun D σ H=>tv σ H fun y H1=>ta σ H1 fun x H2=>∃a C oe,x=.ref a∧H2 a=some (XO a oe)∧oe.cls=.ref C∧PySem.W.notCls oe=true∧oe.dict=none∧XcF K C∧NoAttr K C f∧∀d,H2 d=none→d≠a→D.nx σ (bu (bu H2 d (XD d [(f,y)])) a (XO a {oe with dict:=some d}))
def vX (K:Frag) (ta tv:TE) (f:Str):TS:=fun D σ H=>tv σ H fun y H1=>ta σ H1 fun x H2=>∃a C oe d fs,x=.ref a∧H2 a=some (XO a oe)∧oe.cls=.ref C∧PySem.W.notCls oe=true∧oe.dict=some d∧H2 d=some (XD d fs)∧fs.length< 900∧XcF K C∧NoAttr K C f∧D.nx σ (bu H2 d (XD d (gh f y fs)))
section
variable {X:Cx} {o value:Expr} {f:Str} {pos pos':Pos} {ta tv:TE}
theorem sW (ha:PE X o ta) (hv:PE X value tv) (hs:swapsWith value (some (.Attribute o f pos')) pos.line X.env=pure false):PS X (.Assign [.Attribute o f pos'] value pos) (vW X.K ta tv f):=by
 intro pins s σ H D I h
 refine plainObj_wpAny_Assign_Attribute (bO (hv pins s σ H _ I h) fun u s1 ⟨y,H1,I1,ry,q⟩=>bO (ha pins s1 σ H1 _ I1 q) fun ov s2 ⟨x,H2,I2,rx,a,C,oe,ex,ea,hc,hnc,hd,Z,n,q2⟩=>?_) hs
 subst ex
 obtain rfl:ov=Value.ref a:=rx
 have hx:s2.heap.get? a=some oe:=(I2.hok a _ ea).1
 have ne:s2.heap.objs.size≠a:=Nat.ne_of_gt (Heap.lt_size hx)
 refine uI I2.kIn ⟨hx,hc,hnc,by rw[hd];trivial⟩ Z n fun h' tk g1 g2 g3=>⟨σ,_,?_,q2 s2.heap.objs.size (I2.hok.fresh (Nat.le_refl _)) ne⟩
 refine I2.two ea g3 (Nat.le_refl _) ne (XO.ok g1) (XD.ok g2 (fun g=>?_) fun g hg=>?_)
 ·show RelO (List.lookup g [(f,y)]) _
  by_cases z:g=f
  ·subst z;rw[show List.lookup g [(g,y)]=some y from by simp[List.lookup],if_pos rfl];exact ry
  ·rw[if_neg z,show List.lookup g [(f,y)]=none from by
    show(match g == f with | true=>some y | false=>none)=none
    rw[show(g == f)=false from beq_eq_false_iff_ne.mpr z]];exact True.intro
 ·by_cases z:g=f
  ·simp[z]
  ·rw[if_neg z]at hg;exact absurd rfl hg
theorem sX (ha:PE X o ta) (hv:PE X value tv) (hs:swapsWith value (some (.Attribute o f pos')) pos.line X.env=pure false):PS X (.Assign [.Attribute o f pos'] value pos) (vX X.K ta tv f):=by
 intro pins s σ H D I h
 refine plainObj_wpAny_Assign_Attribute (bO (hv pins s σ H _ I h) fun u s1 ⟨y,H1,I1,ry,q⟩=>bO (ha pins s1 σ H1 _ I1 q) fun ov s2 ⟨x,H2,I2,rx,a,C,oe,d,fs,ex,ea,hc,hnc,hd,hD,hl,Z,n,q2⟩=>?_) hs
 subst ex
 obtain rfl:ov=Value.ref a:=rx
 have hx:s2.heap.get? a=some oe:=(I2.hok a _ ea).1
 obtain⟨mA,nA,rA,wA⟩:=(I2.hok d _ hD).1
 obtain⟨o1,ho1,_⟩:=dM nA
 refine uJ I2.kIn ⟨hx,hc,hnc,by rw[hd];exact ho1⟩ hd nA wA (by rw[List.length_map];omega) Z n fun h' tk g1 g2=>⟨σ,_,?_,q2⟩
 obtain⟨o2,ho2,_⟩:=dM g1
 refine I2.write (x:=d) (e:=d) (by rw[hD];exact True.intro) (.inl rfl) (fun b q hb z=>(g2.2 b hb).trans z) ⟨o2,ho2⟩ (XD.ok g1 (fun g=>?_) fun g hg=>?_)
 ·show RelO ((gh f y fs).lookup g) (if g=f then some u else mA g)
  rw[cI]
  by_cases q:g=f
  ·rw[if_pos q,if_pos q];exact ry
  ·rw[if_neg q,if_neg q];exact rA g
 ·by_cases q:g=f
  ·rw[q];exact(fO f y fs).1
  ·refine(fO f y fs).2 g (wA g fun z=>hg ?_)
   show(if g=f then some u else mA g)=none
   rw[if_neg q];exact z
end
end L2
namespace L2
open PySem PySem.Spec PySem.Calls PyProof.Rows
open PySem.W (findIn findObj clsIn Frag InstAt lookIn)
abbrev sY (v1 v2:V):List (Str×V):=gh "side" v2 [("pick",v1)]
def spInit (C:Addr):Sp:=fun vs H Q _=>∃(a:Addr) (oe:Obj) (v1 v2:V),vs=[.ref a,v1,v2]∧H a=some (XO a oe)∧oe.cls=.ref C∧PySem.W.notCls oe=true∧oe.dict=none∧∀d,H d=none→d≠a→Q .non (bu (bu H d (XD d (sY v1 v2))) a (XO a {oe with dict:=some d}))
def jv (C:Addr) (t:TA):TE:=fun σ H Q=>t σ H fun vs H1=>∃v1 v2,vs=[v1,v2]∧∀a d tt,H1 a=none→H1 d=none→d≠a→Q (.ref a) (bu (bu H1 d (XD d (sY v1 v2))) a (XO a (eG C tt (some d))))
structure XMk (K:Frag) (base:Heap) (C fI:Addr):Prop where
 ic:Icl base C fI
 xf:XcF K C
 kp:PySem.W.keepIn K (.ref C)=true
 n1:NoAttr K C "pick"
 n2:NoAttr K C "side"
 xk:XK1 K C
 hd:PySem.W.hasDictIn K C=true
theorem ni {H:Hp} {a d:Addr} {o1 o3 o4:HO} (h:d≠a):bu (bu (bu H a o1) d o4) a o3=bu (bu H d o4) a o3:=funext fun b=>by
 by_cases z':b=a
 ·subst z';rw[ak,ak]
 ·rw[ah z',ah z']
  by_cases z:b=d
  ·subst z;rw[ak,ak]
  ·rw[ah z,ah z,ah z']
section
variable {X:Cx} {pins:List (Addr×Obj)} {σ:St} {H:Hp} {s:Shared} {C fI:Addr} {k:Nat} {fd:FuncData} {ps:List Str} {Q:VK}
theorem nj {us:List Value} {v1 v2:V} (M:XMk X.K X.base C fI) (F:FnOk X.prog X.w X.K X.mg X.base CX0 k fI fd ps (spInit C)) (hr:Room (k+1) X.A) (hb:Binds X.K fd ps []) (I:Inv X pins σ H s) (r:Vals [v1,v2] us)
  (h:∀a d tt,H a=none→H d=none→d≠a→Q (.ref a) (bu (bu H d (XD d (sY v1 v2))) a (XO a (eG C tt (some d))))):wpAny (model X.prog X.w) X.A (call (.ref C) us) (EP X pins σ Q) X.xe s:=by
 have k1:∀b o,s.heap.get? b=some o→(s.heap.push (gZ us)).get? b=some o:=fun b o q=>Heap.get?_push_of_some _ q
 have I1:Inv X pins σ H {s with heap:=s.heap.push (gZ us)} :=I.kept (t':=s.toks) k1
 have z1:(s.heap.push (gZ us)).objs.size=s.heap.objs.size+1:=Heap.size_push _ _
 have hget:((s.heap.push (gZ us)).push (eG C s.heap.objs.size none)).get? (s.heap.objs.size+1)=some (eG C s.heap.objs.size none):=by
  have:=Heap.get?_push_size (s.heap.push (gZ us)) (o:=eG C s.heap.objs.size none) rfl
  rwa [Heap.size_push]at this
 have I2:Inv X pins σ (bu H (s.heap.objs.size+1) (XO (s.heap.objs.size+1) (eG C s.heap.objs.size none))) {s with heap:=(s.heap.push (gZ us)).push (eG C s.heap.objs.size none)} :=
  I1.laid (a:=s.heap.objs.size+1) (t':=s.toks) (fun b o q=>Heap.get?_push_of_some _ q) (Nat.le_of_eq z1) (XO.ok hget)
 have hn:H (s.heap.objs.size+1)=none:=I.hok.fresh (Nat.le_succ _)
 have hsp:spInit C (V.ref (s.heap.objs.size+1):: [v1,v2]) (bu H (s.heap.objs.size+1) (XO (s.heap.objs.size+1) (eG C s.heap.objs.size none))) (fun v H2=>v=.non∧Q (.ref (s.heap.objs.size+1)) H2) E0:=
  ⟨_,_,v1,v2,rfl,ak,rfl,rfl,rfl,fun d hd ne=>⟨rfl,by rw[ni ne];exact h _ d _ hn (by rw[ah ne]at hd;exact hd) ne⟩⟩
 have r2:Vals (V.ref (s.heap.objs.size+1):: [v1,v2]) (Value.ref (s.heap.objs.size+1)::us):=.cons rfl r
 have hl:(Value.ref (s.heap.objs.size+1)::us).length=ps.length:=by rw[←r2.length];exact F.len _ _ _ _ hsp
 have hz:us.length≤sizeLine:=by rw[←r.length];show 2≤sizeLine;decide
 refine nh (h:=s.heap) (M.ic.keeps I.bk) hz (wpAny_call (codeAny_mono (F.run _ X.stack _ _ ⟨Value.ref (s.heap.objs.size+1)::us,[]⟩ (Value.ref (s.heap.objs.size+1)::us) _ _ E0 (hr.make C us []) (I2.env0.make C us []) (by
  have:=hb {s with heap:=(s.heap.push (gZ us)).push (eG C s.heap.objs.size none)} (Value.ref (s.heap.objs.size+1)::us) I2.kIn (by simpa using hl);simpa using this) r2 hsp) fun r s' hq'=>?_))
 cases r with
 | error e=>exact hq'.elim
 | ok fl =>
  cases fl with
  | ret u =>
   obtain⟨v,H',I3,rv,ev,q3⟩:=I2.after hq'
   subst ev
   exact⟨rv,⟨V.ref (s.heap.objs.size+1),H',I3,rfl,q3⟩⟩
  | next=>exact False.elim hq'
  | brk=>exact False.elim hq'
  | cont=>exact False.elim hq'
end
section
variable {X:Cx} {C fI:Addr} {k:Nat} {fd:FuncData} {ps:List Str} {x f:Str} {p pos:Pos} {e:Expr} {es:List Expr} {t:TA} {te:TE}
theorem pr (M:XMk X.K X.base C fI) (F:FnOk X.prog X.w X.K X.mg X.base CX0 k fI fd ps (spInit C)) (hr:Room (k+1) X.A) (hg:Gl X x) (hm:X.mg x=some (.ref C)) (hb:Binds X.K fd ps [])
  (ha:PA X (e::es) t) (hdb:(x == ("__debug__" :Str))=false:=by decide) (he:starEach (e::es) X.env=(false,eval e X.env)::starEach es X.env:=by rfl) (hpl:(backTo pos (starEach es X.env)).any (·.1)=false:=by rfl):
  PE X (.Call (.Name x p) (e::es) [] pos) (jv C t):=by
 intro pins s σ H Q I h
 refine wpAny_Call_Name_kw (fh I hg hm ?_ hdb)
 refine PySem.W.callWith_K (h₀:=X.base) I.ok.mod.kin M.kp (bO (ha pos pins s σ H _ I h) fun us s1 ⟨vs,H1,I1,r,v1,v2,hv,q⟩=>⟨I1.kIn,?_⟩) he hpl
 subst hv
 exact nj M F hr hb I1 r q
def km (K:Frag) (te:TE) (f:Str):TE:=fun σ H Q=>te σ H fun v H1=>∃a C oe d fs y,v=.ref a∧H1 a=some (XO a oe)∧oe.cls=.ref C∧PySem.W.notCls oe=true∧oe.dict=some d∧Rd H1 d (XD d fs)∧fs.lookup f=some y∧XK1 K C∧NoAttr K C f∧PySem.W.hasDictIn K C=true∧Q y H1
def hG (K:Frag) (x C:Addr) (od:Option Addr) (te:TE) (f:Str):TE:=fun σ H Q=>te σ H fun v H1=>∃d fs y,v=.ref x∧od=some d∧Rd H1 d (XD d fs)∧fs.lookup f=some y∧XK1 K C∧NoAttr K C f∧PySem.W.hasDictIn K C=true∧Q y H1
theorem m7 {pins:List (Addr×Obj)} {σ:St} {H1:Hp} {s1:Shared} {a C d:Addr} {oe:Obj} {fs:List (Str×V)} {y:V} {Q:VK} (I1:Inv X pins σ H1 s1) (hx:s1.heap.get? a=some oe) (hc:oe.cls=.ref C) (hnc:PySem.W.notCls oe=true) (hd:oe.dict=some d) (hr:Rd H1 d (XD d fs)) (hl:fs.lookup f=some y) (Z:XK1 X.K C) (hn:NoAttr X.K C f) (hh:PySem.W.hasDictIn X.K C=true) (q:Q y H1):
  wpAny (model X.prog X.w) X.A (getAttr (.ref a) f true) (EP X pins σ Q) X.xe s1:=by
 obtain⟨mA,nA,rA,wA⟩:=(hr.ok I1.hok).1
 obtain⟨o1,ho1,hlk⟩:=dM nA
 obtain⟨u,hu,ru⟩:=RelO.some_of (v:=y) (o:=mA f) (by rw[←hl];exact rA f)
 exact vV Z I1.kIn ⟨hx,hc,hnc,by rw[hd];exact ho1⟩ (PySem.W.findObj_own hh hn rfl (by rw[hlk,hu])) (mC ru) ⟨y,H1,I1.tok _,ru,q⟩
theorem m8 (he:PE X e te) (hb:attributeBase e f X.env (eval e X.env)=eval e X.env):PE X (.Attribute e f pos) (km X.K te f):=by
 intro pins s σ H Q I h
 refine lJ hb (bO (he pins s σ H _ I h) fun u s1 ⟨x,H1,I1,rx,a,C,oe,d,fs,y,ex,ea,hc,hnc,hd,hr,hl,Z,hn,hh,q⟩=>?_)
 subst ex
 obtain rfl:u=Value.ref a:=rx
 exact m7 I1 (I1.hok a _ ea).1 hc hnc hd hr hl Z hn hh q
theorem ko {a:Addr} {od:Option Addr} {oe:Obj} (he:PE X e te) (hb:attributeBase e f X.env (eval e X.env)=eval e X.env) (hh0:Held oe C od) (hp:(a,oe)∈X.pn):PE X (.Attribute e f pos) (hG X.K a C od te f):=by
 intro pins s σ H Q I h
 refine lJ hb (bO (he pins s σ H _ I h) fun u s1 ⟨x,H1,I1,rx,d,fs,y,ex,hd,hr,hl,Z,hn,hh,q⟩=>?_)
 subst ex
 obtain rfl:u=Value.ref a:=rx
 obtain⟨⟨h1,h2⟩,vs,h3,_⟩:=hh0
 exact m7 I1 (I1.pin (a,oe) (List.mem_append_left _ hp)).1 h1 (by unfold PySem.W.notCls;rw[h3]) (h2.trans hd) hr hl Z hn hh q
end
section
variable {M:Model} {A:Around} {E:Value→Shared→Prop} {s:Shared} {env:Env} {nm q:Str} {C N:Addr} {bs bm:List Value} {hdct:Bool} {sn:List Str} {sub:List Value} {ab:Bool} {col:Option Bool} {dd:Option Addr} {k0 k1 k2 k3 k5:Option Value} {newId:String}
theorem lp {x:Sem Value} {Q:Flow→Shared→Prop} (hbase:bm.contains (.type "BaseException")=true) (hh:A.handled=none)
  (h:wpAny M A x (fun v s₁=>∃e t od,v=.ref e∧s₁.heap.get? C=some (excClassObj nm q C N bs bm hdct sn sub ab col dd k0 k1 k2 k3 k5 newId)∧s₁.heap.get? e=some (eG C t od)∧E (.ref e) s₁) E s):
  wpAny M A (raiseStmt env (some x) none) Q E s:=by
 have hcB:(Value.ref C::bm).contains (.type "BaseException")=true:=by rw[List.contains_cons,hbase,Bool.or_true]
 unfold raiseStmt
 refine wpAny_bind (wpAny_mono h (fun v s₁ h₁=>?_) fun _ _ x=>x)
 obtain⟨e,t,od,rfl,hC,he,hE⟩:=h₁
 obtain⟨hp,g,d,tk,os⟩:=s₁
 repeat (first | with_reducible refine wpAny_loadPart_at he ?_ | with_reducible refine wpAny_loadPart_at hC ?_ | (with_reducible refine wpAny_isSubtype_exc hC ?_;rw[hcB]) | wp_step)
 exact wpAny_raiseNew_none hh hE
end
def jw (E:XK) (C:Addr) (H0:Hp) (te:TE):TS:=fun _ σ H=>te σ H fun v H1=>∃a tt d fs,v=.ref a∧H0 a=none∧d≠a∧H1 a=some (XO a (eG C tt (some d)))∧H1 d=some (XD d fs)∧∀o,E (XV a (some d)) (some C) (unt (bu H1 d (.frz o (XD d fs))) a)
section
variable {P:Program} {w:World} {K:PySem.W.Frag} {mg:Str→Option Value} {base:Heap} {N:List Str} {qual:Str} {scope:Scope} {f:Addr} {cd:Value} {A:Around} {outer:List Env} {s0:Shared} {H0:Hp} {E:XK} {C fI:Addr}
theorem nk {pos:Pos} {e:Expr} {te:TE} (M:XMk K base C fI) (he:PE (rY P w K mg base N qual scope f cd A outer s0 H0 E) e te):PS (rY P w K mg base N qual scope f cd A outer s0 H0 E) (.Raise (some e) none pos) (jw E C H0 te):=by
 intro pins s σ H D I h
 have ic:=M.ic
 obtain⟨nm,q,Nn,bs,bm,hdct,sn,sub,ab,col,dd,k0,k1,k2,k3,k5,newId,mN,B,initId,bmB,oI,hC,hN,hni,T,F,_⟩:=ic
 rw[arm_exec_Raise]
 refine wpAny_bind (wpAny_standAt (lp (C:=C) (nm:=nm) (q:=q) (N:=Nn) (bs:=bs) (bm:=bm) (hdct:=hdct) (sn:=sn) (sub:=sub) (ab:=ab) (col:=col) (dd:=dd) (k0:=k0) (k1:=k1) (k2:=k2) (k3:=k3) (k5:=k5) (newId:=newId) (T.hasType F.hasBase) (I.ok.hd rfl) ?_))
 refine wpAny_bind (bO (he pins s σ H _ I h) fun u s1 ⟨v,H1,I1,rv,a,tt,d,fs,ev,ha0,ne,ea,ed,hq⟩=>wpAny_bind (wpAny_standAt (wpAny_pure ?_)))
 subst ev
 obtain rfl:u=Value.ref a:=rv
 have hx:s1.heap.get? a=some (eG C tt (some d)):=(I1.hok a _ ea).1
 refine⟨a,tt,some d,rfl,I1.bk _ _ hC,hx,?_⟩
 obtain⟨mA,nA,rA,wA⟩:=(I1.hok d _ ed).1
 obtain⟨o,ho,_⟩:=dM nA
 have J1:Inv (rY P w K mg base N qual scope f cd A outer s0 H0 E) pins σ (bu H1 d (.frz o (XD d fs))) s1:=I1.write (x:=d) (e:=d) (t':=s1.toks) (h':=s1.heap) (by rw[ed];exact True.intro) (.inl rfl) (fun _ _ _ q=>q) ⟨o,ho⟩ ⟨ho,XD.ok nA rA wA⟩
 have J2:=J1.unt (a:=a) ⟨_,by rw[ah (Ne.symm ne)];exact ea⟩
 have n2:s0.heap.get? a=none:=by
  cases z:s0.heap.get? a with
  | none=>rfl
  | some ob =>
   have:=I1.base.free a ob z ha0 (by simp[hW])
   rw[ea]at this;cases this
 exact uD J2 ⟨fG,n2,_,_,hx,⟨rfl,rfl⟩,rfl,rfl,.inl rfl⟩ (hq o)
end
end L2
namespace Mi
def kM (a b:Nat):Nat:=2^a*(2*b+1)
def m9:Nat→Nat→Nat×Nat
 | 0,_=>(0,0)
 | f+1,n=>if n% 2=1 then(0,n/ 2)else((m9 f (n/ 2)).1+1,(m9 f (n/ 2)).2)
theorem pw:∀(a b f:Nat),a< f→m9 f (kM a b)=(a,b)
 | 0, b, f + 1, _ => by
  have e:kM 0 b=2*b+1:=by simp[kM]
  rw[e,m9,if_pos (by omega)]
  congr 1;omega
 | a + 1, b, f + 1, h => by
  have e:kM (a+1) b=2*kM a b:=by unfold kM;rw[Nat.pow_succ,Nat.mul_comm (2^a) 2,Nat.mul_assoc]
  rw[e,m9,if_neg (by omega),show 2*kM a b/ 2=kM a b by omega,pw a b f (by omega)]
theorem lq (a b:Nat):a< kM a b:=by
 unfold kM
 have h1:a< 2^a:=Nat.lt_two_pow_self
 have h2:2^a*1≤2^a*(2*b+1):=Nat.mul_le_mul_left _ (by omega)
 omega
theorem sZ (a b:Nat):b< kM a b:=by
 unfold kM
 have h1:0< 2^a:=Nat.two_pow_pos a
 have h2:1*(2*b+1)≤2^a*(2*b+1):=Nat.mul_le_mul_right _ h1
 omega
def ls:Tx→Nat
 | []=>0
 | c::r=>kM c (ls r)
def tK:Nat→Nat→Tx
 | 0,_=>[]
 | f+1,n=>if n=0 then []else(m9 n n).1::tK f (m9 n n).2
theorem sd:∀(l:Tx) (f:Nat),l.length≤f→tK f (ls l)=l
 | [],0,_=>rfl
 | [],f+1,_=>by unfold tK ls;rw[if_pos rfl]
 | c :: r, f + 1, h => by
  have e:m9 (ls (c::r)) (ls (c::r))=(c,ls r):=pw _ _ _ (lq _ _)
  have n0:ls (c::r)≠0:=by have:=lq c (ls r);show kM c (ls r)≠0;omega
  unfold tK
  rw[if_neg n0,e]
  show c::tK f (ls r)=c::r
  rw[sd r f (by simpa using h)]
theorem me:∀l:Tx,l.length≤ls l
 | []=>Nat.le_refl _
 | c :: r => by
  have:=sZ c (ls r);have:=me r
  show r.length+1≤kM c (ls r)
  omega
def qV (p:Int) (s:Tx):Nat:=kM (if 0≤p then 2*p.toNat else 2*(-p).toNat+1) (ls s)
def qa (j:Nat):Int×Tx:=(if(m9 j j).1% 2=0 then(((m9 j j).1/ 2:Nat):Int)else -(((m9 j j).1/ 2:Nat):Int),tK (m9 j j).2 (m9 j j).2)
theorem se (p:Int) (s:Tx):qa (qV p s)=(p,s):=by
 have e:m9 (qV p s) (qV p s)=(if 0≤p then 2*p.toNat else 2*(-p).toNat+1,ls s):=pw _ _ _ (lq _ _)
 unfold qa
 rw[e]
 dsimp only
 rw[sd s _ (me s)]
 congr 1
 by_cases h:0≤p
 ·rw[if_pos h,if_pos (by omega)];omega
 ·rw[if_neg h,if_neg (by omega)];omega
def lu (s:Tx) (j:Nat):Dat:=.t [.s s,.l [.s (kindN.getD 9 [])],.i (qa j).1,.s (qa j).2]
end Mi
namespace Wb
open PySem L2 Mi
def isXO (C:Addr):Rp (Int×Tx):=fun G m v=>∃a tt d,v=.ref a∧G a=some (XO a (eG C tt (some d)))∧G d=some (XD d (sY (.int m.1) (.str (sOf m.2))))
instance zkeep56 {C:Addr} :Mono (isXO C):=⟨fun e ⟨a,tt,d,h1,h2,h3⟩=>⟨a,tt,d,h1,e _ _ h2,e _ _ h3⟩⟩
section
variable {Er:Nat→Prop} {t1 t2 te:TE} {σ:St} {W W0:Wd} {K:PySem.W.Frag} {base:Heap} {C fI:Addr} {m1:Res Int} {m2:Res Tx} {m:Res (Int×Tx)}
theorem pz (h1:EV Er t1 σ W (sh isI) m1) (h2:EV Er t2 σ W (sh isS) m2):EV Er (jv C (aj t1 (aj t2 aX))) σ W (sh (isXO C)) (m1.bind fun a=>m2.bind fun b=>.ok (a,b)):=fun W1 e1 Q k=>
 h1 W1 e1 _ ((Res.okE_bind k).imp fun a ka x W2 e2 hx=>h2 W2 (e1.trans e2) _ ((Res.okE_bind ka).imp fun b kb y W3 e3 hy=>by
  cases hx;cases hy
  refine⟨.int a,.str (sOf b),rfl,fun p d tt hp hd ne=>?_⟩
  have h4:(W3.new d (XD d (sY (.int a) (.str (sOf b))))).H p=none:=by show bu W3.H d _ p=none;rw[ah (Ne.symm ne)];exact hp
  exact kb (.ref p) ((W3.new d _).new p _) (((e2.trans e3).trans (.new _ hd)).trans (.new _ h4)) ⟨p,tt,d,rfl,ak,by show bu (bu W3.G d _) p _ d=_;rw[ah ne,ak]⟩))
theorem pA (M:XMk K base C fI) (h:EV Er te σ W (sh (isXO C)) m):EV Er (km K te "pick") σ W (sh isI) (m.bind fun x=>.ok x.1):=fun W1 e1 Q k=>
 h W1 e1 _ ((Res.okE_bind k).imp fun x kx v W2 e2 ⟨a,tt,d,h1,h2,h3⟩=>⟨a,C,_,d,_,.int x.1,h1,W2.ok _ _ h2,rfl,rfl,rfl,.inl (W2.ok _ _ h3),by rw[cI];rfl,M.xk,M.n1,M.hd,kx _ W2 e2 rfl⟩)
theorem pC (M:XMk K base C fI) (h:EV Er te σ W (sh (isXO C)) m):EV Er (km K te "side") σ W (sh isS) (m.bind fun x=>.ok x.2):=fun W1 e1 Q k=>
 h W1 e1 _ ((Res.okE_bind k).imp fun x kx v W2 e2 ⟨a,tt,d,h1,h2,h3⟩=>⟨a,C,_,d,_,.str (sOf x.2),h1,W2.ok _ _ h2,rfl,rfl,rfl,.inl (W2.ok _ _ h3),by rw[cI];rfl,M.xk,M.n2,M.hd,kx _ W2 e2 rfl⟩)
end
def EscU (Er:Nat→Prop) (C:Addr) (E:XK) (W:Wd):Prop:=∀p s,Er (qV p s)→∀a d o W',Ext W W'→W'.H a=none→W'.G d=some (.frz o (XD d (sY (.int p) (.str (sOf s)))))→E (XV a (some d)) (some C) W'.H
theorem EscU.mono {Er:Nat→Prop} {C:Addr} {E:XK} {W W':Wd} (h:EscU Er C E W) (e:Ext W W'):EscU Er C E W':=fun p s hj a d o W1 e1=>h p s hj a d o W1 (e.trans e1)
def mf {α β γ:Type} (R1:Rp α) (R2:Rp γ) (C:Addr) (rt:Rt β) (m:α→γ→Res β):Sp:=fun vs H Q E=>∃(W:Wd) (a:α) (b:γ) (v u:V),W.H=H∧vs=[v,u]∧R1 W.G a v∧R2 W.G b u∧∃Er:Nat→Prop,EscU Er C E W∧(m a b).OkE Er fun r=>rt W r Q
theorem qW {H:Hp} {a d:Addr} {o1 o2 o3:HO} (ha:H a=none) (ne:d≠a):unt (bu (bu (bu H d o1) a o2) d o3) a=bu H d o3:=funext fun b=>by
 by_cases z:b=a
 ·subst z;rw[fG,ah (Ne.symm ne)];exact ha.symm
 ·rw[eT z]
  by_cases y:b=d
  ·subst y;rw[ak,ak]
  ·rw[ah y,ah z,ah y,ah y]
section
variable {Er:Nat→Prop} {t1 t2 te:TE} {σ:St} {W W0:Wd} {C:Addr} {E:XK} {m1:Res Int} {m2:Res Tx} {D:Ends} {β:Type} {P:β→Prop} {r:TS}
theorem nq (e0:Ext W0 W) (hE:EscU Er C E W) (h1:EV Er t1 σ W (sh isI) m1) (h2:EV Er t2 σ W (sh isS) m2) (q:(m1.bind fun a=>m2.bind fun b=>(Res.err (qV a b):Res β)).OkE Er P):jw E C W0.H (jv C (aj t1 (aj t2 aX))) D σ W.H:=
 h1 W (.refl _) _ ((Res.okE_bind q).imp fun a ka x W2 e2 hx=>h2 W2 e2 _ ((Res.okE_bind ka).imp fun b kb y W3 e3 hy=>by
  cases hx;cases hy
  refine⟨.int a,.str (sOf b),rfl,fun p d tt hp hd ne=>⟨p,tt,d,_,rfl,bi (e0.trans (e2.trans e3)).h hp,ne,ak,by rw[ah ne,ak],fun o=>?_⟩⟩
  rw[qW hp ne]
  exact hE a b kb p d o (W3.new d _) ((e2.trans e3).trans (.new _ hd)) (by show bu W3.H d _ p=none;rw[ah (Ne.symm ne)];exact hp) ak))
end
end Wb
namespace Wb
open PySem L2 Mi
structure CalU (P:Program) (w:World) (K:PySem.W.Frag) (mg:Str→Option Value) (base:Heap) (x:Str) (C:Addr):Prop where
 ex:∃(fI:Addr) (fd:FuncData),XMk K base C fI∧FnOk P w K mg base CX0 1 fI fd ["self","pick","side"] (spInit C)∧mg x=some (.ref C)∧Binds K fd ["self","pick","side"] []
theorem CalU.mk' {P:Program} {w:World} {K:PySem.W.Frag} {mg:Str→Option Value} {base:Heap} {x:Str} {C:Addr} (U:CalU P w K mg base x C):∃fI,XMk K base C fI:=let ⟨fI,_,M,_⟩:=U.ex;⟨fI,M⟩
theorem mi {X:Cx} {x:Str} {C:Addr} {p pos:Pos} {e:Expr} {es:List Expr} {t:TA} (U:CalU X.prog X.w X.K X.mg X.base x C) (hr:Room 2 X.A) (hg:Gl X x) (ha:PA X (e::es) t)
  (hdb:(x == ("__debug__" :Str))=false:=by decide) (he:starEach (e::es) X.env=(false,eval e X.env)::starEach es X.env:=by rfl) (hpl:(backTo pos (starEach es X.env)).any (·.1)=false:=by rfl):
  PE X (.Call (.Name x p) (e::es) [] pos) (jv C t):=by
 obtain⟨fI,fd,M,F,hm,hb⟩:=U.ex
 exact pr M F hr hg hm hb ha hdb he hpl
theorem nr {P:Program} {w:World} {K:PySem.W.Frag} {mg:Str→Option Value} {base:Heap} {N:List Str} {qual:Str} {scope:Scope} {f:Addr} {cd:Value} {A:Around} {outer:List Env} {s0:Shared} {H0:Hp} {E:XK} {C:Addr} {x:Str} {pos:Pos} {e:Expr} {te:TE}
  (U:CalU P w K mg base x C) (he:PE (rY P w K mg base N qual scope f cd A outer s0 H0 E) e te):PS (rY P w K mg base N qual scope f cd A outer s0 H0 E) (.Raise (some e) none pos) (jw E C H0 te):=by
 obtain⟨fI,M⟩:=U.mk'
 exact nk M he
section
variable {Er:Nat→Prop} {P:Program} {w:World} {mg:Str→Option Value} {x:Str} {te:TE} {σ:St} {W:Wd} {K:PySem.W.Frag} {base:Heap} {C:Addr} {m:Res (Int×Tx)}
theorem nt (U:CalU P w K mg base x C) (h:EV Er te σ W (sh (isXO C)) m):EV Er (km K te "pick") σ W (sh isI) (m.bind fun x=>.ok x.1):=let ⟨_,M⟩:=U.mk';pA M h
theorem nu (U:CalU P w K mg base x C) (h:EV Er te σ W (sh (isXO C)) m):EV Er (km K te "side") σ W (sh isS) (m.bind fun x=>.ok x.2):=let ⟨_,M⟩:=U.mk';pC M h
end
section
variable {Er:Nat→Prop} {α β γ:Type} {t1 t2:TE} {σ:St} {W:Wd} {C:Addr} {E:XK} {R1:Rp α} {R2:Rp γ} [Mono R1] [Mono R2] {m1:Res α} {m2:Res γ}
theorem kq {R:Rp β} {m:α→γ→Res (List β)} (hE:EscU Er C E W) (h1:EV Er t1 σ W (sh R1) m1) (h2:EV Er t2 σ W (sh R2) m2):EVo Er (aU (mf R1 R2 C (ro R) m) [] E (aj t1 (aj t2 aX))) σ W R (m1.bind fun a=>m2.bind fun b=>m a b):=fun W1 e1 Q k=>
 h1 W1 e1 _ ((Res.okE_bind k).imp fun a0 ka v0 W2 e2 r1=>h2 W2 (e1.trans e2) _ ((Res.okE_bind ka).imp fun b0 kb u0 W3 e3 r2=>⟨W3,a0,b0,v0,u0,rfl,rfl,MonoW.mono (R:=sh R1) e3 r1,r2,Er,hE.mono ((e1.trans e2).trans e3),kb.imp fun r kr p W' e hp o=>kr p W' ((e2.trans e3).trans e) (bi (e2.trans e3).h hp) o⟩))
end
theorem pD {K:PySem.W.Frag} {α β γ δ:Type} {R1:Rp α} {R2:Rp β} {R3:Rp γ} {R4:Rp δ} {u1:α→Dat} {u2:β→Dat} {u3:γ→Dat} {u4:δ→Dat} (h1:iK K R1 u1) (h2:iK K R2 u2) (h3:iK K R3 u3) (h4:iK K R4 u4):iK K (uo K R1 R2 R3 R4) (fun x=>.t [u1 x.1,u2 x.2.1,u3 x.2.2.1,u4 x.2.2.2]):=fun H a v ⟨p,x,y,z,u,h0,h,r1,r2,r3,r4⟩=>by
 subst h0
 refine .t h rfl fun j d v e1 e2=>?_
 match j,e1,e2 with
 | 0,e1,e2=>cases e1;cases e2;exact h1 _ _ _ r1
 | 1,e1,e2=>cases e1;cases e2;exact h2 _ _ _ r2
 | 2,e1,e2=>cases e1;cases e2;exact h3 _ _ _ r3
 | 3,e1,e2=>cases e1;cases e2;exact h4 _ _ _ r4
theorem Icl.of {K:PySem.W.Frag} {base:Heap} {aB C N NB fI:Addr} {o oB oI:Obj} {es eB:Array DictEntry} {ep pB:Nat} (X:K.In base) (h:XcK K C N (.ref aB::vE)) (hB:XcK K aB NB vE) (n:K.lookup N=some o) (d:o.data=.dict es ep) (k:StrKeys es) (i:nsFind es "__init__" =some (.ref fI))
  (nB:K.lookup NB=some oB) (dB:oB.data=.dict eB pB) (kB:StrKeys eB) (iB:nsFind eB "__init__" =none) (hf:K.lookup fI=some oI) (hfc:oI.cls=.type "function"):Icl base C fI:=by
 obtain⟨nm,q,bs,hdct,sn,sub,ab,col,dd,k0,k1,k2,k3,k5,e⟩:=h
 obtain⟨nm',q',bs',hdct',sn',sub',ab',col',dd',k0',k1',k2',k3',k5',e'⟩:=hB
 exact⟨nm,q,N,bs,.ref aB::vE,hdct,sn,sub,ab,col,dd,k0,k1,k2,k3,k5,_,fun x=>nsFind es x,"ValueError",_,vE,oI,X _ _ e,⟨o,es,ep,X _ _ n,d,k,fun _=>rfl⟩,i,.own (X _ _ e') ⟨oB,eB,pB,X _ _ nB,dB,kB,fun _=>rfl⟩ iB .base,PySem.F.excBase_ValueError,X _ _ hf,hfc⟩
theorem XcF.of {K:PySem.W.Frag} {aB C N:Addr} (h:XcK K C N (.ref aB::vE)) (hd:PySem.W.hasDictIn K C=true) (sa:PySem.W.findIn K (.ref C) "__setattr__" =some (some (.builtin "object.__setattr__"))):XcF K C:=by
 obtain⟨cd,h1,h2,_⟩:=h.cls
 refine⟨sa,cd,aB,h1,h2,?_⟩
 unfold PySem.W.hasDictIn at hd
 rw[h1]at hd
 exact hd
theorem vY {H:Hp} {a d:Addr} {o2 o3 o4:HO} (h:d≠a):bu (bu (bu H d o2) a o3) d o4=bu (bu H d o4) a o3:=funext fun b=>by
 by_cases z:b=d
 ·subst z;rw[ak,ah h,ak]
 ·rw[ah z]
  by_cases z':b=a
  ·subst z';rw[ak,ak]
  ·rw[ah z',ah z',ah z,ah z]
def EXU (K:PySem.W.Frag) (C:Addr) (s:Tx) (W0:Wd) (Q:VK):XK:=fun v C' H'=>C'=some C∧∃(j:Nat) (d:Addr) (o:Obj) (W':Wd),v=.int (Int.ofNat d) 0∧W'.H=H'∧Ext W0 W'∧W'.G d=some (.frz o (XD d (sY (.int (qa j).1) (.str (sOf (qa j).2)))))∧rs (isU K) W0 (lu s j) Q
abbrev mj (K:PySem.W.Frag) (cs:List Addr) (aB:Addr) (ie:Nat) (xs:Str):Addr→Addr→Option Addr→Obj→TS:=fun x C od _=>bS (bN (aj (tC (.str xs)) (aj (aU (uH od (fF K cs aB x C)) [] E0 (aj (bx ie) aX)) (aj (hG K x C od (bx ie) "pick") (aj (hG K x C od (bx ie) "side") aX)))))
section
variable {β:Type} {K:PySem.W.Frag} {base:Heap} {cs:List Addr} {aB C fI:Addr} {W0 W:Wd} {Q:VK} {s:Tx} {ie i:Nat} {σ:St} {D:Ends} {R:Rp β} {rest:TS} {σ':V→St} {xs:Str}
theorem EXU.cl {bm:List Value} (h:Xcl base C bm):∀v C' H,EXU K C s W0 Q v (some C') H→∃bmC,Xcl base C' bmC∧(Value.ref C'::bmC).contains (.ref C)=true:=fun v C' H ⟨e,_⟩=>by
 cases e;exact⟨bm,h,by simp⟩
theorem nv (Z:Kin K base cs aB) (M:XMk K base C fI) (h9:cs[9]? =some C) {x C':Addr} {od:Option Addr} {oe:Obj} {H':Hp} {σ':St} (hs:xs=sOf s) (hD:D.rt=Q) (h:EXU K C s W0 Q (XV x od) (some C') H') (hi:ie< σ'.length):
  mj K cs aB ie xs x C' od oe D (σ'.set ie (some (.ref x))) H':=by
 obtain⟨hC,j,d,o,W',hv,rfl,e,g,q⟩:=h
 cases hC
 have hod:od=some d:=by
  cases od with
  | none=>cases hv
  | some d' =>
   have hv:Value.int (Int.ofNat d') 0=Value.int (Int.ofNat d) 0:=hv
   injection hv with h1 h2
   injection h1 with h3
   rw[h3]
 subst hod
 obtain⟨z1,z2,z3,z4,_⟩:=Z.one 9 C h9
 have var:∀W1 (Q1:VK),Q1 (.ref x) W1→bx ie (σ'.set ie (some (.ref x))) W1 Q1:=fun W1 Q1 k=>⟨.ref x,by rw[List.getElem?_set_self hi],k⟩
 have hk:EVo (fun _=>False) (aU (uH (some d) (fF K cs aB x C)) [] E0 (aj (bx ie) aX)) (σ'.set ie (some (.ref x))) W' isS (.ok [kindN.getD 9 []]):=fun W1 e1 Q1 k=>
  var _ _ ⟨fun d' z=>by cases z;exact⟨o,_,W1.ok _ _ (e1.g _ _ g)⟩,W1,9,rfl,rfl,z1,by decide,z2,z3,z4,fun p W2 e2 hp o=>k p W2 e2 hp o⟩
 have hp:EV (fun _=>False) (hG K x C (some d) (bx ie) "pick") (σ'.set ie (some (.ref x))) W' (sh isI) (.ok (qa j).1):=fun W1 e1 Q1 k=>
  var _ _ ⟨d,_,.int (qa j).1,rfl,rfl,.inr ⟨o,W1.ok _ _ (e1.g _ _ g)⟩,by rw[cI];rfl,M.xk,M.n1,M.hd,k _ W1 (.refl _) rfl⟩
 have hsd:EV (fun _=>False) (hG K x C (some d) (bx ie) "side") (σ'.set ie (some (.ref x))) W' (sh isS) (.ok (qa j).2):=fun W1 e1 Q1 k=>
  var _ _ ⟨d,_,.str (sOf (qa j).2),rfl,rfl,.inr ⟨o,W1.ok _ _ (e1.g _ _ g)⟩,by rw[cI];rfl,M.xk,M.n2,M.hd,k _ W1 (.refl _) rfl⟩
 refine aQ (R:=sh (isU K)) (m:=.ok (lu s j)) (dv (K:=K) (pD cZ (lX cZ) ke cZ) (ju (K:=K) (az (x:=xs) (l:=s) hs) (EVo.ev hk) hp hsd)) (fun v W2 e2 hv=>?_)
 rw[hD]
 exact q v W2 (e.trans e2) hv
def uK (K:PySem.W.Frag) (W0 W:Wd) (Q:VK) (s:Tx) (R:Rp β) (D:Ends) (rest:TS) (σ':V→St):β ⊕ Nat→Prop
 | .inl y=>∀v W',Ext W W'→R W'.G y v→rest D (σ' v) W'.H
 | .inr j=>rs (isU K) W0 (lu s j) Q
theorem qX {Er:Nat→Prop} {P:Program} {w:World} {mg:Str→Option Value} {x:Str} {te:TE} {m:Res β} (e0:Ext W0 W) (Z:Kin K base cs aB) (U:CalU P w K mg base x C) (h9:cs[9]? =some C) (hs:xs=sOf s) (hD:D.rt=Q) (h:∀Er',EscU Er' C (EXU K C s W0 Q) W→EV Er' te σ W (sh R) m)
  (q:(Res.tryR m).OkE Er (uK K W0 W Q s R D rest σ')) (hi:ie< σ.length:=by first | decide | simp) (hσ:∀v,σ.set i (some v)=σ' v:=by intro _;rfl):
  dU (uF (EXU K C s W0 Q) ie (bG te (aN i)) (mj K cs aB ie xs)) rest D σ W.H:=by
 obtain⟨fI,M⟩:=U.mk'
 refine⟨h (fun j=>rs (isU K) W0 (lu s j) Q) (fun p t hj a d o W' e ha hg=>⟨rfl,qV p t,d,o,W',rfl,rfl,e0.trans e,by rw[se];exact hg,hj⟩) W (.refl _) _ ((Res.tryR_OkE q).imp fun y ky v W' e hr=>?_),fun x C' od oe σ1 H1 hE hx hh hl=>nv Z M h9 hs hD hE (by rw[hl];exact hi)⟩
 have:=ky v W' e hr
 rw[←hσ]at this
 exact this
end
end Wb
namespace Mi
noncomputable section
@[irreducible] def va (Z0r:List Int) (l_k:Int):Res Int:=if(decide (l_k< (Z0r.length:Int)))then jM Z0r l_k else(jL ((l_k*48271)+(11:Int)) ((Z0r.length:Int)+(7:Int))).bind fun y8=>Res.ok (y8% 1000003)
def gm (Z0r:List Int) (l_k:Int):Res Int:=va Z0r l_k
@[irreducible] def tL (Z00:Int) (Z0C:Int) (a19:Int) (s20:(Int×Int×(List Int))):Res (Int×Int×(List Int)):=((if(decide ((1000000000000000000:Int)≤cT Z00))then Res.ok (decide ((0:Int)< s20.2.1))else Res.ok false).bind fun y45=>(if y45 then((i5 s20.2.1 Z0C).bind fun y56=>eP s20.2.2 y56).bind fun y55=>(lQ s20.2.1 Z0C).bind fun y59=>Res.ok (y59,y55)else((((jL ((((s20.1*48271)+(7919:Int))+a19)% 2147483647) ((((s20.1*48271)+(7919:Int))+a19)% 2147483647)).bind fun y63=>Res.ok (y63% 1000003)).bind fun y64=>i5 y64 Z0C).bind fun y69=>eP s20.2.2 y69).bind fun y68=>Res.ok (s20.2.1,y68):Res (Int×(List Int)))).bind fun s70=>Res.ok (((((s20.1*48271)+(7919:Int))+a19)% 2147483647),s70.1,s70.2)
@[irreducible] def vb (Z00:Int) (Z0b:Int) (Z0C:Int):Res (List Int):=((dm Z0b).bind fun y78=>forR (tL Z00 Z0C) y78 (((cT Z00)% 2147483647),cT Z00,([]:List Int))).bind fun s79=>Res.ok s79.2.2
def kN (Z00:Int) (Z0b:Int) (Z0C:Int):Res (List Int):=vb Z00 Z0b Z0C
@[irreducible] def tM (y3:Int) (y8:List Int) (a15:Int) (s16:Tx):Res Tx:=(((((jM y8 (4:Int)).bind fun y39=>((i5 a15 y3).bind fun y38=>Res.ok (y38*7)).bind fun y40=>Res.ok (y39+y40)).bind fun y41=>Res.ok (y41% 26)).bind fun y42=>eA ([97,98,99,100,101,102,103,104,105,106,107,108,109,110,111,112,113,114,115,116,117,118,119,120,121,122]:Tx) y42).bind fun y43=>df s16 y43).bind fun y44=>Res.ok y44
@[irreducible] def vc (kN:Int→Int→Int→Res (List Int)) (Z00:Int):Res Tx:=(jM [(1:Int),(2:Int),(3:Int),(4:Int),(26:Int)] (Z00% 5)).bind fun y3=>(kN (Z00/ 5) (5:Int) (26:Int)).bind fun y8=>(forR (tM y3 y8) (cut y8 none (some (4:Int))) ([]:Tx)).bind fun s47=>Res.ok s47
def qY (Z00:Int):Res Tx:=vc kN Z00
@[irreducible] def vd (qY:Int→Res Tx) (Z00:Int):Res (Tx×Tx×Int):=(eA ([83,90]:Tx) (Z00% 2)).bind fun y1=>(qY (Z00/ 8)).bind fun y2=>Res.ok (y1,y2,((Z00/ 2)% 4))
def qZ (Z00:Int):Res (Tx×Tx×Int):=vd qY Z00
@[irreducible] def ve (kN:Int→Int→Int→Res (List Int)) (Z00:Int) (Z0b:Int):Res Tx:=if(decide ((Z00% 7)=(3:Int)))then(eA ([102,98,105]:Tx) ((Z00/ 7)% 3)).bind fun y3=>sN y3 Z0b else((kN (Z00/ 7) Z0b (3:Int)).bind fun y18=>dQ y18 (fun(a9:Int)=>eA ([102,98,105]:Tx) a9)).bind fun y19=>iy y19
def r0 (Z00:Int) (Z0b:Int):Res Tx:=ve kN Z00 Z0b
@[irreducible] def vf (gm:List Int→Int→Res Int) (qZ:Int→Res (Tx×Tx×Int)) (r0:Int→Int→Res Tx) (Z0r:List Int) (Z0u:Int):Res ((Tx×Tx×Int)×Tx):=(gm Z0r (Z0u+(2:Int))).bind fun y3=>(if(decide (((y3/ 13)% 6)=(1:Int)))then Res.ok ((y3/ 78)% 4)else Res.ok (y3% 13):Res Int).bind fun s21=>(if(decide (((y3/ 13)% 6)=(2:Int)))then Res.ok ((y3/ 78)% 241)else Res.ok s21:Res Int).bind fun s39=>((gm Z0r Z0u).bind fun y46=>qZ y46).bind fun y48=>((gm Z0r (Z0u+(1:Int))).bind fun y47=>r0 y47 s39).bind fun y49=>Res.ok (y48,y49)
def qb (Z0r:List Int) (Z0u:Int):Res ((Tx×Tx×Int)×Tx):=vf gm qZ r0 Z0r Z0u
@[irreducible] def vg (Z01:Tx×Tx×Int):Res (Tx×Tx×Int):=((mO ([83,90]:Tx) Z01.1).bind fun y5=>eA ([90,83]:Tx) y5).bind fun y12=>((((eA Z01.2.1 (0:Int)).bind fun y6=>(eA Z01.2.1 (3:Int)).bind fun y7=>df y6 y7).bind fun y8=>(eA Z01.2.1 (2:Int)).bind fun y9=>df y8 y9).bind fun y10=>(eA Z01.2.1 (1:Int)).bind fun y11=>df y10 y11).bind fun y13=>Res.ok (y12,y13,(((0:Int)- Z01.2.2)% 4))
def r6 (Z01:Tx×Tx×Int):Res (Tx×Tx×Int):=vg Z01
@[irreducible] def vh (Z02:Tx):Res Tx:=(dQ (aZ Z02) (fun(a1:Tx)=>(mO ([98,105,102]:Tx) a1).bind fun y8=>eA ([102,105,98]:Tx) y8)).bind fun y11=>iy y11
def r9 (Z02:Tx):Res Tx:=vh Z02
@[irreducible] def vi (Z01:Tx×Tx×Int) (Z0b:Int):Res (Tx×Tx×Int):=(((dm (4:Int)).bind fun y13=>dQ y13 (fun(a3:Int)=>eA Z01.2.1 ((a3- Z0b)% 4))).bind fun y14=>iy y14).bind fun y15=>Res.ok (Z01.1,y15,((Z01.2.2+Z0b)% 4))
def rc (Z01:Tx×Tx×Int) (Z0b:Int):Res (Tx×Tx×Int):=vi Z01 Z0b
@[irreducible] def vj (Z0z:Tx):Res Int:=(mO ([98,105,102]:Tx) Z0z).bind fun y1=>Res.ok (y1- (1:Int))
def kO (Z0z:Tx):Res Int:=vj Z0z
@[irreducible] def vk (kO:Tx→Res Int) (Z01:Tx×Tx×Int) (Z0z:Tx):Res (Tx×Tx×Int):=(((kO Z0z).bind fun y1=>Res.ok (Z01.2.2+y1)).bind fun y2=>Res.ok (y2% 4)).bind fun y3=>Res.ok (Z01.1,Z01.2.1,y3)
def gv (Z01:Tx×Tx×Int) (Z0z:Tx):Res (Tx×Tx×Int):=vk kO Z01 Z0z
@[irreducible] def tN (a37:Int) (s38:(List Int)):Res (List Int):=(if(!s38.contains a37)then(eP s38 a37).bind fun y68=>Res.ok y68 else Res.ok s38:Res (List Int)).bind fun s70=>Res.ok s70
@[irreducible] def uL (gv:(Tx×Tx×Int)→Tx→Res (Tx×Tx×Int)) (a7:Tx) (s8:((Tx×Tx×Int)×(List Int))):Res ((Tx×Tx×Int)×(List Int)):=(gv s8.1 a7).bind fun y34=>(forR tN [y34.2.2,((y34.2.2+(2:Int))% 4)] s8.2).bind fun s78=>Res.ok (y34,s78)
@[irreducible] def vm (gv:(Tx×Tx×Int)→Tx→Res (Tx×Tx×Int)) (Z01:Tx×Tx×Int) (Z02:Tx):Res (List Int):=(forR (uL gv) (aZ Z02) (Z01,([]:List Int))).bind fun s82=>oA s82.2
def rd (Z01:Tx×Tx×Int) (Z02:Tx):Res (List Int):=vm gv Z01 Z02
@[irreducible] def tO (Z00:Int) (y40:List Int) (a43:Int) (s44:(Tx×Tx×Int)):Res (Tx×Tx×Int):=(if(!y40.contains a43)then((((jL (5:Int) a43).bind fun y75=>Res.ok ((Z00/ 16)+y75)).bind fun y76=>Res.ok (y76% 26)).bind fun y77=>eA ([97,98,99,100,101,102,103,104,105,106,107,108,109,110,111,112,113,114,115,116,117,118,119,120,121,122]:Tx) y77).bind fun y78=>((((ff s44.2.1 none (some a43)).bind fun y83=>df y83 y78).bind fun y84=>(ff s44.2.1 (some (a43+(1:Int))) none).bind fun y85=>df y84 y85).bind fun y86=>Res.ok (s44.1,y86,s44.2.2)).bind fun y87=>Res.ok y87 else Res.ok s44:Res (Tx×Tx×Int)).bind fun s91=>Res.ok s91
@[irreducible] def vn (r6:(Tx×Tx×Int)→Res (Tx×Tx×Int)) (r9:Tx→Res Tx) (rc:(Tx×Tx×Int)→Int→Res (Tx×Tx×Int)) (rd:(Tx×Tx×Int)→Tx→Res (List Int)) (Z01:Tx×Tx×Int) (Z02:Tx) (Z00:Int):Res ((Tx×Tx×Int)×Tx):=(if(decide ((Z00% 2)=(1:Int)))then(r6 Z01).bind fun y9=>(r9 Z02).bind fun y14=>Res.ok (y9,y14)else Res.ok (Z01,Z02):Res ((Tx×Tx×Int)×Tx)).bind fun s18=>(rc s18.1 ((Z00/ 2)% 4)).bind fun y29=>(if(decide (((Z00/ 8)% 2)=(1:Int)))then(rd y29 s18.2).bind fun y40=>((dm (4:Int)).bind fun y101=>forR (tO Z00 y40) y101 y29).bind fun s102=>Res.ok s102 else Res.ok y29:Res (Tx×Tx×Int)).bind fun s107=>Res.ok (s107,s18.2)
def re (Z01:Tx×Tx×Int) (Z02:Tx) (Z00:Int):Res ((Tx×Tx×Int)×Tx):=vn r6 r9 rc rd Z01 Z02 Z00
@[irreducible] def vo (Z09:(Tx×Tx×Int)×Tx) (Z00:Int):Res ((Tx×Tx×Int)×Tx):=(((oy Z09.2).bind fun y11=>Res.ok (if y11> (1:Int)then y11 else(1:Int))).bind fun y12=>i5 (Z00/ 4) y12).bind fun y13=>(eA ([102,98,105]:Tx) ((Z00/ 7)% 3)).bind fun y18=>(if(decide ((Z00% 4)=(1:Int)))then(((ff Z09.2 none (some y13)).bind fun y29=>df y29 y18).bind fun y30=>(ff Z09.2 (some (y13+(1:Int))) none).bind fun y31=>df y30 y31).bind fun y32=>Res.ok y32 else Res.ok Z09.2:Res Tx).bind fun s36=>(if(decide ((Z00% 4)=(2:Int)))then(eA ([97,98,99,100,101,102,103,104,105,106,107,108,109,110,111,112,113,114,115,116,117,118,119,120,121,122]:Tx) ((Z00/ 16)% 26)).bind fun y55=>((((ff Z09.1.2.1 none (some ((Z00/ 4)% 4))).bind fun y60=>df y60 y55).bind fun y61=>(ff Z09.1.2.1 (some (((Z00/ 4)% 4)+(1:Int))) none).bind fun y62=>df y61 y62).bind fun y63=>Res.ok (Z09.1.1,y63,Z09.1.2.2)).bind fun y64=>Res.ok y64 else Res.ok Z09.1:Res (Tx×Tx×Int)).bind fun s68=>((if(decide ((Z00% 4)=(3:Int)))then if(decide (((Z00/ 4)% 2)=(0:Int)))then(oy s36).bind fun y79=>Res.ok (decide (y79< (240:Int)))else Res.ok false else Res.ok false).bind fun y80=>(if y80 then(df s36 y18).bind fun y89=>Res.ok y89 else Res.ok s36:Res Tx)).bind fun s93=>((if(decide ((Z00% 4)=(3:Int)))then Res.ok (decide (((Z00/ 4)% 2)=(1:Int)))else Res.ok false).bind fun y100=>(if y100 then(((((oy s93).bind fun y109=>Res.ok (y109+(1:Int))).bind fun y110=>i5 (Z00/ 8) y110).bind fun y111=>Res.ok (some y111)).bind fun y112=>ff s93 none y112).bind fun y113=>Res.ok y113 else Res.ok s93:Res Tx)).bind fun s117=>Res.ok (s68,s117)
def rf (Z09:(Tx×Tx×Int)×Tx) (Z00:Int):Res ((Tx×Tx×Int)×Tx):=vo Z09 Z00
@[irreducible] def vp (kO:Tx→Res Int) (Z01:Tx×Tx×Int) (Z0z:Tx):Res Int:=if(decide (Z01.1=([83]:Tx)))then kO Z0z else(kO Z0z).bind fun y8=>Res.ok ((0:Int)- y8)
def mm (Z01:Tx×Tx×Int) (Z0z:Tx):Res Int:=vp kO Z01 Z0z
@[irreducible] def tP (gv:(Tx×Tx×Int)→Tx→Res (Tx×Tx×Int)) (mm:(Tx×Tx×Int)→Tx→Res Int) (a7:Tx) (s8:((Tx×Tx×Int)×(List (Tx×Tx×Tx)))):Res ((Tx×Tx×Int)×(List (Tx×Tx×Tx))):=(gv s8.1 a7).bind fun y34=>(((mm y34 a7).bind fun y39=>Res.ok (y39+(1:Int))).bind fun y40=>eA ([122,111,115]:Tx) y40).bind fun y41=>(((eA y34.2.1 y34.2.2).bind fun y44=>(eA y34.2.1 ((y34.2.2+(2:Int))% 4)).bind fun y45=>Res.ok (y44,y45,y41)).bind fun y50=>eP s8.2 y50).bind fun y49=>Res.ok (y34,y49)
@[irreducible] def vq (gv:(Tx×Tx×Int)→Tx→Res (Tx×Tx×Int)) (mm:(Tx×Tx×Int)→Tx→Res Int) (Z01:Tx×Tx×Int) (Z02:Tx):Res (List (Tx×Tx×Tx)):=(forR (tP gv mm) (aZ Z02) (Z01,([]:List (Tx×Tx×Tx)))).bind fun s51=>Res.ok s51.2
def qc (Z01:Tx×Tx×Int) (Z02:Tx):Res (List (Tx×Tx×Tx)):=vq gv mm Z01 Z02
@[irreducible] def vt (tablet:Tx×Tx×Int) (turn:Tx):Res (Tx×Tx×Int):=(((getD ([([102],1),([98],(-1)),([105],0)]:List (Tx×Int)) turn).bind fun y11=>Res.ok (tablet.2.2+y11)).bind fun y12=>Res.ok (y12% 4)).bind fun y13=>Res.ok (tablet.1,tablet.2.1,y13)
def g9 (tablet:Tx×Tx×Int) (turn:Tx):Res (Tx×Tx×Int):=vt tablet turn
@[irreducible] def mn (tablet:Tx×Tx×Int):Res Tx:=eA tablet.2.1 (tablet.2.2% 4)
def fH (tablet:Tx×Tx×Int):Res Tx:=mn tablet
@[irreducible] def vv (tablet:Tx×Tx×Int):Res Tx:=eA tablet.2.1 ((tablet.2.2+(2:Int))% 4)
def rg (tablet:Tx×Tx×Int):Res Tx:=vv tablet
@[irreducible] def vw (tablet:Tx×Tx×Int) (turn:Tx):Res Int:=(getD ([([102],1),([98],(-1)),([105],0)]:List (Tx×Int)) turn).bind fun y3=>if(decide (tablet.1=([83]:Tx)))then Res.ok y3 else Res.ok (-y3)
def rh (tablet:Tx×Tx×Int) (turn:Tx):Res Int:=vw tablet turn
@[irreducible] def vz (fH:(Tx×Tx×Int)→Res Tx) (rg:(Tx×Tx×Int)→Res Tx) (rh:(Tx×Tx×Int)→Tx→Res Int) (tablet:Tx×Tx×Int) (turn:Tx):Res (Tx×Tx×Tx):=(fH tablet).bind fun y2=>(rg tablet).bind fun y3=>((rh tablet turn).bind fun y1=>getD ([(1,[115]),((-1),[122]),(0,[111])]:List (Int×Tx)) y1).bind fun y4=>Res.ok (y2,y3,y4)
def kt (tablet:Tx×Tx×Int) (turn:Tx):Res (Tx×Tx×Tx):=vz fH rg rh tablet turn
@[irreducible] def t6 (g9:(Tx×Tx×Int)→Tx→Res (Tx×Tx×Int)) (kt:(Tx×Tx×Int)→Tx→Res (Tx×Tx×Tx)) (a11:Tx) (s12:((List (Tx×Tx×Int))×(List (List (Tx×Tx×Tx))))):Res ((List (Tx×Tx×Int))×(List (List (Tx×Tx×Tx)))):=(dQ (s12.1.zip (aZ a11)) (fun(a37:(Tx×Tx×Int)×Tx)=>g9 a37.1 a37.2)).bind fun y48=>((dQ (y48.zip (aZ a11)) (fun(a51:(Tx×Tx×Int)×Tx)=>kt a51.1 a51.2)).bind fun y66=>eP s12.2 y66).bind fun y65=>Res.ok (y48,y65)
@[irreducible] def vA (g9:(Tx×Tx×Int)→Tx→Res (Tx×Tx×Int)) (kt:(Tx×Tx×Int)→Tx→Res (Tx×Tx×Tx)) (draft:List (Tx×Tx×Int)) (plan:List Tx):Res (List (List (Tx×Tx×Tx))):=(forR (t6 g9 kt) plan (draft,([]:List (List (Tx×Tx×Tx))))).bind fun s67=>Res.ok s67.2
def ri (draft:List (Tx×Tx×Int)) (plan:List Tx):Res (List (List (Tx×Tx×Tx))):=vA g9 kt draft plan
@[irreducible] def vB (ri:(List (Tx×Tx×Int))→(List Tx)→Res (List (List (Tx×Tx×Tx)))) (strand:(Tx×Tx×Int)×Tx):Res (List (Tx×Tx×Tx)):=((lR strand.2).bind fun y9=>ri [strand.1] y9).bind fun y19=>dQ y19 (fun(a10:List (Tx×Tx×Tx))=>jM a10 (0:Int))
def nL (strand:(Tx×Tx×Int)×Tx):Res (List (Tx×Tx×Tx)):=vB ri strand
@[irreducible] def t9 (a1:Int×((Tx×Tx×Tx)×(Tx×Tx×Tx))) (a36:Int×Tx) (s37:Unit):Res (Fl (Option (Int×Tx)) Unit):=((jA a1.2.1 a36.1).bind fun y64=>(jA a1.2.2 a36.1).bind fun y65=>Res.ok (!decide (y64=y65))).bind fun y66=>if y66 then Res.ok (.rt (some (a1.1,a36.2)))else Res.ok (.nx ())
@[irreducible] def sf (a1:Int×((Tx×Tx×Tx)×(Tx×Tx×Tx))) (s2:Unit):Res (Fl (Option (Int×Tx)) Unit):=(dH (t9 a1) (cJ [([102,97,99,101],[98,97,99,107],[115,108,97,110,116]).1,([102,97,99,101],[98,97,99,107],[115,108,97,110,116]).2.1,([102,97,99,101],[98,97,99,107],[115,108,97,110,116]).2.2]) ()).bind (fun | .nx s73=>(Res.ok (.nx ())) | .rt r=>Res.ok (.rt r) | .bk _=>Res.stuck)
@[irreducible] def uM (ones:List (Tx×Tx×Tx)) (others:List (Tx×Tx×Tx)):Res (Option (Int×Tx)):=(dH sf (cJ (ones.zip others)) ()).bind (fun | .nx s77=>(if(!decide ((ones.length:Int)=(others.length:Int)))then Res.ok (some ((if(others.length:Int)< (ones.length:Int)then(others.length:Int)else(ones.length:Int)),([101,110,100]:Tx)))else Res.ok (none:Option (Int×Tx))) | .rt r=>Res.ok r | .bk _=>Res.stuck)
def pE (ones:List (Tx×Tx×Tx)) (others:List (Tx×Tx×Tx)):Res (Option (Int×Tx)):=uM ones others
@[irreducible] def vC (tablet:Tx×Tx×Int):Res (Tx×Tx×Int):=((((eA tablet.2.1 (0:Int)).bind fun y13=>(eA tablet.2.1 (3:Int)).bind fun y14=>df y13 y14).bind fun y15=>(eA tablet.2.1 (2:Int)).bind fun y16=>df y15 y16).bind fun y17=>(eA tablet.2.1 (1:Int)).bind fun y18=>df y17 y18).bind fun y19=>(getD ([([83],[90]),([90],[83])]:List (Tx×Tx)) tablet.1).bind fun y22=>Res.ok (y22,y19,(((4:Int)- tablet.2.2)% 4))
def rj (tablet:Tx×Tx×Int):Res (Tx×Tx×Int):=vC tablet
@[irreducible] def vD (turns:Tx):Res Tx:=(dQ (aZ turns) (fun(a1:Tx)=>getD ([([102],[98]),([98],[102]),([105],[105])]:List (Tx×Tx)) a1)).bind fun y10=>iy y10
def rk (turns:Tx):Res Tx:=vD turns
@[irreducible] def vF (tablet:Tx×Tx×Int) (many:Int):Res (Tx×Tx×Int):=((ff tablet.2.1 (some ((-many)% 4)) none).bind fun y15=>(ff tablet.2.1 none (some ((-many)% 4))).bind fun y16=>df y15 y16).bind fun y17=>Res.ok (tablet.1,y17,((tablet.2.2+many)% 4))
def rl (tablet:Tx×Tx×Int) (many:Int):Res (Tx×Tx×Int):=vF tablet many
@[irreducible] def vZ (g9:(Tx×Tx×Int)→Tx→Res (Tx×Tx×Int)) (a15:Tx) (s16:((Tx×Tx×Int)×(List (Int×Bool)))):Res ((Tx×Tx×Int)×(List (Int×Bool))):=(g9 s16.1 a15).bind fun y41=>(qO s16.2 y41.2.2 true).bind fun y47=>(qO y47 ((y41.2.2+(2:Int))% 4) true).bind fun y51=>Res.ok (y41,y51)
@[irreducible] def w4 (g9:(Tx×Tx×Int)→Tx→Res (Tx×Tx×Int)) (strand:(Tx×Tx×Int)×Tx):Res (List Int):=(forR (vZ g9) (aZ strand.2) (strand.1,([]:List (Int×Bool)))).bind fun s52=>rW s52.2
def tj (strand:(Tx×Tx×Int)×Tx):Res (List Int):=w4 g9 strand
@[irreducible] def w5 (tj:((Tx×Tx×Int)×Tx)→Res (List Int)) (strand:(Tx×Tx×Int)×Tx) (b6:Int) (colour:Tx):Res (Tx×Tx×Int):=((tj strand).bind fun y1=>Res.ok (y1.contains b6)).bind fun y2=>if y2 then Res.stuck else(((ff strand.1.2.1 none (some b6)).bind fun y15=>df y15 colour).bind fun y16=>(ff strand.1.2.1 (some (b6+(1:Int))) none).bind fun y17=>df y16 y17).bind fun y18=>Res.ok (strand.1.1,y18,strand.1.2.2)
def tm (strand:(Tx×Tx×Int)×Tx) (b6:Int) (colour:Tx):Res (Tx×Tx×Int):=w5 tj strand b6 colour
@[irreducible] def uN (rj:(Tx×Tx×Int)→Res (Tx×Tx×Int)) (rk:Tx→Res Tx) (rl:(Tx×Tx×Int)→Int→Res (Tx×Tx×Int)) (tm:((Tx×Tx×Int)×Tx)→Int→Tx→Res (Tx×Tx×Int)) (strand:(Tx×Tx×Int)×Tx) (step:Dat):Res ((Tx×Tx×Int)×Tx):=(((mW step (0:Int)).bind fun y9=>ix (uy y9)).bind fun y10=>Res.ok (decide (y10=([102,108,105,112]:Tx)))).bind fun y11=>if y11 then(rj strand.1).bind fun y14=>(rk strand.2).bind fun y15=>Res.ok (y14,y15)else(((mW step (0:Int)).bind fun y21=>ix (uy y21)).bind fun y22=>Res.ok (decide (y22=([114,111,108,108]:Tx)))).bind fun y23=>if y23 then(((mW step (1:Int)).bind fun y26=>ix (uY y26)).bind fun y27=>rl strand.1 y27).bind fun y28=>Res.ok (y28,strand.2)else((((mW step (1:Int)).bind fun y34=>ix (uY y34)).bind fun y35=>Res.ok (y35% 4)).bind fun y37=>((mW step (2:Int)).bind fun y36=>ix (uy y36)).bind fun y38=>tm strand y37 y38).bind fun y39=>Res.ok (y39,strand.2)
def Z08 (strand:(Tx×Tx×Int)×Tx) (step:Dat):Res ((Tx×Tx×Int)×Tx):=uN rj rk rl tm strand step
@[irreducible] def vG (Z08:((Tx×Tx×Int)×Tx)→Dat→Res ((Tx×Tx×Int)×Tx)) (one:(Tx×Tx×Int)×Tx) (other:(Tx×Tx×Int)×Tx):Res (List Dat):=(if(!decide (one.1.1=other.1.1))then(eP ([]:List Dat) (Dat.t [Dat.s (([102,108,105,112]:Tx))])).bind fun y16=>(Z08 one (Dat.t [Dat.s (([102,108,105,112]:Tx))])).bind fun y19=>Res.ok (y19,y16)else Res.ok (one,([]:List Dat)):Res (((Tx×Tx×Int)×Tx)×(List Dat))).bind fun s23=>(if(!decide (((other.1.2.2- s23.1.1.2.2)% 4)=(0:Int)))then(eP s23.2 (Dat.t [Dat.s (([114,111,108,108]:Tx),((other.1.2.2- s23.1.1.2.2)% 4)).1,Dat.i (([114,111,108,108]:Tx),((other.1.2.2- s23.1.1.2.2)% 4)).2])).bind fun y46=>Res.ok y46 else Res.ok s23.2:Res (List Dat)).bind fun s48=>Res.ok s48
def rm (one:(Tx×Tx×Int)×Tx) (other:(Tx×Tx×Int)×Tx):Res (List Dat):=vG Z08 one other
@[irreducible] def vH (tablet:Tx×Tx×Int) (wanted:Tx×Tx×Int):Res (List Dat):=iz (cJ ((aZ tablet.2.1).zip (aZ wanted.2.1))) (fun(a1:Int×(Tx×Tx))=>if(!decide (a1.2.1=a1.2.2))then Res.ok (some (Dat.t [Dat.s (([100,121,101]:Tx),a1.1,a1.2.2).1,Dat.i (([100,121,101]:Tx),a1.1,a1.2.2).2.1,Dat.s (([100,121,101]:Tx),a1.1,a1.2.2).2.2]))else Res.ok none)
def qd (tablet:Tx×Tx×Int) (wanted:Tx×Tx×Int):Res (List Dat):=vH tablet wanted
@[irreducible] def Z0t (Z08:((Tx×Tx×Int)×Tx)→Dat→Res ((Tx×Tx×Int)×Tx)) (a19:Dat) (s20:((Tx×Tx×Int)×Tx)):Res ((Tx×Tx×Int)×Tx):=(Z08 s20 a19).bind fun y44=>Res.ok y44
@[irreducible] def uO (pE:(List (Tx×Tx×Tx))→(List (Tx×Tx×Tx))→Res (Option (Int×Tx))) (nL:((Tx×Tx×Int)×Tx)→Res (List (Tx×Tx×Tx))) (rm:((Tx×Tx×Int)×Tx)→((Tx×Tx×Int)×Tx)→Res (List Dat)) (Z08:((Tx×Tx×Int)×Tx)→Dat→Res ((Tx×Tx×Int)×Tx)) (qd:(Tx×Tx×Int)→(Tx×Tx×Int)→Res (List Dat)) (one:(Tx×Tx×Int)×Tx) (other:(Tx×Tx×Int)×Tx):Res (List Dat):=((nL one).bind fun y3=>(nL other).bind fun y4=>pE y3 y4).bind fun y5=>if y5.isSome then((ix y5).bind fun y10=>Res.ok y10.1).bind fun y12=>((ix y5).bind fun y11=>Res.ok y11.2).bind fun y13=>Res.err (qV y12 y13)else(rm one other).bind fun y16=>(forR (Z0t Z08) y16 one).bind fun s47=>(qd s47.1 other.1).bind fun y51=>sM y16 y51
def nM (one:(Tx×Tx×Int)×Tx) (other:(Tx×Tx×Int)×Tx):Res (List Dat):=uO pE nL rm Z08 qd one other
@[irreducible] def vI (nM:((Tx×Tx×Int)×Tx)→((Tx×Tx×Int)×Tx)→Res (List Dat)) (Zb1:(Tx×Tx×Int)×Tx) (Z7c:(Tx×Tx×Int)×Tx):Res Dat:=(Res.tryR (nM Zb1 Z7c)).bind fun r2=>match r2 with | .inr j4=>Res.ok (lu [114,101,102,117,115,101,100] j4) | .inl y3=>if(cU 3 ((fun(z:List Dat)=>Dat.l (z.map fun(z:Dat)=>z)) y3))then Res.ok (Dat.t [Dat.s (([108,101,100]:Tx))])else Res.ok (Dat.t [Dat.s (([110,111,32,108,105,115,116]:Tx))])
def qe (Zb1:(Tx×Tx×Int)×Tx) (Z7c:(Tx×Tx×Int)×Tx):Res Dat:=vI nM Zb1 Z7c
@[irreducible] def uP (Z0Z:List (Tx×Tx×Tx)) (Z0L:List (Tx×Tx×Tx)) (a1:Int) (a23:Int) (s24:Unit):Res (Fl Dat Unit):=(((jM Z0Z a1).bind fun y44=>jA y44 a23).bind fun y46=>((jM Z0L a1).bind fun y45=>jA y45 a23).bind fun y47=>Res.ok (!decide (y46=y47))).bind fun y48=>if y48 then(((jM [([102,97,99,101]:Tx),([98,97,99,107]:Tx),([115,108,97,110,116]:Tx)] a23).bind fun y51=>Res.ok (([114,101,102,117,115,101,100]:Tx),[([85,110,108,105,107,101]:Tx)],a1,y51)).bind fun y52=>Res.ok ((fun(z:Tx×(List Tx)×Int×Tx)=>Dat.t [Dat.s z.1,Dat.l (z.2.1.map fun(z:Tx)=>Dat.s z),Dat.i z.2.2.1,Dat.s z.2.2.2]) y52)).bind fun y53=>Res.ok (.rt y53)else Res.ok (.nx ())
@[irreducible] def tQ (Z0Z:List (Tx×Tx×Tx)) (Z0L:List (Tx×Tx×Tx)) (a1:Int) (s2:Unit):Res (Fl Dat Unit):=((dm (3:Int)).bind fun y58=>dH (uP Z0Z Z0L a1) y58 ()).bind (fun | .nx s59=>(Res.ok (.nx ())) | .rt r=>Res.ok (.rt r) | .bk _=>Res.stuck)
@[irreducible] def vJ (Z0Z:List (Tx×Tx×Tx)) (Z0L:List (Tx×Tx×Tx)):Res Dat:=((dm (if(Z0L.length:Int)< (Z0Z.length:Int)then(Z0L.length:Int)else(Z0Z.length:Int))).bind fun y63=>dH (tQ Z0Z Z0L) y63 ()).bind (fun | .nx s64=>(if(!decide ((Z0Z.length:Int)=(Z0L.length:Int)))then Res.ok ((fun(z:Tx×(List Tx)×Int×Tx)=>Dat.t [Dat.s z.1,Dat.l (z.2.1.map fun(z:Tx)=>Dat.s z),Dat.i z.2.2.1,Dat.s z.2.2.2]) (([114,101,102,117,115,101,100]:Tx),[([85,110,108,105,107,101]:Tx)],(if(Z0L.length:Int)< (Z0Z.length:Int)then(Z0L.length:Int)else(Z0Z.length:Int)),([101,110,100]:Tx)))else Res.ok (Dat.t [Dat.s (([108,101,100]:Tx))])) | .rt r=>Res.ok r | .bk _=>Res.stuck)
def qg (Z0Z:List (Tx×Tx×Tx)) (Z0L:List (Tx×Tx×Tx)):Res Dat:=vJ Z0Z Z0L
@[irreducible] def mo (qb:List Int→Int→Res ((Tx×Tx×Int)×Tx)) (rf:((Tx×Tx×Int)×Tx)→Int→Res ((Tx×Tx×Int)×Tx)) (re:(Tx×Tx×Int)→Tx→Int→Res ((Tx×Tx×Int)×Tx)) (gm:List Int→Int→Res Int) (qc:(Tx×Tx×Int)→Tx→Res (List (Tx×Tx×Tx))) (qe:((Tx×Tx×Int)×Tx)→((Tx×Tx×Int)×Tx)→Res Dat) (qg:(List (Tx×Tx×Tx))→(List (Tx×Tx×Tx))→Res Dat) (Z0r:List Int):Res Bool:=((ui (((7:Int),([98,97,99,107]:Tx)).1,((7:Int),([98,97,99,107]:Tx)).2) ((7:Int),([98,97,99,107]:Tx))).bind fun y5=>Res.ok (!y5)).bind fun y6=>if y6 then Res.ok false else(qb Z0r (0:Int)).bind fun y15=>(((gm Z0r (3:Int)).bind fun y20=>re y15.1 y15.2 y20).bind fun y21=>(gm Z0r (4:Int)).bind fun y22=>rf y21 y22).bind fun y23=>((((gm Z0r (5:Int)).bind fun y26=>Res.ok (y26% 9)).bind fun y27=>Res.ok (decide (y27=(4:Int)))).bind fun y28=>(if y28 then(qb Z0r (6:Int)).bind fun y37=>Res.ok y37 else Res.ok y23:Res ((Tx×Tx×Int)×Tx))).bind fun s41=>(qc y15.1 y15.2).bind fun y52=>(qc s41.1 s41.2).bind fun y57=>(((qe y15 s41).bind fun y60=>(qg y52 y57).bind fun y61=>ux y60 y61).bind fun y62=>Res.ok (!y62)).bind fun y63=>if y63 then Res.ok false else(qe s41 y15).bind fun y70=>(qg y57 y52).bind fun y71=>ux y70 y71
def pF (Z0r:List Int):Res Bool:=mo qb rf re gm qc qe qg Z0r
end
end Mi
namespace Wb
open PySem L2 Mi
def tp (i:Nat):Stmt:=PySem.Challenge.pw_wornband_k22_unlike_strands.main.body.getD i (.Pass ⟨0,0,0,0⟩)
def tR:Stmt:=match tp 12 with
 | .ClassDef _ _ _ (x::_) _ _ _ _ _ _ _=>x
 | s=>s
end Wb
namespace Wb
open PySem L2 Mi
theorem gp:bootBuiltins "ValueError" =some (.type "ValueError"):=by decide +kernel
section
variable {P:Program} {w:World} {K:PySem.W.Frag} {mg:Str→Option Value} {base:Heap}
def dw (j n:Nat):List (Tx×Bool):=List.take n [([66,97,100,84,97,98,108,101,116],decide (0=j)),([66,97,100,82,111,119],decide (1=j)),([66,97,100,84,101,120,116],decide (2=j)),([66,97,100,77,97,114,107],decide (3=j)),([84,111,111,76,111,110,103],decide (4=j)),([84,111,111,84,105,103,104,116],decide (5=j)),([83,112,111,111,108,68,114,121],decide (6=j)),([78,111,84,97,98,108,101,116],decide (7=j)),([78,111,116,104,105,110,103,76,101,102,116],decide (8=j)),([85,110,108,105,107,101],decide (9=j)),([83,101,101,110,84,104,114,101,97,100],decide (10=j)),([78,111,83,117,99,104,87,97,121],decide (11=j)),([66,97,114,114,101,100],decide (12=j)),([110,111,32,66,97,110,100,69,114,114,111,114],false),([110,111,32,86,97,108,117,101,69,114,114,111,114],false)]
theorem cG {Er:Nat→Prop} {K:PySem.W.Frag} {x C:Addr} {σ:St} {W:Wd} {v:V} {c:Value} {b:Bool} (h0:σ[0]? =some (some (.ref x))) (hv:kv v=some c) (hk:PySem.W.kitOne K (.ref C) c=some b):
  EV Er (db (fun xs H Q=>∃v c b,xs=[.ref x,v]∧kv v=some c∧PySem.W.kitOne K (.ref C) c=some b∧Q (.bl b) H) (aj (bx 0) (aj (tC v) aX))) σ W (sh isB) (.ok b):=fun W1 e1 Q k=>
 ⟨.ref x,h0,v,c,b,rfl,hv,hk,k (.bl b) W1 (.refl _) rfl⟩
def rn (a:Tx×Bool):Res (Option Tx):=if a.2 then Res.ok (some a.1)else Res.ok none
theorem lv:∀j,j< 13→iz (dw j 15) rn=.ok [kindN.getD j []]:=by
 intro j hj
 match j,hj with
 | 0,_=>rfl
 | 1,_=>rfl
 | 2,_=>rfl
 | 3,_=>rfl
 | 4,_=>rfl
 | 5,_=>rfl
 | 6,_=>rfl
 | 7,_=>rfl
 | 8,_=>rfl
 | 9,_=>rfl
 | 10,_=>rfl
 | 11,_=>rfl
 | 12,_=>rfl
theorem pG {f:Addr} {fd:FuncData} (F:Fun K "_law_kinds" "_law_kinds" (tp 59) f fd) (h_isinstance:mg "isinstance" =none) (h_ValueError:mg "ValueError" =none) {Z0i Z0A Z0v Z0w Z0x Z0n Z0o Z0p Z0a Z06 Z0d Z0j Z0B Z04:Addr} (Z4r:mg "BadTablet" =some (.ref Z0i)) (Z7x:mg "BadRow" =some (.ref Z0A)) (Z6h:mg "BadText" =some (.ref Z0v)) (Z6i:mg "BadMark" =some (.ref Z0w)) (Z6j:mg "TooLong" =some (.ref Z0x)) (Z5p:mg "TooTight" =some (.ref Z0n)) (Z5q:mg "SpoolDry" =some (.ref Z0o)) (Z5r:mg "NoTablet" =some (.ref Z0p)) (Z2K:mg "NothingLeft" =some (.ref Z0a)) (Z1U:mg "Unlike" =some (.ref Z06)) (Z3k:mg "SeenThread" =some (.ref Z0d)) (Z4s:mg "NoSuchWay" =some (.ref Z0j)) (Z7y:mg "Barred" =some (.ref Z0B)) (Z1J:mg "BandError" =some (.ref Z04)):
  FnOkH P w K mg base 1 f fd ["_law_e"] (fF K [Z0i,Z0A,Z0v,Z0w,Z0x,Z0n,Z0o,Z0p,Z0a,Z06,Z0d,Z0j,Z0B] Z04):=by
 have SC:FnScope ["_law_e","_law_known"] ["_law_e"] (defScope (tp 59)):=⟨rfl,rfl,rfl,by decide +kernel,rfl,by decide +kernel,by decide +kernel⟩
 refine Fun.okH F SC (fun x C vs H Q E h=>?_) (fun x C cdv A outer s H vs Q E hE hr h=>?_)
 ·obtain⟨_,_,_,rfl,_⟩:=h;rfl
 ·obtain⟨W0,j,rfl,rfl,hZ,hj,hc,hB,hV,hq⟩:=h
  refine⟨_,(ae (av (i:=1) SC.nd rfl (by first | exact Or.inl rfl | exact Or.inr rfl) (bT (a8 (aI (a8 ax (a8 (ai (aT (K:=K) rfl hE hZ) (by rfl) h_isinstance PyProof.Rows.boot_isinstance (a8 (pv 0) (a8 (aV (v:=.ref Z0i) (by rfl) Z4r rfl) ac))) ac))) (a8 (aI (a8 ax (a8 (ai (aT (K:=K) rfl hE hZ) (by rfl) h_isinstance PyProof.Rows.boot_isinstance (a8 (pv 0) (a8 (aV (v:=.ref Z0A) (by rfl) Z7x rfl) ac))) ac))) ac))))
   (ae (av (i:=1) SC.nd rfl (by first | exact Or.inl rfl | exact Or.inr rfl) (ag eN (pv 1) (bT (a8 (aI (a8 ax (a8 (ai (aT (K:=K) rfl hE hZ) (by rfl) h_isinstance PyProof.Rows.boot_isinstance (a8 (pv 0) (a8 (aV (v:=.ref Z0v) (by rfl) Z6h rfl) ac))) ac))) (a8 (aI (a8 ax (a8 (ai (aT (K:=K) rfl hE hZ) (by rfl) h_isinstance PyProof.Rows.boot_isinstance (a8 (pv 0) (a8 (aV (v:=.ref Z0w) (by rfl) Z6i rfl) ac))) ac))) ac)))))
   (ae (av (i:=1) SC.nd rfl (by first | exact Or.inl rfl | exact Or.inr rfl) (ag eN (pv 1) (bT (a8 (aI (a8 ax (a8 (ai (aT (K:=K) rfl hE hZ) (by rfl) h_isinstance PyProof.Rows.boot_isinstance (a8 (pv 0) (a8 (aV (v:=.ref Z0x) (by rfl) Z6j rfl) ac))) ac))) (a8 (aI (a8 ax (a8 (ai (aT (K:=K) rfl hE hZ) (by rfl) h_isinstance PyProof.Rows.boot_isinstance (a8 (pv 0) (a8 (aV (v:=.ref Z0n) (by rfl) Z5p rfl) ac))) ac))) ac)))))
   (ae (av (i:=1) SC.nd rfl (by first | exact Or.inl rfl | exact Or.inr rfl) (ag eN (pv 1) (bT (a8 (aI (a8 ax (a8 (ai (aT (K:=K) rfl hE hZ) (by rfl) h_isinstance PyProof.Rows.boot_isinstance (a8 (pv 0) (a8 (aV (v:=.ref Z0o) (by rfl) Z5q rfl) ac))) ac))) (a8 (aI (a8 ax (a8 (ai (aT (K:=K) rfl hE hZ) (by rfl) h_isinstance PyProof.Rows.boot_isinstance (a8 (pv 0) (a8 (aV (v:=.ref Z0p) (by rfl) Z5r rfl) ac))) ac))) ac)))))
   (ae (av (i:=1) SC.nd rfl (by first | exact Or.inl rfl | exact Or.inr rfl) (ag eN (pv 1) (bT (a8 (aI (a8 ax (a8 (ai (aT (K:=K) rfl hE hZ) (by rfl) h_isinstance PyProof.Rows.boot_isinstance (a8 (pv 0) (a8 (aV (v:=.ref Z0a) (by rfl) Z2K rfl) ac))) ac))) (a8 (aI (a8 ax (a8 (ai (aT (K:=K) rfl hE hZ) (by rfl) h_isinstance PyProof.Rows.boot_isinstance (a8 (pv 0) (a8 (aV (v:=.ref Z06) (by rfl) Z1U rfl) ac))) ac))) ac)))))
   (ae (av (i:=1) SC.nd rfl (by first | exact Or.inl rfl | exact Or.inr rfl) (ag eN (pv 1) (bT (a8 (aI (a8 ax (a8 (ai (aT (K:=K) rfl hE hZ) (by rfl) h_isinstance PyProof.Rows.boot_isinstance (a8 (pv 0) (a8 (aV (v:=.ref Z0d) (by rfl) Z3k rfl) ac))) ac))) (a8 (aI (a8 ax (a8 (ai (aT (K:=K) rfl hE hZ) (by rfl) h_isinstance PyProof.Rows.boot_isinstance (a8 (pv 0) (a8 (aV (v:=.ref Z0j) (by rfl) Z4s rfl) ac))) ac))) ac)))))
   (ae (av (i:=1) SC.nd rfl (by first | exact Or.inl rfl | exact Or.inr rfl) (ag eN (pv 1) (bT (a8 (aI (a8 ax (a8 (ai (aT (K:=K) rfl hE hZ) (by rfl) h_isinstance PyProof.Rows.boot_isinstance (a8 (pv 0) (a8 (aV (v:=.ref Z0B) (by rfl) Z7y rfl) ac))) ac))) (a8 (aI (a8 ax (a8 (kR (ai (aT (K:=K) rfl hE hZ) (by rfl) h_isinstance PyProof.Rows.boot_isinstance (a8 (pv 0) (a8 (aV (v:=.ref Z04) (by rfl) Z1J rfl) ac)))) ac))) ac)))))
   (ae (av (i:=1) SC.nd rfl (by first | exact Or.inl rfl | exact Or.inr rfl) (ag eN (pv 1) (bT (a8 (aI (a8 ax (a8 (kR (ai (aT (K:=K) rfl hE hZ) (by rfl) h_isinstance PyProof.Rows.boot_isinstance (a8 (pv 0) (a8 (cv (v:=.ty "ValueError") (by rfl) h_ValueError gp rfl) ac)))) ac))) ac))))
   (af (aw (pi (N:=["_law_name","_law_so"]) (cap:=[none,none]) (j8 rfl (by decide +kernel) rfl (by decide +kernel) (by rfl) (by rfl)) hE.hdx (ph (K:=K) rfl (pv 1)) (fun _ _ _ _ hx=>(qS (K:=K) (n:=2) rfl hx (ap (al (i:=0) (show List.Nodup (["_law_name","_law_so"]:List Str) by decide +kernel) rfl (by first | exact Or.inl rfl | exact Or.inr rfl)) (ap (al (i:=1) (show List.Nodup (["_law_name","_law_so"]:List Str) by decide +kernel) rfl (by first | exact Or.inl rfl | exact Or.inr rfl)) bA)))) (fun _ _ _ _=>(lP (d0 (pv 1)))) (fun _ _ _ _=>(pv 0))))))))))))),?_⟩
  have E0:Ext W0 W0:=.refl W0
  rw[show L2.start ["_law_e","_law_known"] [.ref x]=[some (.ref x),none]from rfl]
  refine aq (Er:=fun _=>False) (i:=1) (R:=sh (isL (isT2 K isS isB))) (m:=.ok (dw j 2)) (σ':=fun v=>[some (.ref x),some v]) (EVo.ev (cP (ba (bd (K:=K) (az (x:=Str.ofString "BadTablet") (l:=[66,97,100,84,97,98,108,101,116]) (cS _ _ (by decide +kernel))) (cG (K:=K) (C:=C) (v:=.ref Z0i) (c:=.ref Z0i) (b:=decide (0=j)) rfl rfl (hc 0 _ rfl))) (ba (bd (K:=K) (az (x:=Str.ofString "BadRow") (l:=[66,97,100,82,111,119]) (cS _ _ (by decide +kernel))) (cG (K:=K) (C:=C) (v:=.ref Z0A) (c:=.ref Z0A) (b:=decide (1=j)) rfl rfl (hc 1 _ rfl))) (cO (R:=isT2 K isS isB)))))) (fun v0 W1 e0 h0=>?_)
  have E0:=E0.trans e0
  refine aq (Er:=fun _=>False) (i:=1) (R:=sh (isL (isT2 K isS isB))) (m:=.ok (dw j 4)) (σ':=fun v=>[some (.ref x),some v]) (EVo.ev (dD (EV.pk (aa (R:=sh (isL (isT2 K isS isB))) h0)) (EVo.pk (cP (ba (bd (K:=K) (az (x:=Str.ofString "BadText") (l:=[66,97,100,84,101,120,116]) (cS _ _ (by decide +kernel))) (cG (K:=K) (C:=C) (v:=.ref Z0v) (c:=.ref Z0v) (b:=decide (2=j)) rfl rfl (hc 2 _ rfl))) (ba (bd (K:=K) (az (x:=Str.ofString "BadMark") (l:=[66,97,100,77,97,114,107]) (cS _ _ (by decide +kernel))) (cG (K:=K) (C:=C) (v:=.ref Z0w) (c:=.ref Z0w) (b:=decide (3=j)) rfl rfl (hc 3 _ rfl))) (cO (R:=isT2 K isS isB)))))))) (fun v1 W2 e1 h1=>?_)
  have E0:=E0.trans e1
  refine aq (Er:=fun _=>False) (i:=1) (R:=sh (isL (isT2 K isS isB))) (m:=.ok (dw j 6)) (σ':=fun v=>[some (.ref x),some v]) (EVo.ev (dD (EV.pk (aa (R:=sh (isL (isT2 K isS isB))) h1)) (EVo.pk (cP (ba (bd (K:=K) (az (x:=Str.ofString "TooLong") (l:=[84,111,111,76,111,110,103]) (cS _ _ (by decide +kernel))) (cG (K:=K) (C:=C) (v:=.ref Z0x) (c:=.ref Z0x) (b:=decide (4=j)) rfl rfl (hc 4 _ rfl))) (ba (bd (K:=K) (az (x:=Str.ofString "TooTight") (l:=[84,111,111,84,105,103,104,116]) (cS _ _ (by decide +kernel))) (cG (K:=K) (C:=C) (v:=.ref Z0n) (c:=.ref Z0n) (b:=decide (5=j)) rfl rfl (hc 5 _ rfl))) (cO (R:=isT2 K isS isB)))))))) (fun v2 W3 e2 h2=>?_)
  have E0:=E0.trans e2
  refine aq (Er:=fun _=>False) (i:=1) (R:=sh (isL (isT2 K isS isB))) (m:=.ok (dw j 8)) (σ':=fun v=>[some (.ref x),some v]) (EVo.ev (dD (EV.pk (aa (R:=sh (isL (isT2 K isS isB))) h2)) (EVo.pk (cP (ba (bd (K:=K) (az (x:=Str.ofString "SpoolDry") (l:=[83,112,111,111,108,68,114,121]) (cS _ _ (by decide +kernel))) (cG (K:=K) (C:=C) (v:=.ref Z0o) (c:=.ref Z0o) (b:=decide (6=j)) rfl rfl (hc 6 _ rfl))) (ba (bd (K:=K) (az (x:=Str.ofString "NoTablet") (l:=[78,111,84,97,98,108,101,116]) (cS _ _ (by decide +kernel))) (cG (K:=K) (C:=C) (v:=.ref Z0p) (c:=.ref Z0p) (b:=decide (7=j)) rfl rfl (hc 7 _ rfl))) (cO (R:=isT2 K isS isB)))))))) (fun v3 W4 e3 h3=>?_)
  have E0:=E0.trans e3
  refine aq (Er:=fun _=>False) (i:=1) (R:=sh (isL (isT2 K isS isB))) (m:=.ok (dw j 10)) (σ':=fun v=>[some (.ref x),some v]) (EVo.ev (dD (EV.pk (aa (R:=sh (isL (isT2 K isS isB))) h3)) (EVo.pk (cP (ba (bd (K:=K) (az (x:=Str.ofString "NothingLeft") (l:=[78,111,116,104,105,110,103,76,101,102,116]) (cS _ _ (by decide +kernel))) (cG (K:=K) (C:=C) (v:=.ref Z0a) (c:=.ref Z0a) (b:=decide (8=j)) rfl rfl (hc 8 _ rfl))) (ba (bd (K:=K) (az (x:=Str.ofString "Unlike") (l:=[85,110,108,105,107,101]) (cS _ _ (by decide +kernel))) (cG (K:=K) (C:=C) (v:=.ref Z06) (c:=.ref Z06) (b:=decide (9=j)) rfl rfl (hc 9 _ rfl))) (cO (R:=isT2 K isS isB)))))))) (fun v4 W5 e4 h4=>?_)
  have E0:=E0.trans e4
  refine aq (Er:=fun _=>False) (i:=1) (R:=sh (isL (isT2 K isS isB))) (m:=.ok (dw j 12)) (σ':=fun v=>[some (.ref x),some v]) (EVo.ev (dD (EV.pk (aa (R:=sh (isL (isT2 K isS isB))) h4)) (EVo.pk (cP (ba (bd (K:=K) (az (x:=Str.ofString "SeenThread") (l:=[83,101,101,110,84,104,114,101,97,100]) (cS _ _ (by decide +kernel))) (cG (K:=K) (C:=C) (v:=.ref Z0d) (c:=.ref Z0d) (b:=decide (10=j)) rfl rfl (hc 10 _ rfl))) (ba (bd (K:=K) (az (x:=Str.ofString "NoSuchWay") (l:=[78,111,83,117,99,104,87,97,121]) (cS _ _ (by decide +kernel))) (cG (K:=K) (C:=C) (v:=.ref Z0j) (c:=.ref Z0j) (b:=decide (11=j)) rfl rfl (hc 11 _ rfl))) (cO (R:=isT2 K isS isB)))))))) (fun v5 W6 e5 h5=>?_)
  have E0:=E0.trans e5
  refine aq (Er:=fun _=>False) (i:=1) (R:=sh (isL (isT2 K isS isB))) (m:=.ok (dw j 14)) (σ':=fun v=>[some (.ref x),some v]) (EVo.ev (dD (EV.pk (aa (R:=sh (isL (isT2 K isS isB))) h5)) (EVo.pk (cP (ba (bd (K:=K) (az (x:=Str.ofString "Barred") (l:=[66,97,114,114,101,100]) (cS _ _ (by decide +kernel))) (cG (K:=K) (C:=C) (v:=.ref Z0B) (c:=.ref Z0B) (b:=decide (12=j)) rfl rfl (hc 12 _ rfl))) (ba (bd (K:=K) (az (x:=Str.ofString "no BandError") (l:=[110,111,32,66,97,110,100,69,114,114,111,114]) (cS _ _ (by decide +kernel))) (oH (cG (K:=K) (C:=C) (v:=.ref Z04) (c:=.ref Z04) (b:=true) rfl rfl hB))) (cO (R:=isT2 K isS isB)))))))) (fun v6 W7 e6 h6=>?_)
  have E0:=E0.trans e6
  refine aq (Er:=fun _=>False) (i:=1) (R:=sh (isL (isT2 K isS isB))) (m:=.ok (dw j 15)) (σ':=fun v=>[some (.ref x),some v]) (EVo.ev (dD (EV.pk (aa (R:=sh (isL (isT2 K isS isB))) h6)) (EVo.pk (cP (ba (bd (K:=K) (az (x:=Str.ofString "no ValueError") (l:=[110,111,32,86,97,108,117,101,69,114,114,111,114]) (cS _ _ (by decide +kernel))) (oH (cG (K:=K) (C:=C) (v:=.ty "ValueError") (c:=.type "ValueError") (b:=true) rfl rfl hV))) (cO (R:=isT2 K isS isB))))))) (fun v7 W8 e7 h7=>?_)
  have E0:=E0.trans e7
  refine eY (Er:=fun _=>False) (m:=.ok [kindN.getD j []]) (lv j hj▸(jR (R:=isT2 K isS isB) (R':=isS) (m:=.ok (dw j 15)) (f:=rn) (ef (aa (R:=sh (isL (isT2 K isS isB))) h7)) fun W3 a1 v2 e4 h5 Q12 k13=>?_:EVo (fun _=>False) _ _ _ isS ((Res.ok (dw j 15)).bind fun xs=>iz xs rn))) (fun p W e hp o=>hq p W (E0.trans e) (bi E0.h hp) o)
  refine jS h5 fun v6 v8 h7 h9=>?_
  cases h7
  cases h9
  refine⟨by simp[Keep,bD],((oF (aa (R:=sh isB) (a:=a1.2) (v:=.bl a1.2) rfl)):TV (fun _=>False) _ [some (.str (sOf a1.1)),some (.bl a1.2)] _ _) _ (.refl _) _ ?_⟩
  intro W15 e16
  unfold rn at k13
  cases hb:a1.2 with
  | false=>rw[hb]at k13;exact k13 none _ e16 trivial
  | true =>
   rw[hb]at k13
   rw[if_pos rfl]
   exact((aa (R:=sh isS) (a:=a1.1) (v:=.str (sOf a1.1)) rfl):EV (fun _=>False) _ [some (.str (sOf a1.1)),some (.bl true)] _ _ _) W15 (.refl _) _ (fun u W18 e19 h21=>k13 (some u) _ (e16.trans e19) h21)
end
end Wb
namespace Wb
open PySem L2 Mi
section
variable {P:Program} {w:World} {K:PySem.W.Frag} {mg:Str→Option Value} {base:Heap}
theorem wz {f:Addr} {fd:FuncData} (F:Fun K "_law_at" "_law_at" (tp 46) f fd) (h_len:mg "len" =none):FnOk P w K mg base CX0 (1) f fd ["_law_script","_law_k"] (bf (isScr K) isI (rs isI) (va)):=by
 have SC:FnScope ["_law_script","_law_k"] ["_law_script","_law_k"] (defScope (tp 46)):=⟨rfl,rfl,rfl,by decide +kernel,rfl,by decide +kernel,by decide +kernel⟩
 refine F.ok SC (fun vs H Q E h=>?_) (fun cdv A outer s H vs Q E hr h=>?_)
 ·obtain⟨_,_,_,_,_,_,rfl,_⟩:=h;rfl
 ·obtain⟨W0,Z0r,l_k,Z0k,_,rfl,rfl,Z05,z_l_k,Er,hq⟩:=h
  cases z_l_k
  refine⟨_,(ae (bw (aL rP (pv 1) (ai (bh (K:=K) rfl) (by rfl) h_len PySem.boot_len (a8 (pv 0) ac)) (b9 _)) (af (aw (au (dl (K:=K) rfl) (pv 0) (pv 1) (fun _ _=>rfl)))) aK)
   (af (aw (ag aE (ag fM (ag bH (ag fM (pv 1) ad) ad) (ag bH (ai (bh (K:=K) rfl) (by rfl) h_len PySem.boot_len (a8 (pv 0) ac)) ad)) ad)))),?_⟩
  have E0:Ext W0 W0:=.refl W0
  rw[show L2.start ["_law_script","_law_k"] [Z0k,.int l_k]=[some Z0k,some (.int l_k)]from rfl]
  unfold va at hq
  refine cE (Er:=Er) (aW (jd (aa (R:=sh isI) (a:=l_k) (v:=.int l_k) rfl) (iF (aa (R:=sh (isScr K)) Z05)))) (fun W1 e2=>?_)
  have E0:=E0.trans e2
  have Z05:=Mono.mono (R:=(isScr K)) e2.g Z05
  by_cases hb13:(decide (l_k< (Z0r.length:Int)))=true
  ·rw[if_pos hb13]at hq ⊢
   exact aQ (Er:=Er) (R:=sh isI) (oM (aa (R:=sh (isScr K)) Z05) (aa (R:=sh isI) (a:=l_k) (v:=.int l_k) rfl)) (Res.OkE.imp hq fun y3 hq v4 W5 e6 h7=>hq v4 W5 (E0.trans e6) h7)
  ·rw[if_neg hb13]at hq ⊢
   try dsimp only[aG]
   exact aQ (Er:=Er) (R:=sh isI) (ar (fun _=>by decide) (la (bo (ar (fun _=>.inr ⟨by decide,by decide⟩) (aa (R:=sh isI) (a:=l_k) (v:=.int l_k) rfl)) ao) (bo (iF (aa (R:=sh (isScr K)) Z05)) ao))) (Res.OkE.imp hq fun y9 hq v10 W11 e12 h13=>hq v10 W11 (E0.trans e12) h13)
theorem wB {f:Addr} {fd:FuncData} (F:Fun K "_law_row" "_law_row" (tp 42) f fd) (h_abs:mg "abs" =none) (h_range:mg "range" =none):FnOk P w K mg base CX0 (1) f fd ["_law_cell","_law_many","_law_base"] (gl isI isI isI (ro isI) (vb)):=by
 have SC:FnScope ["_law_cell","_law_many","_law_base","_law_now","_law_far","_law_mix","_law_out","_law_k"] ["_law_cell","_law_many","_law_base"] (defScope (tp 42)):=⟨rfl,rfl,rfl,by decide +kernel,rfl,by decide +kernel,by decide +kernel⟩
 refine F.ok SC (fun vs H Q E h=>?_) (fun cdv A outer s H vs Q E hr h=>?_)
 ·obtain⟨_,_,_,_,_,_,_,_,rfl,_⟩:=h;rfl
 ·obtain⟨W0,Z00,Z0b,Z0C,_,_,_,rfl,rfl,Z14,Z3l,Zhv,Er,hq⟩:=h
  cases Z14
  cases Z3l
  cases Zhv
  refine⟨_,(ae (av (i:=3) SC.nd rfl (by first | exact Or.inl rfl | exact Or.inr rfl) (ai nV (by rfl) h_abs PyProof.Rows.boot_abs (a8 (pv 0) ac)))
   (ae (av (i:=4) SC.nd rfl (by first | exact Or.inl rfl | exact Or.inr rfl) (fj tZ (pv 3) (ag sB ad ad) (b9 _)))
   (ae (av (i:=5) SC.nd rfl (by first | exact Or.inl rfl | exact Or.inr rfl) (ag aE (pv 3) ad))
   (ae (av (i:=6) SC.nd rfl (by first | exact Or.inl rfl | exact Or.inr rfl) (bT ac))
   (ae (cM PassesOwn.never rfl (dL rfl h_range (a8 (pv 1) ac)) (al (i:=7) SC.nd rfl (by first | exact Or.inl rfl | exact Or.inr rfl)) (ae (av (i:=5) SC.nd rfl (by first | exact Or.inl rfl | exact Or.inr rfl) (ag aE (ag bH (ag bH (ag fM (pv 5) ad) ad) (pv 7)) ad))
   (af (bw (PW.pt (fJ (d0 (pv 4)) (fi (aL tY (pv 3) ad (b9 _))))) (ae (dW (cF (K:=K) rfl (pv 6) (a8 (ag aE (pv 3) (pv 2)) ac)))
   (af (av (i:=3) SC.nd rfl (by first | exact Or.inl rfl | exact Or.inr rfl) (ag bz (pv 3) (pv 2))))) (af (dW (cF (K:=K) rfl (pv 6) (a8 (ag aE (ag aE (ag fM (pv 5) (pv 5)) ad) (pv 2)) ac))))))))
   (af (aw (pv 6)))))))),?_⟩
  have E0:Ext W0 W0:=.refl W0
  rw[show L2.start ["_law_cell","_law_many","_law_base","_law_now","_law_far","_law_mix","_law_out","_law_k"] [.int Z00,.int Z0b,.int Z0C]=[some (.int Z00),some (.int Z0b),some (.int Z0C),none,none,none,none,none]from rfl]
  unfold vb at hq
  refine aq (Er:=Er) (i:=3) (R:=sh isI) (σ':=fun v3=>[some (.int Z00),some (.int Z0b),some (.int Z0C),some v3,none,none,none,none]) (sO (aa (R:=sh isI) (a:=Z00) (v:=.int Z00) rfl)) (fun v3 W1 e2 h4=>?_)
  cases h4
  have E0:=E0.trans e2
  refine aq (Er:=Er) (i:=4) (R:=sh isB) (σ':=fun v7=>[some (.int Z00),some (.int Z0b),some (.int Z0C),some (.int (cT Z00)),some v7,none,none,none]) (jd (aa (R:=sh isI) (a:=(cT Z00)) (v:=.int (cT Z00)) rfl) (qF (r:=1000000000000000000) (by decide) (by decide))) (fun v7 W5 e6 h8=>?_)
  cases h8
  have E0:=E0.trans e6
  refine aq (Er:=Er) (i:=5) (R:=sh isI) (σ':=fun v11=>[some (.int Z00),some (.int Z0b),some (.int Z0C),some (.int (cT Z00)),some (.bl (decide ((1000000000000000000:Int)≤cT Z00))),some v11,none,none]) (ar (fun _=>by decide) (aa (R:=sh isI) (a:=(cT Z00)) (v:=.int (cT Z00)) rfl)) (fun v11 W9 e10 h12=>?_)
  cases h12
  have E0:=E0.trans e10
  refine dR (Er:=Er) (i:=6) (σ':=fun p15=>[some (.int Z00),some (.int Z0b),some (.int Z0C),some (.int (cT Z00)),some (.bl (decide ((1000000000000000000:Int)≤cT Z00))),some (.int ((cT Z00)% 2147483647)),some (.ref p15),none]) (fv (R:=isI)) (fun p15 W13 e14 hp16 o17=>?_)
  have fr18:=bi E0.h hp16
  have E0:=E0.trans e14
  refine du (Er:=Er) (f:=(tL Z00 Z0C)) (s0:=(((cT Z00)% 2147483647),cT Z00,([]:List Int))) (Iv:=fun(s21:(Int×Int×(List Int))) (W22:Wd) (g23:St)=>∃(d25:Option V),g23=[some (.int Z00),some (.int Z0b),some (.int Z0C),some (.int s21.2.1),some (.bl (decide ((1000000000000000000:Int)≤cT Z00))),some (.int s21.1),some (.ref p15),d25]∧Ext W0 W22∧Ow isI W22 p15 s21.2.2) (eR (aa (R:=sh isI) (a:=Z0b) (v:=.int Z0b) rfl)) (Res.okE_bind hq) ?_ ?_ ?_
  ·intro W37 e38
   have E0:=E0.trans e38
   have o17:=o17.mono e38
   exact⟨_,rfl,E0,o17⟩
  ·intro Wb26 W27 W28 a19 v29 s20 sg30 P31 hW32 hB33 iv e34 h35 hq
   obtain⟨d25,rfl,E0,o24⟩:=iv
   have E0:=E0.trans e34
   have hB33:=hB33.trans e34.g
   have o24:=o24.mono e34
   cases h35
   refine gn (σ':=[some (.int Z00),some (.int Z0b),some (.int Z0C),some (.int s20.2.1),some (.bl (decide ((1000000000000000000:Int)≤cT Z00))),some (.int s20.1),some (.ref p15),some (.int a19)]) ?_
   unfold tL at hq
   refine aq (Er:=Er) (i:=5) (R:=sh isI) (σ':=fun v43=>[some (.int Z00),some (.int Z0b),some (.int Z0C),some (.int s20.2.1),some (.bl (decide ((1000000000000000000:Int)≤cT Z00))),some v43,some (.ref p15),some (.int a19)]) (ar (fun _=>by decide) (bo (bo (ar (fun _=>.inr ⟨by decide,by decide⟩) (aa (R:=sh isI) (a:=s20.1) (v:=.int s20.1) rfl)) ao) (aa (R:=sh isI) (a:=a19) (v:=.int a19) rfl))) (fun v43 W41 e42 h44=>?_)
   cases h44
   have E0:=E0.trans e42
   have hB33:=hB33.trans e42.g
   have o24:=o24.mono e42
   refine jn (Er:=Er) (Iv:=fun(s74:(Int×(List Int))) (W75:Wd) (g76:St)=>g76=[some (.int Z00),some (.int Z0b),some (.int Z0C),some (.int s74.1),some (.bl (decide ((1000000000000000000:Int)≤cT Z00))),some (.int ((((s20.1*48271)+(7919:Int))+a19)% 2147483647)),some (.ref p15),some (.int a19)]∧Ext W0 W75∧Ow isI W75 p15 s74.2) (jg (oF (aa (R:=sh isB) (a:=(decide ((1000000000000000000:Int)≤cT Z00))) (v:=.bl (decide ((1000000000000000000:Int)≤cT Z00))) rfl)) (aW (jd (aa (R:=sh isI) (a:=s20.2.1) (v:=.int s20.2.1) rfl) ao))) (Res.okE_bind hq) ?_ ?_ ?_
   ·intro W46 N49 e47 hN50 hq
    have hs51:=e47.g
    have E0:=E0.trans e47
    have hB33:=hB33.trans e47.g
    have o24:=o24.mono e47
    refine jT (Er:=Er) o24 (gM (aa (R:=sh isI) (a:=s20.2.1) (v:=.int s20.2.1) rfl) (aa (R:=sh isI) (a:=Z0C) (v:=.int Z0C) rfl)) ((Res.okE_bind hq).imp fun y55 hq W52 mu53 o54=>?_)
    have E0:=mu53.e _ E0 fr18
    have hB33:=hB33.trans mu53.g
    have hs51:=hs51.trans mu53.g
    refine cQ (Er:=Er) (i:=3) (R:=sh isI) (σ':=fun v60=>[some (.int Z00),some (.int Z0b),some (.int Z0C),some v60,some (.bl (decide ((1000000000000000000:Int)≤cT Z00))),some (.int ((((s20.1*48271)+(7919:Int))+a19)% 2147483647)),some (.ref p15),some (.int a19)]) (qz (aa (R:=sh isI) (a:=s20.2.1) (v:=.int s20.2.1) rfl) (aa (R:=sh isI) (a:=Z0C) (v:=.int Z0C) rfl)) ((Res.okE_bind hq).imp fun y59 hq v60 W57 e58 h61=>?_)
    cases h61
    have E0:=E0.trans e58
    have hB33:=hB33.trans e58.g
    have hs51:=hs51.trans e58.g
    have o54:=o54.mono e58
    exact hN50 (y59,y55) W57 _ hs51 ⟨rfl,E0,o54⟩ hq
   ·intro W46 N49 e47 hN50 hq
    have hs62:=e47.g
    have E0:=E0.trans e47
    have hB33:=hB33.trans e47.g
    have o24:=o24.mono e47
    refine fS (Er:=Er) o24 (gM (ar (fun _=>by decide) (la (aa (R:=sh isI) (a:=((((s20.1*48271)+(7919:Int))+a19)% 2147483647)) (v:=.int ((((s20.1*48271)+(7919:Int))+a19)% 2147483647)) rfl) (aa (R:=sh isI) (a:=((((s20.1*48271)+(7919:Int))+a19)% 2147483647)) (v:=.int ((((s20.1*48271)+(7919:Int))+a19)% 2147483647)) rfl))) (aa (R:=sh isI) (a:=Z0C) (v:=.int Z0C) rfl)) ((Res.okE_bind hq).imp fun y68 hq W65 mu66 o67=>?_)
    have E0:=mu66.e _ E0 fr18
    have hB33:=hB33.trans mu66.g
    have hs62:=hs62.trans mu66.g
    exact hN50 (s20.2.1,y68) W65 _ hs62 ⟨rfl,E0,o67⟩ hq
   ·intro s70 W71 sg72 hS73 iv hq
    obtain⟨rfl,E0,o77⟩:=iv
    have hB33:=hB33.trans hS73
    try dsimp only
    refine cV (W:=W71) (((((s20.1*48271)+(7919:Int))+a19)% 2147483647),s70.1,s70.2) hB33 ?_ hq
    exact⟨_,rfl,E0,o77⟩
  ·intro s79 W80 sg81 hS82 iv hq
   obtain⟨d25,rfl,E0,o24⟩:=iv
   exact⟨.ref p15,rfl,hq p15 W80 E0 fr18 o24⟩
theorem wC {f:Addr} {fd:FuncData} (F:Fun K "_law_holes" "_law_holes" (tp 43) f fd) {kN:Int→Int→Int→Res (List Int)} (Z1E:Cal P w K mg base "_law_row" ["_law_cell","_law_many","_law_base"] (1) (gl isI isI isI (ro isI) kN)):FnOk P w K mg base CX0 (2) f fd ["_law_cell"] (bY isI (rs isS) (vc kN)):=by
 have SC:FnScope ["_law_cell","_law_size","_law_draws","_law_out","_law_d"] ["_law_cell"] (defScope (tp 43)):=⟨rfl,rfl,rfl,by decide +kernel,rfl,by decide +kernel,by decide +kernel⟩
 refine F.ok SC (fun vs H Q E h=>?_) (fun cdv A outer s H vs Q E hr h=>?_)
 ·obtain⟨_,_,_,_,rfl,_⟩:=h;rfl
 ·obtain⟨W0,Z00,_,rfl,rfl,Z14,Er,hq⟩:=h
  cases Z14
  refine⟨_,(ae (av (i:=1) SC.nd rfl (by first | exact Or.inl rfl | exact Or.inr rfl) (au (dl (K:=K) rfl) (bT (a8 ad (a8 ad (a8 ad (a8 ad (a8 ad ac)))))) (ag aE (pv 0) ad) (fun _ _=>rfl)))
   (ae (av (i:=2) SC.nd rfl (by first | exact Or.inl rfl | exact Or.inr rfl) (ay Z1E (hr.mono (by decide)) (by rfl) (a8 (ag bz (pv 0) ad) (a8 ad (a8 ad ac)))))
   (ae (av (i:=3) SC.nd rfl (by first | exact Or.inl rfl | exact Or.inr rfl) ax)
   (ae (cM PassesOwn.never rfl (dP (K:=K) rfl (bW (ou (K:=K) rfl) (pv 2) cC (cD ad))) (al (i:=4) SC.nd rfl (by first | exact Or.inl rfl | exact Or.inr rfl)) (af (av (i:=3) SC.nd rfl (by first | exact Or.inl rfl | exact Or.inr rfl) (ag bb (pv 3) (au bC ax (ag aE (ag bH (au (dl (K:=K) rfl) (pv 2) ad (fun _ _=>rfl)) (ag fM (ag aE (pv 4) (pv 1)) ad)) ad) (fun _ _=>rfl))))))
   (af (aw (pv 3))))))),?_⟩
  have E0:Ext W0 W0:=.refl W0
  rw[show L2.start ["_law_cell","_law_size","_law_draws","_law_out","_law_d"] [.int Z00]=[some (.int Z00),none,none,none,none]from rfl]
  unfold vc at hq
  refine aq (Er:=Er) (i:=1) (R:=sh isI) (σ':=fun v4=>[some (.int Z00),some v4,none,none,none]) (fQ (EVo.pk (cP (ba ao (ba ao (ba ao (ba ao (ba ao (cO (R:=isI))))))))) (ar (fun _=>by decide) (aa (R:=sh isI) (a:=Z00) (v:=.int Z00) rfl))) ((Res.okE_bind hq).imp fun y3 hq v4 W1 e2 h5=>?_)
  cases h5
  have E0:=E0.trans e2
  refine aq (Er:=Er) (i:=2) (R:=sh (isL isI)) (σ':=fun v9=>[some (.int Z00),some (.int y3),some v9,none,none]) (EVo.ev (iD (ar (fun _=>⟨by decide,by decide⟩) (aa (R:=sh isI) (a:=Z00) (v:=.int Z00) rfl)) ao ao)) ((Res.okE_bind hq).imp fun y8 hq v9 W6 e7 h10=>?_)
  have E0:=E0.trans e7
  refine aq (Er:=Er) (i:=3) (R:=sh isS) (σ':=fun v13=>[some (.int Z00),some (.int y3),some v9,some v13,none]) (az (x:=Str.ofString "") (l:=[]) (cS _ _ (by decide +kernel))) (fun v13 W11 e12 h14=>?_)
  cases h14
  have E0:=E0.trans e12
  have h10:=Mono.mono (R:=(isL isI)) e12.g h10
  refine du (Er:=Er) (f:=(tM y3 y8)) (s0:=([]:Tx)) (Iv:=fun(s17:Tx) (W18:Wd) (g19:St)=>∃(d20:Option V),g19=[some (.int Z00),some (.int y3),some v9,some (.str (sOf s17)),d20]∧Ext W0 W18) (ef (EVo.ev (qD (EV.pk (aa (R:=sh (isL isI)) h10)) eD (eE ao)))) (Res.okE_bind hq) ?_ ?_ ?_
  ·intro W32 e33
   have E0:=E0.trans e33
   have h10:=Mono.mono (R:=(isL isI)) e33.g h10
   exact⟨_,rfl,E0⟩
  ·intro Wb21 W22 W23 a15 v24 s16 sg25 P26 hW27 hB28 iv e29 h30 hq
   obtain⟨d20,rfl,E0⟩:=iv
   have h10:=Mono.mono (R:=(isL isI)) hW27 h10
   have E0:=E0.trans e29
   have hB28:=hB28.trans e29.g
   have h10:=Mono.mono (R:=(isL isI)) e29.g h10
   cases h30
   refine gn (σ':=[some (.int Z00),some (.int y3),some v9,some (.str (sOf s16)),some (.int a15)]) ?_
   unfold tM at hq
   refine cQ (Er:=Er) (i:=3) (R:=sh isS) (σ':=fun v45=>[some (.int Z00),some (.int y3),some v9,some v45,some (.int a15)]) (bJ (aa (R:=sh isS) (a:=s16) (v:=.str (sOf s16)) rfl) (bE (az (x:=Str.ofString "abcdefghijklmnopqrstuvwxyz") (l:=[97,98,99,100,101,102,103,104,105,106,107,108,109,110,111,112,113,114,115,116,117,118,119,120,121,122]) (cS _ _ (by decide +kernel))) (ar (fun _=>by decide) (bo (fQ (EV.pk (aa (R:=sh (isL isI)) h10)) ao) (ar (fun _=>.inr ⟨by decide,by decide⟩) (gM (aa (R:=sh isI) (a:=a15) (v:=.int a15) rfl) (aa (R:=sh isI) (a:=y3) (v:=.int y3) rfl))))))) ((Res.okE_bind hq).imp fun y44 hq v45 W36 e37 h46=>?_)
   cases h46
   have E0:=E0.trans e37
   have hB28:=hB28.trans e37.g
   have h10:=Mono.mono (R:=(isL isI)) e37.g h10
   try dsimp only
   refine cV (W:=W36) y44 hB28 ?_ hq
   exact⟨_,rfl,E0⟩
  ·intro s47 W48 sg49 hS50 iv hq
   obtain⟨d20,rfl,E0⟩:=iv
   exact aQ (Er:=Er) (R:=sh isS) (aa (R:=sh isS) (a:=s47) (v:=.str (sOf s47)) rfl) (fun v51 W52 e53 h54=>hq v51 W52 (E0.trans e53) h54)
theorem wD {f:Addr} {fd:FuncData} (F:Fun K "_law_card" "_law_card" (tp 44) f fd) {qY:Int→Res Tx} (Z3m:Cal P w K mg base "_law_holes" ["_law_cell"] (2) (bY isI (rs isS) qY)):FnOk P w K mg base CX0 (3) f fd ["_law_cell"] (bY isI (rs (isT3 K isS isS isI)) (vd qY)):=by
 have SC:FnScope ["_law_cell"] ["_law_cell"] (defScope (tp 44)):=⟨rfl,rfl,rfl,by decide +kernel,rfl,by decide +kernel,by decide +kernel⟩
 refine F.ok SC (fun vs H Q E h=>?_) (fun cdv A outer s H vs Q E hr h=>?_)
 ·obtain⟨_,_,_,_,rfl,_⟩:=h;rfl
 ·obtain⟨W0,Z00,_,rfl,rfl,Z14,Er,hq⟩:=h
  cases Z14
  refine⟨_,(af (aw (aI (a8 (au bC ax (ag aE (pv 0) ad) (fun _ _=>rfl)) (a8 (ay Z3m (hr.mono (by decide)) (by rfl) (a8 (ag bz (pv 0) ad) ac)) (a8 (ag aE (ag bz (pv 0) ad) ad) ac)))))),?_⟩
  have E0:Ext W0 W0:=.refl W0
  rw[show L2.start ["_law_cell"] [.int Z00]=[some (.int Z00)]from rfl]
  unfold vd at hq
  exact aQ (Er:=Er) (R:=sh (isT3 K isS isS isI)) (cx (K:=K) (bE (az (x:=Str.ofString "SZ") (l:=[83,90]) (cS _ _ (by decide +kernel))) (ar (fun _=>by decide) (aa (R:=sh isI) (a:=Z00) (v:=.int Z00) rfl))) (cq (ar (fun _=>⟨by decide,by decide⟩) (aa (R:=sh isI) (a:=Z00) (v:=.int Z00) rfl))) (ar (fun _=>by decide) (ar (fun _=>⟨by decide,by decide⟩) (aa (R:=sh isI) (a:=Z00) (v:=.int Z00) rfl)))) (Res.OkE.imp hq fun y3 hq v4 W5 e6 h7=>hq v4 W5 (E0.trans e6) h7)
theorem wE {f:Addr} {fd:FuncData} (F:Fun K "_law_turns" "_law_turns" (tp 45) f fd) {kN:Int→Int→Int→Res (List Int)} (Z1E:Cal P w K mg base "_law_row" ["_law_cell","_law_many","_law_base"] (1) (gl isI isI isI (ro isI) kN)):FnOk P w K mg base CX0 (2) f fd ["_law_cell","_law_many"] (bf isI isI (rs isS) (ve kN)):=by
 have SC:FnScope ["_law_cell","_law_many"] ["_law_cell","_law_many"] (defScope (tp 45)):=⟨rfl,rfl,rfl,by decide +kernel,rfl,by decide +kernel,by decide +kernel⟩
 refine F.ok SC (fun vs H Q E h=>?_) (fun cdv A outer s H vs Q E hr h=>?_)
 ·obtain⟨_,_,_,_,_,_,rfl,_⟩:=h;rfl
 ·obtain⟨W0,Z00,Z0b,_,_,rfl,rfl,Z14,Z3l,Er,hq⟩:=h
  cases Z14
  cases Z3l
  refine⟨_,(ae (bw (aL cH (ag aE (pv 0) ad) ad (b9 _)) (af (aw (ag l0 (au bC ax (ag aE (ag bz (pv 0) ad) ad) (fun _ _=>rfl)) (pv 1)))) aK)
   (af (aw (fw (K:=K) rfl ax (a8 (ee (N:=["_law_d"]) (cap:=[none]) (j8 rfl (by decide +kernel) rfl (by decide +kernel) (by rfl) (by rfl)) rfl (dP (K:=K) rfl (ay Z1E (hr.mono (by decide)) (by rfl) (a8 (ag bz (pv 0) ad) (a8 (pv 1) (a8 ad ac))))) (fun _ _ _ _=>(al (i:=0) (show List.Nodup (["_law_d"]:List Str) by decide +kernel) rfl (by first | exact Or.inl rfl | exact Or.inr rfl))) (fun _ _ _ _=>dZ) (fun _ _ _ _=>(au bC ax (pv 0) (fun _ _=>rfl)))) ac))))),?_⟩
  have E0:Ext W0 W0:=.refl W0
  rw[show L2.start ["_law_cell","_law_many"] [.int Z00,.int Z0b]=[some (.int Z00),some (.int Z0b)]from rfl]
  unfold ve at hq
  refine cE (Er:=Er) (aW (d5 (ar (fun _=>by decide) (aa (R:=sh isI) (a:=Z00) (v:=.int Z00) rfl)) ao)) (fun W1 e2=>?_)
  have E0:=E0.trans e2
  by_cases hb24:(decide ((Z00% 7)=(3:Int)))=true
  ·rw[if_pos hb24]at hq ⊢
   exact aQ (Er:=Er) (R:=sh isS) (qB (bE (az (x:=Str.ofString "fbi") (l:=[102,98,105]) (cS _ _ (by decide +kernel))) (ar (fun _=>by decide) (ar (fun _=>⟨by decide,by decide⟩) (aa (R:=sh isI) (a:=Z00) (v:=.int Z00) rfl)))) (aa (R:=sh isI) (a:=Z0b) (v:=.int Z0b) rfl)) (Res.OkE.imp hq fun y4 hq v5 W6 e7 h8=>hq v5 W6 (E0.trans e7) h8)
  ·rw[if_neg hb24]at hq ⊢
   try dsimp only[aG]
   exact aQ (Er:=Er) (R:=sh isS) (gs (cS _ _ (by decide +kernel)) (EVo.pk (eg (f:=fun(a9:Int)=>eA ([102,98,105]:Tx) a9) (ef (EVo.ev (iD (ar (fun _=>⟨by decide,by decide⟩) (aa (R:=sh isI) (a:=Z00) (v:=.int Z00) rfl)) (aa (R:=sh isI) (a:=Z0b) (v:=.int Z0b) rfl) ao))) fun W11 a9 v10 e12 h13 Q16 k17=>by
    cases h13
    refine gn ?_
    exact⟨by simp[Keep,bD],((bE (az (x:=Str.ofString "fbi") (l:=[102,98,105]) (cS _ _ (by decide +kernel))) (aa (R:=sh isI) (a:=a9) (v:=.int a9) rfl)):EV Er _ [some (.int a9)] _ _ _) _ (.refl _) _ k17⟩))) (Res.OkE.imp hq fun y20 hq v21 W22 e23 h24=>hq v21 W22 (E0.trans e23) h24)
theorem wF {f:Addr} {fd:FuncData} (F:Fun K "_law_strand" "_law_strand" (tp 47) f fd) {gm:List Int→Int→Res Int} {qZ:Int→Res (Tx×Tx×Int)} {r0:Int→Int→Res Tx} (Z13:Cal P w K mg base "_law_at" ["_law_script","_law_k"] (1) (bf (isScr K) isI (rs isI) gm)) (Z4t:Cal P w K mg base "_law_card" ["_law_cell"] (3) (bY isI (rs (isT3 K isS isS isI)) qZ)) (Z3n:Cal P w K mg base "_law_turns" ["_law_cell","_law_many"] (2) (bf isI isI (rs isS) r0)):FnOk P w K mg base CX0 (4) f fd ["_law_script","_law_at_here"] (bf (isScr K) isI (rs (isT2 K (isT3 K isS isS isI) isS)) (vf gm qZ r0)):=by
 have SC:FnScope ["_law_script","_law_at_here","_law_size","_law_many"] ["_law_script","_law_at_here"] (defScope (tp 47)):=⟨rfl,rfl,rfl,by decide +kernel,rfl,by decide +kernel,by decide +kernel⟩
 refine F.ok SC (fun vs H Q E h=>?_) (fun cdv A outer s H vs Q E hr h=>?_)
 ·obtain⟨_,_,_,_,_,_,rfl,_⟩:=h;rfl
 ·obtain⟨W0,Z0r,Z0u,Z0k,_,rfl,rfl,Z05,Zd1,Er,hq⟩:=h
  cases Zd1
  refine⟨_,(ae (av (i:=2) SC.nd rfl (by first | exact Or.inl rfl | exact Or.inr rfl) (ay Z13 (hr.mono (by decide)) (by rfl) (a8 (pv 0) (a8 (ag bH (pv 1) ad) ac))))
   (ae (av (i:=3) SC.nd rfl (by first | exact Or.inl rfl | exact Or.inr rfl) (ag aE (pv 2) ad))
   (ae (bw (aL cH (ag aE (ag bz (pv 2) ad) ad) ad (b9 _)) (af (av (i:=3) SC.nd rfl (by first | exact Or.inl rfl | exact Or.inr rfl) (ag aE (ag bz (pv 2) ad) ad))) aK)
   (ae (bw (aL cH (ag aE (ag bz (pv 2) ad) ad) ad (b9 _)) (af (av (i:=3) SC.nd rfl (by first | exact Or.inl rfl | exact Or.inr rfl) (ag aE (ag bz (pv 2) ad) ad))) aK)
   (af (aw (aI (a8 (ay Z4t (hr.mono (by decide)) (by rfl) (a8 (ay Z13 (hr.mono (by decide)) (by rfl) (a8 (pv 0) (a8 (pv 1) ac))) ac)) (a8 (ay Z3n (hr.mono (by decide)) (by rfl) (a8 (ay Z13 (hr.mono (by decide)) (by rfl) (a8 (pv 0) (a8 (ag bH (pv 1) ad) ac))) (a8 (pv 3) ac))) ac))))))))),?_⟩
  have E0:Ext W0 W0:=.refl W0
  rw[show L2.start ["_law_script","_law_at_here","_law_size","_law_many"] [Z0k,.int Z0u]=[some Z0k,some (.int Z0u),none,none]from rfl]
  unfold vf at hq
  refine aq (Er:=Er) (i:=2) (R:=sh isI) (σ':=fun v4=>[some Z0k,some (.int Z0u),some v4,none]) (aR (aa (R:=sh (isScr K)) Z05) (bo (aa (R:=sh isI) (a:=Z0u) (v:=.int Z0u) rfl) ao)) ((Res.okE_bind hq).imp fun y3 hq v4 W1 e2 h5=>?_)
  cases h5
  have E0:=E0.trans e2
  have Z05:=Mono.mono (R:=(isScr K)) e2.g Z05
  refine aq (Er:=Er) (i:=3) (R:=sh isI) (σ':=fun v8=>[some Z0k,some (.int Z0u),some (.int y3),some v8]) (ar (fun _=>by decide) (aa (R:=sh isI) (a:=y3) (v:=.int y3) rfl)) (fun v8 W6 e7 h9=>?_)
  cases h9
  have E0:=E0.trans e7
  have Z05:=Mono.mono (R:=(isScr K)) e7.g Z05
  refine cr (Er:=Er) (Iv:=fun(s25:Int) (W26:Wd) (g27:St)=>g27=[some Z0k,some (.int Z0u),some (.int y3),some (.int s25)]∧Ext W0 W26) (aW (d5 (ar (fun _=>by decide) (ar (fun _=>⟨by decide,by decide⟩) (aa (R:=sh isI) (a:=y3) (v:=.int y3) rfl))) ao)) (Res.okE_bind hq) ?_ ?_ ?_
  ·intro W10 N13 e11 hN14 hq
   have hs15:=e11.g
   have E0:=E0.trans e11
   have Z05:=Mono.mono (R:=(isScr K)) e11.g Z05
   refine cQ (Er:=Er) (i:=3) (R:=sh isI) (σ':=fun v18=>[some Z0k,some (.int Z0u),some (.int y3),some v18]) (ar (fun _=>by decide) (ar (fun _=>⟨by decide,by decide⟩) (aa (R:=sh isI) (a:=y3) (v:=.int y3) rfl))) (fun v18 W16 e17 h19=>?_)
   cases h19
   have E0:=E0.trans e17
   have hs15:=hs15.trans e17.g
   have Z05:=Mono.mono (R:=(isScr K)) e17.g Z05
   exact hN14 ((y3/ 78)% 4) W16 _ hs15 ⟨rfl,E0⟩ hq
  ·intro W10 N13 e11 hN14 hq
   have hs20:=e11.g
   have E0:=E0.trans e11
   have Z05:=Mono.mono (R:=(isScr K)) e11.g Z05
   try dsimp only[aG]
   exact hN14 (y3% 13) W10 _ hs20 ⟨rfl,E0⟩ hq
  ·intro s21 W22 sg23 hS24 iv hq
   obtain⟨rfl,E0⟩:=iv
   have Z05:=Mono.mono (R:=(isScr K)) hS24 Z05
   refine cr (Er:=Er) (Iv:=fun(s43:Int) (W44:Wd) (g45:St)=>g45=[some Z0k,some (.int Z0u),some (.int y3),some (.int s43)]∧Ext W0 W44) (aW (d5 (ar (fun _=>by decide) (ar (fun _=>⟨by decide,by decide⟩) (aa (R:=sh isI) (a:=y3) (v:=.int y3) rfl))) ao)) (Res.okE_bind hq) ?_ ?_ ?_
   ·intro W28 N31 e29 hN32 hq
    have hs33:=e29.g
    have E0:=E0.trans e29
    have Z05:=Mono.mono (R:=(isScr K)) e29.g Z05
    refine cQ (Er:=Er) (i:=3) (R:=sh isI) (σ':=fun v36=>[some Z0k,some (.int Z0u),some (.int y3),some v36]) (ar (fun _=>by decide) (ar (fun _=>⟨by decide,by decide⟩) (aa (R:=sh isI) (a:=y3) (v:=.int y3) rfl))) (fun v36 W34 e35 h37=>?_)
    cases h37
    have E0:=E0.trans e35
    have hs33:=hs33.trans e35.g
    have Z05:=Mono.mono (R:=(isScr K)) e35.g Z05
    exact hN32 ((y3/ 78)% 241) W34 _ hs33 ⟨rfl,E0⟩ hq
   ·intro W28 N31 e29 hN32 hq
    have hs38:=e29.g
    have E0:=E0.trans e29
    have Z05:=Mono.mono (R:=(isScr K)) e29.g Z05
    try dsimp only[aG]
    exact hN32 s21 W28 _ hs38 ⟨rfl,E0⟩ hq
   ·intro s39 W40 sg41 hS42 iv hq
    obtain⟨rfl,E0⟩:=iv
    have Z05:=Mono.mono (R:=(isScr K)) hS42 Z05
    exact aQ (Er:=Er) (R:=sh (isT2 K (isT3 K isS isS isI) isS)) (bd (K:=K) (cq (aR (aa (R:=sh (isScr K)) Z05) (aa (R:=sh isI) (a:=Z0u) (v:=.int Z0u) rfl))) (aR (aR (aa (R:=sh (isScr K)) Z05) (bo (aa (R:=sh isI) (a:=Z0u) (v:=.int Z0u) rfl) ao)) (aa (R:=sh isI) (a:=s39) (v:=.int s39) rfl))) (Res.OkE.imp hq fun y50 hq v51 W52 e53 h54=>hq v51 W52 (E0.trans e53) h54)
theorem wG {f:Addr} {fd:FuncData} (F:Fun K "_law_turnover" "_law_turnover" (tp 52) f fd):FnOk P w K mg base CX0 (1) f fd ["_law_card_here"] (bY (isT3 K isS isS isI) (rs (isT3 K isS isS isI)) (vg)):=by
 have SC:FnScope ["_law_card_here","_law_holes_here"] ["_law_card_here"] (defScope (tp 52)):=⟨rfl,rfl,rfl,by decide +kernel,rfl,by decide +kernel,by decide +kernel⟩
 refine F.ok SC (fun vs H Q E h=>?_) (fun cdv A outer s H vs Q E hr h=>?_)
 ·obtain⟨_,_,_,_,rfl,_⟩:=h;rfl
 ·obtain⟨W0,Z01,Z07,rfl,rfl,Z03,Er,hq⟩:=h
  refine⟨_,(ae (av (i:=1) SC.nd rfl (by first | exact Or.inl rfl | exact Or.inr rfl) (au (am (K:=K) rfl) (pv 0) ad (fun _ _=>rfl)))
   (af (aw (aI (a8 (au bC ax (fT (K:=K) rfl rfl ax (a8 (au (am (K:=K) rfl) (pv 0) ad (fun _ _=>rfl)) ac)) (fun _ _=>rfl)) (a8 (ag bb (ag bb (ag bb (au bC (pv 1) ad (fun _ _=>rfl)) (au bC (pv 1) ad (fun _ _=>rfl))) (au bC (pv 1) ad (fun _ _=>rfl))) (au bC (pv 1) ad (fun _ _=>rfl))) (a8 (ag aE (ag fL ad (au (am (K:=K) rfl) (pv 0) ad (fun _ _=>rfl))) ad) ac))))))),?_⟩
  have E0:Ext W0 W0:=.refl W0
  rw[show L2.start ["_law_card_here","_law_holes_here"] [Z07]=[some Z07,none]from rfl]
  unfold vg at hq
  refine aq (Er:=Er) (i:=1) (R:=sh isS) (σ':=fun v3=>[some Z07,some v3]) (aH (f:=fun(b:Tx×Tx×Int)=>b.2.1) gO (aa (R:=sh (isT3 K isS isS isI)) Z03)) (fun v3 W1 e2 h4=>?_)
  cases h4
  have E0:=E0.trans e2
  have Z03:=Mono.mono (R:=(isT3 K isS isS isI)) e2.g Z03
  exact aQ (Er:=Er) (R:=sh (isT3 K isS isS isI)) (cx (K:=K) (bE (az (x:=Str.ofString "ZS") (l:=[90,83]) (cS _ _ (by decide +kernel))) (jh (az (x:=Str.ofString "SZ") (l:=[83,90]) (cS _ _ (by decide +kernel))) (aH (f:=fun(b:Tx×Tx×Int)=>b.1) ji (aa (R:=sh (isT3 K isS isS isI)) Z03)))) (bJ (bJ (bJ (bE (aa (R:=sh isS) (a:=Z01.2.1) (v:=.str (sOf Z01.2.1)) rfl) ao) (bE (aa (R:=sh isS) (a:=Z01.2.1) (v:=.str (sOf Z01.2.1)) rfl) ao)) (bE (aa (R:=sh isS) (a:=Z01.2.1) (v:=.str (sOf Z01.2.1)) rfl) ao)) (bE (aa (R:=sh isS) (a:=Z01.2.1) (v:=.str (sOf Z01.2.1)) rfl) ao)) (ar (fun _=>by decide) (bo ao (aH (f:=fun(b:Tx×Tx×Int)=>b.2.2) fP (aa (R:=sh (isT3 K isS isS isI)) Z03))))) (Res.OkE.imp hq fun y14 hq v15 W16 e17 h18=>hq v15 W16 (E0.trans e17) h18)
theorem wH {f:Addr} {fd:FuncData} (F:Fun K "_law_back" "_law_back" (tp 53) f fd):FnOk P w K mg base CX0 (1) f fd ["_law_turns_here"] (bY isS (rs isS) (vh)):=by
 have SC:FnScope ["_law_turns_here"] ["_law_turns_here"] (defScope (tp 53)):=⟨rfl,rfl,rfl,by decide +kernel,rfl,by decide +kernel,by decide +kernel⟩
 refine F.ok SC (fun vs H Q E h=>?_) (fun cdv A outer s H vs Q E hr h=>?_)
 ·obtain⟨_,_,_,_,rfl,_⟩:=h;rfl
 ·obtain⟨W0,Z02,_,rfl,rfl,Z0T,Er,hq⟩:=h
  cases Z0T
  refine⟨_,(af (aw (fw (K:=K) rfl ax (a8 (ee (N:=["_law_turn"]) (cap:=[none]) (j8 rfl (by decide +kernel) rfl (by decide +kernel) (by rfl) (by rfl)) rfl (gE (pv 0)) (fun _ _ _ _=>(al (i:=0) (show List.Nodup (["_law_turn"]:List Str) by decide +kernel) rfl (by first | exact Or.inl rfl | exact Or.inr rfl))) (fun _ _ _ _=>dZ) (fun _ _ _ _=>(au bC ax (fT (K:=K) rfl rfl ax (a8 (pv 0) ac)) (fun _ _=>rfl)))) ac)))),?_⟩
  have E0:Ext W0 W0:=.refl W0
  rw[show L2.start ["_law_turns_here"] [.str (sOf Z02)]=[some (.str (sOf Z02))]from rfl]
  unfold vh at hq
  exact aQ (Er:=Er) (R:=sh isS) (gs (cS _ _ (by decide +kernel)) (EVo.pk (eg (f:=fun(a1:Tx)=>(mO ([98,105,102]:Tx) a1).bind fun y8=>eA ([102,105,98]:Tx) y8) (gP (aa (R:=sh isS) (a:=Z02) (v:=.str (sOf Z02)) rfl)) fun W3 a1 v2 e4 h5 Q9 k10=>by
   cases h5
   refine gn ?_
   exact⟨by simp[Keep,bD],((bE (az (x:=Str.ofString "fib") (l:=[102,105,98]) (cS _ _ (by decide +kernel))) (jh (az (x:=Str.ofString "bif") (l:=[98,105,102]) (cS _ _ (by decide +kernel))) (aa (R:=sh isS) (a:=a1) (v:=.str (sOf a1)) rfl))):EV Er _ [some (.str (sOf a1))] _ _ _) _ (.refl _) _ k10⟩))) (Res.OkE.imp hq fun y12 hq v13 W14 e15 h16=>hq v13 W14 (E0.trans e15) h16)
theorem wI {f:Addr} {fd:FuncData} (F:Fun K "_law_roll" "_law_roll" (tp 54) f fd) (h_range:mg "range" =none):FnOk P w K mg base CX0 (1) f fd ["_law_card_here","_law_many"] (bf (isT3 K isS isS isI) isI (rs (isT3 K isS isS isI)) (vi)):=by
 have SC:FnScope ["_law_card_here","_law_many","_law_holes_here"] ["_law_card_here","_law_many"] (defScope (tp 54)):=⟨rfl,rfl,rfl,by decide +kernel,rfl,by decide +kernel,by decide +kernel⟩
 refine F.ok SC (fun vs H Q E h=>?_) (fun cdv A outer s H vs Q E hr h=>?_)
 ·obtain⟨_,_,_,_,_,_,rfl,_⟩:=h;rfl
 ·obtain⟨W0,Z01,Z0b,Z07,_,rfl,rfl,Z03,Z3l,Er,hq⟩:=h
  cases Z3l
  refine⟨_,(ae (av (i:=2) SC.nd rfl (by first | exact Or.inl rfl | exact Or.inr rfl) (fw (K:=K) rfl ax (a8 (ee (N:=["_law_k","_law_card_here","_law_many"]) (cap:=[none,some 0,some 1]) (j8 rfl (by decide +kernel) rfl (by decide +kernel) (by rfl) (by rfl)) rfl (dL rfl h_range (a8 ad ac)) (fun _ _ _ _=>(al (i:=0) (show List.Nodup (["_law_k","_law_card_here","_law_many"]:List Str) by decide +kernel) rfl (by first | exact Or.inl rfl | exact Or.inr rfl))) (fun _ _ _ _=>dZ) (fun _ _ _ _=>(au bC (au (am (K:=K) rfl) (pv 1) ad (fun _ _=>rfl)) (ag aE (ag fL (pv 0) (pv 2)) ad) (fun _ _=>rfl)))) ac)))
   (af (aw (aI (a8 (au (am (K:=K) rfl) (pv 0) ad (fun _ _=>rfl)) (a8 (pv 2) (a8 (ag aE (ag bH (au (am (K:=K) rfl) (pv 0) ad (fun _ _=>rfl)) (pv 1)) ad) ac))))))),?_⟩
  have E0:Ext W0 W0:=.refl W0
  rw[show L2.start ["_law_card_here","_law_many","_law_holes_here"] [Z07,.int Z0b]=[some Z07,some (.int Z0b),none]from rfl]
  unfold vi at hq
  refine aq (Er:=Er) (i:=2) (R:=sh isS) (σ':=fun v16=>[some Z07,some (.int Z0b),some v16]) (gs (cS _ _ (by decide +kernel)) (EVo.pk (eg (f:=fun(a3:Int)=>eA Z01.2.1 ((a3- Z0b)% 4)) (eR ao) fun W5 a3 v4 e6 h7 Q11 k12=>by
   have h8:=MonoW.mono (R:=sh (isT3 K isS isS isI)) e6 Z03
   cases h7
   refine gn ?_
   exact⟨by simp[Keep,bD],((bE (aH (f:=fun(b:Tx×Tx×Int)=>b.2.1) gO (aa (R:=sh (isT3 K isS isS isI)) h8)) (ar (fun _=>by decide) (bo (aa (R:=sh isI) (a:=a3) (v:=.int a3) rfl) (aa (R:=sh isI) (a:=Z0b) (v:=.int Z0b) rfl)))):EV Er _ [some (.int a3),some Z07,some (.int Z0b)] _ _ _) _ (.refl _) _ k12⟩))) ((Res.okE_bind hq).imp fun y15 hq v16 W1 e2 h17=>?_)
  cases h17
  have E0:=E0.trans e2
  have Z03:=Mono.mono (R:=(isT3 K isS isS isI)) e2.g Z03
  exact aQ (Er:=Er) (R:=sh (isT3 K isS isS isI)) (cx (K:=K) (aH (f:=fun(b:Tx×Tx×Int)=>b.1) ji (aa (R:=sh (isT3 K isS isS isI)) Z03)) (aa (R:=sh isS) (a:=y15) (v:=.str (sOf y15)) rfl) (ar (fun _=>by decide) (bo (aH (f:=fun(b:Tx×Tx×Int)=>b.2.2) fP (aa (R:=sh (isT3 K isS isS isI)) Z03)) (aa (R:=sh isI) (a:=Z0b) (v:=.int Z0b) rfl)))) (fun v18 W19 e20 h21=>hq v18 W19 (E0.trans e20) h21)
theorem wJ {f:Addr} {fd:FuncData} (F:Fun K "_law_go" "_law_go" (tp 48) f fd):FnOk P w K mg base CX0 (1) f fd ["_law_turn"] (bY isS (rs isI) (vj)):=by
 have SC:FnScope ["_law_turn"] ["_law_turn"] (defScope (tp 48)):=⟨rfl,rfl,rfl,by decide +kernel,rfl,by decide +kernel,by decide +kernel⟩
 refine F.ok SC (fun vs H Q E h=>?_) (fun cdv A outer s H vs Q E hr h=>?_)
 ·obtain⟨_,_,_,_,rfl,_⟩:=h;rfl
 ·obtain⟨W0,Z0z,_,rfl,rfl,Z3o,Er,hq⟩:=h
  cases Z3o
  refine⟨_,(af (aw (ag fL (fT (K:=K) rfl rfl ax (a8 (pv 0) ac)) ad))),?_⟩
  have E0:Ext W0 W0:=.refl W0
  rw[show L2.start ["_law_turn"] [.str (sOf Z0z)]=[some (.str (sOf Z0z))]from rfl]
  unfold vj at hq
  exact aQ (Er:=Er) (R:=sh isI) (bo (jh (az (x:=Str.ofString "bif") (l:=[98,105,102]) (cS _ _ (by decide +kernel))) (aa (R:=sh isS) (a:=Z0z) (v:=.str (sOf Z0z)) rfl)) ao) (Res.OkE.imp hq fun y2 hq v3 W4 e5 h6=>hq v3 W4 (E0.trans e5) h6)
theorem wK {f:Addr} {fd:FuncData} (F:Fun K "_law_behind" "_law_behind" (tp 49) f fd) {kO:Tx→Res Int} (Z1w:Cal P w K mg base "_law_go" ["_law_turn"] (1) (bY isS (rs isI) kO)):FnOk P w K mg base CX0 (2) f fd ["_law_card_here","_law_turn"] (bf (isT3 K isS isS isI) isS (rs (isT3 K isS isS isI)) (vk kO)):=by
 have SC:FnScope ["_law_card_here","_law_turn"] ["_law_card_here","_law_turn"] (defScope (tp 49)):=⟨rfl,rfl,rfl,by decide +kernel,rfl,by decide +kernel,by decide +kernel⟩
 refine F.ok SC (fun vs H Q E h=>?_) (fun cdv A outer s H vs Q E hr h=>?_)
 ·obtain⟨_,_,_,_,_,_,rfl,_⟩:=h;rfl
 ·obtain⟨W0,Z01,Z0z,Z07,_,rfl,rfl,Z03,Z3o,Er,hq⟩:=h
  cases Z3o
  refine⟨_,(af (aw (aI (a8 (au (am (K:=K) rfl) (pv 0) ad (fun _ _=>rfl)) (a8 (au (am (K:=K) rfl) (pv 0) ad (fun _ _=>rfl)) (a8 (ag aE (ag bH (au (am (K:=K) rfl) (pv 0) ad (fun _ _=>rfl)) (ay Z1w (hr.mono (by decide)) (by rfl) (a8 (pv 1) ac))) ad) ac)))))),?_⟩
  have E0:Ext W0 W0:=.refl W0
  rw[show L2.start ["_law_card_here","_law_turn"] [Z07,.str (sOf Z0z)]=[some Z07,some (.str (sOf Z0z))]from rfl]
  unfold vk at hq
  exact aQ (Er:=Er) (R:=sh (isT3 K isS isS isI)) (cx (K:=K) (aH (f:=fun(b:Tx×Tx×Int)=>b.1) ji (aa (R:=sh (isT3 K isS isS isI)) Z03)) (aH (f:=fun(b:Tx×Tx×Int)=>b.2.1) gO (aa (R:=sh (isT3 K isS isS isI)) Z03)) (ar (fun _=>by decide) (bo (aH (f:=fun(b:Tx×Tx×Int)=>b.2.2) fP (aa (R:=sh (isT3 K isS isS isI)) Z03)) (cq (aa (R:=sh isS) (a:=Z0z) (v:=.str (sOf Z0z)) rfl))))) (Res.OkE.imp hq fun y4 hq v5 W6 e7 h8=>hq v5 W6 (E0.trans e7) h8)
theorem wL {f:Addr} {fd:FuncData} (F:Fun K "_law_seen" "_law_seen" (tp 55) f fd) {gv:(Tx×Tx×Int)→Tx→Res (Tx×Tx×Int)} (Z18:Cal P w K mg base "_law_behind" ["_law_card_here","_law_turn"] (2) (bf (isT3 K isS isS isI) isS (rs (isT3 K isS isS isI)) gv)) (h_sorted:mg "sorted" =none):FnOk P w K mg base CX0 (3) f fd ["_law_card_here","_law_turns_here"] (bf (isT3 K isS isS isI) isS (ro isI) (vm gv)):=by
 have SC:FnScope ["_law_card_here","_law_turns_here","_law_out","_law_turn","_law_hole"] ["_law_card_here","_law_turns_here"] (defScope (tp 55)):=⟨rfl,rfl,rfl,by decide +kernel,rfl,by decide +kernel,by decide +kernel⟩
 refine F.ok SC (fun vs H Q E h=>?_) (fun cdv A outer s H vs Q E hr h=>?_)
 ·obtain⟨_,_,_,_,_,_,rfl,_⟩:=h;rfl
 ·obtain⟨W0,Z01,Z02,Z07,_,rfl,rfl,Z03,Z0T,Er,hq⟩:=h
  cases Z0T
  refine⟨_,(ae (av (i:=2) SC.nd rfl (by first | exact Or.inl rfl | exact Or.inr rfl) (bT ac))
   (ae (cM PassesOwn.never rfl (gE (pv 1)) (al (i:=3) SC.nd rfl (by first | exact Or.inl rfl | exact Or.inr rfl)) (ae (av (i:=0) SC.nd rfl (by first | exact Or.inl rfl | exact Or.inr rfl) (ay Z18 (hr.mono (by decide)) (by rfl) (a8 (pv 0) (a8 (pv 3) ac))))
   (af (cM PassesOwn.never rfl (dP (K:=K) rfl (bT (a8 (au (am (K:=K) rfl) (pv 0) ad (fun _ _=>rfl)) (a8 (ag aE (ag bH (au (am (K:=K) rfl) (pv 0) ad (fun _ _=>rfl)) ad) ad) ac)))) (al (i:=4) SC.nd rfl (by first | exact Or.inl rfl | exact Or.inr rfl)) (af (bw (aL (f9 (K:=K) rfl) (pv 4) (pv 2) (by with_unfolding_all rfl)) (af (dW (cF (K:=K) rfl (pv 2) (a8 (pv 4) ac)))) aK))))))
   (af (aw (ai (ja (K:=K) rfl) (by rfl) h_sorted PyProof.Rows.boot_sorted (a8 (pv 2) ac)))))),?_⟩
  have E0:Ext W0 W0:=.refl W0
  rw[show L2.start ["_law_card_here","_law_turns_here","_law_out","_law_turn","_law_hole"] [Z07,.str (sOf Z02)]=[some Z07,some (.str (sOf Z02)),none,none,none]from rfl]
  unfold vm at hq
  refine dR (Er:=Er) (i:=2) (σ':=fun p3=>[some Z07,some (.str (sOf Z02)),some (.ref p3),none,none]) (fv (R:=isI)) (fun p3 W1 e2 hp4 o5=>?_)
  have fr6:=bi E0.h hp4
  have E0:=E0.trans e2
  have Z03:=Mono.mono (R:=(isT3 K isS isS isI)) e2.g Z03
  refine du (Er:=Er) (f:=(uL gv)) (s0:=(Z01,([]:List Int))) (Iv:=fun(s9:((Tx×Tx×Int)×(List Int))) (W10:Wd) (g11:St)=>∃(v12:V) (d15:Option V) (d16:Option V),g11=[some v12,some (.str (sOf Z02)),some (.ref p3),d16,d15]∧Ext W0 W10∧(isT3 K isS isS isI) W10.G s9.1 v12∧Ow isI W10 p3 s9.2) (gP (aa (R:=sh isS) (a:=Z02) (v:=.str (sOf Z02)) rfl)) (Res.okE_bind hq) ?_ ?_ ?_
  ·intro W28 e29
   have E0:=E0.trans e29
   have Z03:=Mono.mono (R:=(isT3 K isS isS isI)) e29.g Z03
   have o5:=o5.mono e29
   exact⟨_,_,_,rfl,E0,Z03,o5⟩
  ·intro Wb17 W18 W19 a7 v20 s8 sg21 P22 hW23 hB24 iv e25 h26 hq
   obtain⟨v12,d15,d16,rfl,E0,h13,o14⟩:=iv
   have E0:=E0.trans e25
   have hB24:=hB24.trans e25.g
   have o14:=o14.mono e25
   have h13:=Mono.mono (R:=(isT3 K isS isS isI)) e25.g h13
   cases h26
   refine gn (σ':=[some v12,some (.str (sOf Z02)),some (.ref p3),some (.str (sOf a7)),d15]) ?_
   unfold uL at hq
   refine aq (Er:=Er) (i:=0) (R:=sh (isT3 K isS isS isI)) (σ':=fun v35=>[some v35,some (.str (sOf Z02)),some (.ref p3),some (.str (sOf a7)),d15]) (aR (aa (R:=sh (isT3 K isS isS isI)) h13) (aa (R:=sh isS) (a:=a7) (v:=.str (sOf a7)) rfl)) ((Res.okE_bind hq).imp fun y34 hq v35 W32 e33 h36=>?_)
   have E0:=E0.trans e33
   have hB24:=hB24.trans e33.g
   have o14:=o14.mono e33
   refine lf (Er:=Er) (f:=tN) (s0:=s8.2) (Iv:=fun(s39:(List Int)) (W40:Wd) (g41:St)=>∃(d43:Option V),g41=[some v35,some (.str (sOf Z02)),some (.ref p3),some (.str (sOf a7)),d43]∧Ext W0 W40∧Ow isI W40 p3 s39) (ef (EVo.ev (cP (ba (aH (f:=fun(b:Tx×Tx×Int)=>b.2.2) fP (aa (R:=sh (isT3 K isS isS isI)) h36)) (ba (ar (fun _=>by decide) (bo (aH (f:=fun(b:Tx×Tx×Int)=>b.2.2) fP (aa (R:=sh (isT3 K isS isS isI)) h36)) ao)) (cO (R:=isI))))))) (Res.okE_bind hq) ?_ ?_ ?_
   ·intro W55 e56
    have E0:=E0.trans e56
    have hB24:=hB24.trans e56.g
    have o14:=o14.mono e56
    have h36:=Mono.mono (R:=(isT3 K isS isS isI)) e56.g h36
    exact⟨_,rfl,E0,o14⟩
   ·intro Wb44 W45 W46 a37 v47 s38 sg48 P49 hW50 hB51 iv e52 h53 hq
    obtain⟨d43,rfl,E0,o42⟩:=iv
    have hB24:=hB24.trans hW50
    have h36:=Mono.mono (R:=(isT3 K isS isS isI)) hW50 h36
    have E0:=E0.trans e52
    have hB24:=hB24.trans e52.g
    have hB51:=hB51.trans e52.g
    have o42:=o42.mono e52
    have h36:=Mono.mono (R:=(isT3 K isS isS isI)) e52.g h36
    cases h53
    refine gn (σ':=[some v35,some (.str (sOf Z02)),some (.ref p3),some (.str (sOf a7)),some (.int a37)]) ?_
    unfold tN at hq
    refine jn (Er:=Er) (Iv:=fun(s74:(List Int)) (W75:Wd) (g76:St)=>g76=[some v35,some (.str (sOf Z02)),some (.ref p3),some (.str (sOf a7)),some (.int a37)]∧Ext W0 W75∧Ow isI W75 p3 s74) (aW (gQ (aa (R:=sh isI) (a:=a37) (v:=.int a37) rfl) (lT o42))) (Res.okE_bind hq) ?_ ?_ ?_
    ·intro W59 N62 e60 hN63 hq
     have hs64:=e60.g
     have E0:=E0.trans e60
     have hB24:=hB24.trans e60.g
     have hB51:=hB51.trans e60.g
     have o42:=o42.mono e60
     have h36:=Mono.mono (R:=(isT3 K isS isS isI)) e60.g h36
     refine fS (Er:=Er) o42 (aa (R:=sh isI) (a:=a37) (v:=.int a37) rfl) ((Res.okE_bind hq).imp fun y68 hq W65 mu66 o67=>?_)
     have E0:=mu66.e _ E0 fr6
     have hB24:=hB24.trans mu66.g
     have hB51:=hB51.trans mu66.g
     have hs64:=hs64.trans mu66.g
     have h36:=Mono.mono (R:=(isT3 K isS isS isI)) mu66.g h36
     exact hN63 y68 W65 _ hs64 ⟨rfl,E0,o67⟩ hq
    ·intro W59 N62 e60 hN63 hq
     have hs69:=e60.g
     have E0:=E0.trans e60
     have hB24:=hB24.trans e60.g
     have hB51:=hB51.trans e60.g
     have o42:=o42.mono e60
     have h36:=Mono.mono (R:=(isT3 K isS isS isI)) e60.g h36
     try dsimp only[aG]
     exact hN63 s38 W59 _ hs69 ⟨rfl,E0,o42⟩ hq
    ·intro s70 W71 sg72 hS73 iv hq
     obtain⟨rfl,E0,o77⟩:=iv
     have hB24:=hB24.trans hS73
     have hB51:=hB51.trans hS73
     have h36:=Mono.mono (R:=(isT3 K isS isS isI)) hS73 h36
     try dsimp only
     refine cV (W:=W71) s70 hB51 ?_ hq
     exact⟨_,rfl,E0,o77⟩
   ·intro s78 W79 sg80 hS81 iv hq
    obtain⟨d43,rfl,E0,o42⟩:=iv
    have hB24:=hB24.trans hS81
    have h36:=Mono.mono (R:=(isT3 K isS isS isI)) hS81 h36
    try dsimp only
    refine cV (W:=W79) (y34,s78) hB24 ?_ hq
    exact⟨_,_,_,rfl,E0,h36,o42⟩
  ·intro s82 W83 sg84 hS85 iv hq
   obtain⟨v12,d15,d16,rfl,E0,h13,o14⟩:=iv
   exact eY (Er:=Er) (oR (lT o14)) (Res.OkE.imp hq fun y86 hq p87 W88 e89 hp90 o91=>hq p87 W88 (E0.trans e89) (bi E0.h hp90) o91)
theorem wM {f:Addr} {fd:FuncData} (F:Fun K "_law_kin" "_law_kin" (tp 56) f fd) {r6:(Tx×Tx×Int)→Res (Tx×Tx×Int)} {r9:Tx→Res Tx} {rc:(Tx×Tx×Int)→Int→Res (Tx×Tx×Int)} {rd:(Tx×Tx×Int)→Tx→Res (List Int)} (Z20:Cal P w K mg base "_law_turnover" ["_law_card_here"] (1) (bY (isT3 K isS isS isI) (rs (isT3 K isS isS isI)) r6)) (Z4u:Cal P w K mg base "_law_back" ["_law_turns_here"] (1) (bY isS (rs isS) r9)) (Z4v:Cal P w K mg base "_law_roll" ["_law_card_here","_law_many"] (1) (bf (isT3 K isS isS isI) isI (rs (isT3 K isS isS isI)) rc)) (Z4w:Cal P w K mg base "_law_seen" ["_law_card_here","_law_turns_here"] (3) (bf (isT3 K isS isS isI) isS (ro isI) rd)) (h_range:mg "range" =none):FnOk P w K mg base CX0 (4) f fd ["_law_card_here","_law_turns_here","_law_cell"] (gl (isT3 K isS isS isI) isS isI (rs (isT2 K (isT3 K isS isS isI) isS)) (vn r6 r9 rc rd)):=by
 have SC:FnScope ["_law_card_here","_law_turns_here","_law_cell","_law_known","_law_hole","_law_colour"] ["_law_card_here","_law_turns_here","_law_cell"] (defScope (tp 56)):=⟨rfl,rfl,rfl,by decide +kernel,rfl,by decide +kernel,by decide +kernel⟩
 refine F.ok SC (fun vs H Q E h=>?_) (fun cdv A outer s H vs Q E hr h=>?_)
 ·obtain⟨_,_,_,_,_,_,_,_,rfl,_⟩:=h;rfl
 ·obtain⟨W0,Z01,Z02,Z00,Z07,_,_,rfl,rfl,Z03,Z0T,Z14,Er,hq⟩:=h
  cases Z0T
  cases Z14
  refine⟨_,(ae (bw (aL cH (ag aE (pv 2) ad) ad (b9 _)) (ae (av (i:=0) SC.nd rfl (by first | exact Or.inl rfl | exact Or.inr rfl) (ay Z20 (hr.mono (by decide)) (by rfl) (a8 (pv 0) ac)))
   (af (av (i:=1) SC.nd rfl (by first | exact Or.inl rfl | exact Or.inr rfl) (ay Z4u (hr.mono (by decide)) (by rfl) (a8 (pv 1) ac))))) aK)
   (ae (av (i:=0) SC.nd rfl (by first | exact Or.inl rfl | exact Or.inr rfl) (ay Z4v (hr.mono (by decide)) (by rfl) (a8 (pv 0) (a8 (ag aE (ag bz (pv 2) ad) ad) ac))))
   (ae (bw (aL cH (ag aE (ag bz (pv 2) ad) ad) ad (b9 _)) (ae (av (i:=3) SC.nd rfl (by first | exact Or.inl rfl | exact Or.inr rfl) (ay Z4w (hr.mono (by decide)) (by rfl) (a8 (pv 0) (a8 (pv 1) ac))))
   (af (cM PassesOwn.never rfl (dL rfl h_range (a8 ad ac)) (al (i:=4) SC.nd rfl (by first | exact Or.inl rfl | exact Or.inr rfl)) (af (bw (aL (f9 (K:=K) rfl) (pv 4) (pv 3) (by with_unfolding_all rfl)) (ae (av (i:=5) SC.nd rfl (by first | exact Or.inl rfl | exact Or.inr rfl) (au bC ax (ag aE (ag bH (ag bz (pv 2) ad) (ag fM ad (pv 4))) ad) (fun _ _=>rfl)))
   (af (av (i:=0) SC.nd rfl (by first | exact Or.inl rfl | exact Or.inr rfl) (aI (a8 (au (am (K:=K) rfl) (pv 0) ad (fun _ _=>rfl)) (a8 (ag bb (ag bb (bW di (au (am (K:=K) rfl) (pv 0) ad (fun _ _=>rfl)) cC (cD (pv 4))) (pv 5)) (bW di (au (am (K:=K) rfl) (pv 0) ad (fun _ _=>rfl)) (cD (ag bH (pv 4) ad)) cC)) (a8 (au (am (K:=K) rfl) (pv 0) ad (fun _ _=>rfl)) ac))))))) aK))))) aK)
   (af (aw (aI (a8 (pv 0) (a8 (pv 1) ac)))))))),?_⟩
  have E0:Ext W0 W0:=.refl W0
  rw[show L2.start ["_law_card_here","_law_turns_here","_law_cell","_law_known","_law_hole","_law_colour"] [Z07,.str (sOf Z02),.int Z00]=[some Z07,some (.str (sOf Z02)),some (.int Z00),none,none,none]from rfl]
  unfold vn at hq
  refine cr (Er:=Er) (Iv:=fun(s22:((Tx×Tx×Int)×Tx)) (W23:Wd) (g24:St)=>∃(v25:V),g24=[some v25,some (.str (sOf s22.2)),some (.int Z00),none,none,none]∧Ext W0 W23∧(isT3 K isS isS isI) W23.G s22.1 v25) (aW (d5 (ar (fun _=>by decide) (aa (R:=sh isI) (a:=Z00) (v:=.int Z00) rfl)) ao)) (Res.okE_bind hq) ?_ ?_ ?_
  ·intro W1 N4 e2 hN5 hq
   have hs6:=e2.g
   have E0:=E0.trans e2
   have Z03:=Mono.mono (R:=(isT3 K isS isS isI)) e2.g Z03
   refine aq (Er:=Er) (i:=0) (R:=sh (isT3 K isS isS isI)) (σ':=fun v10=>[some v10,some (.str (sOf Z02)),some (.int Z00),none,none,none]) (cq (aa (R:=sh (isT3 K isS isS isI)) Z03)) ((Res.okE_bind hq).imp fun y9 hq v10 W7 e8 h11=>?_)
   have E0:=E0.trans e8
   have hs6:=hs6.trans e8.g
   refine cQ (Er:=Er) (i:=1) (R:=sh isS) (σ':=fun v15=>[some v10,some v15,some (.int Z00),none,none,none]) (cq (aa (R:=sh isS) (a:=Z02) (v:=.str (sOf Z02)) rfl)) ((Res.okE_bind hq).imp fun y14 hq v15 W12 e13 h16=>?_)
   cases h16
   have E0:=E0.trans e13
   have hs6:=hs6.trans e13.g
   have h11:=Mono.mono (R:=(isT3 K isS isS isI)) e13.g h11
   exact hN5 (y9,y14) W12 _ hs6 ⟨_,rfl,E0,h11⟩ hq
  ·intro W1 N4 e2 hN5 hq
   have hs17:=e2.g
   have E0:=E0.trans e2
   have Z03:=Mono.mono (R:=(isT3 K isS isS isI)) e2.g Z03
   try dsimp only[aG]
   exact hN5 (Z01,Z02) W1 _ hs17 ⟨_,rfl,E0,Z03⟩ hq
  ·intro s18 W19 sg20 hS21 iv hq
   obtain⟨v25,rfl,E0,h26⟩:=iv
   refine aq (Er:=Er) (i:=0) (R:=sh (isT3 K isS isS isI)) (σ':=fun v30=>[some v30,some (.str (sOf s18.2)),some (.int Z00),none,none,none]) (aR (aa (R:=sh (isT3 K isS isS isI)) h26) (ar (fun _=>by decide) (ar (fun _=>⟨by decide,by decide⟩) (aa (R:=sh isI) (a:=Z00) (v:=.int Z00) rfl)))) ((Res.okE_bind hq).imp fun y29 hq v30 W27 e28 h31=>?_)
   have E0:=E0.trans e28
   refine cr (Er:=Er) (Iv:=fun(s111:(Tx×Tx×Int)) (W112:Wd) (g113:St)=>∃(v114:V) (d116:Option V) (d117:Option V) (d118:Option V),g113=[some v114,some (.str (sOf s18.2)),some (.int Z00),d116,d117,d118]∧Ext W0 W112∧(isT3 K isS isS isI) W112.G s111 v114) (aW (d5 (ar (fun _=>by decide) (ar (fun _=>⟨by decide,by decide⟩) (aa (R:=sh isI) (a:=Z00) (v:=.int Z00) rfl))) ao)) (Res.okE_bind hq) ?_ ?_ ?_
   ·intro W32 N35 e33 hN36 hq
    have hs37:=e33.g
    have E0:=E0.trans e33
    have h31:=Mono.mono (R:=(isT3 K isS isS isI)) e33.g h31
    refine aq (Er:=Er) (i:=3) (R:=sh (isL isI)) (σ':=fun v41=>[some v30,some (.str (sOf s18.2)),some (.int Z00),some v41,none,none]) (EVo.ev (dg (aa (R:=sh (isT3 K isS isS isI)) h31) (aa (R:=sh isS) (a:=s18.2) (v:=.str (sOf s18.2)) rfl))) ((Res.okE_bind hq).imp fun y40 hq v41 W38 e39 h42=>?_)
    have E0:=E0.trans e39
    have hs37:=hs37.trans e39.g
    have h31:=Mono.mono (R:=(isT3 K isS isS isI)) e39.g h31
    refine lf (Er:=Er) (f:=(tO Z00 y40)) (s0:=y29) (Iv:=fun(s45:(Tx×Tx×Int)) (W46:Wd) (g47:St)=>∃(v48:V) (d50:Option V) (d51:Option V),g47=[some v48,some (.str (sOf s18.2)),some (.int Z00),some v41,d51,d50]∧Ext W0 W46∧(isT3 K isS isS isI) W46.G s45 v48) (eR ao) (Res.okE_bind hq) ?_ ?_ ?_
    ·intro W63 e64
     have E0:=E0.trans e64
     have hs37:=hs37.trans e64.g
     have h31:=Mono.mono (R:=(isT3 K isS isS isI)) e64.g h31
     have h42:=Mono.mono (R:=(isL isI)) e64.g h42
     exact⟨_,_,_,rfl,E0,h31⟩
    ·intro Wb52 W53 W54 a43 v55 s44 sg56 P57 hW58 hB59 iv e60 h61 hq
     obtain⟨v48,d50,d51,rfl,E0,h49⟩:=iv
     have hs37:=hs37.trans hW58
     have h42:=Mono.mono (R:=(isL isI)) hW58 h42
     have E0:=E0.trans e60
     have hs37:=hs37.trans e60.g
     have hB59:=hB59.trans e60.g
     have h42:=Mono.mono (R:=(isL isI)) e60.g h42
     have h49:=Mono.mono (R:=(isT3 K isS isS isI)) e60.g h49
     cases h61
     refine gn (σ':=[some v48,some (.str (sOf s18.2)),some (.int Z00),some v41,some (.int a43),d50]) ?_
     unfold tO at hq
     refine jn (Er:=Er) (Iv:=fun(s95:(Tx×Tx×Int)) (W96:Wd) (g97:St)=>∃(v98:V) (d100:Option V),g97=[some v98,some (.str (sOf s18.2)),some (.int Z00),some v41,some (.int a43),d100]∧Ext W0 W96∧(isT3 K isS isS isI) W96.G s95 v98) (aW (gQ (aa (R:=sh isI) (a:=a43) (v:=.int a43) rfl) (EV.pk (aa (R:=sh (isL isI)) h42)))) (Res.okE_bind hq) ?_ ?_ ?_
     ·intro W67 N70 e68 hN71 hq
      have hs72:=e68.g
      have E0:=E0.trans e68
      have hs37:=hs37.trans e68.g
      have hB59:=hB59.trans e68.g
      have h42:=Mono.mono (R:=(isL isI)) e68.g h42
      have h49:=Mono.mono (R:=(isT3 K isS isS isI)) e68.g h49
      refine aq (Er:=Er) (i:=5) (R:=sh isS) (σ':=fun v79=>[some v48,some (.str (sOf s18.2)),some (.int Z00),some v41,some (.int a43),some v79]) (bE (az (x:=Str.ofString "abcdefghijklmnopqrstuvwxyz") (l:=[97,98,99,100,101,102,103,104,105,106,107,108,109,110,111,112,113,114,115,116,117,118,119,120,121,122]) (cS _ _ (by decide +kernel))) (ar (fun _=>by decide) (bo (ar (fun _=>⟨by decide,by decide⟩) (aa (R:=sh isI) (a:=Z00) (v:=.int Z00) rfl)) (la ao (aa (R:=sh isI) (a:=a43) (v:=.int a43) rfl))))) ((Res.okE_bind hq).imp fun y78 hq v79 W73 e74 h80=>?_)
      cases h80
      have E0:=E0.trans e74
      have hs37:=hs37.trans e74.g
      have hB59:=hB59.trans e74.g
      have hs72:=hs72.trans e74.g
      have h42:=Mono.mono (R:=(isL isI)) e74.g h42
      have h49:=Mono.mono (R:=(isT3 K isS isS isI)) e74.g h49
      refine cQ (Er:=Er) (i:=0) (R:=sh (isT3 K isS isS isI)) (σ':=fun v88=>[some v88,some (.str (sOf s18.2)),some (.int Z00),some v41,some (.int a43),some (.str (sOf y78))]) (cx (K:=K) (aH (f:=fun(b:Tx×Tx×Int)=>b.1) ji (aa (R:=sh (isT3 K isS isS isI)) h49)) (bJ (bJ (cN (aH (f:=fun(b:Tx×Tx×Int)=>b.2.1) gO (aa (R:=sh (isT3 K isS isS isI)) h49)) eD (eE (aa (R:=sh isI) (a:=a43) (v:=.int a43) rfl))) (aa (R:=sh isS) (a:=y78) (v:=.str (sOf y78)) rfl)) (cN (aH (f:=fun(b:Tx×Tx×Int)=>b.2.1) gO (aa (R:=sh (isT3 K isS isS isI)) h49)) (eE (bo (aa (R:=sh isI) (a:=a43) (v:=.int a43) rfl) ao)) eD)) (aH (f:=fun(b:Tx×Tx×Int)=>b.2.2) fP (aa (R:=sh (isT3 K isS isS isI)) h49))) ((Res.okE_bind hq).imp fun y87 hq v88 W81 e82 h89=>?_)
      have E0:=E0.trans e82
      have hs37:=hs37.trans e82.g
      have hB59:=hB59.trans e82.g
      have hs72:=hs72.trans e82.g
      have h42:=Mono.mono (R:=(isL isI)) e82.g h42
      exact hN71 y87 W81 _ hs72 ⟨_,_,rfl,E0,h89⟩ hq
     ·intro W67 N70 e68 hN71 hq
      have hs90:=e68.g
      have E0:=E0.trans e68
      have hs37:=hs37.trans e68.g
      have hB59:=hB59.trans e68.g
      have h42:=Mono.mono (R:=(isL isI)) e68.g h42
      have h49:=Mono.mono (R:=(isT3 K isS isS isI)) e68.g h49
      try dsimp only[aG]
      exact hN71 s44 W67 _ hs90 ⟨_,_,rfl,E0,h49⟩ hq
     ·intro s91 W92 sg93 hS94 iv hq
      obtain⟨v98,d100,rfl,E0,h99⟩:=iv
      have hs37:=hs37.trans hS94
      have hB59:=hB59.trans hS94
      have h42:=Mono.mono (R:=(isL isI)) hS94 h42
      try dsimp only
      refine cV (W:=W92) s91 hB59 ?_ hq
      exact⟨_,_,_,rfl,E0,h99⟩
    ·intro s102 W103 sg104 hS105 iv hq
     obtain⟨v48,d50,d51,rfl,E0,h49⟩:=iv
     have hs37:=hs37.trans hS105
     exact hN36 s102 W103 _ hs37 ⟨_,_,_,_,rfl,E0,h49⟩ hq
   ·intro W32 N35 e33 hN36 hq
    have hs106:=e33.g
    have E0:=E0.trans e33
    have h31:=Mono.mono (R:=(isT3 K isS isS isI)) e33.g h31
    try dsimp only[aG]
    exact hN36 y29 W32 _ hs106 ⟨_,_,_,_,rfl,E0,h31⟩ hq
   ·intro s107 W108 sg109 hS110 iv hq
    obtain⟨v114,d116,d117,d118,rfl,E0,h115⟩:=iv
    exact aQ (Er:=Er) (R:=sh (isT2 K (isT3 K isS isS isI) isS)) (bd (K:=K) (aa (R:=sh (isT3 K isS isS isI)) h115) (aa (R:=sh isS) (a:=s18.2) (v:=.str (sOf s18.2)) rfl)) (fun v119 W120 e121 h122=>hq v119 W120 (E0.trans e121) h122)
theorem wN {f:Addr} {fd:FuncData} (F:Fun K "_law_hurt" "_law_hurt" (tp 57) f fd) (h_len:mg "len" =none) (h_max:mg "max" =none):FnOk P w K mg base CX0 (1) f fd ["_law_strand_here","_law_cell"] (bf (isT2 K (isT3 K isS isS isI) isS) isI (rs (isT2 K (isT3 K isS isS isI) isS)) (vo)):=by
 have SC:FnScope ["_law_strand_here","_law_cell","_law_card_here","_law_turns_here","_law_at_here","_law_turn","_law_hole","_law_colour"] ["_law_strand_here","_law_cell"] (defScope (tp 57)):=⟨rfl,rfl,rfl,by decide +kernel,rfl,by decide +kernel,by decide +kernel⟩
 refine F.ok SC (fun vs H Q E h=>?_) (fun cdv A outer s H vs Q E hr h=>?_)
 ·obtain⟨_,_,_,_,_,_,rfl,_⟩:=h;rfl
 ·obtain⟨W0,Z09,Z00,Z0h,_,rfl,rfl,Z8h,Z14,Er,hq⟩:=h
  cases Z14
  refine⟨_,(ae (dE (pv 0) (bF (K:=K) (n:=2) rfl rfl (ap (al (i:=2) SC.nd rfl (by first | exact Or.inl rfl | exact Or.inr rfl)) (ap (al (i:=3) SC.nd rfl (by first | exact Or.inl rfl | exact Or.inr rfl)) bA))))
   (ae (av (i:=4) SC.nd rfl (by first | exact Or.inl rfl | exact Or.inr rfl) (ag aE (ag bz (pv 1) ad) (ai (mz rfl) (by rfl) h_max PyProof.Rows.boot_max (a8 ad (a8 (ai (bh (K:=K) rfl) (by rfl) h_len PySem.boot_len (a8 (pv 3) ac)) ac)))))
   (ae (av (i:=5) SC.nd rfl (by first | exact Or.inl rfl | exact Or.inr rfl) (au bC ax (ag aE (ag bz (pv 1) ad) ad) (fun _ _=>rfl)))
   (ae (bw (aL cH (ag aE (pv 1) ad) ad (b9 _)) (af (av (i:=3) SC.nd rfl (by first | exact Or.inl rfl | exact Or.inr rfl) (ag bb (ag bb (bW di (pv 3) cC (cD (pv 4))) (pv 5)) (bW di (pv 3) (cD (ag bH (pv 4) ad)) cC)))) aK)
   (ae (bw (aL cH (ag aE (pv 1) ad) ad (b9 _)) (ae (av (i:=6) SC.nd rfl (by first | exact Or.inl rfl | exact Or.inr rfl) (ag aE (ag bz (pv 1) ad) ad))
   (ae (av (i:=7) SC.nd rfl (by first | exact Or.inl rfl | exact Or.inr rfl) (au bC ax (ag aE (ag bz (pv 1) ad) ad) (fun _ _=>rfl)))
   (af (av (i:=2) SC.nd rfl (by first | exact Or.inl rfl | exact Or.inr rfl) (aI (a8 (au (am (K:=K) rfl) (pv 2) ad (fun _ _=>rfl)) (a8 (ag bb (ag bb (bW di (au (am (K:=K) rfl) (pv 2) ad (fun _ _=>rfl)) cC (cD (pv 6))) (pv 7)) (bW di (au (am (K:=K) rfl) (pv 2) ad (fun _ _=>rfl)) (cD (ag bH (pv 6) ad)) cC)) (a8 (au (am (K:=K) rfl) (pv 2) ad (fun _ _=>rfl)) ac)))))))) aK)
   (ae (bw (PW.pt (fJ (aL cH (ag aE (pv 1) ad) ad (b9 _)) (fJ (aL cH (ag aE (ag bz (pv 1) ad) ad) ad (b9 _)) (fi (aL rP (ai (bh (K:=K) rfl) (by rfl) h_len PySem.boot_len (a8 (pv 3) ac)) ad (b9 _)))))) (af (av (i:=3) SC.nd rfl (by first | exact Or.inl rfl | exact Or.inr rfl) (ag bb (pv 3) (pv 5)))) aK)
   (ae (bw (PW.pt (fJ (aL cH (ag aE (pv 1) ad) ad (b9 _)) (fi (aL cH (ag aE (ag bz (pv 1) ad) ad) ad (b9 _))))) (af (av (i:=3) SC.nd rfl (by first | exact Or.inl rfl | exact Or.inr rfl) (bW di (pv 3) cC (cD (ag aE (ag bz (pv 1) ad) (ag bH (ai (bh (K:=K) rfl) (by rfl) h_len PySem.boot_len (a8 (pv 3) ac)) ad)))))) aK)
   (af (aw (aI (a8 (pv 2) (a8 (pv 3) ac)))))))))))),?_⟩
  have E0:Ext W0 W0:=.refl W0
  rw[show L2.start ["_law_strand_here","_law_cell","_law_card_here","_law_turns_here","_law_at_here","_law_turn","_law_hole","_law_colour"] [Z0h,.int Z00]=[some Z0h,some (.int Z00),none,none,none,none,none,none]from rfl]
  unfold vo at hq
  refine cz (Er:=Er) (R:=sh (isT2 K (isT3 K isS isS isI) isS)) (aa (R:=sh (isT2 K (isT3 K isS isS isI) isS)) Z8h) (fun v1 W2 e3 h4=>?_)
  have E0:=E0.trans e3
  refine jS (σ':=fun v5 v7=>[some Z0h,some (.int Z00),some v5,some v7,none,none,none,none]) h4 fun v5 v7 h6 h8=>?_
  cases h8
  refine aq (Er:=Er) (i:=4) (R:=sh isI) (σ':=fun v14=>[some Z0h,some (.int Z00),some v5,some (.str (sOf Z09.2)),some v14,none,none,none]) (gM (ar (fun _=>⟨by decide,by decide⟩) (aa (R:=sh isI) (a:=Z00) (v:=.int Z00) rfl)) (qG ao (jk (aa (R:=sh isS) (a:=Z09.2) (v:=.str (sOf Z09.2)) rfl)))) ((Res.okE_bind hq).imp fun y13 hq v14 W9 e10 h15=>?_)
  cases h15
  have E0:=E0.trans e10
  have h6:=Mono.mono (R:=(isT3 K isS isS isI)) e10.g h6
  refine aq (Er:=Er) (i:=5) (R:=sh isS) (σ':=fun v19=>[some Z0h,some (.int Z00),some v5,some (.str (sOf Z09.2)),some (.int y13),some v19,none,none]) (bE (az (x:=Str.ofString "fbi") (l:=[102,98,105]) (cS _ _ (by decide +kernel))) (ar (fun _=>by decide) (ar (fun _=>⟨by decide,by decide⟩) (aa (R:=sh isI) (a:=Z00) (v:=.int Z00) rfl)))) ((Res.okE_bind hq).imp fun y18 hq v19 W16 e17 h20=>?_)
  cases h20
  have E0:=E0.trans e17
  have h6:=Mono.mono (R:=(isT3 K isS isS isI)) e17.g h6
  refine cr (Er:=Er) (Iv:=fun(s40:Tx) (W41:Wd) (g42:St)=>g42=[some Z0h,some (.int Z00),some v5,some (.str (sOf s40)),some (.int y13),some (.str (sOf y18)),none,none]∧Ext W0 W41) (aW (d5 (ar (fun _=>by decide) (aa (R:=sh isI) (a:=Z00) (v:=.int Z00) rfl)) ao)) (Res.okE_bind hq) ?_ ?_ ?_
  ·intro W21 N24 e22 hN25 hq
   have hs26:=e22.g
   have E0:=E0.trans e22
   have h6:=Mono.mono (R:=(isT3 K isS isS isI)) e22.g h6
   refine cQ (Er:=Er) (i:=3) (R:=sh isS) (σ':=fun v33=>[some Z0h,some (.int Z00),some v5,some v33,some (.int y13),some (.str (sOf y18)),none,none]) (bJ (bJ (cN (aa (R:=sh isS) (a:=Z09.2) (v:=.str (sOf Z09.2)) rfl) eD (eE (aa (R:=sh isI) (a:=y13) (v:=.int y13) rfl))) (aa (R:=sh isS) (a:=y18) (v:=.str (sOf y18)) rfl)) (cN (aa (R:=sh isS) (a:=Z09.2) (v:=.str (sOf Z09.2)) rfl) (eE (bo (aa (R:=sh isI) (a:=y13) (v:=.int y13) rfl) ao)) eD)) ((Res.okE_bind hq).imp fun y32 hq v33 W27 e28 h34=>?_)
   cases h34
   have E0:=E0.trans e28
   have hs26:=hs26.trans e28.g
   have h6:=Mono.mono (R:=(isT3 K isS isS isI)) e28.g h6
   exact hN25 y32 W27 _ hs26 ⟨rfl,E0⟩ hq
  ·intro W21 N24 e22 hN25 hq
   have hs35:=e22.g
   have E0:=E0.trans e22
   have h6:=Mono.mono (R:=(isT3 K isS isS isI)) e22.g h6
   try dsimp only[aG]
   exact hN25 Z09.2 W21 _ hs35 ⟨rfl,E0⟩ hq
  ·intro s36 W37 sg38 hS39 iv hq
   obtain⟨rfl,E0⟩:=iv
   have h6:=Mono.mono (R:=(isT3 K isS isS isI)) hS39 h6
   refine cr (Er:=Er) (Iv:=fun(s72:(Tx×Tx×Int)) (W73:Wd) (g74:St)=>∃(v75:V) (d77:Option V) (d78:Option V),g74=[some Z0h,some (.int Z00),some v75,some (.str (sOf s36)),some (.int y13),some (.str (sOf y18)),d77,d78]∧Ext W0 W73∧(isT3 K isS isS isI) W73.G s72 v75) (aW (d5 (ar (fun _=>by decide) (aa (R:=sh isI) (a:=Z00) (v:=.int Z00) rfl)) ao)) (Res.okE_bind hq) ?_ ?_ ?_
   ·intro W43 N46 e44 hN47 hq
    have hs48:=e44.g
    have E0:=E0.trans e44
    have h6:=Mono.mono (R:=(isT3 K isS isS isI)) e44.g h6
    refine aq (Er:=Er) (i:=6) (R:=sh isI) (σ':=fun v51=>[some Z0h,some (.int Z00),some v5,some (.str (sOf s36)),some (.int y13),some (.str (sOf y18)),some v51,none]) (ar (fun _=>by decide) (ar (fun _=>⟨by decide,by decide⟩) (aa (R:=sh isI) (a:=Z00) (v:=.int Z00) rfl))) (fun v51 W49 e50 h52=>?_)
    cases h52
    have E0:=E0.trans e50
    have hs48:=hs48.trans e50.g
    have h6:=Mono.mono (R:=(isT3 K isS isS isI)) e50.g h6
    refine aq (Er:=Er) (i:=7) (R:=sh isS) (σ':=fun v56=>[some Z0h,some (.int Z00),some v5,some (.str (sOf s36)),some (.int y13),some (.str (sOf y18)),some (.int ((Z00/ 4)% 4)),some v56]) (bE (az (x:=Str.ofString "abcdefghijklmnopqrstuvwxyz") (l:=[97,98,99,100,101,102,103,104,105,106,107,108,109,110,111,112,113,114,115,116,117,118,119,120,121,122]) (cS _ _ (by decide +kernel))) (ar (fun _=>by decide) (ar (fun _=>⟨by decide,by decide⟩) (aa (R:=sh isI) (a:=Z00) (v:=.int Z00) rfl)))) ((Res.okE_bind hq).imp fun y55 hq v56 W53 e54 h57=>?_)
    cases h57
    have E0:=E0.trans e54
    have hs48:=hs48.trans e54.g
    have h6:=Mono.mono (R:=(isT3 K isS isS isI)) e54.g h6
    refine cQ (Er:=Er) (i:=2) (R:=sh (isT3 K isS isS isI)) (σ':=fun v65=>[some Z0h,some (.int Z00),some v65,some (.str (sOf s36)),some (.int y13),some (.str (sOf y18)),some (.int ((Z00/ 4)% 4)),some (.str (sOf y55))]) (cx (K:=K) (aH (f:=fun(b:Tx×Tx×Int)=>b.1) ji (aa (R:=sh (isT3 K isS isS isI)) h6)) (bJ (bJ (cN (aH (f:=fun(b:Tx×Tx×Int)=>b.2.1) gO (aa (R:=sh (isT3 K isS isS isI)) h6)) eD (eE (aa (R:=sh isI) (a:=((Z00/ 4)% 4)) (v:=.int ((Z00/ 4)% 4)) rfl))) (aa (R:=sh isS) (a:=y55) (v:=.str (sOf y55)) rfl)) (cN (aH (f:=fun(b:Tx×Tx×Int)=>b.2.1) gO (aa (R:=sh (isT3 K isS isS isI)) h6)) (eE (bo (aa (R:=sh isI) (a:=((Z00/ 4)% 4)) (v:=.int ((Z00/ 4)% 4)) rfl) ao)) eD)) (aH (f:=fun(b:Tx×Tx×Int)=>b.2.2) fP (aa (R:=sh (isT3 K isS isS isI)) h6))) ((Res.okE_bind hq).imp fun y64 hq v65 W58 e59 h66=>?_)
    have E0:=E0.trans e59
    have hs48:=hs48.trans e59.g
    exact hN47 y64 W58 _ hs48 ⟨_,_,_,rfl,E0,h66⟩ hq
   ·intro W43 N46 e44 hN47 hq
    have hs67:=e44.g
    have E0:=E0.trans e44
    have h6:=Mono.mono (R:=(isT3 K isS isS isI)) e44.g h6
    try dsimp only[aG]
    exact hN47 Z09.1 W43 _ hs67 ⟨_,_,_,rfl,E0,h6⟩ hq
   ·intro s68 W69 sg70 hS71 iv hq
    obtain⟨v75,d77,d78,rfl,E0,h76⟩:=iv
    refine cr (Er:=Er) (Iv:=fun(s97:Tx) (W98:Wd) (g99:St)=>g99=[some Z0h,some (.int Z00),some v75,some (.str (sOf s97)),some (.int y13),some (.str (sOf y18)),d77,d78]∧Ext W0 W98) (jg (aW (d5 (ar (fun _=>by decide) (aa (R:=sh isI) (a:=Z00) (v:=.int Z00) rfl)) ao)) (jg (aW (d5 (ar (fun _=>by decide) (ar (fun _=>⟨by decide,by decide⟩) (aa (R:=sh isI) (a:=Z00) (v:=.int Z00) rfl))) ao)) (aW (jd (jk (aa (R:=sh isS) (a:=s36) (v:=.str (sOf s36)) rfl)) ao)))) (Res.okE_bind hq) ?_ ?_ ?_
    ·intro W81 N84 e82 hN85 hq
     have hs86:=e82.g
     have E0:=E0.trans e82
     have h76:=Mono.mono (R:=(isT3 K isS isS isI)) e82.g h76
     refine cQ (Er:=Er) (i:=3) (R:=sh isS) (σ':=fun v90=>[some Z0h,some (.int Z00),some v75,some v90,some (.int y13),some (.str (sOf y18)),d77,d78]) (bJ (aa (R:=sh isS) (a:=s36) (v:=.str (sOf s36)) rfl) (aa (R:=sh isS) (a:=y18) (v:=.str (sOf y18)) rfl)) ((Res.okE_bind hq).imp fun y89 hq v90 W87 e88 h91=>?_)
     cases h91
     have E0:=E0.trans e88
     have hs86:=hs86.trans e88.g
     have h76:=Mono.mono (R:=(isT3 K isS isS isI)) e88.g h76
     exact hN85 y89 W87 _ hs86 ⟨rfl,E0⟩ hq
    ·intro W81 N84 e82 hN85 hq
     have hs92:=e82.g
     have E0:=E0.trans e82
     have h76:=Mono.mono (R:=(isT3 K isS isS isI)) e82.g h76
     try dsimp only[aG]
     exact hN85 s36 W81 _ hs92 ⟨rfl,E0⟩ hq
    ·intro s93 W94 sg95 hS96 iv hq
     obtain⟨rfl,E0⟩:=iv
     have h76:=Mono.mono (R:=(isT3 K isS isS isI)) hS96 h76
     refine cr (Er:=Er) (Iv:=fun(s121:Tx) (W122:Wd) (g123:St)=>g123=[some Z0h,some (.int Z00),some v75,some (.str (sOf s121)),some (.int y13),some (.str (sOf y18)),d77,d78]∧Ext W0 W122) (jg (aW (d5 (ar (fun _=>by decide) (aa (R:=sh isI) (a:=Z00) (v:=.int Z00) rfl)) ao)) (aW (d5 (ar (fun _=>by decide) (ar (fun _=>⟨by decide,by decide⟩) (aa (R:=sh isI) (a:=Z00) (v:=.int Z00) rfl))) ao))) (Res.okE_bind hq) ?_ ?_ ?_
     ·intro W101 N104 e102 hN105 hq
      have hs106:=e102.g
      have E0:=E0.trans e102
      have h76:=Mono.mono (R:=(isT3 K isS isS isI)) e102.g h76
      refine cQ (Er:=Er) (i:=3) (R:=sh isS) (σ':=fun v114=>[some Z0h,some (.int Z00),some v75,some v114,some (.int y13),some (.str (sOf y18)),d77,d78]) (cN (aa (R:=sh isS) (a:=s93) (v:=.str (sOf s93)) rfl) eD (eE (gM (ar (fun _=>⟨by decide,by decide⟩) (aa (R:=sh isI) (a:=Z00) (v:=.int Z00) rfl)) (bo (jk (aa (R:=sh isS) (a:=s93) (v:=.str (sOf s93)) rfl)) ao)))) ((Res.okE_bind hq).imp fun y113 hq v114 W107 e108 h115=>?_)
      cases h115
      have E0:=E0.trans e108
      have hs106:=hs106.trans e108.g
      have h76:=Mono.mono (R:=(isT3 K isS isS isI)) e108.g h76
      exact hN105 y113 W107 _ hs106 ⟨rfl,E0⟩ hq
     ·intro W101 N104 e102 hN105 hq
      have hs116:=e102.g
      have E0:=E0.trans e102
      have h76:=Mono.mono (R:=(isT3 K isS isS isI)) e102.g h76
      try dsimp only[aG]
      exact hN105 s93 W101 _ hs116 ⟨rfl,E0⟩ hq
     ·intro s117 W118 sg119 hS120 iv hq
      obtain⟨rfl,E0⟩:=iv
      have h76:=Mono.mono (R:=(isT3 K isS isS isI)) hS120 h76
      exact aQ (Er:=Er) (R:=sh (isT2 K (isT3 K isS isS isI) isS)) (bd (K:=K) (aa (R:=sh (isT3 K isS isS isI)) h76) (aa (R:=sh isS) (a:=s117) (v:=.str (sOf s117)) rfl)) (fun v124 W125 e126 h127=>hq v124 W125 (E0.trans e126) h127)
theorem wO {f:Addr} {fd:FuncData} (F:Fun K "_law_twist" "_law_twist" (tp 50) f fd) {kO:Tx→Res Int} (Z1w:Cal P w K mg base "_law_go" ["_law_turn"] (1) (bY isS (rs isI) kO)):FnOk P w K mg base CX0 (2) f fd ["_law_card_here","_law_turn"] (bf (isT3 K isS isS isI) isS (rs isI) (vp kO)):=by
 have SC:FnScope ["_law_card_here","_law_turn"] ["_law_card_here","_law_turn"] (defScope (tp 50)):=⟨rfl,rfl,rfl,by decide +kernel,rfl,by decide +kernel,by decide +kernel⟩
 refine F.ok SC (fun vs H Q E h=>?_) (fun cdv A outer s H vs Q E hr h=>?_)
 ·obtain⟨_,_,_,_,_,_,rfl,_⟩:=h;rfl
 ·obtain⟨W0,Z01,Z0z,Z07,_,rfl,rfl,Z03,Z3o,Er,hq⟩:=h
  cases Z3o
  refine⟨_,(ae (bw (aL cH (au (am (K:=K) rfl) (pv 0) ad (fun _ _=>rfl)) ax (b9 _)) (af (aw (ay Z1w (hr.mono (by decide)) (by rfl) (a8 (pv 1) ac)))) aK)
   (af (aw (ag fL ad (ay Z1w (hr.mono (by decide)) (by rfl) (a8 (pv 1) ac)))))),?_⟩
  have E0:Ext W0 W0:=.refl W0
  rw[show L2.start ["_law_card_here","_law_turn"] [Z07,.str (sOf Z0z)]=[some Z07,some (.str (sOf Z0z))]from rfl]
  unfold vp at hq
  refine cE (Er:=Er) (aW (je (aH (f:=fun(b:Tx×Tx×Int)=>b.1) ji (aa (R:=sh (isT3 K isS isS isI)) Z03)) (az (x:=Str.ofString "S") (l:=[83]) (cS _ _ (by decide +kernel))))) (fun W1 e2=>?_)
  have E0:=E0.trans e2
  have Z03:=Mono.mono (R:=(isT3 K isS isS isI)) e2.g Z03
  by_cases hb13:(decide (Z01.1=([83]:Tx)))=true
  ·rw[if_pos hb13]at hq ⊢
   exact aQ (Er:=Er) (R:=sh isI) (cq (aa (R:=sh isS) (a:=Z0z) (v:=.str (sOf Z0z)) rfl)) (Res.OkE.imp hq fun y3 hq v4 W5 e6 h7=>hq v4 W5 (E0.trans e6) h7)
  ·rw[if_neg hb13]at hq ⊢
   try dsimp only[aG]
   exact aQ (Er:=Er) (R:=sh isI) (bo ao (cq (aa (R:=sh isS) (a:=Z0z) (v:=.str (sOf Z0z)) rfl))) (Res.OkE.imp hq fun y9 hq v10 W11 e12 h13=>hq v10 W11 (E0.trans e12) h13)
theorem wP {f:Addr} {fd:FuncData} (F:Fun K "_law_places" "_law_places" (tp 51) f fd) {gv:(Tx×Tx×Int)→Tx→Res (Tx×Tx×Int)} {mm:(Tx×Tx×Int)→Tx→Res Int} (Z18:Cal P w K mg base "_law_behind" ["_law_card_here","_law_turn"] (2) (bf (isT3 K isS isS isI) isS (rs (isT3 K isS isS isI)) gv)) (Z3p:Cal P w K mg base "_law_twist" ["_law_card_here","_law_turn"] (2) (bf (isT3 K isS isS isI) isS (rs isI) mm)):FnOk P w K mg base CX0 (3) f fd ["_law_card_here","_law_turns_here"] (bf (isT3 K isS isS isI) isS (ro (isT3 K isS isS isS)) (vq gv mm)):=by
 have SC:FnScope ["_law_card_here","_law_turns_here","_law_out","_law_turn","_law_slant"] ["_law_card_here","_law_turns_here"] (defScope (tp 51)):=⟨rfl,rfl,rfl,by decide +kernel,rfl,by decide +kernel,by decide +kernel⟩
 refine F.ok SC (fun vs H Q E h=>?_) (fun cdv A outer s H vs Q E hr h=>?_)
 ·obtain⟨_,_,_,_,_,_,rfl,_⟩:=h;rfl
 ·obtain⟨W0,Z01,Z02,Z07,_,rfl,rfl,Z03,Z0T,Er,hq⟩:=h
  cases Z0T
  refine⟨_,(ae (av (i:=2) SC.nd rfl (by first | exact Or.inl rfl | exact Or.inr rfl) (bT ac))
   (ae (cM PassesOwn.never rfl (gE (pv 1)) (al (i:=3) SC.nd rfl (by first | exact Or.inl rfl | exact Or.inr rfl)) (ae (av (i:=0) SC.nd rfl (by first | exact Or.inl rfl | exact Or.inr rfl) (ay Z18 (hr.mono (by decide)) (by rfl) (a8 (pv 0) (a8 (pv 3) ac))))
   (ae (av (i:=4) SC.nd rfl (by first | exact Or.inl rfl | exact Or.inr rfl) (au bC ax (ag bH (ay Z3p (hr.mono (by decide)) (by rfl) (a8 (pv 0) (a8 (pv 3) ac))) ad) (fun _ _=>rfl)))
   (af (dW (cF (K:=K) rfl (pv 2) (a8 (aI (a8 (au bC (au (am (K:=K) rfl) (pv 0) ad (fun _ _=>rfl)) (au (am (K:=K) rfl) (pv 0) ad (fun _ _=>rfl)) (fun _ _=>rfl)) (a8 (au bC (au (am (K:=K) rfl) (pv 0) ad (fun _ _=>rfl)) (ag aE (ag bH (au (am (K:=K) rfl) (pv 0) ad (fun _ _=>rfl)) ad) ad) (fun _ _=>rfl)) (a8 (pv 4) ac)))) ac)))))))
   (af (aw (pv 2))))),?_⟩
  have E0:Ext W0 W0:=.refl W0
  rw[show L2.start ["_law_card_here","_law_turns_here","_law_out","_law_turn","_law_slant"] [Z07,.str (sOf Z02)]=[some Z07,some (.str (sOf Z02)),none,none,none]from rfl]
  unfold vq at hq
  refine dR (Er:=Er) (i:=2) (σ':=fun p3=>[some Z07,some (.str (sOf Z02)),some (.ref p3),none,none]) (fv (R:=(isT3 K isS isS isS))) (fun p3 W1 e2 hp4 o5=>?_)
  have fr6:=bi E0.h hp4
  have E0:=E0.trans e2
  have Z03:=Mono.mono (R:=(isT3 K isS isS isI)) e2.g Z03
  refine du (Er:=Er) (f:=(tP gv mm)) (s0:=(Z01,([]:List (Tx×Tx×Tx)))) (Iv:=fun(s9:((Tx×Tx×Int)×(List (Tx×Tx×Tx)))) (W10:Wd) (g11:St)=>∃(v12:V) (d15:Option V) (d16:Option V),g11=[some v12,some (.str (sOf Z02)),some (.ref p3),d16,d15]∧Ext W0 W10∧(isT3 K isS isS isI) W10.G s9.1 v12∧Ow (isT3 K isS isS isS) W10 p3 s9.2) (gP (aa (R:=sh isS) (a:=Z02) (v:=.str (sOf Z02)) rfl)) (Res.okE_bind hq) ?_ ?_ ?_
  ·intro W28 e29
   have E0:=E0.trans e29
   have Z03:=Mono.mono (R:=(isT3 K isS isS isI)) e29.g Z03
   have o5:=o5.mono e29
   exact⟨_,_,_,rfl,E0,Z03,o5⟩
  ·intro Wb17 W18 W19 a7 v20 s8 sg21 P22 hW23 hB24 iv e25 h26 hq
   obtain⟨v12,d15,d16,rfl,E0,h13,o14⟩:=iv
   have E0:=E0.trans e25
   have hB24:=hB24.trans e25.g
   have o14:=o14.mono e25
   have h13:=Mono.mono (R:=(isT3 K isS isS isI)) e25.g h13
   cases h26
   refine gn (σ':=[some v12,some (.str (sOf Z02)),some (.ref p3),some (.str (sOf a7)),d15]) ?_
   unfold tP at hq
   refine aq (Er:=Er) (i:=0) (R:=sh (isT3 K isS isS isI)) (σ':=fun v35=>[some v35,some (.str (sOf Z02)),some (.ref p3),some (.str (sOf a7)),d15]) (aR (aa (R:=sh (isT3 K isS isS isI)) h13) (aa (R:=sh isS) (a:=a7) (v:=.str (sOf a7)) rfl)) ((Res.okE_bind hq).imp fun y34 hq v35 W32 e33 h36=>?_)
   have E0:=E0.trans e33
   have hB24:=hB24.trans e33.g
   have o14:=o14.mono e33
   refine aq (Er:=Er) (i:=4) (R:=sh isS) (σ':=fun v42=>[some v35,some (.str (sOf Z02)),some (.ref p3),some (.str (sOf a7)),some v42]) (bE (az (x:=Str.ofString "zos") (l:=[122,111,115]) (cS _ _ (by decide +kernel))) (bo (aR (aa (R:=sh (isT3 K isS isS isI)) h36) (aa (R:=sh isS) (a:=a7) (v:=.str (sOf a7)) rfl)) ao)) ((Res.okE_bind hq).imp fun y41 hq v42 W37 e38 h43=>?_)
   cases h43
   have E0:=E0.trans e38
   have hB24:=hB24.trans e38.g
   have o14:=o14.mono e38
   have h36:=Mono.mono (R:=(isT3 K isS isS isI)) e38.g h36
   refine fS (Er:=Er) o14 (cx (K:=K) (bE (aH (f:=fun(b:Tx×Tx×Int)=>b.2.1) gO (aa (R:=sh (isT3 K isS isS isI)) h36)) (aH (f:=fun(b:Tx×Tx×Int)=>b.2.2) fP (aa (R:=sh (isT3 K isS isS isI)) h36))) (bE (aH (f:=fun(b:Tx×Tx×Int)=>b.2.1) gO (aa (R:=sh (isT3 K isS isS isI)) h36)) (ar (fun _=>by decide) (bo (aH (f:=fun(b:Tx×Tx×Int)=>b.2.2) fP (aa (R:=sh (isT3 K isS isS isI)) h36)) ao))) (aa (R:=sh isS) (a:=y41) (v:=.str (sOf y41)) rfl)) ((Res.okE_bind hq).imp fun y49 hq W46 mu47 o48=>?_)
   have E0:=mu47.e _ E0 fr6
   have hB24:=hB24.trans mu47.g
   have h36:=Mono.mono (R:=(isT3 K isS isS isI)) mu47.g h36
   try dsimp only
   refine cV (W:=W46) (y34,y49) hB24 ?_ hq
   exact⟨_,_,_,rfl,E0,h36,o48⟩
  ·intro s51 W52 sg53 hS54 iv hq
   obtain⟨v12,d15,d16,rfl,E0,h13,o14⟩:=iv
   exact⟨.ref p3,rfl,hq p3 W52 E0 fr6 o14⟩
theorem wQ {f:Addr} {fd:FuncData} (F:Fun K "turned" "turned" (tp 23) f fd) {Z0O:Tok} (Z0y:mg "HOLES" =some (.int 4 Z0O)) {Z1p:Addr} (Z3f:mg "STEPS" =some (.ref Z1p)) (Z3g:DictK K w Z1p [(Sum.inr (Str.ofString "f"),.int (1)),(Sum.inr (Str.ofString "b"),.int (-1)),(Sum.inr (Str.ofString "i"),.int (0))]):FnOk P w K mg base CX0 (1) f fd ["tablet","turn"] (bf (isT3 K isS isS isI) isS (rs (isT3 K isS isS isI)) (vt)):=by
 have SC:FnScope ["tablet","turn","lay","holes","stand"] ["tablet","turn"] (defScope (tp 23)):=⟨rfl,rfl,rfl,by decide +kernel,rfl,by decide +kernel,by decide +kernel⟩
 refine F.ok SC (fun vs H Q E h=>?_) (fun cdv A outer s H vs Q E hr h=>?_)
 ·obtain⟨_,_,_,_,_,_,rfl,_⟩:=h;rfl
 ·obtain⟨W0,tablet,turn,Z0c,_,rfl,rfl,Z0D,Z6k,Er,hq⟩:=h
  cases Z6k
  refine⟨_,(ae (dE (pv 0) (bF (K:=K) (n:=3) rfl rfl (ap (al (i:=2) SC.nd rfl (by first | exact Or.inl rfl | exact Or.inr rfl)) (ap (al (i:=3) SC.nd rfl (by first | exact Or.inl rfl | exact Or.inr rfl)) (ap (al (i:=4) SC.nd rfl (by first | exact Or.inl rfl | exact Or.inr rfl)) bA)))))
   (af (aw (aI (a8 (pv 2) (a8 (pv 3) (a8 (ag aE (ag bH (pv 4) (dO (K:=K) (w:=w) rfl rfl (aV (v:=.ref _) (by rfl) Z3f rfl) (pv 1) (fun _ _=>rfl))) (aV (v:=.int 4) (by rfl) Z0y ⟨_,rfl⟩)) ac))))))),?_⟩
  have E0:Ext W0 W0:=.refl W0
  rw[show L2.start ["tablet","turn","lay","holes","stand"] [Z0c,.str (sOf turn)]=[some Z0c,some (.str (sOf turn)),none,none,none]from rfl]
  unfold vt at hq
  refine cz (Er:=Er) (R:=sh (isT3 K isS isS isI)) (aa (R:=sh (isT3 K isS isS isI)) Z0D) (fun v1 W2 e3 h4=>?_)
  have E0:=E0.trans e3
  refine mQ (σ':=fun v5 v7 v9=>[some Z0c,some (.str (sOf turn)),some v5,some v7,some v9]) h4 fun v5 v7 v9 h6 h8 h10=>?_
  cases h6
  cases h8
  cases h10
  exact aQ (Er:=Er) (R:=sh (isT3 K isS isS isI)) (cx (K:=K) (aa (R:=sh isS) (a:=tablet.1) (v:=.str (sOf tablet.1)) rfl) (aa (R:=sh isS) (a:=tablet.2.1) (v:=.str (sOf tablet.2.1)) rfl) (ar (fun _=>by decide) (bo (aa (R:=sh isI) (a:=tablet.2.2) (v:=.int tablet.2.2) rfl) (iG Z3g (by decide +kernel) (aa (R:=sh isS) (a:=turn) (v:=.str (sOf turn)) rfl))))) (Res.OkE.imp hq fun y14 hq v15 W16 e17 h18=>hq v15 W16 (E0.trans e17) h18)
theorem uQ {f:Addr} {fd:FuncData} (F:Fun K "top" "top" (tp 20) f fd) {Z0O:Tok} (Z0y:mg "HOLES" =some (.int 4 Z0O)):FnOk P w K mg base CX0 (1) f fd ["tablet"] (bY (isT3 K isS isS isI) (rs isS) (mn)):=by
 have SC:FnScope ["tablet","lay","holes","stand"] ["tablet"] (defScope (tp 20)):=⟨rfl,rfl,rfl,by decide +kernel,rfl,by decide +kernel,by decide +kernel⟩
 refine F.ok SC (fun vs H Q E h=>?_) (fun cdv A outer s H vs Q E hr h=>?_)
 ·obtain⟨_,_,_,_,rfl,_⟩:=h;rfl
 ·obtain⟨W0,tablet,Z0c,rfl,rfl,Z0D,Er,hq⟩:=h
  refine⟨_,(ae (dE (pv 0) (bF (K:=K) (n:=3) rfl rfl (ap (al (i:=1) SC.nd rfl (by first | exact Or.inl rfl | exact Or.inr rfl)) (ap (al (i:=2) SC.nd rfl (by first | exact Or.inl rfl | exact Or.inr rfl)) (ap (al (i:=3) SC.nd rfl (by first | exact Or.inl rfl | exact Or.inr rfl)) bA)))))
   (af (aw (au bC (pv 2) (ag aE (pv 3) (aV (v:=.int 4) (by rfl) Z0y ⟨_,rfl⟩)) (fun _ _=>rfl))))),?_⟩
  have E0:Ext W0 W0:=.refl W0
  rw[show L2.start ["tablet","lay","holes","stand"] [Z0c]=[some Z0c,none,none,none]from rfl]
  unfold mn at hq
  refine cz (Er:=Er) (R:=sh (isT3 K isS isS isI)) (aa (R:=sh (isT3 K isS isS isI)) Z0D) (fun v1 W2 e3 h4=>?_)
  have E0:=E0.trans e3
  refine mQ (σ':=fun v5 v7 v9=>[some Z0c,some v5,some v7,some v9]) h4 fun v5 v7 v9 h6 h8 h10=>?_
  cases h6
  cases h8
  cases h10
  exact aQ (Er:=Er) (R:=sh isS) (bE (aa (R:=sh isS) (a:=tablet.2.1) (v:=.str (sOf tablet.2.1)) rfl) (ar (fun _=>by decide) (aa (R:=sh isI) (a:=tablet.2.2) (v:=.int tablet.2.2) rfl))) (Res.OkE.imp hq fun y11 hq v12 W13 e14 h15=>hq v12 W13 (E0.trans e14) h15)
theorem wR {f:Addr} {fd:FuncData} (F:Fun K "bottom" "bottom" (tp 21) f fd) {Z0O:Tok} (Z0y:mg "HOLES" =some (.int 4 Z0O)):FnOk P w K mg base CX0 (1) f fd ["tablet"] (bY (isT3 K isS isS isI) (rs isS) (vv)):=by
 have SC:FnScope ["tablet","lay","holes","stand"] ["tablet"] (defScope (tp 21)):=⟨rfl,rfl,rfl,by decide +kernel,rfl,by decide +kernel,by decide +kernel⟩
 refine F.ok SC (fun vs H Q E h=>?_) (fun cdv A outer s H vs Q E hr h=>?_)
 ·obtain⟨_,_,_,_,rfl,_⟩:=h;rfl
 ·obtain⟨W0,tablet,Z0c,rfl,rfl,Z0D,Er,hq⟩:=h
  refine⟨_,(ae (dE (pv 0) (bF (K:=K) (n:=3) rfl rfl (ap (al (i:=1) SC.nd rfl (by first | exact Or.inl rfl | exact Or.inr rfl)) (ap (al (i:=2) SC.nd rfl (by first | exact Or.inl rfl | exact Or.inr rfl)) (ap (al (i:=3) SC.nd rfl (by first | exact Or.inl rfl | exact Or.inr rfl)) bA)))))
   (af (aw (au bC (pv 2) (ag aE (ag bH (pv 3) ad) (aV (v:=.int 4) (by rfl) Z0y ⟨_,rfl⟩)) (fun _ _=>rfl))))),?_⟩
  have E0:Ext W0 W0:=.refl W0
  rw[show L2.start ["tablet","lay","holes","stand"] [Z0c]=[some Z0c,none,none,none]from rfl]
  unfold vv at hq
  refine cz (Er:=Er) (R:=sh (isT3 K isS isS isI)) (aa (R:=sh (isT3 K isS isS isI)) Z0D) (fun v1 W2 e3 h4=>?_)
  have E0:=E0.trans e3
  refine mQ (σ':=fun v5 v7 v9=>[some Z0c,some v5,some v7,some v9]) h4 fun v5 v7 v9 h6 h8 h10=>?_
  cases h6
  cases h8
  cases h10
  exact aQ (Er:=Er) (R:=sh isS) (bE (aa (R:=sh isS) (a:=tablet.2.1) (v:=.str (sOf tablet.2.1)) rfl) (ar (fun _=>by decide) (bo (aa (R:=sh isI) (a:=tablet.2.2) (v:=.int tablet.2.2) rfl) ao))) (Res.OkE.imp hq fun y11 hq v12 W13 e14 h15=>hq v12 W13 (E0.trans e14) h15)
theorem wS {f:Addr} {fd:FuncData} (F:Fun K "twisting" "twisting" (tp 22) f fd) {Z1p:Addr} (Z3f:mg "STEPS" =some (.ref Z1p)) (Z3g:DictK K w Z1p [(Sum.inr (Str.ofString "f"),.int (1)),(Sum.inr (Str.ofString "b"),.int (-1)),(Sum.inr (Str.ofString "i"),.int (0))]):FnOk P w K mg base CX0 (1) f fd ["tablet","turn"] (bf (isT3 K isS isS isI) isS (rs isI) (vw)):=by
 have SC:FnScope ["tablet","turn","step"] ["tablet","turn"] (defScope (tp 22)):=⟨rfl,rfl,rfl,by decide +kernel,rfl,by decide +kernel,by decide +kernel⟩
 refine F.ok SC (fun vs H Q E h=>?_) (fun cdv A outer s H vs Q E hr h=>?_)
 ·obtain⟨_,_,_,_,_,_,rfl,_⟩:=h;rfl
 ·obtain⟨W0,tablet,turn,Z0c,_,rfl,rfl,Z0D,Z6k,Er,hq⟩:=h
  cases Z6k
  refine⟨_,(ae (av (i:=2) SC.nd rfl (by first | exact Or.inl rfl | exact Or.inr rfl) (dO (K:=K) (w:=w) rfl rfl (aV (v:=.ref _) (by rfl) Z3f rfl) (pv 1) (fun _ _=>rfl)))
   (af (aw (nP (aL cH (au (am (K:=K) rfl) (pv 0) ad (fun _ _=>rfl)) ax (b9 _)) (pv 2) (rO nS (pv 2)))))),?_⟩
  have E0:Ext W0 W0:=.refl W0
  rw[show L2.start ["tablet","turn","step"] [Z0c,.str (sOf turn)]=[some Z0c,some (.str (sOf turn)),none]from rfl]
  unfold vw at hq
  refine aq (Er:=Er) (i:=2) (R:=sh isI) (σ':=fun v4=>[some Z0c,some (.str (sOf turn)),some v4]) (iG Z3g (by decide +kernel) (aa (R:=sh isS) (a:=turn) (v:=.str (sOf turn)) rfl)) ((Res.okE_bind hq).imp fun y3 hq v4 W1 e2 h5=>?_)
  cases h5
  have E0:=E0.trans e2
  have Z0D:=Mono.mono (R:=(isT3 K isS isS isI)) e2.g Z0D
  exact aQ (Er:=Er) (R:=sh isI) (uj (aW (je (aH (f:=fun(b:Tx×Tx×Int)=>b.1) ji (aa (R:=sh (isT3 K isS isS isI)) Z0D)) (az (x:=Str.ofString "S") (l:=[83]) (cS _ _ (by decide +kernel))))) (aa (R:=sh isI) (a:=y3) (v:=.int y3) rfl) (oE (aa (R:=sh isI) (a:=y3) (v:=.int y3) rfl))) (Res.OkE.imp hq fun y6 hq v7 W8 e9 h10=>hq v7 W8 (E0.trans e9) h10)
theorem wT {f:Addr} {fd:FuncData} (F:Fun K "left_place" "left_place" (tp 30) f fd) {fH:(Tx×Tx×Int)→Res Tx} {rg:(Tx×Tx×Int)→Res Tx} {rh:(Tx×Tx×Int)→Tx→Res Int} (C_top:Cal P w K mg base "top" ["tablet"] (1) (bY (isT3 K isS isS isI) (rs isS) fH)) (Z7z:Cal P w K mg base "bottom" ["tablet"] (1) (bY (isT3 K isS isS isI) (rs isS) rg)) (Z5s:Cal P w K mg base "twisting" ["tablet","turn"] (1) (bf (isT3 K isS isS isI) isS (rs isI) rh)) {Z1V:Addr} (Z7A:mg "SLANTS" =some (.ref Z1V)) (Z7B:DictK K w Z1V [(Sum.inl (1),.str (Str.ofString "s")),(Sum.inl (-1),.str (Str.ofString "z")),(Sum.inl (0),.str (Str.ofString "o"))]):FnOk P w K mg base CX0 (2) f fd ["tablet","turn"] (bf (isT3 K isS isS isI) isS (rs (isT3 K isS isS isS)) (vz fH rg rh)):=by
 have SC:FnScope ["tablet","turn"] ["tablet","turn"] (defScope (tp 30)):=⟨rfl,rfl,rfl,by decide +kernel,rfl,by decide +kernel,by decide +kernel⟩
 refine F.ok SC (fun vs H Q E h=>?_) (fun cdv A outer s H vs Q E hr h=>?_)
 ·obtain⟨_,_,_,_,_,_,rfl,_⟩:=h;rfl
 ·obtain⟨W0,tablet,turn,Z0c,_,rfl,rfl,Z0D,Z6k,Er,hq⟩:=h
  cases Z6k
  refine⟨_,(af (aw (aI (a8 (ay C_top (hr.mono (by decide)) (by rfl) (a8 (pv 0) ac)) (a8 (ay Z7z (hr.mono (by decide)) (by rfl) (a8 (pv 0) ac)) (a8 (dO (K:=K) (w:=w) rfl rfl (aV (v:=.ref _) (by rfl) Z7A rfl) (ay Z5s (hr.mono (by decide)) (by rfl) (a8 (pv 0) (a8 (pv 1) ac))) (fun _ _=>rfl)) ac)))))),?_⟩
  have E0:Ext W0 W0:=.refl W0
  rw[show L2.start ["tablet","turn"] [Z0c,.str (sOf turn)]=[some Z0c,some (.str (sOf turn))]from rfl]
  unfold vz at hq
  exact aQ (Er:=Er) (R:=sh (isT3 K isS isS isS)) (cx (K:=K) (cq (aa (R:=sh (isT3 K isS isS isI)) Z0D)) (cq (aa (R:=sh (isT3 K isS isS isI)) Z0D)) (mT Z7B (by decide +kernel) (aR (aa (R:=sh (isT3 K isS isS isI)) Z0D) (aa (R:=sh isS) (a:=turn) (v:=.str (sOf turn)) rfl)))) (Res.OkE.imp hq fun y5 hq v6 W7 e8 h9=>hq v6 W7 (E0.trans e8) h9)
theorem wU {f:Addr} {fd:FuncData} (F:Fun K "woven" "woven" (tp 31) f fd) {g9:(Tx×Tx×Int)→Tx→Res (Tx×Tx×Int)} {kt:(Tx×Tx×Int)→Tx→Res (Tx×Tx×Tx)} (Z2n:Cal P w K mg base "turned" ["tablet","turn"] (1) (bf (isT3 K isS isS isI) isS (rs (isT3 K isS isS isI)) g9)) (Z3q:Cal P w K mg base "left_place" ["tablet","turn"] (2) (bf (isT3 K isS isS isI) isS (rs (isT3 K isS isS isS)) kt)) (h_list:mg "list" =none) (h_zip:mg "zip" =none):FnOk P w K mg base CX0 (3) f fd ["draft","plan"] (bf (isL (isT3 K isS isS isI)) (isL isS) (ro (isL (isT3 K isS isS isS))) (vA g9 kt)):=by
 have SC:FnScope ["draft","plan","standing","band","row"] ["draft","plan"] (defScope (tp 31)):=⟨rfl,rfl,rfl,by decide +kernel,rfl,by decide +kernel,by decide +kernel⟩
 refine F.ok SC (fun vs H Q E h=>?_) (fun cdv A outer s H vs Q E hr h=>?_)
 ·obtain⟨_,_,_,_,_,_,rfl,_⟩:=h;rfl
 ·obtain⟨W0,draft,plan,Z2o,Z3r,rfl,rfl,Zi8,Z6l,Er,hq⟩:=h
  refine⟨_,(ae (av (i:=2) SC.nd rfl (by first | exact Or.inl rfl | exact Or.inr rfl) (ip (i4 (K:=K) rfl) (by rfl) h_list PyProof.Rows.boot_list (a8 (pv 0) ac)))
   (ae (av (i:=3) SC.nd rfl (by first | exact Or.inl rfl | exact Or.inr rfl) (bT ac))
   (ae (cM PassesOwn.never rfl (dP (K:=K) rfl (pv 1)) (al (i:=4) SC.nd rfl (by first | exact Or.inl rfl | exact Or.inr rfl)) (ae (l5 (i:=2) SC.nd rfl (by first | exact Or.inl rfl | exact Or.inr rfl) (N:=["tablet","turn"]) (cap:=[none,none]) (j8 rfl (by decide +kernel) rfl (by decide +kernel) (by rfl) (by rfl)) rfl (j9 (K:=K) rfl rfl h_zip (a8 (pv 2) (a8 (pv 4) ac))) (fun _ _ _ _=>(bF (K:=K) (n:=2) rfl rfl (ap (al (i:=0) (show List.Nodup (["tablet","turn"]:List Str) by decide +kernel) rfl (by first | exact Or.inl rfl | exact Or.inr rfl)) (ap (al (i:=1) (show List.Nodup (["tablet","turn"]:List Str) by decide +kernel) rfl (by first | exact Or.inl rfl | exact Or.inr rfl)) bA)))) (fun _ _ _ _=>dZ) (fun _ _ _ _=>(ay Z2n (hr.mono (by decide)) (by rfl) (a8 (pv 0) (a8 (pv 1) ac)))))
   (af (dW (cF (K:=K) rfl (pv 3) (a8 (ee (N:=["tablet","turn"]) (cap:=[none,none]) (j8 rfl (by decide +kernel) rfl (by decide +kernel) (by rfl) (by rfl)) rfl (j9 (K:=K) rfl rfl h_zip (a8 (pv 2) (a8 (pv 4) ac))) (fun _ _ _ _=>(bF (K:=K) (n:=2) rfl rfl (ap (al (i:=0) (show List.Nodup (["tablet","turn"]:List Str) by decide +kernel) rfl (by first | exact Or.inl rfl | exact Or.inr rfl)) (ap (al (i:=1) (show List.Nodup (["tablet","turn"]:List Str) by decide +kernel) rfl (by first | exact Or.inl rfl | exact Or.inr rfl)) bA)))) (fun _ _ _ _=>dZ) (fun _ _ _ _=>(ay Z3q (hr.mono (by decide)) (by rfl) (a8 (pv 0) (a8 (pv 1) ac))))) ac))))))
   (af (aw (pv 3)))))),?_⟩
  have E0:Ext W0 W0:=.refl W0
  rw[show L2.start ["draft","plan","standing","band","row"] [Z2o,Z3r]=[some Z2o,some Z3r,none,none,none]from rfl]
  unfold vA at hq
  refine aq (Er:=Er) (i:=2) (R:=sh (isL (isT3 K isS isS isI))) (σ':=fun v3=>[some Z2o,some Z3r,some v3,none,none]) (EVo.ev (oN (EV.pk (aa (R:=sh (isL (isT3 K isS isS isI))) Zi8)))) (fun v3 W1 e2 h4=>?_)
  have E0:=E0.trans e2
  have Z6l:=Mono.mono (R:=(isL isS)) e2.g Z6l
  refine dR (Er:=Er) (i:=3) (σ':=fun p7=>[some Z2o,some Z3r,some v3,some (.ref p7),none]) (fv (R:=(isL (isT3 K isS isS isS)))) (fun p7 W5 e6 hp8 o9=>?_)
  have fr10:=bi E0.h hp8
  have E0:=E0.trans e6
  have Z6l:=Mono.mono (R:=(isL isS)) e6.g Z6l
  have h4:=Mono.mono (R:=(isL (isT3 K isS isS isI))) e6.g h4
  refine du (Er:=Er) (f:=(t6 g9 kt)) (s0:=(draft,([]:List (List (Tx×Tx×Tx))))) (Iv:=fun(s13:((List (Tx×Tx×Int))×(List (List (Tx×Tx×Tx))))) (W14:Wd) (g15:St)=>∃(v16:V) (d19:Option V),g15=[some Z2o,some Z3r,some v16,some (.ref p7),d19]∧Ext W0 W14∧(isL (isT3 K isS isS isI)) W14.G s13.1 v16∧Ow (isL (isT3 K isS isS isS)) W14 p7 s13.2) (ef (aa (R:=sh (isL isS)) Z6l)) (Res.okE_bind hq) ?_ ?_ ?_
  ·intro W31 e32
   have E0:=E0.trans e32
   have h4:=Mono.mono (R:=(isL (isT3 K isS isS isI))) e32.g h4
   have o9:=o9.mono e32
   exact⟨_,_,rfl,E0,h4,o9⟩
  ·intro Wb20 W21 W22 a11 v23 s12 sg24 P25 hW26 hB27 iv e28 h29 hq
   obtain⟨v16,d19,rfl,E0,h17,o18⟩:=iv
   have E0:=E0.trans e28
   have hB27:=hB27.trans e28.g
   have o18:=o18.mono e28
   have h17:=Mono.mono (R:=(isL (isT3 K isS isS isI))) e28.g h17
   cases h29
   refine gn (σ':=[some Z2o,some Z3r,some v16,some (.ref p7),some (.str (sOf a11))]) ?_
   unfold t6 at hq
   refine aq (Er:=Er) (i:=2) (R:=sh (isL (isT3 K isS isS isI))) (σ':=fun v49=>[some Z2o,some Z3r,some v49,some (.ref p7),some (.str (sOf a11))]) (EVo.ev (eg (f:=fun(a37:(Tx×Tx×Int)×Tx)=>g9 a37.1 a37.2) (oJ (jl (aa (R:=sh (isL (isT3 K isS isS isI))) h17)) (jm (aa (R:=sh isS) (a:=a11) (v:=.str (sOf a11)) rfl))) fun W39 a37 v38 e40 h41 Q46 k47=>by
    refine jS h41 fun v42 v44 h43 h45=>?_
    cases h45
    exact⟨by simp[Keep,bD],((aR (aa (R:=sh (isT3 K isS isS isI)) h43) (aa (R:=sh isS) (a:=a37.2) (v:=.str (sOf a37.2)) rfl)):EV Er _ [some v42,some (.str (sOf a37.2))] _ _ _) _ (.refl _) _ k47⟩)) ((Res.okE_bind hq).imp fun y48 hq v49 W35 e36 h50=>?_)
   have E0:=E0.trans e36
   have hB27:=hB27.trans e36.g
   have o18:=o18.mono e36
   refine fS (Er:=Er) o18 (EVo.ev (eg (f:=fun(a51:(Tx×Tx×Int)×Tx)=>kt a51.1 a51.2) (oJ (jl (aa (R:=sh (isL (isT3 K isS isS isI))) h50)) (jm (aa (R:=sh isS) (a:=a11) (v:=.str (sOf a11)) rfl))) fun W53 a51 v52 e54 h55 Q60 k61=>by
    refine jS h55 fun v56 v58 h57 h59=>?_
    cases h59
    exact⟨by simp[Keep,bD],((aR (aa (R:=sh (isT3 K isS isS isI)) h57) (aa (R:=sh isS) (a:=a51.2) (v:=.str (sOf a51.2)) rfl)):EV Er _ [some v56,some (.str (sOf a51.2))] _ _ _) _ (.refl _) _ k61⟩)) ((Res.okE_bind hq).imp fun y65 hq W62 mu63 o64=>?_)
   have E0:=mu63.e _ E0 fr10
   have hB27:=hB27.trans mu63.g
   have h50:=Mono.mono (R:=(isL (isT3 K isS isS isI))) mu63.g h50
   try dsimp only
   refine cV (W:=W62) (y48,y65) hB27 ?_ hq
   exact⟨_,_,rfl,E0,h50,o64⟩
  ·intro s67 W68 sg69 hS70 iv hq
   obtain⟨v16,d19,rfl,E0,h17,o18⟩:=iv
   exact⟨.ref p7,rfl,hq p7 W68 E0 fr10 o18⟩
theorem wV {f:Addr} {fd:FuncData} (F:Fun K "left_by" "left_by" (tp 33) f fd) {ri:(List (Tx×Tx×Int))→(List Tx)→Res (List (List (Tx×Tx×Tx)))} (Z8K:Cal P w K mg base "woven" ["draft","plan"] (3) (bf (isL (isT3 K isS isS isI)) (isL isS) (ro (isL (isT3 K isS isS isS))) ri)) (h_list:mg "list" =none):FnOk P w K mg base CX0 (4) f fd ["strand"] (bY (isT2 K (isT3 K isS isS isI) isS) (ro (isT3 K isS isS isS)) (vB ri)):=by
 have SC:FnScope ["strand","tablet","turns"] ["strand"] (defScope (tp 33)):=⟨rfl,rfl,rfl,by decide +kernel,rfl,by decide +kernel,by decide +kernel⟩
 refine F.ok SC (fun vs H Q E h=>?_) (fun cdv A outer s H vs Q E hr h=>?_)
 ·obtain⟨_,_,_,_,rfl,_⟩:=h;rfl
 ·obtain⟨W0,strand,Z0E,rfl,rfl,Z0J,Er,hq⟩:=h
  refine⟨_,(ae (dE (pv 0) (bF (K:=K) (n:=2) rfl rfl (ap (al (i:=1) SC.nd rfl (by first | exact Or.inl rfl | exact Or.inr rfl)) (ap (al (i:=2) SC.nd rfl (by first | exact Or.inl rfl | exact Or.inr rfl)) bA))))
   (af (aw (ee (N:=["pick"]) (cap:=[none]) (j8 rfl (by decide +kernel) rfl (by decide +kernel) (by rfl) (by rfl)) rfl (dP (K:=K) rfl (ay Z8K (hr.mono (by decide)) (by rfl) (a8 (bT (a8 (pv 1) ac)) (a8 (ip (gK rfl) (by rfl) h_list PyProof.Rows.boot_list (a8 (pv 2) ac)) ac)))) (fun _ _ _ _=>(al (i:=0) (show List.Nodup (["pick"]:List Str) by decide +kernel) rfl (by first | exact Or.inl rfl | exact Or.inr rfl))) (fun _ _ _ _=>dZ) (fun _ _ _ _=>(au (dl (K:=K) rfl) (pv 0) ad (fun _ _=>rfl))))))),?_⟩
  have E0:Ext W0 W0:=.refl W0
  rw[show L2.start ["strand","tablet","turns"] [Z0E]=[some Z0E,none,none]from rfl]
  unfold vB at hq
  refine cz (Er:=Er) (R:=sh (isT2 K (isT3 K isS isS isI) isS)) (aa (R:=sh (isT2 K (isT3 K isS isS isI) isS)) Z0J) (fun v1 W2 e3 h4=>?_)
  have E0:=E0.trans e3
  refine jS (σ':=fun v5 v7=>[some Z0E,some v5,some v7]) h4 fun v5 v7 h6 h8=>?_
  cases h8
  exact eY (Er:=Er) (eg (f:=fun(a10:List (Tx×Tx×Tx))=>jM a10 (0:Int)) (ef (EVo.ev (dg (EVo.ev (cP (ba (aa (R:=sh (isT3 K isS isS isI)) h6) (cO (R:=(isT3 K isS isS isI)))))) (EVo.ev (oO (aa (R:=sh isS) (a:=strand.2) (v:=.str (sOf strand.2)) rfl)))))) fun W12 a10 v11 e13 h14 Q17 k18=>by
   refine gn ?_
   exact⟨by simp[Keep,bD],((fQ (EV.pk (aa (R:=sh (isL (isT3 K isS isS isS))) h14)) ao):EV Er _ [some v11] _ _ _) _ (.refl _) _ k18⟩) (Res.OkE.imp hq fun y20 hq p21 W22 e23 hp24 o25=>hq p21 W22 (E0.trans e23) (bi E0.h hp24) o25)
theorem wW {f:Addr} {fd:FuncData} (F:Fun K "parting_of" "parting_of" (tp 38) f fd) (h_enumerate:mg "enumerate" =none) (h_len:mg "len" =none) (h_min:mg "min" =none) (h_zip:mg "zip" =none) {Z3h:Addr} (Z8L:mg "SIDES" =some (.ref Z3h)) (Z8M:∀H,SqT K H Z3h [.str (Str.ofString "face"),.str (Str.ofString "back"),.str (Str.ofString "slant")]):FnOk P w K mg base CX0 (1) f fd ["ones","others"] (bf (isL (isT3 K isS isS isS)) (isL (isT3 K isS isS isS)) (rs (isO (isT2 K isI isS))) (uM)):=by
 have SC:FnScope ["ones","others","pick","place","against","at","side"] ["ones","others"] (defScope (tp 38)):=⟨rfl,rfl,rfl,by decide +kernel,rfl,by decide +kernel,by decide +kernel⟩
 refine F.ok SC (fun vs H Q E h=>?_) (fun cdv A outer s H vs Q E hr h=>?_)
 ·obtain⟨_,_,_,_,_,_,rfl,_⟩:=h;rfl
 ·obtain⟨W0,ones,others,Z5c,Z2p,rfl,rfl,Z0K,Z0s,Er,hq⟩:=h
  refine⟨_,(ae (cM PassesOwn.never rfl (k6 (K:=K) rfl rfl h_enumerate rfl h_zip (a8 (pv 0) (a8 (pv 1) ac))) (bF (K:=K) (n:=2) rfl rfl (ap (al (i:=2) SC.nd rfl (by first | exact Or.inl rfl | exact Or.inr rfl)) (ap (bF (K:=K) (n:=2) rfl rfl (ap (al (i:=3) SC.nd rfl (by first | exact Or.inl rfl | exact Or.inr rfl)) (ap (al (i:=4) SC.nd rfl (by first | exact Or.inl rfl | exact Or.inr rfl)) bA))) bA))) (af (cM PassesOwn.never rfl (lj (K:=K) rfl rfl h_enumerate (a8 (aV (v:=.ref _) (by rfl) Z8L rfl) ac)) (bF (K:=K) (n:=2) rfl rfl (ap (al (i:=5) SC.nd rfl (by first | exact Or.inl rfl | exact Or.inr rfl)) (ap (al (i:=6) SC.nd rfl (by first | exact Or.inl rfl | exact Or.inr rfl)) bA))) (af (bw (aL fW (au (am (K:=K) rfl) (pv 3) (pv 5) (fun _ _=>rfl)) (au (am (K:=K) rfl) (pv 4) (pv 5) (fun _ _=>rfl)) (b9 _)) (af (aw (aI (a8 (pv 2) (a8 (pv 6) ac))))) aK)))))
   (ae (bw (aL fW (ai (bh (K:=K) rfl) (by rfl) h_len PySem.boot_len (a8 (pv 0) ac)) (ai (bh (K:=K) rfl) (by rfl) h_len PySem.boot_len (a8 (pv 1) ac)) (b9 _)) (af (aw (aI (a8 (ai (fN rfl) (by rfl) h_min PyProof.Rows.boot_min (a8 (ai (bh (K:=K) rfl) (by rfl) h_len PySem.boot_len (a8 (pv 0) ac)) (a8 (ai (bh (K:=K) rfl) (by rfl) h_len PySem.boot_len (a8 (pv 1) ac)) ac))) (a8 ax ac))))) aK)
   (af (aw kP)))),?_⟩
  have E0:Ext W0 W0:=.refl W0
  rw[show L2.start ["ones","others","pick","place","against","at","side"] [Z5c,Z2p]=[some Z5c,some Z2p,none,none,none,none,none]from rfl]
  unfold uM at hq
  refine iE (Er:=Er) (f:=sf) (s0:=()) (Iv:=fun(s3:Unit) (W4:Wd) (g5:St)=>∃(d6:Option V) (d7:Option V) (d8:Option V) (d9:Option V) (d10:Option V),g5=[some Z5c,some Z2p,d8,d9,d10,d6,d7]∧Ext W0 W4) (k7 (jl (aa (R:=sh (isL (isT3 K isS isS isS))) Z0K)) (jl (aa (R:=sh (isL (isT3 K isS isS isS))) Z0s))) (Res.okE_bind hq) ?_ ?_ ?_
  ·intro W22 e23
   have E0:=E0.trans e23
   have Z0K:=Mono.mono (R:=(isL (isT3 K isS isS isS))) e23.g Z0K
   have Z0s:=Mono.mono (R:=(isL (isT3 K isS isS isS))) e23.g Z0s
   exact⟨_,_,_,_,_,rfl,E0⟩
  ·intro Wb11 W12 W13 a1 v14 s2 sg15 P16 hW17 hB18 iv e19 h20 hrt21 hq
   obtain⟨d6,d7,d8,d9,d10,rfl,E0⟩:=iv
   have Z0K:=Mono.mono (R:=(isL (isT3 K isS isS isS))) hW17 Z0K
   have Z0s:=Mono.mono (R:=(isL (isT3 K isS isS isS))) hW17 Z0s
   have E0:=E0.trans e19
   have hB18:=hB18.trans e19.g
   have Z0K:=Mono.mono (R:=(isL (isT3 K isS isS isS))) e19.g Z0K
   have Z0s:=Mono.mono (R:=(isL (isT3 K isS isS isS))) e19.g Z0s
   refine rS (σ':=fun v30 v32 v34=>[some Z5c,some Z2p,some v30,some v32,some v34,d6,d7]) h20 fun v30 v32 v34 h31 h33 h35=>?_
   cases h31
   unfold sf at hq
   refine jo (Er:=Er) (f:=(t9 a1)) (s0:=()) (Iv:=fun(s38:Unit) (W39:Wd) (g40:St)=>∃(d41:Option V) (d42:Option V),g40=[some Z5c,some Z2p,some (.int a1.1),some v32,some v34,d41,d42]∧Ext W0 W39) (p9 (oS Z8M (gS _ [102,97,99,101] (by decide +kernel)) (gS _ [98,97,99,107] (by decide +kernel)) (gS _ [115,108,97,110,116] (by decide +kernel)))) (Res.okE_bind hq) ?_ ?_ ?_
   ·intro W54 e55
    have E0:=E0.trans e55
    have hB18:=hB18.trans e55.g
    have Z0K:=Mono.mono (R:=(isL (isT3 K isS isS isS))) e55.g Z0K
    have Z0s:=Mono.mono (R:=(isL (isT3 K isS isS isS))) e55.g Z0s
    have h33:=Mono.mono (R:=(isT3 K isS isS isS)) e55.g h33
    have h35:=Mono.mono (R:=(isT3 K isS isS isS)) e55.g h35
    exact⟨_,_,rfl,E0⟩
   ·intro Wb43 W44 W45 a36 v46 s37 sg47 P48 hW49 hB50 iv e51 h52 hrt53 hq
    obtain⟨d41,d42,rfl,E0⟩:=iv
    have hB18:=hB18.trans hW49
    have Z0K:=Mono.mono (R:=(isL (isT3 K isS isS isS))) hW49 Z0K
    have Z0s:=Mono.mono (R:=(isL (isT3 K isS isS isS))) hW49 Z0s
    have h33:=Mono.mono (R:=(isT3 K isS isS isS)) hW49 h33
    have h35:=Mono.mono (R:=(isT3 K isS isS isS)) hW49 h35
    have E0:=E0.trans e51
    have hB18:=hB18.trans e51.g
    have hB50:=hB50.trans e51.g
    have Z0K:=Mono.mono (R:=(isL (isT3 K isS isS isS))) e51.g Z0K
    have Z0s:=Mono.mono (R:=(isL (isT3 K isS isS isS))) e51.g Z0s
    have h33:=Mono.mono (R:=(isT3 K isS isS isS)) e51.g h33
    have h35:=Mono.mono (R:=(isT3 K isS isS isS)) e51.g h35
    refine jS (σ':=fun v60 v62=>[some Z5c,some Z2p,some (.int a1.1),some v32,some v34,some v60,some v62]) h52 fun v60 v62 h61 h63=>?_
    cases h61
    cases h63
    unfold t9 at hq
    refine rV (Er:=Er) (aW (jf (jj (aa (R:=sh (isT3 K isS isS isS)) h33) (aa (R:=sh isI) (a:=a36.1) (v:=.int a36.1) rfl)) (jj (aa (R:=sh (isT3 K isS isS isS)) h35) (aa (R:=sh isI) (a:=a36.1) (v:=.int a36.1) rfl)))) ((Res.okE_bind hq).imp fun y66 hq W67 e68=>?_)
    have E0:=E0.trans e68
    have hB18:=hB18.trans e68.g
    have hB50:=hB50.trans e68.g
    have Z0K:=Mono.mono (R:=(isL (isT3 K isS isS isS))) e68.g Z0K
    have Z0s:=Mono.mono (R:=(isL (isT3 K isS isS isS))) e68.g Z0s
    have h33:=Mono.mono (R:=(isT3 K isS isS isS)) e68.g h33
    have h35:=Mono.mono (R:=(isT3 K isS isS isS)) e68.g h35
    by_cases hb72:y66=true
    ·rw[if_pos hb72]at hq ⊢
     exact aQ (Er:=Er) (R:=sh (isO (isT2 K isI isS))) (jU (bd (K:=K) (aa (R:=sh isI) (a:=a1.1) (v:=.int a1.1) rfl) (aa (R:=sh isS) (a:=a36.2) (v:=.str (sOf a36.2)) rfl))) (fun v69 W70 e71 h72=>(hrt21 _ (hrt53 _ hq)) v69 W70 (E0.trans e71) h72)
    ·rw[if_neg hb72]at hq ⊢
     try dsimp only[aG]
     try dsimp only
     refine cV (W:=W67) () hB50 ?_ hq
     exact⟨_,_,rfl,E0⟩
   ·intro s73 W74 sg75 hS76 iv hq
    obtain⟨d41,d42,rfl,E0⟩:=iv
    have hB18:=hB18.trans hS76
    have Z0K:=Mono.mono (R:=(isL (isT3 K isS isS isS))) hS76 Z0K
    have Z0s:=Mono.mono (R:=(isL (isT3 K isS isS isS))) hS76 Z0s
    have h33:=Mono.mono (R:=(isT3 K isS isS isS)) hS76 h33
    have h35:=Mono.mono (R:=(isT3 K isS isS isS)) hS76 h35
    try dsimp only
    refine cV (W:=W74) () hB18 ?_ hq
    exact⟨_,_,_,_,_,rfl,E0⟩
  ·intro s77 W78 sg79 hS80 iv hq
   obtain⟨d6,d7,d8,d9,d10,rfl,E0⟩:=iv
   have Z0K:=Mono.mono (R:=(isL (isT3 K isS isS isS))) hS80 Z0K
   have Z0s:=Mono.mono (R:=(isL (isT3 K isS isS isS))) hS80 Z0s
   refine cE (Er:=Er) (aW (lc (cX (EV.pk (aa (R:=sh (isL (isT3 K isS isS isS))) Z0K))) (cX (EV.pk (aa (R:=sh (isL (isT3 K isS isS isS))) Z0s))))) (fun W81 e82=>?_)
   have E0:=E0.trans e82
   have Z0K:=Mono.mono (R:=(isL (isT3 K isS isS isS))) e82.g Z0K
   have Z0s:=Mono.mono (R:=(isL (isT3 K isS isS isS))) e82.g Z0s
   by_cases hb90:(!decide ((ones.length:Int)=(others.length:Int)))=true
   ·rw[if_pos hb90]at hq ⊢
    exact aQ (Er:=Er) (R:=sh (isO (isT2 K isI isS))) (jU (bd (K:=K) (jq (cX (EV.pk (aa (R:=sh (isL (isT3 K isS isS isS))) Z0K))) (cX (EV.pk (aa (R:=sh (isL (isT3 K isS isS isS))) Z0s)))) (az (x:=Str.ofString "end") (l:=[101,110,100]) (cS _ _ (by decide +kernel))))) (fun v83 W84 e85 h86=>hq v83 W84 (E0.trans e85) h86)
   ·rw[if_neg hb90]at hq ⊢
    try dsimp only[aG]
    exact aQ (Er:=Er) (R:=sh (isO (isT2 K isI isS))) (qy (R:=(isT2 K isI isS))) (fun v87 W88 e89 h90=>hq v87 W88 (E0.trans e89) h90)
theorem wX {f:Addr} {fd:FuncData} (F:Fun K "flipped" "flipped" (tp 24) f fd) {Z0O:Tok} (Z0y:mg "HOLES" =some (.int 4 Z0O)) {Z15:Addr} (Z3s:mg "OTHER_LAYS" =some (.ref Z15)) (Z3t:DictK K w Z15 [(Sum.inr (Str.ofString "S"),.str (Str.ofString "Z")),(Sum.inr (Str.ofString "Z"),.str (Str.ofString "S"))]):FnOk P w K mg base CX0 (1) f fd ["tablet"] (bY (isT3 K isS isS isI) (rs (isT3 K isS isS isI)) (vC)):=by
 have SC:FnScope ["tablet","lay","holes","stand","mirrored"] ["tablet"] (defScope (tp 24)):=⟨rfl,rfl,rfl,by decide +kernel,rfl,by decide +kernel,by decide +kernel⟩
 refine F.ok SC (fun vs H Q E h=>?_) (fun cdv A outer s H vs Q E hr h=>?_)
 ·obtain⟨_,_,_,_,rfl,_⟩:=h;rfl
 ·obtain⟨W0,tablet,Z0c,rfl,rfl,Z0D,Er,hq⟩:=h
  refine⟨_,(ae (dE (pv 0) (bF (K:=K) (n:=3) rfl rfl (ap (al (i:=1) SC.nd rfl (by first | exact Or.inl rfl | exact Or.inr rfl)) (ap (al (i:=2) SC.nd rfl (by first | exact Or.inl rfl | exact Or.inr rfl)) (ap (al (i:=3) SC.nd rfl (by first | exact Or.inl rfl | exact Or.inr rfl)) bA)))))
   (ae (av (i:=4) SC.nd rfl (by first | exact Or.inl rfl | exact Or.inr rfl) (ag bb (ag bb (ag bb (au bC (pv 2) ad (fun _ _=>rfl)) (au bC (pv 2) ad (fun _ _=>rfl))) (au bC (pv 2) ad (fun _ _=>rfl))) (au bC (pv 2) ad (fun _ _=>rfl))))
   (af (aw (aI (a8 (dO (K:=K) (w:=w) rfl rfl (aV (v:=.ref _) (by rfl) Z3s rfl) (pv 1) (fun _ _=>rfl)) (a8 (pv 4) (a8 (ag aE (ag fL (aV (v:=.int 4) (by rfl) Z0y ⟨_,rfl⟩) (pv 3)) (aV (v:=.int 4) (by rfl) Z0y ⟨_,rfl⟩)) ac)))))))),?_⟩
  have E0:Ext W0 W0:=.refl W0
  rw[show L2.start ["tablet","lay","holes","stand","mirrored"] [Z0c]=[some Z0c,none,none,none,none]from rfl]
  unfold vC at hq
  refine cz (Er:=Er) (R:=sh (isT3 K isS isS isI)) (aa (R:=sh (isT3 K isS isS isI)) Z0D) (fun v1 W2 e3 h4=>?_)
  have E0:=E0.trans e3
  refine mQ (σ':=fun v5 v7 v9=>[some Z0c,some v5,some v7,some v9,none]) h4 fun v5 v7 v9 h6 h8 h10=>?_
  cases h6
  cases h8
  cases h10
  refine aq (Er:=Er) (i:=4) (R:=sh isS) (σ':=fun v20=>[some Z0c,some (.str (sOf tablet.1)),some (.str (sOf tablet.2.1)),some (.int tablet.2.2),some v20]) (bJ (bJ (bJ (bE (aa (R:=sh isS) (a:=tablet.2.1) (v:=.str (sOf tablet.2.1)) rfl) ao) (bE (aa (R:=sh isS) (a:=tablet.2.1) (v:=.str (sOf tablet.2.1)) rfl) ao)) (bE (aa (R:=sh isS) (a:=tablet.2.1) (v:=.str (sOf tablet.2.1)) rfl) ao)) (bE (aa (R:=sh isS) (a:=tablet.2.1) (v:=.str (sOf tablet.2.1)) rfl) ao)) ((Res.okE_bind hq).imp fun y19 hq v20 W11 e12 h21=>?_)
  cases h21
  have E0:=E0.trans e12
  exact aQ (Er:=Er) (R:=sh (isT3 K isS isS isI)) (cx (K:=K) (iH Z3t (by decide +kernel) (aa (R:=sh isS) (a:=tablet.1) (v:=.str (sOf tablet.1)) rfl)) (aa (R:=sh isS) (a:=y19) (v:=.str (sOf y19)) rfl) (ar (fun _=>by decide) (bo ao (aa (R:=sh isI) (a:=tablet.2.2) (v:=.int tablet.2.2) rfl)))) (Res.OkE.imp hq fun y23 hq v24 W25 e26 h27=>hq v24 W25 (E0.trans e26) h27)
theorem wY {f:Addr} {fd:FuncData} (F:Fun K "opposite" "opposite" (tp 26) f fd) {Z1c:Addr} (Z4x:mg "OPPOSITES" =some (.ref Z1c)) (Z4y:DictK K w Z1c [(Sum.inr (Str.ofString "f"),.str (Str.ofString "b")),(Sum.inr (Str.ofString "b"),.str (Str.ofString "f")),(Sum.inr (Str.ofString "i"),.str (Str.ofString "i"))]):FnOk P w K mg base CX0 (1) f fd ["turns"] (bY isS (rs isS) (vD)):=by
 have SC:FnScope ["turns"] ["turns"] (defScope (tp 26)):=⟨rfl,rfl,rfl,by decide +kernel,rfl,by decide +kernel,by decide +kernel⟩
 refine F.ok SC (fun vs H Q E h=>?_) (fun cdv A outer s H vs Q E hr h=>?_)
 ·obtain⟨_,_,_,_,rfl,_⟩:=h;rfl
 ·obtain⟨W0,turns,_,rfl,rfl,Zi9,Er,hq⟩:=h
  cases Zi9
  refine⟨_,(af (aw (fw (K:=K) rfl ax (a8 (ee (N:=["turn"]) (cap:=[none]) (j8 rfl (by decide +kernel) rfl (by decide +kernel) (by rfl) (by rfl)) rfl (gE (pv 0)) (fun _ _ _ _=>(al (i:=0) (show List.Nodup (["turn"]:List Str) by decide +kernel) rfl (by first | exact Or.inl rfl | exact Or.inr rfl))) (fun _ _ _ _=>dZ) (fun _ _ _ _=>(dO (K:=K) (w:=w) rfl rfl (aV (v:=.ref _) (by rfl) Z4x rfl) (pv 0) (fun _ _=>rfl)))) ac)))),?_⟩
  have E0:Ext W0 W0:=.refl W0
  rw[show L2.start ["turns"] [.str (sOf turns)]=[some (.str (sOf turns))]from rfl]
  unfold vD at hq
  exact aQ (Er:=Er) (R:=sh isS) (gs (cS _ _ (by decide +kernel)) (EVo.pk (eg (f:=fun(a1:Tx)=>getD ([([102],[98]),([98],[102]),([105],[105])]:List (Tx×Tx)) a1) (gP (aa (R:=sh isS) (a:=turns) (v:=.str (sOf turns)) rfl)) fun W3 a1 v2 e4 h5 Q8 k9=>by
   cases h5
   refine gn ?_
   exact⟨by simp[Keep,bD],((iH Z4y (by decide +kernel) (aa (R:=sh isS) (a:=a1) (v:=.str (sOf a1)) rfl)):EV Er _ [some (.str (sOf a1))] _ _ _) _ (.refl _) _ k9⟩))) (Res.OkE.imp hq fun y11 hq v12 W13 e14 h15=>hq v12 W13 (E0.trans e14) h15)
theorem wZ {f:Addr} {fd:FuncData} (F:Fun K "rolled" "rolled" (tp 25) f fd) {Z0O:Tok} (Z0y:mg "HOLES" =some (.int 4 Z0O)):FnOk P w K mg base CX0 (1) f fd ["tablet","many"] (bf (isT3 K isS isS isI) isI (rs (isT3 K isS isS isI)) (vF)):=by
 have SC:FnScope ["tablet","many","lay","holes","stand","cut"] ["tablet","many"] (defScope (tp 25)):=⟨rfl,rfl,rfl,by decide +kernel,rfl,by decide +kernel,by decide +kernel⟩
 refine F.ok SC (fun vs H Q E h=>?_) (fun cdv A outer s H vs Q E hr h=>?_)
 ·obtain⟨_,_,_,_,_,_,rfl,_⟩:=h;rfl
 ·obtain⟨W0,tablet,many,Z0c,_,rfl,rfl,Z0D,Ziz,Er,hq⟩:=h
  cases Ziz
  refine⟨_,(ae (dE (pv 0) (bF (K:=K) (n:=3) rfl rfl (ap (al (i:=2) SC.nd rfl (by first | exact Or.inl rfl | exact Or.inr rfl)) (ap (al (i:=3) SC.nd rfl (by first | exact Or.inl rfl | exact Or.inr rfl)) (ap (al (i:=4) SC.nd rfl (by first | exact Or.inl rfl | exact Or.inr rfl)) bA)))))
   (ae (av (i:=5) SC.nd rfl (by first | exact Or.inl rfl | exact Or.inr rfl) (ag aE (rO nS (pv 1)) (aV (v:=.int 4) (by rfl) Z0y ⟨_,rfl⟩)))
   (af (aw (aI (a8 (pv 2) (a8 (ag bb (bW di (pv 3) (cD (pv 5)) cC) (bW di (pv 3) cC (cD (pv 5)))) (a8 (ag aE (ag bH (pv 4) (pv 1)) (aV (v:=.int 4) (by rfl) Z0y ⟨_,rfl⟩)) ac)))))))),?_⟩
  have E0:Ext W0 W0:=.refl W0
  rw[show L2.start ["tablet","many","lay","holes","stand","cut"] [Z0c,.int many]=[some Z0c,some (.int many),none,none,none,none]from rfl]
  unfold vF at hq
  refine cz (Er:=Er) (R:=sh (isT3 K isS isS isI)) (aa (R:=sh (isT3 K isS isS isI)) Z0D) (fun v1 W2 e3 h4=>?_)
  have E0:=E0.trans e3
  refine mQ (σ':=fun v5 v7 v9=>[some Z0c,some (.int many),some v5,some v7,some v9,none]) h4 fun v5 v7 v9 h6 h8 h10=>?_
  cases h6
  cases h8
  cases h10
  refine aq (Er:=Er) (i:=5) (R:=sh isI) (σ':=fun v13=>[some Z0c,some (.int many),some (.str (sOf tablet.1)),some (.str (sOf tablet.2.1)),some (.int tablet.2.2),some v13]) (ar (fun _=>by decide) (oE (aa (R:=sh isI) (a:=many) (v:=.int many) rfl))) (fun v13 W11 e12 h14=>?_)
  cases h14
  have E0:=E0.trans e12
  exact aQ (Er:=Er) (R:=sh (isT3 K isS isS isI)) (cx (K:=K) (aa (R:=sh isS) (a:=tablet.1) (v:=.str (sOf tablet.1)) rfl) (bJ (cN (aa (R:=sh isS) (a:=tablet.2.1) (v:=.str (sOf tablet.2.1)) rfl) (eE (aa (R:=sh isI) (a:=((-many)% 4)) (v:=.int ((-many)% 4)) rfl)) eD) (cN (aa (R:=sh isS) (a:=tablet.2.1) (v:=.str (sOf tablet.2.1)) rfl) eD (eE (aa (R:=sh isI) (a:=((-many)% 4)) (v:=.int ((-many)% 4)) rfl)))) (ar (fun _=>by decide) (bo (aa (R:=sh isI) (a:=tablet.2.2) (v:=.int tablet.2.2) rfl) (aa (R:=sh isI) (a:=many) (v:=.int many) rfl)))) (Res.OkE.imp hq fun y18 hq v19 W20 e21 h22=>hq v19 W20 (E0.trans e21) h22)
theorem x2 {f:Addr} {fd:FuncData} (F:Fun K "seen" "seen" (tp 34) f fd) {g9:(Tx×Tx×Int)→Tx→Res (Tx×Tx×Int)} (Z2n:Cal P w K mg base "turned" ["tablet","turn"] (1) (bf (isT3 K isS isS isI) isS (rs (isT3 K isS isS isI)) g9)) (h_sorted:mg "sorted" =none) {Z0O:Tok} (Z0y:mg "HOLES" =some (.int 4 Z0O)):FnOk P w K mg base CX0 (2) f fd ["strand"] (bY (isT2 K (isT3 K isS isS isI) isS) (ro isI) (w4 g9)):=by
 have SC:FnScope ["strand","tablet","turns","shown","turn"] ["strand"] (defScope (tp 34)):=⟨rfl,rfl,rfl,by decide +kernel,rfl,by decide +kernel,by decide +kernel⟩
 refine F.ok SC (fun vs H Q E h=>?_) (fun cdv A outer s H vs Q E hr h=>?_)
 ·obtain⟨_,_,_,_,rfl,_⟩:=h;rfl
 ·obtain⟨W0,strand,Z0E,rfl,rfl,Z0J,Er,hq⟩:=h
  refine⟨_,(ae (dE (pv 0) (bF (K:=K) (n:=2) rfl rfl (ap (al (i:=1) SC.nd rfl (by first | exact Or.inl rfl | exact Or.inr rfl)) (ap (al (i:=2) SC.nd rfl (by first | exact Or.inl rfl | exact Or.inr rfl)) bA))))
   (ae (av (i:=3) SC.nd rfl (by first | exact Or.inl rfl | exact Or.inr rfl) o6)
   (ae (cM PassesOwn.never rfl (gE (pv 2)) (al (i:=4) SC.nd rfl (by first | exact Or.inl rfl | exact Or.inr rfl)) (ae (av (i:=1) SC.nd rfl (by first | exact Or.inl rfl | exact Or.inr rfl) (ay Z2n (hr.mono (by decide)) (by rfl) (a8 (pv 1) (a8 (pv 4) ac))))
   (ae (lM (ow hr) (pv 3) (au (am (K:=K) rfl) (pv 1) ad (fun _ _=>rfl)) eK rfl)
   (af (lM (ow hr) (pv 3) (ag aE (ag bH (au (am (K:=K) rfl) (pv 1) ad (fun _ _=>rfl)) ad) (aV (v:=.int 4) (by rfl) Z0y ⟨_,rfl⟩)) eK rfl)))))
   (af (aw (ai (jb rfl) (by rfl) h_sorted PyProof.Rows.boot_sorted (a8 (pv 3) ac))))))),?_⟩
  have E0:Ext W0 W0:=.refl W0
  rw[show L2.start ["strand","tablet","turns","shown","turn"] [Z0E]=[some Z0E,none,none,none,none]from rfl]
  unfold w4 at hq
  refine cz (Er:=Er) (R:=sh (isT2 K (isT3 K isS isS isI) isS)) (aa (R:=sh (isT2 K (isT3 K isS isS isI) isS)) Z0J) (fun v1 W2 e3 h4=>?_)
  have E0:=E0.trans e3
  refine jS (σ':=fun v5 v7=>[some Z0E,some v5,some v7,none,none]) h4 fun v5 v7 h6 h8=>?_
  cases h8
  refine mY (Er:=Er) (i:=3) (σ':=fun p11=>[some Z0E,some v5,some (.str (sOf strand.2)),some (.ref p11),none]) (qP (g:=Sum.inl) (R:=isB)) (fun p11 W9 e10 hp12 o13=>?_)
  have fr14:=bi E0.h hp12
  have E0:=E0.trans e10
  have h6:=Mono.mono (R:=(isT3 K isS isS isI)) e10.g h6
  refine du (Er:=Er) (f:=(vZ g9)) (s0:=(strand.1,([]:List (Int×Bool)))) (Iv:=fun(s17:((Tx×Tx×Int)×(List (Int×Bool)))) (W18:Wd) (g19:St)=>∃(v20:V) (d23:Option V),g19=[some Z0E,some v20,some (.str (sOf strand.2)),some (.ref p11),d23]∧Ext W0 W18∧(isT3 K isS isS isI) W18.G s17.1 v20∧OwD Sum.inl isB W18 p11 s17.2) (gP (aa (R:=sh isS) (a:=strand.2) (v:=.str (sOf strand.2)) rfl)) (Res.okE_bind hq) ?_ ?_ ?_
  ·intro W35 e36
   have E0:=E0.trans e36
   have h6:=Mono.mono (R:=(isT3 K isS isS isI)) e36.g h6
   have o13:=o13.mono e36
   exact⟨_,_,rfl,E0,h6,o13⟩
  ·intro Wb24 W25 W26 a15 v27 s16 sg28 P29 hW30 hB31 iv e32 h33 hq
   obtain⟨v20,d23,rfl,E0,h21,o22⟩:=iv
   have E0:=E0.trans e32
   have hB31:=hB31.trans e32.g
   have o22:=o22.mono e32
   have h21:=Mono.mono (R:=(isT3 K isS isS isI)) e32.g h21
   cases h33
   refine gn (σ':=[some Z0E,some v20,some (.str (sOf strand.2)),some (.ref p11),some (.str (sOf a15))]) ?_
   unfold vZ at hq
   refine aq (Er:=Er) (i:=1) (R:=sh (isT3 K isS isS isI)) (σ':=fun v42=>[some Z0E,some v42,some (.str (sOf strand.2)),some (.ref p11),some (.str (sOf a15))]) (aR (aa (R:=sh (isT3 K isS isS isI)) h21) (aa (R:=sh isS) (a:=a15) (v:=.str (sOf a15)) rfl)) ((Res.okE_bind hq).imp fun y41 hq v42 W39 e40 h43=>?_)
   have E0:=E0.trans e40
   have hB31:=hB31.trans e40.g
   have o22:=o22.mono e40
   refine mZ (Er:=Er) sP kI o22 lU (aH (f:=fun(b:Tx×Tx×Int)=>b.2.2) fP (aa (R:=sh (isT3 K isS isS isI)) h43)) ((Res.okE_bind hq).imp fun y47 hq W44 mu45 o46=>?_)
   have E0:=mu45.e _ E0 fr14
   have hB31:=hB31.trans mu45.g
   have h43:=Mono.mono (R:=(isT3 K isS isS isI)) mu45.g h43
   refine lY (Er:=Er) sP kI o46 lU (ar (fun _=>by decide) (bo (aH (f:=fun(b:Tx×Tx×Int)=>b.2.2) fP (aa (R:=sh (isT3 K isS isS isI)) h43)) ao)) ((Res.okE_bind hq).imp fun y51 hq W48 mu49 o50=>?_)
   have E0:=mu49.e _ E0 fr14
   have hB31:=hB31.trans mu49.g
   have h43:=Mono.mono (R:=(isT3 K isS isS isI)) mu49.g h43
   try dsimp only
   refine cV (W:=W48) (y41,y51) hB31 ?_ hq
   exact⟨_,_,rfl,E0,h43,o50⟩
  ·intro s52 W53 sg54 hS55 iv hq
   obtain⟨v20,d23,rfl,E0,h21,o22⟩:=iv
   exact eY (Er:=Er) (pb o22) (Res.OkE.imp hq fun y56 hq p57 W58 e59 hp60 o61=>hq p57 W58 (E0.trans e59) (bi E0.h hp60) o61)
theorem x3 {f:Addr} {fd:FuncData} (F:Fun K "dyed" "dyed" (tp 36) f fd) {tj:((Tx×Tx×Int)×Tx)→Res (List Int)} (Zb7:Cal P w K mg base "seen" ["strand"] (2) (bY (isT2 K (isT3 K isS isS isI) isS) (ro isI) tj)):FnOk P w K mg base CX0 (3) f fd ["strand","hole","colour"] (gl (isT2 K (isT3 K isS isS isI) isS) isI isS (rs (isT3 K isS isS isI)) (w5 tj)):=by
 have SC:FnScope ["strand","hole","colour","lay","holes","stand"] ["strand","hole","colour"] (defScope (tp 36)):=⟨rfl,rfl,rfl,by decide +kernel,rfl,by decide +kernel,by decide +kernel⟩
 refine F.ok SC (fun vs H Q E h=>?_) (fun cdv A outer s H vs Q E hr h=>?_)
 ·obtain⟨_,_,_,_,_,_,_,_,rfl,_⟩:=h;rfl
 ·obtain⟨W0,strand,b6,colour,Z0E,_,_,rfl,rfl,Z0J,ZiC,ZhE,Er,hq⟩:=h
  cases ZiC
  cases ZhE
  refine⟨_,(ae (bw (aL (l7 (K:=K) rfl) (pv 1) (ay Zb7 (hr.mono (by decide)) (by rfl) (a8 (pv 0) ac)) (by with_unfolding_all rfl)) (af pc) aK)
   (ae (dE (au (am (K:=K) rfl) (pv 0) ad (fun _ _=>rfl)) (bF (K:=K) (n:=3) rfl rfl (ap (al (i:=3) SC.nd rfl (by first | exact Or.inl rfl | exact Or.inr rfl)) (ap (al (i:=4) SC.nd rfl (by first | exact Or.inl rfl | exact Or.inr rfl)) (ap (al (i:=5) SC.nd rfl (by first | exact Or.inl rfl | exact Or.inr rfl)) bA)))))
   (af (aw (aI (a8 (pv 3) (a8 (ag bb (ag bb (bW di (pv 4) cC (cD (pv 1))) (pv 2)) (bW di (pv 4) (cD (ag bH (pv 1) ad)) cC)) (a8 (pv 5) ac)))))))),?_⟩
  have E0:Ext W0 W0:=.refl W0
  rw[show L2.start ["strand","hole","colour","lay","holes","stand"] [Z0E,.int b6,.str (sOf colour)]=[some Z0E,some (.int b6),some (.str (sOf colour)),none,none,none]from rfl]
  unfold w5 at hq
  refine cE (Er:=Er) (aW (qH (aa (R:=sh isI) (a:=b6) (v:=.int b6) rfl) (EVo.pk (fR (aa (R:=sh (isT2 K (isT3 K isS isS isI) isS)) Z0J))))) ((Res.okE_bind hq).imp fun y2 hq W3 e4=>?_)
  have E0:=E0.trans e4
  have Z0J:=Mono.mono (R:=(isT2 K (isT3 K isS isS isI) isS)) e4.g Z0J
  by_cases hb23:y2=true
  ·rw[if_pos hb23]at hq ⊢
   exact hq.elim
  ·rw[if_neg hb23]at hq ⊢
   try dsimp only[aG]
   refine cz (Er:=Er) (R:=sh (isT3 K isS isS isI)) (aH (f:=fun(b:(Tx×Tx×Int)×Tx)=>b.1) gN (aa (R:=sh (isT2 K (isT3 K isS isS isI) isS)) Z0J)) (fun v5 W6 e7 h8=>?_)
   have E0:=E0.trans e7
   refine mQ (σ':=fun v9 v11 v13=>[some Z0E,some (.int b6),some (.str (sOf colour)),some v9,some v11,some v13]) h8 fun v9 v11 v13 h10 h12 h14=>?_
   cases h10
   cases h12
   cases h14
   exact aQ (Er:=Er) (R:=sh (isT3 K isS isS isI)) (cx (K:=K) (aa (R:=sh isS) (a:=strand.1.1) (v:=.str (sOf strand.1.1)) rfl) (bJ (bJ (cN (aa (R:=sh isS) (a:=strand.1.2.1) (v:=.str (sOf strand.1.2.1)) rfl) eD (eE (aa (R:=sh isI) (a:=b6) (v:=.int b6) rfl))) (aa (R:=sh isS) (a:=colour) (v:=.str (sOf colour)) rfl)) (cN (aa (R:=sh isS) (a:=strand.1.2.1) (v:=.str (sOf strand.1.2.1)) rfl) (eE (bo (aa (R:=sh isI) (a:=b6) (v:=.int b6) rfl) ao)) eD)) (aa (R:=sh isI) (a:=strand.1.2.2) (v:=.int strand.1.2.2) rfl)) (Res.OkE.imp hq fun y19 hq v20 W21 e22 h23=>hq v20 W21 (E0.trans e22) h23)
theorem x4 {f:Addr} {fd:FuncData} (F:Fun K "stepped" "stepped" (tp 35) f fd) {rj:(Tx×Tx×Int)→Res (Tx×Tx×Int)} {rk:Tx→Res Tx} {rl:(Tx×Tx×Int)→Int→Res (Tx×Tx×Int)} {tm:((Tx×Tx×Int)×Tx)→Int→Tx→Res (Tx×Tx×Int)} (Z6m:Cal P w K mg base "flipped" ["tablet"] (1) (bY (isT3 K isS isS isI) (rs (isT3 K isS isS isI)) rj)) (Z5t:Cal P w K mg base "opposite" ["turns"] (1) (bY isS (rs isS) rk)) (Z7C:Cal P w K mg base "rolled" ["tablet","many"] (1) (bf (isT3 K isS isS isI) isI (rs (isT3 K isS isS isI)) rl)) (Zb8:Cal P w K mg base "dyed" ["strand","hole","colour"] (3) (gl (isT2 K (isT3 K isS isS isI) isS) isI isS (rs (isT3 K isS isS isI)) tm)) {Z0O:Tok} (Z0y:mg "HOLES" =some (.int 4 Z0O)):FnOk P w K mg base CX0 (4) f fd ["strand","step"] (bf (isT2 K (isT3 K isS isS isI) isS) (isU K) (rs (isT2 K (isT3 K isS isS isI) isS)) (uN rj rk rl tm)):=by
 have SC:FnScope ["strand","step","tablet","turns"] ["strand","step"] (defScope (tp 35)):=⟨rfl,rfl,rfl,by decide +kernel,rfl,by decide +kernel,by decide +kernel⟩
 refine F.ok SC (fun vs H Q E h=>?_) (fun cdv A outer s H vs Q E hr h=>?_)
 ·obtain⟨_,_,_,_,_,_,rfl,_⟩:=h;rfl
 ·obtain⟨W0,strand,step,Z0E,Zb9,rfl,rfl,Z0J,Z1x,Er,hq⟩:=h
  refine⟨_,(ae (dE (pv 0) (bF (K:=K) (n:=2) rfl rfl (ap (al (i:=2) SC.nd rfl (by first | exact Or.inl rfl | exact Or.inr rfl)) (ap (al (i:=3) SC.nd rfl (by first | exact Or.inl rfl | exact Or.inr rfl)) bA))))
   (ae (bw (aL cH (au (am (K:=K) rfl) (pv 1) ad (fun _ _=>rfl)) ax (b9 _)) (af (aw (aI (a8 (ay Z6m (hr.mono (by decide)) (by rfl) (a8 (pv 2) ac)) (a8 (ay Z5t (hr.mono (by decide)) (by rfl) (a8 (pv 3) ac)) ac))))) aK)
   (ae (bw (aL cH (au (am (K:=K) rfl) (pv 1) ad (fun _ _=>rfl)) ax (b9 _)) (af (aw (aI (a8 (ay Z7C (hr.mono (by decide)) (by rfl) (a8 (pv 2) (a8 (au (am (K:=K) rfl) (pv 1) ad (fun _ _=>rfl)) ac))) (a8 (pv 3) ac))))) aK)
   (af (aw (aI (a8 (ay Zb8 (hr.mono (by decide)) (by rfl) (a8 (pv 0) (a8 (ag aE (au (am (K:=K) rfl) (pv 1) ad (fun _ _=>rfl)) (aV (v:=.int 4) (by rfl) Z0y ⟨_,rfl⟩)) (a8 (au (am (K:=K) rfl) (pv 1) ad (fun _ _=>rfl)) ac)))) (a8 (pv 3) ac)))))))),?_⟩
  have E0:Ext W0 W0:=.refl W0
  rw[show L2.start ["strand","step","tablet","turns"] [Z0E,Zb9]=[some Z0E,some Zb9,none,none]from rfl]
  unfold uN at hq
  refine cz (Er:=Er) (R:=sh (isT2 K (isT3 K isS isS isI) isS)) (aa (R:=sh (isT2 K (isT3 K isS isS isI) isS)) Z0J) (fun v1 W2 e3 h4=>?_)
  have E0:=E0.trans e3
  have Z0J:=Mono.mono (R:=(isT2 K (isT3 K isS isS isI) isS)) e3.g Z0J
  have Z1x:=Mono.mono (R:=(isU K)) e3.g Z1x
  refine jS (σ':=fun v5 v7=>[some Z0E,some Zb9,some v5,some v7]) h4 fun v5 v7 h6 h8=>?_
  cases h8
  refine cE (Er:=Er) (aW (je (gW (K:=K) p5 (gX (aa (R:=sh (isU K)) Z1x) ao)) (az (x:=Str.ofString "flip") (l:=[102,108,105,112]) (cS _ _ (by decide +kernel))))) ((Res.okE_bind hq).imp fun y11 hq W12 e13=>?_)
  have E0:=E0.trans e13
  have Z0J:=Mono.mono (R:=(isT2 K (isT3 K isS isS isI) isS)) e13.g Z0J
  have Z1x:=Mono.mono (R:=(isU K)) e13.g Z1x
  have h6:=Mono.mono (R:=(isT3 K isS isS isI)) e13.g h6
  by_cases hb44:y11=true
  ·rw[if_pos hb44]at hq ⊢
   exact aQ (Er:=Er) (R:=sh (isT2 K (isT3 K isS isS isI) isS)) (bd (K:=K) (cq (aa (R:=sh (isT3 K isS isS isI)) h6)) (cq (aa (R:=sh isS) (a:=strand.2) (v:=.str (sOf strand.2)) rfl))) (Res.OkE.imp hq fun y16 hq v17 W18 e19 h20=>hq v17 W18 (E0.trans e19) h20)
  ·rw[if_neg hb44]at hq ⊢
   try dsimp only[aG]
   refine cE (Er:=Er) (aW (je (gW (K:=K) p5 (gX (aa (R:=sh (isU K)) Z1x) ao)) (az (x:=Str.ofString "roll") (l:=[114,111,108,108]) (cS _ _ (by decide +kernel))))) ((Res.okE_bind hq).imp fun y23 hq W24 e25=>?_)
   have E0:=E0.trans e25
   have Z0J:=Mono.mono (R:=(isT2 K (isT3 K isS isS isI) isS)) e25.g Z0J
   have Z1x:=Mono.mono (R:=(isU K)) e25.g Z1x
   have h6:=Mono.mono (R:=(isT3 K isS isS isI)) e25.g h6
   by_cases hb44:y23=true
   ·rw[if_pos hb44]at hq ⊢
    exact aQ (Er:=Er) (R:=sh (isT2 K (isT3 K isS isS isI) isS)) (bd (K:=K) (aR (aa (R:=sh (isT3 K isS isS isI)) h6) (gW (K:=K) rX (gX (aa (R:=sh (isU K)) Z1x) ao))) (aa (R:=sh isS) (a:=strand.2) (v:=.str (sOf strand.2)) rfl)) (Res.OkE.imp hq fun y29 hq v30 W31 e32 h33=>hq v30 W31 (E0.trans e32) h33)
   ·rw[if_neg hb44]at hq ⊢
    try dsimp only[aG]
    exact aQ (Er:=Er) (R:=sh (isT2 K (isT3 K isS isS isI) isS)) (bd (K:=K) (jN (aa (R:=sh (isT2 K (isT3 K isS isS isI) isS)) Z0J) (ar (fun _=>by decide) (gW (K:=K) rX (gX (aa (R:=sh (isU K)) Z1x) ao))) (gW (K:=K) p5 (gX (aa (R:=sh (isU K)) Z1x) ao))) (aa (R:=sh isS) (a:=strand.2) (v:=.str (sOf strand.2)) rfl)) (Res.OkE.imp hq fun y40 hq v41 W42 e43 h44=>hq v41 W42 (E0.trans e43) h44)
theorem x5 {f:Addr} {fd:FuncData} (F:Fun K "turning_steps" "turning_steps" (tp 39) f fd) {Z08:((Tx×Tx×Int)×Tx)→Dat→Res ((Tx×Tx×Int)×Tx)} (Z1W:Cal P w K mg base "stepped" ["strand","step"] (4) (bf (isT2 K (isT3 K isS isS isI) isS) (isU K) (rs (isT2 K (isT3 K isS isS isI) isS)) Z08)) {Z0O:Tok} (Z0y:mg "HOLES" =some (.int 4 Z0O)):FnOk P w K mg base CX0 (5) f fd ["one","other"] (bf (isT2 K (isT3 K isS isS isI) isS) (isT2 K (isT3 K isS isS isI) isS) (ro (isU K)) (vG Z08)):=by
 have SC:FnScope ["one","other","course","many"] ["one","other"] (defScope (tp 39)):=⟨rfl,rfl,rfl,by decide +kernel,rfl,by decide +kernel,by decide +kernel⟩
 refine F.ok SC (fun vs H Q E h=>?_) (fun cdv A outer s H vs Q E hr h=>?_)
 ·obtain⟨_,_,_,_,_,_,rfl,_⟩:=h;rfl
 ·obtain⟨W0,one,other,v_one,Z0U,rfl,rfl,h_one,Z0g,Er,hq⟩:=h
  refine⟨_,(ae (av (i:=2) SC.nd rfl (by first | exact Or.inl rfl | exact Or.inr rfl) (bT ac))
   (ae (bw (aL fW (au (am (K:=K) rfl) (au (am (K:=K) rfl) (pv 0) ad (fun _ _=>rfl)) ad (fun _ _=>rfl)) (au (am (K:=K) rfl) (au (am (K:=K) rfl) (pv 1) ad (fun _ _=>rfl)) ad (fun _ _=>rfl)) (b9 _)) (ae (dW (cF (K:=K) rfl (pv 2) (a8 (aI (a8 ax ac)) ac)))
   (af (av (i:=0) SC.nd rfl (by first | exact Or.inl rfl | exact Or.inr rfl) (ay Z1W (hr.mono (by decide)) (by rfl) (a8 (pv 0) (a8 (aI (a8 ax ac)) ac)))))) aK)
   (ae (av (i:=3) SC.nd rfl (by first | exact Or.inl rfl | exact Or.inr rfl) (ag aE (ag fL (au (am (K:=K) rfl) (au (am (K:=K) rfl) (pv 1) ad (fun _ _=>rfl)) ad (fun _ _=>rfl)) (au (am (K:=K) rfl) (au (am (K:=K) rfl) (pv 0) ad (fun _ _=>rfl)) ad (fun _ _=>rfl))) (aV (v:=.int 4) (by rfl) Z0y ⟨_,rfl⟩)))
   (ae (bw (aL fW (pv 3) ad (b9 _)) (af (dW (cF (K:=K) rfl (pv 2) (a8 (aI (a8 ax (a8 (pv 3) ac))) ac)))) aK)
   (af (aw (pv 2))))))),?_⟩
  have E0:Ext W0 W0:=.refl W0
  rw[show L2.start ["one","other","course","many"] [v_one,Z0U]=[some v_one,some Z0U,none,none]from rfl]
  unfold vG at hq
  refine dR (Er:=Er) (i:=2) (σ':=fun p3=>[some v_one,some Z0U,some (.ref p3),none]) (fv (R:=(isU K))) (fun p3 W1 e2 hp4 o5=>?_)
  have fr6:=bi E0.h hp4
  have E0:=E0.trans e2
  have h_one:=Mono.mono (R:=(isT2 K (isT3 K isS isS isI) isS)) e2.g h_one
  have Z0g:=Mono.mono (R:=(isT2 K (isT3 K isS isS isI) isS)) e2.g Z0g
  refine cr (Er:=Er) (Iv:=fun(s27:(((Tx×Tx×Int)×Tx)×(List Dat))) (W28:Wd) (g29:St)=>∃(v30:V),g29=[some v30,some Z0U,some (.ref p3),none]∧Ext W0 W28∧(isT2 K (isT3 K isS isS isI) isS) W28.G s27.1 v30∧Ow (isU K) W28 p3 s27.2) (aW (jf (aH (f:=fun(b:Tx×Tx×Int)=>b.1) ji (aH (f:=fun(b:(Tx×Tx×Int)×Tx)=>b.1) gN (aa (R:=sh (isT2 K (isT3 K isS isS isI) isS)) h_one))) (aH (f:=fun(b:Tx×Tx×Int)=>b.1) ji (aH (f:=fun(b:(Tx×Tx×Int)×Tx)=>b.1) gN (aa (R:=sh (isT2 K (isT3 K isS isS isI) isS)) Z0g))))) (Res.okE_bind hq) ?_ ?_ ?_
  ·intro W7 N10 e8 hN11 hq
   have hs12:=e8.g
   have E0:=E0.trans e8
   have h_one:=Mono.mono (R:=(isT2 K (isT3 K isS isS isI) isS)) e8.g h_one
   have Z0g:=Mono.mono (R:=(isT2 K (isT3 K isS isS isI) isS)) e8.g Z0g
   have o5:=o5.mono e8
   refine jT (Er:=Er) o5 (dv (K:=K) (kf cZ) (fD (K:=K) (az (x:=Str.ofString "flip") (l:=[102,108,105,112]) (cS _ _ (by decide +kernel))))) ((Res.okE_bind hq).imp fun y16 hq W13 mu14 o15=>?_)
   have E0:=mu14.e _ E0 fr6
   have hs12:=hs12.trans mu14.g
   have h_one:=Mono.mono (R:=(isT2 K (isT3 K isS isS isI) isS)) mu14.g h_one
   have Z0g:=Mono.mono (R:=(isT2 K (isT3 K isS isS isI) isS)) mu14.g Z0g
   refine cQ (Er:=Er) (i:=0) (R:=sh (isT2 K (isT3 K isS isS isI) isS)) (σ':=fun v20=>[some v20,some Z0U,some (.ref p3),none]) (aR (aa (R:=sh (isT2 K (isT3 K isS isS isI) isS)) h_one) (dv (K:=K) (kf cZ) (fD (K:=K) (az (x:=Str.ofString "flip") (l:=[102,108,105,112]) (cS _ _ (by decide +kernel)))))) ((Res.okE_bind hq).imp fun y19 hq v20 W17 e18 h21=>?_)
   have E0:=E0.trans e18
   have hs12:=hs12.trans e18.g
   have Z0g:=Mono.mono (R:=(isT2 K (isT3 K isS isS isI) isS)) e18.g Z0g
   have o15:=o15.mono e18
   exact hN11 (y19,y16) W17 _ hs12 ⟨_,rfl,E0,h21,o15⟩ hq
  ·intro W7 N10 e8 hN11 hq
   have hs22:=e8.g
   have E0:=E0.trans e8
   have h_one:=Mono.mono (R:=(isT2 K (isT3 K isS isS isI) isS)) e8.g h_one
   have Z0g:=Mono.mono (R:=(isT2 K (isT3 K isS isS isI) isS)) e8.g Z0g
   have o5:=o5.mono e8
   try dsimp only[aG]
   exact hN11 (one,([]:List Dat)) W7 _ hs22 ⟨_,rfl,E0,h_one,o5⟩ hq
  ·intro s23 W24 sg25 hS26 iv hq
   obtain⟨v30,rfl,E0,h31,o32⟩:=iv
   have Z0g:=Mono.mono (R:=(isT2 K (isT3 K isS isS isI) isS)) hS26 Z0g
   refine aq (Er:=Er) (i:=3) (R:=sh isI) (σ':=fun v35=>[some v30,some Z0U,some (.ref p3),some v35]) (ar (fun _=>by decide) (bo (aH (f:=fun(b:Tx×Tx×Int)=>b.2.2) fP (aH (f:=fun(b:(Tx×Tx×Int)×Tx)=>b.1) gN (aa (R:=sh (isT2 K (isT3 K isS isS isI) isS)) Z0g))) (aH (f:=fun(b:Tx×Tx×Int)=>b.2.2) fP (aH (f:=fun(b:(Tx×Tx×Int)×Tx)=>b.1) gN (aa (R:=sh (isT2 K (isT3 K isS isS isI) isS)) h31))))) (fun v35 W33 e34 h36=>?_)
   cases h36
   have E0:=E0.trans e34
   have o32:=o32.mono e34
   refine cr (Er:=Er) (Iv:=fun(s52:(List Dat)) (W53:Wd) (g54:St)=>g54=[some v30,some Z0U,some (.ref p3),some (.int ((other.1.2.2- s23.1.1.2.2)% 4))]∧Ext W0 W53∧Ow (isU K) W53 p3 s52) (aW (lc (aa (R:=sh isI) (a:=((other.1.2.2- s23.1.1.2.2)% 4)) (v:=.int ((other.1.2.2- s23.1.1.2.2)% 4)) rfl) ao)) (Res.okE_bind hq) ?_ ?_ ?_
   ·intro W37 N40 e38 hN41 hq
    have hs42:=e38.g
    have E0:=E0.trans e38
    have o32:=o32.mono e38
    refine fS (Er:=Er) o32 (dv (K:=K) (uA cZ ke) (bd (K:=K) (az (x:=Str.ofString "roll") (l:=[114,111,108,108]) (cS _ _ (by decide +kernel))) (aa (R:=sh isI) (a:=((other.1.2.2- s23.1.1.2.2)% 4)) (v:=.int ((other.1.2.2- s23.1.1.2.2)% 4)) rfl))) ((Res.okE_bind hq).imp fun y46 hq W43 mu44 o45=>?_)
    have E0:=mu44.e _ E0 fr6
    have hs42:=hs42.trans mu44.g
    exact hN41 y46 W43 _ hs42 ⟨rfl,E0,o45⟩ hq
   ·intro W37 N40 e38 hN41 hq
    have hs47:=e38.g
    have E0:=E0.trans e38
    have o32:=o32.mono e38
    try dsimp only[aG]
    exact hN41 s23.2 W37 _ hs47 ⟨rfl,E0,o32⟩ hq
   ·intro s48 W49 sg50 hS51 iv hq
    obtain⟨rfl,E0,o55⟩:=iv
    exact⟨.ref p3,rfl,hq p3 W49 E0 fr6 o55⟩
theorem x6 {f:Addr} {fd:FuncData} (F:Fun K "dyeing_steps" "dyeing_steps" (tp 40) f fd) (h_enumerate:mg "enumerate" =none) (h_zip:mg "zip" =none):FnOk P w K mg base CX0 (1) f fd ["tablet","wanted"] (bf (isT3 K isS isS isI) (isT3 K isS isS isI) (ro (isU K)) (vH)):=by
 have SC:FnScope ["tablet","wanted"] ["tablet","wanted"] (defScope (tp 40)):=⟨rfl,rfl,rfl,by decide +kernel,rfl,by decide +kernel,by decide +kernel⟩
 refine F.ok SC (fun vs H Q E h=>?_) (fun cdv A outer s H vs Q E hr h=>?_)
 ·obtain⟨_,_,_,_,_,_,rfl,_⟩:=h;rfl
 ·obtain⟨W0,tablet,wanted,Z0c,Zba,rfl,rfl,Z0D,ZhF,Er,hq⟩:=h
  refine⟨_,(af (aw (ee (N:=["hole","old","new"]) (cap:=[none,none,none]) (j8 rfl (by decide +kernel) rfl (by decide +kernel) (by rfl) (by rfl)) rfl (k6 (K:=K) rfl rfl h_enumerate rfl h_zip (a8 (au (am (K:=K) rfl) (pv 0) ad (fun _ _=>rfl)) (a8 (au (am (K:=K) rfl) (pv 1) ad (fun _ _=>rfl)) ac))) (fun _ _ _ _=>(bF (K:=K) (n:=2) rfl rfl (ap (al (i:=0) (show List.Nodup (["hole","old","new"]:List Str) by decide +kernel) rfl (by first | exact Or.inl rfl | exact Or.inr rfl)) (ap (bF (K:=K) (n:=2) rfl rfl (ap (al (i:=1) (show List.Nodup (["hole","old","new"]:List Str) by decide +kernel) rfl (by first | exact Or.inl rfl | exact Or.inr rfl)) (ap (al (i:=2) (show List.Nodup (["hole","old","new"]:List Str) by decide +kernel) rfl (by first | exact Or.inl rfl | exact Or.inr rfl)) bA))) bA)))) (fun _ _ _ _=>(lP (aL fW (pv 1) (pv 2) (b9 _)))) (fun _ _ _ _=>(aI (a8 ax (a8 (pv 0) (a8 (pv 2) ac)))))))),?_⟩
  have E0:Ext W0 W0:=.refl W0
  rw[show L2.start ["tablet","wanted"] [Z0c,Zba]=[some Z0c,some Zba]from rfl]
  unfold vH at hq
  exact eY (Er:=Er) (jR (f:=fun(a1:Int×(Tx×Tx))=>if(!decide (a1.2.1=a1.2.2))then Res.ok (some (Dat.t [Dat.s (([100,121,101]:Tx),a1.1,a1.2.2).1,Dat.i (([100,121,101]:Tx),a1.1,a1.2.2).2.1,Dat.s (([100,121,101]:Tx),a1.1,a1.2.2).2.2]))else Res.ok none) (k7 (jm (aH (f:=fun(b:Tx×Tx×Int)=>b.2.1) gO (aa (R:=sh (isT3 K isS isS isI)) Z0D))) (jm (aH (f:=fun(b:Tx×Tx×Int)=>b.2.1) gO (aa (R:=sh (isT3 K isS isS isI)) ZhF)))) fun W3 a1 v2 e4 h5 Q12 k13=>by
   refine rS h5 fun v6 v8 v10 h7 h9 h11=>?_
   cases h7
   cases h9
   cases h11
   refine⟨by simp[Keep,bD],((aW (jf (aa (R:=sh isS) (a:=a1.2.1) (v:=.str (sOf a1.2.1)) rfl) (aa (R:=sh isS) (a:=a1.2.2) (v:=.str (sOf a1.2.2)) rfl))):TV Er _ [some (.int a1.1),some (.str (sOf a1.2.1)),some (.str (sOf a1.2.2))] _ _) _ (.refl _) _ (Res.OkE.imp (P:=fun b14=>(if b14=true then Res.ok (some (Dat.t [Dat.s (([100,121,101]:Tx),a1.1,a1.2.2).1,Dat.i (([100,121,101]:Tx),a1.1,a1.2.2).2.1,Dat.s (([100,121,101]:Tx),a1.1,a1.2.2).2.2]))else Res.ok none:Res (Option Dat)).OkE Er _) (wy k13) fun b14 k17 W15 e16=>?_)⟩
   cases b14 with
   | false=>exact k17 none _ e16 trivial
   | true =>
    rw[if_pos rfl]
    refine EV.go (Er:=Er) (σ:=[some (.int a1.1),some (.str (sOf a1.2.1)),some (.str (sOf a1.2.2))]) (W1:=W15) e16 (dv (K:=K) (uB cZ ke cZ) (cx (K:=K) (az (x:=Str.ofString "dye") (l:=[100,121,101]) (cS _ _ (by decide +kernel))) (aa (R:=sh isI) (a:=a1.1) (v:=.int a1.1) rfl) (aa (R:=sh isS) (a:=a1.2.2) (v:=.str (sOf a1.2.2)) rfl))) ?_
    exact fun u20 W18 e19 h21=>k17 (some u20) _ (e16.trans e19) h21) (Res.OkE.imp hq fun y23 hq p24 W25 e26 hp27 o28=>hq p24 W25 (E0.trans e26) (bi E0.h hp27) o28)
theorem x8 {f:Addr} {fd:FuncData} (F:Fun K "steps" "steps" (tp 37) f fd) {pE:(List (Tx×Tx×Tx))→(List (Tx×Tx×Tx))→Res (Option (Int×Tx))} {nL:((Tx×Tx×Int)×Tx)→Res (List (Tx×Tx×Tx))} {rm:((Tx×Tx×Int)×Tx)→((Tx×Tx×Int)×Tx)→Res (List Dat)} {Z08:((Tx×Tx×Int)×Tx)→Dat→Res ((Tx×Tx×Int)×Tx)} {qd:(Tx×Tx×Int)→(Tx×Tx×Int)→Res (List Dat)} {Z06:Addr} (Z3u:Cal P w K mg base "parting_of" ["ones","others"] (1) (bf (isL (isT3 K isS isS isS)) (isL (isT3 K isS isS isS)) (rs (isO (isT2 K isI isS))) pE)) (Z4d:Cal P w K mg base "left_by" ["strand"] (4) (bY (isT2 K (isT3 K isS isS isI) isS) (ro (isT3 K isS isS isS)) nL)) (Z21:Cal P w K mg base "turning_steps" ["one","other"] (5) (bf (isT2 K (isT3 K isS isS isI) isS) (isT2 K (isT3 K isS isS isI) isS) (ro (isU K)) rm)) (Z1W:Cal P w K mg base "stepped" ["strand","step"] (4) (bf (isT2 K (isT3 K isS isS isI) isS) (isU K) (rs (isT2 K (isT3 K isS isS isI) isS)) Z08)) (Z2q:Cal P w K mg base "dyeing_steps" ["tablet","wanted"] (1) (bf (isT3 K isS isS isI) (isT3 K isS isS isI) (ro (isU K)) qd)) (Z0X:CalU P w K mg base "Unlike" Z06):FnOk P w K mg base (CXR P w) (6) f fd ["one","other"] (mf (isT2 K (isT3 K isS isS isI) isS) (isT2 K (isT3 K isS isS isI) isS) Z06 (ro (isU K)) (uO pE nL rm Z08 qd)):=by
 have SC:FnScope ["one","other","where","course","step"] ["one","other"] (defScope (tp 37)):=⟨rfl,rfl,rfl,by decide +kernel,rfl,by decide +kernel,by decide +kernel⟩
 refine F.okR SC (fun vs H Q E h=>?_) (fun cdv A outer s H vs Q E hr h=>?_)
 ·obtain⟨_,_,_,_,_,_,rfl,_⟩:=h;rfl
 ·obtain⟨W0,one,other,v_one,Z0U,rfl,rfl,h_one,Z0g,Er,hEr,hq⟩:=h
  refine⟨_,(ae (av (i:=2) SC.nd rfl (by first | exact Or.inl rfl | exact Or.inr rfl) (ay Z3u (hr.mono (by decide)) (by rfl) (a8 (ay Z4d (hr.mono (by decide)) (by rfl) (a8 (pv 0) ac)) (a8 (ay Z4d (hr.mono (by decide)) (by rfl) (a8 (pv 1) ac)) ac))))
   (ae (bw (aL qk (pv 2) kP (b9 _)) (af (nr Z0X (mi Z0X (hr.mono (by decide)) (by rfl) (a8 (au (am (K:=K) rfl) (pv 2) ad (fun _ _=>rfl)) (a8 (au (am (K:=K) rfl) (pv 2) ad (fun _ _=>rfl)) ac))))) aK)
   (ae (av (i:=3) SC.nd rfl (by first | exact Or.inl rfl | exact Or.inr rfl) (ay Z21 (hr.mono (by decide)) (by rfl) (a8 (pv 0) (a8 (pv 1) ac))))
   (ae (sU (cM PassesOwn.never rfl (dP (K:=K) rfl (pv 3)) (al (i:=4) SC.nd rfl (by first | exact Or.inl rfl | exact Or.inr rfl)) (af (av (i:=0) SC.nd rfl (by first | exact Or.inl rfl | exact Or.inr rfl) (ay Z1W (hr.mono (by decide)) (by rfl) (a8 (pv 0) (a8 (pv 4) ac)))))))
   (af (aw (ag eN (pv 3) (ay Z2q (hr.mono (by decide)) (by rfl) (a8 (au (am (K:=K) rfl) (pv 0) ad (fun _ _=>rfl)) (a8 (au (am (K:=K) rfl) (pv 1) ad (fun _ _=>rfl)) ac)))))))))),?_⟩
  have E0:Ext W0 W0:=.refl W0
  rw[show L2.start ["one","other","where","course","step"] [v_one,Z0U]=[some v_one,some Z0U,none,none,none]from rfl]
  unfold uO at hq
  refine aq (Er:=Er) (i:=2) (R:=sh (isO (isT2 K isI isS))) (σ':=fun v6=>[some v_one,some Z0U,some v6,none,none]) (aR (EVo.ev (fR (aa (R:=sh (isT2 K (isT3 K isS isS isI) isS)) h_one))) (EVo.ev (fR (aa (R:=sh (isT2 K (isT3 K isS isS isI) isS)) Z0g)))) ((Res.okE_bind hq).imp fun y5 hq v6 W1 e2 h7=>?_)
  have E0:=E0.trans e2
  have h_one:=Mono.mono (R:=(isT2 K (isT3 K isS isS isI) isS)) e2.g h_one
  have Z0g:=Mono.mono (R:=(isT2 K (isT3 K isS isS isI) isS)) e2.g Z0g
  refine cE (Er:=Er) (aW (qA (aa (R:=sh (isO (isT2 K isI isS))) h7))) (fun W8 e9=>?_)
  have E0:=E0.trans e9
  have h_one:=Mono.mono (R:=(isT2 K (isT3 K isS isS isI) isS)) e9.g h_one
  have Z0g:=Mono.mono (R:=(isT2 K (isT3 K isS isS isI) isS)) e9.g Z0g
  have h7:=Mono.mono (R:=(isO (isT2 K isI isS))) e9.g h7
  by_cases hb57:y5.isSome=true
  ·rw[if_pos hb57]at hq ⊢
   exact nq (Er:=Er) E0 (hEr.mono E0) (aH (f:=fun(b:Int×Tx)=>b.1) gN (oQ (aa (R:=sh (isO (isT2 K isI isS))) h7))) (aH (f:=fun(b:Int×Tx)=>b.2) qC (oQ (aa (R:=sh (isO (isT2 K isI isS))) h7))) hq
  ·rw[if_neg hb57]at hq ⊢
   try dsimp only[aG]
   refine aq (Er:=Er) (i:=3) (R:=sh (isL (isU K))) (σ':=fun v17=>[some v_one,some Z0U,some v6,some v17,none]) (EVo.ev (dg (aa (R:=sh (isT2 K (isT3 K isS isS isI) isS)) h_one) (aa (R:=sh (isT2 K (isT3 K isS isS isI) isS)) Z0g))) ((Res.okE_bind hq).imp fun y16 hq v17 W14 e15 h18=>?_)
   have E0:=E0.trans e15
   have h_one:=Mono.mono (R:=(isT2 K (isT3 K isS isS isI) isS)) e15.g h_one
   have Z0g:=Mono.mono (R:=(isT2 K (isT3 K isS isS isI) isS)) e15.g Z0g
   refine du (Er:=Er) (f:=(Z0t Z08)) (s0:=one) (Iv:=fun(s21:((Tx×Tx×Int)×Tx)) (W22:Wd) (g23:St)=>∃(v24:V) (d26:Option V),g23=[some v24,some Z0U,some v6,some v17,d26]∧Ext W0 W22∧(isT2 K (isT3 K isS isS isI) isS) W22.G s21 v24) (ef (aa (R:=sh (isL (isU K))) h18)) (Res.okE_bind hq) ?_ ?_ ?_
   ·intro W38 e39
    have E0:=E0.trans e39
    have h_one:=Mono.mono (R:=(isT2 K (isT3 K isS isS isI) isS)) e39.g h_one
    have Z0g:=Mono.mono (R:=(isT2 K (isT3 K isS isS isI) isS)) e39.g Z0g
    have h18:=Mono.mono (R:=(isL (isU K))) e39.g h18
    exact⟨_,_,rfl,E0,h_one⟩
   ·intro Wb27 W28 W29 a19 v30 s20 sg31 P32 hW33 hB34 iv e35 h36 hq
    obtain⟨v24,d26,rfl,E0,h25⟩:=iv
    have Z0g:=Mono.mono (R:=(isT2 K (isT3 K isS isS isI) isS)) hW33 Z0g
    have h18:=Mono.mono (R:=(isL (isU K))) hW33 h18
    have E0:=E0.trans e35
    have hB34:=hB34.trans e35.g
    have Z0g:=Mono.mono (R:=(isT2 K (isT3 K isS isS isI) isS)) e35.g Z0g
    have h18:=Mono.mono (R:=(isL (isU K))) e35.g h18
    have h25:=Mono.mono (R:=(isT2 K (isT3 K isS isS isI) isS)) e35.g h25
    refine gn (σ':=[some v24,some Z0U,some v6,some v17,some v30]) ?_
    unfold Z0t at hq
    refine cQ (Er:=Er) (i:=0) (R:=sh (isT2 K (isT3 K isS isS isI) isS)) (σ':=fun v45=>[some v45,some Z0U,some v6,some v17,some v30]) (aR (aa (R:=sh (isT2 K (isT3 K isS isS isI) isS)) h25) (aa (R:=sh (isU K)) h36)) ((Res.okE_bind hq).imp fun y44 hq v45 W42 e43 h46=>?_)
    have E0:=E0.trans e43
    have hB34:=hB34.trans e43.g
    have Z0g:=Mono.mono (R:=(isT2 K (isT3 K isS isS isI) isS)) e43.g Z0g
    have h18:=Mono.mono (R:=(isL (isU K))) e43.g h18
    have h36:=Mono.mono (R:=(isU K)) e43.g h36
    try dsimp only
    refine cV (W:=W42) y44 hB34 ?_ hq
    exact⟨_,_,rfl,E0,h46⟩
   ·intro s47 W48 sg49 hS50 iv hq
    obtain⟨v24,d26,rfl,E0,h25⟩:=iv
    have Z0g:=Mono.mono (R:=(isT2 K (isT3 K isS isS isI) isS)) hS50 Z0g
    have h18:=Mono.mono (R:=(isL (isU K))) hS50 h18
    exact eY (Er:=Er) (dD (EV.pk (aa (R:=sh (isL (isU K))) h18)) (EVo.pk (dg (aH (f:=fun(b:(Tx×Tx×Int)×Tx)=>b.1) gN (aa (R:=sh (isT2 K (isT3 K isS isS isI) isS)) h25)) (aH (f:=fun(b:(Tx×Tx×Int)×Tx)=>b.1) gN (aa (R:=sh (isT2 K (isT3 K isS isS isI) isS)) Z0g))))) (Res.OkE.imp hq fun y52 hq p53 W54 e55 hp56 o57=>hq p53 W54 (E0.trans e55) (bi E0.h hp56) o57)
theorem x9 {f:Addr} {fd:FuncData} (F:Fun K "_law_tried" "_law_tried" (tp 61) f fd) {nM:((Tx×Tx×Int)×Tx)→((Tx×Tx×Int)×Tx)→Res (List Dat)} {Z0i Z0A Z0v Z0w Z0x Z0n Z0o Z0p Z0a Z06 Z0d Z0j Z0B Z04:Addr} (Z8O:CalR P w K mg base "steps" ["one","other"] (6) (mf (isT2 K (isT3 K isS isS isI) isS) (isT2 K (isT3 K isS isS isI) isS) Z06 (ro (isU K)) nM)) (Z0X:CalU P w K mg base "Unlike" Z06) (Z1U:mg "Unlike" =some (.ref Z06)) (Z:Kin K base [Z0i,Z0A,Z0v,Z0w,Z0x,Z0n,Z0o,Z0p,Z0a,Z06,Z0d,Z0j,Z0B] Z04) (Z1J:mg "BandError" =some (.ref Z04)) (Z3v:CalH P w K mg base "_law_kinds" ["_law_e"] 1 (fF K [Z0i,Z0A,Z0v,Z0w,Z0x,Z0n,Z0o,Z0p,Z0a,Z06,Z0d,Z0j,Z0B] Z04)) (h_isinstance:mg "isinstance" =none) (h_list:mg "list" =none):FnOk P w K mg base CX0 (7) f fd ["_law_one","_law_other"] (bf (isT2 K (isT3 K isS isS isI) isS) (isT2 K (isT3 K isS isS isI) isS) (rs (isU K)) (vI nM)):=by
 have SC:FnScope ["_law_one","_law_other","_law_found","_law_e"] ["_law_one","_law_other"] (defScope (tp 61)):=⟨rfl,rfl,rfl,by decide +kernel,rfl,by decide +kernel,by decide +kernel⟩
 obtain⟨_,_,_,_,bmB,XB,_⟩:=Z.one 9 Z06 rfl
 refine F.ok SC (fun vs H Q E h=>?_) (fun cdv A outer s H vs Q E hr h=>?_)
 ·obtain⟨_,_,_,_,_,_,rfl,_⟩:=h;rfl
 ·obtain⟨W0,Zb1,Z7c,Z8P,Z6n,rfl,rfl,Zib,Zgc,Er,hq⟩:=h
  refine⟨_,(ae (sV (i:=3) (E:=EXU K Z06 [114,101,102,117,115,101,100] W0 Q) ⟨rfl,rfl⟩ (fun _=>(af (av (i:=2) SC.nd rfl (by first | exact Or.inl rfl | exact Or.inr rfl) (qT Z8O uE (hr.mono (by decide)) (by rfl) (a8 (pv 0) (a8 (pv 1) ac)))))) (by rfl) Z1U XB (EXU.cl XB) SC.nd rfl rfl (fun x C od oe hh=>(af (aw (aI (a8 ax (a8 (qU Z3v hh ((hr.mono (by decide)).h _) rfl (List.mem_cons_self ..) (by rfl) (a8 (pv 3) ac)) (a8 (ko (pv 3) rfl hh (List.mem_cons_self ..)) (a8 (ko (pv 3) rfl hh (List.mem_cons_self ..)) ac)))))))))
   (ae (bw (d0 (ai (bg (K:=K) rfl) (by rfl) h_isinstance PyProof.Rows.boot_isinstance (a8 (pv 2) (a8 (cv (v:=.ty "list") (by rfl) h_list PyProof.Rows.boot_list rfl) ac)))) (af (aw (aI (a8 ax ac)))) aK)
   (af (aw (aI (a8 ax ac)))))),?_⟩
  have E0:Ext W0 W0:=.refl W0
  rw[show L2.start ["_law_one","_law_other","_law_found","_law_e"] [Z8P,Z6n]=[some Z8P,some Z6n,none,none]from rfl]
  unfold vI at hq
  refine qX (Er:=Er) (K:=K) (base:=base) (cs:=[Z0i,Z0A,Z0v,Z0w,Z0x,Z0n,Z0o,Z0p,Z0a,Z06,Z0d,Z0j,Z0B]) (R:=(isL (isU K))) (s:=[114,101,102,117,115,101,100]) (i:=2) (σ':=fun v5=>[some Z8P,some Z6n,some v5,none]) E0 Z Z0X rfl (cS _ _ (by decide +kernel)) rfl (fun Er hE1=>(EVo.ev (kq hE1 (aa (R:=sh (isT2 K (isT3 K isS isS isI) isS)) Zib) (aa (R:=sh (isT2 K (isT3 K isS isS isI) isS)) Zgc)))) ((Res.okE_bind hq).imp fun r2 hq=>?_)
  cases r2 with
  | inr j4=>exact hq
  | inl y3 =>
   intro v5 W6 e7 h8
   dsimp only at hq
   have E0:=E0.trans e7
   refine cE (Er:=Er) (oF (p6 (j:=3) (by decide) (dv (K:=K) (u:=fun(z:List Dat)=>Dat.l (z.map fun(z:Dat)=>z)) (lX (u:=fun(z:Dat)=>z) uz) (aa (R:=sh (isL (isU K))) h8)))) (fun W9 e10=>?_)
   have E0:=E0.trans e10
   have h8:=Mono.mono (R:=(isL (isU K))) e10.g h8
   by_cases hb18:(cU 3 ((fun(z:List Dat)=>Dat.l (z.map fun(z:Dat)=>z)) y3))=true
   ·rw[if_pos hb18]at hq ⊢
    exact aQ (Er:=Er) (R:=sh (isU K)) (dv (K:=K) (kf cZ) (fD (K:=K) (az (x:=Str.ofString "led") (l:=[108,101,100]) (cS _ _ (by decide +kernel))))) (fun v11 W12 e13 h14=>hq v11 W12 (E0.trans e13) h14)
   ·rw[if_neg hb18]at hq ⊢
    try dsimp only[aG]
    exact aQ (Er:=Er) (R:=sh (isU K)) (dv (K:=K) (kf cZ) (fD (K:=K) (az (x:=Str.ofString "no list") (l:=[110,111,32,108,105,115,116]) (cS _ _ (by decide +kernel))))) (fun v15 W16 e17 h18=>hq v15 W16 (E0.trans e17) h18)
theorem xa {f:Addr} {fd:FuncData} (F:Fun K "_law_due" "_law_due" (tp 60) f fd) (h_len:mg "len" =none) (h_min:mg "min" =none) (h_range:mg "range" =none):FnOk P w K mg base CX0 (1) f fd ["_law_ones","_law_others"] (bf (isL (isT3 K isS isS isS)) (isL (isT3 K isS isS isS)) (rs (isU K)) (vJ)):=by
 have SC:FnScope ["_law_ones","_law_others","_law_k","_law_j"] ["_law_ones","_law_others"] (defScope (tp 60)):=⟨rfl,rfl,rfl,by decide +kernel,rfl,by decide +kernel,by decide +kernel⟩
 refine F.ok SC (fun vs H Q E h=>?_) (fun cdv A outer s H vs Q E hr h=>?_)
 ·obtain⟨_,_,_,_,_,_,rfl,_⟩:=h;rfl
 ·obtain⟨W0,Z0Z,Z0L,Z2r,Z1F,rfl,rfl,Z0q,Z0f,Er,hq⟩:=h
  refine⟨_,(ae (cM PassesOwn.never rfl (dL rfl h_range (a8 (ai (fN rfl) (by rfl) h_min PyProof.Rows.boot_min (a8 (ai (bh (K:=K) rfl) (by rfl) h_len PySem.boot_len (a8 (pv 0) ac)) (a8 (ai (bh (K:=K) rfl) (by rfl) h_len PySem.boot_len (a8 (pv 1) ac)) ac))) ac)) (al (i:=2) SC.nd rfl (by first | exact Or.inl rfl | exact Or.inr rfl)) (af (cM PassesOwn.never rfl (dL rfl h_range (a8 ad ac)) (al (i:=3) SC.nd rfl (by first | exact Or.inl rfl | exact Or.inr rfl)) (af (bw (aL fW (au (am (K:=K) rfl) (au (dl (K:=K) rfl) (pv 0) (pv 2) (fun _ _=>rfl)) (pv 3) (fun _ _=>rfl)) (au (am (K:=K) rfl) (au (dl (K:=K) rfl) (pv 1) (pv 2) (fun _ _=>rfl)) (pv 3) (fun _ _=>rfl)) (b9 _)) (af (aw (aI (a8 ax (a8 (bT (a8 ax ac)) (a8 (pv 2) (a8 (au (dl (K:=K) rfl) (bT (a8 ax (a8 ax (a8 ax ac)))) (pv 3) (fun _ _=>rfl)) ac))))))) aK)))))
   (ae (bw (aL fW (ai (bh (K:=K) rfl) (by rfl) h_len PySem.boot_len (a8 (pv 0) ac)) (ai (bh (K:=K) rfl) (by rfl) h_len PySem.boot_len (a8 (pv 1) ac)) (b9 _)) (af (aw (aI (a8 ax (a8 (bT (a8 ax ac)) (a8 (ai (fN rfl) (by rfl) h_min PyProof.Rows.boot_min (a8 (ai (bh (K:=K) rfl) (by rfl) h_len PySem.boot_len (a8 (pv 0) ac)) (a8 (ai (bh (K:=K) rfl) (by rfl) h_len PySem.boot_len (a8 (pv 1) ac)) ac))) (a8 ax ac))))))) aK)
   (af (aw (aI (a8 ax ac)))))),?_⟩
  have E0:Ext W0 W0:=.refl W0
  rw[show L2.start ["_law_ones","_law_others","_law_k","_law_j"] [Z2r,Z1F]=[some Z2r,some Z1F,none,none]from rfl]
  unfold vJ at hq
  refine iE (Er:=Er) (f:=(tQ Z0Z Z0L)) (s0:=()) (Iv:=fun(s3:Unit) (W4:Wd) (g5:St)=>∃(d6:Option V) (d7:Option V),g5=[some Z2r,some Z1F,d7,d6]∧Ext W0 W4) (eR (jq (cX (EV.pk (aa (R:=sh (isL (isT3 K isS isS isS))) Z0q))) (cX (EV.pk (aa (R:=sh (isL (isT3 K isS isS isS))) Z0f))))) (Res.okE_bind hq) ?_ ?_ ?_
  ·intro W19 e20
   have E0:=E0.trans e20
   have Z0q:=Mono.mono (R:=(isL (isT3 K isS isS isS))) e20.g Z0q
   have Z0f:=Mono.mono (R:=(isL (isT3 K isS isS isS))) e20.g Z0f
   exact⟨_,_,rfl,E0⟩
  ·intro Wb8 W9 W10 a1 v11 s2 sg12 P13 hW14 hB15 iv e16 h17 hrt18 hq
   obtain⟨d6,d7,rfl,E0⟩:=iv
   have Z0q:=Mono.mono (R:=(isL (isT3 K isS isS isS))) hW14 Z0q
   have Z0f:=Mono.mono (R:=(isL (isT3 K isS isS isS))) hW14 Z0f
   have E0:=E0.trans e16
   have hB15:=hB15.trans e16.g
   have Z0q:=Mono.mono (R:=(isL (isT3 K isS isS isS))) e16.g Z0q
   have Z0f:=Mono.mono (R:=(isL (isT3 K isS isS isS))) e16.g Z0f
   cases h17
   refine gn (σ':=[some Z2r,some Z1F,some (.int a1),d6]) ?_
   unfold tQ at hq
   refine jo (Er:=Er) (f:=(uP Z0Z Z0L a1)) (s0:=()) (Iv:=fun(s25:Unit) (W26:Wd) (g27:St)=>∃(d28:Option V),g27=[some Z2r,some Z1F,some (.int a1),d28]∧Ext W0 W26) (eR ao) (Res.okE_bind hq) ?_ ?_ ?_
   ·intro W40 e41
    have E0:=E0.trans e41
    have hB15:=hB15.trans e41.g
    have Z0q:=Mono.mono (R:=(isL (isT3 K isS isS isS))) e41.g Z0q
    have Z0f:=Mono.mono (R:=(isL (isT3 K isS isS isS))) e41.g Z0f
    exact⟨_,rfl,E0⟩
   ·intro Wb29 W30 W31 a23 v32 s24 sg33 P34 hW35 hB36 iv e37 h38 hrt39 hq
    obtain⟨d28,rfl,E0⟩:=iv
    have hB15:=hB15.trans hW35
    have Z0q:=Mono.mono (R:=(isL (isT3 K isS isS isS))) hW35 Z0q
    have Z0f:=Mono.mono (R:=(isL (isT3 K isS isS isS))) hW35 Z0f
    have E0:=E0.trans e37
    have hB15:=hB15.trans e37.g
    have hB36:=hB36.trans e37.g
    have Z0q:=Mono.mono (R:=(isL (isT3 K isS isS isS))) e37.g Z0q
    have Z0f:=Mono.mono (R:=(isL (isT3 K isS isS isS))) e37.g Z0f
    cases h38
    refine gn (σ':=[some Z2r,some Z1F,some (.int a1),some (.int a23)]) ?_
    unfold uP at hq
    refine rV (Er:=Er) (aW (jf (jj (fQ (EV.pk (aa (R:=sh (isL (isT3 K isS isS isS))) Z0q)) (aa (R:=sh isI) (a:=a1) (v:=.int a1) rfl)) (aa (R:=sh isI) (a:=a23) (v:=.int a23) rfl)) (jj (fQ (EV.pk (aa (R:=sh (isL (isT3 K isS isS isS))) Z0f)) (aa (R:=sh isI) (a:=a1) (v:=.int a1) rfl)) (aa (R:=sh isI) (a:=a23) (v:=.int a23) rfl)))) ((Res.okE_bind hq).imp fun y48 hq W49 e50=>?_)
    have E0:=E0.trans e50
    have hB15:=hB15.trans e50.g
    have hB36:=hB36.trans e50.g
    have Z0q:=Mono.mono (R:=(isL (isT3 K isS isS isS))) e50.g Z0q
    have Z0f:=Mono.mono (R:=(isL (isT3 K isS isS isS))) e50.g Z0f
    by_cases hb57:y48=true
    ·rw[if_pos hb57]at hq ⊢
     exact aQ (Er:=Er) (R:=sh (isU K)) (dv (K:=K) (u:=fun(z:Tx×(List Tx)×Int×Tx)=>Dat.t [Dat.s z.1,Dat.l (z.2.1.map fun(z:Tx)=>Dat.s z),Dat.i z.2.2.1,Dat.s z.2.2.2]) (pD cZ (lX (u:=fun(z:Tx)=>Dat.s z) cZ) ke cZ) (ju (K:=K) (az (x:=Str.ofString "refused") (l:=[114,101,102,117,115,101,100]) (cS _ _ (by decide +kernel))) (EVo.ev (cP (ba (az (x:=Str.ofString "Unlike") (l:=[85,110,108,105,107,101]) (cS _ _ (by decide +kernel))) (cO (R:=isS))))) (aa (R:=sh isI) (a:=a1) (v:=.int a1) rfl) (fQ (EVo.pk (cP (ba (az (x:=Str.ofString "face") (l:=[102,97,99,101]) (cS _ _ (by decide +kernel))) (ba (az (x:=Str.ofString "back") (l:=[98,97,99,107]) (cS _ _ (by decide +kernel))) (ba (az (x:=Str.ofString "slant") (l:=[115,108,97,110,116]) (cS _ _ (by decide +kernel))) (cO (R:=isS))))))) (aa (R:=sh isI) (a:=a23) (v:=.int a23) rfl)))) ((Res.okE_bind hq).imp fun y53 hq v54 W55 e56 h57=>(hrt18 _ (hrt39 _ hq)) v54 W55 (E0.trans e56) h57)
    ·rw[if_neg hb57]at hq ⊢
     try dsimp only[aG]
     try dsimp only
     refine cV (W:=W49) () hB36 ?_ hq
     exact⟨_,rfl,E0⟩
   ·intro s59 W60 sg61 hS62 iv hq
    obtain⟨d28,rfl,E0⟩:=iv
    have hB15:=hB15.trans hS62
    have Z0q:=Mono.mono (R:=(isL (isT3 K isS isS isS))) hS62 Z0q
    have Z0f:=Mono.mono (R:=(isL (isT3 K isS isS isS))) hS62 Z0f
    try dsimp only
    refine cV (W:=W60) () hB15 ?_ hq
    exact⟨_,_,rfl,E0⟩
  ·intro s64 W65 sg66 hS67 iv hq
   obtain⟨d6,d7,rfl,E0⟩:=iv
   have Z0q:=Mono.mono (R:=(isL (isT3 K isS isS isS))) hS67 Z0q
   have Z0f:=Mono.mono (R:=(isL (isT3 K isS isS isS))) hS67 Z0f
   refine cE (Er:=Er) (aW (lc (cX (EV.pk (aa (R:=sh (isL (isT3 K isS isS isS))) Z0q))) (cX (EV.pk (aa (R:=sh (isL (isT3 K isS isS isS))) Z0f))))) (fun W68 e69=>?_)
   have E0:=E0.trans e69
   have Z0q:=Mono.mono (R:=(isL (isT3 K isS isS isS))) e69.g Z0q
   have Z0f:=Mono.mono (R:=(isL (isT3 K isS isS isS))) e69.g Z0f
   by_cases hb77:(!decide ((Z0Z.length:Int)=(Z0L.length:Int)))=true
   ·rw[if_pos hb77]at hq ⊢
    exact aQ (Er:=Er) (R:=sh (isU K)) (dv (K:=K) (u:=fun(z:Tx×(List Tx)×Int×Tx)=>Dat.t [Dat.s z.1,Dat.l (z.2.1.map fun(z:Tx)=>Dat.s z),Dat.i z.2.2.1,Dat.s z.2.2.2]) (pD cZ (lX (u:=fun(z:Tx)=>Dat.s z) cZ) ke cZ) (ju (K:=K) (az (x:=Str.ofString "refused") (l:=[114,101,102,117,115,101,100]) (cS _ _ (by decide +kernel))) (EVo.ev (cP (ba (az (x:=Str.ofString "Unlike") (l:=[85,110,108,105,107,101]) (cS _ _ (by decide +kernel))) (cO (R:=isS))))) (jq (cX (EV.pk (aa (R:=sh (isL (isT3 K isS isS isS))) Z0q))) (cX (EV.pk (aa (R:=sh (isL (isT3 K isS isS isS))) Z0f)))) (az (x:=Str.ofString "end") (l:=[101,110,100]) (cS _ _ (by decide +kernel))))) (fun v70 W71 e72 h73=>hq v70 W71 (E0.trans e72) h73)
   ·rw[if_neg hb77]at hq ⊢
    try dsimp only[aG]
    exact aQ (Er:=Er) (R:=sh (isU K)) (dv (K:=K) (kf cZ) (fD (K:=K) (az (x:=Str.ofString "led") (l:=[108,101,100]) (cS _ _ (by decide +kernel))))) (fun v74 W75 e76 h77=>hq v74 W75 (E0.trans e76) h77)
theorem uR {f:Addr} {fd:FuncData} (F:Fun K "law" "law" (tp 62) f fd) {qb:List Int→Int→Res ((Tx×Tx×Int)×Tx)} {rf:((Tx×Tx×Int)×Tx)→Int→Res ((Tx×Tx×Int)×Tx)} {re:(Tx×Tx×Int)→Tx→Int→Res ((Tx×Tx×Int)×Tx)} {gm:List Int→Int→Res Int} {qc:(Tx×Tx×Int)→Tx→Res (List (Tx×Tx×Tx))} {qe:((Tx×Tx×Int)×Tx)→((Tx×Tx×Int)×Tx)→Res Dat} {qg:(List (Tx×Tx×Tx))→(List (Tx×Tx×Tx))→Res Dat} {Z06:Addr} (Z1d:Cal P w K mg base "_law_same" ["_law_found","_law_due_here"] 26 (ei K 26)) (Z1M:Cal P w K mg base "_law_strand" ["_law_script","_law_at_here"] (4) (bf (isScr K) isI (rs (isT2 K (isT3 K isS isS isI) isS)) qb)) (Z4z:Cal P w K mg base "_law_hurt" ["_law_strand_here","_law_cell"] (1) (bf (isT2 K (isT3 K isS isS isI) isS) isI (rs (isT2 K (isT3 K isS isS isI) isS)) rf)) (Z5u:Cal P w K mg base "_law_kin" ["_law_card_here","_law_turns_here","_law_cell"] (4) (gl (isT3 K isS isS isI) isS isI (rs (isT2 K (isT3 K isS isS isI) isS)) re)) (Z13:Cal P w K mg base "_law_at" ["_law_script","_law_k"] (1) (bf (isScr K) isI (rs isI) gm)) (Z1N:Cal P w K mg base "_law_places" ["_law_card_here","_law_turns_here"] (3) (bf (isT3 K isS isS isI) isS (ro (isT3 K isS isS isS)) qc)) (Z22:Cal P w K mg base "_law_tried" ["_law_one","_law_other"] (7) (bf (isT2 K (isT3 K isS isS isI) isS) (isT2 K (isT3 K isS isS isI) isS) (rs (isU K)) qe)) (Z34:Cal P w K mg base "_law_due" ["_law_ones","_law_others"] (1) (bf (isL (isT3 K isS isS isS)) (isL (isT3 K isS isS isS)) (rs (isU K)) qg)) (Z0X:CalU P w K mg base "Unlike" Z06):FnOk P w K mg base CX0 (27) f fd ["_law_script"] (bY (isScr K) (rs isB) (mo qb rf re gm qc qe qg)):=by
 have SC:FnScope ["_law_script","_law_lost","_law_one","_law_other","_law_ones","_law_others"] ["_law_script"] (defScope (tp 62)):=⟨rfl,rfl,rfl,by decide +kernel,rfl,by decide +kernel,by decide +kernel⟩
 refine F.ok SC (fun vs H Q E h=>?_) (fun cdv A outer s H vs Q E hr h=>?_)
 ·obtain⟨_,_,_,_,rfl,_⟩:=h;rfl
 ·obtain⟨W0,Z0r,Z0k,rfl,rfl,Z05,Er,hq⟩:=h
  refine⟨_,(ae (av (i:=1) SC.nd rfl (by first | exact Or.inl rfl | exact Or.inr rfl) (mi Z0X (hr.mono (by decide)) (by rfl) (a8 ad (a8 ax ac))))
   (ae (bw (gz (d0 (ay Z1d (hr.mono (by decide)) (by rfl) (a8 (aI (a8 (m8 (pv 1) rfl) (a8 (m8 (pv 1) rfl) ac))) (a8 (aI (a8 ad (a8 ax ac))) ac))))) (af (aw eK)) aK)
   (ae (av (i:=2) SC.nd rfl (by first | exact Or.inl rfl | exact Or.inr rfl) (ay Z1M (hr.mono (by decide)) (by rfl) (a8 (pv 0) (a8 ad ac))))
   (ae (av (i:=3) SC.nd rfl (by first | exact Or.inl rfl | exact Or.inr rfl) (ay Z4z (hr.mono (by decide)) (by rfl) (a8 (ay Z5u (hr.mono (by decide)) (by rfl) (a8 (au (am (K:=K) rfl) (pv 2) ad (fun _ _=>rfl)) (a8 (au (am (K:=K) rfl) (pv 2) ad (fun _ _=>rfl)) (a8 (ay Z13 (hr.mono (by decide)) (by rfl) (a8 (pv 0) (a8 ad ac))) ac)))) (a8 (ay Z13 (hr.mono (by decide)) (by rfl) (a8 (pv 0) (a8 ad ac))) ac))))
   (ae (bw (aL cH (ag aE (ay Z13 (hr.mono (by decide)) (by rfl) (a8 (pv 0) (a8 ad ac))) ad) ad (b9 _)) (af (av (i:=3) SC.nd rfl (by first | exact Or.inl rfl | exact Or.inr rfl) (ay Z1M (hr.mono (by decide)) (by rfl) (a8 (pv 0) (a8 ad ac))))) aK)
   (ae (av (i:=4) SC.nd rfl (by first | exact Or.inl rfl | exact Or.inr rfl) (ay Z1N (hr.mono (by decide)) (by rfl) (a8 (au (am (K:=K) rfl) (pv 2) ad (fun _ _=>rfl)) (a8 (au (am (K:=K) rfl) (pv 2) ad (fun _ _=>rfl)) ac))))
   (ae (av (i:=5) SC.nd rfl (by first | exact Or.inl rfl | exact Or.inr rfl) (ay Z1N (hr.mono (by decide)) (by rfl) (a8 (au (am (K:=K) rfl) (pv 3) ad (fun _ _=>rfl)) (a8 (au (am (K:=K) rfl) (pv 3) ad (fun _ _=>rfl)) ac))))
   (ae (bw (gz (d0 (ay Z1d (hr.mono (by decide)) (by rfl) (a8 (ay Z22 (hr.mono (by decide)) (by rfl) (a8 (pv 2) (a8 (pv 3) ac))) (a8 (ay Z34 (hr.mono (by decide)) (by rfl) (a8 (pv 4) (a8 (pv 5) ac))) ac))))) (af (aw eK)) aK)
   (af (aw (ay Z1d (hr.mono (by decide)) (by rfl) (a8 (ay Z22 (hr.mono (by decide)) (by rfl) (a8 (pv 3) (a8 (pv 2) ac))) (a8 (ay Z34 (hr.mono (by decide)) (by rfl) (a8 (pv 5) (a8 (pv 4) ac))) ac))))))))))))),?_⟩
  have E0:Ext W0 W0:=.refl W0
  rw[show L2.start ["_law_script","_law_lost","_law_one","_law_other","_law_ones","_law_others"] [Z0k]=[some Z0k,none,none,none,none,none]from rfl]
  unfold mo at hq
  refine aq (Er:=Er) (i:=1) (R:=sh (isXO Z06)) (σ':=fun v3=>[some Z0k,some v3,none,none,none,none]) (pz (C:=Z06) ao (az (x:=Str.ofString "back") (l:=[98,97,99,107]) (cS _ _ (by decide +kernel)))) (fun v3 W1 e2 h4=>?_)
  have E0:=E0.trans e2
  have Z05:=Mono.mono (R:=(isScr K)) e2.g Z05
  refine cE (Er:=Er) (oG (oF (p8 (by decide) (bd (K:=K) (nt Z0X (aa (R:=sh (isXO Z06)) h4)) (nu Z0X (aa (R:=sh (isXO Z06)) h4))) (bd (K:=K) ao (az (x:=Str.ofString "back") (l:=[98,97,99,107]) (cS _ _ (by decide +kernel))))))) ((Res.okE_bind hq).imp fun y6 hq W7 e8=>?_)
  have E0:=E0.trans e8
  have Z05:=Mono.mono (R:=(isScr K)) e8.g Z05
  have h4:=Mono.mono (R:=(isXO Z06)) e8.g h4
  by_cases hb76:y6=true
  ·rw[if_pos hb76]at hq ⊢
   exact aQ (Er:=Er) (R:=sh isB) lU (fun v9 W10 e11 h12=>hq v9 W10 (E0.trans e11) h12)
  ·rw[if_neg hb76]at hq ⊢
   try dsimp only[aG]
   refine aq (Er:=Er) (i:=2) (R:=sh (isT2 K (isT3 K isS isS isI) isS)) (σ':=fun v16=>[some Z0k,some v3,some v16,none,none,none]) (aR (aa (R:=sh (isScr K)) Z05) ao) ((Res.okE_bind hq).imp fun y15 hq v16 W13 e14 h17=>?_)
   have E0:=E0.trans e14
   have Z05:=Mono.mono (R:=(isScr K)) e14.g Z05
   refine aq (Er:=Er) (i:=3) (R:=sh (isT2 K (isT3 K isS isS isI) isS)) (σ':=fun v24=>[some Z0k,some v3,some v16,some v24,none,none]) (aR (jN (aH (f:=fun(b:(Tx×Tx×Int)×Tx)=>b.1) gN (aa (R:=sh (isT2 K (isT3 K isS isS isI) isS)) h17)) (aH (f:=fun(b:(Tx×Tx×Int)×Tx)=>b.2) qC (aa (R:=sh (isT2 K (isT3 K isS isS isI) isS)) h17)) (aR (aa (R:=sh (isScr K)) Z05) ao)) (aR (aa (R:=sh (isScr K)) Z05) ao)) ((Res.okE_bind hq).imp fun y23 hq v24 W18 e19 h25=>?_)
   have E0:=E0.trans e19
   have Z05:=Mono.mono (R:=(isScr K)) e19.g Z05
   have h17:=Mono.mono (R:=(isT2 K (isT3 K isS isS isI) isS)) e19.g h17
   refine cr (Er:=Er) (Iv:=fun(s45:((Tx×Tx×Int)×Tx)) (W46:Wd) (g47:St)=>∃(v48:V),g47=[some Z0k,some v3,some v16,some v48,none,none]∧Ext W0 W46∧(isT2 K (isT3 K isS isS isI) isS) W46.G s45 v48) (aW (d5 (ar (fun _=>by decide) (aR (aa (R:=sh (isScr K)) Z05) ao)) ao)) (Res.okE_bind hq) ?_ ?_ ?_
   ·intro W29 N32 e30 hN33 hq
    have hs34:=e30.g
    have E0:=E0.trans e30
    have Z05:=Mono.mono (R:=(isScr K)) e30.g Z05
    have h17:=Mono.mono (R:=(isT2 K (isT3 K isS isS isI) isS)) e30.g h17
    have h25:=Mono.mono (R:=(isT2 K (isT3 K isS isS isI) isS)) e30.g h25
    refine cQ (Er:=Er) (i:=3) (R:=sh (isT2 K (isT3 K isS isS isI) isS)) (σ':=fun v38=>[some Z0k,some v3,some v16,some v38,none,none]) (aR (aa (R:=sh (isScr K)) Z05) ao) ((Res.okE_bind hq).imp fun y37 hq v38 W35 e36 h39=>?_)
    have E0:=E0.trans e36
    have hs34:=hs34.trans e36.g
    have h17:=Mono.mono (R:=(isT2 K (isT3 K isS isS isI) isS)) e36.g h17
    exact hN33 y37 W35 _ hs34 ⟨_,rfl,E0,h39⟩ hq
   ·intro W29 N32 e30 hN33 hq
    have hs40:=e30.g
    have E0:=E0.trans e30
    have Z05:=Mono.mono (R:=(isScr K)) e30.g Z05
    have h17:=Mono.mono (R:=(isT2 K (isT3 K isS isS isI) isS)) e30.g h17
    have h25:=Mono.mono (R:=(isT2 K (isT3 K isS isS isI) isS)) e30.g h25
    try dsimp only[aG]
    exact hN33 y23 W29 _ hs40 ⟨_,rfl,E0,h25⟩ hq
   ·intro s41 W42 sg43 hS44 iv hq
    obtain⟨v48,rfl,E0,h49⟩:=iv
    have h17:=Mono.mono (R:=(isT2 K (isT3 K isS isS isI) isS)) hS44 h17
    refine aq (Er:=Er) (i:=4) (R:=sh (isL (isT3 K isS isS isS))) (σ':=fun v53=>[some Z0k,some v3,some v16,some v48,some v53,none]) (EVo.ev (dg (aH (f:=fun(b:(Tx×Tx×Int)×Tx)=>b.1) gN (aa (R:=sh (isT2 K (isT3 K isS isS isI) isS)) h17)) (aH (f:=fun(b:(Tx×Tx×Int)×Tx)=>b.2) qC (aa (R:=sh (isT2 K (isT3 K isS isS isI) isS)) h17)))) ((Res.okE_bind hq).imp fun y52 hq v53 W50 e51 h54=>?_)
    have E0:=E0.trans e51
    have h17:=Mono.mono (R:=(isT2 K (isT3 K isS isS isI) isS)) e51.g h17
    have h49:=Mono.mono (R:=(isT2 K (isT3 K isS isS isI) isS)) e51.g h49
    refine aq (Er:=Er) (i:=5) (R:=sh (isL (isT3 K isS isS isS))) (σ':=fun v58=>[some Z0k,some v3,some v16,some v48,some v53,some v58]) (EVo.ev (dg (aH (f:=fun(b:(Tx×Tx×Int)×Tx)=>b.1) gN (aa (R:=sh (isT2 K (isT3 K isS isS isI) isS)) h49)) (aH (f:=fun(b:(Tx×Tx×Int)×Tx)=>b.2) qC (aa (R:=sh (isT2 K (isT3 K isS isS isI) isS)) h49)))) ((Res.okE_bind hq).imp fun y57 hq v58 W55 e56 h59=>?_)
    have E0:=E0.trans e56
    have h17:=Mono.mono (R:=(isT2 K (isT3 K isS isS isI) isS)) e56.g h17
    have h49:=Mono.mono (R:=(isT2 K (isT3 K isS isS isI) isS)) e56.g h49
    have h54:=Mono.mono (R:=(isL (isT3 K isS isS isS))) e56.g h54
    refine cE (Er:=Er) (oG (oF (kg (by decide) (aR (aa (R:=sh (isT2 K (isT3 K isS isS isI) isS)) h17) (aa (R:=sh (isT2 K (isT3 K isS isS isI) isS)) h49)) (aR (aa (R:=sh (isL (isT3 K isS isS isS))) h54) (aa (R:=sh (isL (isT3 K isS isS isS))) h59))))) ((Res.okE_bind hq).imp fun y63 hq W64 e65=>?_)
    have E0:=E0.trans e65
    have h17:=Mono.mono (R:=(isT2 K (isT3 K isS isS isI) isS)) e65.g h17
    have h49:=Mono.mono (R:=(isT2 K (isT3 K isS isS isI) isS)) e65.g h49
    have h54:=Mono.mono (R:=(isL (isT3 K isS isS isS))) e65.g h54
    have h59:=Mono.mono (R:=(isL (isT3 K isS isS isS))) e65.g h59
    by_cases hb76:y63=true
    ·rw[if_pos hb76]at hq ⊢
     exact aQ (Er:=Er) (R:=sh isB) lU (fun v66 W67 e68 h69=>hq v66 W67 (E0.trans e68) h69)
    ·rw[if_neg hb76]at hq ⊢
     try dsimp only[aG]
     exact aQ (Er:=Er) (R:=sh isB) (kg (by decide) (aR (aa (R:=sh (isT2 K (isT3 K isS isS isI) isS)) h49) (aa (R:=sh (isT2 K (isT3 K isS isS isI) isS)) h17)) (aR (aa (R:=sh (isL (isT3 K isS isS isS))) h59) (aa (R:=sh (isL (isT3 K isS isS isS))) h54))) (Res.OkE.imp hq fun y72 hq v73 W74 e75 h76=>hq v73 W74 (E0.trans e75) h76)
theorem rp {f:Addr} {fd:FuncData} {C:Addr} (F:Fun K "__init__" "Unlike.__init__" tR f fd) (Z:XcF K C) (n1:NoAttr K C "pick") (n2:NoAttr K C "side"):FnOk P w K mg base CX0 (1) f fd ["self","pick","side"] (spInit C):=by
 have SC:FnScope ["self","pick","side"] ["self","pick","side"] (defScope tR):=⟨rfl,rfl,rfl,by decide +kernel,rfl,by decide +kernel,by decide +kernel⟩
 refine F.ok SC (fun vs H Q E h=>?_) (fun cdv A outer s H vs Q E hr h=>?_)
 ·obtain⟨_,_,_,_,rfl,_⟩:=h;rfl
 ·obtain⟨a,oe,v1,v2,rfl,ha,hc,hnc,hd,hq⟩:=h
  refine⟨_,(ae (sW (pv 0) (pv 1) rfl) (af (sX (pv 0) (pv 2) rfl))),?_⟩
  refine⟨v1,rfl,.ref a,rfl,a,C,oe,rfl,ha,hc,hnc,hd,Z,n1,fun d hd' ne=>⟨v2,rfl,.ref a,rfl,a,C,{oe with dict:=some d},d,[("pick",v1)],rfl,ak,hc,hnc,rfl,by rw[ah ne,ak],by show 1< 900;decide,Z,n2,?_⟩⟩
  show Q .non _
  rw[vY ne]
  exact hq d hd' ne
end
end Wb
namespace Wb
open PySem L2
section
variable {P:Program} {w:World} {K:PySem.W.Frag} {mg:Str→Option Value} {base:Heap}
theorem rq {f:Addr} {fd:FuncData} {ps:List Str} {k:Nat} :FnOk P w K mg base CX0 k f fd ps (ei K 0):=⟨fun _ _ _ _ h=>h.elim,fun _ _ _ _ _ _ _ _ _ _ _ _ _ h=>h.elim⟩
theorem kit {K:PySem.W.Frag} (a b:String) (r:Bool) (h:PySem.W.kitOne [] (.type a) (.type b)=some r):PySem.W.kitOne K (.type a) (.type b)=some r:=by first | exact h | (rw[←h];rfl)
theorem eU {c:TT} {t rest:TS} {D:Ends} {σ:St} {H:Hp} (h:∀Q:Bool→Hp→Prop,Q false H→c σ H Q) (k:rest D σ H):dU (gf c t aG) rest D σ H:=h _ k
theorem ku {c:TT} {t rest:TS} {D:Ends} {σ:St} {H:Hp} (h:∀Q:Bool→Hp→Prop,Q true H→c σ H Q) (k:t {D with nx:=rest D} σ H):dU (gf c t aG) rest D σ H:=h _ k
theorem pH {f:Addr} {fd:FuncData} (F:Fun K "_law_same" "_law_same" (tp 58) f fd) (h_len:mg "len" =none) (h_isinstance:mg "isinstance" =none) (h_bool:mg "bool" =none) (h_int:mg "int" =none) (h_str:mg "str" =none) (h_list:mg "list" =none) (h_tuple:mg "tuple" =none) (h_zip:mg "zip" =none) {n:Nat}
  (Z1d:Cal P w K mg base "_law_same" ["_law_found","_law_due_here"] n (ei K n)):FnOk P w K mg base CX0 (n+1) f fd ["_law_found","_law_due_here"] (ei K (n+1)):=by
 have SC:FnScope ["_law_found","_law_due_here","_law_one","_law_other"] ["_law_found","_law_due_here"] (defScope (tp 58)):=⟨rfl,rfl,rfl,by decide +kernel,rfl,by decide +kernel,by decide +kernel⟩
 refine F.ok SC (fun vs H Q E h=>?_) (fun cdv A outer s H vs Q E hr h=>?_)
 ·obtain⟨v,u,rfl,_⟩:=h;rfl
 ·obtain⟨v,u,rfl,h⟩:=h
  have hr:Room n _:=hr
  refine⟨_,(ae (bw (PW.pt (rM (aL (op_isN.or gC) (pv 1) kP (b9 _)) (rM (aL (op_isN.or gC) (pv 1) eK (b9 _)) (sv (aL (op_isN.or gC) (pv 1) eK (b9 _)))))) (af (aw (iV (fj cH (ai (bg (K:=K) rfl) (by rfl) h_isinstance PyProof.Rows.boot_isinstance (a8 (pv 0) (a8 (cv (v:=.ty "bool") (by rfl) h_bool PyProof.Rows.boot_bool rfl) ac))) (ai (bg (K:=K) rfl) (by rfl) h_isinstance PyProof.Rows.boot_isinstance (a8 (pv 1) (a8 (cv (v:=.ty "bool") (by rfl) h_bool PyProof.Rows.boot_bool rfl) ac))) (b9 _)) (kQ (fj cH (pv 0) (pv 1) (b9 _)))))) aK)
   (ae (bw (d0 (ai (bg (K:=K) rfl) (by rfl) h_isinstance PyProof.Rows.boot_isinstance (a8 (pv 1) (a8 (cv (v:=.ty "int") (by rfl) h_int PyProof.Rows.boot_int rfl) ac)))) (af (aw (iV (ai (bg (K:=K) rfl) (by rfl) h_isinstance PyProof.Rows.boot_isinstance (a8 (pv 0) (a8 (cv (v:=.ty "int") (by rfl) h_int PyProof.Rows.boot_int rfl) ac))) (iV (kR (ai (bg (K:=K) rfl) (by rfl) h_isinstance PyProof.Rows.boot_isinstance (a8 (pv 0) (a8 (cv (v:=.ty "bool") (by rfl) h_bool PyProof.Rows.boot_bool rfl) ac)))) (kQ (fj cH (pv 0) (pv 1) (b9 _))))))) aK)
   (ae (bw (d0 (ai (bg (K:=K) rfl) (by rfl) h_isinstance PyProof.Rows.boot_isinstance (a8 (pv 1) (a8 (cv (v:=.ty "str") (by rfl) h_str PyProof.Rows.boot_str rfl) ac)))) (af (aw (iV (ai (bg (K:=K) rfl) (by rfl) h_isinstance PyProof.Rows.boot_isinstance (a8 (pv 0) (a8 (cv (v:=.ty "str") (by rfl) h_str PyProof.Rows.boot_str rfl) ac))) (kQ (fj cH (pv 0) (pv 1) (b9 _)))))) aK)
   (ae (bw (PW.pt (fJ (d0 (ai (bg (K:=K) rfl) (by rfl) h_isinstance PyProof.Rows.boot_isinstance (a8 (pv 1) (a8 (cv (v:=.ty "list") (by rfl) h_list PyProof.Rows.boot_list rfl) ac)))) (fi (gz (d0 (ai (bg (K:=K) rfl) (by rfl) h_isinstance PyProof.Rows.boot_isinstance (a8 (pv 0) (a8 (cv (v:=.ty "list") (by rfl) h_list PyProof.Rows.boot_list rfl) ac)))))))) (af (aw eK)) aK)
   (ae (bw (PW.pt (fJ (d0 (ai (bg (K:=K) rfl) (by rfl) h_isinstance PyProof.Rows.boot_isinstance (a8 (pv 1) (a8 (cv (v:=.ty "tuple") (by rfl) h_tuple PyProof.Rows.boot_tuple rfl) ac)))) (fi (gz (d0 (ai (bg (K:=K) rfl) (by rfl) h_isinstance PyProof.Rows.boot_isinstance (a8 (pv 0) (a8 (cv (v:=.ty "tuple") (by rfl) h_tuple PyProof.Rows.boot_tuple rfl) ac)))))))) (af (aw eK)) aK)
   (ae (bw (aL fW (ai (bh (K:=K) rfl) (by rfl) h_len PySem.boot_len (a8 (pv 0) ac)) (ai (bh (K:=K) rfl) (by rfl) h_len PySem.boot_len (a8 (pv 1) ac)) (b9 _)) (af (aw eK)) aK)
   (ae (cM PassesOwn.never rfl (j9 (K:=K) rfl rfl h_zip (a8 (pv 0) (a8 (pv 1) ac))) (bF (K:=K) (n:=2) rfl rfl (ap (al (i:=2) SC.nd rfl (by first | exact Or.inl rfl | exact Or.inr rfl)) (ap (al (i:=3) SC.nd rfl (by first | exact Or.inl rfl | exact Or.inr rfl)) bA))) (af (bw (gz (d0 (ay Z1d hr (by rfl) (a8 (pv 2) (a8 (pv 3) ac))))) (af (aw eK)) aK)))
   (af (aw eK))))))))),?_⟩
  rcases h with⟨he,q⟩ | ⟨x,y,rfl,rfl,q⟩
  rotate_left
  ·refine eU (fun Q q=>?_) (eU (fun Q q=>?_) (ku (fun Q q=>?_) ?_))
   ·simp only[bX,bq,cB,bx,tC,db,aj,aX,bS,aG,bG,aN,bK,bc,bP,tB,em,rU,dA,rI,bN,bV,aU,bj,eF,cb,eI,ce,bv,bp,dY,br,aJ,dC,bn,aY,dN,er,eu,cf,ci,bU,bQ,cg,aF,aO,L2.start,List.map_cons,List.map_nil,List.cons_append,List.nil_append,List.append_nil,List.length_cons,List.length_nil,List.replicate,List.set_cons_zero,List.set_cons_succ,List.getElem?_cons_zero,List.getElem?_cons_succ,Option.some.injEq,exists_eq_left',exists_eq_left,exists_and_left,exists_eq',exists_const,V.int.injEq,V.bl.injEq,V.str.injEq,V.ref.injEq,V.ty.injEq,List.cons.injEq,and_true,true_and,reduceCtorEq,false_and,and_false,exists_false,or_false,false_or,decide_eq_true_eq,Bool.not_eq_true',decide_eq_false_iff_not,if_true,if_false,Bool.false_eq_true,ite_true,ite_false,Bool.not_true,Bool.not_false,Nat.reduceAdd,Nat.reduceSub,and_assoc];exact q
   ·simp only[bX,bq,cB,bx,tC,db,aj,aX,bS,aG,bG,aN,bK,bc,bP,tB,em,rU,dA,rI,bN,bV,aU,bj,eF,cb,eI,ce,bv,bp,dY,br,aJ,dC,bn,aY,dN,er,eu,cf,ci,bU,bQ,cg,aF,aO,L2.start,List.map_cons,List.map_nil,List.cons_append,List.nil_append,List.append_nil,List.length_cons,List.length_nil,List.replicate,List.set_cons_zero,List.set_cons_succ,List.getElem?_cons_zero,List.getElem?_cons_succ,Option.some.injEq,exists_eq_left',exists_eq_left,exists_and_left,exists_eq',exists_const,V.int.injEq,V.bl.injEq,V.str.injEq,V.ref.injEq,V.ty.injEq,List.cons.injEq,and_true,true_and,reduceCtorEq,false_and,and_false,exists_false,or_false,false_or,decide_eq_true_eq,Bool.not_eq_true',decide_eq_false_iff_not,if_true,if_false,Bool.false_eq_true,ite_true,ite_false,Bool.not_true,Bool.not_false,Nat.reduceAdd,Nat.reduceSub,and_assoc];exact⟨_,.str _,_,kit "str" "int" false rfl,q⟩
   ·simp only[bX,bq,cB,bx,tC,db,aj,aX,bS,aG,bG,aN,bK,bc,bP,tB,em,rU,dA,rI,bN,bV,aU,bj,eF,cb,eI,ce,bv,bp,dY,br,aJ,dC,bn,aY,dN,er,eu,cf,ci,bU,bQ,cg,aF,aO,L2.start,List.map_cons,List.map_nil,List.cons_append,List.nil_append,List.append_nil,List.length_cons,List.length_nil,List.replicate,List.set_cons_zero,List.set_cons_succ,List.getElem?_cons_zero,List.getElem?_cons_succ,Option.some.injEq,exists_eq_left',exists_eq_left,exists_and_left,exists_eq',exists_const,V.int.injEq,V.bl.injEq,V.str.injEq,V.ref.injEq,V.ty.injEq,List.cons.injEq,and_true,true_and,reduceCtorEq,false_and,and_false,exists_false,or_false,false_or,decide_eq_true_eq,Bool.not_eq_true',decide_eq_false_iff_not,if_true,if_false,Bool.false_eq_true,ite_true,ite_false,Bool.not_true,Bool.not_false,Nat.reduceAdd,Nat.reduceSub,and_assoc];exact⟨_,.str _,_,kit "str" "str" true rfl,q⟩
   ·simp only[bX,bq,cB,bx,tC,db,aj,aX,bS,aG,bG,aN,bK,bc,bP,tB,em,rU,dA,rI,bN,bV,aU,bj,eF,cb,eI,ce,bv,bp,dY,br,aJ,dC,bn,aY,dN,er,eu,cf,ci,bU,bQ,cg,aF,aO,L2.start,List.map_cons,List.map_nil,List.cons_append,List.nil_append,List.append_nil,List.length_cons,List.length_nil,List.replicate,List.set_cons_zero,List.set_cons_succ,List.getElem?_cons_zero,List.getElem?_cons_succ,Option.some.injEq,exists_eq_left',exists_eq_left,exists_and_left,exists_eq',exists_const,V.int.injEq,V.bl.injEq,V.str.injEq,V.ref.injEq,V.ty.injEq,List.cons.injEq,and_true,true_and,reduceCtorEq,false_and,and_false,exists_false,or_false,false_or,decide_eq_true_eq,Bool.not_eq_true',decide_eq_false_iff_not,if_true,if_false,Bool.false_eq_true,ite_true,ite_false,Bool.not_true,Bool.not_false,Nat.reduceAdd,Nat.reduceSub,and_assoc]
    refine⟨_,.str _,_,kit "str" "str" true rfl,?_⟩
    simp only[bX,bq,cB,bx,tC,db,aj,aX,bS,aG,bG,aN,bK,bc,bP,tB,em,rU,dA,rI,bN,bV,aU,bj,eF,cb,eI,ce,bv,bp,dY,br,aJ,dC,bn,aY,dN,er,eu,cf,ci,bU,bQ,cg,aF,aO,L2.start,List.map_cons,List.map_nil,List.cons_append,List.nil_append,List.append_nil,List.length_cons,List.length_nil,List.replicate,List.set_cons_zero,List.set_cons_succ,List.getElem?_cons_zero,List.getElem?_cons_succ,Option.some.injEq,exists_eq_left',exists_eq_left,exists_and_left,exists_eq',exists_const,V.int.injEq,V.bl.injEq,V.str.injEq,V.ref.injEq,V.ty.injEq,List.cons.injEq,and_true,true_and,reduceCtorEq,false_and,and_false,exists_false,or_false,false_or,decide_eq_true_eq,Bool.not_eq_true',decide_eq_false_iff_not,if_true,if_false,Bool.false_eq_true,ite_true,ite_false,Bool.not_true,Bool.not_false,Nat.reduceAdd,Nat.reduceSub,and_assoc]
    simpa using q
  have fl:∀v,L2.flat v=true→(∀H',Same H H'→Q (.bl true) H')→(v=.non∨(∃b,v=.bl b)∨(∃i,v=.int i)∨∃x,v=.str x):=fun v hv _=>by
   cases v with
   | non=>exact .inl rfl
   | bl b=>exact .inr (.inl ⟨b,rfl⟩)
   | int b=>exact .inr (.inr (.inl ⟨b,rfl⟩))
   | str b=>exact .inr (.inr (.inr ⟨b,rfl⟩))
   | _=>cases hv
  have he':(v=u∧L2.flat v=true)∨∃m p q xs ys,n=m+1∧v=.ref p∧u=.ref q∧((H p=some (.lst xs)∧H q=some (.lst ys))∨(SqT K H p xs∧SqT K H q ys))∧xs.length=ys.length∧∀(i:Nat) (x y:V),xs[i]? =some x→ys[i]? =some y→EqK K H m x y:=by
   cases n with
   | zero=>exact .inl he
   | succ m=>rcases he with z | ⟨p,q,xs,ys,z⟩;exact .inl z;exact .inr ⟨m,p,q,xs,ys,rfl,z⟩
  rcases he' with⟨rfl,hf⟩ | ⟨m,p,q',xs,ys,hnm,rfl,rfl,hk,hl,hi⟩
  ·rcases fl v hf q with rfl | ⟨b,rfl⟩ | ⟨i,rfl⟩ | ⟨x,rfl⟩
   ·refine ku (fun Q q=>?_) ?_
    ·simp only[bX,bq,cB,bx,tC,db,aj,aX,bS,aG,bG,aN,bK,bc,bP,tB,em,rU,dA,rI,bN,bV,aU,bj,eF,cb,eI,ce,bv,bp,dY,br,aJ,dC,bn,aY,dN,er,eu,cf,ci,bU,bQ,cg,aF,aO,L2.start,List.map_cons,List.map_nil,List.cons_append,List.nil_append,List.append_nil,List.length_cons,List.length_nil,List.replicate,List.set_cons_zero,List.set_cons_succ,List.getElem?_cons_zero,List.getElem?_cons_succ,Option.some.injEq,exists_eq_left',exists_eq_left,exists_and_left,exists_eq',exists_const,V.int.injEq,V.bl.injEq,V.str.injEq,V.ref.injEq,V.ty.injEq,List.cons.injEq,and_true,true_and,reduceCtorEq,false_and,and_false,exists_false,or_false,false_or,decide_eq_true_eq,Bool.not_eq_true',decide_eq_false_iff_not,if_true,if_false,Bool.false_eq_true,ite_true,ite_false,Bool.not_true,Bool.not_false,Nat.reduceAdd,Nat.reduceSub,and_assoc];exact q
    ·simp only[bX,bq,cB,bx,tC,db,aj,aX,bS,aG,bG,aN,bK,bc,bP,tB,em,rU,dA,rI,bN,bV,aU,bj,eF,cb,eI,ce,bv,bp,dY,br,aJ,dC,bn,aY,dN,er,eu,cf,ci,bU,bQ,cg,aF,aO,L2.start,List.map_cons,List.map_nil,List.cons_append,List.nil_append,List.append_nil,List.length_cons,List.length_nil,List.replicate,List.set_cons_zero,List.set_cons_succ,List.getElem?_cons_zero,List.getElem?_cons_succ,Option.some.injEq,exists_eq_left',exists_eq_left,exists_and_left,exists_eq',exists_const,V.int.injEq,V.bl.injEq,V.str.injEq,V.ref.injEq,V.ty.injEq,List.cons.injEq,and_true,true_and,reduceCtorEq,false_and,and_false,exists_false,or_false,false_or,decide_eq_true_eq,Bool.not_eq_true',decide_eq_false_iff_not,if_true,if_false,Bool.false_eq_true,ite_true,ite_false,Bool.not_true,Bool.not_false,Nat.reduceAdd,Nat.reduceSub,and_assoc]
     refine⟨_,.non,_,kit "NoneType" "bool" false rfl,_,.non,_,kit "NoneType" "bool" false rfl,?_⟩
     simp only[bX,bq,cB,bx,tC,db,aj,aX,bS,aG,bG,aN,bK,bc,bP,tB,em,rU,dA,rI,bN,bV,aU,bj,eF,cb,eI,ce,bv,bp,dY,br,aJ,dC,bn,aY,dN,er,eu,cf,ci,bU,bQ,cg,aF,aO,L2.start,List.map_cons,List.map_nil,List.cons_append,List.nil_append,List.append_nil,List.length_cons,List.length_nil,List.replicate,List.set_cons_zero,List.set_cons_succ,List.getElem?_cons_zero,List.getElem?_cons_succ,Option.some.injEq,exists_eq_left',exists_eq_left,exists_and_left,exists_eq',exists_const,V.int.injEq,V.bl.injEq,V.str.injEq,V.ref.injEq,V.ty.injEq,List.cons.injEq,and_true,true_and,reduceCtorEq,false_and,and_false,exists_false,or_false,false_or,decide_eq_true_eq,Bool.not_eq_true',decide_eq_false_iff_not,if_true,if_false,Bool.false_eq_true,ite_true,ite_false,Bool.not_true,Bool.not_false,Nat.reduceAdd,Nat.reduceSub,and_assoc]
     exact q H (.refl H)
   ·refine ku (fun Q q=>?_) ?_
    ·cases b <;> simp only[bX,bq,cB,bx,tC,db,aj,aX,bS,aG,bG,aN,bK,bc,bP,tB,em,rU,dA,rI,bN,bV,aU,bj,eF,cb,eI,ce,bv,bp,dY,br,aJ,dC,bn,aY,dN,er,eu,cf,ci,bU,bQ,cg,aF,aO,L2.start,List.map_cons,List.map_nil,List.cons_append,List.nil_append,List.append_nil,List.length_cons,List.length_nil,List.replicate,List.set_cons_zero,List.set_cons_succ,List.getElem?_cons_zero,List.getElem?_cons_succ,Option.some.injEq,exists_eq_left',exists_eq_left,exists_and_left,exists_eq',exists_const,V.int.injEq,V.bl.injEq,V.str.injEq,V.ref.injEq,V.ty.injEq,List.cons.injEq,and_true,true_and,reduceCtorEq,false_and,and_false,exists_false,or_false,false_or,decide_eq_true_eq,Bool.not_eq_true',decide_eq_false_iff_not,if_true,if_false,Bool.false_eq_true,ite_true,ite_false,Bool.not_true,Bool.not_false,Nat.reduceAdd,Nat.reduceSub,and_assoc] <;> exact q
    ·simp only[bX,bq,cB,bx,tC,db,aj,aX,bS,aG,bG,aN,bK,bc,bP,tB,em,rU,dA,rI,bN,bV,aU,bj,eF,cb,eI,ce,bv,bp,dY,br,aJ,dC,bn,aY,dN,er,eu,cf,ci,bU,bQ,cg,aF,aO,L2.start,List.map_cons,List.map_nil,List.cons_append,List.nil_append,List.append_nil,List.length_cons,List.length_nil,List.replicate,List.set_cons_zero,List.set_cons_succ,List.getElem?_cons_zero,List.getElem?_cons_succ,Option.some.injEq,exists_eq_left',exists_eq_left,exists_and_left,exists_eq',exists_const,V.int.injEq,V.bl.injEq,V.str.injEq,V.ref.injEq,V.ty.injEq,List.cons.injEq,and_true,true_and,reduceCtorEq,false_and,and_false,exists_false,or_false,false_or,decide_eq_true_eq,Bool.not_eq_true',decide_eq_false_iff_not,if_true,if_false,Bool.false_eq_true,ite_true,ite_false,Bool.not_true,Bool.not_false,Nat.reduceAdd,Nat.reduceSub,and_assoc]
     refine⟨_,.bl _,_,kit "bool" "bool" true rfl,_,.bl _,_,kit "bool" "bool" true rfl,?_⟩
     simp only[bX,bq,cB,bx,tC,db,aj,aX,bS,aG,bG,aN,bK,bc,bP,tB,em,rU,dA,rI,bN,bV,aU,bj,eF,cb,eI,ce,bv,bp,dY,br,aJ,dC,bn,aY,dN,er,eu,cf,ci,bU,bQ,cg,aF,aO,L2.start,List.map_cons,List.map_nil,List.cons_append,List.nil_append,List.append_nil,List.length_cons,List.length_nil,List.replicate,List.set_cons_zero,List.set_cons_succ,List.getElem?_cons_zero,List.getElem?_cons_succ,Option.some.injEq,exists_eq_left',exists_eq_left,exists_and_left,exists_eq',exists_const,V.int.injEq,V.bl.injEq,V.str.injEq,V.ref.injEq,V.ty.injEq,List.cons.injEq,and_true,true_and,reduceCtorEq,false_and,and_false,exists_false,or_false,false_or,decide_eq_true_eq,Bool.not_eq_true',decide_eq_false_iff_not,if_true,if_false,Bool.false_eq_true,ite_true,ite_false,Bool.not_true,Bool.not_false,Nat.reduceAdd,Nat.reduceSub,and_assoc]
     exact q H (.refl H)
   ·refine eU (fun Q q=>?_) (ku (fun Q q=>?_) ?_)
    ·simp only[bX,bq,cB,bx,tC,db,aj,aX,bS,aG,bG,aN,bK,bc,bP,tB,em,rU,dA,rI,bN,bV,aU,bj,eF,cb,eI,ce,bv,bp,dY,br,aJ,dC,bn,aY,dN,er,eu,cf,ci,bU,bQ,cg,aF,aO,L2.start,List.map_cons,List.map_nil,List.cons_append,List.nil_append,List.append_nil,List.length_cons,List.length_nil,List.replicate,List.set_cons_zero,List.set_cons_succ,List.getElem?_cons_zero,List.getElem?_cons_succ,Option.some.injEq,exists_eq_left',exists_eq_left,exists_and_left,exists_eq',exists_const,V.int.injEq,V.bl.injEq,V.str.injEq,V.ref.injEq,V.ty.injEq,List.cons.injEq,and_true,true_and,reduceCtorEq,false_and,and_false,exists_false,or_false,false_or,decide_eq_true_eq,Bool.not_eq_true',decide_eq_false_iff_not,if_true,if_false,Bool.false_eq_true,ite_true,ite_false,Bool.not_true,Bool.not_false,Nat.reduceAdd,Nat.reduceSub,and_assoc];exact q
    ·simp only[bX,bq,cB,bx,tC,db,aj,aX,bS,aG,bG,aN,bK,bc,bP,tB,em,rU,dA,rI,bN,bV,aU,bj,eF,cb,eI,ce,bv,bp,dY,br,aJ,dC,bn,aY,dN,er,eu,cf,ci,bU,bQ,cg,aF,aO,L2.start,List.map_cons,List.map_nil,List.cons_append,List.nil_append,List.append_nil,List.length_cons,List.length_nil,List.replicate,List.set_cons_zero,List.set_cons_succ,List.getElem?_cons_zero,List.getElem?_cons_succ,Option.some.injEq,exists_eq_left',exists_eq_left,exists_and_left,exists_eq',exists_const,V.int.injEq,V.bl.injEq,V.str.injEq,V.ref.injEq,V.ty.injEq,List.cons.injEq,and_true,true_and,reduceCtorEq,false_and,and_false,exists_false,or_false,false_or,decide_eq_true_eq,Bool.not_eq_true',decide_eq_false_iff_not,if_true,if_false,Bool.false_eq_true,ite_true,ite_false,Bool.not_true,Bool.not_false,Nat.reduceAdd,Nat.reduceSub,and_assoc];exact⟨_,.int _,_,kit "int" "int" true rfl,q⟩
    ·simp only[bX,bq,cB,bx,tC,db,aj,aX,bS,aG,bG,aN,bK,bc,bP,tB,em,rU,dA,rI,bN,bV,aU,bj,eF,cb,eI,ce,bv,bp,dY,br,aJ,dC,bn,aY,dN,er,eu,cf,ci,bU,bQ,cg,aF,aO,L2.start,List.map_cons,List.map_nil,List.cons_append,List.nil_append,List.append_nil,List.length_cons,List.length_nil,List.replicate,List.set_cons_zero,List.set_cons_succ,List.getElem?_cons_zero,List.getElem?_cons_succ,Option.some.injEq,exists_eq_left',exists_eq_left,exists_and_left,exists_eq',exists_const,V.int.injEq,V.bl.injEq,V.str.injEq,V.ref.injEq,V.ty.injEq,List.cons.injEq,and_true,true_and,reduceCtorEq,false_and,and_false,exists_false,or_false,false_or,decide_eq_true_eq,Bool.not_eq_true',decide_eq_false_iff_not,if_true,if_false,Bool.false_eq_true,ite_true,ite_false,Bool.not_true,Bool.not_false,Nat.reduceAdd,Nat.reduceSub,and_assoc]
     refine⟨_,.int _,_,kit "int" "int" true rfl,?_⟩
     simp only[bX,bq,cB,bx,tC,db,aj,aX,bS,aG,bG,aN,bK,bc,bP,tB,em,rU,dA,rI,bN,bV,aU,bj,eF,cb,eI,ce,bv,bp,dY,br,aJ,dC,bn,aY,dN,er,eu,cf,ci,bU,bQ,cg,aF,aO,L2.start,List.map_cons,List.map_nil,List.cons_append,List.nil_append,List.append_nil,List.length_cons,List.length_nil,List.replicate,List.set_cons_zero,List.set_cons_succ,List.getElem?_cons_zero,List.getElem?_cons_succ,Option.some.injEq,exists_eq_left',exists_eq_left,exists_and_left,exists_eq',exists_const,V.int.injEq,V.bl.injEq,V.str.injEq,V.ref.injEq,V.ty.injEq,List.cons.injEq,and_true,true_and,reduceCtorEq,false_and,and_false,exists_false,or_false,false_or,decide_eq_true_eq,Bool.not_eq_true',decide_eq_false_iff_not,if_true,if_false,Bool.false_eq_true,ite_true,ite_false,Bool.not_true,Bool.not_false,Nat.reduceAdd,Nat.reduceSub,and_assoc]
     refine⟨_,.int _,_,kit "int" "bool" false rfl,?_⟩
     simp only[bX,bq,cB,bx,tC,db,aj,aX,bS,aG,bG,aN,bK,bc,bP,tB,em,rU,dA,rI,bN,bV,aU,bj,eF,cb,eI,ce,bv,bp,dY,br,aJ,dC,bn,aY,dN,er,eu,cf,ci,bU,bQ,cg,aF,aO,L2.start,List.map_cons,List.map_nil,List.cons_append,List.nil_append,List.append_nil,List.length_cons,List.length_nil,List.replicate,List.set_cons_zero,List.set_cons_succ,List.getElem?_cons_zero,List.getElem?_cons_succ,Option.some.injEq,exists_eq_left',exists_eq_left,exists_and_left,exists_eq',exists_const,V.int.injEq,V.bl.injEq,V.str.injEq,V.ref.injEq,V.ty.injEq,List.cons.injEq,and_true,true_and,reduceCtorEq,false_and,and_false,exists_false,or_false,false_or,decide_eq_true_eq,Bool.not_eq_true',decide_eq_false_iff_not,if_true,if_false,Bool.false_eq_true,ite_true,ite_false,Bool.not_true,Bool.not_false,Nat.reduceAdd,Nat.reduceSub,and_assoc]
     exact q H (.refl H)
   ·refine eU (fun Q q=>?_) (eU (fun Q q=>?_) (ku (fun Q q=>?_) ?_))
    ·simp only[bX,bq,cB,bx,tC,db,aj,aX,bS,aG,bG,aN,bK,bc,bP,tB,em,rU,dA,rI,bN,bV,aU,bj,eF,cb,eI,ce,bv,bp,dY,br,aJ,dC,bn,aY,dN,er,eu,cf,ci,bU,bQ,cg,aF,aO,L2.start,List.map_cons,List.map_nil,List.cons_append,List.nil_append,List.append_nil,List.length_cons,List.length_nil,List.replicate,List.set_cons_zero,List.set_cons_succ,List.getElem?_cons_zero,List.getElem?_cons_succ,Option.some.injEq,exists_eq_left',exists_eq_left,exists_and_left,exists_eq',exists_const,V.int.injEq,V.bl.injEq,V.str.injEq,V.ref.injEq,V.ty.injEq,List.cons.injEq,and_true,true_and,reduceCtorEq,false_and,and_false,exists_false,or_false,false_or,decide_eq_true_eq,Bool.not_eq_true',decide_eq_false_iff_not,if_true,if_false,Bool.false_eq_true,ite_true,ite_false,Bool.not_true,Bool.not_false,Nat.reduceAdd,Nat.reduceSub,and_assoc];exact q
    ·simp only[bX,bq,cB,bx,tC,db,aj,aX,bS,aG,bG,aN,bK,bc,bP,tB,em,rU,dA,rI,bN,bV,aU,bj,eF,cb,eI,ce,bv,bp,dY,br,aJ,dC,bn,aY,dN,er,eu,cf,ci,bU,bQ,cg,aF,aO,L2.start,List.map_cons,List.map_nil,List.cons_append,List.nil_append,List.append_nil,List.length_cons,List.length_nil,List.replicate,List.set_cons_zero,List.set_cons_succ,List.getElem?_cons_zero,List.getElem?_cons_succ,Option.some.injEq,exists_eq_left',exists_eq_left,exists_and_left,exists_eq',exists_const,V.int.injEq,V.bl.injEq,V.str.injEq,V.ref.injEq,V.ty.injEq,List.cons.injEq,and_true,true_and,reduceCtorEq,false_and,and_false,exists_false,or_false,false_or,decide_eq_true_eq,Bool.not_eq_true',decide_eq_false_iff_not,if_true,if_false,Bool.false_eq_true,ite_true,ite_false,Bool.not_true,Bool.not_false,Nat.reduceAdd,Nat.reduceSub,and_assoc];exact⟨_,.str _,_,kit "str" "int" false rfl,q⟩
    ·simp only[bX,bq,cB,bx,tC,db,aj,aX,bS,aG,bG,aN,bK,bc,bP,tB,em,rU,dA,rI,bN,bV,aU,bj,eF,cb,eI,ce,bv,bp,dY,br,aJ,dC,bn,aY,dN,er,eu,cf,ci,bU,bQ,cg,aF,aO,L2.start,List.map_cons,List.map_nil,List.cons_append,List.nil_append,List.append_nil,List.length_cons,List.length_nil,List.replicate,List.set_cons_zero,List.set_cons_succ,List.getElem?_cons_zero,List.getElem?_cons_succ,Option.some.injEq,exists_eq_left',exists_eq_left,exists_and_left,exists_eq',exists_const,V.int.injEq,V.bl.injEq,V.str.injEq,V.ref.injEq,V.ty.injEq,List.cons.injEq,and_true,true_and,reduceCtorEq,false_and,and_false,exists_false,or_false,false_or,decide_eq_true_eq,Bool.not_eq_true',decide_eq_false_iff_not,if_true,if_false,Bool.false_eq_true,ite_true,ite_false,Bool.not_true,Bool.not_false,Nat.reduceAdd,Nat.reduceSub,and_assoc];exact⟨_,.str _,_,kit "str" "str" true rfl,q⟩
    ·simp only[bX,bq,cB,bx,tC,db,aj,aX,bS,aG,bG,aN,bK,bc,bP,tB,em,rU,dA,rI,bN,bV,aU,bj,eF,cb,eI,ce,bv,bp,dY,br,aJ,dC,bn,aY,dN,er,eu,cf,ci,bU,bQ,cg,aF,aO,L2.start,List.map_cons,List.map_nil,List.cons_append,List.nil_append,List.append_nil,List.length_cons,List.length_nil,List.replicate,List.set_cons_zero,List.set_cons_succ,List.getElem?_cons_zero,List.getElem?_cons_succ,Option.some.injEq,exists_eq_left',exists_eq_left,exists_and_left,exists_eq',exists_const,V.int.injEq,V.bl.injEq,V.str.injEq,V.ref.injEq,V.ty.injEq,List.cons.injEq,and_true,true_and,reduceCtorEq,false_and,and_false,exists_false,or_false,false_or,decide_eq_true_eq,Bool.not_eq_true',decide_eq_false_iff_not,if_true,if_false,Bool.false_eq_true,ite_true,ite_false,Bool.not_true,Bool.not_false,Nat.reduceAdd,Nat.reduceSub,and_assoc]
     refine⟨_,.str _,_,kit "str" "str" true rfl,?_⟩
     simp only[bX,bq,cB,bx,tC,db,aj,aX,bS,aG,bG,aN,bK,bc,bP,tB,em,rU,dA,rI,bN,bV,aU,bj,eF,cb,eI,ce,bv,bp,dY,br,aJ,dC,bn,aY,dN,er,eu,cf,ci,bU,bQ,cg,aF,aO,L2.start,List.map_cons,List.map_nil,List.cons_append,List.nil_append,List.append_nil,List.length_cons,List.length_nil,List.replicate,List.set_cons_zero,List.set_cons_succ,List.getElem?_cons_zero,List.getElem?_cons_succ,Option.some.injEq,exists_eq_left',exists_eq_left,exists_and_left,exists_eq',exists_const,V.int.injEq,V.bl.injEq,V.str.injEq,V.ref.injEq,V.ty.injEq,List.cons.injEq,and_true,true_and,reduceCtorEq,false_and,and_false,exists_false,or_false,false_or,decide_eq_true_eq,Bool.not_eq_true',decide_eq_false_iff_not,if_true,if_false,Bool.false_eq_true,ite_true,ite_false,Bool.not_true,Bool.not_false,Nat.reduceAdd,Nat.reduceSub,and_assoc]
     exact q H (.refl H)
  ·subst hnm
   obtain⟨T,tp1,tp2,tl,src1,src2,h1,h2,e1,e2⟩:∃(T:String) (tp1:TyOf K H (.ref p) (.type T)) (tp2:TyOf K H (.ref q') (.type T)) (tl:(T="list" ∧SqL K H p xs∧SqL K H q' ys)∨(T="tuple" ∧SqT K H p xs∧SqT K H q' ys)) (src1 src2:Src),(∀H',Same H H'→src1.has K H' xs)∧(∀H',Same H H'→src2.has K H' ys)∧src1.val=.ref p∧src2.val=.ref q':=by
    rcases hk with⟨a,b⟩ | ⟨a,b⟩
    ·exact⟨"list",.lst a,.lst b,.inl ⟨rfl,SqL.of a,SqL.of b⟩,.lst p,.lst q',fun H' e=>SqL.of (e _ _ a),fun H' e=>SqL.of (e _ _ b),rfl,rfl⟩
    ·exact⟨"tuple",.tup a,.tup b,.inr ⟨rfl,a,b⟩,.tup p,.tup q',fun H' e=>Same.tup e a,fun H' e=>Same.tup e b,rfl,rfl⟩
   have hi0:PySem.W.kitOne K (.type T) (.type "int")=some false:=by rcases tl with⟨rfl,_⟩ | ⟨rfl,_⟩;exact kit _ _ _ rfl;exact kit _ _ _ rfl
   have hs0:PySem.W.kitOne K (.type T) (.type "str")=some false:=by rcases tl with⟨rfl,_⟩ | ⟨rfl,_⟩;exact kit _ _ _ rfl;exact kit _ _ _ rfl
   obtain⟨bl,hl0,hl1⟩:∃bl,PySem.W.kitOne K (.type T) (.type "list")=some bl∧PySem.W.kitOne K (.type T) (.type "tuple")=some (!bl):=by rcases tl with⟨rfl,_⟩ | ⟨rfl,_⟩;exact⟨true,kit _ _ _ rfl,kit _ _ _ rfl⟩;exact⟨false,kit _ _ _ rfl,kit _ _ _ rfl⟩
   have ln1:kT K (.ref p) H xs.length:=by rcases tl with⟨_,t1,_⟩ | ⟨_,t1,_⟩;exact .inl ⟨_,t1,rfl⟩;exact .inr ⟨_,t1,rfl⟩
   have ln2:kT K (.ref q') H ys.length:=by rcases tl with⟨_,_,t2⟩ | ⟨_,_,t2⟩;exact .inl ⟨_,t2,rfl⟩;exact .inr ⟨_,t2,rfl⟩
   refine eU (fun Q q=>?_) (eU (fun Q q=>?_) (eU (fun Q q=>?_) (eU (fun Q q=>?_) (eU (fun Q q=>?_) (eU (fun Q q=>?_) ?_)))))
   ·simp only[bX,bq,cB,bx,tC,db,aj,aX,bS,aG,bG,aN,bK,bc,bP,tB,em,rU,dA,rI,bN,bV,aU,bj,eF,cb,eI,ce,bv,bp,dY,br,aJ,dC,bn,aY,dN,er,eu,cf,ci,bU,bQ,cg,aF,aO,L2.start,List.map_cons,List.map_nil,List.cons_append,List.nil_append,List.append_nil,List.length_cons,List.length_nil,List.replicate,List.set_cons_zero,List.set_cons_succ,List.getElem?_cons_zero,List.getElem?_cons_succ,Option.some.injEq,exists_eq_left',exists_eq_left,exists_and_left,exists_eq',exists_const,V.int.injEq,V.bl.injEq,V.str.injEq,V.ref.injEq,V.ty.injEq,List.cons.injEq,and_true,true_and,reduceCtorEq,false_and,and_false,exists_false,or_false,false_or,decide_eq_true_eq,Bool.not_eq_true',decide_eq_false_iff_not,if_true,if_false,Bool.false_eq_true,ite_true,ite_false,Bool.not_true,Bool.not_false,Nat.reduceAdd,Nat.reduceSub,and_assoc];exact q
   ·simp only[bX,bq,cB,bx,tC,db,aj,aX,bS,aG,bG,aN,bK,bc,bP,tB,em,rU,dA,rI,bN,bV,aU,bj,eF,cb,eI,ce,bv,bp,dY,br,aJ,dC,bn,aY,dN,er,eu,cf,ci,bU,bQ,cg,aF,aO,L2.start,List.map_cons,List.map_nil,List.cons_append,List.nil_append,List.append_nil,List.length_cons,List.length_nil,List.replicate,List.set_cons_zero,List.set_cons_succ,List.getElem?_cons_zero,List.getElem?_cons_succ,Option.some.injEq,exists_eq_left',exists_eq_left,exists_and_left,exists_eq',exists_const,V.int.injEq,V.bl.injEq,V.str.injEq,V.ref.injEq,V.ty.injEq,List.cons.injEq,and_true,true_and,reduceCtorEq,false_and,and_false,exists_false,or_false,false_or,decide_eq_true_eq,Bool.not_eq_true',decide_eq_false_iff_not,if_true,if_false,Bool.false_eq_true,ite_true,ite_false,Bool.not_true,Bool.not_false,Nat.reduceAdd,Nat.reduceSub,and_assoc];exact⟨_,tp2,_,hi0,q⟩
   ·simp only[bX,bq,cB,bx,tC,db,aj,aX,bS,aG,bG,aN,bK,bc,bP,tB,em,rU,dA,rI,bN,bV,aU,bj,eF,cb,eI,ce,bv,bp,dY,br,aJ,dC,bn,aY,dN,er,eu,cf,ci,bU,bQ,cg,aF,aO,L2.start,List.map_cons,List.map_nil,List.cons_append,List.nil_append,List.append_nil,List.length_cons,List.length_nil,List.replicate,List.set_cons_zero,List.set_cons_succ,List.getElem?_cons_zero,List.getElem?_cons_succ,Option.some.injEq,exists_eq_left',exists_eq_left,exists_and_left,exists_eq',exists_const,V.int.injEq,V.bl.injEq,V.str.injEq,V.ref.injEq,V.ty.injEq,List.cons.injEq,and_true,true_and,reduceCtorEq,false_and,and_false,exists_false,or_false,false_or,decide_eq_true_eq,Bool.not_eq_true',decide_eq_false_iff_not,if_true,if_false,Bool.false_eq_true,ite_true,ite_false,Bool.not_true,Bool.not_false,Nat.reduceAdd,Nat.reduceSub,and_assoc];exact⟨_,tp2,_,hs0,q⟩
   ·simp only[bX,bq,cB,bx,tC,db,aj,aX,bS,aG,bG,aN,bK,bc,bP,tB,em,rU,dA,rI,bN,bV,aU,bj,eF,cb,eI,ce,bv,bp,dY,br,aJ,dC,bn,aY,dN,er,eu,cf,ci,bU,bQ,cg,aF,aO,L2.start,List.map_cons,List.map_nil,List.cons_append,List.nil_append,List.append_nil,List.length_cons,List.length_nil,List.replicate,List.set_cons_zero,List.set_cons_succ,List.getElem?_cons_zero,List.getElem?_cons_succ,Option.some.injEq,exists_eq_left',exists_eq_left,exists_and_left,exists_eq',exists_const,V.int.injEq,V.bl.injEq,V.str.injEq,V.ref.injEq,V.ty.injEq,List.cons.injEq,and_true,true_and,reduceCtorEq,false_and,and_false,exists_false,or_false,false_or,decide_eq_true_eq,Bool.not_eq_true',decide_eq_false_iff_not,if_true,if_false,Bool.false_eq_true,ite_true,ite_false,Bool.not_true,Bool.not_false,Nat.reduceAdd,Nat.reduceSub,and_assoc]
    refine⟨_,tp2,_,hl0,?_⟩
    cases bl with
    | false=>exact q
    | true=>simp only[bX,bq,cB,bx,tC,db,aj,aX,bS,aG,bG,aN,bK,bc,bP,tB,em,rU,dA,rI,bN,bV,aU,bj,eF,cb,eI,ce,bv,bp,dY,br,aJ,dC,bn,aY,dN,er,eu,cf,ci,bU,bQ,cg,aF,aO,L2.start,List.map_cons,List.map_nil,List.cons_append,List.nil_append,List.append_nil,List.length_cons,List.length_nil,List.replicate,List.set_cons_zero,List.set_cons_succ,List.getElem?_cons_zero,List.getElem?_cons_succ,Option.some.injEq,exists_eq_left',exists_eq_left,exists_and_left,exists_eq',exists_const,V.int.injEq,V.bl.injEq,V.str.injEq,V.ref.injEq,V.ty.injEq,List.cons.injEq,and_true,true_and,reduceCtorEq,false_and,and_false,exists_false,or_false,false_or,decide_eq_true_eq,Bool.not_eq_true',decide_eq_false_iff_not,if_true,if_false,Bool.false_eq_true,ite_true,ite_false,Bool.not_true,Bool.not_false,Nat.reduceAdd,Nat.reduceSub,and_assoc];exact⟨_,tp1,_,hl0,q⟩
   ·simp only[bX,bq,cB,bx,tC,db,aj,aX,bS,aG,bG,aN,bK,bc,bP,tB,em,rU,dA,rI,bN,bV,aU,bj,eF,cb,eI,ce,bv,bp,dY,br,aJ,dC,bn,aY,dN,er,eu,cf,ci,bU,bQ,cg,aF,aO,L2.start,List.map_cons,List.map_nil,List.cons_append,List.nil_append,List.append_nil,List.length_cons,List.length_nil,List.replicate,List.set_cons_zero,List.set_cons_succ,List.getElem?_cons_zero,List.getElem?_cons_succ,Option.some.injEq,exists_eq_left',exists_eq_left,exists_and_left,exists_eq',exists_const,V.int.injEq,V.bl.injEq,V.str.injEq,V.ref.injEq,V.ty.injEq,List.cons.injEq,and_true,true_and,reduceCtorEq,false_and,and_false,exists_false,or_false,false_or,decide_eq_true_eq,Bool.not_eq_true',decide_eq_false_iff_not,if_true,if_false,Bool.false_eq_true,ite_true,ite_false,Bool.not_true,Bool.not_false,Nat.reduceAdd,Nat.reduceSub,and_assoc]
    refine⟨_,tp2,_,hl1,?_⟩
    cases bl with
    | true=>exact q
    | false=>simp only[bX,bq,cB,bx,tC,db,aj,aX,bS,aG,bG,aN,bK,bc,bP,tB,em,rU,dA,rI,bN,bV,aU,bj,eF,cb,eI,ce,bv,bp,dY,br,aJ,dC,bn,aY,dN,er,eu,cf,ci,bU,bQ,cg,aF,aO,L2.start,List.map_cons,List.map_nil,List.cons_append,List.nil_append,List.append_nil,List.length_cons,List.length_nil,List.replicate,List.set_cons_zero,List.set_cons_succ,List.getElem?_cons_zero,List.getElem?_cons_succ,Option.some.injEq,exists_eq_left',exists_eq_left,exists_and_left,exists_eq',exists_const,V.int.injEq,V.bl.injEq,V.str.injEq,V.ref.injEq,V.ty.injEq,List.cons.injEq,and_true,true_and,reduceCtorEq,false_and,and_false,exists_false,or_false,false_or,decide_eq_true_eq,Bool.not_eq_true',decide_eq_false_iff_not,if_true,if_false,Bool.false_eq_true,ite_true,ite_false,Bool.not_true,Bool.not_false,Nat.reduceAdd,Nat.reduceSub,and_assoc];exact⟨_,tp1,_,hl1,q⟩
   ·simp only[bX,bq,cB,bx,tC,db,aj,aX,bS,aG,bG,aN,bK,bc,bP,tB,em,rU,dA,rI,bN,bV,aU,bj,eF,cb,eI,ce,bv,bp,dY,br,aJ,dC,bn,aY,dN,er,eu,cf,ci,bU,bQ,cg,aF,aO,L2.start,List.map_cons,List.map_nil,List.cons_append,List.nil_append,List.append_nil,List.length_cons,List.length_nil,List.replicate,List.set_cons_zero,List.set_cons_succ,List.getElem?_cons_zero,List.getElem?_cons_succ,Option.some.injEq,exists_eq_left',exists_eq_left,exists_and_left,exists_eq',exists_const,V.int.injEq,V.bl.injEq,V.str.injEq,V.ref.injEq,V.ty.injEq,List.cons.injEq,and_true,true_and,reduceCtorEq,false_and,and_false,exists_false,or_false,false_or,decide_eq_true_eq,Bool.not_eq_true',decide_eq_false_iff_not,if_true,if_false,Bool.false_eq_true,ite_true,ite_false,Bool.not_true,Bool.not_false,Nat.reduceAdd,Nat.reduceSub,and_assoc]
    refine⟨_,ln1,_,ln2,?_⟩
    simp only[hl,bX,bq,cB,bx,tC,db,aj,aX,bS,aG,bG,aN,bK,bc,bP,tB,em,rU,dA,rI,bN,bV,aU,bj,eF,cb,eI,ce,bv,bp,dY,br,aJ,dC,bn,aY,dN,er,eu,cf,ci,bU,bQ,cg,aF,aO,L2.start,List.map_cons,List.map_nil,List.cons_append,List.nil_append,List.append_nil,List.length_cons,List.length_nil,List.replicate,List.set_cons_zero,List.set_cons_succ,List.getElem?_cons_zero,List.getElem?_cons_succ,Option.some.injEq,exists_eq_left',exists_eq_left,exists_and_left,exists_eq',exists_const,V.int.injEq,V.bl.injEq,V.str.injEq,V.ref.injEq,V.ty.injEq,List.cons.injEq,and_true,true_and,reduceCtorEq,false_and,and_false,exists_false,or_false,false_or,decide_eq_true_eq,Bool.not_eq_true',decide_eq_false_iff_not,if_true,if_false,Bool.false_eq_true,ite_true,ite_false,Bool.not_true,Bool.not_false,Nat.reduceAdd,Nat.reduceSub,and_assoc]
    exact q
   ·simp only[bX,dU,gf,bq,cB,bx,tC,db,aj,aX,bS,aG,bG,aN,bK,bc,bP,tB,em,rU,dA,rI,bN,bV,aU,bj,eF,cb,eI,ce,bv,bp,dY,br,aJ,dC,bn,aY,dN,er,eu,cf,ci,bU,bQ,cg,aF,aO,L2.start,List.map_cons,List.map_nil,List.cons_append,List.nil_append,List.append_nil,List.length_cons,List.length_nil,List.replicate,List.set_cons_zero,List.set_cons_succ,List.getElem?_cons_zero,List.getElem?_cons_succ,Option.some.injEq,exists_eq_left',exists_eq_left,exists_and_left,exists_eq',exists_const,V.int.injEq,V.bl.injEq,V.str.injEq,V.ref.injEq,V.ty.injEq,List.cons.injEq,and_true,true_and,reduceCtorEq,false_and,and_false,exists_false,or_false,false_or,decide_eq_true_eq,Bool.not_eq_true',decide_eq_false_iff_not,if_true,if_false,Bool.false_eq_true,ite_true,ite_false,Bool.not_true,Bool.not_false,Nat.reduceAdd,Nat.reduceSub,and_assoc]
    refine⟨_,rfl,_,rfl,src1,src2,xs,ys,by rw[e1,e2],h1 H (.refl H),h2 H (.refl H),qv (fun i σ H2=>Same H H2∧∃a b,σ=[some (.ref p),some (.ref q'),a,b]) ⟨.refl H,none,none,rfl⟩ (fun i σ H2 ⟨e,_⟩=>⟨h1 H2 e,h2 H2 e⟩) hl ?_ ?_⟩
    ·rintro i x y r σ H2 hx hy hr' ⟨e,a,b,rfl⟩
     simp only[bX,dU,gf,bq,cB,bx,tC,db,aj,aX,bS,aG,bG,aN,bK,bc,bP,tB,em,rU,dA,rI,bN,bV,aU,bj,eF,cb,eI,ce,bv,bp,dY,br,aJ,dC,bn,aY,dN,er,eu,cf,ci,bU,bQ,cg,aF,aO,L2.start,List.map_cons,List.map_nil,List.cons_append,List.nil_append,List.append_nil,List.length_cons,List.length_nil,List.replicate,List.set_cons_zero,List.set_cons_succ,List.getElem?_cons_zero,List.getElem?_cons_succ,Option.some.injEq,exists_eq_left',exists_eq_left,exists_and_left,exists_eq',exists_const,V.int.injEq,V.bl.injEq,V.str.injEq,V.ref.injEq,V.ty.injEq,List.cons.injEq,and_true,true_and,reduceCtorEq,false_and,and_false,exists_false,or_false,false_or,decide_eq_true_eq,Bool.not_eq_true',decide_eq_false_iff_not,if_true,if_false,Bool.false_eq_true,ite_true,ite_false,Bool.not_true,Bool.not_false,Nat.reduceAdd,Nat.reduceSub,and_assoc]
     refine⟨_,SqT.of ak,rfl,?_⟩
     simp only[bX,dU,gf,bq,cB,bx,tC,db,aj,aX,bS,aG,bG,aN,bK,bc,bP,tB,em,rU,dA,rI,bN,bV,aU,bj,eF,cb,eI,ce,bv,bp,dY,br,aJ,dC,bn,aY,dN,er,eu,cf,ci,bU,bQ,cg,aF,aO,L2.start,List.map_cons,List.map_nil,List.cons_append,List.nil_append,List.append_nil,List.length_cons,List.length_nil,List.replicate,List.set_cons_zero,List.set_cons_succ,List.getElem?_cons_zero,List.getElem?_cons_succ,Option.some.injEq,exists_eq_left',exists_eq_left,exists_and_left,exists_eq',exists_const,V.int.injEq,V.bl.injEq,V.str.injEq,V.ref.injEq,V.ty.injEq,List.cons.injEq,and_true,true_and,reduceCtorEq,false_and,and_false,exists_false,or_false,false_or,decide_eq_true_eq,Bool.not_eq_true',decide_eq_false_iff_not,if_true,if_false,Bool.false_eq_true,ite_true,ite_false,Bool.not_true,Bool.not_false,Nat.reduceAdd,Nat.reduceSub,and_assoc]
     refine⟨x,y,rfl,.inl ⟨(hi i x y hx hy).same (e.trans (cY hr')),fun H3 e3=>?_⟩⟩
     simp only[bX,dU,gf,bq,cB,bx,tC,db,aj,aX,bS,aG,bG,aN,bK,bc,bP,tB,em,rU,dA,rI,bN,bV,aU,bj,eF,cb,eI,ce,bv,bp,dY,br,aJ,dC,bn,aY,dN,er,eu,cf,ci,bU,bQ,cg,aF,aO,L2.start,List.map_cons,List.map_nil,List.cons_append,List.nil_append,List.append_nil,List.length_cons,List.length_nil,List.replicate,List.set_cons_zero,List.set_cons_succ,List.getElem?_cons_zero,List.getElem?_cons_succ,Option.some.injEq,exists_eq_left',exists_eq_left,exists_and_left,exists_eq',exists_const,V.int.injEq,V.bl.injEq,V.str.injEq,V.ref.injEq,V.ty.injEq,List.cons.injEq,and_true,true_and,reduceCtorEq,false_and,and_false,exists_false,or_false,false_or,decide_eq_true_eq,Bool.not_eq_true',decide_eq_false_iff_not,if_true,if_false,Bool.false_eq_true,ite_true,ite_false,Bool.not_true,Bool.not_false,Nat.reduceAdd,Nat.reduceSub,and_assoc]
     exact e.trans ((cY hr').trans e3)
    ·rintro σ H2 ⟨e,a,b,rfl⟩
     simp only[bX,dU,gf,bq,cB,bx,tC,db,aj,aX,bS,aG,bG,aN,bK,bc,bP,tB,em,rU,dA,rI,bN,bV,aU,bj,eF,cb,eI,ce,bv,bp,dY,br,aJ,dC,bn,aY,dN,er,eu,cf,ci,bU,bQ,cg,aF,aO,L2.start,List.map_cons,List.map_nil,List.cons_append,List.nil_append,List.append_nil,List.length_cons,List.length_nil,List.replicate,List.set_cons_zero,List.set_cons_succ,List.getElem?_cons_zero,List.getElem?_cons_succ,Option.some.injEq,exists_eq_left',exists_eq_left,exists_and_left,exists_eq',exists_const,V.int.injEq,V.bl.injEq,V.str.injEq,V.ref.injEq,V.ty.injEq,List.cons.injEq,and_true,true_and,reduceCtorEq,false_and,and_false,exists_false,or_false,false_or,decide_eq_true_eq,Bool.not_eq_true',decide_eq_false_iff_not,if_true,if_false,Bool.false_eq_true,ite_true,ite_false,Bool.not_true,Bool.not_false,Nat.reduceAdd,Nat.reduceSub,and_assoc]
     exact q H2 e
def mq (K:PySem.W.Frag):Sp:=fun vs H Q _=>∃(a:Addr) (ns:List Int),vs=[.ref a]∧SqL K H a (ns.map V.int)∧ns.length≤63∧∀H',Q (.bl true) H'
end
end Wb
namespace Mi
theorem uS (a b:Dat):mW (.t [a,b]) 0=.ok a:=rfl
theorem uT (a b:Dat):mW (.t [a,b]) 1=.ok b:=rfl
theorem wn (a b c:Dat):mW (.t [a,b,c]) 0=.ok a:=rfl
theorem wo (a b c:Dat):mW (.t [a,b,c]) 1=.ok b:=rfl
theorem wq (a b c:Dat):mW (.t [a,b,c]) 2=.ok c:=rfl
theorem uU (a:Dat):mW (.t [a]) 0=.ok a:=rfl
theorem w6 (x:Int):cU 0 (.i x)=false:=rfl
theorem w8 (x:Int):cU 1 (.i x)=true:=rfl
theorem w9 (x:Int):cU 2 (.i x)=false:=rfl
theorem wa (x:Tx):cU 0 (.s x)=false:=rfl
theorem wb (x:Tx):cU 1 (.s x)=false:=rfl
theorem wc (x:Tx):cU 2 (.s x)=true:=rfl
theorem wd (x:List Dat):cU 4 (.t x)=true:=rfl
theorem we (x:List Dat):cU 3 (.l x)=true:=rfl
theorem wf (x:List Dat):cU 4 (.l x)=false:=rfl
theorem oI (x:Int):ix (uY (.i x))=.ok x:=rfl
theorem oT (x:Tx):ix (uy (.s x))=.ok x:=rfl
theorem iN {s:List Int} (hs:s.length≤63) (k:Nat) (hk:k≤200):∃n,gm s (k:Int)=.ok n:=by
 unfold gm va
 by_cases h:(k:Int)< (s.length:Int)
 ·rw[if_pos (by simpa using h)]
  obtain⟨x,e,_⟩:=jt (xs:=s) (i:=(k:Int)) (by omega) h
  exact⟨x,e⟩
 ·rw[if_neg (by simpa using h),oV (by omega) (by omega)]
  exact⟨_,rfl⟩
theorem tq (c b:Int) (hb:1≤b) (hb2:b< 1073741824) (k:Nat) (s:Int×Int×List Int) (h1:0≤s.2.1) (hl:s.2.2.length< 100000):∃s':Int×Int×List Int,tL c b (k:Int) s=.ok s'∧0≤s'.2.1∧∃v,0≤v∧v< b∧s'.2.2=s.2.2++ [v]:=by
 unfold tL
 have hm0:=Int.emod_nonneg (s.1*48271+7919+(k:Int)) (show(2147483647:Int)≠0 by decide)
 have hm1:=Int.emod_lt_of_pos (s.1*48271+7919+(k:Int)) (show(0:Int)< 2147483647 by decide)
 generalize (s.1*48271+7919+(k:Int))% 2147483647=mx at*
 have other:∀z:Int,0≤z% b∧z% b< b:=fun z=>⟨Int.emod_nonneg _ (by omega),Int.emod_lt_of_pos _ (by omega)⟩
 have A:∀z:Int,eP s.2.2 z=.ok (s.2.2++ [z]):=fun z=>eZ hl
 have e2:((((jL mx mx).bind fun y63=>Res.ok (y63% 1000003)).bind fun y64=>i5 y64 b).bind fun y69=>eP s.2.2 y69)=.ok (s.2.2++ [mx*mx% 1000003% b]):=by
  rw[jV (by omega) (by omega)];simp only[Res.bind_ok'];rw[fz (by omega)];exact A _
 have e1:((i5 s.2.1 b).bind fun y56=>eP s.2.2 y56)=.ok (s.2.2++ [s.2.1% b]):=by rw[fz (by omega)];exact A _
 by_cases hf:(1000000000000000000:Int)≤cT c
 ·rw[decide_eq_true hf]
  by_cases hp:0< s.2.1
  ·rw[decide_eq_true hp]
   simp only[if_true,Res.bind_ok',e1,oU (show 0< b by omega) hb2]
   exact⟨_,rfl,Int.ediv_nonneg h1 (by omega),_,(other _).1,(other _).2,rfl⟩
  ·rw[decide_eq_false hp]
   simp only[if_true,Res.bind_ok',Bool.false_eq_true,if_false,e2]
   exact⟨_,rfl,h1,_,(other _).1,(other _).2,rfl⟩
 ·rw[decide_eq_false hf]
  simp only[Res.bind_ok',Bool.false_eq_true,if_false,e2]
  exact⟨_,rfl,h1,_,(other _).1,(other _).2,rfl⟩
theorem pI (c:Int) (n:Nat) (b:Int) (hn:n≤1000) (hb:1≤b) (hb2:b< 1073741824):∃ns,kN c (n:Int) b=.ok ns∧ns.length=n∧∀x∈ns,0≤x∧x< b:=by
 unfold kN vb
 rw[iI (by omega),Res.bind_ok']
 obtain⟨s,e,h0,hl,hb⟩:=fC (f:=tL c b) (fun pre (s:Int×Int×List Int)=>0≤s.2.1∧s.2.2.length=pre.length∧∀x∈s.2.2,0≤x∧x< b) ((List.range n).map fun(i:Nat)=>(i:Int)) ((cT c)% 2147483647,cT c,[]) ⟨qK c,rfl,by simp⟩ (by
  intro pre a post s e ⟨h0,hl,hb'⟩
  have hlen:pre.length< n:=by have:=congrArg List.length e;simp at this;omega
  obtain⟨k,rfl⟩:∃k:Nat,a=(k:Int):=by
   have:a∈(List.range n).map fun(i:Nat)=>(i:Int):=by rw[e];simp
   obtain⟨k,_,hk⟩:=List.mem_map.mp this;exact⟨k,hk.symm⟩
  obtain⟨s',e',h0',v,v0,v1,ev⟩:=tq c b hb hb2 k s h0 (by omega)
  refine⟨s',e',h0',by rw[ev];simp[hl],fun x hx=>?_⟩
  rw[ev]at hx
  rcases List.mem_append.mp hx with z | z
  ·exact hb' x z
  ·rw[List.mem_singleton.mp z];exact⟨v0,v1⟩)
 rw[e]
 exact⟨_,rfl,by rw[hl];simp,hb⟩
def cm (c:Nat):Prop:=c=102∨c=98∨c=105
def Turns (t:Tx):Prop:=∀c∈t,cm c
abbrev Cd:=Tx×Tx×Int
structure Card (t:Cd):Prop where
 lay:t.1=[83]∨t.1=[90]
 four:t.2.1.length=4
 col:∀c∈t.2.1,97≤c∧c≤122
 low:0≤t.2.2
 high:t.2.2< 4
theorem pJ (sz:Int) (ds:List Int) (hsz:1≤sz) (hd:ds.length=5) (a:Int) (t:Tx) (ht:t.length< 1000):∃c,97≤c∧c≤122∧tM sz ds a t=.ok (t++ [c]):=by
 unfold tM
 obtain⟨x,e,_⟩:=jt (xs:=ds) (i:=4) (by decide) (by rw[hd];decide)
 rw[e]
 simp only[Res.bind_ok',fz (show 0< sz by omega)]
 have h0:=Int.emod_nonneg (x+a% sz*7) (show(26:Int)≠0 by decide)
 have h1:=Int.emod_lt_of_pos (x+a% sz*7) (show(0:Int)< 26 by decide)
 generalize (x+a% sz*7)% 26=r at h0 h1
 obtain⟨c,e2,h2⟩:=fB (x:=([97,98,99,100,101,102,103,104,105,106,107,108,109,110,111,112,113,114,115,116,117,118,119,120,121,122]:Tx)) (i:=r) h0 (by simp;omega) (by decide)
 rw[e2]
 simp only[Res.bind_ok',f6 (show t.length+ [c].length≤100000 by simp;omega)]
 have hc:c∈([97,98,99,100,101,102,103,104,105,106,107,108,109,110,111,112,113,114,115,116,117,118,119,120,121,122]:Tx):=List.mem_of_getElem? h2
 have:∀c∈([97,98,99,100,101,102,103,104,105,106,107,108,109,110,111,112,113,114,115,116,117,118,119,120,121,122]:Tx),97≤c∧c≤122:=by decide
 exact⟨c,(this c hc).1,(this c hc).2,rfl⟩
theorem pK (c:Int):∃t,qY c=.ok t∧t.length=4∧∀x∈t,97≤x∧x≤122:=by
 unfold qY vc
 have h0:=Int.emod_nonneg c (show(5:Int)≠0 by decide)
 have h1:=Int.emod_lt_of_pos c (show(0:Int)< 5 by decide)
 obtain⟨sz,e,h2⟩:=jt (xs:=[(1:Int),2,3,4,26]) (i:=c% 5) h0 (by simp;omega)
 have hsz:1≤sz:=by
  have:∀x∈[(1:Int),2,3,4,26],1≤x:=by decide
  exact this sz (List.mem_of_getElem? h2)
 rw[e,Res.bind_ok']
 obtain⟨ds,e2,hd,_⟩:=pI (c/ 5) 5 26 (by decide) (by decide) (by decide)
 rw[show kN (c/ 5) 5 26=Res.ok ds from e2,Res.bind_ok',show cut ds none (some 4)=ds.take 4 from gU ds 4]
 obtain⟨t,e3,h3,h4⟩:=fC (f:=tM sz ds) (fun pre t=>t.length=pre.length∧∀x∈t,97≤x∧x≤122) (ds.take 4) [] ⟨rfl,by simp⟩ (by
  intro pre a post t e ⟨hl,hb⟩
  have hlen:pre.length< 5:=by have:=congrArg List.length e;simp at this;omega
  obtain⟨c,c0,c1,ec⟩:=pJ sz ds hsz hd a t (by omega)
  refine⟨_,ec,by simp[hl],fun x hx=>?_⟩
  rcases List.mem_append.mp hx with z | z
  ·exact hb x z
  ·rw[List.mem_singleton.mp z];exact⟨c0,c1⟩)
 rw[e3]
 exact⟨t,rfl,by rw[h3,List.length_take];omega,h4⟩
theorem rz (c:Int):∃t,qZ c=.ok t∧Card t:=by
 unfold qZ vd
 have h0:=Int.emod_nonneg c (show(2:Int)≠0 by decide)
 have h1:=Int.emod_lt_of_pos c (show(0:Int)< 2 by decide)
 obtain⟨y,e,h2⟩:=fB (x:=([83,90]:Tx)) (i:=c% 2) h0 (by simp;omega) (by decide)
 obtain⟨t,e2,hl,hb⟩:=pK (c/ 8)
 rw[e,Res.bind_ok',e2,Res.bind_ok']
 refine⟨_,rfl,?_,hl,hb,Int.emod_nonneg _ (by decide),Int.emod_lt_of_pos _ (by decide)⟩
 have:y=83∨y=90:=by simpa using List.mem_of_getElem? h2
 rcases this with rfl | rfl
 ·exact .inl rfl
 ·exact .inr rfl
theorem lw (d:Int) (h0:0≤d) (h1:d< 3):∃c,eA ([102,98,105]:Tx) d=.ok [c]∧cm c:=by
 obtain⟨c,e,h⟩:=fB (x:=([102,98,105]:Tx)) (i:=d) h0 (by simp;omega) (by decide)
 refine⟨c,e,?_⟩
 have:=List.mem_of_getElem? h
 simpa [cm] using this
theorem pL (c:Int) (n:Nat) (hn:n≤1000):∃t,r0 c (n:Int)=.ok t∧t.length=n∧Turns t:=by
 unfold r0 ve
 by_cases h:c% 7=3
 ·rw[if_pos (by simpa using h)]
  obtain⟨y,e,hy⟩:=lw (c/ 7% 3) (Int.emod_nonneg _ (by decide)) (Int.emod_lt_of_pos _ (by decide))
  rw[e,Res.bind_ok',qJ (by omega) (by omega)]
  refine⟨_,rfl,by simp,fun x hx=>?_⟩
  rw[List.eq_of_mem_replicate hx];exact hy
 ·rw[if_neg (by simpa using h)]
  obtain⟨ds,e,hl,hb⟩:=pI (c/ 7) n 3 hn (by decide) (by decide)
  rw[e,Res.bind_ok']
  have key:∃t:List Nat,dQ ds (fun(a9:Int)=>eA ([102,98,105]:Tx) a9)=.ok (t.map fun c=>[c])∧t.length=n∧Turns t:=by
   have:∀d∈ds,∃c:Nat,eA ([102,98,105]:Tx) d=.ok [c]∧cm c:=fun d hd=>lw d (hb d hd).1 (hb d hd).2
   have hf:∀d∈ds,eA ([102,98,105]:Tx) d=.ok ((fun d=>[if d=0 then 102 else if d=1 then 98 else 105]) d):=fun d hd=>by
    have h1:=hb d hd
    have:d=0∨d=1∨d=2:=by omega
    rcases this with rfl | rfl | rfl <;> rfl
   rw[dq (by show ds.length≤100000;omega) hf]
   refine⟨ds.map fun d=>if d=0 then 102 else if d=1 then 98 else 105,by simp,by simp[hl],fun x hx=>?_⟩
   obtain⟨d,_,rfl⟩:=List.mem_map.mp hx
   unfold cm;split
   ·exact .inl rfl
   ·split
    ·exact .inr (.inl rfl)
    ·exact .inr (.inr rfl)
  obtain⟨t,e2,hl2,ht⟩:=key
  rw[e2,Res.bind_ok',gR (by rw[lV];omega),lV]
  exact⟨t,rfl,hl2,ht⟩
def go (c:Nat):Int:=if c=102 then 1 else if c=98 then -1 else 0
def tw (t:Cd) (c:Nat):Int:=if t.1=[83]then go c else -go c
def b6 (t:Cd) (i:Int):Nat:=t.2.1[i.toNat]?.getD 0
def pM (i:Int):Nat:=if i=1 then 115 else if i= -1 then 122 else 111
def behind (t:Cd) (c:Nat):Cd:=(t.1,t.2.1,(t.2.2+go c)% 4)
abbrev Pl:=Tx×Tx×Tx
def da (t:Cd) (c:Nat):Pl:=([b6 t t.2.2],[b6 t ((t.2.2+2)% 4)],[pM (tw t c)])
theorem uV (c:Nat): -1≤go c∧go c≤1:=by unfold go;split;omega;split <;> omega
theorem si (t:Cd) (c:Nat): -1≤tw t c∧tw t c≤1:=by have:=uV c;unfold tw;split <;> omega
theorem Card.behind {t:Cd} (h:Card t) (c:Nat):Card (behind t c):=⟨h.lay,h.four,h.col,Int.emod_nonneg _ (by decide),Int.emod_lt_of_pos _ (by decide)⟩
theorem sj {c:Nat} (h:cm c):kO [c]=.ok (go c):=by
 unfold kO vj
 rcases h with rfl | rfl | rfl <;> rfl
theorem iO {t:Cd} {c:Nat} (h:cm c):gv t [c]=.ok (behind t c):=by
 unfold gv vk
 rw[sj h];rfl
theorem pN {t:Cd} {c:Nat} (h:cm c):mm t [c]=.ok (tw t c):=by
 unfold mm vp
 rw[sj h]
 by_cases z:t.1=[83]
 ·rw[if_pos (by simpa using z)];unfold tw;rw[if_pos z]
 ·rw[if_neg (by simpa using z)];unfold tw;rw[if_neg z];simp only[Res.bind_ok'];congr 1;omega
theorem cy {t:Cd} (h:Card t) {i:Int} (h0:0≤i) (h1:i< 4):eA t.2.1 i=.ok [b6 t i]:=sQ h0 (by rw[h.four];exact h1) (by rw[h.four];decide)
theorem dy (i:Int):0≤i% 4∧i% 4< 4:=⟨Int.emod_nonneg _ (by decide),Int.emod_lt_of_pos _ (by decide)⟩
theorem tx {i:Int} (h: -1≤i∧i≤1):eA ([122,111,115]:Tx) (i+1)=.ok [pM i]:=by
 have:i= -1∨i=0∨i=1:=by omega
 rcases this with rfl | rfl | rfl <;> rfl
def aM:Cd→Tx→List Pl
 | _,[]=>[]
 | t,c::r=>da (behind t c) c::aM (behind t c) r
def ends:Cd→Tx→Cd
 | t,[]=>t
 | t,c::r=>ends (behind t c) r
theorem dz (t:Cd) (x:Tx):(aM t x).length=x.length:=by
 induction x generalizing t with
 | nil=>rfl
 | cons c r ih=>simp[aM,ih]
theorem pO (x:Tx):∀(t:Cd) (c:Nat),ends t (x++ [c])=behind (ends t x) c:=by
 induction x with
 | nil=>intro t c;rfl
 | cons d r ih=>intro t c;simp[ends,ih]
theorem Card.ends {t:Cd} (h:Card t) (x:Tx):Card (ends t x):=by
 induction x generalizing t with
 | nil=>exact h
 | cons c r ih=>exact ih (h.behind c)
theorem four {x:Tx} (h:x.length=4):∃a b c d,x=[a,b,c,d]:=by
 match x,h with
 | [a,b,c,d],_=>exact⟨a,b,c,d,rfl⟩
def cK (t:Cd):Cd:=(if t.1=[83]then [90]else [83],[b6 t 0,b6 t 3,b6 t 2,b6 t 1],(0- t.2.2)% 4)
def dJ (c:Nat):Nat:=if c=102 then 98 else if c=98 then 102 else c
def cA (t:Cd) (k:Int):Cd:=(t.1,[b6 t ((0- k)% 4),b6 t ((1- k)% 4),b6 t ((2- k)% 4),b6 t ((3- k)% 4)],(t.2.2+k)% 4)
theorem kz {t:Cd} (h:Card t):r6 t=.ok (cK t):=by
 unfold r6 vg
 have e1:((mO ([83,90]:Tx) t.1).bind fun y5=>eA ([90,83]:Tx) y5)=.ok (if t.1=[83]then [90]else [83]):=by
  rcases h.lay with e | e <;> rw[e] <;> rfl
 rw[e1]
 simp only[Res.bind_ok',cy h (show(0:Int)≤0 by decide) (by decide),cy h (show(0:Int)≤3 by decide) (by decide),cy h (show(0:Int)≤2 by decide) (by decide),cy h (show(0:Int)≤1 by decide) (by decide)]
 rfl
theorem pP {t:Cd} (h:Card t) {x:Tx} (e:∀c∈x,∃i:Int,0≤i∧i< 4∧c=b6 t i):∀c∈x,97≤c∧c≤122:=fun c hc=>by
 obtain⟨i,h0,h1,rfl⟩:=e c hc
 unfold b6
 have:i.toNat< t.2.1.length:=by rw[h.four];omega
 simp only[List.getElem?_eq_getElem this,Option.getD_some]
 exact h.col _ (List.getElem_mem this)
theorem Card.flip {t:Cd} (h:Card t):Card (cK t):=by
 refine⟨?_,rfl,pP h fun c hc=>?_,(dy _).1,(dy _).2⟩
 ·unfold cK;split
  ·exact .inr rfl
  ·exact .inl rfl
 ·have:c=b6 t 0∨c=b6 t 3∨c=b6 t 2∨c=b6 t 1:=by simpa [cK] using hc
  rcases this with rfl | rfl | rfl | rfl
  ·exact⟨0,by decide,by decide,rfl⟩
  ·exact⟨3,by decide,by decide,rfl⟩
  ·exact⟨2,by decide,by decide,rfl⟩
  ·exact⟨1,by decide,by decide,rfl⟩
theorem Card.roll {t:Cd} (h:Card t) (k:Int):Card (cA t k):=by
 refine⟨h.lay,rfl,pP h fun c hc=>?_,(dy _).1,(dy _).2⟩
 have:c=b6 t ((0- k)% 4)∨c=b6 t ((1- k)% 4)∨c=b6 t ((2- k)% 4)∨c=b6 t ((3- k)% 4):=by simpa [cA] using hc
 rcases this with rfl | rfl | rfl | rfl <;> exact⟨_,(dy _).1,(dy _).2,rfl⟩
theorem rB {t:Cd} (h:Card t) (k:Int):rc t k=.ok (cA t k):=by
 unfold rc vi
 rw[show dm (4:Int)=Res.ok [(0:Int),1,2,3]from rfl,Res.bind_ok']
 rw[dq (g:=fun i:Int=>[b6 t ((i- k)% 4)]) (by decide) (fun i _=>cy h (dy _).1 (dy _).2)]
 rfl
theorem pQ {c:Nat} (h:cm c):cm (dJ c):=by
 unfold dJ;rcases h with rfl | rfl | rfl
 ·exact .inr (.inl rfl)
 ·exact .inl rfl
 ·exact .inr (.inr rfl)
theorem rC {x:Tx} (h:Turns x) (hl:x.length≤10000):r9 x=.ok (x.map dJ):=by
 unfold r9 vh
 rw[dq (g:=fun t:Tx=>[dJ (t.headD 0)]) (by show(aZ x).length≤100000;simp[aZ];omega) (fun t ht=>by
  obtain⟨c,hc,rfl⟩:=fU ht
  rcases h c hc with rfl | rfl | rfl <;> rfl),Res.bind_ok']
 have e:((aZ x).map fun t:Tx=>[dJ (t.headD 0)])=(x.map dJ).map fun c=>[c]:=by simp[aZ]
 rw[e,gR (by rw[lV];simp;omega),lV]
theorem hJ {x:Tx} (h:Turns x):Turns (x.map dJ):=fun c hc=>by
 obtain⟨d,hd,rfl⟩:=List.mem_map.mp hc;exact pQ (h d hd)
theorem mr (i:Int) (l:List Int) (hl:l.length< 1000):∃l',tN i l=.ok l'∧(∀x,x∈l'↔x∈l∨x=i)∧(l.Nodup→l'.Nodup)∧l'.length≤l.length+1:=by
 unfold tN
 by_cases h:i∈l
 ·refine⟨l,?_,fun x=>⟨.inl,fun z=>z.elim id fun e=>e▸h⟩,id,by omega⟩
  rw[if_neg (by simp[h])];rfl
 ·refine⟨l++ [i],?_,fun x=>by simp,fun hn=>?_,by simp⟩
  ·rw[if_pos (by simp[h]),eZ (by omega)];rfl
  ·rw[List.nodup_append];exact⟨hn,by simp,fun a ha b hb=>by simp at hb;subst hb;intro e;subst e;exact h ha⟩
def mt (t:Cd) (x:Tx) (i:Int):Prop:=∃k,0< k∧k≤x.length∧(i=(ends t (x.take k)).2.2∨i=((ends t (x.take k)).2.2+2)% 4)
theorem rD {t:Cd} (h:Card t) {x:Tx} (hx:Turns x) (hl:x.length≤900):∃l,rd t x=.ok l∧l.Pairwise (· ≤ ·)∧l.Nodup∧(∀i∈l,0≤i∧i< 4)∧∀i,i∈l↔mt t x i:=by
 unfold rd vm
 obtain⟨s,e,h1,h2,h3,h4⟩:=fC (f:=uL gv) (fun pre (s:Cd×List Int)=>s.1=ends t (x.take pre.length)∧s.2.Nodup∧(∀i∈s.2,0≤i∧i< 4)∧∀i,i∈s.2↔∃k,0< k∧k≤pre.length∧(i=(ends t (x.take k)).2.2∨i=((ends t (x.take k)).2.2+2)% 4)) (aZ x) (t,[])
  ⟨by simp[ends],by simp,by simp,fun i=>⟨fun z=>by simp at z,fun⟨k,a,b,_⟩=>by simp at b;omega⟩⟩ (by
  intro pre a post s e ⟨h1,h2,h3,h4⟩
  have ha:a∈aZ x:=by rw[e];simp
  obtain⟨c,hc,rfl⟩:=fU ha
  have hlen:pre.length< x.length:=by have:=congrArg List.length e;simp[aZ]at this;omega
  have hget:x[pre.length]? =some c:=by
   have:=congrArg (fun l=>l[pre.length]?) e
   simp only[aZ,List.getElem?_map,List.getElem?_append_right (Nat.le_refl _),Nat.sub_self,List.getElem?_cons_zero]at this
   cases z:x[pre.length]? with
   | none=>rw[z]at this;cases this
   | some d=>rw[z]at this;simp at this;rw[this]
  have htake:x.take (pre.length+1)=x.take pre.length++ [c]:=by
   rw[List.take_add_one,hget];rfl
  have small:s.2.length≤4:=by
   have hsub:s.2 ⊆ [(0:Int),1,2,3]:=fun i hi=>by
    have:=h3 i hi
    have:i=0∨i=1∨i=2∨i=3:=by omega
    simpa using this
   exact(List.Nodup.length_le_of_subset h2 hsub)
  unfold uL
  rw[h1,iO (hx c hc),Res.bind_ok']
  have hB:Card (behind (ends t (x.take pre.length)) c):=(h.ends _).behind c
  generalize hbe:behind (ends t (x.take pre.length)) c=B at hB ⊢
  obtain⟨l1,e1,m1,n1,k1⟩:=mr B.2.2 s.2 (by omega)
  obtain⟨l2,e2,m2,n2,k2⟩:=mr ((B.2.2+2)% 4) l1 (by omega)
  have el:forR tN [B.2.2,(B.2.2+2)% 4] s.2=.ok l2:=by simp only[forR,e1,e2,Res.bind_ok']
  rw[el]
  have hE:ends t (x.take (pre.length+1))=B:=by rw[htake,pO,hbe]
  refine⟨(B,l2),rfl,by simp[hE],n2 (n1 h2),fun i hi=>?_,fun i=>?_⟩
  ·rcases (m2 i).mp hi with z | z
   ·rcases (m1 i).mp z with z | z
    ·exact h3 i z
    ·rw[z];exact⟨hB.low,hB.high⟩
   ·rw[z];exact dy _
  ·rw[m2,m1,h4]
   constructor
   ·rintro ((⟨k,a,b,z⟩ | z) | z)
    ·exact⟨k,a,by simp;omega,z⟩
    ·exact⟨pre.length+1,by omega,by simp,.inl (by rw[hE];exact z)⟩
    ·exact⟨pre.length+1,by omega,by simp,.inr (by rw[hE];exact z)⟩
   ·rintro ⟨k,a,b,z⟩
    simp at b
    rcases Nat.lt_or_ge k (pre.length+1)with q | q
    ·exact .inl (.inl ⟨k,a,by omega,z⟩)
    ·have:k=pre.length+1:=by omega
     subst this
     rw[hE]at z
     rcases z with z | z
     ·exact .inl (.inr z)
     ·exact .inr z)
 rw[e,Res.bind_ok']
 have hsub:s.2 ⊆ [(0:Int),1,2,3]:=fun i hi=>by
  have:=h3 i hi
  have:i=0∨i=1∨i=2∨i=3:=by omega
  simpa using this
 have small:=(List.Nodup.length_le_of_subset h2 hsub)
 simp only[List.length_cons,List.length_nil]at small
 rw[oX (by omega)]
 have pm:=g6 s.2
 refine⟨_,rfl,iA _,pm.nodup_iff.mpr h2,fun i hi=>h3 i (pm.mem_iff.mp hi),fun i=>?_⟩
 rw[pm.mem_iff,h4]
 unfold mt
 simp[aZ]
theorem pR (d:Int) (h0:0≤d) (h1:d< 26):∃c,eA ([97,98,99,100,101,102,103,104,105,106,107,108,109,110,111,112,113,114,115,116,117,118,119,120,121,122]:Tx) d=.ok [c]∧97≤c∧c≤122:=by
 obtain⟨c,e,h⟩:=fB (x:=([97,98,99,100,101,102,103,104,105,106,107,108,109,110,111,112,113,114,115,116,117,118,119,120,121,122]:Tx)) (i:=d) h0 (by simp;omega) (by decide)
 have:∀c∈([97,98,99,100,101,102,103,104,105,106,107,108,109,110,111,112,113,114,115,116,117,118,119,120,121,122]:Tx),97≤c∧c≤122:=by decide
 exact⟨c,e,this c (List.mem_of_getElem? h)⟩
def kA (t:Cd) (i:Nat) (c:Nat):Cd:=(t.1,t.2.1.set i c,t.2.2)
theorem Card.dye {t:Cd} (h:Card t) (i:Nat) {c:Nat} (h0:97≤c) (h1:c≤122):Card (kA t i c):=⟨h.lay,by simp[kA,h.four],fun x hx=>by
 rcases List.mem_or_eq_of_mem_set hx with z | z
 ·exact h.col x z
 ·rw[z];exact⟨h0,h1⟩,h.low,h.high⟩
theorem rE {x:Tx} {i c:Nat} (h:i< x.length):x.take i++ [c]++x.drop (i+1)=x.set i c:=by
 rw[List.set_eq_take_append_cons_drop,if_pos h];simp
theorem pS {t:Cd} (h:Card t) {i:Nat} (hi:i< 4) (c:Nat):((((ff t.2.1 none (some (i:Int))).bind fun y83=>df y83 [c]).bind fun y84=>(ff t.2.1 (some ((i:Int)+(1:Int))) none).bind fun y85=>df y84 y85).bind fun y86=>Res.ok (t.1,y86,t.2.2))=.ok (kA t i c):=by
 have hl:t.2.1.length≤100000:=by rw[h.four];decide
 rw[fA hl,gU,Res.bind_ok',f6 (by simp;have:=h.four;omega),Res.bind_ok',show(i:Int)+1=((i+1:Nat):Int)from rfl,fA hl,jY,Res.bind_ok',f6 (by simp;have:=h.four;omega),Res.bind_ok',rE (by rw[h.four];exact hi)]
 rfl
theorem tz (cell:Int) (l:List Int) {t:Cd} (h:Card t) {i:Nat} (hi:i< 4):∃t',tO cell l (i:Int) t=.ok t'∧Card t'∧(t'=t∨((i:Int)∉l∧∃c,t'=kA t i c)):=by
 unfold tO
 by_cases z:(i:Int)∈l
 ·rw[if_neg (by simp[z])];exact⟨t,rfl,h,.inl rfl⟩
 ·rw[if_pos (by simp[z]),jV (by omega) (by omega)]
  simp only[Res.bind_ok']
  obtain⟨c,e,h0,h1⟩:=pR ((cell/ 16+5*(i:Int))% 26) (Int.emod_nonneg _ (by decide)) (Int.emod_lt_of_pos _ (by decide))
  rw[e]
  simp only[Res.bind_ok']
  have:=pS h hi c
  rw[this]
  exact⟨_,rfl,h.dye i h0 h1,.inr ⟨z,c,rfl⟩⟩
theorem tD {t:Cd} (h:Card t):fH t=.ok [b6 t t.2.2]:=by
 unfold fH mn
 rw[show t.2.2% 4=t.2.2 from Int.emod_eq_of_lt h.low h.high,cy h h.low h.high]
theorem ny {t:Cd} (h:Card t):rg t=.ok [b6 t ((t.2.2+2)% 4)]:=by
 unfold rg vv;rw[cy h (dy _).1 (dy _).2]
theorem sk {c:Nat} (h:cm c):getD ([([102],1),([98],(-1)),([105],0)]:List (Tx×Int)) [c]=.ok (go c):=by rcases h with rfl | rfl | rfl <;> rfl
theorem kC {t:Cd} {c:Nat} (h:cm c):rh t [c]=.ok (tw t c):=by
 unfold rh vw
 rw[sk h,Res.bind_ok']
 by_cases z:t.1=[83]
 ·rw[if_pos (by simpa using z)];unfold tw;rw[if_pos z]
 ·rw[if_neg (by simpa using z)];unfold tw;rw[if_neg z]
theorem nz {i:Int} (h: -1≤i∧i≤1):getD ([(1,[115]),((-1),[122]),(0,[111])]:List (Int×Tx)) i=.ok [pM i]:=by
 have:i= -1∨i=0∨i=1:=by omega
 rcases this with rfl | rfl | rfl <;> rfl
theorem rF {t:Cd} (h:Card t) {c:Nat} (hc:cm c):kt t [c]=.ok (da t c):=by
 unfold kt vz
 simp only[tD h,ny h,kC hc,Res.bind_ok',nz (si t c)]
 rfl
theorem nE {t:Cd} {c:Nat} (hc:cm c):g9 t [c]=.ok (behind t c):=by
 unfold g9 vt
 rw[sk hc];rfl
theorem hR:∀(x:Tx),Turns x→∀(t:Cd) (acc:List (List Pl)),Card t→acc.length+x.length< 100000→∃e,forR (t6 g9 kt) (aZ x) ([t],acc)=.ok (e,acc++(aM t x).map fun p=>[p])
 | [],_,t,acc,_,_=>⟨[t],by simp[aZ,forR,aM]⟩
 | c :: r, hx, t, acc, ht, hl => by
  have hc:=hx c (List.mem_cons_self ..)
  have e1:t6 g9 kt [c] ([t],acc)=.ok ([behind t c],acc++ [[da (behind t c) c]]):=by
   unfold t6
   have a1:dQ (([t]:List Cd).zip (aZ [c])) (fun(a37:(Tx×Tx×Int)×Tx)=>g9 a37.1 a37.2)=.ok [behind t c]:=by
    rw[dq (g:=fun a=>behind a.1 (a.2.headD 0)) (by simp[aZ,cap]) fun a ha=>?_]
    ·rfl
    ·have:a=(t,[c]):=by simpa [aZ] using ha
     rw[this];exact nE hc
   have a2:dQ (([behind t c]:List Cd).zip (aZ [c])) (fun(a51:(Tx×Tx×Int)×Tx)=>kt a51.1 a51.2)=.ok [da (behind t c) c]:=by
    rw[dq (g:=fun a=>da a.1 (a.2.headD 0)) (by simp[aZ,cap]) fun a ha=>?_]
    ·rfl
    ·have:a=(behind t c,[c]):=by simpa [aZ] using ha
     rw[this];exact rF (ht.behind c) hc
   rw[a1,Res.bind_ok',a2,Res.bind_ok',eZ (by simp at hl ⊢;omega),Res.bind_ok']
  obtain⟨e,he⟩:=hR r (fun d hd=>hx d (List.mem_cons_of_mem _ hd)) (behind t c) (acc++ [[da (behind t c) c]]) (ht.behind c) (by simp at hl ⊢;omega)
  refine⟨e,?_⟩
  show forR (t6 g9 kt) ([c]::aZ r) ([t],acc)=_
  unfold forR
  rw[e1,Res.bind_ok',he]
  simp[aM]
theorem ej {t:Cd} (ht:Card t) {x:Tx} (hx:Turns x) (hl:x.length≤10000):nL (t,x)=.ok (aM t x):=by
 unfold nL vB
 have e0:lR x=.ok (aZ x):=bI (by unfold cap;omega)
 obtain⟨e,he⟩:=hR x hx t [] ht (by simp;omega)
 have e1:ri [t] (aZ x)=.ok ((aM t x).map fun p=>[p]):=by
  unfold ri vA;rw[he];simp
 show((lR x).bind _).bind _=_
 rw[e0,Res.bind_ok',e1,Res.bind_ok',dq (g:=fun a=>a.headD default) (by simp[dz,cap];omega) fun a ha=>?_]
 ·rw[List.map_map]
  congr 1
  have:((fun a:List Pl=>a.headD default) ∘ fun p=>[p])=id:=by funext p;rfl
  rw[this,List.map_id]
 ·obtain⟨p,_,rfl⟩:=List.mem_map.mp ha;rfl
theorem jx (l:List Pl):pE l l=.ok none:=by
 unfold pE uM
 obtain⟨s,e,_⟩:=jW (f:=sf) (fun _ _=>True) (cJ (l.zip l)) () trivial (by
  intro pre a post s e _
  refine⟨(),?_,trivial⟩
  have ha:a∈cJ (l.zip l):=by rw[e];simp
  have hz:a.2.1=a.2.2:=by
   obtain⟨i,hi⟩:=List.mem_iff_getElem?.mp ha
   unfold cJ at hi
   rw[List.getElem?_zipWith]at hi
   cases h1:(List.range (l.zip l).length)[i]? with
   | none=>rw[h1]at hi;cases hi
   | some j =>
    cases h2:(l.zip l)[i]? with
    | none=>rw[h1,h2]at hi;cases hi
    | some p =>
     rw[h1,h2]at hi;cases hi
     rw[List.getElem?_zip_eq_some]at h2
     have:=h2.1.symm.trans h2.2
     exact Option.some.inj this
  unfold sf
  obtain⟨s2,e2,_⟩:=jW (f:=t9 a) (fun _ _=>True) (cJ [([102,97,99,101],[98,97,99,107],[115,108,97,110,116]).1,([102,97,99,101],[98,97,99,107],[115,108,97,110,116]).2.1,([102,97,99,101],[98,97,99,107],[115,108,97,110,116]).2.2]) () trivial (by
   intro pre b post s e _
   refine⟨(),?_,trivial⟩
   have hb:b∈cJ [([102,97,99,101]:Tx),[98,97,99,107],[115,108,97,110,116]]:=by show b∈_;rw[show(cJ [([102,97,99,101]:Tx),[98,97,99,107],[115,108,97,110,116]])=pre++b::post from e];simp
   have hb1:b.1=0∨b.1=1∨b.1=2:=by
    have:b=(0,[102,97,99,101])∨b=(1,[98,97,99,107])∨b=(2,[115,108,97,110,116]):=by
     have q:b∈[((0:Int),([102,97,99,101]:Tx)),(1,[98,97,99,107]),(2,[115,108,97,110,116])]:=hb
     simpa using q
    rcases this with rfl | rfl | rfl
    ·exact .inl rfl
    ·exact .inr (.inl rfl)
    ·exact .inr (.inr rfl)
   unfold t9
   rw[hz]
   have t0:jA a.2.2 (0:Int)=.ok a.2.2.1:=rfl
   have t1:jA a.2.2 (1:Int)=.ok a.2.2.2.1:=rfl
   have t2:jA a.2.2 (2:Int)=.ok a.2.2.2.2:=rfl
   rcases hb1 with q | q | q <;> simp[q,t0,t1,t2])
  rw[e2];rfl)
 rw[e]
 simp
theorem pT {t:Cd} (h:Card t):t.2.1=[b6 t 0,b6 t 1,b6 t 2,b6 t 3]:=by
 obtain⟨a,b,c,d,e⟩:=four h.four
 unfold b6;rw[e];rfl
theorem lx {t:Cd} (h:Card t):rj t=.ok (cK t):=by
 unfold rj vC
 have c2:∀a b:Nat,df [a] [b]=.ok [a,b]:=fun a b=>rfl
 have c3:∀a b c:Nat,df [a,b] [c]=.ok [a,b,c]:=fun a b c=>rfl
 have c4:∀a b c d:Nat,df [a,b,c] [d]=.ok [a,b,c,d]:=fun a b c d=>rfl
 have hl:getD ([([83],[90]),([90],[83])]:List (Tx×Tx)) t.1=.ok (if t.1=[83]then [90]else [83]):=by rcases h.lay with e | e <;> rw[e] <;> rfl
 simp only[cy h (show(0:Int)≤0 by decide) (by decide),cy h (show(0:Int)≤3 by decide) (by decide),cy h (show(0:Int)≤2 by decide) (by decide),cy h (show(0:Int)≤1 by decide) (by decide),Res.bind_ok',c2,c3,c4,hl]
 unfold cK
 have:(4- t.2.2)% 4=(0- t.2.2)% 4:=by omega
 rw[this]
theorem pU (x:Tx):(x.map ((fun t:Tx=>[dJ (t.headD 0)]) ∘ fun c=>[c])).flatten=x.map dJ:=by
 induction x with
 | nil=>rfl
 | cons a r ih=>simp only[List.map_cons,List.flatten_cons,ih];rfl
theorem kD {x:Tx} (h:Turns x) (hl:x.length≤10000):rk x=.ok (x.map dJ):=by
 unfold rk vD
 rw[dq (g:=fun t:Tx=>[dJ (t.headD 0)]) (by show(aZ x).length≤100000;simp[aZ];omega) (fun t ht=>by
  obtain⟨c,hc,rfl⟩:=fU ht
  rcases h c hc with rfl | rfl | rfl <;> rfl)]
 have e:((aZ x).map fun t:Tx=>[dJ (t.headD 0)]).flatten=x.map dJ:=by
  unfold aZ;rw[List.map_map];exact pU x
 rw[Res.bind_ok',gR (by rw[e];simp;omega),e]
theorem nF {t:Cd} (h:Card t) {k:Int} (h0:0≤k) (h1:k< 4):rl t k=.ok (cA t k):=by
 unfold rl vF
 have hk:k=0∨k=1∨k=2∨k=3:=by omega
 have e:=pT h
 unfold cA
 generalize b6 t=f at e ⊢
 rw[e]
 rcases hk with rfl | rfl | rfl | rfl <;> rfl
def Ff:Dat:=.t [.s [102,108,105,112]]
def Rr (k:Int):Dat:=.t [.s [114,111,108,108],.i k]
def Dd (p:Nat×Nat):Dat:=.t [.s [100,121,101],.i (p.1:Int),.s [p.2]]
theorem iP {t:Cd} (h:Card t) {x:Tx} (hx:Turns x) (hl:x.length≤10000):Z08 (t,x) Ff=.ok (cK t,x.map dJ):=by
 unfold Z08 uN Ff
 simp only[uU,oT,Res.bind_ok',decide_true,if_true]
 rw[lx h,Res.bind_ok',kD hx hl];rfl
theorem nG {t:Cd} (h:Card t) (x:Tx) {k:Int} (h0:0≤k) (h1:k< 4):Z08 (t,x) (Rr k)=.ok (cA t k,x):=by
 unfold Z08 uN Rr
 have n:¬([114,111,108,108]:Tx)=[102,108,105,112]:=by decide
 simp only[uS,uT,oT,oI,Res.bind_ok',decide_true,if_true,n,decide_false,Bool.false_eq_true,if_false]
 rw[nF h h0 h1];rfl
def st:Int→Tx→List Int
 | _,[]=>[]
 | s,c::r=>((s+go c)% 4)::st ((s+go c)% 4) r
theorem hU:∀(x:Tx) (t u:Cd),t.1=u.1→t.2.2=u.2.2→(aM t x=aM u x↔∀h∈st t.2.2 x,b6 t h=b6 u h∧b6 t ((h+2)% 4)=b6 u ((h+2)% 4))
 | [],_,_,_,_=>by simp[aM,st]
 | c :: r, t, u, h1, h2 => by
  have ih:=hU r (behind t c) (behind u c) h1 (by show(t.2.2+go c)% 4=(u.2.2+go c)% 4;rw[h2])
  have hs:(behind u c).2.2=(behind t c).2.2:=by show(u.2.2+go c)% 4=(t.2.2+go c)% 4;rw[h2]
  have htw:tw (behind t c) c=tw (behind u c) c:=by unfold tw;rw[show(behind t c).1=t.1 from rfl,show(behind u c).1=u.1 from rfl,h1]
  have hp:da (behind t c) c=da (behind u c) c↔b6 t (behind t c).2.2=b6 u (behind t c).2.2∧b6 t (((behind t c).2.2+2)% 4)=b6 u (((behind t c).2.2+2)% 4):=by
   unfold da
   rw[hs,htw]
   constructor
   ·intro e;simp only[Prod.mk.injEq,List.cons.injEq,and_true]at e;exact e
   ·rintro ⟨a,b⟩
    have a':b6 (behind t c) (behind t c).2.2=b6 (behind u c) (behind t c).2.2:=a
    have b':b6 (behind t c) (((behind t c).2.2+2)% 4)=b6 (behind u c) (((behind t c).2.2+2)% 4):=b
    rw[a',b']
  simp only[aM,st,List.cons.injEq,List.forall_mem_cons]
  rw[hp,ih]
  exact Iff.rfl
theorem fV:∀(x:Tx) (t:Cd) (i:Int),mt t x i↔∃h∈st t.2.2 x,i=h∨i=(h+2)% 4
 | [],t,i=>⟨fun⟨k,a,b,_⟩=>by simp at b;omega,fun⟨h,m,_⟩=>by simp[st]at m⟩
 | c :: r, t, i => by
  have ih:=fV r (behind t c) i
  have e:∀k,ends t ((c::r).take (k+1))=ends (behind t c) (r.take k):=fun k=>rfl
  constructor
  ·rintro ⟨k,a,b,z⟩
   obtain⟨k,rfl⟩:∃j,k=j+1:=⟨k- 1,by omega⟩
   rw[e]at z
   cases k with
   | zero=>exact⟨(behind t c).2.2,by simp[st];exact .inl rfl,z⟩
   | succ k =>
    obtain⟨h,m,q⟩:=ih.mp ⟨k+1,by omega,by simp at b;omega,z⟩
    exact⟨h,by simp only[st,List.mem_cons];exact .inr m,q⟩
  ·rintro ⟨h,m,q⟩
   simp only[st,List.mem_cons]at m
   rcases m with rfl | m
   ·exact⟨1,by omega,by simp,by rw[e 0];exact q⟩
   ·obtain⟨k,a,b,z⟩:=ih.mpr ⟨h,m,q⟩
    exact⟨k+1,by omega,by simp;omega,by rw[e];exact z⟩
theorem pV:∀(x:Tx) (s:Int),∀h∈st s x,0≤h∧h< 4
 | [],_,h,m=>by simp[st]at m
 | c :: r, s, h, m => by
  simp only[st,List.mem_cons]at m
  rcases m with rfl | m
  ·exact dy _
  ·exact pV r _ h m
theorem kE {t:Cd} {i c:Nat} {h:Int} (h0:0≤h) (hn:h≠(i:Int)):b6 (kA t i c) h=b6 t h:=by
 unfold b6 kA
 rw[List.getElem?_set_ne (by omega)]
theorem ly {t:Cd} {i c:Nat} {x:Tx} (h:¬mt t x (i:Int)):aM (kA t i c) x=aM t x:=by
 rw[hU x (kA t i c) t rfl rfl]
 intro k hk
 have hk':k∈st t.2.2 x:=hk
 have m:=pV x _ k hk'
 have n:∀j,(j=k∨j=(k+2)% 4)→j≠(i:Int):=fun j hj e=>h ((fV x t i).mpr ⟨k,hk',e▸hj⟩)
 exact⟨kE m.1 (n _ (.inl rfl)),kE (dy _).1 (n _ (.inr rfl))⟩
theorem iQ {t:Cd} (h:Int) (h0:0≤h) (h1:h< 4):b6 (cK t) ((0- h)% 4)=b6 t h:=by
 have:h=0∨h=1∨h=2∨h=3:=by omega
 rcases this with rfl | rfl | rfl | rfl <;> rfl
theorem pW {c:Nat} (h:cm c):go (dJ c)= -go c:=by rcases h with rfl | rfl | rfl <;> rfl
theorem kF {t:Cd} {c:Nat} (hc:cm c):behind (cK t) (dJ c)=cK (behind t c):=by
 unfold behind cK
 rw[pW hc]
 simp only[Prod.mk.injEq,true_and]
 refine⟨rfl,?_⟩
 show((0- t.2.2)% 4+ -go c)% 4=(0- (t.2.2+go c)% 4)% 4
 omega
theorem lA {t:Cd} (h:Card t) {c:Nat} (hc:cm c):da (cK t) (dJ c)=da t c:=by
 unfold da
 have e1:b6 (cK t) (cK t).2.2=b6 t t.2.2:=iQ _ h.low h.high
 have e2:b6 (cK t) (((cK t).2.2+2)% 4)=b6 t ((t.2.2+2)% 4):=by
  have:=iQ (t:=t) ((t.2.2+2)% 4) (dy _).1 (dy _).2
  rw[←this];congr 1;show((0- t.2.2)% 4+2)% 4=_;omega
 have e3:tw (cK t) (dJ c)=tw t c:=by
  unfold tw;rw[pW hc]
  rcases h.lay with q | q
  ·rw[if_pos q,if_neg (by show ¬(if t.1=[83]then([90]:Tx)else [83])=[83];rw[if_pos q];decide)];omega
  ·have q':¬t.1=[83]:=by rw[q];decide
   rw[if_neg q',if_pos (by show(if t.1=[83]then([90]:Tx)else [83])=[83];rw[if_neg q'])]
 rw[e1,e2,e3]
theorem gb:∀(x:Tx) {t:Cd},Card t→Turns x→aM (cK t) (x.map dJ)=aM t x
 | [],_,_,_=>rfl
 | c :: r, t, h, hx => by
  have hc:=hx c (List.mem_cons_self ..)
  simp only[List.map_cons,aM]
  rw[kF hc,lA (h.behind c) hc,gb r (h.behind c) fun d hd=>hx d (List.mem_cons_of_mem _ hd)]
theorem iR {t:Cd} (k h:Int) (h0:0≤h) (h1:h< 4):b6 (cA t k) h=b6 t ((h- k)% 4):=by
 have:h=0∨h=1∨h=2∨h=3:=by omega
 rcases this with rfl | rfl | rfl | rfl <;> rfl
theorem kG {t:Cd} (k:Int) (c:Nat):behind (cA t k) c=cA (behind t c) k:=by
 unfold behind cA
 simp only[Prod.mk.injEq,true_and]
 refine⟨rfl,?_⟩
 show((t.2.2+k)% 4+go c)% 4=((t.2.2+go c)% 4+k)% 4
 omega
theorem lB {t:Cd} (h:Card t) (k:Int) (c:Nat):da (cA t k) c=da t c:=by
 unfold da
 have e1:b6 (cA t k) (cA t k).2.2=b6 t t.2.2:=by
  show b6 (cA t k) ((t.2.2+k)% 4)=_
  rw[iR k _ (dy _).1 (dy _).2]
  have a:=h.low;have b:=h.high
  congr 1;show((t.2.2+k)% 4- k)% 4=_;omega
 have e2:b6 (cA t k) (((cA t k).2.2+2)% 4)=b6 t ((t.2.2+2)% 4):=by
  rw[iR k _ (dy _).1 (dy _).2]
  congr 1;show(((t.2.2+k)% 4+2)% 4- k)% 4=_;omega
 rw[e1,e2];rfl
theorem gc:∀(x:Tx) {t:Cd} (k:Int),Card t→aM (cA t k) x=aM t x
 | [],_,_,_=>rfl
 | c :: r, t, k, h => by
  simp only[aM]
  rw[kG,lB (h.behind c),gc r k (h.behind c)]
theorem rG {t:Cd} (h:Card t) {x:Tx} (hx:Turns x) (hl:x.length≤900) (cell:Int):(re t x cell).Ok fun r=>Card r.1∧Turns r.2∧r.2.length=x.length∧aM r.1 r.2=aM t x:=by
 unfold re vn
 refine kL (Res.Ok.imp (P:=fun r:Cd×Tx=>Card r.1∧Turns r.2∧r.2.length=x.length∧aM r.1 r.2=aM t x) (qL (fun _=>?_) fun _=>okR ⟨h,hx,rfl,rfl⟩) fun r ⟨h1,h2,h3,h4⟩=>?_)
 ·rw[kz h,Res.bind_ok',rC hx (by omega),Res.bind_ok']
  exact⟨h.flip,hJ hx,by simp,gb x h hx⟩
 ·rw[rB h1,Res.bind_ok']
  have hr:=h1.roll (cell/ 2% 4)
  have hp:aM (cA r.1 (cell/ 2% 4)) r.2=aM t x:=by rw[gc r.2 _ h1,h4]
  generalize cA r.1 (cell/ 2% 4)=R at hr hp ⊢
  refine kL (Res.Ok.imp (P:=fun c:Cd=>Card c∧aM c r.2=aM t x) (qL (fun _=>?_) fun _=>okR ⟨hr,hp⟩) fun c hc=>okR ⟨hc.1,h2,h3,hc.2⟩)
  obtain⟨l,el,_,_,_,hsh⟩:=rD hr h2 (by omega)
  rw[el,Res.bind_ok',show dm (4:Int)=Res.ok ((List.range 4).map fun(i:Nat)=>(i:Int))from rfl,Res.bind_ok']
  obtain⟨s,es,hs⟩:=fC (f:=tO cell l) (fun pre (s:Cd)=>Card s∧s.2.2=R.2.2∧aM s r.2=aM t x) ((List.range 4).map fun(i:Nat)=>(i:Int)) R ⟨hr,rfl,hp⟩ (by
   intro pre a post s e hs
   have ha:a∈(List.range 4).map fun(i:Nat)=>(i:Int):=by rw[e];simp
   obtain⟨i,hi,rfl⟩:=List.mem_map.mp ha
   obtain⟨t',e',h',hd⟩:=tz cell l hs.1 (List.mem_range.mp hi)
   refine⟨t',e',h',?_⟩
   rcases hd with rfl | ⟨hn,c,rfl⟩
   ·exact hs.2
   ·refine⟨hs.2.1,?_⟩
    rw[ly,hs.2.2]
    intro q
    refine hn ((hsh _).mpr ?_)
    rw[fV]at q ⊢
    rw[←hs.2.1];exact q)
  rw[es]
  exact⟨hs.1,hs.2.2⟩
theorem nH {t:Cd} (h:Card t) {c:Nat} (hc:cm c) {out:List Pl} (ho:out.length< 100000):tP gv mm [c] (t,out)=.ok (behind t c,out++ [da (behind t c) c]):=by
 unfold tP
 have hb:=h.behind c
 simp only[iO hc,Res.bind_ok',pN hc,tx (si _ _),cy hb hb.low hb.high,cy hb (dy _).1 (dy _).2]
 rw[eZ ho]
 rfl
theorem iS {t:Cd} (h:Card t) {x:Tx} (hx:Turns x) (hl:x.length≤10000):qc t x=.ok (aM t x):=by
 unfold qc vq
 have key:∀(x:Tx) (t:Cd) (out:List Pl),Card t→Turns x→out.length+x.length≤10000→forR (tP gv mm) (aZ x) (t,out)=.ok (ends t x,out++aM t x):=by
  intro x
  induction x with
  | nil=>intro t out _ _ _;simp[aZ,forR,ends,aM]
  | cons c r ih =>
   intro t out h hx hl
   simp only[List.length_cons]at hl
   show forR _ ([c]::aZ r) _=_
   unfold forR
   rw[nH h (hx c (by simp)) (by omega),Res.bind_ok',ih _ _ (h.behind c) (fun d hd=>hx d (by simp[hd])) (by simp;omega)]
   simp[ends,aM]
 rw[key x t [] h hx (by simpa using hl)]
 simp
theorem rH {t:Cd} (h:Card t) {x:Tx} (hx:Turns x) (hl:x.length≤900) (c:Int):(rf (t,x) c).Ok fun r=>Card r.1∧Turns r.2∧r.2.length≤x.length+2:=by
 unfold rf vo
 have hx0:x.length≤100000:=by omega
 rw[js hx0]
 simp only[Res.bind_ok']
 rw[fz (by split <;> omega),Res.bind_ok']
 obtain⟨k,ek,hk⟩:=lw (c/ 7% 3) (Int.emod_nonneg _ (by decide)) (Int.emod_lt_of_pos _ (by decide))
 rw[ek,Res.bind_ok']
 have b0:0≤c/ 4% (if(x.length:Int)> 1 then(x.length:Int)else 1):=Int.emod_nonneg _ (by split <;> omega)
 have b1:c/ 4% (if(x.length:Int)> 1 then(x.length:Int)else 1)< (if(x.length:Int)> 1 then(x.length:Int)else 1):=Int.emod_lt_of_pos _ (by split <;> omega)
 obtain⟨i,hi⟩:∃i:Nat,c/ 4% (if(x.length:Int)> 1 then(x.length:Int)else 1)=(i:Int):=⟨_,(Int.toNat_of_nonneg b0).symm⟩
 rw[hi]at b1 ⊢
 have hi2:i< x.length∨(i=0∧x.length=0):=by split at b1 <;> omega
 have T:∀lo hi,Turns (cut x lo hi):=fun lo hi d hd=>hx d (uv hd)
 refine kL (Res.Ok.imp (P:=fun y=>Turns y∧y.length≤x.length+1) (qL (fun _=>?_) fun _=>okR ⟨hx,by omega⟩) fun y hy=>?_)
 ·rw[fA hx0,Res.bind_ok',gU,f6 (by simp;omega),Res.bind_ok',show(i:Int)+1=((i+1:Nat):Int)from rfl,fA hx0,Res.bind_ok',jY,f6 (by simp;omega),Res.bind_ok']
  refine⟨fun d hd=>?_,by simp;omega⟩
  rcases List.mem_append.mp hd with z | z
  ·rcases List.mem_append.mp z with z | z
   ·exact hx d (List.mem_of_mem_take z)
   ·rw[List.mem_singleton.mp z];exact hk
  ·exact hx d (List.mem_of_mem_drop z)
 ·refine kL (Res.Ok.imp (P:=Card) (qL (fun _=>?_) fun _=>okR h) fun t2 h2=>?_)
  ·obtain⟨q,eq,q0,q1⟩:=pR (c/ 16% 26) (Int.emod_nonneg _ (by decide)) (Int.emod_lt_of_pos _ (by decide))
   rw[eq,Res.bind_ok']
   have c0:=Int.emod_nonneg (c/ 4) (show(4:Int)≠0 by decide)
   have c1:=Int.emod_lt_of_pos (c/ 4) (show(0:Int)< 4 by decide)
   obtain⟨j,hj⟩:∃j:Nat,c/ 4% 4=(j:Int):=⟨_,(Int.toNat_of_nonneg c0).symm⟩
   rw[hj]at c1 ⊢
   exact kL (wx (pS h (by omega) q) (okR (h.dye j q0 q1)))
  ·have hy0:y.length≤100000:=by omega
   refine kL (Res.Ok.imp (P:=fun z=>Turns z∧z.length≤x.length+2) ?_ fun z hz=>?_)
   ·refine kL (Res.Ok.imp (P:=fun _=>True) (qL (fun _=>qL (fun _=>?_) fun _=>okR trivial) fun _=>okR trivial) fun b _=>vR (fun _=>?_) fun _=>okR ⟨hy.1,by omega⟩)
    ·rw[js hy0];exact trivial
    ·rw[f6 (by simp;omega),Res.bind_ok']
     refine⟨fun d hd=>?_,by simp;omega⟩
     rcases List.mem_append.mp hd with z | z
     ·exact hy.1 d z
     ·rw[List.mem_singleton.mp z];exact hk
   ·have hz0:z.length≤100000:=by omega
    refine kL (Res.Ok.imp (P:=fun z=>Turns z∧z.length≤x.length+2) ?_ fun z hz=>okR ⟨h2,hz⟩)
    refine kL (Res.Ok.imp (P:=fun _=>True) (qL (fun _=>okR trivial) fun _=>okR trivial) fun b _=>vR (fun _=>?_) fun _=>okR hz)
    rw[js hz0]
    simp only[Res.bind_ok']
    rw[fz (by omega)]
    simp only[Res.bind_ok',fA hz0]
    exact⟨fun d hd=>hz.1 d (uv hd),Nat.le_trans (qM _ _ _) hz.2⟩
def kH (a b:Tx):List (Nat×Nat):=[(0,a[0]?.getD 0,b[0]?.getD 0),(1,a[1]?.getD 0,b[1]?.getD 0),(2,a[2]?.getD 0,b[2]?.getD 0),(3,a[3]?.getD 0,b[3]?.getD 0)].filterMap fun p:Nat×Nat×Nat=>if p.2.1=p.2.2 then none else some (p.1,p.2.2)
theorem nI {t u:Cd} (h:Card t) (g:Card u):qd t u=.ok ((kH t.2.1 u.2.1).map Dd):=by
 obtain⟨a0,a1,a2,a3,ea⟩:=four h.four
 obtain⟨b0,b1,b2,b3,eb⟩:=four g.four
 unfold qd vH
 rw[ea,eb]
 rw[show cJ ((aZ [a0,a1,a2,a3]).zip (aZ [b0,b1,b2,b3]))=[((0:Int),(([a0]:Tx),([b0]:Tx))),(1,([a1],[b1])),(2,([a2],[b2])),(3,([a3],[b3]))]from rfl]
 rw[oY (g:=fun a:Int×(Tx×Tx)=>if a.2.1=a.2.2 then none else some (Dat.t [Dat.s [100,121,101],Dat.i a.1,Dat.s a.2.2])) (by simp) fun x _=>by
  by_cases z:x.2.1=x.2.2
  ·rw[if_neg (by simp[z]),if_pos z]
  ·rw[if_pos (by simp[z]),if_neg z]]
 unfold kH
 simp only[List.filterMap_cons,List.filterMap_nil,List.getElem?_cons_zero,List.getElem?_cons_succ,Option.getD_some,List.cons.injEq,and_true]
 congr 1
 by_cases q0:a0=b0 <;> by_cases q1:a1=b1 <;> by_cases q2:a2=b2 <;> by_cases q3:a3=b3 <;> simp[q0,q1,q2,q3,Dd]
theorem nJ (a b:Tx):(kH a b).length≤4:=by unfold kH;exact Nat.le_trans (List.length_filterMap_le _ _) (by simp)
structure Way (t:Cd) (x:Tx) (fs:List Dat) (t1:Cd) (x1:Tx):Prop where
 c:Card t1
 tu:Turns x1
 len:x1.length=x.length
 few:fs.length≤1
 go:∀r,forR (Z0t Z08) (fs++r) (t,x)=forR (Z0t Z08) r (t1,x1)
theorem Way.none {t:Cd} {x:Tx} (h:Card t) (hx:Turns x):Way t x [] t x:=⟨h,hx,rfl,by simp,fun _=>rfl⟩
theorem Way.flip {t:Cd} {x:Tx} (h:Card t) (hx:Turns x) (hl:x.length≤10000):Way t x [Ff] (cK t) (x.map dJ):=⟨h.flip,hJ hx,by simp,by simp,fun r=>by
 have:Z0t Z08 Ff (t,x)=.ok (cK t,x.map dJ):=by unfold Z0t;rw[iP h hx hl];rfl
 show forR (Z0t Z08) (Ff::r) (t,x)=_
 rw[show forR (Z0t Z08) (Ff::r) (t,x)=(Z0t Z08 Ff (t,x)).bind fun s=>forR (Z0t Z08) r s from rfl,this];rfl⟩
theorem Way.roll {t:Cd} {x:Tx} (h:Card t) (hx:Turns x) {k:Int} (h0:0≤k) (h1:k< 4):Way t x [Rr k] (cA t k) x:=⟨h.roll k,hx,rfl,by simp,fun r=>by
 have:Z0t Z08 (Rr k) (t,x)=.ok (cA t k,x):=by unfold Z0t;rw[nG h x h0 h1];rfl
 show forR (Z0t Z08) (Rr k::r) (t,x)=_
 rw[show forR (Z0t Z08) (Rr k::r) (t,x)=(Z0t Z08 (Rr k) (t,x)).bind fun s=>forR (Z0t Z08) r s from rfl,this];rfl⟩
theorem jy {α S γ:Type} {f:α→S→Res (Fl γ S)} {a:α} {r:List α} {s s':S} (h:f a s=.ok (.nx s')):dH f (a::r) s=dH f r s':=by
 show(f a s).bind _=_;rw[h];rfl
theorem jz {α S γ:Type} {f:α→S→Res (Fl γ S)} {a:α} {r:List α} {s:S} {v:γ} (h:f a s=.ok (.rt v)):dH f (a::r) s=.ok (.rt v):=by
 show(f a s).bind _=_;rw[h];rfl
theorem pX {S γ α:Type} {f:α→S→Res (Fl γ S)} {a b c:α} {s:S} {x y z:Prop} [Decidable x] [Decidable y] [Decidable z] {u v w:γ} (h1:f a s=.ok (if x then .nx s else .rt u)) (h2:f b s=.ok (if y then .nx s else .rt v)) (h3:f c s=.ok (if z then .nx s else .rt w)):
  dH f [a,b,c] s=.ok (if x then if y then if z then .nx s else .rt w else .rt v else .rt u):=by
 by_cases hx:x
 ·rw[if_pos hx]at h1 ⊢
  rw[jy h1]
  by_cases hy:y
  ·rw[if_pos hy]at h2 ⊢
   rw[jy h2]
   by_cases hz:z
   ·rw[if_pos hz]at h3 ⊢
    rw[jy h3];rfl
   ·rw[if_neg hz]at h3 ⊢
    rw[jz h3]
  ·rw[if_neg hy]at h2 ⊢
   rw[jz h2]
 ·rw[if_neg hx]at h1 ⊢
  rw[jz h1]
def rJ (p q:Pl):Option Tx:=if p.1≠q.1 then some [102,97,99,101]else if p.2.1≠q.2.1 then some [98,97,99,107]else if p.2.2≠q.2.2 then some [115,108,97,110,116]else none
theorem pY {p q:Pl} (h:rJ p q=none):p=q:=by
 unfold rJ at h
 by_cases h1:p.1=q.1
 ·by_cases h2:p.2.1=q.2.1
  ·by_cases h3:p.2.2=q.2.2
   ·exact Prod.ext h1 (Prod.ext h2 h3)
   ·simp[h1,h2,h3]at h
  ·simp[h1,h2]at h
 ·simp[h1]at h
def gq (a b:List Pl) (i:Nat):Option (Int×Tx):=(rJ (a[i]?.getD default) (b[i]?.getD default)).map fun s=>((i:Int),s)
def gd (a b:List Pl):Option (Int×Tx):=match (List.range (min a.length b.length)).findSome? (gq a b)with
 | some r=>some r
 | none=>if a.length=b.length then none else some (((min a.length b.length:Nat):Int),[101,110,100])
theorem lC {a b:List Pl} (h:gd a b=none):a=b:=by
 unfold gd at h
 split at h
 ·cases h
 ·rename_i hn
  split at h
  ·rename_i hl
   refine List.ext_getElem hl fun i h1 h2=>?_
   have:=List.findSome?_eq_none_iff.mp hn i (by simp;omega)
   unfold gq at this
   rw[Option.map_eq_none_iff]at this
   have q:=pY this
   rw[List.getElem?_eq_getElem h1,List.getElem?_eq_getElem h2]at q
   exact q
  ·cases h
theorem mv {a b:List Pl} :(if(b.length:Int)< (a.length:Int)then(b.length:Int)else(a.length:Int))=((min a.length b.length:Nat):Int):=by
 split <;> omega
theorem pZ {a b:List Pl} :cJ (a.zip b)=(List.range (min a.length b.length)).map fun(i:Nat)=>((i:Int),(a[i]?.getD default,b[i]?.getD default)):=by
 refine List.ext_getElem (by simp[cJ]) fun i h1 h2=>?_
 have ha:i< a.length:=by simp at h2;omega
 have hb:i< b.length:=by simp at h2;omega
 simp[cJ,List.getElem?_eq_getElem ha,List.getElem?_eq_getElem hb]
theorem rK (k:Int) (p q:Pl):sf (k,(p,q)) ()=.ok (match (rJ p q).map fun s=>some (k,s)with | some r=>.rt r | none=>.nx ()):=by
 have t0:∀p:Pl,jA p (0:Int)=.ok p.1:=fun _=>rfl
 have t1:∀p:Pl,jA p (1:Int)=.ok p.2.1:=fun _=>rfl
 have t2:∀p:Pl,jA p (2:Int)=.ok p.2.2:=fun _=>rfl
 unfold sf
 rw[show(cJ [([102,97,99,101],[98,97,99,107],[115,108,97,110,116]).1,([102,97,99,101],[98,97,99,107],[115,108,97,110,116]).2.1,([102,97,99,101],[98,97,99,107],[115,108,97,110,116]).2.2]:List (Int×Tx))=[(0,[102,97,99,101]),(1,[98,97,99,107]),(2,[115,108,97,110,116])]from rfl]
 have step:∀(i:Int) (s:Tx) (u v:Tx),jA p i=.ok u→jA q i=.ok v→t9 (k,(p,q)) (i,s) ()=.ok (if u=v then .nx ()else .rt (some (k,s))):=fun i s u v h1 h2=>by
  unfold t9
  dsimp only
  rw[h1,h2,Res.bind_ok',Res.bind_ok',Res.bind_ok']
  by_cases z:u=v <;> simp[z]
 rw[pX (step 0 _ _ _ (t0 p) (t0 q)) (step 1 _ _ _ (t1 p) (t1 q)) (step 2 _ _ _ (t2 p) (t2 q))]
 unfold rJ
 by_cases h1:p.1=q.1 <;> by_cases h2:p.2.1=q.2.1 <;> by_cases h3:p.2.2=q.2.2 <;> simp[h1,h2,h3]
theorem lD (a b:List Pl):pE a b=.ok (gd a b):=by
 unfold pE uM
 rw[iJ (f:=sf) (g:=fun x=>(rJ x.2.1 x.2.2).map fun s=>some (x.1,s)) _ (fun x _=>by obtain⟨k,p,q⟩:=x;rw[rK k p q];dsimp only;cases rJ p q <;> rfl),pZ,List.findSome?_map]
 have e:(List.range (min a.length b.length)).findSome? ((fun x:Int×(Pl×Pl)=>(rJ x.2.1 x.2.2).map fun s=>some (x.1,s)) ∘ fun(i:Nat)=>((i:Int),(a[i]?.getD default,b[i]?.getD default)))=((List.range (min a.length b.length)).findSome? (gq a b)).map some:=by
  rw[List.map_findSome?]
  congr 1
  funext i
  simp only[Function.comp,gq,Option.map_map]
  rfl
 rw[e]
 unfold gd
 cases (List.range (min a.length b.length)).findSome? (gq a b)with
 | some r=>rfl
 | none =>
  dsimp only[Option.map_none,Res.bind_ok']
  rw[mv]
  by_cases h:a.length=b.length
  ·simp[h]
  ·rw[if_pos (by simp;omega),if_neg h]
def Du (r:Int×Tx):Dat:=.t [.s [114,101,102,117,115,101,100],.l [.s [85,110,108,105,107,101]],.i r.1,.s r.2]
def nK:Option (Int×Tx)→Dat
 | some r=>Du r
 | none=>.t [.s [108,101,100]]
theorem tE {a b:List Pl} {i:Nat} (ha:i< a.length) (hb:i< b.length):tQ a b (i:Int) ()=.ok (match (gq a b i).map Du with | some r=>.rt r | none=>.nx ()):=by
 have t0:∀p:Pl,jA p (0:Int)=.ok p.1:=fun _=>rfl
 have t1:∀p:Pl,jA p (1:Int)=.ok p.2.1:=fun _=>rfl
 have t2:∀p:Pl,jA p (2:Int)=.ok p.2.2:=fun _=>rfl
 have ea:jM a (i:Int)=.ok (a[i]?.getD default):=oW (by omega) (by omega)
 have eb:jM b (i:Int)=.ok (b[i]?.getD default):=oW (by omega) (by omega)
 unfold tQ
 rw[show dm (3:Int)=.ok [0,1,2]from rfl,Res.bind_ok']
 unfold gq
 generalize a[i]?.getD default=p at ea
 generalize b[i]?.getD default=q at eb
 have step:∀(j:Int) (s:Tx) (u v:Tx),jA p j=.ok u→jA q j=.ok v→jM [([102,97,99,101]:Tx),([98,97,99,107]:Tx),([115,108,97,110,116]:Tx)] j=.ok s→uP a b (i:Int) j ()=.ok (if u=v then .nx ()else .rt (Du ((i:Int),s))):=fun j s u v h1 h2 h3=>by
  unfold uP
  rw[ea,eb,Res.bind_ok',Res.bind_ok',h1,h2,Res.bind_ok',Res.bind_ok',Res.bind_ok']
  by_cases z:u=v
  ·simp[z]
  ·rw[if_pos (by simp[z]),if_neg z,h3];rfl
 rw[pX (step 0 _ _ _ (t0 p) (t0 q) rfl) (step 1 _ _ _ (t1 p) (t1 q) rfl) (step 2 _ _ _ (t2 p) (t2 q) rfl)]
 unfold rJ
 by_cases h1:p.1=q.1 <;> by_cases h2:p.2.1=q.2.1 <;> by_cases h3:p.2.2=q.2.2 <;> simp[h1,h2,h3]
theorem q4 {a b:List Pl} (ha:a.length≤10000):qg a b=.ok (nK (gd a b)):=by
 unfold qg vJ
 rw[mv,iI (by omega),Res.bind_ok']
 rw[iJ (f:=tQ a b) (g:=fun x=>(gq a b x.toNat).map Du) _ (fun x hx=>by
  obtain⟨i,hi,rfl⟩:=List.mem_map.mp hx
  have:=List.mem_range.mp hi
  rw[tE (Nat.lt_of_lt_of_le this (Nat.min_le_left _ _)) (Nat.lt_of_lt_of_le this (Nat.min_le_right _ _)),Int.toNat_natCast]
  cases gq a b i <;> rfl),List.findSome?_map]
 have e:(List.range (min a.length b.length)).findSome? ((fun x:Int=>(gq a b x.toNat).map Du) ∘ fun(i:Nat)=>(i:Int))=((List.range (min a.length b.length)).findSome? (gq a b)).map Du:=by
  rw[List.map_findSome?]
  rfl
 rw[e]
 unfold gd
 cases (List.range (min a.length b.length)).findSome? (gq a b)with
 | some r=>rfl
 | none =>
  dsimp only[Option.map_none,Res.bind_ok']
  by_cases h:a.length=b.length
  ·simp[h,nK]
  ·rw[if_pos (by simp;omega),if_neg h];rfl
theorem wg {t u:Cd} {x y:Tx} (ht:Card t) (hu:Card u) (hx:Turns x) (hy:Turns y) (hl:x.length≤300) (e:aM t x=aM u y):∃road,nM (t,x) (u,y)=.ok road:=by
 have hly:y.length=x.length:=by have:=congrArg List.length e;rw[dz,dz]at this;exact this.symm
 obtain⟨fs,t1,x1,w1,l1,e1⟩:∃(fs:List Dat) (t1:Cd) (x1:Tx),Way t x fs t1 x1∧t1.1=u.1∧(if(!decide (t.1=u.1))then(eP ([]:List Dat) Ff).bind fun y16=>(Z08 (t,x) Ff).bind fun y19=>Res.ok (y19,y16)else Res.ok ((t,x),([]:List Dat)):Res (((Tx×Tx×Int)×Tx)×(List Dat)))=.ok ((t1,x1),fs):=by
  by_cases z:t.1=u.1
  ·exact⟨[],t,x,.none ht hx,z,by rw[if_neg (by simp[z])]⟩
  ·refine⟨[Ff],_,_,.flip ht hx (by omega),?_,?_⟩
   ·show(if t.1=[83]then([90]:Tx)else [83])=u.1
    rcases ht.lay with q | q <;> rcases hu.lay with q' | q' <;> rw[q,q']at z ⊢ <;> first | rfl | exact absurd rfl z
   ·rw[if_pos (by simp[z]),eZ (by simp),Res.bind_ok',iP ht hx (by omega)];rfl
 obtain⟨rs,t2,w2,l2,s2,e2⟩:∃(rs:List Dat) (t2:Cd),Way t1 x1 rs t2 x1∧t2.1=u.1∧t2.2.2=u.2.2∧(if(!decide (((u.2.2- t1.2.2)% 4)=(0:Int)))then(eP fs (Rr ((u.2.2- t1.2.2)% 4))).bind fun y46=>Res.ok y46 else Res.ok fs:Res (List Dat))=.ok (fs++rs):=by
  have b1:=w1.c.low;have b2:=w1.c.high;have b3:=hu.low;have b4:=hu.high
  by_cases z:(u.2.2- t1.2.2)% 4=0
  ·exact⟨[],t1,.none w1.c w1.tu,l1,by omega,by rw[if_neg (by simp[z])];simp⟩
  ·refine⟨[Rr ((u.2.2- t1.2.2)% 4)],_,.roll w1.c w1.tu (dy _).1 (dy _).2,l1,?_,?_⟩
   ·show(t1.2.2+(u.2.2- t1.2.2)% 4)% 4=u.2.2;omega
   ·rw[if_pos (by simp[z]),eZ (by have:=w1.few;omega)];rfl
 have e3:rm (t,x) (u,y)=.ok (fs++rs):=by
  unfold rm vG
  show((if(!decide (t.1=u.1))then(eP ([]:List Dat) Ff).bind fun y16=>(Z08 (t,x) Ff).bind fun y19=>Res.ok (y19,y16)else Res.ok ((t,x),([]:List Dat)):Res (((Tx×Tx×Int)×Tx)×(List Dat)))).bind _=_
  rw[e1,Res.bind_ok']
  show((if(!decide (((u.2.2- t1.2.2)% 4)=(0:Int)))then(eP fs (Rr ((u.2.2- t1.2.2)% 4))).bind fun y46=>Res.ok y46 else Res.ok fs:Res (List Dat))).bind _=_
  rw[e2];rfl
 have e4:forR (Z0t Z08) (fs++rs) (t,x)=.ok (t2,x1):=by
  rw[w1.go,←List.append_nil rs,w2.go];rfl
 have few:=w1.few;have few2:=w2.few
 have wl:=nJ t2.2.1 u.2.1
 refine⟨fs++rs++(kH t2.2.1 u.2.1).map Dd,?_⟩
 unfold nM uO
 rw[ej ht hx (by omega),Res.bind_ok',ej hu hy (by omega),Res.bind_ok',e,jx,Res.bind_ok']
 rw[if_neg (by decide),e3,Res.bind_ok',e4,Res.bind_ok']
 show(qd t2 u).bind _=_
 rw[nI w2.c hu,Res.bind_ok',qI (by simp;omega)]
theorem iT {s:List Int} (hs:s.length≤63) (k0:Nat) (hk0:k0≤60):(qb s (k0:Int)).Ok fun r=>Card r.1∧Turns r.2∧r.2.length≤240:=by
 unfold qb vf
 obtain⟨a,ea⟩:=iN hs k0 (by omega)
 obtain⟨b,eb⟩:=iN hs (k0+1) (by omega)
 obtain⟨n,en⟩:=iN hs (k0+2) (by omega)
 have e0:gm s (k0:Int)=.ok a:=ea
 have e1:gm s ((k0:Int)+1)=.ok b:=eb
 have e2:gm s ((k0:Int)+2)=.ok n:=en
 rw[e2,Res.bind_ok']
 refine kL (Res.Ok.imp (P:=fun k:Int=>0≤k∧k≤240) (qL (fun _=>okR ⟨by omega,by omega⟩) fun _=>okR ⟨by omega,by omega⟩) fun k hk=>?_)
 refine kL (Res.Ok.imp (P:=fun k:Int=>0≤k∧k≤240) (qL (fun _=>okR ⟨by omega,by omega⟩) fun _=>okR hk) fun k hk=>?_)
 rw[e0,Res.bind_ok',e1,Res.bind_ok']
 obtain⟨t,et,ht⟩:=rz a
 obtain⟨x,ex,hl,hx⟩:=pL b k.toNat (by omega)
 rw[Int.toNat_of_nonneg hk.1]at ex
 rw[et,Res.bind_ok',ex,Res.bind_ok']
 exact⟨ht,hx,by show x.length≤240;omega⟩
theorem kJ {a b:Cd×Tx} (h1:Card a.1) (h2:Card b.1) (h3:Turns a.2) (h4:Turns b.2) (hl:a.2.length≤300) (hl2:b.2.length≤300):qe a b=.ok (nK (gd (aM a.1 a.2) (aM b.1 b.2))):=by
 unfold qe vI
 cases hp:gd (aM a.1 a.2) (aM b.1 b.2)with
 | some r =>
  have:nM a b=.err (qV r.1 r.2):=by
   unfold nM uO
   rw[show nL a=.ok (aM a.1 a.2)from ej h1 h3 (by omega),Res.bind_ok',show nL b=.ok (aM b.1 b.2)from ej h2 h4 (by omega),Res.bind_ok',lD,hp,Res.bind_ok']
   rfl
  rw[this]
  show Res.ok (lu _ (qV r.1 r.2))=_
  unfold lu
  rw[se]
  rfl
 | none =>
  obtain⟨road,e⟩:=wg (t:=a.1) (x:=a.2) (u:=b.1) (y:=b.2) h1 h2 h3 h4 hl (lC hp)
  rw[show nM a b=.ok road from e]
  rfl
theorem q5 (o:Option (Int×Tx)):(nK o).le 24:=by
 cases o with
 | none=>simp[nK,Dat.le]
 | some r=>simp[nK,Du,Dat.le]
theorem tF (ns:List Int) (h:ns.length≤63):(pF ns).Ok (· =true):=by
 unfold pF mo
 rw[show ui (((7:Int),([98,97,99,107]:Tx)).1,((7:Int),([98,97,99,107]:Tx)).2) ((7:Int),([98,97,99,107]:Tx))=.ok true from sR rfl,Res.bind_ok',Res.bind_ok',if_neg (by decide)]
 refine kL ((iT h 0 (by omega)).imp fun a ⟨a1,a2,a3⟩=>?_)
 obtain⟨c3,e3⟩:=iN h 3 (by omega)
 obtain⟨c4,e4⟩:=iN h 4 (by omega)
 obtain⟨c5,e5⟩:=iN h 5 (by omega)
 rw[show gm ns (3:Int)=.ok c3 from e3,Res.bind_ok',show gm ns (4:Int)=.ok c4 from e4,show gm ns (5:Int)=.ok c5 from e5]
 refine kL (Res.Ok.imp (P:=fun r=>Card r.1∧Turns r.2∧r.2.length≤300) (kL ((rG a1 a2 (by omega) c3).imp fun b ⟨b1,b2,b3,b4⟩=>?_)) fun c ⟨g1,g2,g3⟩=>?_)
 ·rw[Res.bind_ok']
  exact(rH b1 b2 (by omega) c4).imp fun r ⟨r1,r2,r3⟩=>⟨r1,r2,by omega⟩
 ·simp only[Res.bind_ok']
  refine kL (Res.Ok.imp (P:=fun r=>Card r.1∧Turns r.2∧r.2.length≤300) (vR (fun _=>?_) fun _=>okR ⟨g1,g2,g3⟩) fun d ⟨d1,d2,d3⟩=>?_)
  ·exact kL ((iT h 6 (by omega)).imp fun r ⟨r1,r2,r3⟩=>okR ⟨r1,r2,by omega⟩)
  ·rw[iS a1 a2 (by omega),Res.bind_ok',iS d1 d2 (by omega),Res.bind_ok',kJ a1 d1 a2 d2 (by omega) d3,Res.bind_ok',q4 (by rw[dz];omega),Res.bind_ok',p0 rfl (q5 _),Res.bind_ok',Res.bind_ok',if_neg (by decide),kJ d1 a1 d2 a2 d3 (by omega),Res.bind_ok',q4 (by rw[dz];omega),Res.bind_ok',p0 rfl (q5 _)]
   exact rfl
end Mi
namespace PySem.W.Fast
def tw140001813534094272:=()
def tw10698057553749749337:=()
def tw13810262117814702294:=()
def tw5323657890516693427:=()
def tw17613222154834848340:=()
def tw5344687154915797982:=()
def tw855453113358079251:=()
def tw1835071406663858368:=()
def tw15752536640612570366:=()
def tw4189273013823423559:=()
def tw13861969467909019144:=()
def tw18437792190763421558:=()
def tw14565471765716263578:=()
def tw6548459193220583526:=()
def tw9495317472360511255:=()
def tw1420270799746587975:=()
def tw14842496431369740429:=()
def tw6858818405166986180:=()
def tw15779231459743154856:=()
def tw12147665669636231765:=()
def tw819570635367399668:=()
def tw17691633702590694504:=()
def tw17318462890700432884:=()
def tw12297992134047619483:=()
def tw1362719966239716679:=()
def tw447263597446747957:=()
def tw9879335643197240621:=()
def tw10159399881129095643:=()
def tw6472337539984862722:=()
def tw15042883488752021643:=()
def tw3374319085511977134:=()
def tw8060666987683057360:=()
def tw14961746396406840608:=()
def tw13769103115541136327:=()
def tw1205274952441263945:=()
def tw726351398001015727:=()
def tw18418582437962087742:=()
def tw9464783005390448368:=()
def tw11766667032028208565:=()
def tw6056707288978253535:=()
def tw9919008367099125623:=()
def tw5890639436620234070:=()
def tw16766683885213920930:=()
def tw87601786513091389:=()
def tw17339309145561079191:=()
def tw14170518179582410385:=()
def tw13055953723892786844:=()
def tw15831126876759372255:=()
def tw7485256538410118956:=()
def tw12843764043397292189:=()
def tw14847308668706973960:=()
def tw14993981098963755598:=()
def tw1342123614928995077:=()
def tw6953138203311097117:=()
def tw13114645530532618160:=()
def tw16636501806038632012:=()
def tw4493901809537577575:=()
def tw15577281813014381367:=()
def tw3300257896294614128:=()
def tw10519837036962490867:=()
def tw13385558918117058561:=()
def tw17483705464198625004:=()
def tw9536688357841153863:=()
def tw1725486776273817318:=()
def tw209982475168477708:=()
def tw16919654943277366748:=()
def tw2353497105660221152:=()
def tw17744993626210230056:=()
def tw8899516883271353254:=()
def tw5667099127317398114:=()
def tw16203965252921439515:=()
def tw15173544498738437827:=()
def tw15433366417846715934:=()
def tw11513857634932158529:=()
def tw15925456577456769635:=()
def tw6469784823511061222:=()
def tw10910644110388302437:=()
def tw6162269159774324313:=()
def tw14537775516033599862:=()
def tw17292613610259460706:=()
def tw5002640475654186023:=()
def tw12960429369202013873:=()
def tw1383625962624193546:=()
def tw8737599933303070863:=()
def tw12917704675397863716:=()
def tw8411140720231674872:=()
def tw17062427158221528723:=()
def tw15861351967447197489:=()
def tw12099505692703838030:=()
def tw16050004879076529386:=()
def tw4849480874435393781:=()
def tw6549852094080907030:=()
def tw1478030337931831861:=()
def tw14664691819916384248:=()
def tw861502493610598483:=()
def tw15254633091992210921:=()
def tw5449601097390414333:=()
def tw1922157984580058403:=()
def tw4323258101793500111:=()
def tw17214186515701724070:=()
def tw6356304189028158447:=()
def tw9806118890596472461:=()
def tw12652081859355081885:=()
def tw8002303944043701648:=()
def tw1142673529048489019:=()
def tw17817366049700826239:=()
def tw10842938092177581297:=()
def tw4077048163395320219:=()
def tw11823594873375168262:=()
def tw12459912946257978736:=()
def tw13812277999558781770:=()
def tw11738243743197964597:=()
def tw17338325484393633139:=()
def tw6575520176995025181:=()
def tw1950803216711332702:=()
def tw7424060955962978353:=()
def tw4971374062829452455:=()
def tw10624116801336726872:=()
def tw7933485763601977624:=()
def tw12727641955093265886:=()
def tw4483904966330829159:=()
def tw12488014758255163090:=()
def tw13757698761724263525:=()
def tw2261719852989239553:=()
def tw9456574344343218679:=()
def tw4580019852769339753:=()
def tw14958820412457663293:=()
def tw11401859456886640639:=()
def tw5072417060200589145:=()
def tw5872530126848033075:=()
def tw8576567503900213490:=()
def tw1495895850433845275:=()
def tw18183970276198133131:=()
def tw4699756791338806529:=()
def tw15240619367488684849:=()
def tw14963028359598502718:=()
def tw4171853373547519906:=()
def tw2084650752826471497:=()
def tw8171798328758944481:=()
def tw938635154573522699:=()
def tw1599053048872161195:=()
def tw2570914705882880060:=()
def tw8186657734068701312:=()
def tw17170472223608059050:=()
def tw3419001889969749887:=()
def tw18209549738250274047:=()
def tw9757595895972200118:=()
def tw10510056951384868246:=()
def tw9950792792127014553:=()
def tw2741014181512449073:=()
def tw13855379610559885079:=()
def tw15402603294489630176:=()
def tw4635989785427082552:=()
def tw11384182702204212275:=()
def tw6702445572142316249:=()
def tw514280064592716601:=()
def tw6968137755033780318:=()
def tw6557801498797044033:=()
def tw2400638427578300857:=()
def tw3721919958574915784:=()
def tw6229817132586351632:=()
def tw10412075610228548120:=()
def tw2107523057676978006:=()
def tw15214748959534726111:=()
def tw14904681115217272601:=()
def tw16108870410212019532:=()
def tw3042748168174471775:=()
def tw3671519592330383864:=()
def tw18073898193381586223:=()
def tw3300454383303005205:=()
def tw7476452910721959123:=()
def tw12887044766017154078:=()
def tw9972681490609642005:=()
def tw3239113980409921550:=()
def tw3681537716864247207:=()
def tw8733291241859026926:=()
def tw14172470266813156586:=()
def tw890339118813698166:=()
def tw16298917771340976007:=()
def tw1937721966566455358:=()
def tw8498532028676091811:=()
def tw3543459598558145280:=()
def tw14592624751514493413:=()
def tw14903569129155370506:=()
def tw18101783494082082527:=()
def tw13956191218907399338:=()
def tw16248296213531012650:=()
def tw10374632558016547081:=()
def tw13034982811429478159:=()
def tw17590705303994421779:=()
def tw4562827626845409882:=()
def tw6420159726195949164:=()
def tw2399617604181995578:=()
def tw2941924889016668590:=()
def tw643336161829623379:=()
def tw6522051377940421278:=()
def tw14760874974797668852:=()
def tw16409965706819354750:=()
def tw1467881925912835984:=()
def tw1607123104830579860:=()
def tw9796564346219866840:=()
def tw11692469974320434101:=()
def tw17464319187374939960:=()
def tw11564986514327137767:=()
def tw1956260828630720203:=()
def tw12772213712371865176:=()
def tw12740759652641322565:=()
def tw10826640976665885199:=()
def tw10016166984437732892:=()
def tw6128145076113358165:=()
def tw2295934692909999376:=()
def tw14226173905949225808:=()
def tw14074196154385387334:=()
def tw3369672764066864390:=()
def tw4859391219904099992:=()
def tw14689541978594310382:=()
def tw8331849164307833061:=()
def tw12382822922155266910:=()
def tw7217548393331319763:=()
def tw5537553045615171315:=()
def tw9977182230042388008:=()
def tw11421057715548341654:=()
def tw12431713363859531893:=()
def tw11907897558876765624:=()
def tw2646887283097553488:=()
def tw2144661209622563809:=()
def tw14391293386007564604:=()
def tw256976265262469064:=()
def tw140236481695663071:=()
def tw3382625519597670723:=()
def tw1708089923452030704:=()
def tw17187875760726034783:=()
def tw1864683662541468164:=()
def tw13444670453868202053:=()
def tw5498123283257192965:=()
def tw11521511281804667912:=()
def tw3520257249291928256:=()
def tw2692750590507578028:=()
def tw1532491051758110099:=()
def tw4953865588907285216:=()
def tw11408881796089955267:=()
def tw18146532975450069615:=()
def tw6607644564249050058:=()
def tw2694234056635809718:=()
def tw11853640710764476214:=()
def tw5438652380644606353:=()
def tw2135409205425526673:=()
def tw15227483606004533461:=()
def tw13913613514976480042:=()
def tw1070438729232803039:=()
def tw258204147387103276:=()
def tw866717566613908145:=()
def tw2595585439558603231:=()
def tw6512149657230936976:=()
def tw16053306600634468012:=()
def tw5101696844757716304:=()
def tw13462424878891718212:=()
def tw14935467056822913822:=()
def tw3308634892276815127:=()
def tw4548300405975405348:=()
def tw14827714588952709054:=()
def tw16864618592142003386:=()
def tw16226643914720891334:=()
def tw16955839230299176341:=()
def tw3953844824629472508:=()
def tw2789304352393801511:=()
def tw7480016910919988345:=()
def tw8157277791214410489:=()
def tw5000232492035539693:=()
def tw13469501207593853456:=()
def tw10042083083395451092:=()
def tw8431482922422412695:=()
def tw896878414759379649:=()
def tw8565224436197482051:=()
def tw5467331546851215429:=()
def tw6427576097997697322:=()
def tw16873086082458093902:=()
def tw8047209995159408440:=()
def tw1000662321505670351:=()
def tw11266997524610791606:=()
def tw5702276774652866934:=()
def tw8865387616306378214:=()
def tw16279288168775177219:=()
def tw5994696166404524948:=()
def tw772564365185477556:=()
def tw17334828202450815106:=()
def tw9947508896943372755:=()
def tw16682895059504647277:=()
def tw3099597729799864441:=()
def tw2483420100392427323:=()
def tw2950685276103557050:=()
def tw8739830900816887780:=()
def tw6798380500665416597:=()
def tw6170744672141170255:=()
def tw2786648768249225349:=()
def tw4046790133079468173:=()
def tw7322748291113730364:=()
def tw17659185236578331656:=()
def tw13946496683202179788:=()
def tw7867829370405329436:=()
def tw28018229315631829:=()
def tw14261769069557060686:=()
def tw6782663255696616371:=()
def tw2466311954974566718:=()
def tw2931988195819169919:=()
def tw8219003486749837733:=()
def tw4015202173357781934:=()
def tw4436474186459923750:=()
def tw13622603851894308203:=()
def tw4804111812005502284:=()
def tw3215387988796971590:=()
def tw3985964047577975286:=()
def tw443766864951011646:=()
def tw17267597263503486738:=()
def tw6030501089693204938:=()
def tw15554417296805563061:=()
def tw10294118229990073760:=()
def tw561727478393794602:=()
def tw9116068151291705539:=()
def tw14782755387869428366:=()
def tw1634665924446219690:=()
def tw4906484309439969231:=()
def tw14520296925931582552:=()
def tw13135312941875745310:=()
def tw15590096980072825465:=()
def tw10390936311373634846:=()
def tw10792498714594961201:=()
def tw14243238205550065757:=()
def tw16670775579421159206:=()
def tw991626836265849350:=()
def tw15541240446876304647:=()
def tw15163409612377130007:=()
def tw11502921971960690029:=()
def tw17351735930882485243:=()
def tw15528221797031607849:=()
def tw13053770412826190925:=()
def tw15166322114958858414:=()
def tw10297410513487048360:=()
def tw4309217394794523951:=()
def tw2455152089536381482:=()
def tw13674586047789940208:=()
def tw14383893971135437652:=()
def tw16615150188913437886:=()
def tw12188032599808994241:=()
def tw8912161614967838395:=()
def tw4734895289157585001:=()
def tw4683681711962371626:=()
def tw18367749455379333440:=()
def tw2827255003249426055:=()
def tw2228412568605170491:=()
def tw14746253646979254834:=()
def tw10295913840692754127:=()
def tw17760279517084355780:=()
def tw10341888390210383824:=()
def tw3919386906821981792:=()
def tw14022695629967993375:=()
def tw7774113678449685934:=()
def tw13669536469129627823:=()
def tw1207101557538958131:=()
def tw4684226298888400098:=()
def tw13437419889732721216:=()
def tw10879749546641988924:=()
def tw5217270863462422736:=()
def tw3998647374267775353:=()
def tw16217903435359918192:=()
def tw9387514328989991554:=()
def tw18157406047293677543:=()
def tw15127105006835628225:=()
def tw17724038513149304489:=()
def tw17653592248189364939:=()
def tw896239598344801917:=()
def tw1956775160557780875:=()
def tw599730875272715187:=()
def tw3615178456390077923:=()
def tw12408111787983249662:=()
def tw8159993647027272844:=()
def tw446995266069924076:=()
def tw8432719020341155521:=()
def tw1717767836212652739:=()
def tw1915925776726481438:=()
def tw17710873009340938204:=()
def tw11429584451438056573:=()
def tw3641951560692057861:=()
def tw8972062959192195235:=()
def tw14831331821628862639:=()
def tw13953587524928339648:=()
def tw12903330217458380548:=()
def tw12670982853097334264:=()
def tw15621415185263527259:=()
def tw9331231397406362311:=()
def tw977512076041815475:=()
def tw10876078143196172821:=()
def tw16721508838639397229:=()
def tw6278996535519779258:=()
def tw12405761042648551022:=()
def tw15685335758407661847:=()
def tw16902440903046159558:=()
def tw9630203353718772412:=()
def tw15805137534098808535:=()
def tw15018716904364860632:=()
def tw2474200967059427378:=()
def tw11962351593759143498:=()
def tw7212858340449540239:=()
def tw10988312798546598065:=()
def tw3235425350174046738:=()
def tw4075453323654395381:=()
def tw4480162626587320490:=()
def tw17435391645217708394:=()
def tw11373181179767321252:=()
def tw547895379624588593:=()
def tw12269216009862288129:=()
def tw16723463757517087524:=()
def tw7374399212775623666:=()
def tw9402243437249704421:=()
def tw8422229294311615681:=()
def tw6542358382571353910:=()
def tw7943549864190904611:=()
def tw4547051000311932777:=()
def tw5622701340561072331:=()
def tw3270257207059953099:=()
def tw18293242582946804979:=()
def tw8374155422468719031:=()
def tw14219159868682941630:=()
def tw16120054744476736488:=()
def tw7086961617601330827:=()
def tw8997383693586321770:=()
def tw10258873121960336067:=()
def tw16607193741793207195:=()
def tw14611616552423853409:=()
def tw16756451883985382160:=()
def tw6105849179199505303:=()
def tw8949853181751564097:=()
def tw9784134513789038367:=()
def tw7757449499910696437:=()
def tw1825952489489211193:=()
def tw3365755272349913518:=()
def tw17678831435119133177:=()
def tw9582823730064241283:=()
def tw15235614512728720:=()
def tw8285278889055680438:=()
def tw11066385474520676512:=()
def tw15895094517606616290:=()
def tw14387916025512776202:=()
def tw6822071536725586909:=()
def tw14424681132571578402:=()
def tw17013487888433625170:=()
def tw1719895430356276633:=()
def tw8080008513338510535:=()
def tw11898673842065290130:=()
def tw9689729476882780088:=()
def tw9404705873571188630:=()
def tw10325601046913268018:=()
def tw9860861378791804195:=()
def tw16728255500844073214:=()
def tw2187251505897268136:=()
def tw1979317910248211280:=()
end PySem.W.Fast
section
open PySem PySem.W PyProof.Rows
set_option maxHeartbeats 0 in
open_top hd for PySem.Challenge.rw_wornband_k22_unlike_strands
end
namespace Wb
open PySem L2 Mi
theorem rL {K:PySem.W.Frag} :∀vs H Q E,mq K vs H Q E→bY (isScr K) (rs isB) pF vs H Q E:=fun vs H Q E ⟨a,ns,h1,h2,h3,h4⟩=>
 ⟨⟨H,H,.refl _⟩,ns,.ref a,rfl,h1,⟨a,rfl,h2⟩,fun _=>False,Res.Ok.e ((tF ns h3).imp fun r hr u W' _ hu=>by cases hr;cases hu;exact h4 _)⟩
theorem fin_mk {l:PySem.W.OpenLaw} {w:World} {K:PySem.W.Frag} {h:Heap} {mg:Str→Option Value} {fa:Addr} {Z1K:Addr} {Zbb Zbc:Option Addr} {Zbd:Array (Option Value)} {Zbe Zbf Zbg Zbh Z6o Zbi:Value} {Z4e:Addr} {ZeD ZeE:Option Addr} {ZeF:Array (Option Value)} {ZeG ZeH ZeI ZeJ Z8j ZeK:Value} {Z35:Addr} {Zd2 Zd3:Option Addr} {Zd4:Array (Option Value)} {Zd5 Zd6 Zd7 Zd8 Z7i Zd9:Value} {Z23:Addr} {Z9P Z9Q:Option Addr} {Z9R:Array (Option Value)} {Z9S Z9T Z9U Z9V Z65 Z9W:Value} {Z2y:Addr} {Zbj Zbk:Option Addr} {Zbl:Array (Option Value)} {Zbm Zbn Zbo Zbp Z6p Zbq:Value} {Z24:Addr} {Z9X Z9Y:Option Addr} {Z9Z:Array (Option Value)} {Za0 Za1 Za2 Za3 Z66 Za4:Value} {Z1O:Addr} {Z8Q Z8R:Option Addr} {Z8S:Array (Option Value)} {Z8T Z8U Z8V Z8W Z5d Z8X:Value} {Z1r:Addr} {Z7D Z7E:Option Addr} {Z7F:Array (Option Value)} {Z7G Z7H Z7I Z7J Z3w Z7K:Value} {Z2z:Addr} {Zbr Zbs:Option Addr} {Zbt:Array (Option Value)} {Zbu Zbv Zbw Zbx Z6q Zby:Value} {Z2A:Addr} {Zbz ZbA:Option Addr} {ZbB:Array (Option Value)} {ZbC ZbD ZbE ZbF Z6r ZbG:Value} {Z4f:Addr} {ZeL ZeM:Option Addr} {ZeN:Array (Option Value)} {ZeO ZeP ZeQ ZeR Z8k ZeS:Value} {Z1P:Addr} {Z8Y Z8Z:Option Addr} {Z90:Array (Option Value)} {Z91 Z92 Z93 Z94 Z5e Z95:Value} {Z2B:Addr} {ZbH ZbI:Option Addr} {ZbJ:Array (Option Value)} {ZbK ZbL ZbM ZbN Z6s ZbO:Value} {Z36:Addr} {Zda Zdb:Option Addr} {Zdc:Array (Option Value)} {Zdd Zde Zdf Zdg Z7j Zdh:Value} {Z2C:Addr} {ZbP ZbQ:Option Addr} {ZbR:Array (Option Value)} {ZbS ZbT ZbU ZbV Z6t ZbW:Value} {Z25:Addr} {Za5 Za6:Option Addr} {Za7:Array (Option Value)} {Za8 Za9 Zaa Zab Z67 Zac:Value} {Z1Q:Addr} {Z96 Z97:Option Addr} {Z98:Array (Option Value)} {Z99 Z9a Z9b Z9c Z5f Z9d:Value} {Z5v:Addr} {Zgd Zge:Option Addr} {Zgf:Array (Option Value)} {Zgg Zgh Zgi Zgj Z9E Zgk:Value} {f_top:Addr} {od_top an_top:Option Addr} {sl_top:Array (Option Value)} {oc_top kV_top dc_top pm_top cd_top ct_top:Value} {Z5w:Addr} {Zgl Zgm:Option Addr} {Zgn:Array (Option Value)} {Zgo Zgp Zgq Zgr Z9F Zgs:Value} {Z37:Addr} {Zdi Zdj:Option Addr} {Zdk:Array (Option Value)} {Zdl Zdm Zdn Zdo Z7k Zdp:Value} {Z26:Addr} {Zad Zae:Option Addr} {Zaf:Array (Option Value)} {Zag Zah Zai Zaj Z68 Zak:Value} {Z7e:Addr} {ZhG ZhH:Option Addr} {ZhI:Array (Option Value)} {ZhJ ZhK ZhL ZhM ZbX ZhN:Value} {Z4g:Addr} {ZeT ZeU:Option Addr} {ZeV:Array (Option Value)} {ZeW ZeX ZeY ZeZ Z8l Zf0:Value} {Z27:Addr} {Zal Zam:Option Addr} {Zan:Array (Option Value)} {Zao Zap Zaq Zar Z69 Zas:Value} {Z4h:Addr} {Zf1 Zf2:Option Addr} {Zf3:Array (Option Value)} {Zf4 Zf5 Zf6 Zf7 Z8m Zf8:Value} {Z38:Addr} {Zdq Zdr:Option Addr} {Zds:Array (Option Value)} {Zdt Zdu Zdv Zdw Z7l Zdx:Value} {Z5x:Addr} {Zgt Zgu:Option Addr} {Zgv:Array (Option Value)} {Zgw Zgx Zgy Zgz Z9G ZgA:Value} {Z8n:Addr} {Zid Zie:Option Addr} {Zif:Array (Option Value)} {Zig Zih Zii Zij Zeu Zik:Value} {Z8o:Addr} {Zil Zim:Option Addr} {Zin:Array (Option Value)} {Zio Zip Ziq Zir Zev Zis:Value} {Z4i:Addr} {Zf9 Zfa:Option Addr} {Zfb:Array (Option Value)} {Zfc Zfd Zfe Zff Z8p Zfg:Value} {Z1s:Addr} {Z7L Z7M:Option Addr} {Z7N:Array (Option Value)} {Z7O Z7P Z7Q Z7R Z3x Z7S:Value} {Z1G:Addr} {Z8q Z8r:Option Addr} {Z8s:Array (Option Value)} {Z8t Z8u Z8v Z8w Z4j Z8x:Value} {Z7f:Addr} {ZhO ZhP:Option Addr} {ZhQ:Array (Option Value)} {ZhR ZhS ZhT ZhU ZbY ZhV:Value} {Z28:Addr} {Zat Zau:Option Addr} {Zav:Array (Option Value)} {Zaw Zax Zay Zaz Z6a ZaA:Value} {Z39:Addr} {Zdy Zdz:Option Addr} {ZdA:Array (Option Value)} {ZdB ZdC ZdD ZdE Z7m ZdF:Value} {f_law:Addr} {od_law an_law:Option Addr} {sl_law:Array (Option Value)} {oc_law kV_law dc_law pm_law cd_law ct_law:Value} {Z29:Addr} {ZaB ZaC:Option Addr} {ZaD:Array (Option Value)} {ZaE ZaF ZaG ZaH Z6b ZaI:Value} {Z0O:Tok} {Z1c:Addr} {ZdG:Nat} {x_OPPOSITES0 y_OPPOSITES0 x_OPPOSITES1 y_OPPOSITES1 x_OPPOSITES2 y_OPPOSITES2:Tok} {Z15:Addr} {ZbZ:Nat} {x_OTHER_LAYS0 y_OTHER_LAYS0 x_OTHER_LAYS1 y_OTHER_LAYS1:Tok} {Z3h:Addr} {Zit:Nat} {x_SIDES0 x_SIDES1 x_SIDES2:Tok} {Z1V:Addr} {ZhW:Nat} {x_SLANTS0 y_SLANTS0 x_SLANTS1 y_SLANTS1 x_SLANTS2 y_SLANTS2:Tok} {Z1p:Addr} {Ziu:Nat} {x_STEPS0 y_STEPS0 x_STEPS1 y_STEPS1 x_STEPS2 y_STEPS2:Tok} {Z04 Z4A:Addr} {Zc0 ZdH:Str} {Zc1 Zc2:List Value} {Zc3 Zc4:Bool} {Zc5:List Str} {Zc6:Option Bool} {Zc7:Option Addr} {Zc8 Zc9 Zca Zcb Zcc:Option Value} {Zcd:Value} {Zce:Option Addr} {Z3y:Array DictEntry} {Zcf:Nat} {Zcg:Array (Option Value)} {Z0i Z7n:Addr} {Zch ZdI:Str} {Zci Zcj:List Value} {Zck Zcl:Bool} {Zcm:List Str} {Zcn:Option Bool} {Zco:Option Addr} {Zcp Zcq Zcr Zcs Zct:Option Value} {Z0A Zcu:Addr} {ZgB ZhX:Str} {ZgC ZgD:List Value} {ZgE ZgF:Bool} {ZgG:List Str} {ZgH:Option Bool} {ZgI:Option Addr} {ZgJ ZgK ZgL ZgM ZgN:Option Value} {Z0v Z9H:Addr} {Zfh ZgO:Str} {Zfi Zfj:List Value} {Zfk Zfl:Bool} {Zfm:List Str} {Zfn:Option Bool} {Zfo:Option Addr} {Zfp Zfq Zfr Zfs Zft:Option Value} {Z0w Z9I:Addr} {Zfu ZgP:Str} {Zfv Zfw:List Value} {Zfx Zfy:Bool} {Zfz:List Str} {ZfA:Option Bool} {ZfB:Option Addr} {ZfC ZfD ZfE ZfF ZfG:Option Value} {Z0x Z9J:Addr} {ZfH ZgQ:Str} {ZfI ZfJ:List Value} {ZfK ZfL:Bool} {ZfM:List Str} {ZfN:Option Bool} {ZfO:Option Addr} {ZfP ZfQ ZfR ZfS ZfT:Option Value} {Z0n Z8y:Addr} {ZdJ ZfU:Str} {ZdK ZdL:List Value} {ZdM ZdN:Bool} {ZdO:List Str} {ZdP:Option Bool} {ZdQ:Option Addr} {ZdR ZdS ZdT ZdU ZdV:Option Value} {Z0o Z8z:Addr} {ZdW ZfV:Str} {ZdX ZdY:List Value} {ZdZ Ze0:Bool} {Ze1:List Str} {Ze2:Option Bool} {Ze3:Option Addr} {Ze4 Ze5 Ze6 Ze7 Ze8:Option Value} {Z0p Z8A:Addr} {Ze9 ZfW:Str} {Zea Zeb:List Value} {Zec Zed:Bool} {Zee:List Str} {Zef:Option Bool} {Zeg:Option Addr} {Zeh Zei Zej Zek Zel:Option Value} {Z0a Z6c:Addr} {Z9e ZaJ:Str} {Z9f Z9g:List Value} {Z9h Z9i:Bool} {Z9j:List Str} {Z9k:Option Bool} {Z9l:Option Addr} {Z9m Z9n Z9o Z9p Z9q:Option Value} {Z06 Z7T:Addr} {ZgR ZhY:Str} {ZgS ZgT:List Value} {ZgU ZgV:Bool} {ZgW:List Str} {ZgX:Option Bool} {ZgY:Option Addr} {ZgZ Zh0 Zh1 Zh2 Zh3:Option Value} {Z0d Z6u:Addr} {ZaK Zcv:Str} {ZaL ZaM:List Value} {ZaN ZaO:Bool} {ZaP:List Str} {ZaQ:Option Bool} {ZaR:Option Addr} {ZaS ZaT ZaU ZaV ZaW:Option Value} {Z0j Z7o:Addr} {Zcw Zem:Str} {Zcx Zcy:List Value} {Zcz ZcA:Bool} {ZcB:List Str} {ZcC:Option Bool} {ZcD:Option Addr} {ZcE ZcF ZcG ZcH ZcI:Option Value} {Z0B ZcJ:Addr} {Zh4 ZhZ:Str} {Zh5 Zh6:List Value} {Zh7 Zh8:Bool} {Zh9:List Str} {Zha:Option Bool} {Zhb:Option Addr} {Zhc Zhd Zhe Zhf Zhg:Option Value} {Zhh:Value} {Zhi:Option Addr} {Z6v:Array DictEntry} {Zhj:Nat} {Zhk:Array (Option Value)} {f_init:Addr} {od_init an_init:Option Addr} {sl_init:Array (Option Value)} {kV_init dc_init pm_init cd_init ct_init:Value} (X:K.In h) (G:h.Ns mainGlobals mg) (hfa:mg "law" =some (.ref fa))
  (Z2D:PySem.W.nsIn K mainGlobals "_law_same" =some (some (.ref Z1K)))
  (Z4B:K.lookup Z1K=some ⟨Zbe,Zbb,.func (PySem.W.fnOf "_law_same" "_law_same" (defArgs (tp 58)) (defBody (tp 58)) (defScope (tp 58)) .none Zbf Zbg Zbh Zbc Z6o Zbi),Zbd⟩)
  (Z4C:PySem.W.codeIn K Z6o "_law_same" =true)
  (Z1L:PySem.W.keepIn K (.ref Z1K)=true)
  (Z6w:PySem.W.nsIn K mainGlobals "_law_at" =some (some (.ref Z4e)))
  (Z6x:K.lookup Z4e=some ⟨ZeG,ZeD,.func (PySem.W.fnOf "_law_at" "_law_at" (defArgs (tp 46)) (defBody (tp 46)) (defScope (tp 46)) .none ZeH ZeI ZeJ ZeE Z8j ZeK),ZeF⟩)
  (Z6y:PySem.W.codeIn K Z8j "_law_at" =true)
  (Z4k:PySem.W.keepIn K (.ref Z4e)=true)
  (Z5y:PySem.W.nsIn K mainGlobals "_law_row" =some (some (.ref Z35)))
  (Z5z:K.lookup Z35=some ⟨Zd5,Zd2,.func (PySem.W.fnOf "_law_row" "_law_row" (defArgs (tp 42)) (defBody (tp 42)) (defScope (tp 42)) .none Zd6 Zd7 Zd8 Zd3 Z7i Zd9),Zd4⟩)
  (Z5A:PySem.W.codeIn K Z7i "_law_row" =true)
  (Z3a:PySem.W.keepIn K (.ref Z35)=true)
  (Z3z:PySem.W.nsIn K mainGlobals "_law_holes" =some (some (.ref Z23)))
  (Z3A:K.lookup Z23=some ⟨Z9S,Z9P,.func (PySem.W.fnOf "_law_holes" "_law_holes" (defArgs (tp 43)) (defBody (tp 43)) (defScope (tp 43)) .none Z9T Z9U Z9V Z9Q Z65 Z9W),Z9R⟩)
  (Z3B:PySem.W.codeIn K Z65 "_law_holes" =true)
  (Z2a:PySem.W.keepIn K (.ref Z23)=true)
  (Z4D:PySem.W.nsIn K mainGlobals "_law_card" =some (some (.ref Z2y)))
  (Z4E:K.lookup Z2y=some ⟨Zbm,Zbj,.func (PySem.W.fnOf "_law_card" "_law_card" (defArgs (tp 44)) (defBody (tp 44)) (defScope (tp 44)) .none Zbn Zbo Zbp Zbk Z6p Zbq),Zbl⟩)
  (Z4F:PySem.W.codeIn K Z6p "_law_card" =true)
  (Z2E:PySem.W.keepIn K (.ref Z2y)=true)
  (Z3C:PySem.W.nsIn K mainGlobals "_law_turns" =some (some (.ref Z24)))
  (Z3D:K.lookup Z24=some ⟨Za0,Z9X,.func (PySem.W.fnOf "_law_turns" "_law_turns" (defArgs (tp 45)) (defBody (tp 45)) (defScope (tp 45)) .none Za1 Za2 Za3 Z9Y Z66 Za4),Z9Z⟩)
  (Z3E:PySem.W.codeIn K Z66 "_law_turns" =true)
  (Z2b:PySem.W.keepIn K (.ref Z24)=true)
  (Z2L:PySem.W.nsIn K mainGlobals "_law_strand" =some (some (.ref Z1O)))
  (Z2M:K.lookup Z1O=some ⟨Z8T,Z8Q,.func (PySem.W.fnOf "_law_strand" "_law_strand" (defArgs (tp 47)) (defBody (tp 47)) (defScope (tp 47)) .none Z8U Z8V Z8W Z8R Z5d Z8X),Z8S⟩)
  (Z2N:PySem.W.codeIn K Z5d "_law_strand" =true)
  (Z1R:PySem.W.keepIn K (.ref Z1O)=true)
  (Z2c:PySem.W.nsIn K mainGlobals "_law_turnover" =some (some (.ref Z1r)))
  (Z2d:K.lookup Z1r=some ⟨Z7G,Z7D,.func (PySem.W.fnOf "_law_turnover" "_law_turnover" (defArgs (tp 52)) (defBody (tp 52)) (defScope (tp 52)) .none Z7H Z7I Z7J Z7E Z3w Z7K),Z7F⟩)
  (Z2e:PySem.W.codeIn K Z3w "_law_turnover" =true)
  (Z1t:PySem.W.keepIn K (.ref Z1r)=true)
  (Z4G:PySem.W.nsIn K mainGlobals "_law_back" =some (some (.ref Z2z)))
  (Z4H:K.lookup Z2z=some ⟨Zbu,Zbr,.func (PySem.W.fnOf "_law_back" "_law_back" (defArgs (tp 53)) (defBody (tp 53)) (defScope (tp 53)) .none Zbv Zbw Zbx Zbs Z6q Zby),Zbt⟩)
  (Z4I:PySem.W.codeIn K Z6q "_law_back" =true)
  (Z2F:PySem.W.keepIn K (.ref Z2z)=true)
  (Z4J:PySem.W.nsIn K mainGlobals "_law_roll" =some (some (.ref Z2A)))
  (Z4K:K.lookup Z2A=some ⟨ZbC,Zbz,.func (PySem.W.fnOf "_law_roll" "_law_roll" (defArgs (tp 54)) (defBody (tp 54)) (defScope (tp 54)) .none ZbD ZbE ZbF ZbA Z6r ZbG),ZbB⟩)
  (Z4L:PySem.W.codeIn K Z6r "_law_roll" =true)
  (Z2G:PySem.W.keepIn K (.ref Z2A)=true)
  (Z6z:PySem.W.nsIn K mainGlobals "_law_go" =some (some (.ref Z4f)))
  (Z6A:K.lookup Z4f=some ⟨ZeO,ZeL,.func (PySem.W.fnOf "_law_go" "_law_go" (defArgs (tp 48)) (defBody (tp 48)) (defScope (tp 48)) .none ZeP ZeQ ZeR ZeM Z8k ZeS),ZeN⟩)
  (Z6B:PySem.W.codeIn K Z8k "_law_go" =true)
  (Z4l:PySem.W.keepIn K (.ref Z4f)=true)
  (Z2O:PySem.W.nsIn K mainGlobals "_law_behind" =some (some (.ref Z1P)))
  (Z2P:K.lookup Z1P=some ⟨Z91,Z8Y,.func (PySem.W.fnOf "_law_behind" "_law_behind" (defArgs (tp 49)) (defBody (tp 49)) (defScope (tp 49)) .none Z92 Z93 Z94 Z8Z Z5e Z95),Z90⟩)
  (Z2Q:PySem.W.codeIn K Z5e "_law_behind" =true)
  (Z1S:PySem.W.keepIn K (.ref Z1P)=true)
  (Z4M:PySem.W.nsIn K mainGlobals "_law_seen" =some (some (.ref Z2B)))
  (Z4N:K.lookup Z2B=some ⟨ZbK,ZbH,.func (PySem.W.fnOf "_law_seen" "_law_seen" (defArgs (tp 55)) (defBody (tp 55)) (defScope (tp 55)) .none ZbL ZbM ZbN ZbI Z6s ZbO),ZbJ⟩)
  (Z4O:PySem.W.codeIn K Z6s "_law_seen" =true)
  (Z2H:PySem.W.keepIn K (.ref Z2B)=true)
  (Z5B:PySem.W.nsIn K mainGlobals "_law_kin" =some (some (.ref Z36)))
  (Z5C:K.lookup Z36=some ⟨Zdd,Zda,.func (PySem.W.fnOf "_law_kin" "_law_kin" (defArgs (tp 56)) (defBody (tp 56)) (defScope (tp 56)) .none Zde Zdf Zdg Zdb Z7j Zdh),Zdc⟩)
  (Z5D:PySem.W.codeIn K Z7j "_law_kin" =true)
  (Z3b:PySem.W.keepIn K (.ref Z36)=true)
  (Z4P:PySem.W.nsIn K mainGlobals "_law_hurt" =some (some (.ref Z2C)))
  (Z4Q:K.lookup Z2C=some ⟨ZbS,ZbP,.func (PySem.W.fnOf "_law_hurt" "_law_hurt" (defArgs (tp 57)) (defBody (tp 57)) (defScope (tp 57)) .none ZbT ZbU ZbV ZbQ Z6t ZbW),ZbR⟩)
  (Z4R:PySem.W.codeIn K Z6t "_law_hurt" =true)
  (Z2I:PySem.W.keepIn K (.ref Z2C)=true)
  (Z3F:PySem.W.nsIn K mainGlobals "_law_twist" =some (some (.ref Z25)))
  (Z3G:K.lookup Z25=some ⟨Za8,Za5,.func (PySem.W.fnOf "_law_twist" "_law_twist" (defArgs (tp 50)) (defBody (tp 50)) (defScope (tp 50)) .none Za9 Zaa Zab Za6 Z67 Zac),Za7⟩)
  (Z3H:PySem.W.codeIn K Z67 "_law_twist" =true)
  (Z2f:PySem.W.keepIn K (.ref Z25)=true)
  (Z2R:PySem.W.nsIn K mainGlobals "_law_places" =some (some (.ref Z1Q)))
  (Z2S:K.lookup Z1Q=some ⟨Z99,Z96,.func (PySem.W.fnOf "_law_places" "_law_places" (defArgs (tp 51)) (defBody (tp 51)) (defScope (tp 51)) .none Z9a Z9b Z9c Z97 Z5f Z9d),Z98⟩)
  (Z2T:PySem.W.codeIn K Z5f "_law_places" =true)
  (Z1T:PySem.W.keepIn K (.ref Z1Q)=true)
  (Z7U:PySem.W.nsIn K mainGlobals "turned" =some (some (.ref Z5v)))
  (Z7V:K.lookup Z5v=some ⟨Zgg,Zgd,.func (PySem.W.fnOf "turned" "turned" (defArgs (tp 23)) (defBody (tp 23)) (defScope (tp 23)) .none Zgh Zgi Zgj Zge Z9E Zgk),Zgf⟩)
  (Z7W:PySem.W.codeIn K Z9E "turned" =true)
  (Z5E:PySem.W.keepIn K (.ref Z5v)=true)
  (a_top:PySem.W.nsIn K mainGlobals "top" =some (some (.ref f_top)))
  (l_top:K.lookup f_top=some ⟨oc_top,od_top,.func (PySem.W.fnOf "top" "top" (defArgs (tp 20)) (defBody (tp 20)) (defScope (tp 20)) .none kV_top dc_top pm_top an_top cd_top ct_top),sl_top⟩)
  (c_top:PySem.W.codeIn K cd_top "top" =true)
  (k_top:PySem.W.keepIn K (.ref f_top)=true)
  (Z7X:PySem.W.nsIn K mainGlobals "bottom" =some (some (.ref Z5w)))
  (Z7Y:K.lookup Z5w=some ⟨Zgo,Zgl,.func (PySem.W.fnOf "bottom" "bottom" (defArgs (tp 21)) (defBody (tp 21)) (defScope (tp 21)) .none Zgp Zgq Zgr Zgm Z9F Zgs),Zgn⟩)
  (Z7Z:PySem.W.codeIn K Z9F "bottom" =true)
  (Z5F:PySem.W.keepIn K (.ref Z5w)=true)
  (Z5G:PySem.W.nsIn K mainGlobals "twisting" =some (some (.ref Z37)))
  (Z5H:K.lookup Z37=some ⟨Zdl,Zdi,.func (PySem.W.fnOf "twisting" "twisting" (defArgs (tp 22)) (defBody (tp 22)) (defScope (tp 22)) .none Zdm Zdn Zdo Zdj Z7k Zdp),Zdk⟩)
  (Z5I:PySem.W.codeIn K Z7k "twisting" =true)
  (Z3c:PySem.W.keepIn K (.ref Z37)=true)
  (Z3I:PySem.W.nsIn K mainGlobals "left_place" =some (some (.ref Z26)))
  (Z3J:K.lookup Z26=some ⟨Zag,Zad,.func (PySem.W.fnOf "left_place" "left_place" (defArgs (tp 30)) (defBody (tp 30)) (defScope (tp 30)) .none Zah Zai Zaj Zae Z68 Zak),Zaf⟩)
  (Z3K:PySem.W.codeIn K Z68 "left_place" =true)
  (Z2g:PySem.W.keepIn K (.ref Z26)=true)
  (Z9r:PySem.W.nsIn K mainGlobals "woven" =some (some (.ref Z7e)))
  (Z9s:K.lookup Z7e=some ⟨ZhJ,ZhG,.func (PySem.W.fnOf "woven" "woven" (defArgs (tp 31)) (defBody (tp 31)) (defScope (tp 31)) .none ZhK ZhL ZhM ZhH ZbX ZhN),ZhI⟩)
  (Z9t:PySem.W.codeIn K ZbX "woven" =true)
  (Z7g:PySem.W.keepIn K (.ref Z7e)=true)
  (Z6C:PySem.W.nsIn K mainGlobals "left_by" =some (some (.ref Z4g)))
  (Z6D:K.lookup Z4g=some ⟨ZeW,ZeT,.func (PySem.W.fnOf "left_by" "left_by" (defArgs (tp 33)) (defBody (tp 33)) (defScope (tp 33)) .none ZeX ZeY ZeZ ZeU Z8l Zf0),ZeV⟩)
  (Z6E:PySem.W.codeIn K Z8l "left_by" =true)
  (Z4m:PySem.W.keepIn K (.ref Z4g)=true)
  (Z3L:PySem.W.nsIn K mainGlobals "parting_of" =some (some (.ref Z27)))
  (Z3M:K.lookup Z27=some ⟨Zao,Zal,.func (PySem.W.fnOf "parting_of" "parting_of" (defArgs (tp 38)) (defBody (tp 38)) (defScope (tp 38)) .none Zap Zaq Zar Zam Z69 Zas),Zan⟩)
  (Z3N:PySem.W.codeIn K Z69 "parting_of" =true)
  (Z2h:PySem.W.keepIn K (.ref Z27)=true)
  (Z6F:PySem.W.nsIn K mainGlobals "flipped" =some (some (.ref Z4h)))
  (Z6G:K.lookup Z4h=some ⟨Zf4,Zf1,.func (PySem.W.fnOf "flipped" "flipped" (defArgs (tp 24)) (defBody (tp 24)) (defScope (tp 24)) .none Zf5 Zf6 Zf7 Zf2 Z8m Zf8),Zf3⟩)
  (Z6H:PySem.W.codeIn K Z8m "flipped" =true)
  (Z4n:PySem.W.keepIn K (.ref Z4h)=true)
  (Z5J:PySem.W.nsIn K mainGlobals "opposite" =some (some (.ref Z38)))
  (Z5K:K.lookup Z38=some ⟨Zdt,Zdq,.func (PySem.W.fnOf "opposite" "opposite" (defArgs (tp 26)) (defBody (tp 26)) (defScope (tp 26)) .none Zdu Zdv Zdw Zdr Z7l Zdx),Zds⟩)
  (Z5L:PySem.W.codeIn K Z7l "opposite" =true)
  (Z3d:PySem.W.keepIn K (.ref Z38)=true)
  (Z80:PySem.W.nsIn K mainGlobals "rolled" =some (some (.ref Z5x)))
  (Z81:K.lookup Z5x=some ⟨Zgw,Zgt,.func (PySem.W.fnOf "rolled" "rolled" (defArgs (tp 25)) (defBody (tp 25)) (defScope (tp 25)) .none Zgx Zgy Zgz Zgu Z9G ZgA),Zgv⟩)
  (Z82:PySem.W.codeIn K Z9G "rolled" =true)
  (Z5M:PySem.W.keepIn K (.ref Z5x)=true)
  (ZcK:PySem.W.nsIn K mainGlobals "seen" =some (some (.ref Z8n)))
  (ZcL:K.lookup Z8n=some ⟨Zig,Zid,.func (PySem.W.fnOf "seen" "seen" (defArgs (tp 34)) (defBody (tp 34)) (defScope (tp 34)) .none Zih Zii Zij Zie Zeu Zik),Zif⟩)
  (ZcM:PySem.W.codeIn K Zeu "seen" =true)
  (Z8B:PySem.W.keepIn K (.ref Z8n)=true)
  (ZcN:PySem.W.nsIn K mainGlobals "dyed" =some (some (.ref Z8o)))
  (ZcO:K.lookup Z8o=some ⟨Zio,Zil,.func (PySem.W.fnOf "dyed" "dyed" (defArgs (tp 36)) (defBody (tp 36)) (defScope (tp 36)) .none Zip Ziq Zir Zim Zev Zis),Zin⟩)
  (ZcP:PySem.W.codeIn K Zev "dyed" =true)
  (Z8C:PySem.W.keepIn K (.ref Z8o)=true)
  (Z6I:PySem.W.nsIn K mainGlobals "stepped" =some (some (.ref Z4i)))
  (Z6J:K.lookup Z4i=some ⟨Zfc,Zf9,.func (PySem.W.fnOf "stepped" "stepped" (defArgs (tp 35)) (defBody (tp 35)) (defScope (tp 35)) .none Zfd Zfe Zff Zfa Z8p Zfg),Zfb⟩)
  (Z6K:PySem.W.codeIn K Z8p "stepped" =true)
  (Z4o:PySem.W.keepIn K (.ref Z4i)=true)
  (Z2i:PySem.W.nsIn K mainGlobals "turning_steps" =some (some (.ref Z1s)))
  (Z2j:K.lookup Z1s=some ⟨Z7O,Z7L,.func (PySem.W.fnOf "turning_steps" "turning_steps" (defArgs (tp 39)) (defBody (tp 39)) (defScope (tp 39)) .none Z7P Z7Q Z7R Z7M Z3x Z7S),Z7N⟩)
  (Z2k:PySem.W.codeIn K Z3x "turning_steps" =true)
  (Z1u:PySem.W.keepIn K (.ref Z1s)=true)
  (Z2s:PySem.W.nsIn K mainGlobals "dyeing_steps" =some (some (.ref Z1G)))
  (Z2t:K.lookup Z1G=some ⟨Z8t,Z8q,.func (PySem.W.fnOf "dyeing_steps" "dyeing_steps" (defArgs (tp 40)) (defBody (tp 40)) (defScope (tp 40)) .none Z8u Z8v Z8w Z8r Z4j Z8x),Z8s⟩)
  (Z2u:PySem.W.codeIn K Z4j "dyeing_steps" =true)
  (Z1H:PySem.W.keepIn K (.ref Z1G)=true)
  (Z9u:PySem.W.nsIn K mainGlobals "steps" =some (some (.ref Z7f)))
  (Z9v:K.lookup Z7f=some ⟨ZhR,ZhO,.func (PySem.W.fnOf "steps" "steps" (defArgs (tp 37)) (defBody (tp 37)) (defScope (tp 37)) .none ZhS ZhT ZhU ZhP ZbY ZhV),ZhQ⟩)
  (Z9w:PySem.W.codeIn K ZbY "steps" =true)
  (Z7h:PySem.W.keepIn K (.ref Z7f)=true)
  (Z3O:PySem.W.nsIn K mainGlobals "_law_tried" =some (some (.ref Z28)))
  (Z3P:K.lookup Z28=some ⟨Zaw,Zat,.func (PySem.W.fnOf "_law_tried" "_law_tried" (defArgs (tp 61)) (defBody (tp 61)) (defScope (tp 61)) .none Zax Zay Zaz Zau Z6a ZaA),Zav⟩)
  (Z3Q:PySem.W.codeIn K Z6a "_law_tried" =true)
  (Z2l:PySem.W.keepIn K (.ref Z28)=true)
  (Z5N:PySem.W.nsIn K mainGlobals "_law_due" =some (some (.ref Z39)))
  (Z5O:K.lookup Z39=some ⟨ZdB,Zdy,.func (PySem.W.fnOf "_law_due" "_law_due" (defArgs (tp 60)) (defBody (tp 60)) (defScope (tp 60)) .none ZdC ZdD ZdE Zdz Z7m ZdF),ZdA⟩)
  (Z5P:PySem.W.codeIn K Z7m "_law_due" =true)
  (Z3e:PySem.W.keepIn K (.ref Z39)=true)
  (a_law:PySem.W.nsIn K mainGlobals "law" =some (some (.ref f_law)))
  (l_law:K.lookup f_law=some ⟨oc_law,od_law,.func (PySem.W.fnOf "law" "law" (defArgs (tp 62)) (defBody (tp 62)) (defScope (tp 62)) .none kV_law dc_law pm_law an_law cd_law ct_law),sl_law⟩)
  (c_law:PySem.W.codeIn K cd_law "law" =true)
  (k_law:PySem.W.keepIn K (.ref f_law)=true)
  (Z3R:PySem.W.nsIn K mainGlobals "_law_kinds" =some (some (.ref Z29)))
  (Z3S:K.lookup Z29=some ⟨ZaE,ZaB,.func (PySem.W.fnOf "_law_kinds" "_law_kinds" (defArgs (tp 59)) (defBody (tp 59)) (defScope (tp 59)) .none ZaF ZaG ZaH ZaC Z6b ZaI),ZaD⟩)
  (Z3T:PySem.W.codeIn K Z6b "_law_kinds" =true)
  (Z2m:PySem.W.keepIn K (.ref Z29)=true)
  (z_ValueError:PySem.W.nsIn K mainGlobals "ValueError" =some none)
  (z_abs:PySem.W.nsIn K mainGlobals "abs" =some none)
  (z_bool:PySem.W.nsIn K mainGlobals "bool" =some none)
  (z_enumerate:PySem.W.nsIn K mainGlobals "enumerate" =some none)
  (z_int:PySem.W.nsIn K mainGlobals "int" =some none)
  (z_isinstance:PySem.W.nsIn K mainGlobals "isinstance" =some none)
  (z_len:PySem.W.nsIn K mainGlobals "len" =some none)
  (z_list:PySem.W.nsIn K mainGlobals "list" =some none)
  (z_max:PySem.W.nsIn K mainGlobals "max" =some none)
  (z_min:PySem.W.nsIn K mainGlobals "min" =some none)
  (z_range:PySem.W.nsIn K mainGlobals "range" =some none)
  (z_sorted:PySem.W.nsIn K mainGlobals "sorted" =some none)
  (z_str:PySem.W.nsIn K mainGlobals "str" =some none)
  (z_tuple:PySem.W.nsIn K mainGlobals "tuple" =some none)
  (z_zip:PySem.W.nsIn K mainGlobals "zip" =some none)
  (Z9x:PySem.W.nsIn K mainGlobals "HOLES" =some (some (.int 4 Z0O)))
  (Z4S:PySem.W.nsIn K mainGlobals "OPPOSITES" =some (some (.ref Z1c)))
  (Z4T:K.lookup Z1c=some {cls:=.type "dict",data:=.dict #[⟨PySem.PyData.keyHash w.params (Str.ofString "f"),.str (Str.ofString "f") x_OPPOSITES0,.str (Str.ofString "b") y_OPPOSITES0⟩,⟨PySem.PyData.keyHash w.params (Str.ofString "b"),.str (Str.ofString "b") x_OPPOSITES1,.str (Str.ofString "f") y_OPPOSITES1⟩,⟨PySem.PyData.keyHash w.params (Str.ofString "i"),.str (Str.ofString "i") x_OPPOSITES2,.str (Str.ofString "i") y_OPPOSITES2⟩] ZdG})
  (Z4U:(Z1c == sysModules)=false)
  (Z3U:PySem.W.nsIn K mainGlobals "OTHER_LAYS" =some (some (.ref Z15)))
  (Z3V:K.lookup Z15=some {cls:=.type "dict",data:=.dict #[⟨PySem.PyData.keyHash w.params (Str.ofString "S"),.str (Str.ofString "S") x_OTHER_LAYS0,.str (Str.ofString "Z") y_OTHER_LAYS0⟩,⟨PySem.PyData.keyHash w.params (Str.ofString "Z"),.str (Str.ofString "Z") x_OTHER_LAYS1,.str (Str.ofString "S") y_OTHER_LAYS1⟩] ZbZ})
  (Z3W:(Z15 == sysModules)=false)
  (Z9y:PySem.W.nsIn K mainGlobals "SIDES" =some (some (.ref Z3h)))
  (Z9z:K.lookup Z3h=some {cls:=.type "tuple",data:=.seq #[.str (Str.ofString "face") x_SIDES0,.str (Str.ofString "back") x_SIDES1,.str (Str.ofString "slant") x_SIDES2] Zit})
  (Z83:PySem.W.nsIn K mainGlobals "SLANTS" =some (some (.ref Z1V)))
  (Z84:K.lookup Z1V=some {cls:=.type "dict",data:=.dict #[⟨hashInt (1),.int (1) x_SLANTS0,.str (Str.ofString "s") y_SLANTS0⟩,⟨hashInt (-1),.int (-1) x_SLANTS1,.str (Str.ofString "z") y_SLANTS1⟩,⟨hashInt (0),.int (0) x_SLANTS2,.str (Str.ofString "o") y_SLANTS2⟩] ZhW})
  (Z85:(Z1V == sysModules)=false)
  (Z9A:PySem.W.nsIn K mainGlobals "STEPS" =some (some (.ref Z1p)))
  (Z9B:K.lookup Z1p=some {cls:=.type "dict",data:=.dict #[⟨PySem.PyData.keyHash w.params (Str.ofString "f"),.str (Str.ofString "f") x_STEPS0,.int (1) y_STEPS0⟩,⟨PySem.PyData.keyHash w.params (Str.ofString "b"),.str (Str.ofString "b") x_STEPS1,.int (-1) y_STEPS1⟩,⟨PySem.PyData.keyHash w.params (Str.ofString "i"),.str (Str.ofString "i") x_STEPS2,.int (0) y_STEPS2⟩] Ziu})
  (Z9C:(Z1p == sysModules)=false)
  (Z4V:PySem.W.nsIn K mainGlobals "BandError" =some (some (.ref Z04)))
  (Z4W:K.lookup Z04=some (excClassObj Zc0 ZdH Z04 Z4A Zc1 [.type "ValueError",.type "Exception",.type "BaseException",.type "object"] Zc3 Zc5 Zc2 Zc4 Zc6 Zc7 Zc8 Zc9 Zca Zcb Zcc "ValueError.__new__"))
  (Z4X:K.lookup Z4A=some ⟨Zcd,Zce,.dict Z3y Zcf,Zcg⟩) (Z3X:StrKeys Z3y) (Z3Y:nsFind Z3y "__init__" =none)
  (Z4Y:PySem.W.nsIn K mainGlobals "BadTablet" =some (some (.ref Z0i)))
  (Z4Z:K.lookup Z0i=some (excClassObj Zch ZdI Z0i Z7n Zci [.ref Z04,.type "ValueError",.type "Exception",.type "BaseException",.type "object"] Zck Zcm Zcj Zcl Zcn Zco Zcp Zcq Zcr Zcs Zct "ValueError.__new__"))
  (Z3Z:PySem.W.findIn K (.ref Z0i) "__getattribute__" =some (some (.builtin "BaseException.__getattribute__"))) (Z40:PySem.W.findIn K (.ref Z0i) "__getattr__" =some none) (Z41:PySem.W.findIn K (.ref Z0i) "__class__" =some (some (.builtin "object.__class__")))
  (Z86:PySem.W.nsIn K mainGlobals "BadRow" =some (some (.ref Z0A)))
  (Z87:K.lookup Z0A=some (excClassObj ZgB ZhX Z0A Zcu ZgC [.ref Z04,.type "ValueError",.type "Exception",.type "BaseException",.type "object"] ZgE ZgG ZgD ZgF ZgH ZgI ZgJ ZgK ZgL ZgM ZgN "ValueError.__new__"))
  (Z6L:PySem.W.findIn K (.ref Z0A) "__getattribute__" =some (some (.builtin "BaseException.__getattribute__"))) (Z6M:PySem.W.findIn K (.ref Z0A) "__getattr__" =some none) (Z6N:PySem.W.findIn K (.ref Z0A) "__class__" =some (some (.builtin "object.__class__")))
  (Z6O:PySem.W.nsIn K mainGlobals "BadText" =some (some (.ref Z0v)))
  (Z6P:K.lookup Z0v=some (excClassObj Zfh ZgO Z0v Z9H Zfi [.ref Z04,.type "ValueError",.type "Exception",.type "BaseException",.type "object"] Zfk Zfm Zfj Zfl Zfn Zfo Zfp Zfq Zfr Zfs Zft "ValueError.__new__"))
  (Z5Q:PySem.W.findIn K (.ref Z0v) "__getattribute__" =some (some (.builtin "BaseException.__getattribute__"))) (Z5R:PySem.W.findIn K (.ref Z0v) "__getattr__" =some none) (Z5S:PySem.W.findIn K (.ref Z0v) "__class__" =some (some (.builtin "object.__class__")))
  (Z6Q:PySem.W.nsIn K mainGlobals "BadMark" =some (some (.ref Z0w)))
  (Z6R:K.lookup Z0w=some (excClassObj Zfu ZgP Z0w Z9I Zfv [.ref Z04,.type "ValueError",.type "Exception",.type "BaseException",.type "object"] Zfx Zfz Zfw Zfy ZfA ZfB ZfC ZfD ZfE ZfF ZfG "ValueError.__new__"))
  (Z5T:PySem.W.findIn K (.ref Z0w) "__getattribute__" =some (some (.builtin "BaseException.__getattribute__"))) (Z5U:PySem.W.findIn K (.ref Z0w) "__getattr__" =some none) (Z5V:PySem.W.findIn K (.ref Z0w) "__class__" =some (some (.builtin "object.__class__")))
  (Z6S:PySem.W.nsIn K mainGlobals "TooLong" =some (some (.ref Z0x)))
  (Z6T:K.lookup Z0x=some (excClassObj ZfH ZgQ Z0x Z9J ZfI [.ref Z04,.type "ValueError",.type "Exception",.type "BaseException",.type "object"] ZfK ZfM ZfJ ZfL ZfN ZfO ZfP ZfQ ZfR ZfS ZfT "ValueError.__new__"))
  (Z5W:PySem.W.findIn K (.ref Z0x) "__getattribute__" =some (some (.builtin "BaseException.__getattribute__"))) (Z5X:PySem.W.findIn K (.ref Z0x) "__getattr__" =some none) (Z5Y:PySem.W.findIn K (.ref Z0x) "__class__" =some (some (.builtin "object.__class__")))
  (Z5Z:PySem.W.nsIn K mainGlobals "TooTight" =some (some (.ref Z0n)))
  (Z60:K.lookup Z0n=some (excClassObj ZdJ ZfU Z0n Z8y ZdK [.ref Z04,.type "ValueError",.type "Exception",.type "BaseException",.type "object"] ZdM ZdO ZdL ZdN ZdP ZdQ ZdR ZdS ZdT ZdU ZdV "ValueError.__new__"))
  (Z50:PySem.W.findIn K (.ref Z0n) "__getattribute__" =some (some (.builtin "BaseException.__getattribute__"))) (Z51:PySem.W.findIn K (.ref Z0n) "__getattr__" =some none) (Z52:PySem.W.findIn K (.ref Z0n) "__class__" =some (some (.builtin "object.__class__")))
  (Z61:PySem.W.nsIn K mainGlobals "SpoolDry" =some (some (.ref Z0o)))
  (Z62:K.lookup Z0o=some (excClassObj ZdW ZfV Z0o Z8z ZdX [.ref Z04,.type "ValueError",.type "Exception",.type "BaseException",.type "object"] ZdZ Ze1 ZdY Ze0 Ze2 Ze3 Ze4 Ze5 Ze6 Ze7 Ze8 "ValueError.__new__"))
  (Z53:PySem.W.findIn K (.ref Z0o) "__getattribute__" =some (some (.builtin "BaseException.__getattribute__"))) (Z54:PySem.W.findIn K (.ref Z0o) "__getattr__" =some none) (Z55:PySem.W.findIn K (.ref Z0o) "__class__" =some (some (.builtin "object.__class__")))
  (Z63:PySem.W.nsIn K mainGlobals "NoTablet" =some (some (.ref Z0p)))
  (Z64:K.lookup Z0p=some (excClassObj Ze9 ZfW Z0p Z8A Zea [.ref Z04,.type "ValueError",.type "Exception",.type "BaseException",.type "object"] Zec Zee Zeb Zed Zef Zeg Zeh Zei Zej Zek Zel "ValueError.__new__"))
  (Z56:PySem.W.findIn K (.ref Z0p) "__getattribute__" =some (some (.builtin "BaseException.__getattribute__"))) (Z57:PySem.W.findIn K (.ref Z0p) "__getattr__" =some none) (Z58:PySem.W.findIn K (.ref Z0p) "__class__" =some (some (.builtin "object.__class__")))
  (Z2U:PySem.W.nsIn K mainGlobals "NothingLeft" =some (some (.ref Z0a)))
  (Z2V:K.lookup Z0a=some (excClassObj Z9e ZaJ Z0a Z6c Z9f [.ref Z04,.type "ValueError",.type "Exception",.type "BaseException",.type "object"] Z9h Z9j Z9g Z9i Z9k Z9l Z9m Z9n Z9o Z9p Z9q "ValueError.__new__"))
  (Z2v:PySem.W.findIn K (.ref Z0a) "__getattribute__" =some (some (.builtin "BaseException.__getattribute__"))) (Z2w:PySem.W.findIn K (.ref Z0a) "__getattr__" =some none) (Z2x:PySem.W.findIn K (.ref Z0a) "__class__" =some (some (.builtin "object.__class__")))
  (Z88:PySem.W.nsIn K mainGlobals "Unlike" =some (some (.ref Z06)))
  (Z89:K.lookup Z06=some (excClassObj ZgR ZhY Z06 Z7T ZgS [.ref Z04,.type "ValueError",.type "Exception",.type "BaseException",.type "object"] ZgU ZgW ZgT ZgV ZgX ZgY ZgZ Zh0 Zh1 Zh2 Zh3 "ValueError.__new__"))
  (Z6U:PySem.W.findIn K (.ref Z06) "__getattribute__" =some (some (.builtin "BaseException.__getattribute__"))) (Z6V:PySem.W.findIn K (.ref Z06) "__getattr__" =some none) (Z6W:PySem.W.findIn K (.ref Z06) "__class__" =some (some (.builtin "object.__class__")))
  (Z42:PySem.W.nsIn K mainGlobals "SeenThread" =some (some (.ref Z0d)))
  (Z43:K.lookup Z0d=some (excClassObj ZaK Zcv Z0d Z6u ZaL [.ref Z04,.type "ValueError",.type "Exception",.type "BaseException",.type "object"] ZaN ZaP ZaM ZaO ZaQ ZaR ZaS ZaT ZaU ZaV ZaW "ValueError.__new__"))
  (Z2W:PySem.W.findIn K (.ref Z0d) "__getattribute__" =some (some (.builtin "BaseException.__getattribute__"))) (Z2X:PySem.W.findIn K (.ref Z0d) "__getattr__" =some none) (Z2Y:PySem.W.findIn K (.ref Z0d) "__class__" =some (some (.builtin "object.__class__")))
  (Z59:PySem.W.nsIn K mainGlobals "NoSuchWay" =some (some (.ref Z0j)))
  (Z5a:K.lookup Z0j=some (excClassObj Zcw Zem Z0j Z7o Zcx [.ref Z04,.type "ValueError",.type "Exception",.type "BaseException",.type "object"] Zcz ZcB Zcy ZcA ZcC ZcD ZcE ZcF ZcG ZcH ZcI "ValueError.__new__"))
  (Z44:PySem.W.findIn K (.ref Z0j) "__getattribute__" =some (some (.builtin "BaseException.__getattribute__"))) (Z45:PySem.W.findIn K (.ref Z0j) "__getattr__" =some none) (Z46:PySem.W.findIn K (.ref Z0j) "__class__" =some (some (.builtin "object.__class__")))
  (Z8a:PySem.W.nsIn K mainGlobals "Barred" =some (some (.ref Z0B)))
  (Z8b:K.lookup Z0B=some (excClassObj Zh4 ZhZ Z0B ZcJ Zh5 [.ref Z04,.type "ValueError",.type "Exception",.type "BaseException",.type "object"] Zh7 Zh9 Zh6 Zh8 Zha Zhb Zhc Zhd Zhe Zhf Zhg "ValueError.__new__"))
  (Z6X:PySem.W.findIn K (.ref Z0B) "__getattribute__" =some (some (.builtin "BaseException.__getattribute__"))) (Z6Y:PySem.W.findIn K (.ref Z0B) "__getattr__" =some none) (Z6Z:PySem.W.findIn K (.ref Z0B) "__class__" =some (some (.builtin "object.__class__")))
  (Z8c:K.lookup Z7T=some ⟨Zhh,Zhi,.dict Z6v Zhj,Zhk⟩) (Z70:StrKeys Z6v) (Z71:nsFind Z6v "__init__" =some (.ref f_init))
  (l_init:K.lookup f_init=some ⟨.type "function",od_init,.func (PySem.W.fnOf "__init__" "Unlike.__init__" (defArgs tR) (defBody tR) (defScope tR) .none kV_init dc_init pm_init an_init cd_init ct_init),sl_init⟩) (c_init:PySem.W.codeIn K cd_init "Unlike.__init__" =true) (k_init:PySem.W.keepIn K (.ref f_init)=true) (Z8d:PySem.W.keepIn K (.ref Z06)=true) (hd1:PySem.W.hasDictIn K Z06=true) (sa1:PySem.W.findIn K (.ref Z06) "__setattr__" =some (some (.builtin "object.__setattr__"))) (p1:PySem.W.findIn K (.ref Z06) "pick" =some none) (p2:PySem.W.findIn K (.ref Z06) "side" =some none)
  (hn1:PySem.W.specialIn K (.builtin "object.__class__") "__get__" =some (some (.builtin "getset_descriptor.__get__"))) (ht1:PySem.W.takesIn K (.builtin "object.__class__")=some true) (nd1:(Z04:: [Z0i,Z0A,Z0v,Z0w,Z0x,Z0n,Z0o,Z0p,Z0a,Z06,Z0d,Z0j,Z0B]).Nodup)
  :∃fd:FuncData,(∀(s:Shared) (v:Value),BindsTo s fd ⟨[v],[]⟩ [("_law_script",v)])∧∀base:Heap,K.In base→base.Ns mainGlobals mg→FnOk l.prog w K mg base CX0 27 fa fd ["_law_script"] (mq K):=by
 have e:=hfa.symm.trans (PySem.W.mg_of X G a_law)
 cases e
 have Z7p:=aS (st:=tp 58) Z4B Z4C Z1L
 have Z7q:=Z7p.binds (ps:=["_law_found","_law_due_here"]) fun _ _ _ _ _ _ us hl=>match us,hl with | [_,_],_=>rfl
 have Z9K:=aS (st:=tp 46) Z6x Z6y Z4k
 have Zhl:=Z9K.binds (ps:=["_law_script","_law_k"]) fun _ _ _ _ _ _ us hl=>match us,hl with | [_,_],_=>rfl
 have Z8D:=aS (st:=tp 42) Z5z Z5A Z3a
 have ZfX:=Z8D.binds (ps:=["_law_cell","_law_many","_law_base"]) fun _ _ _ _ _ _ us hl=>match us,hl with | [_,_,_],_=>rfl
 have Z72:=aS (st:=tp 43) Z3A Z3B Z2a
 have ZcQ:=Z72.binds (ps:=["_law_cell"]) fun _ _ _ _ _ _ us hl=>match us,hl with | [_],_=>rfl
 have Z7r:=aS (st:=tp 44) Z4E Z4F Z2E
 have Zen:=Z7r.binds (ps:=["_law_cell"]) fun _ _ _ _ _ _ us hl=>match us,hl with | [_],_=>rfl
 have Z73:=aS (st:=tp 45) Z3D Z3E Z2b
 have ZcR:=Z73.binds (ps:=["_law_cell","_law_many"]) fun _ _ _ _ _ _ us hl=>match us,hl with | [_,_],_=>rfl
 have Z6d:=aS (st:=tp 47) Z2M Z2N Z1R
 have ZaX:=Z6d.binds (ps:=["_law_script","_law_at_here"]) fun _ _ _ _ _ _ us hl=>match us,hl with | [_,_],_=>rfl
 have Z4p:=aS (st:=tp 52) Z2d Z2e Z1t
 have Z8E:=Z4p.binds (ps:=["_law_card_here"]) fun _ _ _ _ _ _ us hl=>match us,hl with | [_],_=>rfl
 have Z7s:=aS (st:=tp 53) Z4H Z4I Z2F
 have Zeo:=Z7s.binds (ps:=["_law_turns_here"]) fun _ _ _ _ _ _ us hl=>match us,hl with | [_],_=>rfl
 have Z7t:=aS (st:=tp 54) Z4K Z4L Z2G
 have Zep:=Z7t.binds (ps:=["_law_card_here","_law_many"]) fun _ _ _ _ _ _ us hl=>match us,hl with | [_,_],_=>rfl
 have Z9L:=aS (st:=tp 48) Z6A Z6B Z4l
 have Zhm:=Z9L.binds (ps:=["_law_turn"]) fun _ _ _ _ _ _ us hl=>match us,hl with | [_],_=>rfl
 have Z6e:=aS (st:=tp 49) Z2P Z2Q Z1S
 have ZaY:=Z6e.binds (ps:=["_law_card_here","_law_turn"]) fun _ _ _ _ _ _ us hl=>match us,hl with | [_,_],_=>rfl
 have Z7u:=aS (st:=tp 55) Z4N Z4O Z2H
 have Zeq:=Z7u.binds (ps:=["_law_card_here","_law_turns_here"]) fun _ _ _ _ _ _ us hl=>match us,hl with | [_,_],_=>rfl
 have Z8F:=aS (st:=tp 56) Z5C Z5D Z3b
 have ZfY:=Z8F.binds (ps:=["_law_card_here","_law_turns_here","_law_cell"]) fun _ _ _ _ _ _ us hl=>match us,hl with | [_,_,_],_=>rfl
 have Z7v:=aS (st:=tp 57) Z4Q Z4R Z2I
 have Zer:=Z7v.binds (ps:=["_law_strand_here","_law_cell"]) fun _ _ _ _ _ _ us hl=>match us,hl with | [_,_],_=>rfl
 have Z74:=aS (st:=tp 50) Z3G Z3H Z2f
 have ZcS:=Z74.binds (ps:=["_law_card_here","_law_turn"]) fun _ _ _ _ _ _ us hl=>match us,hl with | [_,_],_=>rfl
 have Z6f:=aS (st:=tp 51) Z2S Z2T Z1T
 have ZaZ:=Z6f.binds (ps:=["_law_card_here","_law_turns_here"]) fun _ _ _ _ _ _ us hl=>match us,hl with | [_,_],_=>rfl
 have ZcT:=aS (st:=tp 23) Z7V Z7W Z5E
 have Zi0:=ZcT.binds (ps:=["tablet","turn"]) fun _ _ _ _ _ _ us hl=>match us,hl with | [_,_],_=>rfl
 have F_top:=aS (st:=tp 20) l_top c_top k_top
 have b_top:=F_top.binds (ps:=["tablet"]) fun _ _ _ _ _ _ us hl=>match us,hl with | [_],_=>rfl
 have ZcU:=aS (st:=tp 21) Z7Y Z7Z Z5F
 have Zi1:=ZcU.binds (ps:=["tablet"]) fun _ _ _ _ _ _ us hl=>match us,hl with | [_],_=>rfl
 have Z8G:=aS (st:=tp 22) Z5H Z5I Z3c
 have ZfZ:=Z8G.binds (ps:=["tablet","turn"]) fun _ _ _ _ _ _ us hl=>match us,hl with | [_,_],_=>rfl
 have Z75:=aS (st:=tp 30) Z3J Z3K Z2g
 have ZcV:=Z75.binds (ps:=["tablet","turn"]) fun _ _ _ _ _ _ us hl=>match us,hl with | [_,_],_=>rfl
 have Zew:=aS (st:=tp 31) Z9s Z9t Z7g
 have Ziv:=Zew.binds (ps:=["draft","plan"]) fun _ _ _ _ _ _ us hl=>match us,hl with | [_,_],_=>rfl
 have Z9M:=aS (st:=tp 33) Z6D Z6E Z4m
 have Zhn:=Z9M.binds (ps:=["strand"]) fun _ _ _ _ _ _ us hl=>match us,hl with | [_],_=>rfl
 have Z76:=aS (st:=tp 38) Z3M Z3N Z2h
 have ZcW:=Z76.binds (ps:=["ones","others"]) fun _ _ _ _ _ _ us hl=>match us,hl with | [_,_],_=>rfl
 have Z9N:=aS (st:=tp 24) Z6G Z6H Z4n
 have Zho:=Z9N.binds (ps:=["tablet"]) fun _ _ _ _ _ _ us hl=>match us,hl with | [_],_=>rfl
 have Z8H:=aS (st:=tp 26) Z5K Z5L Z3d
 have Zg0:=Z8H.binds (ps:=["turns"]) fun _ _ _ _ _ _ us hl=>match us,hl with | [_],_=>rfl
 have ZcX:=aS (st:=tp 25) Z81 Z82 Z5M
 have Zi2:=ZcX.binds (ps:=["tablet","many"]) fun _ _ _ _ _ _ us hl=>match us,hl with | [_,_],_=>rfl
 have Zhp:=aS (st:=tp 34) ZcL ZcM Z8B
 have ZiD:=Zhp.binds (ps:=["strand"]) fun _ _ _ _ _ _ us hl=>match us,hl with | [_],_=>rfl
 have Zhq:=aS (st:=tp 36) ZcO ZcP Z8C
 have ZiE:=Zhq.binds (ps:=["strand","hole","colour"]) fun _ _ _ _ _ _ us hl=>match us,hl with | [_,_,_],_=>rfl
 have Z9O:=aS (st:=tp 35) Z6J Z6K Z4o
 have Zhr:=Z9O.binds (ps:=["strand","step"]) fun _ _ _ _ _ _ us hl=>match us,hl with | [_,_],_=>rfl
 have Z4q:=aS (st:=tp 39) Z2j Z2k Z1u
 have Z8I:=Z4q.binds (ps:=["one","other"]) fun _ _ _ _ _ _ us hl=>match us,hl with | [_,_],_=>rfl
 have Z5g:=aS (st:=tp 40) Z2t Z2u Z1H
 have Z9D:=Z5g.binds (ps:=["tablet","wanted"]) fun _ _ _ _ _ _ us hl=>match us,hl with | [_,_],_=>rfl
 have Zex:=aS (st:=tp 37) Z9v Z9w Z7h
 have Ziw:=Zex.binds (ps:=["one","other"]) fun _ _ _ _ _ _ us hl=>match us,hl with | [_,_],_=>rfl
 have Z77:=aS (st:=tp 61) Z3P Z3Q Z2l
 have ZcY:=Z77.binds (ps:=["_law_one","_law_other"]) fun _ _ _ _ _ _ us hl=>match us,hl with | [_,_],_=>rfl
 have Z8J:=aS (st:=tp 60) Z5O Z5P Z3e
 have Zg1:=Z8J.binds (ps:=["_law_ones","_law_others"]) fun _ _ _ _ _ _ us hl=>match us,hl with | [_,_],_=>rfl
 have F_law:=aS (st:=tp 62) l_law c_law k_law
 have b_law:=F_law.binds (ps:=["_law_script"]) fun _ _ _ _ _ _ us hl=>match us,hl with | [_],_=>rfl
 have Z78:=aS (st:=tp 59) Z3S Z3T Z2m
 have ZcZ:=Z78.binds (ps:=["_law_e"]) fun _ _ _ _ _ _ us hl=>match us,hl with | [_],_=>rfl
 have h_ValueError:=PySem.W.mg_none_of X G z_ValueError
 have h_abs:=PySem.W.mg_none_of X G z_abs
 have h_bool:=PySem.W.mg_none_of X G z_bool
 have h_enumerate:=PySem.W.mg_none_of X G z_enumerate
 have h_int:=PySem.W.mg_none_of X G z_int
 have h_isinstance:=PySem.W.mg_none_of X G z_isinstance
 have h_len:=PySem.W.mg_none_of X G z_len
 have h_list:=PySem.W.mg_none_of X G z_list
 have h_max:=PySem.W.mg_none_of X G z_max
 have h_min:=PySem.W.mg_none_of X G z_min
 have h_range:=PySem.W.mg_none_of X G z_range
 have h_sorted:=PySem.W.mg_none_of X G z_sorted
 have h_str:=PySem.W.mg_none_of X G z_str
 have h_tuple:=PySem.W.mg_none_of X G z_tuple
 have h_zip:=PySem.W.mg_none_of X G z_zip
 have Z0y:=PySem.W.mg_of X G Z9x
 have Z4x:=PySem.W.mg_of X G Z4S
 have Z4y:DictK K w Z1c [(Sum.inr (Str.ofString "f"),.str (Str.ofString "b")),(Sum.inr (Str.ofString "b"),.str (Str.ofString "f")),(Sum.inr (Str.ofString "i"),.str (Str.ofString "i"))]:=⟨by decide,Z4U,by decide +kernel,_,_,Z4T,(.cons ⟨cu _ _,rfl,⟨_,rfl⟩⟩ (.cons ⟨cu _ _,rfl,⟨_,rfl⟩⟩ (.cons ⟨cu _ _,rfl,⟨_,rfl⟩⟩ .nil)))⟩
 have Z3s:=PySem.W.mg_of X G Z3U
 have Z3t:DictK K w Z15 [(Sum.inr (Str.ofString "S"),.str (Str.ofString "Z")),(Sum.inr (Str.ofString "Z"),.str (Str.ofString "S"))]:=⟨by decide,Z3W,by decide +kernel,_,_,Z3V,(.cons ⟨cu _ _,rfl,⟨_,rfl⟩⟩ (.cons ⟨cu _ _,rfl,⟨_,rfl⟩⟩ .nil))⟩
 have Z8L:=PySem.W.mg_of X G Z9y
 have Z8M:∀H,SqT K H Z3h [.str (Str.ofString "face"),.str (Str.ofString "back"),.str (Str.ofString "slant")]:=fun H=>.inr ⟨_,_,_,Z9z,rfl,rfl,(by show 3≤sizeLine;decide),(.cons ⟨_,rfl⟩ (.cons ⟨_,rfl⟩ (.cons ⟨_,rfl⟩ .nil)))⟩
 have Z7A:=PySem.W.mg_of X G Z83
 have Z7B:DictK K w Z1V [(Sum.inl (1),.str (Str.ofString "s")),(Sum.inl (-1),.str (Str.ofString "z")),(Sum.inl (0),.str (Str.ofString "o"))]:=⟨by decide,Z85,by decide +kernel,_,_,Z84,(.cons ⟨eV _ _,rfl,⟨_,rfl⟩⟩ (.cons ⟨eV _ _,rfl,⟨_,rfl⟩⟩ (.cons ⟨eV _ _,rfl,⟨_,rfl⟩⟩ .nil)))⟩
 have Z3f:=PySem.W.mg_of X G Z9A
 have Z3g:DictK K w Z1p [(Sum.inr (Str.ofString "f"),.int (1)),(Sum.inr (Str.ofString "b"),.int (-1)),(Sum.inr (Str.ofString "i"),.int (0))]:=⟨by decide,Z9C,by decide +kernel,_,_,Z9B,(.cons ⟨cu _ _,rfl,⟨_,rfl⟩⟩ (.cons ⟨cu _ _,rfl,⟨_,rfl⟩⟩ (.cons ⟨cu _ _,rfl,⟨_,rfl⟩⟩ .nil)))⟩
 refine⟨PySem.W.fnOf "law" "law" (defArgs (tp 62)) (defBody (tp 62)) (defScope (tp 62)) .none kV_law dc_law pm_law an_law cd_law ct_law,fun s v=>.of_eq rfl,fun base KB _=>?_⟩
 have Z1J:=PySem.W.mg_of X G Z4V
 have Z7w:XcK K Z04 Z4A vE:=⟨_,_,_,_,_,_,_,_,_,_,_,_,_,_,Z4W⟩
 have Z4r:=PySem.W.mg_of X G Z4Y
 have Zes:XcK K Z0i Z7n (.ref Z04::vE):=⟨_,_,_,_,_,_,_,_,_,_,_,_,_,_,Z4Z⟩
 have Z7x:=PySem.W.mg_of X G Z86
 have Zi3:XcK K Z0A Zcu (.ref Z04::vE):=⟨_,_,_,_,_,_,_,_,_,_,_,_,_,_,Z87⟩
 have Z6h:=PySem.W.mg_of X G Z6O
 have Zhs:XcK K Z0v Z9H (.ref Z04::vE):=⟨_,_,_,_,_,_,_,_,_,_,_,_,_,_,Z6P⟩
 have Z6i:=PySem.W.mg_of X G Z6Q
 have Zht:XcK K Z0w Z9I (.ref Z04::vE):=⟨_,_,_,_,_,_,_,_,_,_,_,_,_,_,Z6R⟩
 have Z6j:=PySem.W.mg_of X G Z6S
 have Zhu:XcK K Z0x Z9J (.ref Z04::vE):=⟨_,_,_,_,_,_,_,_,_,_,_,_,_,_,Z6T⟩
 have Z5p:=PySem.W.mg_of X G Z5Z
 have Zg2:XcK K Z0n Z8y (.ref Z04::vE):=⟨_,_,_,_,_,_,_,_,_,_,_,_,_,_,Z60⟩
 have Z5q:=PySem.W.mg_of X G Z61
 have Zg3:XcK K Z0o Z8z (.ref Z04::vE):=⟨_,_,_,_,_,_,_,_,_,_,_,_,_,_,Z62⟩
 have Z5r:=PySem.W.mg_of X G Z63
 have Zg4:XcK K Z0p Z8A (.ref Z04::vE):=⟨_,_,_,_,_,_,_,_,_,_,_,_,_,_,Z64⟩
 have Z2K:=PySem.W.mg_of X G Z2U
 have Zb0:XcK K Z0a Z6c (.ref Z04::vE):=⟨_,_,_,_,_,_,_,_,_,_,_,_,_,_,Z2V⟩
 have Z1U:=PySem.W.mg_of X G Z88
 have Z8e:XcK K Z06 Z7T (.ref Z04::vE):=⟨_,_,_,_,_,_,_,_,_,_,_,_,_,_,Z89⟩
 have Z3k:=PySem.W.mg_of X G Z42
 have Zd0:XcK K Z0d Z6u (.ref Z04::vE):=⟨_,_,_,_,_,_,_,_,_,_,_,_,_,_,Z43⟩
 have Z4s:=PySem.W.mg_of X G Z59
 have Zet:XcK K Z0j Z7o (.ref Z04::vE):=⟨_,_,_,_,_,_,_,_,_,_,_,_,_,_,Z5a⟩
 have Z7y:=PySem.W.mg_of X G Z8a
 have Zi4:XcK K Z0B ZcJ (.ref Z04::vE):=⟨_,_,_,_,_,_,_,_,_,_,_,_,_,_,Z8b⟩
 have Z:Kin K base [Z0i,Z0A,Z0v,Z0w,Z0x,Z0n,Z0o,Z0p,Z0a,Z06,Z0d,Z0j,Z0B] Z04:=Kin.of KB hn1 ht1 rfl nd1 Z7w (List.forall_mem_cons.mpr ⟨⟨⟨_,Zes⟩,Z3Z,Z40,Z41⟩,List.forall_mem_cons.mpr ⟨⟨⟨_,Zi3⟩,Z6L,Z6M,Z6N⟩,List.forall_mem_cons.mpr ⟨⟨⟨_,Zhs⟩,Z5Q,Z5R,Z5S⟩,List.forall_mem_cons.mpr ⟨⟨⟨_,Zht⟩,Z5T,Z5U,Z5V⟩,List.forall_mem_cons.mpr ⟨⟨⟨_,Zhu⟩,Z5W,Z5X,Z5Y⟩,List.forall_mem_cons.mpr ⟨⟨⟨_,Zg2⟩,Z50,Z51,Z52⟩,List.forall_mem_cons.mpr ⟨⟨⟨_,Zg3⟩,Z53,Z54,Z55⟩,List.forall_mem_cons.mpr ⟨⟨⟨_,Zg4⟩,Z56,Z57,Z58⟩,List.forall_mem_cons.mpr ⟨⟨⟨_,Zb0⟩,Z2v,Z2w,Z2x⟩,List.forall_mem_cons.mpr ⟨⟨⟨_,Z8e⟩,Z6U,Z6V,Z6W⟩,List.forall_mem_cons.mpr ⟨⟨⟨_,Zd0⟩,Z2W,Z2X,Z2Y⟩,List.forall_mem_cons.mpr ⟨⟨⟨_,Zet⟩,Z44,Z45,Z46⟩,List.forall_mem_cons.mpr ⟨⟨⟨_,Zi4⟩,Z6X,Z6Y,Z6Z⟩,fun _ h=>nomatch h⟩⟩⟩⟩⟩⟩⟩⟩⟩⟩⟩⟩⟩)
 have F_init:=aS (st:=tR) l_init c_init k_init
 have b_init:=F_init.binds (ps:=["self","pick","side"]) fun _ _ _ _ _ _ us hl=>match us,hl with | [_,_,_],_=>rfl
 have XF:XcF K Z06:=XcF.of Z8e hd1 sa1
 have Z0X:CalU l.prog w K mg base "Unlike" Z06:=⟨f_init,_,⟨Icl.of KB Z8e Z7w Z8c rfl Z70 Z71 Z4X rfl Z3X Z3Y l_init rfl,XF,Z8d,p1,p2,(Z.one 9 Z06 rfl).1,hd1⟩,rp F_init XF p1 p2,Z1U,b_init⟩
 have Z3v:CalH l.prog w K mg base "_law_kinds" ["_law_e"] 1 (fF K [Z0i,Z0A,Z0v,Z0w,Z0x,Z0n,Z0o,Z0p,Z0a,Z06,Z0d,Z0j,Z0B] Z04):=⟨Z29,_,pG Z78 h_isinstance h_ValueError Z4r Z7x Z6h Z6i Z6j Z5p Z5q Z5r Z2K Z1U Z3k Z4s Z7y Z1J,PySem.W.mg_of X G Z3R,Z2m,ZcZ⟩
 have SA:∀n:Nat,Cal l.prog w K mg base "_law_same" ["_law_found","_law_due_here"] n (ei K n):=fun n=>by
  induction n with
  | zero=>exact⟨Z1K,_,rq,PySem.W.mg_of X G Z2D,Z1L,Z7q⟩
  | succ n ih=>exact⟨Z1K,_,pH Z7p h_len h_isinstance h_bool h_int h_str h_list h_tuple h_zip ih,PySem.W.mg_of X G Z2D,Z1L,Z7q⟩
 have Z1d:=SA 26
 have Z13:Cal l.prog w K mg base "_law_at" ["_law_script","_law_k"] (1) (bf (isScr K) isI (rs isI) gm):=⟨Z4e,_,wz Z9K h_len,PySem.W.mg_of X G Z6w,Z4k,Zhl⟩
 have Z1E:Cal l.prog w K mg base "_law_row" ["_law_cell","_law_many","_law_base"] (1) (gl isI isI isI (ro isI) kN):=⟨Z35,_,wB Z8D h_abs h_range,PySem.W.mg_of X G Z5y,Z3a,ZfX⟩
 have Z3m:Cal l.prog w K mg base "_law_holes" ["_law_cell"] (2) (bY isI (rs isS) qY):=⟨Z23,_,wC Z72 Z1E,PySem.W.mg_of X G Z3z,Z2a,ZcQ⟩
 have Z4t:Cal l.prog w K mg base "_law_card" ["_law_cell"] (3) (bY isI (rs (isT3 K isS isS isI)) qZ):=⟨Z2y,_,wD Z7r Z3m,PySem.W.mg_of X G Z4D,Z2E,Zen⟩
 have Z3n:Cal l.prog w K mg base "_law_turns" ["_law_cell","_law_many"] (2) (bf isI isI (rs isS) r0):=⟨Z24,_,wE Z73 Z1E,PySem.W.mg_of X G Z3C,Z2b,ZcR⟩
 have Z1M:Cal l.prog w K mg base "_law_strand" ["_law_script","_law_at_here"] (4) (bf (isScr K) isI (rs (isT2 K (isT3 K isS isS isI) isS)) qb):=⟨Z1O,_,wF Z6d Z13 Z4t Z3n,PySem.W.mg_of X G Z2L,Z1R,ZaX⟩
 have Z20:Cal l.prog w K mg base "_law_turnover" ["_law_card_here"] (1) (bY (isT3 K isS isS isI) (rs (isT3 K isS isS isI)) r6):=⟨Z1r,_,wG Z4p,PySem.W.mg_of X G Z2c,Z1t,Z8E⟩
 have Z4u:Cal l.prog w K mg base "_law_back" ["_law_turns_here"] (1) (bY isS (rs isS) r9):=⟨Z2z,_,wH Z7s,PySem.W.mg_of X G Z4G,Z2F,Zeo⟩
 have Z4v:Cal l.prog w K mg base "_law_roll" ["_law_card_here","_law_many"] (1) (bf (isT3 K isS isS isI) isI (rs (isT3 K isS isS isI)) rc):=⟨Z2A,_,wI Z7t h_range,PySem.W.mg_of X G Z4J,Z2G,Zep⟩
 have Z1w:Cal l.prog w K mg base "_law_go" ["_law_turn"] (1) (bY isS (rs isI) kO):=⟨Z4f,_,wJ Z9L,PySem.W.mg_of X G Z6z,Z4l,Zhm⟩
 have Z18:Cal l.prog w K mg base "_law_behind" ["_law_card_here","_law_turn"] (2) (bf (isT3 K isS isS isI) isS (rs (isT3 K isS isS isI)) gv):=⟨Z1P,_,wK Z6e Z1w,PySem.W.mg_of X G Z2O,Z1S,ZaY⟩
 have Z4w:Cal l.prog w K mg base "_law_seen" ["_law_card_here","_law_turns_here"] (3) (bf (isT3 K isS isS isI) isS (ro isI) rd):=⟨Z2B,_,wL Z7u Z18 h_sorted,PySem.W.mg_of X G Z4M,Z2H,Zeq⟩
 have Z5u:Cal l.prog w K mg base "_law_kin" ["_law_card_here","_law_turns_here","_law_cell"] (4) (gl (isT3 K isS isS isI) isS isI (rs (isT2 K (isT3 K isS isS isI) isS)) re):=⟨Z36,_,wM Z8F Z20 Z4u Z4v Z4w h_range,PySem.W.mg_of X G Z5B,Z3b,ZfY⟩
 have Z4z:Cal l.prog w K mg base "_law_hurt" ["_law_strand_here","_law_cell"] (1) (bf (isT2 K (isT3 K isS isS isI) isS) isI (rs (isT2 K (isT3 K isS isS isI) isS)) rf):=⟨Z2C,_,wN Z7v h_len h_max,PySem.W.mg_of X G Z4P,Z2I,Zer⟩
 have Z3p:Cal l.prog w K mg base "_law_twist" ["_law_card_here","_law_turn"] (2) (bf (isT3 K isS isS isI) isS (rs isI) mm):=⟨Z25,_,wO Z74 Z1w,PySem.W.mg_of X G Z3F,Z2f,ZcS⟩
 have Z1N:Cal l.prog w K mg base "_law_places" ["_law_card_here","_law_turns_here"] (3) (bf (isT3 K isS isS isI) isS (ro (isT3 K isS isS isS)) qc):=⟨Z1Q,_,wP Z6f Z18 Z3p,PySem.W.mg_of X G Z2R,Z1T,ZaZ⟩
 have Z2n:Cal l.prog w K mg base "turned" ["tablet","turn"] (1) (bf (isT3 K isS isS isI) isS (rs (isT3 K isS isS isI)) g9):=⟨Z5v,_,wQ ZcT Z0y Z3f Z3g,PySem.W.mg_of X G Z7U,Z5E,Zi0⟩
 have C_top:Cal l.prog w K mg base "top" ["tablet"] (1) (bY (isT3 K isS isS isI) (rs isS) fH):=⟨f_top,_,uQ F_top Z0y,PySem.W.mg_of X G a_top,k_top,b_top⟩
 have Z7z:Cal l.prog w K mg base "bottom" ["tablet"] (1) (bY (isT3 K isS isS isI) (rs isS) rg):=⟨Z5w,_,wR ZcU Z0y,PySem.W.mg_of X G Z7X,Z5F,Zi1⟩
 have Z5s:Cal l.prog w K mg base "twisting" ["tablet","turn"] (1) (bf (isT3 K isS isS isI) isS (rs isI) rh):=⟨Z37,_,wS Z8G Z3f Z3g,PySem.W.mg_of X G Z5G,Z3c,ZfZ⟩
 have Z3q:Cal l.prog w K mg base "left_place" ["tablet","turn"] (2) (bf (isT3 K isS isS isI) isS (rs (isT3 K isS isS isS)) kt):=⟨Z26,_,wT Z75 C_top Z7z Z5s Z7A Z7B,PySem.W.mg_of X G Z3I,Z2g,ZcV⟩
 have Z8K:Cal l.prog w K mg base "woven" ["draft","plan"] (3) (bf (isL (isT3 K isS isS isI)) (isL isS) (ro (isL (isT3 K isS isS isS))) ri):=⟨Z7e,_,wU Zew Z2n Z3q h_list h_zip,PySem.W.mg_of X G Z9r,Z7g,Ziv⟩
 have Z4d:Cal l.prog w K mg base "left_by" ["strand"] (4) (bY (isT2 K (isT3 K isS isS isI) isS) (ro (isT3 K isS isS isS)) nL):=⟨Z4g,_,wV Z9M Z8K h_list,PySem.W.mg_of X G Z6C,Z4m,Zhn⟩
 have Z3u:Cal l.prog w K mg base "parting_of" ["ones","others"] (1) (bf (isL (isT3 K isS isS isS)) (isL (isT3 K isS isS isS)) (rs (isO (isT2 K isI isS))) pE):=⟨Z27,_,wW Z76 h_enumerate h_len h_min h_zip Z8L Z8M,PySem.W.mg_of X G Z3L,Z2h,ZcW⟩
 have Z6m:Cal l.prog w K mg base "flipped" ["tablet"] (1) (bY (isT3 K isS isS isI) (rs (isT3 K isS isS isI)) rj):=⟨Z4h,_,wX Z9N Z0y Z3s Z3t,PySem.W.mg_of X G Z6F,Z4n,Zho⟩
 have Z5t:Cal l.prog w K mg base "opposite" ["turns"] (1) (bY isS (rs isS) rk):=⟨Z38,_,wY Z8H Z4x Z4y,PySem.W.mg_of X G Z5J,Z3d,Zg0⟩
 have Z7C:Cal l.prog w K mg base "rolled" ["tablet","many"] (1) (bf (isT3 K isS isS isI) isI (rs (isT3 K isS isS isI)) rl):=⟨Z5x,_,wZ ZcX Z0y,PySem.W.mg_of X G Z80,Z5M,Zi2⟩
 have Zb7:Cal l.prog w K mg base "seen" ["strand"] (2) (bY (isT2 K (isT3 K isS isS isI) isS) (ro isI) tj):=⟨Z8n,_,x2 Zhp Z2n h_sorted Z0y,PySem.W.mg_of X G ZcK,Z8B,ZiD⟩
 have Zb8:Cal l.prog w K mg base "dyed" ["strand","hole","colour"] (3) (gl (isT2 K (isT3 K isS isS isI) isS) isI isS (rs (isT3 K isS isS isI)) tm):=⟨Z8o,_,x3 Zhq Zb7,PySem.W.mg_of X G ZcN,Z8C,ZiE⟩
 have Z1W:Cal l.prog w K mg base "stepped" ["strand","step"] (4) (bf (isT2 K (isT3 K isS isS isI) isS) (isU K) (rs (isT2 K (isT3 K isS isS isI) isS)) Z08):=⟨Z4i,_,x4 Z9O Z6m Z5t Z7C Zb8 Z0y,PySem.W.mg_of X G Z6I,Z4o,Zhr⟩
 have Z21:Cal l.prog w K mg base "turning_steps" ["one","other"] (5) (bf (isT2 K (isT3 K isS isS isI) isS) (isT2 K (isT3 K isS isS isI) isS) (ro (isU K)) rm):=⟨Z1s,_,x5 Z4q Z1W Z0y,PySem.W.mg_of X G Z2i,Z1u,Z8I⟩
 have Z2q:Cal l.prog w K mg base "dyeing_steps" ["tablet","wanted"] (1) (bf (isT3 K isS isS isI) (isT3 K isS isS isI) (ro (isU K)) qd):=⟨Z1G,_,x6 Z5g h_enumerate h_zip,PySem.W.mg_of X G Z2s,Z1H,Z9D⟩
 have Z8O:CalR l.prog w K mg base "steps" ["one","other"] (6) (mf (isT2 K (isT3 K isS isS isI) isS) (isT2 K (isT3 K isS isS isI) isS) Z06 (ro (isU K)) nM):=⟨Z7f,_,x8 Zex Z3u Z4d Z21 Z1W Z2q Z0X,PySem.W.mg_of X G Z9u,Z7h,Ziw⟩
 have Z22:Cal l.prog w K mg base "_law_tried" ["_law_one","_law_other"] (7) (bf (isT2 K (isT3 K isS isS isI) isS) (isT2 K (isT3 K isS isS isI) isS) (rs (isU K)) qe):=⟨Z28,_,x9 Z77 Z8O Z0X Z1U Z Z1J Z3v h_isinstance h_list,PySem.W.mg_of X G Z3O,Z2l,ZcY⟩
 have Z34:Cal l.prog w K mg base "_law_due" ["_law_ones","_law_others"] (1) (bf (isL (isT3 K isS isS isS)) (isL (isT3 K isS isS isS)) (rs (isU K)) qg):=⟨Z39,_,xa Z8J h_len h_min h_range,PySem.W.mg_of X G Z5N,Z3e,Zg1⟩
 exact FnOk.imp (uR F_law Z1d Z1M Z4z Z5u Z13 Z1N Z22 Z34 Z0X) rL
theorem walk {l:PySem.W.OpenLaw} {q:Program} {loose:List Str} {XP:(Str→Option Value)→Heap→Prop} {YP:World→Heap→Prop} {d:DefRec} {K:Params→PySem.W.Frag} (hn:l.most=some 63) (hdf:d.params.defaults=[]) (hY:∀(w:World) (h:Heap),YP w h→(K w.params).In h)
  (F:∀(w:World) (mg:Str→Option Value) (fa:Addr) (h:Heap),(K w.params).In h→h.Ns mainGlobals mg→mg d.name=some (.ref fa)→∃fd:FuncData,(∀(s:Shared) (u:Value),BindsTo s fd ⟨[u],[]⟩ [("_law_script",u)])∧∀base:Heap,(K w.params).In base→base.Ns mainGlobals mg→FnOk l.prog w (K w.params) mg base CX0 27 fa fd ["_law_script"] (mq (K w.params))):
  PySem.W.WalkO q loose XP YP l.row.toRowW d [] (fun f vs=>PySem.call f vs):=
 L2.walk_of (n:=63) (k:=27) (x:="_law_script") (CX:=fun _=>CX0) (sp:=fun w=>mq (K w.params)) hn (by decide) hdf ⟨rfl,by decide,by decide⟩ hY F (fun _ _ a ns hl _ hS=>⟨a,ns,rfl,hS,hl,fun _=>rfl⟩) fun _ _ _ _ _ z=>z
end Wb
open PySem PySem.W PyProof.Rows
set_option maxRecDepth 100000 in
set_option maxHeartbeats 0 in
theorem PySem.Challenge.cw_wornband_k22_unlike_strands_holds : PySem.Challenge.rw_wornband_k22_unlike_strands.Holds := by
 refine hd ?_
 k_fill
 refine Wb.walk (l:=PySem.Challenge.rw_wornband_k22_unlike_strands) rfl rfl (fun w h Y=>PySem.W.kIn_of Y) ?F
 case F=>
  intro w mg fa h KX G hmg
  refine' Wb.fin_mk KX G hmg ?Z2D ?Z4B ?Z4C ?Z1L ?Z6w ?Z6x ?Z6y ?Z4k ?Z5y ?Z5z ?Z5A ?Z3a ?Z3z ?Z3A ?Z3B ?Z2a ?Z4D ?Z4E ?Z4F ?Z2E ?Z3C ?Z3D ?Z3E ?Z2b ?Z2L ?Z2M ?Z2N ?Z1R ?Z2c ?Z2d ?Z2e ?Z1t ?Z4G ?Z4H ?Z4I ?Z2F ?Z4J ?Z4K ?Z4L ?Z2G ?Z6z ?Z6A ?Z6B ?Z4l ?Z2O ?Z2P ?Z2Q ?Z1S ?Z4M ?Z4N ?Z4O ?Z2H ?Z5B ?Z5C ?Z5D ?Z3b ?Z4P ?Z4Q ?Z4R ?Z2I ?Z3F ?Z3G ?Z3H ?Z2f ?Z2R ?Z2S ?Z2T ?Z1T ?Z7U ?Z7V ?Z7W ?Z5E ?a_top ?l_top ?c_top ?k_top ?Z7X ?Z7Y ?Z7Z ?Z5F ?Z5G ?Z5H ?Z5I ?Z3c ?Z3I ?Z3J ?Z3K ?Z2g ?Z9r ?Z9s ?Z9t ?Z7g ?Z6C ?Z6D ?Z6E ?Z4m ?Z3L ?Z3M ?Z3N ?Z2h ?Z6F ?Z6G ?Z6H ?Z4n ?Z5J ?Z5K ?Z5L ?Z3d ?Z80 ?Z81 ?Z82 ?Z5M ?ZcK ?ZcL ?ZcM ?Z8B ?ZcN ?ZcO ?ZcP ?Z8C ?Z6I ?Z6J ?Z6K ?Z4o ?Z2i ?Z2j ?Z2k ?Z1u ?Z2s ?Z2t ?Z2u ?Z1H ?Z9u ?Z9v ?Z9w ?Z7h ?Z3O ?Z3P ?Z3Q ?Z2l ?Z5N ?Z5O ?Z5P ?Z3e ?a_law ?l_law ?c_law ?k_law ?Z3R ?Z3S ?Z3T ?Z2m ?z_ValueError ?z_abs ?z_bool ?z_enumerate ?z_int ?z_isinstance ?z_len ?z_list ?z_max ?z_min ?z_range ?z_sorted ?z_str ?z_tuple ?z_zip ?Z9x ?Z4S ?Z4T ?Z4U ?Z3U ?Z3V ?Z3W ?Z9y ?Z9z ?Z83 ?Z84 ?Z85 ?Z9A ?Z9B ?Z9C ?Z4V ?Z4W ?Z4X ?Z3X ?Z3Y ?Z4Y ?Z4Z ?Z3Z ?Z40 ?Z41 ?Z86 ?Z87 ?Z6L ?Z6M ?Z6N ?Z6O ?Z6P ?Z5Q ?Z5R ?Z5S ?Z6Q ?Z6R ?Z5T ?Z5U ?Z5V ?Z6S ?Z6T ?Z5W ?Z5X ?Z5Y ?Z5Z ?Z60 ?Z50 ?Z51 ?Z52 ?Z61 ?Z62 ?Z53 ?Z54 ?Z55 ?Z63 ?Z64 ?Z56 ?Z57 ?Z58 ?Z2U ?Z2V ?Z2v ?Z2w ?Z2x ?Z88 ?Z89 ?Z6U ?Z6V ?Z6W ?Z42 ?Z43 ?Z2W ?Z2X ?Z2Y ?Z59 ?Z5a ?Z44 ?Z45 ?Z46 ?Z8a ?Z8b ?Z6X ?Z6Y ?Z6Z ?Z8c ?Z70 ?Z71 ?l_init ?c_init ?k_init ?Z8d ?hd1 ?sa1 ?p1 ?p2 ?hn1 ?ht1 ?nd1
  (case Z2D=>k_is)
  (case Z4B=>k_is)
  (case Z4C=>k_is)
  (case Z1L=>k_is)
  (case Z6w=>k_is)
  (case Z6x=>k_is)
  (case Z6y=>k_is)
  (case Z4k=>k_is)
  (case Z5y=>k_is)
  (case Z5z=>k_is)
  (case Z5A=>k_is)
  (case Z3a=>k_is)
  (case Z3z=>k_is)
  (case Z3A=>k_is)
  (case Z3B=>k_is)
  (case Z2a=>k_is)
  (case Z4D=>k_is)
  (case Z4E=>k_is)
  (case Z4F=>k_is)
  (case Z2E=>k_is)
  (case Z3C=>k_is)
  (case Z3D=>k_is)
  (case Z3E=>k_is)
  (case Z2b=>k_is)
  (case Z2L=>k_is)
  (case Z2M=>k_is)
  (case Z2N=>k_is)
  (case Z1R=>k_is)
  (case Z2c=>k_is)
  (case Z2d=>k_is)
  (case Z2e=>k_is)
  (case Z1t=>k_is)
  (case Z4G=>k_is)
  (case Z4H=>k_is)
  (case Z4I=>k_is)
  (case Z2F=>k_is)
  (case Z4J=>k_is)
  (case Z4K=>k_is)
  (case Z4L=>k_is)
  (case Z2G=>k_is)
  (case Z6z=>k_is)
  (case Z6A=>k_is)
  (case Z6B=>k_is)
  (case Z4l=>k_is)
  (case Z2O=>k_is)
  (case Z2P=>k_is)
  (case Z2Q=>k_is)
  (case Z1S=>k_is)
  (case Z4M=>k_is)
  (case Z4N=>k_is)
  (case Z4O=>k_is)
  (case Z2H=>k_is)
  (case Z5B=>k_is)
  (case Z5C=>k_is)
  (case Z5D=>k_is)
  (case Z3b=>k_is)
  (case Z4P=>k_is)
  (case Z4Q=>k_is)
  (case Z4R=>k_is)
  (case Z2I=>k_is)
  (case Z3F=>k_is)
  (case Z3G=>k_is)
  (case Z3H=>k_is)
  (case Z2f=>k_is)
  (case Z2R=>k_is)
  (case Z2S=>k_is)
  (case Z2T=>k_is)
  (case Z1T=>k_is)
  (case Z7U=>k_is)
  (case Z7V=>k_is)
  (case Z7W=>k_is)
  (case Z5E=>k_is)
  (case a_top=>k_is)
  (case l_top=>k_is)
  (case c_top=>k_is)
  (case k_top=>k_is)
  (case Z7X=>k_is)
  (case Z7Y=>k_is)
  (case Z7Z=>k_is)
  (case Z5F=>k_is)
  (case Z5G=>k_is)
  (case Z5H=>k_is)
  (case Z5I=>k_is)
  (case Z3c=>k_is)
  (case Z3I=>k_is)
  (case Z3J=>k_is)
  (case Z3K=>k_is)
  (case Z2g=>k_is)
  (case Z9r=>k_is)
  (case Z9s=>k_is)
  (case Z9t=>k_is)
  (case Z7g=>k_is)
  (case Z6C=>k_is)
  (case Z6D=>k_is)
  (case Z6E=>k_is)
  (case Z4m=>k_is)
  (case Z3L=>k_is)
  (case Z3M=>k_is)
  (case Z3N=>k_is)
  (case Z2h=>k_is)
  (case Z6F=>k_is)
  (case Z6G=>k_is)
  (case Z6H=>k_is)
  (case Z4n=>k_is)
  (case Z5J=>k_is)
  (case Z5K=>k_is)
  (case Z5L=>k_is)
  (case Z3d=>k_is)
  (case Z80=>k_is)
  (case Z81=>k_is)
  (case Z82=>k_is)
  (case Z5M=>k_is)
  (case ZcK=>k_is)
  (case ZcL=>k_is)
  (case ZcM=>k_is)
  (case Z8B=>k_is)
  (case ZcN=>k_is)
  (case ZcO=>k_is)
  (case ZcP=>k_is)
  (case Z8C=>k_is)
  (case Z6I=>k_is)
  (case Z6J=>k_is)
  (case Z6K=>k_is)
  (case Z4o=>k_is)
  (case Z2i=>k_is)
  (case Z2j=>k_is)
  (case Z2k=>k_is)
  (case Z1u=>k_is)
  (case Z2s=>k_is)
  (case Z2t=>k_is)
  (case Z2u=>k_is)
  (case Z1H=>k_is)
  (case Z9u=>k_is)
  (case Z9v=>k_is)
  (case Z9w=>k_is)
  (case Z7h=>k_is)
  (case Z3O=>k_is)
  (case Z3P=>k_is)
  (case Z3Q=>k_is)
  (case Z2l=>k_is)
  (case Z5N=>k_is)
  (case Z5O=>k_is)
  (case Z5P=>k_is)
  (case Z3e=>k_is)
  (case a_law=>k_is)
  (case l_law=>k_is)
  (case c_law=>k_is)
  (case k_law=>k_is)
  (case Z3R=>k_is)
  (case Z3S=>k_is)
  (case Z3T=>k_is)
  (case Z2m=>k_is)
  (case z_ValueError=>k_is)
  (case z_abs=>k_is)
  (case z_bool=>k_is)
  (case z_enumerate=>k_is)
  (case z_int=>k_is)
  (case z_isinstance=>k_is)
  (case z_len=>k_is)
  (case z_list=>k_is)
  (case z_max=>k_is)
  (case z_min=>k_is)
  (case z_range=>k_is)
  (case z_sorted=>k_is)
  (case z_str=>k_is)
  (case z_tuple=>k_is)
  (case z_zip=>k_is)
  (case Z9x=>k_is)
  (case Z4S=>k_is)
  (case Z4T=>k_is)
  (case Z4U=>rfl)
  (case Z3U=>k_is)
  (case Z3V=>k_is)
  (case Z3W=>rfl)
  (case Z9y=>k_is)
  (case Z9z=>k_is)
  (case Z83=>k_is)
  (case Z84=>k_is)
  (case Z85=>rfl)
  (case Z9A=>k_is)
  (case Z9B=>k_is)
  (case Z9C=>rfl)
  (case Z4V=>k_is)
  (case Z4W=>k_is)
  (case Z4X=>k_is)
  (case Z3X=>exact Wb.strKeys_of rfl)
  (case Z3Y=>first | rfl | kernel_rfl)
  (case Z4Y=>k_is)
  (case Z4Z=>k_is)
  (case Z3Z=>k_is)
  (case Z40=>k_is)
  (case Z41=>k_is)
  (case Z86=>k_is)
  (case Z87=>k_is)
  (case Z6L=>k_is)
  (case Z6M=>k_is)
  (case Z6N=>k_is)
  (case Z6O=>k_is)
  (case Z6P=>k_is)
  (case Z5Q=>k_is)
  (case Z5R=>k_is)
  (case Z5S=>k_is)
  (case Z6Q=>k_is)
  (case Z6R=>k_is)
  (case Z5T=>k_is)
  (case Z5U=>k_is)
  (case Z5V=>k_is)
  (case Z6S=>k_is)
  (case Z6T=>k_is)
  (case Z5W=>k_is)
  (case Z5X=>k_is)
  (case Z5Y=>k_is)
  (case Z5Z=>k_is)
  (case Z60=>k_is)
  (case Z50=>k_is)
  (case Z51=>k_is)
  (case Z52=>k_is)
  (case Z61=>k_is)
  (case Z62=>k_is)
  (case Z53=>k_is)
  (case Z54=>k_is)
  (case Z55=>k_is)
  (case Z63=>k_is)
  (case Z64=>k_is)
  (case Z56=>k_is)
  (case Z57=>k_is)
  (case Z58=>k_is)
  (case Z2U=>k_is)
  (case Z2V=>k_is)
  (case Z2v=>k_is)
  (case Z2w=>k_is)
  (case Z2x=>k_is)
  (case Z88=>k_is)
  (case Z89=>k_is)
  (case Z6U=>k_is)
  (case Z6V=>k_is)
  (case Z6W=>k_is)
  (case Z42=>k_is)
  (case Z43=>k_is)
  (case Z2W=>k_is)
  (case Z2X=>k_is)
  (case Z2Y=>k_is)
  (case Z59=>k_is)
  (case Z5a=>k_is)
  (case Z44=>k_is)
  (case Z45=>k_is)
  (case Z46=>k_is)
  (case Z8a=>k_is)
  (case Z8b=>k_is)
  (case Z6X=>k_is)
  (case Z6Y=>k_is)
  (case Z6Z=>k_is)
  (case Z8c=>k_is)
  (case Z70=>exact Wb.strKeys_of rfl)
  (case Z71=>first | exact rfl | k_is)
  (case l_init=>k_is)
  (case c_init=>k_is)
  (case k_init=>k_is)
  (case Z8d=>k_is)
  (case hd1=>k_is)
  (case sa1=>k_is)
  (case p1=>k_is)
  (case p2=>k_is)
  (case hn1=>k_is)
  (case ht1=>k_is)
  (case nd1=>decide)
