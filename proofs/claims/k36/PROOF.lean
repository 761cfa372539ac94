import PyProof.Rows.All
import Wide.All
import OpenK.AllK
import Wide.FinOn
import PyProof.EqAt
import PyProof.EqKinds
import PyProof.TupleCall
import KE.KDictSum
import KE.KRevIter
import KE.KRevSl
import KE.KDictLaws
import PyProof.StrLawsFirst
import KE.LcSums
import PyProof.EnumMake
import PyProof.TupleIter
import PyProof.StationsW
import PyProof.Rows.Own
import PyProof.NsDelKeeps
import PyProof.RulesAs
import PyProof.ExcAttrAll.ValueError
import KE.KIsAll
import PyProof.ExcBaseAll.ValueError
import PyProof.Rows.FStr
import PyProof.FString
import PyProof.Rows.StrNews
import PyProof.StrLawsTight
import PyProof.StrLawsChain
import PyProof.ExcInit
import PyProof.ExcClass3
import PyProof.InstStoreFacts
import PySem.SetTable
import PySem.SetOps
import PyProof.TupleKey
import PyProof.SetKind
import PyProof.IsRules
import KE.KSortTup
import PySem.Challenge.RW_wornband_k36_least_by_all_columns
set_option Elab.async false
set_option linter.all false
set_option maxRecDepth 100000
namespace L2
open PySem PySem.Spec PyProof.Rows
abbrev Key:=Sum Int Str
def ef:Key→Value→Bool
 | .inl k,v=>Value.isInt k v
 | .inr x,v=>Value.isStrOf x v
def nK (w:World):Key→Int
 | .inl k=>hashInt k
 | .inr x=>hashStr w x
theorem bp:∀{k:Key} {v:Value},ef k v=true→(∃i t,k=Sum.inl i∧v=Value.int i t)∨(∃x t,k=Sum.inr x∧v=Value.str x t)
 | .inl i, v, h => by
  obtain⟨t,e⟩:=Value.isInt_shape (k:=i) (v:=v) h
  exact .inl ⟨i,t,rfl,e⟩
 | .inr x, v, h => by
  obtain⟨t,e⟩:=Value.isStrOf_shape (x:=x) (v:=v) h
  exact .inr ⟨x,t,rfl,e⟩
theorem eM (i:Int) (t:Tok):ef (.inl i) (.int i t)=true:=by simp[ef,Value.isInt]
theorem eN (x:Str) (t:Tok):ef (.inr x) (.str x t)=true:=by simp[ef,Value.isStrOf]
theorem su (a b:Int):decide ((Sum.inl a:Key)=Sum.inl b)=(a == b):=by
 by_cases e:a=b
 ·subst e;simp
 ·have h:¬(Sum.inl a:Key)=Sum.inl b:=fun q=>e (Sum.inl.inj q)
  rw[decide_eq_false h]
  exact(beq_eq_false_iff_ne.mpr e).symm
theorem sv (a b:Str):decide ((Sum.inr a:Key)=Sum.inr b)=decide (a=b):=by
 by_cases e:a=b
 ·subst e;simp
 ·have h:¬(Sum.inr a:Key)=Sum.inr b:=fun q=>e (Sum.inr.inj q)
  rw[decide_eq_false h,decide_eq_false e]
theorem sw (a:Int) (b:Str):decide ((Sum.inl a:Key)=Sum.inr b)=false:=decide_eq_false (fun q=>nomatch q)
theorem sx (a:Str) (b:Int):decide ((Sum.inr a:Key)=Sum.inl b)=false:=decide_eq_false (fun q=>nomatch q)
def mixKind (prog:Program) (w:World):PySem.KeyKind prog w Key where
 is:=ef
 hash:=nK w
 inj:=fun v a b ha hb=>by
  rcases bp ha with⟨i,t,rfl,rfl⟩ | ⟨x,t,rfl,rfl⟩
  ·rcases bp hb with⟨j,u,rfl,e⟩ | ⟨y,u,rfl,e⟩
   ·injection e with e1 _;rw[e1]
   ·exact nomatch e
  ·rcases bp hb with⟨j,u,rfl,e⟩ | ⟨y,u,rfl,e⟩
   ·exact nomatch e
   ·injection e with e1 _;rw[e1]
 byValue:=fun k v h=>by
  rcases bp h with⟨i,t,rfl,rfl⟩ | ⟨x,t,rfl,rfl⟩ <;> rfl
 pyHash:=fun hv h=>by
  rcases bp hv with⟨i,t,rfl,rfl⟩ | ⟨x,t,rfl,rfl⟩
  ·exact wpAny_pyHash_int h
  ·exact wpAny_pyHash_str h
 eqBool:=fun hu hv h=>by
  rcases bp hu with⟨i,t,rfl,rfl⟩ | ⟨x,t,rfl,rfl⟩
  ·rcases bp hv with⟨j,u,rfl,rfl⟩ | ⟨y,u,rfl,rfl⟩
   ·rw[su]at h;exact wpAny_eqBool_int h
   ·rw[sw]at h;exact SeqAt.EqAt.int_str i t y u _ _ _ _ h
  ·rcases bp hv with⟨j,u,rfl,rfl⟩ | ⟨y,u,rfl,rfl⟩
   ·rw[sx]at h;exact SeqAt.EqAt.str_int x t j u _ _ _ _ h
   ·rw[sv]at h;exact wpAny_eqBool_str h
 «strs» :=fun k x t v h=>by
  rcases bp h with⟨i,u,rfl,e⟩ | ⟨y,u,rfl,e⟩
  ·exact nomatch e
  ·injection e with e1 _
   subst e1
   cases v <;> rfl
theorem jq (prog:Program) (w:World) (i:Int) (t:Tok):(mixKind prog w).is (.inl i) (.int i t)=true:=eM i t
theorem jr (prog:Program) (w:World) (x:Str) (t:Tok):(mixKind prog w).is (.inr x) (.str x t)=true:=eN x t
end L2
namespace L2
open PySem PySem.Spec PyProof.Rows
inductive V where
 | non | bl (b:Bool) | int (i:Int) | str (x:Str) | byt (b:Array UInt8) | flt (b:UInt64) | ref (a:Addr) | ty (n:String)
 deriving DecidableEq
def RelV:V→Value→Prop
 | .non,u=>u=Value.none
 | .bl b,u=>u=Value.bool b
 | .int i,u=>∃t,u=Value.int i t
 | .str x,u=>∃t,u=Value.str x t
 | .byt b,u=>∃t,u=Value.bytes b t
 | .flt b,u=>∃t,u=Value.float b t
 | .ref a,u=>u=Value.ref a
 | .ty n,u=>u=Value.type n
abbrev Vals:List V→List Value→Prop:=Paired RelV
theorem Vals.length {xs:List V} {us:List Value} (r:Vals xs us):xs.length=us.length:=Paired.length r
theorem Vals.get:∀{xs:List V} {us:List Value} {i:Nat} {x:V},Vals xs us→xs[i]? =some x→∃u,us[i]? =some u∧RelV x u
 | _,_,_,_,.nil,e=>by simp at e
 | _,_,0,_,.cons r _,e=>by simp at e;subst e;exact⟨_,rfl,r⟩
 | _, _, i + 1, x, .cons _ t, e => by
  obtain⟨u,h1,h2⟩:=Vals.get (i:=i) (x:=x) t (by simpa using e)
  exact⟨u,by simpa using h1,h2⟩
theorem Vals.set {x:V} {u:Value} (r:RelV x u):∀{xs:List V} {us:List Value} (i:Nat),Vals xs us→Vals (xs.set i x) (us.set i u)
 | _,_,_,.nil=>.nil
 | _,_,0,.cons _ t=>.cons r t
 | _,_,i+1,.cons q t=>.cons q (Vals.set r i t)
theorem Vals.append:∀{xs ys:List V} {us ws:List Value},Vals xs us→Vals ys ws→Vals (xs++ys) (us++ws)
 | _,_,_,_,.nil,s=>s
 | _,_,_,_,.cons r t,s=>.cons r (Vals.append t s)
theorem Vals.take:∀{xs:List V} {us:List Value} (n:Nat),Vals xs us→Vals (xs.take n) (us.take n)
 | _,_,0,_=>.nil
 | _,_,_+1,.nil=>.nil
 | _,_,n+1,.cons r t=>.cons r (Vals.take n t)
theorem Vals.drop:∀{xs:List V} {us:List Value} (n:Nat),Vals xs us→Vals (xs.drop n) (us.drop n)
 | _,_,0,r=>r
 | _,_,_+1,.nil=>.nil
 | _,_,n+1,.cons _ t=>Vals.drop n t
def RelO:Option V→Option Value→Prop
 | some v,some u=>RelV v u
 | none,none=>True
 | _,_=>False
def KV {κ:Type} :List (κ×V)→List (κ×Value)→Prop:=Paired fun(p:κ×V) (q:κ×Value)=>p.1=q.1∧RelV p.2 q.2
def kV:Key→V
 | .inl i=>.int i
 | .inr x=>.str x
inductive HO where
 | lst (xs:List V)
 | tup (xs:List V)
 | dK (kvs:List (Key×V)) | dT (kvs:List (List Key×V))
 | set (S:Int→Bool) (n:Nat)
 | ins (C dx:Addr) (fs:List (Str×V))
 | own (x:Addr)
 | xd (fs:List (Str×V))
 | met (f x:Addr)
 | rng (lo hi:Int)
 | frz (o:Obj) (u:HO)
 | tbl (ps:Array Value)
 | ext (φ:Heap→Prop)
abbrev Hp:=Addr→Option HO
def cr (H:Hp) (a:Addr) (o:HO):Hp:=fun b=>if b=a then some o else H b
theorem aJ {H:Hp} {a:Addr} {o:HO} :cr H a o a=some o:=by unfold cr;rw[if_pos rfl]
theorem aw {H:Hp} {a b:Addr} {o:HO} (h:b≠a):cr H a o b=H b:=by unfold cr;rw[if_neg h]
theorem bE {H:Hp} {a b:Addr} {o:HO} (h:H a=some o) (h':H b=none):a≠b:=by
 intro e;subst e;rw[h]at h';cases h'
def IsTupD (h:Heap) (a:Addr) (items:Array Value):Prop:=∃o,h.get? a=some o∧(o.cls=.type "tuple" ∧o.dict=none)∧∃n,o.data=.seq items n
theorem IsTupD.tup {h:Heap} {a:Addr} {items:Array Value} (t:IsTupD h a items):IsTup h a items:=let ⟨o,e,c,n,d⟩:=t;⟨o,e,c.1,n,d⟩
theorem IsTupD.new (h:Heap) (items:Array Value):IsTupD (h.push {cls:=.type "tuple",data:=.seq items}) h.objs.size items:=⟨_,Heap.get?_push_size h rfl,⟨rfl,rfl⟩,0,rfl⟩
section
variable (P:Program) (w:World)
def ObjOk (H:Hp) (h:Heap) (a:Addr):HO→Prop
 | .lst xs=>xs.length≤sizeLine∧∃(its:List Value) (n:Nat),Vals xs its∧h.get? a=some {cls:=.type "list",data:=.seq its.toArray n}
 | .tup xs=>xs.length≤sizeLine∧∃its:List Value,Vals xs its∧IsTupD h a its.toArray
 | .dK kvs=>kvs.length≤sizeLine∧(a == sysModules)=false∧∃vs,KV kvs vs∧h.DictOf (mixKind P w) a vs
 | .dT kvs=>kvs.length≤sizeLine∧(a == sysModules)=false∧∃xs:List (List Key×Addr×Value),
   Paired (fun(p:List Key×V) (q:List Key×Addr×Value)=>p.1=q.1∧H q.2.1=some (.tup (p.1.map kV))∧RelV p.2 q.2.2) kvs xs∧
   ∃o es ep,h.get? a=some o∧o.ExactDict∧o.data=.dict es ep∧es.toList=xs.map (entryOfKey (tupleKind (mixKind P w)))∧(xs.map (·.1)).Nodup
 | .set S n=>h.SetOf (intKind P w) a S n
 | .ins C dx fs=>H dx=some (.own a)∧fs.length≤1000∧dx≠a∧h.get? a=some (PySem.W.instObj C dx)∧
   ∃mA,h.Ns1 dx mA∧(∀f,RelO (fs.lookup f) (mA f))∧PySem.Within mA (fs.map (·.1))
 | .own _=>∃o,h.get? a=some o
 | .xd fs=>∃mA,h.Ns1 a mA∧∀f,RelO (fs.lookup f) (mA f)
 | .rng lo hi=>∃t u v,h.get? a=some {cls:=.type "range",data:=.fields #[.int lo t,.int hi u,.int 1 v]}
 | .frz o u=>h.get? a=some o∧ObjOk H h a u
 | .tbl ps=>h.get? a=some {cls:=.none,data:=.fields ps}
 | .met f x=>h.get? a=some (PySem.W.methodObj (.ref f) (.ref x))
 | .ext φ=>φ h∧(∃o,h.get? a=some o)∧∀h1 h2:Heap,φ h1→(∀o,h1.get? a=some o→h2.get? a=some o)→φ h2
def HOk (H:Hp) (h:Heap):Prop:=∀a o,H a=some o→ObjOk P w H h a o
end
section
variable {P:Program} {w:World} {H H':Hp} {h h':Heap} {a:Addr} {o:HO}
theorem ObjOk.lt (x:ObjOk P w H h a o):a< h.objs.size:=by
 cases o with
 | lst xs=>obtain⟨_,_,_,_,e⟩:=x;exact Heap.lt_size e
 | tup xs=>obtain⟨_,_,_,p⟩:=x;exact p.tup.lt
 | dK kvs=>obtain⟨_,_,_,_,o,_,_,e,_⟩:=x;exact Heap.lt_size e
 | dT kvs=>obtain⟨_,_,_,_,o,_,_,e,_⟩:=x;exact Heap.lt_size e
 | set S n=>obtain⟨o,_,_,_,e,_⟩:=x;exact Heap.lt_size e
 | ins C dx fs=>obtain⟨_,_,_,e,_⟩:=x;exact Heap.lt_size e
 | own y=>obtain⟨_,e⟩:=x;exact Heap.lt_size e
 | xd fs=>obtain⟨_,⟨_,_,_,e,_⟩,_⟩:=x;exact Heap.lt_size e
 | rng lo hi=>obtain⟨_,_,_,e⟩:=x;exact Heap.lt_size e
 | frz ob u=>obtain⟨e,_⟩:=x;exact Heap.lt_size e
 | tbl ps=>exact Heap.lt_size (show h.get? a=some _ from x)
 | met f y=>exact Heap.lt_size (show h.get? a=some _ from x)
 | ext φ=>obtain⟨_,⟨_,e⟩,_⟩:=x;exact Heap.lt_size e
theorem Paired.mapP {α β:Type} {F G:α→β→Prop} :∀{l₁:List α} {l₂:List β},Paired F l₁ l₂→(∀a b,F a b→G a b)→Paired G l₁ l₂
 | _,_,.nil,_=>.nil
 | _,_,.cons r t,f=>.cons (f _ _ r) (Paired.mapP t f)
theorem ObjOk.stay (x:ObjOk P w H h a o) (k:∀b u,(b=a∨H b=some (.own a))→h.get? b=some u→h'.get? b=some u)
  (ho:∀b,H b=some (.own a)→H' b=some (.own a)) (ht:∀b xs,H b=some (.tup xs)→H' b=some (.tup xs)):ObjOk P w H' h' a o:=by
 induction o with
 | lst xs=>obtain⟨z,its,n,r,e⟩:=x;exact⟨z,its,n,r,k _ _ (.inl rfl) e⟩
 | tup xs=>obtain⟨z,its,r,ob,e,c⟩:=x;exact⟨z,its,r,ob,k _ _ (.inl rfl) e,c⟩
 | dK kvs=>obtain⟨z,y,vs,r,ob,es,ep,e,c⟩:=x;exact⟨z,y,vs,r,ob,es,ep,k _ _ (.inl rfl) e,c⟩
 | dT kvs =>
  obtain⟨z,y,xs,r,ob,es,ep,e,c⟩:=x
  exact⟨z,y,xs,Paired.mapP r fun p q z=>⟨z.1,ht _ _ z.2.1,z.2.2⟩,ob,es,ep,k _ _ (.inl rfl) e,c⟩
 | set S n=>obtain⟨ob,es,ep,t,e,c⟩:=x;exact⟨ob,es,ep,t,k _ _ (.inl rfl) e,c⟩
 | ins C dx fs =>
  obtain⟨d,z,ne,e,mA,⟨od,es,ep,e2,c⟩,r⟩:=x
  exact⟨ho _ d,z,ne,k _ _ (.inl rfl) e,mA,⟨od,es,ep,k _ _ (.inr d) e2,c⟩,r⟩
 | own y=>obtain⟨ob,e⟩:=x;exact⟨ob,k _ _ (.inl rfl) e⟩
 | xd fs=>obtain⟨mA,⟨od,es,ep,e,c⟩,r⟩:=x;exact⟨mA,⟨od,es,ep,k _ _ (.inl rfl) e,c⟩,r⟩
 | rng lo hi=>obtain⟨t,u,v,e⟩:=x;exact⟨t,u,v,k _ _ (.inl rfl) e⟩
 | frz ob u ih=>obtain⟨e,q⟩:=x;exact⟨k _ _ (.inl rfl) e,ih q⟩
 | tbl ps =>
  have e:h.get? a=some {cls:=.none,data:=.fields ps} :=x
  show h'.get? a=some {cls:=.none,data:=.fields ps}
  exact k a _ (.inl rfl) e
 | met f y =>
  have e:h.get? a=some (PySem.W.methodObj (.ref f) (.ref y)):=x
  show h'.get? a=some (PySem.W.methodObj (.ref f) (.ref y))
  exact k a _ (.inl rfl) e
 | ext φ=>obtain⟨p,⟨o,e⟩,st⟩:=x;exact⟨st _ _ p fun o q=>k _ _ (.inl rfl) q,⟨o,k _ _ (.inl rfl) e⟩,st⟩
theorem HOk.lt (x:HOk P w H h) (e:H a=some o):a< h.objs.size:=(x a o e).lt
theorem HOk.fresh (x:HOk P w H h) (e:h.objs.size≤a):H a=none:=by
 cases q:H a with
 | none=>rfl
 | some u=>exact absurd (Nat.lt_of_lt_of_le (x.lt q) e) (Nat.lt_irrefl _)
theorem HOk.kept (x:HOk P w H h) (k:∀b u,h.get? b=some u→h'.get? b=some u):HOk P w H h':=fun a o e=>
 (x a o e).stay (fun b u _ q=>k b u q) (fun _ q=>q) fun _ _ q=>q
theorem HOk.laid (x:HOk P w H h) (k:∀b u,h.get? b=some u→h'.get? b=some u) (hp:h.objs.size≤a) (new:ObjOk P w (cr H a o) h' a o):HOk P w (cr H a o) h':=fun b u e=>by
 have hn:=x.fresh hp
 by_cases hb:b=a
 ·subst hb;rw[aJ]at e;cases e;exact new
 ·rw[aw hb]at e
  exact(x b u e).stay (fun c v _ q=>k c v q) (fun c q=>by rw[aw (bE q hn)];exact q) fun c xs q=>by rw[aw (bE q hn)];exact q
end
def Rd (H:Hp) (a:Addr) (u:HO):Prop:=H a=some u∨∃o,H a=some (.frz o u)
theorem Rd.ok {P:Program} {w:World} {H:Hp} {h:Heap} {a:Addr} {u:HO} (r:Rd H a u) (x:HOk P w H h):ObjOk P w H h a u:=by
 rcases r with r | ⟨o,r⟩
 ·exact x a u r
 ·obtain⟨_,q⟩:=x a _ r
  exact q
def uW:Option HO→Prop
 | some (.lst _)=>True
 | some (.dK _)=>True
 | some (.dT _)=>True
 | some (.set _ _)=>True
 | some (.ins _ _ _)=>True
 | some (.ext _)=>True
 | _=>False
section
variable {P:Program} {w:World} {H:Hp} {h h':Heap} {x e:Addr} {o':HO}
theorem HOk.write (ok:HOk P w H h) (mu:uW (H x)) (he:e=x∨H e=some (.own x)) (k:∀b u,b≠e→h.get? b=some u→h'.get? b=some u) (heo:∃u,h'.get? e=some u)
  (new:ObjOk P w (cr H x o') h' x o'):HOk P w (cr H x o') h':=fun b u q=>by
 have nown:∀c y,H c=some (.own y)→c≠x:=fun c y r z=>by subst z;rw[r]at mu;exact mu
 have ntup:∀c xs,H c=some (.tup xs)→c≠x:=fun c xs r z=>by subst z;rw[r]at mu;exact mu
 by_cases hb:b=x
 ·subst hb;rw[aJ]at q;cases q;exact new
 ·rw[aw hb]at q
  by_cases hbe:b=e
  ·have q':H b=some (.own x):=by
    rcases he with z | z
    ·exact absurd (hbe.trans z) hb
    ·rw[hbe];exact z
   rw[q]at q';cases q'
   obtain⟨v,hv⟩:=heo
   exact⟨v,by rw[hbe];exact hv⟩
  ·refine(ok b u q).stay (fun c v hc r=>k c v ?_ r) (fun c r=>by rw[aw (nown c b r)];exact r) fun c xs r=>by rw[aw (ntup c xs r)];exact r
   rcases hc with rfl | hc
   ·exact hbe
   ·rintro rfl
    rcases he with z | z
    ·exact nown c b hc z
    ·rw[hc]at z;cases z;exact hb rfl
end
structure Un (fs ex:List Addr) (H H':Hp) (h h':Heap):Prop where
 keep:∀b o,h.get? b=some o→H b=none→b∉fs→b∉ex→h'.get? b=some o
 slot:∀b o,h.get? b=some o→H b=none→b∈fs→b∉ex→∃sl,h'.get? b=some {o with slots:=sl}
 free:∀b o,h.get? b=some o→H b=none→b∉ex→H' b=none
 there:∀b o,h.get? b=some o→b∉ex→∃o',h'.get? b=some o'
 tups:∀b xs,H b=some (.tup xs)→H' b=some (.tup xs)
 frzs:∀b o u,H b=some (.frz o u)→H' b=some (.frz o u)
 tbls:∀b ps,H b=some (.tbl ps)→∃more,H' b=some (.tbl (ps++more))
section
variable {fs fs' ex ex':List Addr} {H H1 H2:Hp} {h h1 h2 h':Heap} {a x e:Addr} {o:HO}
theorem Un.any (u:Un fs ex H H1 h h1) {b:Addr} {ob:Obj} (q:h.get? b=some ob) (n:H b=none) (hx:b∉ex):∃sl,h1.get? b=some {ob with slots:=sl} :=by
 by_cases hb:b∈fs
 ·exact u.slot b ob q n hb hx
 ·exact⟨ob.slots,u.keep b ob q n hb hx⟩
theorem Un.kept (k:∀b u,h.get? b=some u→h'.get? b=some u):Un fs ex H H h h':=
 ⟨fun b ob q _ _ _=>k b ob q,fun b ob q _ _ _=>⟨ob.slots,k b ob q⟩,fun _ _ _ n _=>n,fun b ob q _=>⟨ob,k b ob q⟩,fun _ _ q=>q,fun _ _ _ q=>q,fun _ ps q=>⟨#[],by rw[q];simp⟩⟩
theorem Un.refl:Un fs ex H H h h:=Un.kept fun _ _ q=>q
theorem Un.laid (k:∀b u,h.get? b=some u→h'.get? b=some u) (hp:h.objs.size≤a) (hn:H a=none):Un fs ex H (cr H a o) h h' where
 keep:=fun b u q _ _ _=>k b u q
 slot:=fun b u q _ _ _=>⟨u.slots,k b u q⟩
 free:=fun b u q n _=>by rw[aw (Nat.ne_of_lt (Nat.lt_of_lt_of_le (Heap.lt_size q) hp))];exact n
 there:=fun b u q _=>⟨u,k b u q⟩
 tups:=fun b xs q=>by rw[aw (bE q hn)];exact q
 frzs:=fun b u xs q=>by rw[aw (bE q hn)];exact q
 tbls:=fun b ps q=>⟨#[],by rw[aw (bE q hn),q];simp⟩
theorem Un.write (mu:uW (H x)) (he:e=x∨H e=some (.own x)) (k:∀b u,b≠e→h.get? b=some u→h'.get? b=some u) (heo:∃u,h'.get? e=some u):Un fs ex H (cr H x o) h h':=by
 have hx:∀b,H b=none→b≠x:=fun b n z=>by subst z;rw[n]at mu;exact mu
 have hb:∀b,H b=none→b≠e:=fun b n z=>by
  subst z
  rcases he with r | r
  ·exact hx b n r
  ·rw[n]at r;cases r
 have hm:∀b u,H b=some u→¬uW (some u)→b≠x:=fun b u q nm z=>by subst z;rw[q]at mu;exact nm mu
 refine⟨fun b u q n _ _=>k b u (hb b n) q,fun b u q n _ _=>⟨u.slots,k b u (hb b n) q⟩,fun b u q n _=>by rw[aw (hx b n)];exact n,fun b u q _=>?_,
  fun b xs q=>by rw[aw (hm b _ q fun z=>z)];exact q,fun b u xs q=>by rw[aw (hm b _ q fun z=>z)];exact q,fun b ps q=>⟨#[],by rw[aw (hm b _ q fun z=>z),q];simp⟩⟩
 by_cases hbe:b=e
 ·subst hbe;exact heo
 ·exact⟨u,k b u hbe q⟩
end
def fW (h:Heap) (H:Hp):List Addr:=(List.range h.objs.size).filter fun a=>(H a).isSome
def iN (h:Heap) (H:Hp):Heap:=PySem.W.hideAll h (fW h H)
theorem mD (h:Heap) (H:Hp):(iN h H).objs.size=h.objs.size:=PySem.W.hideAll_size _ _
theorem nL {h:Heap} {H:Hp} {b:Addr} {o:Obj} (e:h.get? b=some o) (n:H b=none):(iN h H).get? b=some o:=
 PySem.W.hideAll_get _ e fun hm=>by
  have q:(H b).isSome=true:=(List.mem_filter.mp hm).2
  rw[n]at q;simp at q
theorem qk {h:Heap} {H:Hp} {b:Addr} {o:Obj} (e:(iN h H).get? b=some o):h.get? b=some o∧H b=none:=by
 have e':h.get? b=some o:=PySem.W.of_hideAll (fW h H) e
 refine⟨e',?_⟩
 cases q:H b with
 | none=>rfl
 | some x =>
  have hm:b∈fW h H:=List.mem_filter.mpr ⟨List.mem_range.mpr (Heap.lt_size e'),by simp[q]⟩
  have z:(iN h H).get? b=none:=PySem.W.hideAll_none (fW h H) hm
  rw[z]at e;cases e
end L2
namespace L2
open PySem PySem.Spec PyProof.Rows
structure Mod (K:PySem.W.Frag) (mg:Str→Option Value) (base:Heap):Prop where
 kin:K.In base
 glob:base.Ns mainGlobals mg
 blt:∃mb,base.Ns builtinsNs mb∧∀x:Str,x≠"__name__" →mb x=bootBuiltins x
 nolimit:base.NoLimit
structure Cx where
 prog:Program
 w:World
 K:PySem.W.Frag
 mg:Str→Option Value
 base:Heap
 A:Around
 N:List Str
 s₀:Shared
 H₀:Hp
 env:Env
 outer:List Env
 stack:List Env
 ex:List Addr
 fn:Str→Bool
 calm:Bool
 pn:List (Addr×Obj)
 xe:Value→Shared→Prop
def frs (l:List Env):List Addr:=l.filterMap (·.frame)
abbrev Cx.fs (X:Cx):List Addr:=frs X.outer
def Vis (sc:Scope) (x:Str):Prop:=sc.names.lookup x=some .local∨sc.names.lookup x=some .cell∨sc.names.lookup x=some .free
def tX (sc:Scope) (x:Str):Prop:=sc.names.lookup x=some .local∨sc.names.lookup x=some .cell
def Look (env:Env) (h:Heap) (m:Str→Option Value) (x:Str) (u:Value):Prop:=
 (env.kindOf x=some .local∧m x=some u)∨((env.kindOf x=some .cell∨env.kindOf x=some .free)∧∃c,env.cells.lookup x=some c∧h.IsCell c (some u))
structure Cx.Ok (X:Cx):Prop where
 mod:Mod X.K X.mg X.base
 kind:X.env.scope.kind=.function
 glob:X.env.globals=mainGlobals
 blt:X.env.builtins=builtinsNs
 above:X.s₀.heap.objs.size≤X.env.locals
 inj:∀x y c,X.env.cells.lookup x=some c→X.env.cells.lookup y=some c→x=y
 has:∀x,(X.env.kindOf x=some .cell∨X.env.kindOf x=some .free)→∃c,X.env.cells.lookup x=some c
 cab:∀x c,X.fn x=true→X.env.cells.lookup x=some c→X.s₀.heap.objs.size≤c
 hd:X.calm=true→X.A.handled=none
 frames:X.A.frames=some X.stack
 stk:X.stack=X.outer∨(X.stack=X.env::X.outer∧X.env.frame=some X.env.locals)
 exf:∀b∈X.ex,b≠X.env.locals∧∀x c,X.env.cells.lookup x=some c→c≠b
 bs:∀b o,X.base.get? b=some o→X.s₀.heap.get? b=some o∧X.H₀ b=none
 bsz:X.base.objs.size≤X.s₀.heap.objs.size
 noex:∀b o,X.base.get? b=some o→b∉X.ex
 exfs:∀b∈X.ex,b∉X.fs
 funs:X.s₀.heap.FunFrames X.base X.outer
 frf:∀b∈X.fs,X.H₀ b=none
structure Inv (X:Cx) (pins:List (Addr×Obj)) (σ:List (Option V)) (H:Hp) (s:Shared):Prop where
 ok:X.Ok
 os:s.os=X.s₀.os
 bare:AllBare s.gens
 base:Un X.fs X.ex X.H₀ H X.s₀.heap s.heap
 loc:∃m,s.heap.Ns X.env.locals m∧∀(i:Nat) (x:Str) (v:V),X.N[i]? =some x→σ[i]? =some (some v)→Vis X.env.scope x→∃u,RelV v u∧Look X.env s.heap m x u
 cell:∀x c,X.env.cells.lookup x=some c→∃v,s.heap.IsCell c v
 free:H X.env.locals=none
 freeC:∀x c,X.env.cells.lookup x=some c→H c=none
 pin:∀p∈X.pn++pins,s.heap.get? p.1=some p.2∧H p.1=none∧p.1≠X.env.locals∧p.1∉X.fs∧∀v,p.2.data≠.cell v
 hok:HOk X.prog X.w H s.heap
 len:σ.length=X.N.length
section
variable {X:Cx} {pins:List (Addr×Obj)} {σ:List (Option V)} {H H':Hp} {s:Shared} {h':Heap}
theorem Cx.Ok.nofr (ok:X.Ok) {b:Addr} {o:Obj} (e:X.base.get? b=some o):b∉X.fs:=fun hb=>by
 have:=(ok.funs.mem hb).1
 rw[e]at this;cases this
theorem Inv.bs (I:Inv X pins σ H s):∀b o,X.base.get? b=some o→s.heap.get? b=some o∧H b=none:=fun b o e=>
 ⟨I.base.keep b o (I.ok.bs b o e).1 (I.ok.bs b o e).2 (I.ok.nofr e) (I.ok.noex b o e),I.base.free b o (I.ok.bs b o e).1 (I.ok.bs b o e).2 (I.ok.noex b o e)⟩
theorem Inv.bk (I:Inv X pins σ H s):∀b o,X.base.get? b=some o→s.heap.get? b=some o:=fun b o e=>(I.bs b o e).1
theorem Inv.mod (I:Inv X pins σ H s):Mod X.K X.mg X.base:=I.ok.mod
theorem Inv.kIn (I:Inv X pins σ H s):X.K.In s.heap:=I.ok.mod.kin.keeps I.bk
theorem Inv.lt (I:Inv X pins σ H s):X.env.locals< s.heap.objs.size:=let ⟨_,hn,_⟩:=I.loc;hn.lt
theorem Inv.sz (I:Inv X pins σ H s):X.s₀.heap.objs.size≤s.heap.objs.size:=Nat.le_trans I.ok.above (Nat.le_of_lt I.lt)
theorem Inv.nofs (I:Inv X pins σ H s) {a:Addr} (h:s.heap.objs.size≤a):a∉X.fs:=fun hb=>by
 obtain⟨_,o,ho,_⟩:=I.ok.funs.mem hb
 exact absurd (Nat.lt_of_lt_of_le (Heap.lt_size ho) (Nat.le_trans I.sz h)) (Nat.lt_irrefl _)
theorem Inv.cne (I:Inv X pins σ H s):∀x c,X.env.cells.lookup x=some c→c≠X.env.locals:=fun x c e z=>by
 obtain⟨v,o,ho,hd⟩:=I.cell x c e
 obtain⟨m,⟨o',es,ep,ho',hd',_⟩,_⟩:=I.loc
 rw[z,ho']at ho;cases ho;rw[hd']at hd;cases hd
theorem Inv.funs (I:Inv X pins σ H s):s.heap.FunFrames X.base X.outer:=by
 have all:∀(l:List Env),(∀b∈frs l,b∈X.fs)→X.s₀.heap.FunFrames X.base l→s.heap.FunFrames X.base l:=by
  intro l
  induction l with
  | nil=>intro _ _;trivial
  | cons env r ih =>
   intro hs hl
   obtain⟨hk,⟨L,o,hf,hn,ho,hd⟩,hr⟩:=hl
   have hL:L∈X.fs:=hs L (by unfold frs;rw[List.filterMap_cons,hf];exact List.mem_cons_self)
   obtain⟨sl,e⟩:=I.base.slot L o ho (I.ok.frf L hL) hL fun z=>I.ok.exfs L z hL
   exact⟨hk,⟨L,_,hf,hn,e,hd⟩,ih (fun b hb=>hs b (by unfold frs;rw[List.filterMap_cons,hf];exact List.mem_cons_of_mem _ hb)) hr⟩
 exact all X.outer (fun _ hb=>hb) I.ok.funs
theorem Inv.stack (I:Inv X pins σ H s):s.heap.FunFrames X.base X.stack:=by
 rcases I.ok.stk with e | ⟨e,hf⟩
 ·rw[e];exact I.funs
 ·rw[e]
  obtain⟨m,hn,_⟩:=I.loc
  refine .cons (by rw[I.ok.kind];decide) hf hn ?_ I.funs
  exact Heap.get?_none_of_le (Nat.le_trans I.ok.bsz I.ok.above)
theorem Inv.stkSub (I:Inv X pins σ H s):∀b∈frs X.stack,b∈X.env.locals::X.fs:=fun b hb=>by
 rcases I.ok.stk with e | ⟨e,hf⟩
 ·rw[e]at hb;exact List.mem_cons_of_mem _ hb
 ·rw[e]at hb
  unfold frs at hb
  rw[List.filterMap_cons,hf]at hb
  exact hb
theorem Inv.stkFree (I:Inv X pins σ H s):∀b∈frs X.stack,H b=none:=fun b hb=>by
 rcases List.mem_cons.mp (I.stkSub b hb)with e | hb
 ·rw[e];exact I.free
 ·obtain⟨_,o,ho,_⟩:=I.ok.funs.mem hb
  exact I.base.free b o ho (I.ok.frf b hb) fun z=>I.ok.exfs b z hb
theorem Inv.step {g':Array GenState} {t':Nat} {d':Drawn} {ch:List Addr} (I:Inv X pins σ H s)
  (hch:∀b∈ch,(b∈X.ex∨X.s₀.heap.objs.size≤b)∧b≠X.env.locals∧(∀x c,X.env.cells.lookup x=some c→c≠b)∧∀p∈X.pn++pins,p.1≠b)
  (keep:∀b o,b≠X.env.locals→b∉X.fs→b∉ch→s.heap.get? b=some o→H b=none→h'.get? b=some o)
  (slot:∀b o,b≠X.env.locals→b∈X.fs→b∉ch→s.heap.get? b=some o→H b=none→∃sl,h'.get? b=some {o with slots:=sl}) (free:∀b o,b∉ch→s.heap.get? b=some o→H b=none→H' b=none)
  (there:∀b o,b∉ch→s.heap.get? b=some o→∃o',h'.get? b=some o')
  (tups:∀b xs,H b=some (.tup xs)→H' b=some (.tup xs)) (frzs:∀b o u,H b=some (.frz o u)→H' b=some (.frz o u)) (tbls:∀b ps,H b=some (.tbl ps)→∃more,H' b=some (.tbl (ps++more)))
  (ns:∀m,s.heap.Ns X.env.locals m→h'.Ns X.env.locals m) (hok:HOk X.prog X.w H' h') (hg:AllBare g'):
  Inv X pins σ H' {s with heap:=h',gens:=g',drawn:=d',toks:=t'} :=by
 have neL:∀b o,X.s₀.heap.get? b=some o→b≠X.env.locals:=fun b o e=>Nat.ne_of_lt (Nat.lt_of_lt_of_le (Heap.lt_size e) I.ok.above)
 have neC:∀b o,X.s₀.heap.get? b=some o→b∉X.ex→b∉ch:=fun b o e hx hb=>by
  rcases (hch b hb).1 with z | z
  ·exact hx z
  ·exact absurd (Nat.lt_of_lt_of_le (Heap.lt_size e) z) (Nat.lt_irrefl _)
 have cellK:∀x c,X.env.cells.lookup x=some c→∀v,s.heap.IsCell c v→h'.IsCell c v:=fun x c e v ⟨o,ho,hd⟩=>by
  have nch:c∉ch:=fun z=>(hch c z).2.2.1 x c e rfl
  by_cases hc:c∈X.fs
  ·obtain⟨sl,q⟩:=slot c o (I.cne x c e) hc nch ho (I.freeC x c e)
   exact⟨_,q,hd⟩
  ·exact⟨o,keep c o (I.cne x c e) hc nch ho (I.freeC x c e),hd⟩
 refine⟨I.ok,I.os,hg,⟨fun b o e n hb hx=>?_,fun b o e n hb hx=>?_,fun b o e n hx=>?_,fun b o e hx=>?_,fun b xs e=>tups b xs (I.base.tups b xs e),fun b o xs e=>frzs b o xs (I.base.frzs b o xs e),fun b ps e=>?_⟩,?_,fun x c e=>?_,?_,fun x c e=>?_,fun p hp=>?_,hok,I.len⟩
 ·exact keep b o (neL b o e) hb (neC b o e hx) (I.base.keep b o e n hb hx) (I.base.free b o e n hx)
 ·obtain⟨sl,e1⟩:=I.base.slot b o e n hb hx
  obtain⟨sl',e2⟩:=slot b _ (neL b o e) hb (neC b o e hx) e1 (I.base.free b o e n hx)
  exact⟨sl',e2⟩
 ·obtain⟨o',e1⟩:=I.base.there b o e hx
  exact free b o' (neC b o e hx) e1 (I.base.free b o e n hx)
 ·obtain⟨o',e1⟩:=I.base.there b o e hx
  exact there b o' (neC b o e hx) e1
 ·obtain⟨m1,e1⟩:=I.base.tbls b ps e
  obtain⟨m2,e2⟩:=tbls b _ e1
  exact⟨m1++m2,by rw[e2,Array.append_assoc]⟩
 ·obtain⟨m,hn,hl⟩:=I.loc
  refine⟨m,ns m hn,fun i x v e1 e2 e3=>?_⟩
  obtain⟨u,r,l⟩:=hl i x v e1 e2 e3
  refine⟨u,r,?_⟩
  rcases l with l | ⟨k,c,e,z⟩
  ·exact .inl l
  ·exact .inr ⟨k,c,e,cellK x c e _ z⟩
 ·obtain⟨v,z⟩:=I.cell x c e
  exact⟨v,cellK x c e v z⟩
 ·obtain⟨m,⟨o,_,_,ho,_⟩,_⟩:=I.loc
  exact free _ o (fun z=>(hch _ z).2.1 rfl) ho I.free
 ·obtain⟨v,o,ho,hd⟩:=I.cell x c e
  exact free c o (fun z=>(hch c z).2.2.1 x c e rfl) ho (I.freeC x c e)
 ·obtain⟨e,n,ne,nf,d⟩:=I.pin p hp
  have nch:p.1∉ch:=fun z=>(hch p.1 z).2.2.2 p hp rfl
  exact⟨keep p.1 p.2 ne nf nch e n,free p.1 p.2 nch e n,ne,nf,d⟩
theorem Inv.un {t':Nat} (I:Inv X pins σ H s) (u:Un X.fs [] H H' s.heap h') (hok:HOk X.prog X.w H' h'):Inv X pins σ H' {s with heap:=h',toks:=t'} :=by
 obtain⟨m,⟨o,es,ep,ho,r⟩,_⟩:=id I.loc
 obtain⟨sl,hL⟩:=u.any ho I.free (by simp)
 exact I.step (g':=s.gens) (d':=s.drawn) (ch:=[]) (fun _ z=>nomatch z) (fun b o _ hb _ e n=>u.keep b o e n hb (by simp)) (fun b o _ hb _ e n=>u.slot b o e n hb (by simp)) (fun b o _ e n=>u.free b o e n (by simp)) (fun b o _ e=>u.there b o e (by simp)) u.tups u.frzs u.tbls (fun m' hm=>by
  obtain⟨o',es',ep',ho',r'⟩:=hm
  rw[ho]at ho';cases ho'
  exact⟨_,es',ep',hL,r'⟩) hok I.bare
theorem Inv.call {g':Array GenState} {t':Nat} {d':Drawn} {ch:List Addr} (I:Inv X pins σ H s) (u:Un (frs X.stack) ch H H' s.heap h') (hok:HOk X.prog X.w H' h') (hg:AllBare g')
  (hch:∀b∈ch,(b∈X.ex∨X.s₀.heap.objs.size≤b)∧b≠X.env.locals∧(∀x c,X.env.cells.lookup x=some c→c≠b)∧∀p∈X.pn++pins,p.1≠b):
  Inv X pins σ H' {s with heap:=h',gens:=g',drawn:=d',toks:=t'} :=by
 obtain⟨m,⟨o,es,ep,ho,r⟩,_⟩:=id I.loc
 obtain⟨sl,hL⟩:=u.any ho I.free fun z=>(hch _ z).2.1 rfl
 exact I.step (ch:=ch) hch (fun b o hL hb hc e n=>u.keep b o e n (fun z=>(List.mem_cons.mp (I.stkSub b z)).elim hL hb) hc) (fun b o _ _ hc e n=>u.any e n hc) (fun b o hc e n=>u.free b o e n hc) (fun b o hc e=>u.there b o e hc) u.tups u.frzs u.tbls (fun m' hm=>by
  obtain⟨o',es',ep',ho',r'⟩:=hm
  rw[ho]at ho';cases ho'
  exact⟨_,es',ep',hL,r'⟩) hok hg
theorem Inv.turned {t':Nat} {it:Addr} (I:Inv X pins σ H s) (k:∀b o,b≠it→s.heap.get? b=some o→h'.get? b=some o) (hn:H it=none) (hL:it≠X.env.locals)
  (h1:it∈X.ex∨X.s₀.heap.objs.size≤it) (h2:∀x c,X.env.cells.lookup x=some c→c≠it) (h3:∀p∈X.pn++pins,p.1≠it):Inv X pins σ H {s with heap:=h',toks:=t'} :=by
 have nit:∀b u,H b=some u→b≠it:=fun b u e z=>by rw[z,hn]at e;cases e
 refine I.step (g':=s.gens) (d':=s.drawn) (ch:=[it]) (fun b hb=>?_) (fun b o _ _ hc e _=>k b o (fun z=>hc (by simp[z])) e) (fun b o _ _ hc e _=>⟨o.slots,k b o (fun z=>hc (by simp[z])) e⟩) (fun _ _ _ _ n=>n)
  (fun b o hc e=>⟨o,k b o (fun z=>hc (by simp[z])) e⟩) (fun _ _ e=>e) (fun _ _ _ e=>e) (fun b ps e=>⟨#[],by rw[e];simp⟩) (fun m hm=>?_) (fun b u e=>?_) I.bare
 ·have e:b=it:=by simpa using hb
  subst e
  exact⟨h1,hL,h2,h3⟩
 ·obtain⟨o,es,ep,ho,r⟩:=hm
  exact⟨o,es,ep,k _ o (Ne.symm hL) ho,r⟩
 ·refine(I.hok b u e).stay (fun c v hc q=>k c v ?_ q) (fun _ q=>q) fun _ _ q=>q
  rcases hc with z | z
  ·rw[z];exact nit b u e
  ·exact nit c _ z
theorem Inv.tok (I:Inv X pins σ H s) (t:Nat):Inv X pins σ H {s with toks:=t} :=I.un (h':=s.heap) (t':=t) Un.refl I.hok
theorem Inv.kept {t':Nat} (I:Inv X pins σ H s) (k:∀b u,s.heap.get? b=some u→h'.get? b=some u):Inv X pins σ H {s with heap:=h',toks:=t'} :=I.un (Un.kept k) (I.hok.kept k)
theorem Inv.laid {a:Addr} {o:HO} {t':Nat} (I:Inv X pins σ H s) (k:∀b u,s.heap.get? b=some u→h'.get? b=some u) (hp:s.heap.objs.size≤a) (new:ObjOk X.prog X.w (cr H a o) h' a o):
  Inv X pins σ (cr H a o) {s with heap:=h',toks:=t'} :=I.un (Un.laid k hp (I.hok.fresh hp)) (I.hok.laid k hp new)
theorem Inv.write {x e:Addr} {o:HO} {t':Nat} (I:Inv X pins σ H s) (mu:uW (H x)) (he:e=x∨H e=some (.own x)) (k:∀b u,b≠e→s.heap.get? b=some u→h'.get? b=some u) (heo:∃u,h'.get? e=some u)
  (new:ObjOk X.prog X.w (cr H x o) h' x o):Inv X pins σ (cr H x o) {s with heap:=h',toks:=t'} :=I.un (Un.write mu he k heo) (I.hok.write mu he k heo new)
theorem Inv.weak {σ':List (Option V)} (I:Inv X pins σ H s) (hl:σ'.length=σ.length) (w:∀(i:Nat) v,σ'[i]? =some (some v)→σ[i]? =some (some v)):Inv X pins σ' H s:=
 ⟨I.ok,I.os,I.bare,I.base,let ⟨m,hn,hl'⟩:=I.loc;⟨m,hn,fun i x v e1 e2 e3=>hl' i x v e1 (w i v e2) e3⟩,I.cell,I.free,I.freeC,I.pin,I.hok,hl.trans I.len⟩
theorem Inv.pins_of {pins':List (Addr×Obj)} (I:Inv X pins σ H s) (h:∀p∈pins',s.heap.get? p.1=some p.2∧H p.1=none∧p.1≠X.env.locals∧p.1∉X.fs∧∀v,p.2.data≠.cell v):Inv X pins' σ H s:=
 ⟨I.ok,I.os,I.bare,I.base,I.loc,I.cell,I.free,I.freeC,fun p hp=>(List.mem_append.mp hp).elim (fun z=>I.pin p (List.mem_append_left _ z)) (h p),I.hok,I.len⟩
theorem js {N:List Str} (hN:N.Nodup) {i j:Nat} {x:Str} (a:N[i]? =some x) (b:N[j]? =some x):i=j:=by
 obtain⟨h1,e1⟩:=List.getElem?_eq_some_iff.mp a
 obtain⟨h2,e2⟩:=List.getElem?_eq_some_iff.mp b
 exact(List.getElem_inj hN).mp (e1.trans e2.symm)
theorem ii {M:Model} {A:Around} {E:Value→Shared→Prop} {i:Nat} {x:Str} {v:V} {u:Value} {Q:Unit→Shared→Prop} (I:Inv X pins σ H s) (hN:X.N.Nodup) (hi:X.N[i]? =some x) (hx:tX X.env.scope x) (r:RelV v u)
  (h:∀s',Inv X pins (σ.set i (some v)) H s'→(∃a,Heap.SameBut a s.heap s'.heap∧(a=X.env.locals∨X.env.cells.lookup x=some a))→Q () s') (hf:X.fn x=true∨X.env.scope.names.lookup x=some .local:=by first | exact .inl rfl | exact .inr rfl | assumption):wpAny M A (storeName X.env x u) Q E s:=by
 obtain⟨m,hn,hl⟩:=id I.loc
 have hcls:(X.env.scope.kind == .class || (X.env.scope.kind == .module && X.env.locals != X.env.globals))=false:=by rw[I.ok.kind];rfl
 have hiσ:i< σ.length:=by rw[I.len];exact(List.getElem?_eq_some_iff.mp hi).1
 have cne:=I.cne
 have tracked:∀{a:Addr} {h':Heap},(∃o,s.heap.get? a=some o∧H a=none)→Heap.SameBut a s.heap h'→HOk X.prog X.w H h':=fun {a h'} ha hs b ob e=>by
  obtain⟨_,_,hfree⟩:=ha
  refine(I.hok b ob e).stay (fun c w' hc q=>(hs.2 c ?_).trans q) (fun _ q=>q) fun _ _ q=>q
  rintro rfl
  rcases hc with rfl | hc
  ·rw[hfree]at e;cases e
  ·rw[hfree]at hc;cases hc
 rcases hx with hk | hk
 ·refine wpAny_storeName_local hk hn (fun h' hn' hs=>?_) hcls
  obtain⟨oL,_,_,hoL,_⟩:=id hn
  refine h _ ⟨I.ok,I.os,I.bare,⟨fun b o e n hb hx=>?_,fun b o e n hb hx=>?_,I.base.free,fun b o e hx=>?_,I.base.tups,I.base.frzs,I.base.tbls⟩,⟨_,hn',fun j y v' e1 e2 e3=>?_⟩,fun y c e=>?_,I.free,I.freeC,fun p hp=>?_,tracked ⟨oL,hoL,I.free⟩ hs,by simpa using I.len⟩ ⟨_,hs,.inl rfl⟩
  ·exact(hs.2 b (Nat.ne_of_lt (Nat.lt_of_lt_of_le (Heap.lt_size e) I.ok.above))).trans (I.base.keep b o e n hb hx)
  ·obtain⟨sl,e1⟩:=I.base.slot b o e n hb hx
   exact⟨sl,(hs.2 b (Nat.ne_of_lt (Nat.lt_of_lt_of_le (Heap.lt_size e) I.ok.above))).trans e1⟩
  ·obtain⟨o',e1⟩:=I.base.there b o e hx
   exact⟨o',(hs.2 b (Nat.ne_of_lt (Nat.lt_of_lt_of_le (Heap.lt_size e) I.ok.above))).trans e1⟩
  ·by_cases hj:j=i
   ·subst hj
    rw[hi]at e1;cases e1
    rw[List.getElem?_set_self hiσ]at e2
    cases e2
    exact⟨u,r,.inl ⟨hk,by simp⟩⟩
   ·rw[List.getElem?_set_ne (Ne.symm hj)]at e2
    obtain⟨u',r',q⟩:=hl j y v' e1 e2 e3
    refine⟨u',r',?_⟩
    rcases q with⟨k,e⟩ | ⟨k,c,e,z⟩
    ·refine .inl ⟨k,?_⟩
     have:y≠x:=fun e=>hj (js hN e1 (e▸hi))
     simp[this,e]
    ·exact .inr ⟨k,c,e,z.sameBut hs (cne y c e)⟩
  ·obtain⟨w',z⟩:=I.cell y c e
   exact⟨w',z.sameBut hs (cne y c e)⟩
  ·obtain⟨e,n,ne,nf,d⟩:=I.pin p hp
   exact⟨(hs.2 p.1 ne).trans e,n,ne,nf,d⟩
 ·have hfn:X.fn x=true:=by
   rcases hf with z | z
   ·exact z
   ·rw[z]at hk;cases hk
  obtain⟨c,hc⟩:=I.ok.has x (.inl hk)
  obtain⟨w',z⟩:=I.cell x c hc
  refine wpAny_storeName_cell I.ok.kind hk hc z (fun h' hc' hs=>?_)
  obtain⟨oc,hoc,hocd⟩:=id z
  refine h {s with heap:=h'} ⟨I.ok,I.os,I.bare,⟨fun b o e n hb hx=>?_,fun b o e n hb hx=>?_,I.base.free,fun b o e hx=>?_,I.base.tups,I.base.frzs,I.base.tbls⟩,⟨m,hn.sameBut hs (Ne.symm (cne x c hc)),fun j y v' e1 e2 e3=>?_⟩,fun y c' e=>?_,I.free,I.freeC,fun p hp=>?_,tracked ⟨oc,hoc,I.freeC x c hc⟩ hs,by simpa using I.len⟩ ⟨c,hs,.inr hc⟩
  ·exact(hs.2 b (Nat.ne_of_lt (Nat.lt_of_lt_of_le (Heap.lt_size e) (I.ok.cab x c hfn hc)))).trans (I.base.keep b o e n hb hx)
  ·obtain⟨sl,e1⟩:=I.base.slot b o e n hb hx
   exact⟨sl,(hs.2 b (Nat.ne_of_lt (Nat.lt_of_lt_of_le (Heap.lt_size e) (I.ok.cab x c hfn hc)))).trans e1⟩
  ·obtain⟨o',e1⟩:=I.base.there b o e hx
   exact⟨o',(hs.2 b (Nat.ne_of_lt (Nat.lt_of_lt_of_le (Heap.lt_size e) (I.ok.cab x c hfn hc)))).trans e1⟩
  ·by_cases hj:j=i
   ·subst hj
    rw[hi]at e1;cases e1
    rw[List.getElem?_set_self hiσ]at e2
    cases e2
    exact⟨u,r,.inr ⟨.inl hk,c,hc,hc'⟩⟩
   ·rw[List.getElem?_set_ne (Ne.symm hj)]at e2
    obtain⟨u',r',q⟩:=hl j y v' e1 e2 e3
    refine⟨u',r',?_⟩
    rcases q with q | ⟨k,c',e,z'⟩
    ·exact .inl q
    ·refine .inr ⟨k,c',e,z'.sameBut hs ?_⟩
     rintro rfl
     exact hj (js hN e1 (I.ok.inj _ _ _ e hc▸hi))
  ·by_cases hcc:c'=c
   ·subst hcc;exact⟨_,hc'⟩
   ·obtain⟨w2,z2⟩:=I.cell y c' e
    exact⟨w2,z2.sameBut hs hcc⟩
  ·obtain⟨e,n,ne,nf,d⟩:=I.pin p hp
   refine⟨(hs.2 p.1 ?_).trans e,n,ne,nf,d⟩
   intro q
   rw[q,hoc]at e
   have q':oc=p.2:=Option.some.inj e
   exact d w' (by rw[←q'];exact hocd)
theorem gz {M:Model} {A:Around} {E:Value→Shared→Prop} {i:Nat} {x:Str} {v:V} {u:Value} {Q:Unit→Shared→Prop} (I:Inv X pins σ H s) (hN:X.N.Nodup) (hi:X.N[i]? =some x) (hx:tX X.env.scope x) (r:RelV v u)
  (h:∀s',Inv X pins (σ.set i (some v)) H s'→Q () s') (hf:X.fn x=true∨X.env.scope.names.lookup x=some .local:=by first | exact .inl rfl | exact .inr rfl | assumption):wpAny M A (storeName X.env x u) Q E s:=
 ii I hN hi hx r (fun s' I' _=>h s' I') hf
theorem Inv.call' {s':Shared} {ch:List Addr} (I:Inv X pins σ H s) (ho:s'.os=s.os) (u:Un (frs X.stack) ch H H' s.heap s'.heap) (hok:HOk X.prog X.w H' s'.heap) (hg:AllBare s'.gens)
  (hch:∀b∈ch,(b∈X.ex∨X.s₀.heap.objs.size≤b)∧b≠X.env.locals∧(∀x c,X.env.cells.lookup x=some c→c≠b)∧∀p∈X.pn++pins,p.1≠b):Inv X pins σ H' s':=by
 obtain⟨h',g',d',t',o'⟩:=s'
 have e:o'=s.os:=ho
 subst e
 exact I.call (g':=g') (t':=t') (d':=d') u hok hg hch
end
abbrev XK:=Value→Option Addr→Hp→Prop
abbrev St:=List (Option V)
abbrev VK:=V→Hp→Prop
abbrev TE:=St→Hp→VK→Prop
abbrev TT:=St→Hp→(Bool→Hp→Prop)→Prop
abbrev TA:=St→Hp→(List V→Hp→Prop)→Prop
structure Ends where
 nx:St→Hp→Prop
 rt:VK
 bk:St→Hp→Prop:=fun _ _=>False
 ct:St→Hp→Prop:=fun _ _=>False
abbrev TS:=Ends→St→Hp→Prop
def EP (X:Cx) (pins:List (Addr×Obj)) (σ:St) (Q:VK) (u:Value) (s':Shared):Prop:=∃v H',Inv X pins σ H' s'∧RelV v u∧Q v H'
def TP (X:Cx) (pins:List (Addr×Obj)) (σ:St) (Q:Bool→Hp→Prop) (b:Bool) (s':Shared):Prop:=∃H',Inv X pins σ H' s'∧Q b H'
def AP (X:Cx) (pins:List (Addr×Obj)) (σ:St) (Q:List V→Hp→Prop) (us:List Value) (s':Shared):Prop:=∃vs H',Inv X pins σ H' s'∧Vals vs us∧Q vs H'
def SP (X:Cx) (pins:List (Addr×Obj)) (D:Ends) (f:Flow) (s':Shared):Prop:=
 match f with
 | .next=>∃σ' H',Inv X pins σ' H' s'∧D.nx σ' H'
 | .brk=>∃σ' H',Inv X pins σ' H' s'∧D.bk σ' H'
 | .cont=>∃σ' H',Inv X pins σ' H' s'∧D.ct σ' H'
 | .ret u=>∃v σ' H',Inv X pins σ' H' s'∧RelV v u∧D.rt v H'
def PE (X:Cx) (e:Expr) (t:TE):Prop:=
 ∀(pins:List (Addr×Obj)) (s:Shared) (σ:St) (H:Hp) (Q:VK),Inv X pins σ H s→t σ H Q→wpAny (model X.prog X.w) X.A (eval e X.env) (EP X pins σ Q) X.xe s
def PT (X:Cx) (e:Expr) (t:TT):Prop:=
 ∀(pins:List (Addr×Obj)) (s:Shared) (σ:St) (H:Hp) (Q:Bool→Hp→Prop),Inv X pins σ H s→t σ H Q→wpAny (model X.prog X.w) X.A (isTrue e X.env (eval e X.env)) (TP X pins σ Q) X.xe s
def PW (X:Cx) (e:Expr) (t:TT):Prop:=
 ∀(whole:Sem Value) (pins:List (Addr×Obj)) (s:Shared) (σ:St) (H:Hp) (Q:Bool→Hp→Prop),Inv X pins σ H s→t σ H Q→wpAny (model X.prog X.w) X.A (isTrue e X.env whole) (TP X pins σ Q) X.xe s
theorem PW.pt {X:Cx} {e:Expr} {t:TT} (h:PW X e t):PT X e t:=h _
def PA (X:Cx) (es:List Expr) (t:TA):Prop:=
 ∀(pos:Pos) (pins:List (Addr×Obj)) (s:Shared) (σ:St) (H:Hp) (Q:List V→Hp→Prop),Inv X pins σ H s→t σ H Q→wpAny (model X.prog X.w) X.A (spliced (backTo pos (starEach es X.env))) (AP X pins σ Q) X.xe s
def PS (X:Cx) (st:Stmt) (t:TS):Prop:=
 ∀(pins:List (Addr×Obj)) (s:Shared) (σ:St) (H:Hp) (D:Ends),Inv X pins σ H s→t D σ H→wpAny (model X.prog X.w) X.A (exec st X.env) (SP X pins D) X.xe s
def PSs (X:Cx) (st:List Stmt) (t:TS):Prop:=
 ∀(pins:List (Addr×Obj)) (s:Shared) (σ:St) (H:Hp) (D:Ends),Inv X pins σ H s→t D σ H→wpAny (model X.prog X.w) X.A (execs st X.env) (SP X pins D) X.xe s
theorem bF {α:Type} {t:Sem α} {Q Q':α→Shared→Prop} {M:Model} {A:Around} {E:Value→Shared→Prop} {s:Shared} (h:wpAny M A t Q E s) (hQ:∀a s,Q a s→Q' a s):wpAny M A t Q' E s:=wpAny_mono h hQ fun _ _ x=>x
end L2
namespace L2
open PySem PySem.Spec PyProof.Rows
section
variable {X:Cx}
def bz (i:Nat):TE:=fun σ H Q=>∃v,σ[i]? =some (some v)∧Q v H
def tC (v:V):TE:=fun _ H Q=>Q v H
theorem sy {i:Nat} {x:Str} {pos:Pos} (hN:X.N[i]? =some x) (hv:Vis X.env.scope x) (hd:(x == ("__debug__" :Str))=false:=by decide) (hcd:(x == ("__classdict__" :Str))=false:=by decide):PE X (.Name x pos) (bz i):=by
 intro pins s σ H Q I h
 obtain⟨v,e,h⟩:=h
 obtain⟨m,hn,hl⟩:=I.loc
 obtain⟨u,r,l⟩:=hl i x v hN e hv
 have fin:EP X pins σ Q u s:=⟨v,H,I,r,h⟩
 rcases l with⟨hk,hm⟩ | ⟨hk,c,hc,hcell⟩
 ·exact wpAny_Name (wpAny_loadName_local I.ok.kind hk hn hm fin) hd
 ·rcases hk with hk | hk
  ·exact wpAny_Name (wpAny_loadName_cell I.ok.kind hk hc hcell fin) hd
  ·exact wpAny_Name (wpAny_loadName_free I.ok.kind hk hc hcell fin hcd) hd
theorem aa {i j pos} :PE X (.Constant (.int i) j pos) (tC (.int i)):=fun _ _ _ H _ I h=>wpAny_Constant_int ⟨.int i,H,I.tok _,⟨_,rfl⟩,h⟩
theorem dw {b j pos} :PE X (.Constant (.bool b) j pos) (tC (.bl b)):=fun _ _ _ H _ I h=>Constant_bool ⟨.bl b,H,I,rfl,h⟩
theorem iO {j pos} :PE X (.Constant .none j pos) (tC .non):=fun _ _ _ H _ I h=>Constant_none ⟨.non,H,I,rfl,h⟩
theorem aT {x j pos} :PE X (.Constant (.str x) j pos) (tC (.str x)):=fun _ _ _ H _ I h=>Calls.Constant_str ⟨.str x,H,I.tok _,⟨_,rfl⟩,h⟩
def Gl (X:Cx) (x:Str):Prop:=X.env.kindOf x=some .globalImplicit
theorem lv {E:Value→Shared→Prop} {pins:List (Addr×Obj)} {s:Shared} {σ:St} {H:Hp} {x:Str} {u:Value} {pos:Pos} {Q:Value→Shared→Prop} (I:Inv X pins σ H s) (hg:Gl X x) (hm:X.mg x=some u) (h:Q u s)
  (hd:(x == ("__debug__" :Str))=false:=by decide):wpAny (model X.prog X.w) X.A (eval (.Name x pos) X.env) Q E s:=
 Calls.Name_function_global I.ok.kind hg (Calls.loadGlobal_global (by rw[I.ok.glob];exact I.mod.glob.keeps I.bk) hm h) hd
theorem fG {E:Value→Shared→Prop} {pins:List (Addr×Obj)} {s:Shared} {σ:St} {H:Hp} {x:Str} {u:Value} {pos:Pos} {Q:Value→Shared→Prop} (I:Inv X pins σ H s) (hg:Gl X x) (hm:X.mg x=none) (hv:bootBuiltins x=some u) (h:Q u s)
  (hn:x≠"__name__" :=by decide) (hd:(x == ("__debug__" :Str))=false:=by decide):wpAny (model X.prog X.w) X.A (eval (.Name x pos) X.env) Q E s:=by
 obtain⟨mb,h1,h2⟩:=I.mod.blt
 exact Calls.Name_function_global I.ok.kind hg (Calls.loadGlobal_builtin (by rw[I.ok.glob];exact I.mod.glob.keeps I.bk) hm (by rw[I.ok.blt];exact h1.keeps I.bk) ((h2 x hn).trans hv) h) hd
theorem cS {x:Str} {v:V} {u:Value} {pos:Pos} (hg:Gl X x) (hm:X.mg x=some u) (r:RelV v u) (hd:(x == ("__debug__" :Str))=false:=by decide):PE X (.Name x pos) (tC v):=
 fun _ _ _ H _ I h=>lv I hg hm ⟨v,H,I,r,h⟩ hd
theorem cx {x:Str} {v:V} {u:Value} {pos:Pos} (hg:Gl X x) (hm:X.mg x=none) (hv:bootBuiltins x=some u) (r:RelV v u) (hn:x≠"__name__" :=by decide) (hd:(x == ("__debug__" :Str))=false:=by decide):PE X (.Name x pos) (tC v):=
 fun _ _ _ H _ I h=>fG I hg hm hv ⟨v,H,I,r,h⟩ hn hd
variable {a b:Expr} {ta tb:TE} {pos:Pos}
def tB (t:TE):TT:=fun σ H Q=>t σ H fun x H1=>∃c,x=.bl c∧Q c H1
theorem cE {e:Expr} {t:TE} (h:PE X e t) (he:∀whole,isTrue e X.env whole=(do let v ←whole;standAt e.pos;holding [v] (truthy v)):=by intro _;rfl):PT X e (tB t):=by
 intro pins s σ H Q I hw
 refine isTrue_plain (bF (h pins s σ H _ I hw) fun v s1 ⟨x,H1,I1,r1,q1⟩=>?_) (he _)
 obtain⟨d,rfl,q⟩:=q1
 cases r1
 exact wpAny_truthy_bool ⟨H1,I1,q⟩
variable {tA tB':TT} {rest:List Expr}
def bT (t u:TT):TT:=fun σ H Q=>t σ H fun c H1=>if c=true then u σ H1 Q else Q false H1
def dZ (t u:TT):TT:=fun σ H Q=>t σ H fun c H1=>if c=true then Q true H1 else u σ H1 Q
def bU (t:TT):TT:=fun σ H Q=>t σ H fun c H1=>Q (!c) H1
theorem dg (ha:PT X a tA):PW X (.BoolOp .And [a] pos) tA:=by
 intro wh pins s σ H Q I h
 refine isTrue_and (bF (ha pins s σ H Q I h) fun c s1 e=>?_)
 cases c with
 | true=>exact isTrue_and_nil e
 | false=>exact e
theorem kF (ha:PT X a tA):PW X (.BoolOp .Or [a] pos) tA:=by
 intro wh pins s σ H Q I h
 refine isTrue_or (bF (ha pins s σ H Q I h) fun c s1 e=>?_)
 cases c with
 | false=>exact isTrue_or_nil e
 | true=>exact e
theorem dH (ha:PT X a tA) (hb:PW X (.BoolOp .And (b::rest) pos) tB'):PW X (.BoolOp .And (a::b::rest) pos) (bT tA tB'):=by
 intro wh pins s σ H Q I h
 refine isTrue_and (bF (ha pins s σ H _ I h) fun c s1 ⟨H1,I1,q1⟩=>?_)
 cases c with
 | true=>exact hb wh pins s1 σ H1 Q I1 q1
 | false=>exact⟨H1,I1,q1⟩
theorem lw (ha:PT X a tA) (hb:PW X (.BoolOp .Or (b::rest) pos) tB'):PW X (.BoolOp .Or (a::b::rest) pos) (dZ tA tB'):=by
 intro wh pins s σ H Q I h
 refine isTrue_or (bF (ha pins s σ H _ I h) fun c s1 ⟨H1,I1,q1⟩=>?_)
 cases c with
 | true=>exact⟨H1,I1,q1⟩
 | false=>exact hb wh pins s1 σ H1 Q I1 q1
theorem iP (ha:PT X a tA):PT X (.UnaryOp .Not a pos) (bU tA):=by
 intro pins s σ H Q I h
 exact isTrue_not (ha pins s σ H (fun c H1=>Q (!c) H1) I h)
def ba (ta tb:TE):TE:=fun σ H Q=>ta σ H fun x H1=>∃c,x=.bl c∧if c=true then tb σ H1 Q else Q (.bl false) H1
def bV (ta tb:TE):TE:=fun σ H Q=>ta σ H fun x H1=>∃c,x=.bl c∧if c=true then Q (.bl true) H1 else tb σ H1 Q
def be (ta:TE):TE:=fun σ H Q=>ta σ H fun x H1=>∃c,x=.bl c∧Q (.bl (!c)) H1
theorem fH {op} {t:TE} (h:PE X a t):PE X (.BoolOp op [a] pos) t:=fun pins s σ H Q I hw=>BoolOp_one (h pins s σ H Q I hw)
theorem fI (ha:PE X a ta) (hb:PE X (.BoolOp .And (b::rest) pos) tb):PE X (.BoolOp .And (a::b::rest) pos) (ba ta tb):=by
 intro pins s σ H Q I h
 refine BoolOp_and (bF (ha pins s σ H _ I h) fun v s1 ⟨x,H1,I1,r1,q1⟩=>?_)
 obtain⟨c,rfl,q1⟩:=q1
 cases r1
 refine wpAny_truthy_bool ?_
 cases c with
 | true=>exact hb pins s1 σ H1 Q I1 q1
 | false=>exact⟨.bl false,H1,I1,rfl,q1⟩
theorem ud (ha:PE X a ta) (hb:PE X (.BoolOp .Or (b::rest) pos) tb):PE X (.BoolOp .Or (a::b::rest) pos) (bV ta tb):=by
 intro pins s σ H Q I h
 refine BoolOp_or (bF (ha pins s σ H _ I h) fun v s1 ⟨x,H1,I1,r1,q1⟩=>?_)
 obtain⟨c,rfl,q1⟩:=q1
 cases r1
 refine wpAny_truthy_bool ?_
 cases c with
 | false=>exact hb pins s1 σ H1 Q I1 q1
 | true=>exact⟨.bl true,H1,I1,rfl,q1⟩
theorem sA (ha:PE X a ta):PE X (.UnaryOp .Not a pos) (be ta):=by
 intro pins s σ H Q I h
 refine UnaryOp_ (bF (ha pins s σ H _ I h) fun v s1 ⟨x,H1,I1,r1,q1⟩=>?_)
 obtain⟨c,rfl,q1⟩:=q1
 cases r1
 exact not_of (wpAny_truthy_bool ⟨.bl (!c),H1,I1,rfl,q1⟩)
def ed (t:TT) (ta tb:TE):TE:=fun σ H Q=>t σ H fun c H1=>if c=true then ta σ H1 Q else tb σ H1 Q
theorem eg {c:Expr} (hc:PT X c tA) (ha:PE X a ta) (hb:PE X b tb):PE X (.IfExp c a b pos) (ed tA ta tb):=by
 intro pins s σ H Q I h
 refine wpAny_IfExp (bF (hc pins s σ H _ I h) fun d s1 ⟨H1,I1,q1⟩=>?_)
 cases d with
 | true=>exact ha pins s1 σ H1 Q I1 q1
 | false=>exact hb pins s1 σ H1 Q I1 q1
end
end L2
namespace L2
open PySem PySem.Spec PyProof.Rows
def SqL (K:PySem.W.Frag) (H:Hp) (a:Addr) (xs:List V):Prop:=
 Rd H a (.lst xs)∨
  ∃(o:Obj) (its:Array Value) (n:Nat),K.lookup a=some o∧o.cls=.type "list" ∧o.dict=none∧o.data=.seq its n∧its.size≤sizeLine∧Vals xs its.toList
def SqT (K:PySem.W.Frag) (H:Hp) (a:Addr) (xs:List V):Prop:=
 Rd H a (.tup xs)∨
  ∃(o:Obj) (its:Array Value) (n:Nat),K.lookup a=some o∧(o.cls=.type "tuple" ∧o.dict=none)∧o.data=.seq its n∧its.size≤sizeLine∧Vals xs its.toList
def vQ:Value→Option V
 | .none=>some .non
 | .bool b=>some (.bl b)
 | .int i _=>some (.int i)
 | .str x _=>some (.str x)
 | .bytes b _=>some (.byt b)
 | .float b _=>some (.flt b)
 | .ref a=>some (.ref a)
 | .type n=>some (.ty n)
 | _=>none
theorem RelV.abs {x:V} {u:Value} (r:RelV x u):vQ u=some x:=by
 cases x with
 | non=>cases r;rfl
 | bl _=>cases r;rfl
 | int _=>obtain⟨t,rfl⟩:=r;rfl
 | str _=>obtain⟨t,rfl⟩:=r;rfl
 | byt _=>obtain⟨t,rfl⟩:=r;rfl
 | flt _=>obtain⟨t,rfl⟩:=r;rfl
 | ref _=>cases r;rfl
 | ty _=>cases r;rfl
theorem RelV.inj {x y:V} {u:Value} (r:RelV x u) (q:RelV y u):x=y:=Option.some.inj (r.abs.symm.trans q.abs)
theorem Vals.inj:∀{xs ys:List V} {us:List Value},Vals xs us→Vals ys us→xs=ys
 | _,_,_,.nil,.nil=>rfl
 | _,_,_,.cons r t,.cons r' t'=>by rw[r.inj r',Vals.inj t t']
section
variable {X:Cx} {pins:List (Addr×Obj)} {σ:St} {H:Hp} {s:Shared} {a:Addr} {xs ys:List V}
theorem SqL.of {K:PySem.W.Frag} (h:H a=some (.lst xs)):SqL K H a xs:=.inl (.inl h)
theorem SqT.of {K:PySem.W.Frag} (h:H a=some (.tup xs)):SqT K H a xs:=.inl (.inl h)
theorem Inv.list (I:Inv X pins σ H s) (h:SqL X.K H a xs):∃its:List Value,Vals xs its∧PlainL s.heap a its.toArray∧xs.length≤sizeLine:=by
 rcases h with h | ⟨o,its,n,hk,hc,hd,hs,hz,r⟩
 ·obtain⟨z,its,n,r,e⟩:=h.ok I.hok
  exact⟨its,r,⟨_,n,e,rfl,rfl,rfl⟩,z⟩
 ·refine⟨its.toList,r,⟨o,n,I.kIn a o hk,hc,hd,by simpa using hs⟩,?_⟩
  have e:=r.length
  simp only[Array.length_toList]at e
  omega
theorem Inv.tuple (I:Inv X pins σ H s) (h:SqT X.K H a xs):∃its:List Value,Vals xs its∧IsTup s.heap a its.toArray∧xs.length≤sizeLine:=by
 rcases h with h | ⟨o,its,n,hk,hc,hs,hz,r⟩
 ·obtain⟨z,its,r,p⟩:=h.ok I.hok
  exact⟨its,r,p.tup,z⟩
 ·refine⟨its.toList,r,⟨o,I.kIn a o hk,hc.1,n,by simpa using hs⟩,?_⟩
  have e:=r.length
  simp only[Array.length_toList]at e
  omega
theorem Inv.list_inj (I:Inv X pins σ H s) (h:SqL X.K H a xs) (h':SqL X.K H a ys):xs=ys:=by
 obtain⟨its,r,⟨o,n,e,_,_,d⟩,_⟩:=I.list h
 obtain⟨its',r',⟨o',n',e',_,_,d'⟩,_⟩:=I.list h'
 rw[e]at e';cases e'
 rw[d]at d'
 injection d' with d1 _
 have:its=its':=by simpa using congrArg Array.toList d1
 subst this
 exact r.inj r'
theorem Inv.tuple_inj (I:Inv X pins σ H s) (h:SqT X.K H a xs) (h':SqT X.K H a ys):xs=ys:=by
 obtain⟨its,r,⟨o,e,_,n,d⟩,_⟩:=I.tuple h
 obtain⟨its',r',⟨o',e',_,n',d'⟩,_⟩:=I.tuple h'
 rw[e]at e';cases e'
 rw[d]at d'
 injection d' with d1 _
 have:its=its':=by simpa using congrArg Array.toList d1
 subst this
 exact r.inj r'
end
abbrev Cx.wish (X:Cx) (E:Value→Shared→Prop):Cx:={X with xe:=E}
abbrev Cx.nox (X:Cx):Cx:=X.wish fun _ _=>False
theorem Cx.Ok.wish {X:Cx} (ok:X.Ok) (E:Value→Shared→Prop):(X.wish E).Ok:=
 ⟨ok.mod,ok.kind,ok.glob,ok.blt,ok.above,ok.inj,ok.has,ok.cab,ok.hd,ok.frames,ok.stk,ok.exf,ok.bs,ok.bsz,ok.noex,ok.exfs,ok.funs,ok.frf⟩
theorem Cx.Ok.unwish {X:Cx} {E:Value→Shared→Prop} (ok:(X.wish E).Ok):X.Ok:=
 ⟨ok.mod,ok.kind,ok.glob,ok.blt,ok.above,ok.inj,ok.has,ok.cab,ok.hd,ok.frames,ok.stk,ok.exf,ok.bs,ok.bsz,ok.noex,ok.exfs,ok.funs,ok.frf⟩
section
variable {X:Cx} {pins:List (Addr×Obj)} {σ:St} {H:Hp} {s:Shared} {E:Value→Shared→Prop}
theorem Inv.wish (I:Inv X pins σ H s) (E:Value→Shared→Prop):Inv (X.wish E) pins σ H s:=⟨I.ok.wish E,I.os,I.bare,I.base,I.loc,I.cell,I.free,I.freeC,I.pin,I.hok,I.len⟩
theorem Inv.unwish (I:Inv (X.wish E) pins σ H s):Inv X pins σ H s:=⟨I.ok.unwish,I.os,I.bare,I.base,I.loc,I.cell,I.free,I.freeC,I.pin,I.hok,I.len⟩
theorem SP.unwish {D:Ends} {f:Flow} {s':Shared} (h:SP (X.wish E) pins D f s'):SP X pins D f s':=by
 cases f with
 | next=>obtain⟨σ',H',I,q⟩:=h;exact⟨σ',H',I.unwish,q⟩
 | brk=>obtain⟨σ',H',I,q⟩:=h;exact⟨σ',H',I.unwish,q⟩
 | cont=>obtain⟨σ',H',I,q⟩:=h;exact⟨σ',H',I.unwish,q⟩
 | ret u=>obtain⟨v,σ',H',I,r,q⟩:=h;exact⟨v,σ',H',I.unwish,r,q⟩
theorem PSs.nox {st:List Stmt} {t:TS} (h:PSs X.nox st t):PSs X st t:=fun pins s σ H D I hw=>
 wpAny_mono (h pins s σ H D (I.wish _) hw) (fun _ _ q=>q.unwish) fun _ _ z=>False.elim z
end
section
variable {X:Cx} {st:Stmt} {rest:List Stmt} {t u:TS} {e:Expr} {te:TE} {pos:Pos}
def aE:TS:=fun D σ H=>D.nx σ H
def em (t u:TS):TS:=fun D σ H=>t {D with nx:=u D} σ H
theorem aM:PSs X [] aE:=fun _ _ σ H _ I h=>wpAny_execs_nil ⟨σ,H,I,h⟩
theorem ae (h1:PS X st t) (h2:PSs X rest u):PSs X (st::rest) (em t u):=by
 intro pins s σ H D I h
 refine wpAny_execs_cons (bF (h1 pins s σ H {D with nx:=u D} I h) fun f s1 q=>?_)
 cases f with
 | next =>
  obtain⟨σ',H',I',q⟩:=q
  exact h2 pins s1 σ' H' D I' q
 | ret v=>exact q
 | brk=>exact q
 | cont=>exact q
theorem af (h1:PS X st t):PSs X [st] t:=by
 intro pins s σ H D I h
 refine wpAny_execs_cons (bF (h1 pins s σ H D I h) fun f s1 q=>?_)
 cases f with
 | next=>exact wpAny_execs_nil q
 | ret v=>exact q
 | brk=>exact q
 | cont=>exact q
theorem Inv.quiet {pins:List (Addr×Obj)} {σ:St} {H:Hp} {s:Shared} (I:Inv X pins σ H s):interactive X.env=false:=by simp[interactive,I.ok.kind]
def aY (te:TE):TS:=fun D σ H=>te σ H fun _ H1=>D.nx σ H1
theorem eO (he:PE X e te) (hs:swapsWith e none pos.line X.env=pure false:=by rfl):PS X (.Expr e pos) (aY te):=by
 intro pins s σ H D I h
 exact wpAny_Expr_any (bF (he pins s σ H _ I h) fun v s1 ⟨x,H1,I1,r1,q1⟩=>⟨σ,H1,I1,q1⟩) I.quiet hs
def bM (te:TE):TS:=fun D σ H=>te σ H D.rt
theorem ar (he:PE X e te):PS X (.Return (some e) pos) (bM te):=by
 intro pins s σ H D I h
 exact wpAny_Return_some (bF (he pins s σ H _ I h) fun v s1 ⟨x,H1,I1,r1,q1⟩=>⟨x,σ,H1,I1,r1,q1⟩)
def gf (c:TT) (t u:TS):TS:=fun D σ H=>c σ H fun b H1=>if b=true then t D σ H1 else u D σ H1
theorem br {c:Expr} {a b:List Stmt} {tc:TT} (hc:PT X c tc) (ha:PSs X a t) (hb:PSs X b u):PS X (.If c a b pos) (gf tc t u):=by
 intro pins s σ H D I h
 refine wpAny_If (bF (hc pins s σ H _ I h) fun d s1 ⟨H1,I1,q1⟩=>?_)
 cases d with
 | true=>exact ha pins s1 σ H1 D I1 q1
 | false=>exact hb pins s1 σ H1 D I1 q1
end
abbrev TG:=V→St→Hp→(St→Hp→Prop)→Prop
abbrev rW:=List V→St→Hp→(St→Hp→Prop)→Prop
def PG (X:Cx) (target:Expr) (t:TG):Prop:=
 ∀ (pins : List (Addr × Obj)) (s : Shared) (σ : St) (H : Hp) (v : V) (u : Value) (Q : St → Hp → Prop), Inv X pins σ H s → RelV v u → t v σ H Q →
  wpAny (model X.prog X.w) X.A (assign target X.env u) (fun _ s'=>∃σ' H',Inv X pins σ' H' s'∧Q σ' H') X.xe s
def ue (X:Cx) (ts:List Expr) (t:rW):Prop:=
 ∀ (pins : List (Addr × Obj)) (s : Shared) (σ : St) (H : Hp) (vs : List V) (us : List Value) (Q : St → Hp → Prop), Inv X pins σ H s → Vals vs us → t vs σ H Q →
  wpAny (model X.prog X.w) X.A (assignInOrder ((assignEach ts X.env).map (·.2)) us) (fun _ s'=>∃σ' H',Inv X pins σ' H' s'∧Q σ' H') X.xe s
abbrev sB:=V→V→V→Hp→(Hp→Prop)→Prop
def uf (X:Cx) (t:sB):Prop:=
 ∀ (pins : List (Addr × Obj)) (s : Shared) (σ : St) (H : Hp) (o i v : V) (ov iv u : Value) (Q : Hp → Prop), Inv X pins σ H s → RelV o ov → RelV i iv → RelV v u → t o i v H Q →
  wpAny (model X.prog X.w) X.A (setItem ov iv u) (fun _ s'=>∃H',Inv X pins σ H' s'∧Q H') X.xe s
abbrev uX:=V→V→Hp→VK→Prop
def w6 (X:Cx) (op:Operator) (t:uX):Prop:=
 ∀ (pins : List (Addr × Obj)) (s : Shared) (σ : St) (H : Hp) (x y : V) (v u : Value) (Q : VK), Inv X pins σ H s → RelV x v → RelV y u → t x y H Q →
  wpAny (model X.prog X.w) X.A (inplaceOp op v u) (EP X pins σ Q) X.xe s
section
variable {X:Cx} {pos:Pos}
def aN (i:Nat):TG:=fun v σ H Q=>Q (σ.set i (some v)) H
theorem al {i:Nat} {x:Str} (hN:X.N.Nodup) (hi:X.N[i]? =some x) (hx:tX X.env.scope x) (hf:X.fn x=true∨X.env.scope.names.lookup x=some .local:=by first | exact .inl rfl | exact .inr rfl | assumption):PG X (.Name x pos) (aN i):=by
 intro pins s σ H v u Q I r h
 exact wpAny_assign_Name (gz I hN hi hx r (fun s' I'=>⟨_,H,I',h⟩) hf)
def bN:rW:=fun vs σ H Q=>vs=[]∧Q σ H
def aW (t:TG) (u:rW):rW:=fun vs σ H Q=>∃v r,vs=v::r∧t v σ H fun σ' H'=>u r σ' H' Q
theorem bZ:ue X [] bN:=by
 intro pins s σ H vs us Q I r h
 obtain⟨e,h⟩:=h
 subst e
 cases r
 exact assignInOrder_nil ⟨σ,H,I,h⟩
theorem au {e:Expr} {es:List Expr} {t:TG} {u:rW} (h1:PG X e t) (h2:ue X es u)
  (hs:(assignEach (e::es) X.env).map (·.2)=assign e X.env::(assignEach es X.env).map (·.2):=by rfl):ue X (e::es) (aW t u):=by
 intro pins s σ H vs us Q I r h
 obtain⟨v,vr,e1,h⟩:=h
 subst e1
 cases r with
 | cons r rr =>
  rw[hs]
  refine assignInOrder_cons (bF (h1 pins s σ H _ _ _ I r h) fun _ s1 ⟨σ1,H1,I1,q1⟩=>?_)
  exact h2 pins s1 σ1 H1 _ _ Q I1 rr q1
def bG (K:PySem.W.Frag) (n:Nat) (t:rW):TG:=fun v σ H Q=>∃a xs,v=.ref a∧SqT K H a xs∧xs.length=n∧t xs σ H Q
theorem sC {es:List Expr} {k:Nat} {t:rW} {n:Nat} (hc:X.calm=true) (h:ue X es t)
  (hn:(assignEach es X.env).length=n:=by rfl) (hst:(assignEach es X.env).findIdx? (·.1)=none:=by rfl):PG X (.Tuple es k pos) (bG X.K n t):=by
 intro pins s σ H v u Q I r hw
 obtain⟨a,xs,e1,hq,hl,hw⟩:=hw
 subst e1
 cases r
 obtain⟨its,rv,ht,hz⟩:=I.tuple hq
 refine assign_Tuple_tuple (I.ok.hd hc) ht (by simp[hn,←hl,rv.length]) hst fun h' hx=>?_
 have I1:Inv X pins σ H {s with heap:=h'} :=I.kept (t':=s.toks) fun b o e=>hx b o (Nat.ne_of_lt (Heap.lt_size e)) e
 exact h pins _ σ H xs _ Q I1 (by simpa using rv) hw
def ug (to ti:TE) (t:sB):TG:=fun v σ H Q=>to σ H fun o H1=>ti σ H1 fun i H2=>t o i v H2 fun H3=>Q σ H3
theorem nM {o i:Expr} {to ti:TE} {t:sB} (ho:PE X o to) (hi:PE X i ti) (hs:uf X t)
  (ha:∀v,assign (.Subscript o i pos) X.env v=(do
   let ov ←holding [v] (eval o X.env)
   let iv ←holding [v,ov] (eval i X.env)
   standAt pos
   holding [v,ov,iv] (setItem ov iv v)
   release [v,ov,iv] []):=by intro _;rfl):PG X (.Subscript o i pos) (ug to ti t):=by
 intro pins s σ H v u Q I r h
 rw[ha]
 refine wpAny_bind (wpAny_holding (bF (ho pins s σ H _ I h) fun ov s1 ⟨x,H1,I1,r1,q1⟩=>?_))
 refine wpAny_bind (wpAny_holding (bF (hi pins s1 σ H1 _ I1 q1) fun iv s2 ⟨y,H2,I2,r2,q2⟩=>?_))
 refine wpAny_bind (wpAny_standAt (wpAny_bind (wpAny_holding (bF (hs pins s2 σ H2 x y v ov iv u _ I2 r1 r2 r q2) fun _ s3 ⟨H3,I3,q3⟩=>?_))))
 exact wpAny_release ⟨σ,H3,I3,q3⟩
def bu (te:TE) (g:TG):TS:=fun D σ H=>te σ H fun x H1=>g x σ H1 D.nx
theorem eo {tg e:Expr} {te:TE} {g:TG} (he:PE X e te) (hg:PG X tg g) (hs:swapsWithSole [tg] e pos.line X.env=pure false:=by rfl) (hw:swappedStores [tg] e X.env=pure none:=by rfl)
  (h1:(assignEach [tg] X.env).map (·.2)=[assign tg X.env]:=by rfl):PS X (.Assign [tg] e pos) (bu te g):=by
 intro pins s σ H D I h
 refine wpAny_Assign_stores (bF (he pins s σ H _ I h) fun v s1 ⟨x,H1,I1,r1,q1⟩=>?_) hs hw
 rw[h1]
 exact bF (hg pins s1 σ H1 x v _ I1 r1 q1) fun _ s2 q=>q
theorem ao {i:Nat} {x:Str} {e:Expr} {te:TE} {pos':Pos} (hN:X.N.Nodup) (hi:X.N[i]? =some x) (hx:tX X.env.scope x) (he:PE X e te) (hs:swapsWith e (some (.Name x pos')) pos.line X.env=pure false:=by rfl) (hf:X.fn x=true∨X.env.scope.names.lookup x=some .local:=by first | exact .inl rfl | exact .inr rfl | assumption):
  PS X (.Assign [.Name x pos'] e pos) (bu te (aN i)):=by
 intro pins s σ H D I h
 refine wpAny_Assign_Name (bF (he pins s σ H _ I h) fun v s1 ⟨y,H1,I1,r1,q1⟩=>?_) hs
 exact gz I1 hN hi hx r1 (fun s2 I2=>⟨_,H1,I2,q1⟩) hf
def uh (i:Nat) (te:TE) (ti:uX):TS:=fun D σ H=>∃x,σ[i]? =some (some x)∧te σ H fun y H1=>ti x y H1 fun z H2=>D.nx (σ.set i (some z)) H2
theorem sD {i:Nat} {x:Str} {e:Expr} {te:TE} {op:Operator} {ti:uX} {pos':Pos} (hN:X.N.Nodup) (hi:X.N[i]? =some x) (hx:tX X.env.scope x) (he:PE X e te) (ho:w6 X op ti) (hf:X.fn x=true∨X.env.scope.names.lookup x=some .local:=by first | exact .inl rfl | exact .inr rfl | assumption):
  PS X (.AugAssign (.Name x pos') op e pos) (uh i te ti):=by
 intro pins s σ H D I h
 obtain⟨v,e1,h⟩:=h
 obtain⟨m,hn,hl⟩:=I.loc
 have vis:Vis X.env.scope x:=by rcases hx with k | k;exact .inl k;exact .inr (.inl k)
 obtain⟨u,r,l⟩:=hl i x v hi e1 vis
 refine wpAny_AugAssign_Name ?_
 have go:wpAny (model X.prog X.w) X.A (eval e X.env) (fun w s₂=>wpAny (model X.prog X.w) X.A (inplaceOp op u w) (fun r s₃=>wpAny (model X.prog X.w) X.A (storeName X.env x r) (fun _=>SP X pins D .next) X.xe s₃) X.xe s₂) X.xe s:=by
  refine bF (he pins s σ H _ I h) fun w s1 ⟨y,H1,I1,r1,q1⟩=>?_
  refine bF (ho pins s1 σ H1 v y u w _ I1 r r1 q1) fun z s2 ⟨zv,H2,I2,r2,q2⟩=>?_
  exact gz I2 hN hi hx r2 (fun s3 I3=>⟨_,H2,I3,q2⟩) hf
 rcases l with⟨hk,hm⟩ | ⟨hk,c,hc,hcell⟩
 ·exact wpAny_loadName_local I.ok.kind hk hn hm go
 ·rcases hk with hk | hk
  ·exact wpAny_loadName_cell I.ok.kind hk hc hcell go
  ·rcases hx with k | k
   ·have:X.env.scope.names.lookup x=some .free:=hk
    rw[k]at this;cases this
   ·have:X.env.scope.names.lookup x=some .free:=hk
    rw[k]at this;cases this
def w8 (f:Int→Int→Int):uX:=fun x y H Q=>∃i j,x=.int i∧y=.int j∧Q (.int (f i j)) H
theorem sE:w6 X .Add (w8 fun i j=>i+j):=by
 intro pins s σ H x y v u Q I r1 r2 h
 obtain⟨i,j,e1,e2,q⟩:=h
 subst e1;subst e2
 obtain⟨t,rfl⟩:=r1
 obtain⟨t',rfl⟩:=r2
 exact iadd_int ⟨.int _,H,I.tok _,⟨_,rfl⟩,q⟩
end
section
variable {X:Cx} {pos:Pos}
def kG (c:TT) (tb:TS):TS:=fun D σ H=>∃W:Nat→St→Hp→Prop,(∃m,W m σ H)∧∀m σ H,W m σ H→
 c σ H fun b H1=>if b=true then ∃N:St→Hp→Prop,(∀σ' H',N σ' H'→∃m',m'< m∧W m' σ' H')∧tb {D with nx:=N,ct:=N,bk:=D.nx} σ H1 else D.nx σ H1
theorem nN {c:Expr} {body:List Stmt} {tc:TT} {tb:TS} (hp:PassesOwn (model X.prog X.w) X.A X.env X.xe) (hc:PT X c tc) (hb:PSs X body tb):PS X (.While c body [] pos) (kG tc tb):=by
 intro pins s σ H D I h
 obtain⟨W,⟨m0,w0⟩,turn⟩:=h
 refine wpAny_While (codeAny_whileLoop (fun n s'=>∃σ' H',Inv X pins σ' H' s'∧W n σ' H') ?_ m0 ⟨σ,H,I,w0⟩)
 rintro n s1 ⟨σ1,H1,I1,w1⟩
 refine wpAny_passesOwn hp (bF (hc pins s1 σ1 H1 _ I1 (turn n σ1 H1 w1)) fun b s2 ⟨H2,I2,q2⟩=>?_)
 cases b with
 | true =>
  obtain⟨N,hN,q2⟩:=q2
  rw[if_pos rfl]
  refine wpAny_passesOwn hp (bF (hb pins s2 σ1 H2 _ I2 q2) fun f s3 q3=>?_)
  cases f with
  | next =>
   obtain⟨σ3,H3,I3,n3⟩:=q3
   obtain⟨m',hm,w3⟩:=hN σ3 H3 n3
   exact⟨m',hm,σ3,H3,I3,w3⟩
  | cont =>
   obtain⟨σ3,H3,I3,n3⟩:=q3
   obtain⟨m',hm,w3⟩:=hN σ3 H3 n3
   exact⟨m',hm,σ3,H3,I3,w3⟩
  | brk=>exact q3
  | ret v=>exact q3
 | false =>
  rw[if_neg Bool.false_ne_true]
  exact wpAny_execs_nil ⟨σ1,H2,I2,q2⟩
end
structure It where
 go:Nat→Hp→Prop
 yld:Nat→Hp→V→Hp→Prop
 stop:Nat→Hp→Prop
def FpOk (X:Cx) (pins:List (Addr×Obj)) (H:Hp) (b:Addr):Prop:=
 H b=none∧b≠X.env.locals∧b∉X.fs∧(b∈X.ex∨X.s₀.heap.objs.size≤b)∧(∀x c,X.env.cells.lookup x=some c→c≠b)∧∀p∈X.pn++pins,p.1≠b
theorem Inv.fpOk {X:Cx} {pins:List (Addr×Obj)} {σ:St} {H H':Hp} {s:Shared} {b:Addr} (I:Inv X pins σ H s) (hb:s.heap.objs.size≤b) (hn:H' b=none):FpOk X pins H' b:=by
 refine⟨hn,Nat.ne_of_gt (Nat.lt_of_lt_of_le I.lt hb),I.nofs hb,.inr (Nat.le_trans I.sz hb),fun x c e z=>?_,fun p hp z=>?_⟩
 ·obtain⟨v,q⟩:=I.cell x c e
  exact absurd (Nat.lt_of_lt_of_le q.lt (by rw[z];exact hb)) (Nat.lt_irrefl _)
 ·exact absurd (Nat.lt_of_lt_of_le (Heap.lt_size (I.pin p hp).1) (by rw[z];exact hb)) (Nat.lt_irrefl _)
structure Turn (P:Program) (w:World) (K:PySem.W.Frag) (tg:Expr) (J:It) (fp:List Addr) (it:Addr) (tn:Nat→Heap→Prop):Prop where
 mem:it∈fp
 obj:∀i h,tn i h→∀b∈fp,∃o,h.get? b=some o∧∀v,o.data≠.cell v
 keep:∀i h h',tn i h→(∀b∈fp,∀o,h.get? b=some o→h'.get? b=some o)→tn i h'
 item:∀(X:Cx),X.prog=P→X.w=w→X.K=K→X.calm=true→∀(i:Nat) (pins:List (Addr×Obj)) (s:Shared) (σ:St) (H:Hp) (E:Value→Shared→Prop),Inv X pins σ H s→(∀b∈fp,FpOk X pins H b)→tn i s.heap→J.go i H→
  wpAny (model P w) X.A (pyNext (.ref it)) (fun r s1=>∃u,r=some u∧
   wpAny (model P w) X.A (letOwnedTupleGo tg (.ref it) u) (fun _ s2=>∃x H',Inv X pins σ H' s2∧RelV x u∧J.yld i H x H'∧tn (i+1) s2.heap∧∀b∈fp,H' b=none) E s1) E s
 done:∀(X:Cx),X.prog=P→X.w=w→X.K=K→X.calm=true→∀(i:Nat) (pins:List (Addr×Obj)) (s:Shared) (σ:St) (H:Hp) (E:Value→Shared→Prop),Inv X pins σ H s→(∀b∈fp,FpOk X pins H b)→tn i s.heap→J.stop i H→
  wpAny (model P w) X.A (pyNext (.ref it)) (fun r s1=>r=none∧Inv X pins σ H s1) E s
 self:∀(A:Around) (i:Nat) (s:Shared) (Q:Value→Shared→Prop) (E:Value→Shared→Prop),tn i s.heap→Q (.ref it) s→wpAny (model P w) A (pyIter (.ref it)) Q E s
abbrev TI:=St→Hp→(It→Hp→Prop)→Prop
def vR (X:Cx) (pins:List (Addr×Obj)) (σ:St) (tg:Expr) (R:It→Hp→Prop) (itv:Value) (s2:Shared):Prop:=
 ∃(it:Addr) (fp:List Addr) (tn:Nat→Heap→Prop) (J:It) (H':Hp),itv=.ref it∧Inv X pins σ H' s2∧Turn X.prog X.w X.K tg J fp it tn∧tn 0 s2.heap∧(∀b∈fp,FpOk X pins H' b)∧R J H'
def PI (X:Cx) (tg iter:Expr) (wi:TI):Prop:=
 ∀ (pins : List (Addr × Obj)) (s : Shared) (σ : St) (H : Hp) (R : It → Hp → Prop), Inv X pins σ H s → wi σ H R →
  wpAny (model X.prog X.w) X.A (eval iter X.env) (fun v s1=>wpAny (model X.prog X.w) X.A (pyIter v) (vR X pins σ tg R) X.xe s1) X.xe s
theorem nO {M:Model} {A:Around} {E:Value→Shared→Prop} {s:Shared} {tg:Expr} {it:Addr} {u:Value} {o:Obj} {n:String} {vs:Array Value} {Q:Unit→Shared→Prop} (ho:s.heap.get? it=some o) (hc:o.cls=.type n) (hd:o.data=.fields vs)
    (hn: ["enumerate","zip","dict_itemiterator","dict_reverseitemiterator","odict_iterator","itertools.zip_longest","itertools.pairwise"].contains n=false) (hQ:Q () s):wpAny M A (letOwnedTupleGo tg (.ref it) u) Q E s:=by
  unfold letOwnedTupleGo
  cases tg <;> first
    | exact wpAny_pure hQ
    | (cases u <;> first
        | exact wpAny_pure hQ
        | (refine wpAny_bind (wpAny_load ho ?_)
           rw[hc,hd]
           show wpAny M A (if(["enumerate","zip","dict_itemiterator","dict_reverseitemiterator","odict_iterator","itertools.zip_longest","itertools.pairwise"].contains n && vs[0]? == some (rawInt _))=true then _ else _) Q E s
           rw[if_neg (by intro h;rw[hn,Bool.false_and]at h;cases h)]
           exact wpAny_pure hQ))
def w9 (K:PySem.W.Frag) (a:Addr):It:=
 ⟨fun i H=>∃xs x,SqL K H a xs∧xs[i]? =some x,fun i H x H'=>H'=H∧∀xs,SqL K H a xs→xs[i]? =some x,fun i H=>∃xs,SqL K H a xs∧xs.length≤i⟩
def vS (lo:Int) (n:Nat):It:=⟨fun i _=>i< n,fun i H x H'=>H'=H∧x=.int (lo+i),fun i _=>n≤i⟩
theorem mE {P:Program} {w:World} {K:PySem.W.Frag} {tg:Expr} (a it:Addr):Turn P w K tg (w9 K a) [it] it (fun i h=>h.IsListIter it a i) where
 mem:=by simp
 obj:=fun i h st b hb=>by
  have e:b=it:=by simpa using hb
  subst e
  obtain⟨o,e,c,d⟩:=st
  exact⟨o,e,fun v z=>by rw[d]at z;cases z⟩
 keep:=fun i h h' st k=>st.at fun o e=>k it (by simp) o e
 item:=by
  intro X hP hw hK hc i pins s σ H E I hf st hg
  subst hP hw hK
  obtain⟨xs,x,hq,hx⟩:=hg
  obtain⟨its,rv,p,hz⟩:=I.list hq
  obtain⟨u,hu,ru⟩:=rv.get hx
  obtain⟨f0,f1,f2,f3,f4,f5⟩:=hf it (by simp)
  refine wpAny_pyNext_list_item st p.isList (x:=u) (by simpa using hu) fun h' st' sb=>?_
  have I1:Inv X pins σ H {s with heap:=h'} :=I.turned (t':=s.toks) (fun b o hb e=>(sb.2 b hb).trans e) f0 f1 f3 f4 f5
  obtain⟨o,e,c,d⟩:=id st'
  exact⟨u,rfl,nO (s:={s with heap:=h'}) e c d (by decide) ⟨x,H,I1,ru,⟨rfl,fun ys hy=>by rw[I.list_inj hy hq];exact hx⟩,st',fun b hb=>(hf b hb).1⟩⟩
 done:=by
  intro X hP hw hK hc i pins s σ H E I hf st hg
  subst hP hw hK
  obtain⟨xs,hq,hx⟩:=hg
  obtain⟨its,rv,p,hz⟩:=I.list hq
  obtain⟨f0,f1,f2,f3,f4,f5⟩:=hf it (by simp)
  have hl:=rv.length
  exact wpAny_pyNext_list_end (I.ok.hd hc) st p.isList (by simp;omega) fun h' eb=>⟨rfl,I.turned (t':=s.toks) (fun b o hb e=>eb b o hb e) f0 f1 f3 f4 f5⟩
 self:=fun _ _ _ _ _ st h=>wpAny_pyIter_listiter st h
theorem kH {P:Program} {w:World} {K:PySem.W.Frag} {tg:Expr} (it:Addr) (lo:Int) (n:Nat):Turn P w K tg (vS lo n) [it] it (fun i h=>IsRangeIter h it (lo+(i:Nat)*1) ((n:Int)- (i:Nat)) 1) where
 mem:=by simp
 obj:=fun i h st b hb=>by
  have e:b=it:=by simpa using hb
  subst e
  exact⟨_,st,fun v z=>by
   have z':Data.fields _=Data.cell v:=z
   cases z'⟩
 keep:=fun i h h' st k=>k it (by simp) _ st
 item:=by
  intro X hP hw hK hc i pins s σ H E I hf st hg
  subst hP hw hK
  obtain⟨f0,f1,f2,f3,f4,f5⟩:=hf it (by simp)
  have W:=Walks.range (prog:=X.prog) (w:=X.w) (I.ok.hd hc) it lo 1 n
  refine W.item i s _ _ hg st fun v h' tk hv st' kk=>?_
  obtain⟨t,rfl⟩:=hv
  have I1:Inv X pins σ H {s with heap:=h',toks:=tk} :=I.turned (fun b o hb e=>kk b o (by simpa using hb) e) f0 f1 f3 f4 f5
  refine⟨_,rfl,nO (s:={s with heap:=h',toks:=tk}) (n:="range_iterator") st' rfl rfl (by decide) ⟨.int (lo+i),H,I1,⟨t,?_⟩,⟨rfl,rfl⟩,st',fun b hb=>(hf b hb).1⟩⟩
  rw[Int.mul_one]
 done:=by
  intro X hP hw hK hc i pins s σ H E I hf st hg
  subst hP hw hK
  obtain⟨f0,f1,f2,f3,f4,f5⟩:=hf it (by simp)
  exact wpAny_pyNext_range_end (I.ok.hd hc) st (by have:n≤i:=hg;omega) fun h' eb=>⟨rfl,I.turned (t':=s.toks) (fun b o hb e=>eb b o hb e) f0 f1 f3 f4 f5⟩
 self:=fun _ _ _ _ _ st h=>wpAny_pyIter_rangeiter st h
end L2
namespace L2
open PySem PySem.Spec PyProof.Rows
section
variable {X:Cx} {tg:Expr}
def nP (K:PySem.W.Frag) (tl:TE):TI:=fun σ H R=>tl σ H fun x H1=>∃a,x=.ref a∧(∃xs,SqL K H1 a xs)∧R (w9 K a) H1
theorem ql {l:Expr} {tl:TE} (hl:PE X l tl):PI X tg l (nP X.K tl):=by
 intro pins s σ H R I h
 refine bF (hl pins s σ H _ I h) fun v s1 ⟨x,H1,I1,r1,q1⟩=>?_
 obtain⟨a,e,⟨xs,hq⟩,q⟩:=q1
 subst e
 cases r1
 obtain⟨its,rv,p,hz⟩:=I1.list hq
 refine wpAny_pyIter_list p.isList ?_
 refine⟨s1.heap.objs.size,[s1.heap.objs.size],_,_,H1,rfl,I1.kept (t':=s1.toks) fun b o e=>Heap.get?_push_of_some _ e,mE a _,⟨_,Heap.get?_push_size _ rfl,rfl,rfl⟩,fun b hb=>?_,q⟩
 have e:b=s1.heap.objs.size:=by simpa using hb
 subst e
 exact I1.fpOk (Nat.le_refl _) (I1.hok.fresh (Nat.le_refl _))
theorem nQ {pins:List (Addr×Obj)} {σ:St} {H:Hp} {s:Shared} {R:It→Hp→Prop} {E:Value→Shared→Prop} {lo hi:Int} {t u v:Tok} {tk:Nat} (I:Inv X pins σ H s) (h1: -(2^62)≤lo) (h2:lo< 2^62) (h3: -(2^62)≤hi) (h4:hi< 2^62)
  (q:R (vS lo (hi- lo).toNat) H):wpAny (model X.prog X.w) X.A (pyIter (.ref s.heap.objs.size)) (vR X pins σ tg R) E {s with heap:=s.heap.push {cls:=.type "range",data:=.fields #[.int lo t,.int hi u,.int 1 v]},toks:=tk} :=by
 refine wpAny_pyIter_range (IsRange.new ..) (small_one h1 h2 h3 h4) ?_
 have I1:Inv X pins σ H {s with heap:=s.heap.push {cls:=.type "range",data:=.fields #[.int lo t,.int hi u,.int 1 v]},toks:=tk} :=I.kept fun b o e=>Heap.get?_push_of_some _ e
 refine⟨(s.heap.push {cls:=.type "range",data:=.fields #[.int lo t,.int hi u,.int 1 v]}).objs.size,[(s.heap.push {cls:=.type "range",data:=.fields #[.int lo t,.int hi u,.int 1 v]}).objs.size],_,_,H,rfl,
  I1.kept (t':=tk) fun b o e=>Heap.get?_push_of_some _ e,kH _ lo (hi- lo).toNat,?_,fun b hb=>?_,q⟩
 ·have e1:lo+((0:Nat):Int)*1=lo:=by simp
  have e2:(((hi- lo).toNat:Nat):Int)- ((0:Nat):Int)=Builtin.Range.rangeSize lo hi 1:=by rw[rangeSize_one];split <;> omega
  show IsRangeIter _ _ (lo+((0:Nat):Int)*1) ((((hi- lo).toNat:Nat):Int)- ((0:Nat):Int)) 1
  rw[e1,e2]
  exact Heap.get?_push_size _ rfl
 ·have e:b=(s.heap.push {cls:=.type "range",data:=.fields #[.int lo t,.int hi u,.int 1 v]}).objs.size:=by simpa using hb
  subst e
  exact I1.fpOk (Nat.le_refl _) (I1.hok.fresh (Nat.le_refl _))
def rX (ta:TA):TI:=fun σ H R=>ta σ H fun vs H1=>∃j:Int,vs=[.int j]∧ -(2^62)≤j∧j< 2^62∧R (vS 0 j.toNat) H1
theorem eP {a:Expr} {ta:TA} {p pos:Pos} (hg:Gl X "range") (hm:X.mg "range" =none) (ha:PA X [a] ta) (hs:starEach [a] X.env=[(false,eval a X.env)]:=by rfl):PI X tg (.Call (.Name "range" p) [a] [] pos) (rX ta):=by
 intro pins s σ H R I h
 refine Call_ (fG I hg hm boot_range (PyProof.Rows.callWith_type1 (bF (ha pos pins s σ H _ I h) fun us s1 ⟨vs,H1,I1,r1,q1⟩=>?_) hs rfl))
 obtain⟨j,e,q1,q2,q⟩:=q1
 subst e
 cases r1 with
 | cons r rr =>
  cases rr
  obtain⟨t,rfl⟩:=r
  exact call_range_1 (nQ I1 (by omega) (by omega) q1 q2 (by simpa using q))
def nR (wi:TI) (g:TG) (tb:TS):TS:=fun D σ H=>wi σ H fun J H1=>∃W:Nat→Nat→St→Hp→Prop,(∃m,W 0 m σ H1)∧∀i m σ H,W i m σ H→
 (J.stop i H∧D.nx σ H)∨(J.go i H∧∃N:St→Hp→Prop,(∀σ' H',N σ' H'→∃m',m'< m∧W (i+1) m' σ' H')∧∀x H',J.yld i H x H'→g x σ H' fun σ2 H2=>tb {D with nx:=N,ct:=N,bk:=D.nx} σ2 H2)
def fJ (fp:List Addr) (h:Heap):List (Addr×Obj):=fp.filterMap fun b=>(h.get? b).map fun o=>(b,o)
theorem d4 {fp:List Addr} {h:Heap} {b:Addr} {o:Obj} (hb:b∈fp) (e:h.get? b=some o):(b,o)∈fJ fp h:=List.mem_filterMap.mpr ⟨b,hb,by rw[e];rfl⟩
theorem mF {fp:List Addr} {h:Heap} {p:Addr×Obj} (hp:p∈fJ fp h):p.1∈fp∧h.get? p.1=some p.2:=by
 obtain⟨b,hb,e⟩:=List.mem_filterMap.mp hp
 cases q:h.get? b with
 | none=>rw[q]at e;cases e
 | some o =>
  rw[q]at e
  have e':(b,o)=p:=Option.some.inj e
  subst e'
  exact⟨hb,q⟩
theorem Inv.pinned {pins:List (Addr×Obj)} {σ:St} {H:Hp} {s:Shared} {fp:List Addr} (I:Inv X pins σ H s) (hf:∀b∈fp,FpOk X pins H b) (ho:∀b∈fp,∃o,s.heap.get? b=some o∧∀v,o.data≠.cell v):Inv X (pins++fJ fp s.heap) σ H s:=
 I.pins_of fun p hp=>(List.mem_append.mp hp).elim (fun z=>I.pin p (List.mem_append_right _ z)) fun z=>by
  obtain⟨hb,e⟩:=mF z
  obtain⟨f0,f1,f2,_⟩:=hf p.1 hb
  obtain⟨o,e',d⟩:=ho p.1 hb
  rw[e]at e';cases e'
  exact⟨e,f0,f1,f2,d⟩
theorem Inv.unpinned {pins pl:List (Addr×Obj)} {σ:St} {H:Hp} {s:Shared} (I:Inv X (pins++pl) σ H s):Inv X pins σ H s:=I.pins_of fun p hp=>I.pin p (List.mem_append_right _ (List.mem_append_left _ hp))
theorem ci {iter:Expr} {body:List Stmt} {wi:TI} {g:TG} {tb:TS} {pos:Pos} (hp:PassesOwn (model X.prog X.w) X.A X.env X.xe) (hc:X.calm=true) (hi:PI X tg iter wi) (hg:PG X tg g) (hb:PSs X body tb)
  (hs:∀x,foldedSetIterable iter X.env x=pure x:=by intro _;rfl):PS X (.For tg iter body [] pos) (nR wi g tb):=by
 intro pins s σ H D I h
 refine wpAny_For (bF (hi pins s σ H _ I h) fun v s1 h1=>bF h1 fun itv s2 h2=>?_) hs
 obtain⟨it,fp,tn,J,H2,e,I2,T,st2,f2,W,⟨m0,w0⟩,turn⟩:=h2
 subst e
 have stat:∀{H':Hp},(∀b∈fp,H' b=none)→∀b∈fp,FpOk X pins H' b:=fun hn b hb=>⟨hn b hb,(f2 b hb).2⟩
 refine codeAny_forLoop_any (fun n s'=>∃i σ' H',Inv X pins σ' H' s'∧tn i s'.heap∧(∀b∈fp,H' b=none)∧W i n σ' H') ?_ m0 ⟨0,σ,H2,I2,st2,fun b hb=>(f2 b hb).1,w0⟩
 rintro n s3 ⟨i,σ3,H3,I3,st3,fr3,w3⟩
 rcases turn i n σ3 H3 w3 with⟨stop,qn⟩ | ⟨go,N,hN,step⟩
 ·refine wpAny_passesOwn hp (bF (T.done X rfl rfl rfl hc i pins s3 σ3 H3 X.xe I3 (stat fr3) st3 stop) fun r s4 ⟨hr,I4⟩=>?_)
  subst hr
  exact wpAny_execs_nil ⟨σ3,H3,I4,qn⟩
 ·refine wpAny_passesOwn hp (bF (T.item X rfl rfl rfl hc i pins s3 σ3 H3 X.xe I3 (stat fr3) st3 go) fun r s4 ⟨u,hr,h4⟩=>?_)
  subst hr
  refine wpAny_passesOwn hp (bF h4 fun _ s5 ⟨x,H5,I5,r5,y5,st5,fr5⟩=>?_)
  have I5':=I5.pinned (stat fr5) (T.obj _ _ st5)
  refine wpAny_passesOwn hp (bF (hg _ s5 σ3 H5 x u _ I5' r5 (step x H5 y5)) fun _ s6 ⟨σ6,H6,I6,q6⟩=>?_)
  refine wpAny_passesOwn hp (bF (hb _ s6 σ6 H6 _ I6 q6) fun f s7 q7=>?_)
  have again:∀{σ7:St} {H7:Hp},Inv X (pins++fJ fp s5.heap) σ7 H7 s7→N σ7 H7→∃m,m< n∧∃i σ' H',Inv X pins σ' H' s7∧tn i s7.heap∧(∀b∈fp,H' b=none)∧W i m σ' H':=fun {σ7 H7} I7 n7=>by
   obtain⟨m',hm,w7⟩:=hN σ7 H7 n7
   refine⟨m',hm,i+1,σ7,H7,I7.unpinned,T.keep _ _ _ st5 fun b hb o e=>(I7.pin (b,o) (List.mem_append_right _ (List.mem_append_right _ (d4 hb e)))).1,fun b hb=>?_,w7⟩
   obtain⟨o,e,d⟩:=T.obj _ _ st5 b hb
   exact(I7.pin (b,o) (List.mem_append_right _ (List.mem_append_right _ (d4 hb e)))).2.1
  cases f with
  | next=>obtain⟨σ7,H7,I7,n7⟩:=q7;exact again I7 n7
  | cont=>obtain⟨σ7,H7,I7,n7⟩:=q7;exact again I7 n7
  | brk=>obtain⟨σ7,H7,I7,q7⟩:=q7;exact⟨σ7,H7,I7.unpinned,q7⟩
  | ret v=>obtain⟨x7,σ7,H7,I7,r7,q7⟩:=q7;exact⟨x7,σ7,H7,I7.unpinned,r7,q7⟩
end
end L2
namespace L2
open PySem PySem.Spec PyProof.Rows
abbrev R2:=V→V→Hp→VK→Prop
def OpR (X:Cx) (f:Value→Value→Sem Value) (r:R2):Prop:=
 ∀ (pins : List (Addr × Obj)) (s : Shared) (σ : St) (H : Hp) (x y : V) (v u : Value) (Q : VK), Inv X pins σ H s → RelV x v → RelV y u → r x y H Q →
  wpAny (model X.prog X.w) X.A (f v u) (EP X pins σ Q) X.xe s
def vT (X:Cx) (f:Value→Sem Value) (r:V→Hp→VK→Prop):Prop:=
 ∀ (pins : List (Addr × Obj)) (s : Shared) (σ : St) (H : Hp) (x : V) (v : Value) (Q : VK), Inv X pins σ H s → RelV x v → r x H Q →
  wpAny (model X.prog X.w) X.A (f v) (EP X pins σ Q) X.xe s
def cQ (X:Cx) (f:Value) (r:List V→Hp→VK→Prop):Prop:=
 ∀ (pins : List (Addr × Obj)) (s : Shared) (σ : St) (H : Hp) (xs : List V) (us : List Value) (Q : VK), Inv X pins σ H s → Vals xs us → r xs H Q →
  wpAny (model X.prog X.w) X.A (call f us) (EP X pins σ Q) X.xe s
def cv (r:R2) (ta tb:TE):TE:=fun σ H Q=>ta σ H fun x H1=>tb σ H1 fun y H2=>r x y H2 Q
def dQ (r:V→Hp→VK→Prop) (ta:TE):TE:=fun σ H Q=>ta σ H fun x H1=>r x H1 Q
def rI (C:Int→Int→Prop) (g:Int→Int→V):R2:=fun x y H Q=>∃i j,x=.int i∧y=.int j∧C i j∧Q (g i j) H
def de (g:Int→Int→V):R2:=fun x y H Q=>∃i j,x=.int i∧y=.int j∧Q (g i j) H
def rU (g:Int→V):V→Hp→VK→Prop:=fun x H Q=>∃i,x=.int i∧Q (g i) H
section
variable {X:Cx} {a b c:Expr} {ta tb tc:TE} {pos:Pos}
theorem sF (ha:PE X a ta) (hb:PE X b tb) {pins:List (Addr×Obj)} {s:Shared} {σ:St} {H:Hp} {R:V→V→Hp→Prop} (I:Inv X pins σ H s)
  (h:ta σ H fun x H1=>tb σ H1 fun y H2=>R x y H2) {Q:Value→Shared→Prop} {f:Value→Value→Sem Value}
  (hf:∀v u s2 x y H2,Inv X pins σ H2 s2→RelV x v→RelV y u→R x y H2→wpAny (model X.prog X.w) X.A (f v u) Q X.xe s2):
  wpAny (model X.prog X.w) X.A (eval a X.env) (fun v s₁=>wpAny (model X.prog X.w) X.A (eval b X.env) (fun u s₂=>wpAny (model X.prog X.w) X.A (f v u) Q X.xe s₂) X.xe s₁) X.xe s:=by
 refine bF (ha pins s σ H _ I h) fun v s1 ⟨x,H1,I1,r1,q1⟩=>?_
 refine bF (hb pins s1 σ H1 _ I1 q1) fun u s2 ⟨y,H2,I2,r2,q2⟩=>?_
 exact hf v u s2 x y H2 I2 r1 r2 q2
theorem ag {op:Operator} {r:R2} (ho:OpR X (binaryOp op) r) (ha:PE X a ta) (hb:PE X b tb):PE X (.BinOp a op b pos) (cv r ta tb):=by
 intro pins s σ H Q I h
 exact wpAny_BinOp (sF ha hb I h fun v u s2 x y H2 I2 rx ry q=>ho pins s2 σ H2 x y v u Q I2 rx ry q)
theorem jt {op:UnaryOp} {r:V→Hp→VK→Prop} (ho:vT X (unaryOp op) r) (ha:PE X a ta):PE X (.UnaryOp op a pos) (dQ r ta):=by
 intro pins s σ H Q I h
 exact UnaryOp_ (bF (ha pins s σ H _ I h) fun v s1 ⟨x,H1,I1,r1,q1⟩=>ho pins s1 σ H1 x v Q I1 r1 q1)
theorem uY {f:Value→Value→Sem Value} {C:Int→Int→Prop} {g:Int→Int→Int}
  (rule:∀(i j:Int) (t u:Tok) (s:Shared) (Q:Value→Shared→Prop) (E:Value→Shared→Prop),C i j→Q (.int (g i j) s.toks) {s with toks:=s.toks+1}→wpAny (model X.prog X.w) X.A (f (.int i t) (.int j u)) Q E s):
  OpR X f (rI C fun i j=>.int (g i j)):=by
 intro pins s σ H x y v u Q I rx ry h
 obtain⟨i,j,rfl,rfl,hc,q⟩:=h
 obtain⟨t,rfl⟩:=rx
 obtain⟨t',rfl⟩:=ry
 exact rule i j t t' s _ _ hc ⟨.int (g i j),H,I.tok _,⟨_,rfl⟩,q⟩
theorem ui {f:Value→Value→Sem Value} {g:Int→Int→Int}
  (rule:∀(i j:Int) (t u:Tok) (s:Shared) (Q:Value→Shared→Prop) (E:Value→Shared→Prop),Q (.int (g i j) s.toks) {s with toks:=s.toks+1}→wpAny (model X.prog X.w) X.A (f (.int i t) (.int j u)) Q E s):
  OpR X f (de fun i j=>.int (g i j)):=by
 intro pins s σ H x y v u Q I rx ry h
 obtain⟨i,j,rfl,rfl,q⟩:=h
 obtain⟨t,rfl⟩:=rx
 obtain⟨t',rfl⟩:=ry
 exact rule i j t t' s _ _ ⟨.int (g i j),H,I.tok _,⟨_,rfl⟩,q⟩
theorem qm {f:Value→Value→Sem Value} {g:Int→Int→Bool}
  (rule:∀(i j:Int) (t u:Tok) (s:Shared) (Q:Value→Shared→Prop) (E:Value→Shared→Prop),Q (.bool (g i j)) s→wpAny (model X.prog X.w) X.A (f (.int i t) (.int j u)) Q E s):
  OpR X f (de fun i j=>.bl (g i j)):=by
 intro pins s σ H x y v u Q I rx ry h
 obtain⟨i,j,rfl,rfl,q⟩:=h
 obtain⟨t,rfl⟩:=rx
 obtain⟨t',rfl⟩:=ry
 exact rule i j t t' s _ _ ⟨.bl (g i j),H,I,rfl,q⟩
def uj (i j:Int):Prop:=0< j∧j< 1073741824
def uk (i j:Int):Prop:=0≤j∧j≤1000000∧i.natAbs< 2^64
def CMul (i j:Int):Prop:=(-(2^64)< i∧i< 2^64)∨(-(2^64)< j∧j< 2^64)
theorem CMul.ok {i j:Int} (h:CMul i j):IntMulOk i j:=by
 rcases h with⟨h1,h2⟩ | ⟨h1,h2⟩
 ·exact .of_left (intBits_le_64 h1 h2)
 ·exact .of_right (intBits_le_64 h1 h2)
theorem bq:OpR X (binaryOp .Add) (de fun i j=>.int (i+j)):=ui fun _ _ _ _ _ _ _ q=>add_int q
theorem gA:OpR X (binaryOp .Sub) (de fun i j=>.int (i- j)):=ui fun _ _ _ _ _ _ _ q=>sub_int q
theorem dt:OpR X (binaryOp .Mult) (rI CMul fun i j=>.int (i*j)):=uY fun _ _ _ _ _ _ _ hc q=>mul_int q hc.ok
theorem bv:OpR X (binaryOp .FloorDiv) (rI uj fun i j=>.int (i/ j)):=uY fun i j _ _ _ _ _ hc q=>by
 have h1:(0:Int)< j:=hc.1
 have h2:j< 1073741824:=hc.2
 exact floordiv_int (by omega) (by rw[Int.fdiv_eq_ediv_of_nonneg i (by omega)];exact q) (.inl (PyProof.noPylong_small (by omega)))
theorem aL:OpR X (binaryOp .Mod) (rI (fun _ j=>0< j) fun i j=>.int (i% j)):=uY fun i j _ _ _ _ _ hc q=>by
 have h1:(0:Int)< j:=hc
 exact mod_int' (by omega) (by rw[Int.fmod_eq_emod_of_nonneg i (by omega)];exact q)
theorem sG:OpR X (binaryOp .Pow) (rI uk fun i j=>.int (i^j.toNat)):=uY fun _ _ _ _ _ _ _ hc q=>pow_int_small hc.1 hc.2.1 hc.2.2 q
theorem wc {f:Value→Sem Value} {g:Int→Int}
  (rule:∀(i:Int) (t:Tok) (s:Shared) (Q:Value→Shared→Prop) (E:Value→Shared→Prop),Q (.int (g i) s.toks) {s with toks:=s.toks+1}→wpAny (model X.prog X.w) X.A (f (.int i t)) Q E s):
  vT X f (rU fun i=>.int (g i)):=by
 intro pins s σ H x v Q I rx h
 obtain⟨i,rfl,q⟩:=h
 obtain⟨t,rfl⟩:=rx
 exact rule i t s _ _ ⟨.int (g i),H,I.tok _,⟨_,rfl⟩,q⟩
theorem gB:vT X (unaryOp .USub) (rU fun i=>.int (-i)):=wc fun _ _ _ _ _ q=>neg_int q
end
def bW:V→V→Bool
 | .non,.non=>true | .non,.int _=>true | .int _,.non=>true | .non,.bl _=>true | .bl _,.non=>true | .non,.str _=>true | .str _,.non=>true
 | .int _,.int _=>true | .bl _,.bl _=>true | .str _,.str _=>true | .byt _,.byt _=>true
 | .int _,.str _=>true | .str _,.int _=>true | .bl _,.str _=>true | .str _,.bl _=>true
 | _,_=>false
def dR:R2:=fun x y H Q=>bW x y=true∧Q (.bl (decide (x=y))) H
def dU:R2:=fun x y H Q=>bW x y=true∧Q (.bl (!decide (x=y))) H
theorem lx {i j:Int} :decide (V.int i=V.int j)=(i == j):=by
 rw[Bool.eq_iff_iff]
 simp
theorem nS {i j:Bool} :decide (V.bl i=V.bl j)=(i == j):=by
 rw[Bool.eq_iff_iff]
 simp
theorem ly {i j:Str} :decide (V.str i=V.str j)=(i == j):=by
 rw[Bool.eq_iff_iff]
 simp
theorem lA {i j:Array UInt8} :decide (V.byt i=V.byt j)=(i.toList == j.toList):=by
 rw[Bool.eq_iff_iff]
 cases i
 cases j
 simp
section
variable {X:Cx} {a b c:Expr} {ta tb tc:TE} {pos:Pos}
theorem aK {pins:List (Addr×Obj)} {σ:St} {H:Hp} {s:Shared} {Q:VK} {k k':Bool} (I:Inv X pins σ H s) (q:Q (.bl k) H) (e:k=k'):EP X pins σ Q (.bool k') s:=by
 subst e
 exact⟨.bl k,H,I,rfl,q⟩
theorem cm:OpR X (compareOp .Eq) dR:=by
 intro pins s σ H x y v u Q I rx ry h
 obtain⟨hs,q⟩:=h
 cases x with
 | non =>
  cases rx
  cases y with
  | non=>cases ry;exact PySem.EqNone.eq_none_none (aK I q (by simp))
  | bl j=>cases ry;exact PySem.EqNone.eq_none_bool (aK I q (by simp))
  | int j=>obtain⟨t',rfl⟩:=ry;exact PySem.EqNone.eq_none_int (aK I q (by simp))
  | str j=>obtain⟨t',rfl⟩:=ry;exact PySem.EqNone.eq_none_str (aK I q (by simp))
  | _=>exact absurd (show false=true from hs) Bool.false_ne_true
 | bl i =>
  cases rx
  cases y with
  | non=>cases ry;exact PySem.EqNone.eq_bool_none (aK I q (by simp))
  | bl j=>cases ry;exact eq_bool (aK I q nS)
  | str j=>obtain⟨t',rfl⟩:=ry;exact PySem.EqMixed.eq_bool_str (aK I q (by simp))
  | _=>exact absurd (show false=true from hs) Bool.false_ne_true
 | int i =>
  obtain⟨t,rfl⟩:=rx
  cases y with
  | non=>cases ry;exact PySem.EqNone.eq_int_none (aK I q (by simp))
  | int j=>obtain⟨t',rfl⟩:=ry;exact eq_int (aK I q lx)
  | str j=>obtain⟨t',rfl⟩:=ry;exact PySem.EqMixed.eq_int_str (aK I q (by simp))
  | _=>exact absurd (show false=true from hs) Bool.false_ne_true
 | str i =>
  obtain⟨t,rfl⟩:=rx
  cases y with
  | non=>cases ry;exact PySem.EqNone.eq_str_none (aK I q (by simp))
  | bl j=>cases ry;exact PySem.EqMixed.eq_str_bool (aK I q (by simp))
  | int j=>obtain⟨t',rfl⟩:=ry;exact PySem.EqMixed.eq_str_int (aK I q (by simp))
  | str j=>obtain⟨t',rfl⟩:=ry;exact eq_str (aK I q ly)
  | _=>exact absurd (show false=true from hs) Bool.false_ne_true
 | byt i =>
  obtain⟨t,rfl⟩:=rx
  cases y with
  | byt j=>obtain⟨t',rfl⟩:=ry;exact PySem.W.eq_bytes (aK I q lA)
  | _=>exact absurd (show false=true from hs) Bool.false_ne_true
 | _=>cases y <;> exact absurd (show false=true from hs) Bool.false_ne_true
theorem gC:OpR X (compareOp .NotEq) dU:=by
 intro pins s σ H x y v u Q I rx ry h
 obtain⟨hs,q⟩:=h
 cases x with
 | non =>
  cases rx
  cases y with
  | non=>cases ry;exact PySem.EqNone.ne_none_none (aK I q (by simp))
  | bl j=>cases ry;exact PySem.EqNone.ne_none_bool (aK I q (by simp))
  | int j=>obtain⟨t',rfl⟩:=ry;exact PySem.EqNone.ne_none_int (aK I q (by simp))
  | str j=>obtain⟨t',rfl⟩:=ry;exact PySem.EqNone.ne_none_str (aK I q (by simp))
  | _=>exact absurd (show false=true from hs) Bool.false_ne_true
 | bl i =>
  cases rx
  cases y with
  | non=>cases ry;exact PySem.EqNone.ne_bool_none (aK I q (by simp))
  | bl j=>cases ry;exact ne_bool (aK I q (congrArg not nS))
  | str j=>obtain⟨t',rfl⟩:=ry;exact PySem.EqMixed.ne_bool_str (aK I q (by simp))
  | _=>exact absurd (show false=true from hs) Bool.false_ne_true
 | int i =>
  obtain⟨t,rfl⟩:=rx
  cases y with
  | non=>cases ry;exact PySem.EqNone.ne_int_none (aK I q (by simp))
  | int j=>obtain⟨t',rfl⟩:=ry;exact ne_int (aK I q (congrArg not lx))
  | str j=>obtain⟨t',rfl⟩:=ry;exact PySem.EqMixed.ne_int_str (aK I q (by simp))
  | _=>exact absurd (show false=true from hs) Bool.false_ne_true
 | str i =>
  obtain⟨t,rfl⟩:=rx
  cases y with
  | non=>cases ry;exact PySem.EqNone.ne_str_none (aK I q (by simp))
  | bl j=>cases ry;exact PySem.EqMixed.ne_str_bool (aK I q (by simp))
  | int j=>obtain⟨t',rfl⟩:=ry;exact PySem.EqMixed.ne_str_int (aK I q (by simp))
  | str j=>obtain⟨t',rfl⟩:=ry;exact ne_str (aK I q (congrArg not ly))
  | _=>exact absurd (show false=true from hs) Bool.false_ne_true
 | byt i =>
  obtain⟨t,rfl⟩:=rx
  cases y with
  | byt j=>obtain⟨t',rfl⟩:=ry;exact PySem.W.ne_bytes (aK I q (congrArg not lA))
  | _=>exact absurd (show false=true from hs) Bool.false_ne_true
 | _=>cases y <;> exact absurd (show false=true from hs) Bool.false_ne_true
theorem nU:OpR X (compareOp .Lt) (de fun i j=>.bl (decide (i< j))):=qm fun _ _ _ _ _ _ _ q=>lt_int q
theorem rY:OpR X (compareOp .LtE) (de fun i j=>.bl (decide (i≤j))):=qm fun _ _ _ _ _ _ _ q=>le_int q
theorem nV:OpR X (compareOp .Gt) (de fun i j=>.bl (decide (j< i))):=qm fun _ _ _ _ _ _ _ q=>gt_int q
theorem nW:OpR X (compareOp .GtE) (de fun i j=>.bl (decide (j≤i))):=qm fun _ _ _ _ _ _ _ q=>ge_int q
theorem op_isN:OpR X (compareOp .Is) (fun x y H Q=>y=.non∧Q (.bl (decide (x=.non))) H):=by
 intro pins s σ H x y v u Q I rx ry h
 obtain⟨rfl,q⟩:=h
 cases ry
 refine is_none_gen (aK I q ?_)
 cases x <;> first
  | (cases rx;rfl)
  | (obtain⟨t,rfl⟩:=rx;rfl)
theorem OpR.or {f:Value→Value→Sem Value} {r r':R2} (h:OpR X f r) (h':OpR X f r'):OpR X f (fun x y H Q=>r x y H Q∨r' x y H Q):=by
 intro pins s σ H x y v u Q I rx ry q
 rcases q with q | q
 ·exact h pins s σ H x y v u Q I rx ry q
 ·exact h' pins s σ H x y v u Q I rx ry q
theorem aD (b:Expr) {op:CmpOp} (h:op≠.In:=by decide) (h2:op≠.NotIn:=by decide):behindInMarks op b=false:=by
 have e1:(op == CmpOp.In)=false:=by cases op <;> first | rfl | exact absurd rfl h
 have e2:(op == CmpOp.NotIn)=false:=by cases op <;> first | rfl | exact absurd rfl h2
 cases b <;> simp[behindInMarks,e1,e2]
theorem cy {op:CmpOp} {r:R2} (ho:OpR X (compareOp op) r) (ha:PE X a ta) (hb:PE X b tb) (hm:behindInMarks op b=false):PE X (.Compare a [op] [b] pos) (cv r ta tb):=by
 intro pins s σ H Q I h
 exact wpAny_Compare1 (sF ha hb I h fun v u s2 x y H2 I2 rx ry q=>ho pins s2 σ H2 x y v u Q I2 rx ry q) hm
def bb (t:TE):TT:=fun σ H Q=>t σ H fun x H'=>∃k,x=.bl k∧Q k H'
theorem aA {op:CmpOp} {r:R2} (ho:OpR X (compareOp op) r) (ha:PE X a ta) (hb:PE X b tb) (hm:behindInMarks op b=false):PT X (.Compare a [op] [b] pos) (bb (cv r ta tb)):=by
 intro pins s σ H Q I h
 refine wpAny_isTrue_Compare1 (bF (ha pins s σ H _ I h) fun v s1 ⟨x,H1,I1,r1,q1⟩=>bF (hb pins s1 σ H1 _ I1 q1) fun u s2 ⟨y,H2,I2,r2,q2⟩=>
  bF (ho pins s2 σ H2 x y v u _ I2 r1 r2 q2) fun c s3 ⟨z,H3,I3,r3,k,e,q3⟩=>?_) hm
 subst e
 cases r3
 exact wpAny_truthy_bool ⟨H3,I3,q3⟩
theorem gD:(sizeLine:Nat)< 2^63:=by rw[sizeLine_eq];decide
theorem bH:OpR X (binaryOp .Add) (fun x y H Q=>∃i j,x=.str i∧y=.str j∧i.length+j.length≤sizeLine∧Q (.str (i++j)) H):=by
 intro pins s σ H x y v u Q I rx ry h
 obtain⟨i,j,rfl,rfl,hz,q⟩:=h
 obtain⟨t,rfl⟩:=rx
 obtain⟨t',rfl⟩:=ry
 exact add_str (fun t' tk=>⟨.str (i++j),H,I.tok _,⟨_,rfl⟩,q⟩) hz
theorem eA {x:V} {us:List Value} (r:Vals [x] us):∃u,us=[u]∧RelV x u:=by
 cases r with
 | cons r1 r2=>cases r2;exact⟨_,rfl,r1⟩
theorem nX {x y:V} {us:List Value} (r:Vals [x,y] us):∃u w',us=[u,w']∧RelV x u∧RelV y w':=by
 cases r with
 | cons r1 r2 =>
  cases r2 with
  | cons r3 r4=>cases r4;exact⟨_,_,rfl,r1,r3⟩
theorem fj:cQ X (.builtin "abs") (fun xs H Q=>∃i,xs=[.int i]∧Q (.int (if i< 0 then -i else i)) H):=by
 intro pins s σ H xs us Q I r h
 obtain⟨i,rfl,q⟩:=h
 obtain⟨u,rfl,t,rfl⟩:=eA r
 exact call_abs_int fun u tk=>⟨.int (if i< 0 then -i else i),H,I.tok _,⟨_,rfl⟩,q⟩
theorem mG (hc:X.calm=true):cQ X (.builtin "max") (fun xs H Q=>∃i j,xs=[.int i,.int j]∧Q (.int (if j> i then j else i)) H):=by
 intro pins s σ H xs us Q I r h
 obtain⟨i,j,rfl,q⟩:=h
 obtain⟨u,w',rfl,⟨t,rfl⟩,⟨t',rfl⟩⟩:=nX r
 refine max_two_ints (I.ok.hd hc) fun h' tk k=>⟨_,H,I.kept k,?_,q⟩
 by_cases hj:j> i
 ·rw[if_pos hj,if_pos hj];exact⟨_,rfl⟩
 ·rw[if_neg hj,if_neg hj];exact⟨_,rfl⟩
theorem ij:cQ X (.type "int") (fun xs H Q=>(∃i,xs=[.int i]∧Q (.int i) H)∨∃k,xs=[.bl k]∧Q (.int (if k then 1 else 0)) H):=by
 intro pins s σ H xs us Q I r h
 rcases h with⟨i,rfl,q⟩ | ⟨k,rfl,q⟩
 ·obtain⟨u,rfl,t,rfl⟩:=eA r
  exact call_int_int ⟨.int i,H,I,⟨_,rfl⟩,q⟩
 ·obtain⟨u,rfl,r1⟩:=eA r
  cases r1
  exact call_int_bool ⟨.int (if k then 1 else 0),H,I.tok _,⟨_,rfl⟩,q⟩
def kI (K:PySem.W.Frag) (x:V) (H:Hp) (n:Nat):Prop:=
 match x with
 | .str y=>y.length≤sizeLine∧n=y.length
 | .byt y=>y.size≤sizeLine∧n=y.size
 | .ref p=>(∃xs,SqL K H p xs∧n=xs.length)∨∃xs,SqT K H p xs∧n=xs.length
 | _=>False
theorem nY:cQ X (.builtin "len") (fun xs H Q=>∃x n,xs=[x]∧kI X.K x H n∧Q (.int n) H):=by
 intro pins s σ H xs us Q I r h
 obtain⟨x,n,rfl,e,q⟩:=h
 obtain⟨u,rfl,rx⟩:=eA r
 have hl:=gD
 have hs:sizeLine=16777216:=sizeLine_eq
 cases x with
 | str y =>
  obtain⟨t,rfl⟩:=rx
  obtain⟨hy,e'⟩:y.length≤sizeLine∧n=y.length:=e
  subst e'
  exact len_str (by omega) ⟨.int _,H,I.tok _,⟨_,rfl⟩,q⟩
 | byt y =>
  obtain⟨t,rfl⟩:=rx
  obtain⟨hy,e'⟩:y.size≤sizeLine∧n=y.size:=e
  subst e'
  exact PySem.W.len_bytes (by omega) ⟨.int _,H,I.tok _,⟨_,rfl⟩,q⟩
 | ref p =>
  cases rx
  have e':(∃xs,SqL X.K H p xs∧n=xs.length)∨∃xs,SqT X.K H p xs∧n=xs.length:=e
  rcases e' with⟨xs,hx,e'⟩ | ⟨xs,hx,e'⟩
  ·subst e'
   obtain⟨its,r',pl,hz⟩:=I.list hx
   have hlen:=r'.length
   exact Calls.call_len_list pl.isList (by simp only[List.size_toArray];omega) ⟨.int xs.length,H,I.tok _,⟨_,by simp only[List.size_toArray];rw[hlen]⟩,q⟩
  ·subst e'
   obtain⟨its,r',pl,hz⟩:=I.tuple hx
   have hlen:=r'.length
   exact len_tuple pl (by simp only[List.size_toArray];omega) ⟨.int xs.length,H,I.tok _,⟨_,by simp only[List.size_toArray];rw[hlen]⟩,q⟩
 | _=>exact(show False from e).elim
end
end L2
namespace L2
open PySem PySem.Spec PyProof.Rows
structure ObjM (h:Heap) (x dx C:Addr) (mA:Str→Option Value):Prop where
 obj:h.get? x=some (PySem.W.instObj C dx)
 ns:h.Ns1 dx mA
 ne:dx≠x
theorem mH {h:Heap} {dx:Addr} {mA:Str→Option Value} (n:h.Ns1 dx mA):∃od,h.get? dx=some od∧∀name,PySem.W.lookIn name od=some (mA name):=by
 obtain⟨o,es,ep,ho,hd,hk,_,hm⟩:=n
 refine⟨o,ho,fun name=>?_⟩
 have e:=hm name
 unfold nsFind findBy at e
 rw[←Array.find?_toList]at e
 unfold PySem.W.lookIn
 rw[hd]
 dsimp only
 split
 ·rename_i y q
  rw[q]at e
  exact congrArg some e
 ·rename_i q
  rw[q]at e
  have a:es.toList.any (·.refKey)=false:=by
   rw[List.any_eq_false]
   intro y hy
   obtain⟨z,t,hkey⟩:=hk y (Array.mem_toList_iff.mp hy)
   simp[DictEntry.refKey,hkey]
  have a':¬es.toList.any (·.refKey)=true:=by rw[a];exact Bool.false_ne_true
  rw[if_neg a']
  exact congrArg some e
theorem ObjM.look {h:Heap} {x dx C:Addr} {mA:Str→Option Value} (I:ObjM h x dx C mA):∃od,PySem.W.InstAt h x (PySem.W.instObj C dx) C (some od)∧∀name,PySem.W.lookIn name od=some (mA name):=
 let ⟨od,ho,hl⟩:=mH I.ns
 ⟨od,⟨I.obj,rfl,rfl,ho⟩,hl⟩
theorem RelO.some_of {v:V} {o:Option Value} (r:RelO (some v) o):∃u,o=some u∧RelV v u:=by
 cases o with
 | none=>exact(show False from r).elim
 | some u=>exact⟨u,rfl,r⟩
section
variable {P:Program} {w:World} {H H':Hp} {h h':Heap} {a C dx:Addr} {fs fs':List (Str×V)}
theorem qo (hok:HOk P w H h) (e:H a=some (.ins C dx fs)):∃mA,ObjM h a dx C mA∧(∀f,RelO (fs.lookup f) (mA f))∧PySem.Within mA (fs.map (·.1))∧fs.length≤1000∧H dx=some (.own a):=by
 obtain⟨d,z,ne,ob,mA,n,r,q⟩:=(show ObjOk P w H h a (.ins C dx fs)from hok a _ e)
 exact⟨mA,⟨ob,n,ne⟩,r,q,z,d⟩
end
structure Cls (K:PySem.W.Frag) (C:Addr):Prop where
 pg:PySem.W.plainGet K C Str.empty=true
 hd:PySem.W.hasDictIn K C=true
 po:PySem.W.plainOver K C=true
 sa:PySem.W.findIn K (.ref C) "__setattr__" =some (some (.builtin "object.__setattr__"))
theorem Cls.get {K:PySem.W.Frag} {C:Addr} (c:Cls K C) (f:Str):PySem.W.plainGet K C f=true:=c.pg
section
variable {X:Cx} {pins:List (Addr×Obj)} {σ:St} {H:Hp} {s:Shared} {A:Around} {E:Value→Shared→Prop} {Q:Value→Shared→Prop} {c:Value} {b:Bool}
inductive TyOf (K:PySem.W.Frag) (H:Hp):V→Value→Prop where
 | non:TyOf K H .non (.type "NoneType")
 | bl (x:Bool):TyOf K H (.bl x) (.type "bool")
 | int (i:Int):TyOf K H (.int i) (.type "int")
 | str (x:Str):TyOf K H (.str x) (.type "str")
 | flt (x:UInt64):TyOf K H (.flt x) (.type "float")
 | lst {a:Addr} {xs:List V} (e:H a=some (.lst xs)):TyOf K H (.ref a) (.type "list")
 | frz {a:Addr} {o:Obj} {xs:List V} (e:H a=some (.frz o (.lst xs))):TyOf K H (.ref a) (.type "list")
 | tup {a:Addr} {xs:List V} (e:SqT K H a xs):TyOf K H (.ref a) (.type "tuple")
 | dK {a:Addr} {kvs:List (Key×V)} (e:H a=some (.dK kvs)):TyOf K H (.ref a) (.type "dict")
 | dT {a:Addr} {kvs:List (List Key×V)} (e:H a=some (.dT kvs)):TyOf K H (.ref a) (.type "dict")
 | ins {a C dx:Addr} {fs:List (Str×V)} (e:H a=some (.ins C dx fs)) (cl:Cls K C) (ha:PySem.W.findIn K (.ref C) "__class__" =some (some (.builtin "object.__class__")))
   (hn:PySem.W.specialIn K (.builtin "object.__class__") "__get__" =some (some (.builtin "getset_descriptor.__get__"))) (htk:PySem.W.takesIn K (.builtin "object.__class__")=some true)
   (hm:PySem.W.mroIn K C (.type "object")=some true):TyOf K H (.ref a) (.ref C)
theorem mI {x:V} {u t:Value} (I:Inv X pins σ H s) (rx:RelV x u) (ty:TyOf X.K H x t) (e:PySem.W.kitOne X.K t c=some b) (h:∀tk,Q (.bool b) {s with toks:=tk}):
  wpAny (model X.prog X.w) A (call (.builtin "isinstance") [u,c]) Q E s:=by
 cases ty with
 | non=>cases (show u=Value.none from rx);exact PySem.W.kia_one PySem.W.kitx_none I.kIn True.intro e (fun z=>nomatch z) h
 | bl y=>cases (show u=Value.bool y from rx);exact PySem.W.kia_one PySem.W.kitx_bool I.kIn True.intro e (fun z=>nomatch z) h
 | int i=>obtain⟨t,q⟩:=(show ∃t,u=Value.int i t from rx);cases q;exact PySem.W.kia_one PySem.W.kitx_int I.kIn True.intro e (fun z=>nomatch z) h
 | str y=>obtain⟨t,q⟩:=(show ∃t,u=Value.str y t from rx);cases q;exact PySem.W.kia_one PySem.W.kitx_str I.kIn True.intro e (fun z=>nomatch z) h
 | flt y=>obtain⟨t,q⟩:=(show ∃t,u=Value.float y t from rx);cases q;exact PySem.W.kia_one PySem.W.kitx_float I.kIn True.intro e (fun z=>nomatch z) h
 | @lst a xs ea =>
  cases (show u=Value.ref a from rx)
  obtain⟨_,_,n,_,h1⟩:=(show ObjOk X.prog X.w H s.heap a (.lst xs)from I.hok a _ ea)
  exact PySem.W.kia_one PySem.W.kitx_list I.kIn ⟨_,h1,rfl⟩ e (fun z=>nomatch z) h
 | @frz a ob xs ea =>
  cases (show u=Value.ref a from rx)
  obtain⟨_,_,_,n,_,h1⟩:=(show ObjOk X.prog X.w H s.heap a (.frz ob (.lst xs))from I.hok a _ ea)
  exact PySem.W.kia_one PySem.W.kitx_list I.kIn ⟨_,h1,rfl⟩ e (fun z=>nomatch z) h
 | @tup a xs ea =>
  cases (show u=Value.ref a from rx)
  obtain⟨_,_,p,_⟩:=I.tuple ea
  obtain⟨o,h1,h2,_⟩:=p
  exact PySem.W.kia_one PySem.W.kitx_tuple I.kIn ⟨o,h1,h2⟩ e (fun z=>nomatch z) h
 | @dK a kvs ea =>
  cases (show u=Value.ref a from rx)
  obtain⟨_,_,vs,_,p⟩:=(show ObjOk X.prog X.w H s.heap a (.dK kvs)from I.hok a _ ea)
  obtain⟨o,es,ep,h1,h2,_⟩:=p
  exact PySem.W.kia_one PySem.W.kitx_dict I.kIn ⟨o,h1,h2.1⟩ e (fun z=>nomatch z) h
 | @dT a kvs ea =>
  cases (show u=Value.ref a from rx)
  obtain⟨_,_,xs,_,o,es,ep,h1,h2,_⟩:=(show ObjOk X.prog X.w H s.heap a (.dT kvs)from I.hok a _ ea)
  exact PySem.W.kia_one PySem.W.kitx_dict I.kIn ⟨o,h1,h2.1⟩ e (fun z=>nomatch z) h
 | @ins a C dx fs ea cl ha hn htk hm =>
  cases (show u=Value.ref a from rx)
  obtain⟨mA,O,_⟩:=qo I.hok ea
  obtain⟨od,J,_⟩:=O.look
  exact PySem.W.kia_one (PySem.W.kitx_own (cl.get _) cl.hd ha hn htk hm) I.kIn J e (fun z=>nomatch z) h
end
end L2
namespace L2
open PySem PySem.Spec PyProof.Rows
structure Room (k:Nat) (A:Around):Prop where
 hd:A.handled=none
 dp:A.depth+3*k+5< recursionLimit
 un:A.units+16*k+200< cLine
theorem Room.mono {j k:Nat} {A:Around} (r:Room k A) (h:j≤k):Room j A:=⟨r.hd,by have:=r.dp;omega,by have:=r.un;omega⟩
theorem Room.deeper {k:Nat} {A:Around} (r:Room (k+1) A) (env:Env):Room k (A.deeper env):=
 ⟨r.hd,by have:=r.dp;show A.depth+1+3*k+5< _;omega,by have:=r.un;show A.units+3+16*k+200< _;omega⟩
theorem Room.depth {k:Nat} {A:Around} (r:Room k A):A.depth< recursionLimit:=by have:=r.dp;omega
theorem Room.units0 {k:Nat} {A:Around} (r:Room k A):A.units< cLine:=by have:=r.un;omega
def aR:TA:=fun _ H Q=>Q [] H
def ai (ta:TE) (tr:TA):TA:=fun σ H Q=>ta σ H fun x H1=>tr σ H1 fun xs H2=>Q (x::xs) H2
section
variable {X:Cx} {e:Expr} {es:List Expr} {te:TE} {t:TA} {pos:Pos}
theorem ac:PA X [] aR:=fun _ _ _ _ H Q I h=>Calls.spliced_nil ⟨[],H,I,.nil,h⟩
theorem a0 (ha:PE X e te) (hr:PA X es t) (hs:starEach (e::es) X.env=(false,eval e X.env)::starEach es X.env:=by rfl):PA X (e::es) (ai te t):=by
 intro pos pins s σ H Q I h
 rw[hs]
 show wpAny _ _ (spliced ((false,eval e X.env)::backTo pos (starEach es X.env))) _ _ s
 refine Calls.spliced_cons (bF (ha pins s σ H _ I h) fun u s1 ⟨x,H1,I1,r1,q1⟩=>?_)
 exact bF (hr pos pins s1 σ H1 _ I1 q1) fun us s2 ⟨xs,H2,I2,r2,q2⟩=>⟨x::xs,H2,I2,.cons r1 r2,q2⟩
def bO (t:TA):TE:=fun σ H Q=>t σ H fun xs H1=>xs.length≤sizeLine∧∀p,H1 p=none→Q (.ref p) (cr H1 p (.tup xs))
def bI (t:TA):TE:=fun σ H Q=>t σ H fun xs H1=>xs.length≤sizeLine∧∀p,H1 p=none→Q (.ref p) (cr H1 p (.lst xs))
theorem cF {x1} (h:PA X es t):PE X (.Tuple es x1 pos) (bO t):=by
 intro pins s σ H Q I hq
 refine wpAny_Tuple_spliced (bF (h pos pins s σ H _ I hq) fun us s1 ⟨xs,H1,I1,r,z,q⟩=>⟨by rw[←r.length];exact z,?_⟩)
 have hf:H1 s1.heap.objs.size=none:=I1.hok.fresh (Nat.le_refl _)
 refine⟨.ref s1.heap.objs.size,cr H1 s1.heap.objs.size (.tup xs),I1.laid (t':=s1.toks) (fun b u e=>Heap.get?_push_of_some _ e) (Nat.le_refl _) ?_,rfl,q _ hf⟩
 exact⟨z,us,r,⟨_,Heap.get?_push_size _ rfl,⟨rfl,rfl⟩,_,rfl⟩⟩
theorem cb (h:PA X es t):PE X (.List es pos) (bI t):=by
 intro pins s σ H Q I hq
 refine wpAny_List_spliced (bF (h pos pins s σ H _ I hq) fun us s1 ⟨xs,H1,I1,r,z,q⟩=>⟨by rw[←r.length];exact z,?_⟩)
 have hf:H1 s1.heap.objs.size=none:=I1.hok.fresh (Nat.le_refl _)
 refine⟨.ref s1.heap.objs.size,cr H1 s1.heap.objs.size (.lst xs),I1.laid (t':=s1.toks) (fun b u e=>Heap.get?_push_of_some _ e) (Nat.le_refl _) ?_,rfl,q _ hf⟩
 exact⟨z,us,0,r,Heap.get?_push_size _ rfl⟩
end
abbrev Sp:=List V→Hp→VK→XK→Prop
abbrev CXT:=List Env→Hp→Shared→XK→Value→Shared→Prop
structure Env0 (P:Program) (w:World) (K:PySem.W.Frag) (mg:Str→Option Value) (base:Heap) (A:Around) (outer:List Env) (s:Shared) (H:Hp):Prop where
 frames:A.frames=some outer
 mod:Mod K mg base
 bs:∀b o,base.get? b=some o→s.heap.get? b=some o∧H b=none
 bsz:base.objs.size≤s.heap.objs.size
 funs:s.heap.FunFrames base outer
 frf:∀b∈frs outer,H b=none
 hok:HOk P w H s.heap
 bare:AllBare s.gens
def CE (outer:List Env) (P:Program) (w:World) (H:Hp) (s:Shared) (Q:VK) (u:Value) (s':Shared):Prop:=
 ∃v H',s'.os=s.os∧AllBare s'.gens∧Un (frs outer) [] H H' s.heap s'.heap∧HOk P w H' s'.heap∧RelV v u∧Q v H'
def CR (CX:CXT) (outer:List Env) (P:Program) (w:World) (H:Hp) (s:Shared) (Q:VK) (E:XK) (r:Result) (s':Shared):Prop:=
 match r with
 | .ok (.ret u)=>CE outer P w H s Q u s'
 | .ok _=>False
 | .error e=>CX outer H s E e s'
structure FnOk (P:Program) (w:World) (K:PySem.W.Frag) (mg:Str→Option Value) (base:Heap) (CX:CXT) (k:Nat) (f:Addr) (fd:FuncData) (ps:List Str) (sp:Sp):Prop where
 len:∀vs H Q E,sp vs H Q E→vs.length=ps.length
 run:∀(A:Around) (outer:List Env) (s:Shared) (H:Hp) (args:Args) (us:List Value) (vs:List V) (Q:VK) (E:XK),Room k A→Env0 P w K mg base A outer s H→BindsTo s fd args (ps.zip us)→Vals vs us→sp vs H Q E→
  codeAny (model P w) A (.call (.ref f) args) (CR CX outer P w H s Q E) s
theorem FnOk.imp {P:Program} {w:World} {K:PySem.W.Frag} {mg:Str→Option Value} {base:Heap} {CX:CXT} {k:Nat} {f:Addr} {fd:FuncData} {ps:List Str} {sp sp':Sp} (F:FnOk P w K mg base CX k f fd ps sp)
  (h:∀vs H Q E,sp' vs H Q E→sp vs H Q E):FnOk P w K mg base CX k f fd ps sp':=
 ⟨fun vs H Q E q=>F.len vs H Q E (h _ _ _ _ q),fun A outer s H args us vs Q E hr he hb hv hs=>F.run A outer s H args us vs Q E hr he hb hv (h _ _ _ _ hs)⟩
section
variable {X:Cx} {pins:List (Addr×Obj)} {σ:St} {H:Hp} {s s':Shared}
theorem Inv.env0 (I:Inv X pins σ H s):Env0 X.prog X.w X.K X.mg X.base X.A X.stack s H:=
 ⟨I.ok.frames,I.ok.mod,I.bs,Nat.le_trans I.ok.bsz I.sz,I.stack,I.stkFree,I.hok,I.bare⟩
theorem Inv.after {Q:VK} {u:Value} (I:Inv X pins σ H s) (h:CE X.stack X.prog X.w H s Q u s'):EP X pins σ Q u s':=by
 obtain⟨v,H',os,bare,un,hok,r,q⟩:=h
 obtain⟨hh,g,d,t,os'⟩:=s'
 obtain rfl:os'=s.os:=os
 exact⟨v,H',I.call (h':=hh) (g':=g) (d':=d) (t':=t) (ch:=[]) un hok bare (fun b z=>absurd z (by simp)),r,q⟩
end
def aP (sp:Sp) (dvs:List V) (E:XK) (t:TA):TE:=fun σ H Q=>t σ H fun vs H1=>sp (vs++dvs) H1 Q E
def Binds (K:PySem.W.Frag) (fd:FuncData) (ps:List Str) (ds:List Value):Prop:=
 ∀(s:Shared) (us:List Value),K.In s.heap→(us++ds).length=ps.length→BindsTo s fd ⟨us,[]⟩ (ps.zip (us++ds))
theorem Binds.all {K:PySem.W.Frag} {fd:FuncData} {ps:List Str} (h:∀us:List Value,us.length=ps.length→bindArgs fd ⟨us,[]⟩=pure (ps.zip us)):Binds K fd ps []:=fun s us _ hl=>by
 rw[List.append_nil]at hl ⊢
 exact .of_eq (h us hl)
def kJ (CX:CXT) (X:Cx) (E:XK):Prop:=∀(pins:List (Addr×Obj)) (σ:St) (H:Hp) (s:Shared) (e:Value) (s':Shared),Inv X pins σ H s→CX X.stack H s E e s'→X.xe e s'
section
variable {X:Cx} {CX:CXT} {k:Nat} {f C:Addr} {fd:FuncData} {ps:List Str} {sp:Sp} {dvs:List V} {ds:List Value} {E:XK} {x m:Str} {p pos apos:Pos} {e o:Expr} {es:List Expr} {ta:TE} {t:TA}
theorem sH {pins:List (Addr×Obj)} {σ:St} {H:Hp} {s:Shared} {Q:VK} {us:List Value} {vs:List V} (F:FnOk X.prog X.w X.K X.mg X.base CX k f fd ps sp) (hr:Room k X.A) (hb:Binds X.K fd ps ds) (hd:Vals dvs ds) (hx:kJ CX X E)
  (I:Inv X pins σ H s) (r:Vals vs us) (h:sp (vs++dvs) H Q E):wpAny (model X.prog X.w) X.A (call (.ref f) us) (EP X pins σ Q) X.xe s:=by
 have r2:Vals (vs++dvs) (us++ds):=r.append hd
 have hl:(us++ds).length=ps.length:=by rw[←r2.length];exact F.len _ _ _ _ h
 refine wpAny_call (codeAny_mono (F.run X.A X.stack s H ⟨us,[]⟩ (us++ds) (vs++dvs) Q E hr I.env0 (hb s us I.kIn hl) r2 h) fun r s' hq=>?_)
 cases r with
 | error e=>exact hx pins σ H s e s' I hq
 | ok fl =>
  cases fl with
  | ret u=>exact I.after hq
  | next=>exact False.elim hq
  | brk=>exact False.elim hq
  | cont=>exact False.elim hq
theorem qp (F:FnOk X.prog X.w X.K X.mg X.base CX k f fd ps sp) (hr:Room k X.A) (hg:Gl X x) (hm:X.mg x=some (.ref f)) (hk:PySem.W.keepIn X.K (.ref f)=true) (hb:Binds X.K fd ps ds) (hd:Vals dvs ds) (hx:kJ CX X E)
  (ha:PA X (e::es) t) (hdb:(x == ("__debug__" :Str))=false:=by decide) (he:starEach (e::es) X.env=(false,eval e X.env)::starEach es X.env:=by rfl) (hpl:(backTo pos (starEach es X.env)).any (·.1)=false:=by rfl):
  PE X (.Call (.Name x p) (e::es) [] pos) (aP sp dvs E t):=by
 intro pins s σ H Q I h
 refine wpAny_Call_Name_kw (lv I hg hm ?_ hdb)
 refine PySem.W.callWith_K (h₀:=X.base) I.ok.mod.kin hk (bF (ha pos pins s σ H _ I h) fun us s1 ⟨vs,H1,I1,r,q⟩=>⟨I1.kIn,?_⟩) he hpl
 exact sH F hr hb hd hx I1 r q
end
structure FnScope (N P:List Str) (sc:Scope):Prop where
 kind:sc.kind=.function
 co:sc.isCoroutine=false
 gen:sc.isGenerator=false
 nd:N.Nodup
 pre:N.take P.length=P
 par:∀x∈P,sc.names.lookup x=some .local∨sc.names.lookup x=some .cell
 nofree:∀y∈sc.names,y.2≠.free
theorem ik {kindOf:Str→Option NameKind} {x:Str} :∀{binds:List (Str×Value)} {m:Str→Option Value},(∀v,(x,v)∉binds)→bindL kindOf binds m x=m x
 | [],_,_=>rfl
 | (n, v) :: r, m, h => by
  unfold bindL
  rw[ik fun w hw=>h w (List.mem_cons_of_mem _ hw)]
  split
  ·have:x≠n:=by rintro rfl;exact h v List.mem_cons_self
   simp[this]
  ·rfl
theorem im {kindOf:Str→Option NameKind} {x:Str} :∀{binds:List (Str×Value)} {m:Str→Option Value},(∀v,(x,v)∉binds)→bindC kindOf binds m x=m x
 | [],_,_=>rfl
 | (n, v) :: r, m, h => by
  unfold bindC
  rw[im fun w hw=>h w (List.mem_cons_of_mem _ hw)]
  split
  ·rfl
  ·have:x≠n:=by rintro rfl;exact h v List.mem_cons_self
   simp[this]
theorem io {kindOf:Str→Option NameKind} {x:Str} {v:Value} :∀{P:List Str} {vs:List Value} {i:Nat} {m:Str→Option Value},P.Nodup→P[i]? =some x→vs[i]? =some v→kindOf x=some .local→
  bindL kindOf (P.zip vs) m x=some v
 | [],_,_,_,_,h,_,_=>by simp at h
 | _::_,[],_,_,_,_,h,_=>by simp at h
 | p :: P, w :: vs, 0, m, nd, h1, h2, hk => by
  simp at h1 h2;subst h1;subst h2
  show bindL kindOf ((p,w)::P.zip vs) m p=_
  unfold bindL
  rw[ik fun v hv=>(List.nodup_cons.mp nd).1 (List.of_mem_zip hv).1,if_pos hk]
  simp
 | p :: P, w :: vs, i + 1, m, nd, h1, h2, hk => by
  show bindL kindOf ((p,w)::P.zip vs) m x=_
  unfold bindL
  exact io (i:=i) (List.nodup_cons.mp nd).2 (by simpa using h1) (by simpa using h2) hk
theorem ip {kindOf:Str→Option NameKind} {x:Str} {v:Value} :∀{P:List Str} {vs:List Value} {i:Nat} {m:Str→Option Value},P.Nodup→P[i]? =some x→vs[i]? =some v→kindOf x≠some .local→
  bindC kindOf (P.zip vs) m x=some v
 | [],_,_,_,_,h,_,_=>by simp at h
 | _::_,[],_,_,_,_,h,_=>by simp at h
 | p :: P, w :: vs, 0, m, nd, h1, h2, hk => by
  simp at h1 h2;subst h1;subst h2
  show bindC kindOf ((p,w)::P.zip vs) m p=_
  unfold bindC
  rw[im fun v hv=>(List.nodup_cons.mp nd).1 (List.of_mem_zip hv).1,if_neg hk]
  simp
 | p :: P, w :: vs, i + 1, m, nd, h1, h2, hk => by
  show bindC kindOf ((p,w)::P.zip vs) m x=_
  unfold bindC
  exact ip (i:=i) (List.nodup_cons.mp nd).2 (by simpa using h1) (by simpa using h2) hk
def start (N:List Str) (vs:List V):St:=vs.map some++List.replicate (N.length- vs.length) none
def mJ (CX:CXT) (P:Program) (w:World) (K:PySem.W.Frag) (mg:Str→Option Value) (base:Heap) (N:List Str) (qual:Str) (scope:Scope) (f:Addr) (cd:Value) (A:Around) (outer:List Env) (s:Shared) (H:Hp) (E:XK):Cx where
 prog:=P
 w:=w
 K:=K
 mg:=mg
 base:=base
 A:=A.deeper (envOfC qual scope s.heap.objs.size f cd)
 N:=N
 s₀:=s
 H₀:=H
 env:=envOfC qual scope s.heap.objs.size f cd
 outer:=outer
 stack:=envOfC qual scope s.heap.objs.size f cd::outer
 ex:=[]
 calm:=true
 fn:=fun _=>true
 pn:=[]
 xe:=fun e s'=>wpAny (model P w) (A.deeper (envOfC qual scope s.heap.objs.size f cd)) (leaving (envOfC qual scope s.heap.objs.size f cd) e) (fun _ s''=>CX outer H s E e s'') (fun e' s''=>CX outer H s E e' s'') s'
theorem ju {sc:Scope} {n:Nat} {x:Str} (h:sc.names.lookup x=some .cell):∃c,(cellsFrom n sc.names []).lookup x=some c:=by
 have q:=PySem.W.cellsFrom_some sc.names n [] (.inl h)
 exact Option.isSome_iff_exists.mp q
theorem mK {CX:CXT} {P:Program} {w:World} {K:PySem.W.Frag} {mg:Str→Option Value} {base:Heap} {N ps:List Str} {qual:Str} {scope:Scope} {f:Addr} {cd:Value} {A:Around} {outer:List Env} {s s1:Shared} {H:Hp} {E:XK} {us:List Value} {vs:List V}
  (S:FnScope N ps scope) (hd:A.handled=none) (e0:Env0 P w K mg base A outer s H) (hl:vs.length=ps.length) (r:Vals vs us)
  (x:InCallC s s.heap.objs.size (bindL (envOfC qual scope s.heap.objs.size f cd).kindOf (ps.zip us) fun _=>none) (cellsFrom (s.heap.objs.size+1) scope.names []) (bindC (envOfC qual scope s.heap.objs.size f cd).kindOf (ps.zip us) fun _=>none) s1):
  Inv (mJ CX P w K mg base N qual scope f cd A outer s H E) [] (start N vs) H s1:=by
 have hpl:ps.length≤N.length:=by have:=congrArg List.length S.pre;rw[List.length_take]at this;omega
 obtain⟨h1,tk,rfl,hk⟩:=x.done
 have noA:∀b:Addr,b∉(mJ CX P w K mg base N qual scope f cd A outer s H E).ex:=fun b z=>absurd (show b∈([]:List Addr)from z) (by simp)
 refine⟨⟨e0.mod,S.kind,rfl,rfl,Nat.le_refl _,fun y z c h1 h2=>?_,fun y hy=>?_,fun y c _ h=>?_,fun _=>hd,Around.frames_deeper e0.frames,.inr ⟨rfl,rfl⟩,fun b z=>absurd z (noA b),e0.bs,e0.bsz,fun b _ _=>noA b,fun b z=>absurd z (noA b),e0.funs,e0.frf⟩,
  rfl,e0.bare,Un.kept hk,⟨_,x.toInCall.ns,fun i y v h1 h2 h3=>?_⟩,fun y c h=>⟨_,x.cell y c h⟩,e0.hok.fresh (Nat.le_refl _),fun y c h=>?_,fun p hp=>absurd (show p∈([]:List (Addr×Obj))from hp) (by simp),e0.hok.kept hk,?_⟩
 ·exact name_of_addr x.apart (PySem.mem_of_lookup h1) (PySem.mem_of_lookup h2)
 ·have hy:scope.names.lookup y=some .cell∨scope.names.lookup y=some .free:=hy
  rcases hy with hy | hy
  ·exact ju hy
  ·exact absurd rfl (S.nofree _ (PySem.mem_of_lookup hy))
 ·exact Nat.le_of_lt (x.above y c (PySem.mem_of_lookup h))
 ·have hi:i< vs.length:=by
   unfold start at h2
   by_cases hi:i< vs.length
   ·exact hi
   ·rw[List.getElem?_append_right (by simpa using hi)]at h2
    rw[List.getElem?_replicate]at h2
    split at h2 <;> cases h2
  have ha:vs[i]? =some v:=by
   unfold start at h2
   rw[List.getElem?_append_left (by simpa using hi),List.getElem?_map]at h2
   cases e:vs[i]? with
   | none=>rw[e]at h2;cases h2
   | some a=>rw[e]at h2;cases h2;rfl
  obtain⟨u,hu,rv⟩:=r.get ha
  have hp:ps[i]? =some y:=by
   rw[←S.pre,List.getElem?_take_of_lt (by omega)];exact h1
  have ndP:ps.Nodup:=by rw[←S.pre];exact S.nd.sublist (List.take_sublist _ _)
  refine⟨u,rv,?_⟩
  rcases S.par y (List.mem_of_getElem? hp)with k | k
  ·exact .inl ⟨k,io ndP hp hu k⟩
  ·obtain⟨c,e⟩:=ju (n:=s.heap.objs.size+1) k
   refine .inr ⟨.inl k,c,e,?_⟩
   have q:=x.cell y c e
   rw[ip ndP hp hu (by show scope.names.lookup y≠_;rw[k];decide)]at q
   exact q
 ·exact e0.hok.fresh (Nat.le_of_lt (x.above y c (PySem.mem_of_lookup h)))
 ·unfold start
  show _=N.length
  rw[List.length_append,List.length_map,List.length_replicate]
  omega
theorem ul {CX:CXT} {P:Program} {w:World} {K:PySem.W.Frag} {mg:Str→Option Value} {base:Heap} {k:Nat} {f:Addr} {name qual:Str} {params:Arguments} {body:List Stmt} {scope:Scope} {dV kV doc pm cdv ct oc:Value} {an od:Option Addr}
  {osl:Array (Option Value)} {N ps:List Str} {sp:Sp} (lk:K.lookup f=some ⟨oc,od,.func (PySem.W.fnOf name qual params body scope dV kV doc pm an cdv ct),osl⟩) (hcd:PySem.W.codeIn K cdv qual=true) (S:FnScope N ps scope)
  (len:∀vs H Q E,sp vs H Q E→vs.length=ps.length)
  (hbody:∀(A:Around) (outer:List Env) (s:Shared) (H:Hp) (vs:List V) (Q:VK) (E:XK),Room k (A.deeper (envOfC qual scope s.heap.objs.size f cdv))→sp vs H Q E→
   ∃t,PSs (mJ CX P w K mg base N qual scope f cdv A outer s H E) body t∧t {nx:=fun _ H'=>Q .non H',rt:=Q} (start N vs) H):
  FnOk P w K mg base CX (k+1) f (PySem.W.fnOf name qual params body scope dV kV doc pm an cdv ct) ps sp:=by
 refine⟨len,fun A outer s H args us vs Q E hr e0 hb r hsp=>?_⟩
 have hl:=len _ _ _ _ hsp
 have KX:K.In s.heap:=e0.mod.kin.keeps fun b o e=>(e0.bs b o e).1
 have lim:s.heap.NoLimit:=e0.mod.nolimit.keeps fun b o e=>(e0.bs b o e).1
 have hkind:∀y∈ps.zip us,scope.names.lookup y.1=some .local∨(scope.names.lookup y.1=some .cell∧((cellsFrom (s.heap.objs.size+1) scope.names []).lookup y.1).isSome=true):=fun⟨n,v⟩ hy=>by
  rcases S.par n (List.of_mem_zip hy).1 with q | q
  ·exact .inl q
  ·exact .inr ⟨q,PySem.W.cellsFrom_some _ _ _ (.inl q)⟩
 refine codeAny_call_function hr.depth (KX _ _ lk) rfl S.co S.gen rfl (PySem.W.codeRec_of KX hcd) (hb _ _ _ _ ?_)
 refine wpAny_newFunctionEnv_cells S.kind hkind fun env he s1 x=>?_
 subst he
 refine⟨lim.keeps x.toInCall.keep,codeAny_func ?_⟩
 obtain⟨t,ht,hq⟩:=hbody A outer s H vs Q E (hr.deeper _) hsp
 have I:Inv (mJ CX P w K mg base N qual scope f cdv A outer s H E) [] (start N vs) H s1:=mK S hr.hd e0 hl r x
 refine wpAny_mono (ht [] s1 (start N vs) H _ I hq) (fun fl s' hs=>?_) fun e s' hs=>hs
 have fin:∀{σ':St} {H':Hp} {v:V} {u:Value},Inv (mJ CX P w K mg base N qual scope f cdv A outer s H E) [] σ' H' s'→RelV v u→Q v H'→CE outer P w H s Q u s':=
  fun {σ' H' v u} J rv q=>⟨v,H',J.os,J.bare,J.base,J.hok,rv,q⟩
 cases fl with
 | ret u =>
  obtain⟨v,σ',H',J,rv,q⟩:=hs
  exact fin J rv q
 | next =>
  obtain⟨σ',H',J,q⟩:=hs
  exact fin (v:=V.non) (u:=Value.none) J rfl q
 | brk =>
  obtain⟨_,_,_,q⟩:=hs
  exact False.elim q
 | cont =>
  obtain⟨_,_,_,q⟩:=hs
  exact False.elim q
end L2
namespace L2
open PySem PySem.Spec PyProof.Rows
section
variable {X:Cx} {x:Str} {p pos:Pos} {e:Expr} {es:List Expr} {t:TA} {id T:String} {r:List V→Hp→VK→Prop}
def cX (r:List V→Hp→VK→Prop) (t:TA):TE:=fun σ H Q=>t σ H fun vs H1=>r vs H1 Q
theorem aF (hc:cQ X (.builtin id) r) (hg:Gl X x) (hm:X.mg x=none) (hv:bootBuiltins x=some (.builtin id)) (ha:PA X (e::es) t) (hn:x≠"__name__" :=by decide) (hdb:(x == ("__debug__" :Str))=false:=by decide)
  (he:starEach (e::es) X.env=(false,eval e X.env)::starEach es X.env:=by rfl) (hpl:(backTo pos (starEach es X.env)).any (·.1)=false:=by rfl):PE X (.Call (.Name x p) (e::es) [] pos) (cX r t):=by
 intro pins s σ H Q I h
 refine wpAny_Call_Name_kw (fG I hg hm hv ?_ hn hdb)
 exact PyProof.Rows.callWith_builtin1 (bF (ha pos pins s σ H _ I h) fun us s1 ⟨vs,H1,I1,r1,q1⟩=>hc pins s1 σ H1 vs us Q I1 r1 q1) he hpl
theorem eQ (hc:cQ X (.type T) r) (hg:Gl X x) (hm:X.mg x=none) (hv:bootBuiltins x=some (.type T)) (ha:PA X (e::es) t) (hn:x≠"__name__" :=by decide) (hdb:(x == ("__debug__" :Str))=false:=by decide)
  (he:starEach (e::es) X.env=(false,eval e X.env)::starEach es X.env:=by rfl) (hpl:(backTo pos (starEach es X.env)).any (·.1)=false:=by rfl):PE X (.Call (.Name x p) (e::es) [] pos) (cX r t):=by
 intro pins s σ H Q I h
 refine wpAny_Call_Name_kw (fG I hg hm hv ?_ hn hdb)
 exact PyProof.Rows.callWith_type1 (bF (ha pos pins s σ H _ I h) fun us s1 ⟨vs,H1,I1,r1,q1⟩=>hc pins s1 σ H1 vs us Q I1 r1 q1) he hpl
end
end L2
namespace HT
open PySem PyProof.Rows
section
open PySem.SeqAt
open PySem.AutoSeq1 (wpAny_loadPart')
open PySem.MeetsSeq PySem.MeetsSeq2 PySem.MeetsSeq3
end
section
variable {prog:Program} {w:World} {A:Around} {E:Value→Shared→Prop} {s:Shared}
def sIx (n d:Nat):Option Int→Nat
 | none=>d
 | some v=>if v< 0 then(v+(n:Int)).toNat else min v.toNat n
theorem sIx_le (n d:Nat) (hd:d≤n) (o:Option Int):sIx n d o≤n:=by
 cases o with
 | none=>exact hd
 | some v =>
  show(if v< 0 then(v+(n:Int)).toNat else min v.toNat n)≤n
  by_cases hv:v< 0
  ·rw[if_pos hv];omega
  ·rw[if_neg hv];exact Nat.min_le_right _ _
end
end HT
namespace L2
open PySem PySem.Spec PyProof.Rows
abbrev TO:=St→Hp→(Option Int→Hp→Prop)→Prop
def PO (X:Cx) (e:Option Expr) (t:TO):Prop:=
 ∀ (pins : List (Addr × Obj)) (s : Shared) (σ : St) (H : Hp) (Q : Option Int → Hp → Prop), Inv X pins σ H s → t σ H Q →
  wpAny (model X.prog X.w) X.A (evalPart e X.env) (fun u s'=>∃o H',Inv X pins σ H' s'∧IsPart u o∧Q o H') X.xe s
def aB:TO:=fun _ H Q=>Q none H
def bc (t:TE):TO:=fun σ H Q=>t σ H fun x H1=>∃i,x=.int i∧Q (some i) H1
theorem kK {ns:List Int} :∀{us:List Value},Vals (ns.map V.int) us→IntsAre us ns:=by
 induction ns with
 | nil=>intro us r;rw[List.map_nil]at r;cases r;exact .nil
 | cons n ns ih =>
  intro us r
  rw[List.map_cons]at r
  cases r with
  | cons r1 r2 =>
   obtain⟨t,e⟩:=r1
   subst e
   exact .cons n t (ih r2)
section
variable {X:Cx} {e:Expr} {te:TE} {lo hi:Option Expr} {tl th:TO} {pos p2:Pos}
theorem iQ:PO X none aB:=by
 intro pins s σ H Q I h
 rw[evalPart_none]
 exact wpAny_pure ⟨none,H,I,.none,h⟩
theorem iR (h:PE X e te):PO X (some e) (bc te):=by
 intro pins s σ H Q I hw
 rw[evalPart_some]
 refine bF (h pins s σ H _ I hw) fun u s1 ⟨x,H1,I1,r1,q1⟩=>?_
 obtain⟨i,rfl,q⟩:=q1
 obtain⟨t,rfl⟩:=r1
 exact⟨some i,H1,I1,.int i t,q⟩
def uZ (X:Cx) (r:V→Option Int→Option Int→Hp→VK→Prop):Prop:=
 ∀ (pins : List (Addr × Obj)) (s : Shared) (σ : St) (H : Hp) (x : V) (v vl vu : Value) (lo hi : Option Int) (sl : Addr) (Q : VK), Inv X pins σ H s → RelV x v → s.heap.IsSliceOf sl vl vu .none → IsPart vl lo → IsPart vu hi → r x lo hi H Q →
  ∃T id,typeLookup (.type T) "__getitem__" =pure (some (.builtin id))∧s.TypeIs v T∧wpAny (model X.prog X.w) X.A (getItem v (.ref sl)) (EP X pins σ Q) X.xe s
def dJ (r:V→Option Int→Option Int→Hp→VK→Prop) (te:TE) (tl th:TO):TE:=fun σ H Q=>te σ H fun x H1=>tl σ H1 fun l H2=>th σ H2 fun u H3=>r x l u H3 Q
theorem gE {r:V→Option Int→Option Int→Hp→VK→Prop} (hr:uZ X r) (he:PE X e te) (hl:PO X lo tl) (hu:PO X hi th):PE X (.Subscript e (.Slice lo hi none p2) pos) (dJ r te tl th):=by
 intro pins s σ H Q I h
 refine Subscript_ (bF (he pins s σ H _ I h) fun v s1 ⟨x,H1,I1,r1,q1⟩=>?_)
 refine wpAny_Slice (bF (hl pins s1 σ H1 _ I1 q1) fun vl s2 ⟨l,H2,I2,pl,q2⟩=>bF (hu pins s2 σ H2 _ I2 q2) fun vu s3 ⟨u,H3,I3,pu,q3⟩=>?_)
 rw[evalPart_none]
 refine wpAny_pure ?_
 have I4:Inv X pins σ H3 {s3 with heap:=s3.heap.push {cls:=.type "slice",data:=.fields #[vl,vu,.none]}} :=I3.kept (t':=s3.toks) fun b ob q=>Heap.get?_push_of_some _ q
 obtain⟨T,id,hT,ht,hg⟩:=hr pins {s3 with heap:=s3.heap.push {cls:=.type "slice",data:=.fields #[vl,vu,.none]}} σ H3 x v vl vu l u s3.heap.objs.size Q I4 r1 (Heap.IsSliceOf.new ..) pl pu q3
 show wpAny (model X.prog X.w) X.A (subscriptTail e (.Slice lo hi none p2) v (.ref s3.heap.objs.size)) (EP X pins σ Q) X.xe {s3 with heap:=s3.heap.push {cls:=.type "slice",data:=.fields #[vl,vu,.none]}}
 exact tail_any (ops:=[.ref s3.heap.objs.size,v]) ht hT hg (by with_unfolding_all rfl)
def kL (xs:List V) (lo hi:Option Int):List V:=(xs.drop (HT.sIx xs.length 0 lo)).take (HT.sIx xs.length xs.length hi- HT.sIx xs.length 0 lo)
theorem jv (xs:List V) (lo hi:Option Int):(kL xs lo hi).length≤xs.length:=by
 unfold kL
 rw[List.length_take,List.length_drop]
 omega
end
end L2
namespace L2
open PySem PySem.Spec PyProof.Rows
def ixN (n:Nat) (i:Int):Option Nat:=if 0≤i then(if i< n then some i.toNat else none)else if -(n:Int)≤i then some (i+n).toNat else none
def atI {α:Type} (xs:List α) (i:Int):Option α:=(ixN xs.length i).bind fun j=>xs[j]?
theorem lB {n:Nat} {i:Int} {j:Nat} (h:ixN n i=some j):seqIndex? i n=some j∧j< n∧ -(n:Int)≤i∧i< n:=by
 unfold ixN at h
 by_cases h0:0≤i
 ·rw[if_pos h0]at h
  by_cases h1:i< n
  ·rw[if_pos h1]at h
   have e:i.toNat=j:=Option.some.inj h
   exact⟨by rw[seqIndex_of h0 h1,e],by omega,by omega,h1⟩
  ·rw[if_neg h1]at h;cases h
 ·rw[if_neg h0]at h
  by_cases h1: -(n:Int)≤i
  ·rw[if_pos h1]at h
   have e:(i+n).toNat=j:=Option.some.inj h
   exact⟨by rw[seqIndex_neg (by omega) h1,e],by omega,h1,by omega⟩
  ·rw[if_neg h1]at h;cases h
theorem iS {α:Type} {xs:List α} {i:Int} {v:α} (h:atI xs i=some v):∃j,seqIndex? i xs.length=some j∧xs[j]? =some v∧j< xs.length∧ -(xs.length:Int)≤i∧i< xs.length:=by
 unfold atI at h
 cases e:ixN xs.length i with
 | none=>rw[e]at h;cases h
 | some j =>
  rw[e]at h
  obtain⟨h1,h2,h3,h4⟩:=lB e
  exact⟨j,h1,h,h2,h3,h4⟩
def qq (b:Expr):Prop:=∀o i,subscripted b false o i=operate [o,i] (getItem o i)
def tY (X:Cx) (r:R2):Prop:=
 ∀ (value slice : Expr) (pins : List (Addr × Obj)) (s : Shared) (σ : St) (H : Hp) (x y : V) (v u : Value) (Q : VK), Inv X pins σ H s → RelV x v → RelV y u → r x y H Q →
  subscripted slice false v u=operate [v,u] (getItem v u)→wpAny (model X.prog X.w) X.A (subscriptTail value slice v u) (EP X pins σ Q) X.xe s
def um (X:Cx) (id:String) (r:V→List V→Hp→VK→Prop):Prop:=
 ∀ (pins : List (Addr × Obj)) (s : Shared) (σ : St) (H : Hp) (x : V) (xs : List V) (v : Value) (us : List Value) (Q : VK), Inv X pins σ H s → RelV x v → Vals xs us → r x xs H Q →
  wpAny (model X.prog X.w) X.A (call (.builtin id) (v::us)) (EP X pins σ Q) X.xe s
section
variable {X:Cx} {a b:Expr} {ta tb:TE} {pos:Pos}
theorem aH {r:R2} (hr:tY X r) (ha:PE X a ta) (hb:PE X b tb) (hs:qq b):PE X (.Subscript a b pos) (cv r ta tb):=by
 intro pins s σ H Q I h
 exact Subscript_ (sF ha hb I h fun v u s2 x y H2 I2 rx ry q=>hr a b pins s2 σ H2 x y v u Q I2 rx ry q (hs _ _))
def bJ (K:PySem.W.Frag):R2:=fun x y H Q=>∃p xs i v,x=.ref p∧y=.int i∧SqL K H p xs∧atI xs i=some v∧Q v H
def bP (K:PySem.W.Frag):R2:=fun x y H Q=>∃p xs i v,x=.ref p∧y=.int i∧SqT K H p xs∧atI xs i=some v∧Q v H
def bX:R2:=fun x y H Q=>∃z i c,x=.str z∧y=.int i∧z.length≤sizeLine∧atI z.cps.toList i=some c∧Q (.str ⟨#[c]⟩) H
theorem qr:tY X (bJ X.K):=by
 intro value slice pins s σ H x y v u Q I rx ry h hs
 obtain⟨p,xs,i,z,rfl,rfl,hq,he,q⟩:=h
 cases rx
 obtain⟨t,rfl⟩:=ry
 obtain⟨its,r,pl,hz⟩:=I.list hq
 obtain⟨j,h1,h2,h3,h4,h5⟩:=iS he
 obtain⟨w,ew,rw'⟩:=r.get h2
 have hl:=r.length
 have hn:=gD
 have fin:EP X pins σ Q w s:=⟨z,H,I,rw',q⟩
 by_cases h0:0≤i
 ·have hj:i.toNat=j:=by
   rw[seqIndex_of h0 h5]at h1
   exact Option.some.inj h1
  exact item_listR pl.isList h0 (by omega) (by rw[hj];simpa using ew) fin hs
 ·have hj:(i+(its.toArray.size:Int)).toNat=j:=by
   rw[seqIndex_neg (by omega) h4]at h1
   rw[List.size_toArray,←hl]
   exact Option.some.inj h1
  exact subscriptTail_builtinR (x:=w) pl.isList.typeIs slot_list_getitem.lookup
   (wpAny_getItem_list_neg (Q:=fun r s'=>r=w∧EP X pins σ Q r s') pl.isList (by omega) (by rw[List.size_toArray] <;> omega) (by omega) (by rw[hj];simpa using ew) ⟨rfl,fin⟩) hs
theorem sI:tY X (bP X.K):=by
 intro value slice pins s σ H x y v u Q I rx ry h hs
 obtain⟨p,xs,i,z,rfl,rfl,hq,he,q⟩:=h
 cases rx
 obtain⟨t,rfl⟩:=ry
 obtain⟨its,r,pl,hz⟩:=I.tuple hq
 obtain⟨j,h1,h2,h3,h4,h5⟩:=iS he
 obtain⟨w,ew,rw'⟩:=r.get h2
 have hl:=r.length
 have hn:=gD
 have fin:EP X pins σ Q w s:=⟨z,H,I,rw',q⟩
 exact subscriptTail_builtinR (x:=w) pl.typeIs slot_tuple_getitem.lookup
  (getItem_tuple (j:=j) (Q:=fun r s'=>r=w∧EP X pins σ Q r s') pl (by omega) (by omega) (by rw[List.size_toArray,←hl];exact h1) (by simpa using ew) ⟨rfl,fin⟩) hs
theorem bK:tY X bX:=by
 intro value slice pins s σ H x y v u Q I rx ry h hs
 obtain⟨z,i,c,rfl,rfl,hz,he,q⟩:=h
 obtain⟨t,rfl⟩:=rx
 obtain⟨t',rfl⟩:=ry
 obtain⟨j,h1,h2,h3,h4,h5⟩:=iS he
 have hl:z.cps.toList.length=z.length:=by simp[Str.length]
 rw[hl]at h1 h4 h5
 have hn:=gD
 exact tail_any (typeIs_str s z t) slot_str_getitem.lookup (getItem_str (c:=c) (by
  have e1:decide (i< -(2^63:Int))=false:=decide_eq_false (by omega)
  have e2:decide (i≥2^63)=false:=decide_eq_false (by omega)
  rw[e1,e2,Bool.or_false]) (by rw[h1];simpa using h2) ⟨.str ⟨#[c]⟩,H,I.tok _,⟨_,rfl⟩,q⟩) hs
theorem kM (its:List Value) (n j:Nat) (u:Value):Obj.mapSeq (·.setIfInBounds j u) {cls:=.type "list",data:=.seq its.toArray n} ={cls:=.type "list",data:=.seq (its.set j u).toArray n} :=by
 simp[Obj.mapSeq]
theorem Inv.lst {pins:List (Addr×Obj)} {σ:St} {H:Hp} {s:Shared} {p:Addr} {xs:List V} (I:Inv X pins σ H s) (h:H p=some (.lst xs)):
  ∃(its:List Value) (n:Nat),Vals xs its∧s.heap.get? p=some {cls:=.type "list",data:=.seq its.toArray n}∧xs.length≤sizeLine:=by
 obtain⟨z,its,n,r,e⟩:=I.hok p _ h
 exact⟨its,n,r,e,z⟩
theorem Inv.lstUpd {pins:List (Addr×Obj)} {σ:St} {H:Hp} {s:Shared} {p:Addr} {xs ys:List V} {its its':List Value} {n n':Nat} {f:Obj→Obj} (I:Inv X pins σ H s) (h:H p=some (.lst xs))
  (ho:s.heap.get? p=some {cls:=.type "list",data:=.seq its.toArray n}) (hf:f {cls:=.type "list",data:=.seq its.toArray n} ={cls:=.type "list",data:=.seq its'.toArray n'}) (r:Vals ys its') (hz:ys.length≤sizeLine) (t:Nat):
  Inv X pins σ (cr H p (.lst ys)) {s with heap:=s.heap.update p f,toks:=t} :=by
 have e:(s.heap.update p f).get? p=some {cls:=.type "list",data:=.seq its'.toArray n'} :=by
  rw[Heap.get?_update_self f ho (by rw[hf] <;> rfl),hf]
 refine I.write (x:=p) (e:=p) (by rw[h];trivial) (.inl rfl) (fun b u hb q=>(Heap.get?_update_other _ _ (Ne.symm hb)).trans q) ⟨_,e⟩ ?_
 exact⟨hz,its',n',r,e⟩
def rZ:V→V→V→Hp→(Hp→Prop)→Prop:=fun o i v H Q=>∃p xs k j,o=.ref p∧i=.int k∧H p=some (.lst xs)∧ixN xs.length k=some j∧Q (cr H p (.lst (xs.set j v)))
theorem jw:uf X rZ:=by
 intro pins s σ H o i v ov iv u Q I ro ri rv h
 obtain⟨p,xs,k,j,rfl,rfl,hp,hj,q⟩:=h
 cases ro
 obtain⟨t,rfl⟩:=ri
 obtain⟨its,n,r,ho,hz⟩:=I.lst hp
 obtain⟨h1,h2,h3,h4⟩:=lB hj
 have hl:=r.length
 have hn:=gD
 have I':Inv X pins σ (cr H p (.lst (xs.set j v))) {s with heap:=s.heap.update p (Obj.mapSeq (·.setIfInBounds j u))} :=
  I.lstUpd hp ho (kM its n j u) (r.set rv j) (by rw[List.length_set];exact hz) s.toks
 by_cases h0:0≤k
 ·have hk:k.toNat=j:=by
   rw[seqIndex_of h0 h4]at h1
   exact Option.some.inj h1
  exact PySem.W.ki_setAt ho h0 (by omega) (by rw[List.size_toArray,←hl];exact h4) (by rw[hk];exact⟨_,I',q⟩)
 ·have hk:(k+(its.toArray.size:Int)).toNat=j:=by
   rw[seqIndex_neg (by omega) h3]at h1
   rw[List.size_toArray,←hl]
   exact Option.some.inj h1
  exact PySem.W.ki_setBack ho (by omega) (by rw[List.size_toArray,←hl];exact h3) (by omega) (by rw[hk];exact⟨_,I',q⟩)
theorem iT (lo hi:Option Int) (n:Nat):(sliceBounds lo hi none n).1=((HT.sIx n 0 lo:Nat):Int)∧(sliceBounds lo hi none n).2.1=((HT.sIx n n hi:Nat):Int)∧(sliceBounds lo hi none n).2.2=1:=by
 refine⟨?_,?_,rfl⟩
 ·cases lo with
  | none=>simp[sliceBounds,HT.sIx]
  | some i =>
   simp only[sliceBounds,HT.sIx,Option.getD_none,show(1:Int)> 0 by decide,if_true]
   by_cases h:i< 0
   ·simp only[h,if_true] <;> omega
   ·simp only[h,if_false] <;> omega
 ·cases hi with
  | none=>simp[sliceBounds,HT.sIx]
  | some i =>
   simp only[sliceBounds,HT.sIx,Option.getD_none,show(1:Int)> 0 by decide,if_true]
   by_cases h:i< 0
   ·simp only[h,if_true] <;> omega
   ·simp only[h,if_false] <;> omega
theorem i7 (its:List Value) (lo hi:Option Int):slicePick its.toArray lo hi none=((its.drop (HT.sIx its.length 0 lo)).take (HT.sIx its.length its.length hi- HT.sIx its.length 0 lo)).toArray:=by
 obtain⟨h1,h2,h3⟩:=iT lo hi its.toArray.size
 unfold slicePick
 rw[h1,h2,h3]
 simp only[sliceRange_one,pick_run,List.size_toArray] <;> rfl
def bQ (K:PySem.W.Frag):V→Option Int→Option Int→Hp→VK→Prop:=fun x lo hi H Q=>∃a xs,x=.ref a∧SqL K H a xs∧∀p,H p=none→Q (.ref p) (cr H p (.lst (kL xs lo hi)))
theorem qt:uZ X (bQ X.K):=by
 intro pins s σ H x v vl vu lo hi sl Q I rx hs pl pu h
 obtain⟨a,xs,rfl,hx,q⟩:=h
 cases rx
 obtain⟨its,r,ht,hz⟩:=I.list hx
 have hlen:=r.length
 refine⟨"list",_,slot_list_getitem.lookup,ht.isList.typeIs,?_⟩
 refine wpAny_getItem_list_slice ht.isList hs pl pu .none (by simp) ?_ (by rw[List.size_toArray] <;> omega)
 rw[i7,←hlen]
 refine⟨.ref s.heap.objs.size,_,I.laid (t':=s.toks) (o:=.lst (kL xs lo hi)) (fun b ob q=>Heap.get?_push_of_some _ q) (Nat.le_refl _) ?_,rfl,q _ (I.hok.fresh (Nat.le_refl _))⟩
 exact⟨Nat.le_trans (jv xs lo hi) hz,_,0,(r.drop (HT.sIx xs.length 0 lo)).take (HT.sIx xs.length xs.length hi- HT.sIx xs.length 0 lo),Heap.get?_push_size _ rfl⟩
def flatV:V→Bool
 | .non=>true
 | .bl _=>true
 | .int _=>true
 | .str _=>true
 | _=>false
def eqV:V→V→Bool
 | .non,.non=>true
 | .bl a,.bl b=>a == b
 | .bl a,.int b=>(if a then 1 else 0) == b
 | .int a,.bl b=>a == (if b then 1 else 0)
 | .int a,.int b=>a == b
 | .str a,.str b=>a == b
 | _,_=>false
theorem sJ {A:Around} {s:Shared} {y x:V} {u v:Value} (ry:RelV y u) (rx:RelV x v) (fy:flatV y=true) (fx:flatV x=true):SeqAt.EqAt A s u v (eqV y x):=by
 cases y with
 | non =>
  cases ry
  cases x with
  | non=>cases rx;exact SeqAt.EqAt.same _
  | bl b=>cases rx;exact SeqAt.EqAt.none_bool b
  | int b=>obtain⟨t,rfl⟩:=rx;exact SeqAt.EqAt.none_int b t
  | str b=>obtain⟨t,rfl⟩:=rx;exact SeqAt.EqAt.none_str b t
  | _=>exact absurd (show false=true from fx) Bool.false_ne_true
 | bl a =>
  cases ry
  cases x with
  | non=>cases rx;exact SeqAt.EqAt.bool_none a
  | bl b=>cases rx;exact SeqAt.EqAt.bool_bool a b
  | int b=>obtain⟨t,rfl⟩:=rx;exact SeqAt.EqAt.bool_int a b t
  | str b=>obtain⟨t,rfl⟩:=rx;exact SeqAt.EqAt.bool_str a b t
  | _=>exact absurd (show false=true from fx) Bool.false_ne_true
 | int a =>
  obtain⟨t',rfl⟩:=ry
  cases x with
  | non=>cases rx;exact SeqAt.EqAt.int_none a t'
  | bl b=>cases rx;exact SeqAt.EqAt.int_bool a t' b
  | int b=>obtain⟨t,rfl⟩:=rx;exact SeqAt.EqAt.int_int a t' b t
  | str b=>obtain⟨t,rfl⟩:=rx;exact SeqAt.EqAt.int_str a t' b t
  | _=>exact absurd (show false=true from fx) Bool.false_ne_true
 | str a =>
  obtain⟨t',rfl⟩:=ry
  cases x with
  | non=>cases rx;exact SeqAt.EqAt.str_none a t'
  | bl b=>cases rx;exact SeqAt.EqAt.str_bool a t' b
  | int b=>obtain⟨t,rfl⟩:=rx;exact SeqAt.EqAt.str_int a t' b t
  | str b=>obtain⟨t,rfl⟩:=rx;exact SeqAt.EqAt.str_str a t' b t
  | _=>exact absurd (show false=true from fx) Bool.false_ne_true
 | _=>exact absurd (show false=true from fy) Bool.false_ne_true
def qu (x:V) (u:Value):Bool:=match u with
 | .none=>eqV .non x
 | .bool b=>eqV (.bl b) x
 | .int i _=>eqV (.int i) x
 | .str z _=>eqV (.str z) x
 | _=>false
theorem nZ {x y:V} {u:Value} (r:RelV y u) (f:flatV y=true):qu x u=eqV y x:=by
 cases y with
 | non=>cases r;rfl
 | bl b=>cases r;rfl
 | int i=>obtain⟨t,rfl⟩:=r;rfl
 | str z=>obtain⟨t,rfl⟩:=r;rfl
 | _=>exact absurd (show false=true from f) Bool.false_ne_true
theorem iU {x:V} :∀{xs:List V} {us:List Value},Vals xs us→xs.all flatV=true→us.any (qu x)=xs.any fun y=>eqV y x
 | _,_,.nil,_=>rfl
 | y :: xs, u :: us, .cons r t, f => by
  rw[List.all_cons,Bool.and_eq_true]at f
  rw[List.any_cons,List.any_cons,nZ r f.1,iU t f.2]
theorem gF {A:Around} {s:Shared} {x:V} {v:Value} (rx:RelV x v) (fx:flatV x=true):∀{xs:List V} {us:List Value},Vals xs us→xs.all flatV=true→∀u∈us,SeqAt.EqAt A s u v (qu x u)
 | _,_,.nil,_=>fun u hu=>by cases hu
 | y :: xs, u :: us, .cons r t, f => fun u' hu => by
  rw[List.all_cons,Bool.and_eq_true]at f
  rcases List.mem_cons.mp hu with rfl | hu
  ·rw[nZ r f.1];exact sJ r rx f.1 fx
  ·exact gF rx fx t f.2 u' hu
def va (x:V) (xs:List V):Bool:=xs.any fun y=>eqV y x
def dW (K:PySem.W.Frag) (neg:Bool):R2:=fun x y H Q=>∃p xs,y=.ref p∧(SqL K H p xs∨SqT K H p xs)∧flatV x=true∧xs.all flatV=true∧Q (.bl (if neg then !va x xs else va x xs)) H
theorem iV:OpR X (compareOp .NotIn) (dW X.K true):=by
 intro pins s σ H x y v u Q I rx ry h
 obtain⟨p,xs,rfl,hq,fx,fs,q⟩:=h
 cases ry
 rcases hq with hq | hq
 ·obtain⟨its,r,pl,hz⟩:=I.list hq
  refine SeqAt.notIn_listAt (qu x) pl.isList (fun w hw=>gF rx fx r fs w (by simpa using hw)) ⟨.bl _,H,I,rfl,?_⟩
  rw[show its.toArray.any (qu x)=its.any (qu x) by simp,iU r fs]
  exact q
 ·obtain⟨its,r,pl,hz⟩:=I.tuple hq
  refine SeqAt.notIn_tupleAt (qu x) pl (fun w hw=>gF rx fx r fs w (by simpa using hw)) ⟨.bl _,H,I,rfl,?_⟩
  rw[show its.toArray.any (qu x)=its.any (qu x) by simp,iU r fs]
  exact q
theorem iW:cQ X (.type "list") (fun xs H Q=>∃p ys,xs=[.ref p]∧(SqL X.K H p ys∨SqT X.K H p ys)∧∀l,H l=none→Q (.ref l) (cr H l (.lst ys))):=by
 intro pins s σ H xs us Q I r h
 obtain⟨p,ys,rfl,hq,q⟩:=h
 obtain⟨u,rfl,rx⟩:=eA r
 cases rx
 have fin:∀(its:List Value),Vals ys its→ys.length≤sizeLine→∀(h':Heap) (c':Nat),(∀b o',s.heap.get? b=some o'→h'.get? b=some o')→
   h'.get? s.heap.objs.size=some {cls:=.type "list",dict:=none,data:=.seq its.toArray c',slots:= #[]}→EP X pins σ Q (.ref s.heap.objs.size) {s with heap:=h'} :=fun its r' hz h' c' kp e=>
  ⟨.ref s.heap.objs.size,_,I.laid (t':=s.toks) kp (Nat.le_refl _) (show ObjOk X.prog X.w _ h' _ (.lst ys)from⟨hz,its,c',r',e⟩),rfl,q _ (I.hok.fresh (Nat.le_refl _))⟩
 rcases hq with hq | hq
 ·obtain⟨its,r',pl,hz⟩:=I.list hq
  have hlen:=r'.length
  obtain⟨o,ho,hc,n,hd⟩:=pl.isList
  exact call_list_seq p (.inl rfl) ho hc hd (fun h' c' kp e=>fin its r' hz h' c' kp e) (by simp only[List.size_toArray] <;> omega)
 ·obtain⟨its,r',pl,hz⟩:=I.tuple hq
  have hlen:=r'.length
  obtain⟨o,ho,hc,n,hd⟩:=pl
  exact call_list_seq p (.inr rfl) ho hc hd (fun h' c' kp e=>fin its r' hz h' c' kp e) (by simp only[List.size_toArray] <;> omega)
theorem i8:cQ X (.type "tuple") (fun xs H Q=>∃p ys,xs=[.ref p]∧((SqL X.K H p ys∧∀l,H l=none→Q (.ref l) (cr H l (.tup ys)))∨(SqT X.K H p ys∧Q (.ref p) H))):=by
 intro pins s σ H xs us Q I r h
 obtain⟨p,ys,rfl,h⟩:=h
 obtain⟨u,rfl,rx⟩:=eA r
 cases rx
 rcases h with⟨hq,q⟩ | ⟨hq,q⟩
 ·obtain⟨its,r',pl,hz⟩:=I.list hq
  have hlen:=r'.length
  refine call_tuple_list pl.isList (fun h' kp=>?_) (by simp only[List.size_toArray] <;> omega)
  have I1:Inv X pins σ H {s with heap:=h'} :=I.kept (t':=s.toks) kp
  have I2:Inv X pins σ (cr H h'.objs.size (.tup ys)) {s with heap:=h'.push {cls:=.type "tuple",data:=.seq its.toArray}} :=
   I1.laid (t':=s.toks) (fun b o e=>Heap.get?_push_of_some _ e) (Nat.le_refl _) (show ObjOk X.prog X.w _ _ _ (.tup ys)from⟨hz,its,r',IsTupD.new _ _⟩)
  exact⟨.ref h'.objs.size,_,I2,rfl,q _ (I1.hok.fresh (Nat.le_refl _))⟩
 ·obtain⟨its,r',pl,hz⟩:=I.tuple hq
  exact call_tuple_same pl ⟨.ref p,H,I,rfl,q⟩
def vU (K:PySem.W.Frag) (T:String) (x:V) (H:Hp):Prop:=match x with
 | .str _=>T="str"
 | .int _=>T="int"
 | .ref p=>(T="list" ∧∃xs,SqL K H p xs)∨(T="tuple" ∧((∃o,K.lookup p=some o∧o.cls=.type "tuple" ∧o.dict=none)∨∃xs,SqT K H p xs))∨
   (T="dict" ∧((∃kvs,H p=some (.dK kvs))∨∃kvs,H p=some (.dT kvs)))∨(T="set" ∧∃S n,H p=some (.set S n))
 | _=>False
theorem sK {pins:List (Addr×Obj)} {σ:St} {H:Hp} {s:Shared} {T:String} {x:V} {v:Value} (I:Inv X pins σ H s) (r:RelV x v) (ty:vU X.K T x H):
  s.TypeIs v T∧∀a,v=.ref a→∃ob,s.heap.get? a=some ob∧ob.dict=none:=by
 cases x with
 | str z =>
  obtain⟨t,rfl⟩:=r
  cases (show T="str" from ty)
  exact⟨typeIs_str s z t,fun _ e=>nomatch e⟩
 | int i =>
  obtain⟨t,rfl⟩:=r
  cases (show T="int" from ty)
  exact⟨typeIs_int s i t,fun _ e=>nomatch e⟩
 | ref p =>
  cases r
  rcases ty with⟨rfl,xs,hq⟩ | ⟨rfl,⟨o,hk,hc,hd⟩ | ⟨xs,hq⟩⟩ | ⟨rfl,hk⟩ | ⟨rfl,S,n,hk⟩
  ·obtain⟨its,_,pl,_⟩:=I.list hq
   refine⟨pl.isList.typeIs,fun a e=>?_⟩
   cases e
   obtain⟨o,n,e,c,hd,_⟩:=pl
   exact⟨o,e,hd⟩
  ·refine⟨⟨o,I.kIn p o hk,hc⟩,fun a e=>?_⟩
   cases e
   exact⟨o,I.kIn _ o hk,hd⟩
  ·obtain⟨o,e1,c1,d1⟩:∃o,s.heap.get? p=some o∧o.cls=.type "tuple" ∧o.dict=none:=by
    rcases hq with hq | ⟨o,its,n,hk,hc,_⟩
    ·obtain⟨_,_,_,o,e1,⟨c1,d1⟩,_⟩:=hq.ok I.hok
     exact⟨o,e1,c1,d1⟩
    ·exact⟨o,I.kIn p o hk,hc.1,hc.2⟩
   refine⟨⟨o,e1,c1⟩,fun a e=>?_⟩
   cases e
   exact⟨o,e1,d1⟩
  ·have z:∃o,s.heap.get? p=some o∧o.ExactDict:=by
    rcases hk with⟨kvs,hk⟩ | ⟨kvs,hk⟩
    ·obtain⟨_,_,_,_,o,_,_,e,ex,_⟩:=I.hok p _ hk
     exact⟨o,e,ex⟩
    ·obtain⟨_,_,_,_,o,_,_,e,ex,_⟩:=I.hok p _ hk
     exact⟨o,e,ex⟩
   obtain⟨o,e,ex⟩:=z
   refine⟨⟨o,e,ex.1⟩,fun a e2=>?_⟩
   cases e2
   exact⟨o,e,ex.2.1⟩
  ·obtain⟨o,_,_,_,e,ex,_⟩:=I.hok p _ hk
   refine⟨⟨o,e,ex.1⟩,fun a e2=>?_⟩
   cases e2
   exact⟨o,e,ex.2.1⟩
 | _=>exact False.elim ty
def dh (K:PySem.W.Frag) (T:String) (r:V→List V→Hp→VK→Prop) (to:TE) (t:TA):TE:=fun σ H Q=>to σ H fun x H1=>vU K T x H1∧t σ H1 fun xs H2=>r x xs H2 Q
variable {o e:Expr} {es:List Expr} {to:TE} {t:TA} {name:Str} {apos cpos:Pos} {T id:String} {r:V→List V→Hp→VK→Prop}
theorem uo (pa:PlainAttrs T) (slot:Slot T name id) (hty:typeOf (.builtin id)=pure (.type "method_descriptor")) (hm:um X id r) (ho:PE X o to) (ha:PA X (e::es) t)
  (hbase:attributeBase o name X.env (eval o X.env)=eval o X.env:=by rfl)
  (hfew:((backTo cpos (starEach (e::es) X.env)).all (fun x=> !x.1) && (backToKw cpos (keywordEach [] X.env)).all (fun x=>x.1.isSome)
   && decide ((e::es).length+([]:List Keyword).length+(if([]:List Keyword).isEmpty then 0 else 1)< 30))=true:=by rfl)
  (hline:(apos.endLine == cpos.line)=true:=by rfl) (hs:starEach (e::es) X.env=(false,eval e X.env)::starEach es X.env:=by rfl) (hplain:(backTo cpos (starEach es X.env)).any (·.1)=false:=by rfl):
  PE X (.Call (.Attribute o name apos) (e::es) [] cpos) (dh X.K T r to t):=by
 intro pins s σ H Q I h
 refine wpAny_Call_method_late hbase hfew hline rfl (bF (ho pins s σ H _ I h) fun v s1 ⟨x,H1,I1,r1,ty,q1⟩=>?_)
 obtain⟨h1,h2⟩:=sK I1 r1 ty
 refine⟨T,id,pa,slot,hty,h1,h2,?_⟩
 have hA:=ha cpos pins s1 σ H1 _ I1 q1
 rw[hs]at hA ⊢
 refine Calls.callWith_builtin (by show(false || (backTo cpos (starEach es X.env)).any (·.1))=false;rw[hplain] <;> rfl) (Calls.evalArgs_plain ?_)
 exact bF hA fun us s2 ⟨vs,H2,I2,r2,q2⟩=>hm pins s2 σ H2 x vs v us Q I2 r1 r2 q2
end
end L2
namespace L2
open PySem PySem.Spec PyProof.Rows
def wd (X:Cx) (id:String) (r:V→List V→Hp→VK→Prop):Prop:=
 ∀ (pins : List (Addr × Obj)) (s : Shared) (σ : St) (H : Hp) (x : V) (xs : List V) (v : Value) (us : List Value) (Q : VK), Inv X pins σ H s → RelV x v → Vals xs us → r x xs H Q →
  wpAny (model X.prog X.w) X.A (call (.builtin id) (v::us)) (EP X pins σ Q) X.xe s
theorem Vals.one:∀{x:V} {us:List Value},Vals [x] us→∃u,us=[u]∧RelV x u
 | _,_,.cons r .nil=>⟨_,rfl,r⟩
section
variable {X:Cx} {pins:List (Addr×Obj)} {σ:St} {H:Hp} {s:Shared} {l b:Addr} {xs ys zs:List V}
theorem Inv.lset {its its':List Value} {n:Nat} {f:Array Value→Array Value} {t':Nat} (I:Inv X pins σ H s) (hH:H l=some (.lst xs))
  (e:s.heap.get? l=some {cls:=.type "list",data:=.seq its.toArray n}) (hf:f its.toArray=its'.toArray) (hv:Vals ys its') (hz:ys.length≤sizeLine):
  Inv X pins σ (cr H l (.lst ys)) {s with heap:=s.heap.update l (Obj.mapSeq f),toks:=t'} :=by
 have q:=PySem.IsL.update e f
 rw[hf]at q
 refine I.write (x:=l) (e:=l) (by rw[hH];exact trivial) (.inl rfl) (fun b' u hb hu=>(Heap.get?_update_other s.heap (Obj.mapSeq f) (Ne.symm hb)).trans hu) ⟨_,q⟩ ?_
 exact⟨hz,its',_,hv,q⟩
theorem Inv.lnew {its:List Value} {t':Nat} (I:Inv X pins σ H s) (hv:Vals ys its) (hz:ys.length≤sizeLine):
  Inv X pins σ (cr H s.heap.objs.size (.lst ys)) {s with heap:=s.heap.push {cls:=.type "list",data:=.seq its.toArray},toks:=t'} :=
 I.laid (fun _ _ q=>Heap.get?_push_of_some _ q) (Nat.le_refl _) ⟨hz,its,0,hv,Heap.get?_push_size _ rfl⟩
theorem Inv.fresh (I:Inv X pins σ H s):H s.heap.objs.size=none:=I.hok.fresh (Nat.le_refl _)
theorem Inv.lstM (I:Inv X pins σ H s) (hH:H l=some (.lst xs)):xs.length≤sizeLine∧∃(its:List Value) (n:Nat),Vals xs its∧xs.length=its.length∧s.heap.get? l=some {cls:=.type "list",data:=.seq its.toArray n} :=by
 obtain⟨z,its,n,r,e⟩:=I.hok l _ hH
 exact⟨z,its,n,r,r.length,e⟩
end
section
variable {X:Cx}
def ax:V→List V→Hp→VK→Prop:=fun x vs H Q=>∃l xs y,x=.ref l∧vs=[y]∧H l=some (.lst xs)∧xs.length< sizeLine∧Q .non (cr H l (.lst (xs++ [y])))
theorem mL:wd X "list.append" ax:=by
 intro pins s σ H x vs v us Q I rx rv h
 obtain⟨l,xs,y,rfl,rfl,hH,hz,q⟩:=h
 cases rx
 obtain⟨u,rfl,ru⟩:=rv.one
 obtain⟨z,its,n,r,hl,e⟩:=I.lstM hH
 refine call_meets F.slot_list_append ⟨_,e,rfl⟩ F.entry_list_append (F.args_list_append_2 _ _) (PySem.list_append l its.toArray n u (by rw[List.size_toArray];omega)) ⟨e,?_⟩
 refine⟨.non,_,I.lset (its':=its++ [u]) hH e (by simp) (r.append (.cons ru .nil)) ?_,rfl,q⟩
 rw[List.length_append,List.length_singleton]
 omega
def bY:R2:=fun x y H Q=>∃l b xs zs,x=.ref l∧y=.ref b∧H l=some (.lst xs)∧H b=some (.lst zs)∧xs.length+zs.length≤sizeLine∧∀p,H p=none→Q (.ref p) (cr H p (.lst (xs++zs)))
theorem sL:OpR X (binaryOp .Add) bY:=by
 intro pins s σ H x y v u Q I rx ry h
 obtain⟨l,b,xs,zs,rfl,rfl,hH,hB,hz,q⟩:=h
 cases rx
 cases ry
 obtain⟨z,its,n,r,hl,e⟩:=I.lstM hH
 obtain⟨z2,its2,n2,r2,hl2,e2⟩:=I.lstM hB
 refine PySem.P.add_list e e2 ?_ (by rw[List.size_toArray,List.size_toArray];omega)
 have ea:its.toArray++its2.toArray=(its++its2).toArray:=by simp
 rw[ea]
 exact⟨.ref _,_,I.lnew (t':=s.toks) (r.append r2) (by rw[List.length_append];omega),rfl,q _ I.fresh⟩
end
end L2
namespace L2
open PySem PySem.Spec PyProof.Rows
section
variable {κ:Type} [DecidableEq κ]
def jx (kvs:List (κ×V)) (k:κ):Option V:=(kvs.find? fun kv=>decide (kv.1=k)).map (·.2)
theorem jy {p:κ×V} {r:List (κ×V)} {k:κ} (e:p.1=k):jx (p::r) k=some p.2:=by simp[jx,List.find?_cons,e]
theorem jz {p:κ×V} {r:List (κ×V)} {k:κ} (e:¬p.1=k):jx (p::r) k=jx r k:=by simp[jx,List.find?_cons,e]
theorem KV.val {kvs:List (κ×V)} {vs:List (κ×Value)} (r:KV kvs vs) (k:κ):RelO (jx kvs k) (valueAt vs k):=by
 unfold KV at r
 induction r with
 | nil=>exact True.intro
 | @cons p q ps qs h t ih =>
  obtain⟨h1,h2⟩:=h
  by_cases e:p.1=k
  ·have e':q.1=k:=h1.symm.trans e
   have b:valueAt (q::qs) k=some q.2:=by simp[valueAt,List.find?_cons,e']
   rw[jy e,b];exact h2
  ·have e':¬q.1=k:=fun z=>e (h1.trans z)
   have b:valueAt (q::qs) k=valueAt qs k:=by simp[valueAt,List.find?_cons,e']
   rw[jz e,b];exact ih
end
theorem sd {P:Program} {w:World} {k:Key} {u:Value} (r:RelV (kV k) u):(mixKind P w).is k u=true:=by
 cases k with
 | inl i=>obtain⟨t,e⟩:=(show ∃t,u=Value.int i t from r);subst e;exact jq P w i t
 | inr x=>obtain⟨t,e⟩:=(show ∃t,u=Value.str x t from r);subst e;exact jr P w x t
theorem iq {P:Program} {w:World} :∀{ks:List Key} {us:List Value},Vals (ks.map kV) us→ItemsAre (mixKind P w) ks us
 | [],_,r=>by rw[List.map_nil]at r;cases r;exact .nil
 | k :: ks, _, r => by
  rw[List.map_cons]at r
  cases r with
  | cons h t=>exact .cons (sd h) (iq t)
def sM (i:Expr):Prop:=∀ov iv,subscripted i false ov iv=operate [ov,iv] (getItem ov iv)
theorem qv {prog:Program} {w:World} {A:Around} {E:Value→Shared→Prop} {s:Shared} {env:Env} {value slice:Expr} {pos:Pos} {T id:String} {Q:Value→Shared→Prop}
  (hl:typeLookup (.type T) "__getitem__" =pure (some (.builtin id))) (hs:sM slice)
  (h:wpAny (model prog w) A (eval value env) (fun o s₁=>wpAny (model prog w) A (eval slice env) (fun i s₂=>s₂.TypeIs o T∧wpAny (model prog w) A (getItem o i) Q E s₂) E s₁) E s):
  wpAny (model prog w) A (eval (.Subscript value slice pos) env) Q E s:=by
 refine Subscript_ (wpAny_mono h (fun o s₁ h₁=>wpAny_mono h₁ (fun i s₂ h₂=>?_) fun _ _ x=>x) fun _ _ x=>x)
 obtain⟨hT,h₂⟩:=h₂
 unfold subscriptTail
 refine wpAny_bind ?_
 rw[getitemInPython_of_ne hT.not_modules]
 refine wpAny_bind (wpAny_specialOf hT hl ?_)
 have fin:wpAny (model prog w) A (subscripted slice false o i) (fun r s₃=>wpAny (model prog w) A (letTemporaryGo value o r >>= fun _=>pure r) Q E s₃) E s₂:=by
  rw[hs o i]
  exact wpAny_operating (wpAny_mono h₂ (fun r s₃ h₃=>wpAny_bind (wpAny_letTemporaryGo (wpAny_pure h₃))) fun _ _ x=>x)
 first
  | exact wpAny_pure (wpAny_bind fin)
  | exact wpAny_bind (wpAny_pure (wpAny_bind fin))
  | exact wpAny_bind fin
end L2
namespace Att
open PySem PySem.W PySem.Calls PyProof.Rows
theorem gh {P:Params} {h:Heap} :∀(ns:List Int) (vs:List Value),WellAll P h vs (ns.map WData.int)→IntsAre vs ns:=by
 intro ns
 induction ns with
 | nil =>
  intro vs w
  rw[List.map_nil]at w
  cases w
  exact .nil
 | cons n ns ih =>
  intro vs w
  rw[List.map_cons]at w
  cases w with
  | cons a b =>
   cases a
   exact .cons _ _ (ih _ b)
theorem mM {l:OpenLaw} {n:Nat} (hn:l.most=some n) {P:Params} {h:Heap} {args:List WData} {vals:List Value}
  (hpre:l.row.toRowW.claim.pre args=true) (hwl:WellAll P h vals args):
  ∃a vs ns,vals=[Value.ref a]∧args=[WData.list (ns.map WData.int)]∧h.get? a=some {cls:=.type "list",data:=.seq vs.toArray}∧IntsAre vs ns∧ns.length≤n:=by
 have hsh:WShape.hasAll [] args [.list .int]=true:=(pre_splitW hpre).1
 have hc:l.pre.holds [] {args:=args} =true:=(pre_splitW hpre).2
 obtain⟨d,r,rfl,h1,h2⟩:=hasAllW_cons hsh
 obtain rfl:=hasAllW_nil h2
 obtain⟨xs,rfl,h3⟩:=hasW_list h1
 obtain⟨ns,rfl⟩:=items_int h3
 have hlen:ns.length≤n:=by
  unfold OpenLaw.pre at hc
  have h4:(WTm.not (.lt (.lit (.int (n:Int))) (.len (.arg 0)))).holds [] {args:=[.list (ns.map .int)]} =true:=by
   have h4:=(holds_andW hc).1
   rw[hn]at h4
   exact h4
  have h5:=condW_of h4 (w_not (w_lt w_lit (w_len_list (w_arg rfl))))
  rw[List.length_map]at h5
  refine Nat.le_of_not_lt fun q=>?_
  have q':(n:Int)< ((ns.length:Nat):Int):=by omega
  first
   | (rw[decide_eq_true q']at h5;exact absurd h5 (by decide))
   | (simp at h5;omega)
 cases hwl with
 | cons w1 w2 =>
  cases w2
  cases w1 with
  | list ho hall=>exact⟨_,_,ns,rfl,rfl,ho,gh ns _ hall,hlen⟩
theorem mN (l:OpenLaw) (args:List WData):l.row.toRowW.claim.post args (.bool true) args=true:=
 postW_of (r:=l.row.toRowW) (X:=(true == true))
  (show WShape.has [] (.bool true) .bool=true by first | rfl | decide | simp[WShape.has,WShape.arms,WShape.armsAll])
  (show(WTm.eq .res (.lit (.bool true))).value [] {args:=args,res:=some (.bool true),after:=args} =some (.bool (true == true))from w_eq_bool (w_res rfl) w_lit) rfl
theorem attach_call {l:OpenLaw} {n:Nat} {q:Program} {loose:List Str} {XP:(Str→Option Value)→Heap→Prop} {YP:World→Heap→Prop} {d:DefRec}
  (hn:l.most=some n) (hdf:d.params.defaults=[])
  (call:∀(w:World) (s₀ s₁:Shared) (mg mb:Str→Option Value) (fa:Addr) (o:Obj) (pm cd doc:Value) (a:Addr) (vs:List Value) (ns:List Int),
   Ground q loose [] XP w s₀ mg mb s₁.heap→YP w s₁.heap→
   s₁.heap.get? fa=some o→o.data=.func (docDef d.name d.params d.body d.scope pm cd doc)→s₁.heap.CodeRec cd d.name→mg d.name=some (.ref fa)→
   s₁.heap.get? a=some {cls:=.type "list",data:=.seq vs.toArray}→IntsAre vs ns→ns.length≤n→s₁.gens= #[]→
   codeAny (model l.prog w) callerA (.call (.ref fa) ⟨[.ref a],[]⟩) (fun r s'=>r=.ok (.ret (.bool true))∧OldK s₁.heap s'.heap∧s'.os=s₁.os∧AllBare s'.gens) s₁):
  WalkO q loose XP YP l.row.toRowW d [] (fun f vs=>PySem.call f vs):=by
 intro w s₀ s₁ mg mb G Y fa o pm cd doc dV kV ho hd hcd hD hmg hg args vals as hpre hlay hrd hwl hlo
 obtain rfl:dV=.none:=Dflts.none hD hdf
 obtain rfl:kV=.none:=Dflts.noKw hD
 obtain⟨a,vs,ns,rfl,rfl,hobj,hints,hlen⟩:=mM hn hpre hwl
 refine enter_call (codeAny_mono (call w s₀ s₁ mg mb fa o pm cd doc a vs ns G Y ho (fd_plain hd) hcd hmg hobj hints hlen hg) fun r s' hq=>?_)
 obtain⟨rfl,h2,h3,h4⟩:=hq
 exact⟨.inl ⟨.bool true,.bool true,[],rfl,fun _=>rfl,.bool true,mN l _,fun _=>⟨List.Pairwise.nil,fun _ hm=>(nomatch hm)⟩⟩,h2,h3,h4⟩
end Att
namespace L2
open PySem PySem.Spec PyProof.Rows
theorem fK:∀{vs:List Value} {ns:List Int},IntsAre vs ns→Vals (ns.map V.int) vs
 | _,_,.nil=>.nil
 | _,_,.cons n t h=>.cons ⟨t,rfl⟩ (fK h)
def sN (H:Hp):Prop:=∀b,H b=none∨∃o xs,H b=some (.frz o (.lst xs))
theorem o0 {P:Program} {w:World} {K:PySem.W.Frag} {mg mb:Str→Option Value} {CX:CXT} {k:Nat} {fa a:Addr} {fd:FuncData} {x:Str} {sp:Sp} {s₁:Shared} {vs:List Value} {ns:List Int}
  (KX:K.In s₁.heap) (hns:s₁.heap.Ns mainGlobals mg) (hb:s₁.heap.Ns builtinsNs mb) (hbb:∀x:Str,x≠"__name__" →mb x=bootBuiltins x) (hlim:s₁.heap.NoLimit) (hg:s₁.gens= #[])
  (ha:s₁.heap.get? a=some {cls:=.type "list",data:=.seq vs.toArray}) (hi:IntsAre vs ns) (hl:ns.length≤sizeLine) (hr:Room k callerA)
  (F:∀base:Heap,K.In base→base.Ns mainGlobals mg→FnOk P w K mg base CX k fa fd [x] sp) (hbind:∀(s:Shared) (u:Value),BindsTo s fd ⟨[u],[]⟩ [(x,u)])
  (hsp:∀H:Hp,sN H→SqL K H a (ns.map V.int)→sp [.ref a] H (fun v _=>v=.bl true) fun _ _ _=>False)
  (hCX:∀H e s',CX [] H s₁ (fun _ _ _=>False) e s'→False):
  codeAny (model P w) callerA (.call (.ref fa) ⟨[.ref a],[]⟩) (fun r s'=>r=.ok (.ret (.bool true))∧OldK s₁.heap s'.heap∧s'.os=s₁.os∧AllBare s'.gens) s₁:=by
 have rv:=fK hi
 have lenV:=hi.length
 have core:∀H:Hp,sN H→SqL K H a (ns.map V.int)→HOk P w H s₁.heap→(∀b,H b≠none→b=a)→(H a≠none→K.lookup a=none)→
   codeAny (model P w) callerA (.call (.ref fa) ⟨[.ref a],[]⟩) (fun r s'=>r=.ok (.ret (.bool true))∧OldK s₁.heap s'.heap∧s'.os=s₁.os∧AllBare s'.gens) s₁:=by
  intro H hO hS hok hA hK
  have base_of:∀{b:Addr} {o:Obj},s₁.heap.get? b=some o→H b=none→(iN s₁.heap H).get? b=some o:=fun e n=>nL e n
  have noA:∀{b:Addr} {o:Obj} {es:Array DictEntry} {ep:Nat},s₁.heap.get? b=some o→o.data=.dict es ep→H b=none:=fun {b o es ep} e d=>by
   cases q:H b with
   | none=>rfl
   | some u =>
    have e':b=a:=hA b (by rw[q];simp)
    subst e'
    rw[ha]at e;cases e
    have d':Data.seq vs.toArray _=Data.dict es ep:=d
    cases d'
  have nsK:∀{b:Addr} {m:Str→Option Value},s₁.heap.Ns b m→(iN s₁.heap H).Ns b m:=fun {b m} ⟨o,es,ep,e,d,r⟩=>⟨o,es,ep,base_of e (noA e d),d,r⟩
  have hKb:K.In (iN s₁.heap H):=fun b o e=>base_of (KX b o e) (by
   cases q:H b with
   | none=>rfl
   | some u =>
    have e':b=a:=hA b (by rw[q];simp)
    subst e'
    rw[hK (by rw[q];simp)]at e;cases e)
  have hM:Mod K mg (iN s₁.heap H):=⟨hKb,nsK hns,⟨mb,nsK hb,hbb⟩,let ⟨mc,h1,h2⟩:=hlim;⟨mc,nsK h1,h2⟩⟩
  have e0:Env0 P w K mg (iN s₁.heap H) callerA [] s₁ H:=⟨rfl,hM,fun b o e=>qk e,Nat.le_of_eq (mD _ _),trivial,fun b hb=>absurd (show b∈([]:List Addr)from hb) (by simp),hok,.of_eq hg⟩
  refine codeAny_mono ((F _ hKb (nsK hns)).run callerA [] s₁ H ⟨[.ref a],[]⟩ [.ref a] [.ref a] _ _ hr e0 (hbind s₁ (.ref a)) (.cons rfl .nil) (hsp H hO hS)) fun r s' h=>?_
  cases r with
  | error e=>exact(hCX H e s' h).elim
  | ok fl =>
   cases fl with
   | next=>exact False.elim h
   | brk=>exact False.elim h
   | cont=>exact False.elim h
   | ret u =>
    obtain⟨v,H',os,bare,un,hok',r',q⟩:=h
    have q':v=.bl true:=q
    subst q'
    obtain rfl:u=Value.bool true:=r'
    refine⟨rfl,OldK.of_keep fun b o e=>?_,os,bare⟩
    cases q:H b with
    | none=>exact un.keep b o e q (by intro z;exact absurd (show b∈([]:List Addr)from z) (by simp)) (by simp)
    | some u =>
     rcases hO b with z | ⟨ob,xs,z⟩
     ·rw[q]at z;cases z
     ·have z2:=un.frzs b ob _ z
      obtain⟨e1,_⟩:=hok b _ z
      obtain⟨e2,_⟩:=hok' b _ z2
      rw[e]at e1;cases e1
      exact e2
 cases hk:K.lookup a with
 | some o =>
  have e:=KX a o hk
  rw[ha]at e
  cases e
  refine core (fun _=>none) (fun _=>.inl rfl) (.inr ⟨_,vs.toArray,_,hk,rfl,rfl,rfl,by rw[List.size_toArray,lenV];exact hl,by simpa using rv⟩) (fun b u z=>by have z':(none:Option HO)=some u:=z;cases z') (fun b z=>absurd rfl z) fun z=>absurd rfl z
 | none =>
  refine core (fun b=>if b=a then some (.frz {cls:=.type "list",data:=.seq vs.toArray} (.lst (ns.map V.int)))else none) (fun b=>?_) (.inl (.inr ⟨{cls:=.type "list",data:=.seq vs.toArray},if_pos rfl⟩)) (fun b u z=>?_) (fun b z=>?_) fun _=>hk
  ·by_cases hb:b=a
   ·exact .inr ⟨_,_,if_pos hb⟩
   ·exact .inl (if_neg hb)
  ·by_cases hb:b=a
   ·have z':=(if_pos hb).symm.trans z
    cases z'
    subst hb
    exact⟨ha,by rw[List.length_map];exact hl,vs,_,rv,ha⟩
   ·have z':=(if_neg hb).symm.trans z
    cases z'
  ·by_cases hb:b=a
   ·exact hb
   ·exact absurd (if_neg hb) z
end L2
namespace L2
open PySem PySem.Spec PyProof.Rows
theorem walk_of {l:PySem.W.OpenLaw} {n k:Nat} {q:Program} {loose:List Str} {XP:(Str→Option Value)→Heap→Prop} {YP:World→Heap→Prop} {d:DefRec} {K:Params→PySem.W.Frag} {CX:World→CXT} {sp:World→Sp} {x:Str}
  (hn:l.most=some n) (hn2:n≤sizeLine) (hdf:d.params.defaults=[]) (hr:Room k callerA)
  (hY:∀(w:World) (h:Heap),YP w h→(K w.params).In h)
  (F:∀(w:World) (mg:Str→Option Value) (fa:Addr) (h:Heap),(K w.params).In h→h.Ns mainGlobals mg→mg d.name=some (.ref fa)→
   ∃ fd : FuncData, (∀ (s : Shared) (u : Value), BindsTo s fd ⟨[u], []⟩ [(x, u)]) ∧
    ∀base:Heap,(K w.params).In base→base.Ns mainGlobals mg→FnOk l.prog w (K w.params) mg base (CX w) k fa fd [x] (sp w))
  (hsp:∀(w:World) (H:Hp) (a:Addr) (ns:List Int),ns.length≤n→sN H→SqL (K w.params) H a (ns.map V.int)→sp w [.ref a] H (fun v _=>v=.bl true) fun _ _ _=>False)
  (hCX:∀(w:World) (H:Hp) (s:Shared) (e:Value) (s':Shared),CX w [] H s (fun _ _ _=>False) e s'→False):
  PySem.W.WalkO q loose XP YP l.row.toRowW d [] (fun f vs=>PySem.call f vs):=by
 refine Att.attach_call hn hdf fun w s₀ s₁ mg mb fa o pm cd doc a vs ns G Y ho hd hcd hmg hobj hints hlen hg=>?_
 have KX:=hY w _ Y
 obtain⟨fd,hb,hF⟩:=F w mg fa _ KX G.T.g hmg
 exact o0 KX G.T.g G.T.b G.T.builtins G.T.nolimit hg hobj hints (Nat.le_trans hlen hn2) hr hF hb (fun H hO hS=>hsp w H a ns hlen hO hS) fun H e s'=>hCX w H s₁ e s'
end L2
namespace L2
open PySem PySem.Spec PyProof.Rows
def defArgs (s:Stmt):Arguments:=match s with
 | .FunctionDef _ a _ _ _ _ _ _ _ _=>a
 | _=>{posonlyargs:=[],args:=[],vararg:=none,kwonlyargs:=[],kw_defaults:=[],kwarg:=none,defaults:=[]}
def defBody (s:Stmt):List Stmt:=match s with
 | .FunctionDef _ _ b _ _ _ _ _ _ _=>b
 | _=>[]
def defScope (s:Stmt):Scope:=match s with
 | .FunctionDef _ _ _ _ _ _ sc _ _ _=>sc
 | _=>{kind:=.function,names:=[],isGenerator:=false,isCoroutine:=false}
abbrev CX0:CXT:=fun _ _ _ _ _ _=>False
abbrev E0:XK:=fun _ _ _=>False
theorem ur {X:Cx} :kJ CX0 X E0:=fun _ _ _ _ _ _ _ h=>h.elim
structure Fun (K:PySem.W.Frag) (x qual:Str) (st:Stmt) (f:Addr) (fd:FuncData):Prop where
 ex:∃(oc:Value) (od:Option Addr) (kV doc pm:Value) (an:Option Addr) (cdv ct:Value) (osl:Array (Option Value)),
  fd=PySem.W.fnOf x qual (defArgs st) (defBody st) (defScope st) .none kV doc pm an cdv ct∧K.lookup f=some ⟨oc,od,.func fd,osl⟩∧PySem.W.codeIn K cdv qual=true
 kp:PySem.W.keepIn K (.ref f)=true
section
variable {P:Program} {w:World} {K:PySem.W.Frag} {mg:Str→Option Value} {base:Heap}
theorem Fun.ok {x qual:Str} {st:Stmt} {f:Addr} {fd:FuncData} {N ps:List Str} {k:Nat} {sp:Sp} (F:Fun K x qual st f fd) (S:FnScope N ps (defScope st)) (len:∀vs H Q E,sp vs H Q E→vs.length=ps.length)
  (hbody:∀(cdv:Value) (A:Around) (outer:List Env) (s:Shared) (H:Hp) (vs:List V) (Q:VK) (E:XK),Room k (A.deeper (envOfC qual (defScope st) s.heap.objs.size f cdv))→sp vs H Q E→
   ∃t,PSs (mJ CX0 P w K mg base N qual (defScope st) f cdv A outer s H E).nox (defBody st) t∧t {nx:=fun _ H'=>Q .non H',rt:=Q} (start N vs) H):FnOk P w K mg base CX0 (k+1) f fd ps sp:=by
 obtain⟨oc,od,kV,doc,pm,an,cdv,ct,osl,rfl,lk,hcd⟩:=F.ex
 refine ul lk hcd S len fun A outer s H vs Q E hr hsp=>?_
 obtain⟨t,h,q⟩:=hbody cdv A outer s H vs Q E hr hsp
 exact⟨t,h.nox,q⟩
theorem Fun.binds {x qual:Str} {st:Stmt} {f:Addr} {fd:FuncData} {ps:List Str} (F:Fun K x qual st f fd)
  (h:∀(kV doc pm:Value) (an:Option Addr) (cdv ct:Value) (us:List Value),us.length=ps.length→bindArgs (PySem.W.fnOf x qual (defArgs st) (defBody st) (defScope st) .none kV doc pm an cdv ct) ⟨us,[]⟩=pure (ps.zip us)):Binds K fd ps []:=by
 obtain⟨oc,od,kV,doc,pm,an,cdv,ct,osl,rfl,lk,hcd⟩:=F.ex
 exact .all (h kV doc pm an cdv ct)
theorem aQ {x qual:Str} {st:Stmt} {f:Addr} {oc:Value} {od an:Option Addr} {osl:Array (Option Value)} {kV doc pm cdv ct:Value} (l:K.lookup f=some ⟨oc,od,.func (PySem.W.fnOf x qual (defArgs st) (defBody st) (defScope st) .none kV doc pm an cdv ct),osl⟩)
  (c:PySem.W.codeIn K cdv qual=true) (k:PySem.W.keepIn K (.ref f)=true):Fun K x qual st f (PySem.W.fnOf x qual (defArgs st) (defBody st) (defScope st) .none kV doc pm an cdv ct):=⟨⟨oc,od,kV,doc,pm,an,cdv,ct,osl,rfl,l,c⟩,k⟩
end
section
variable {X:Cx}
theorem pv (i:Nat) {x:Str} {pos:Pos} (hN:X.N[i]? =some x:=by rfl) (hv:Vis X.env.scope x:=by first | exact Or.inl rfl | exact Or.inr (Or.inl rfl) | exact Or.inr (Or.inr rfl)) (hd:(x == ("__debug__" :Str))=false:=by decide)
  (hcd:(x == ("__classdict__" :Str))=false:=by decide):PE X (.Name x pos) (bz i):=sy hN hv hd hcd
end
def Same (H H':Hp):Prop:=∀b o,H b=some o→H' b=some o
theorem Same.refl (H:Hp):Same H H:=fun _ _ h=>h
theorem Same.trans {H H1 H2:Hp} (a:Same H H1) (b:Same H1 H2):Same H H2:=fun c o h=>b c o (a c o h)
theorem Same.seq {K:PySem.W.Frag} {H H':Hp} {a:Addr} {xs:List V} (e:Same H H') (h:SqL K H a xs):SqL K H' a xs:=by
 rcases h with(h | ⟨o,h⟩) | h
 ·exact .inl (.inl (e _ _ h))
 ·exact .inl (.inr ⟨o,e _ _ h⟩)
 ·exact .inr h
end L2
set_option maxHeartbeats 4000000
namespace L2
open PySem PySem.Spec PyProof.Rows
abbrev aj (l:List Nat):Str:=⟨l.toArray⟩
theorem cJ (l:List Nat):(aj l).length=l.length:=by simp[Str.length,aj]
theorem lC (l:List Nat):(aj l).cps.toList=l:=by simp[aj]
theorem kN (a b:List Nat):aj a++aj b=aj (a++b):=by
 apply PySem.Str.ext'
 rw[PySem.Str.cps_append]
 simp[aj]
theorem lD {a b:List Nat} (h:aj a=aj b):a=b:=by
 have:=congrArg (fun x=>x.cps.toList) h
 simpa [aj] using this
theorem o4 (x:Str):x=aj x.cps.toList:=by cases x;simp[aj]
def DictK (K:PySem.W.Frag) (w:World) (a:Addr) (kvs:List (Key×V)):Prop:=
 kvs.length≤1000∧(a == sysModules)=false∧(kvs.map (·.1)).Nodup∧∃(es:Array DictEntry) (ep:Nat),K.lookup a=some {cls:=.type "dict",data:=.dict es ep}∧
  Paired (fun(p:Key×V) (e:DictEntry)=>ef p.1 e.key=true∧e.hash=nK w p.1∧RelV p.2 e.val) kvs es.toList
theorem jA {P:Program} {w:World} {kvs:List (Key×V)} {es:List DictEntry} (r:Paired (fun(p:Key×V) (e:DictEntry)=>ef p.1 e.key=true∧e.hash=nK w p.1∧RelV p.2 e.val) kvs es):
  ∀e∈es,∃k,ef k e.key=true∧e.hash=nK w k:=by
 induction r with
 | nil=>intro e h;cases h
 | @cons p e ps es h t ih =>
  intro e' h'
  rcases List.mem_cons.mp h' with rfl | h'
  ·exact⟨p.1,h.1,h.2.1⟩
  ·exact ih e' h'
theorem iX {P:Program} {w:World} {kvs:List (Key×V)} {es:List DictEntry} (r:Paired (fun(p:Key×V) (e:DictEntry)=>ef p.1 e.key=true∧e.hash=nK w p.1∧RelV p.2 e.val) kvs es):
  ∃vs,KV kvs vs∧Pairs (mixKind P w) es vs∧vs.map (·.1)=kvs.map (·.1):=by
 induction r with
 | nil=>exact⟨[],.nil,.nil,rfl⟩
 | @cons p e ps es h t ih =>
  obtain⟨vs,h1,h2,h3⟩:=ih
  exact⟨(p.1,e.val)::vs,.cons ⟨rfl,h.2.2⟩ h1,.cons h.1 rfl h2,by simp[h3]⟩
theorem DictK.of {P:Program} {w:World} {K:PySem.W.Frag} {a:Addr} {kvs:List (Key×V)} {h:Heap} (d:DictK K w a kvs) (x:K.In h):(a == sysModules)=false∧∃vs,KV kvs vs∧h.DictOf (mixKind P w) a vs:=by
 obtain⟨hz,hs,nd,es,ep,lk,r⟩:=d
 obtain⟨vs,h1,h2,h3⟩:=iX (P:=P) r
 refine⟨hs,vs,h1,_,es,ep,x _ _ lk,⟨rfl,rfl,rfl⟩,rfl,fun e he=>jA (P:=P) r e (by simpa using he),h2,by rw[h3];exact nd⟩
section
variable {X:Cx} {o i e:Expr} {pos:Pos} {td ty:TE}
def aI (K:PySem.W.Frag) (w:World) (td ty:TE):TE:=fun σ H Q=>td σ H fun x H1=>ty σ H1 fun y H2=>∃a kvs k v,x=.ref a∧DictK K w a kvs∧y=kV k∧jx kvs k=some v∧Q v H2
theorem o6 (ho:PE X o td) (hi:PE X i ty) (hs:sM i):PE X (.Subscript o i pos) (aI X.K X.w td ty):=by
 intro pins s σ H Q I h
 refine qv PySem.F.slot_dict_getitem.lookup hs (bF (ho pins s σ H _ I h) fun u s1 ⟨x,H1,I1,rx,q1⟩=>bF (hi pins s1 σ H1 _ I1 q1) fun iv s2 ⟨y,H2,I2,ry,a,kvs,k,v,ex,dk,ey,ev,q2⟩=>?_)
 subst ex ey
 obtain rfl:u=Value.ref a:=rx
 obtain⟨hd,vs,rel,dd⟩:=dk.of (P:=X.prog) I2.kIn
 refine⟨dd.typeIs,?_⟩
 obtain⟨w',hw,rw'⟩:=RelO.some_of (v:=v) (o:=valueAt vs k) (by rw[←ev];exact rel.val k)
 exact wpAny_getItem_of (sd ry) dd.mapOf hw ⟨v,H2,I2.tok _,rw',q2⟩
end
section
variable {X:Cx}
theorem gG:OpR X (compareOp .Is) (fun x y H Q=>∃c,y=.bl c∧Q (.bl (decide (x=.bl c))) H):=by
 intro pins s σ H x y v u Q I rx ry h
 obtain⟨c,rfl,q⟩:=h
 cases ry
 cases x with
 | bl b=>cases rx;exact is_bool (aK I q (by cases b <;> cases c <;> simp))
 | non=>cases rx;exact wpAny_pure (aK I q (by simp))
 | int i=>obtain⟨t,rfl⟩:=rx;exact wpAny_pure (aK I q (by simp))
 | str i=>obtain⟨t,rfl⟩:=rx;exact wpAny_pure (aK I q (by simp))
 | byt i=>obtain⟨t,rfl⟩:=rx;exact wpAny_pure (aK I q (by simp))
 | flt i=>obtain⟨t,rfl⟩:=rx;exact wpAny_pure (aK I q (by simp))
 | ref a=>cases rx;exact wpAny_pure (aK I q (by simp))
 | ty a=>cases rx;exact wpAny_pure (aK I q (by simp))
theorem kO:OpR X (binaryOp .Mult) (fun x y H Q=>∃c n,x=.str (aj [c])∧y=.int n∧0≤n∧n≤100000∧Q (.str (aj (List.replicate n.toNat c))) H):=by
 intro pins s σ H x y v u Q I rx ry h
 obtain⟨c,n,rfl,rfl,h0,h1,q⟩:=h
 obtain⟨t,rfl⟩:=rx
 obtain⟨t',rfl⟩:=ry
 have hl:(aj [c]).length=1:=cJ [c]
 refine SB.mul ?_ fun t' k=>?_
 ·refine⟨?_,fun _ _=>?_,fun _ _=>?_⟩
  ·have e1:decide (n< -(2^63:Int))=false:=decide_eq_false (by omega)
   have e2:decide (n≥2^63)=false:=decide_eq_false (by omega)
   rw[e1,e2];rfl
  ·rw[hl]
   have h2:1≤n:=by omega
   have:(1:Int)≤(2^63- 1)/ n:=(Int.le_ediv_iff_mul_le (by omega)).mpr (by omega)
   omega
  ·rw[hl]
   unfold Builtin.Str.tooLong
   have:=sizeLine_eq
   simp
   omega
 ·have e:Txt.mul (aj [c]) n=aj (List.replicate n.toNat c):=by
   rw[o4 (Txt.mul (aj [c]) n)]
   show aj ((Txt.mul ⟨#[c]⟩ n).cps.toList)=_
   rw[mul_one_list]
  exact⟨.str _,H,I.tok _,⟨t',rfl⟩,by rw[e];exact q⟩
end
end L2
namespace L2
open PySem PySem.Spec PyProof.Rows
section
variable {X:Cx}
def gi (l:List Nat) (lo hi:Option Int):List Nat:=(l.drop (HT.sIx l.length 0 lo)).take (HT.sIx l.length l.length hi- HT.sIx l.length 0 lo)
theorem gH (lo hi:Option Int) (n:Nat):Builtin.Str.strSliceIndices lo hi 1 n=sliceRange ((HT.sIx n 0 lo:Nat):Int) ((HT.sIx n n hi:Nat):Int) 1:=by
 unfold Builtin.Str.strSliceIndices
 have e1:(match lo with | none=>(0:Int) | some i=>max 0 (min (if i< 0 then i+(n:Int)else i) n))=((HT.sIx n 0 lo:Nat):Int):=by
  cases lo with
  | none=>simp[HT.sIx]
  | some i=>simp only[HT.sIx];by_cases h:i< 0 <;> simp only[h,if_true,if_false] <;> omega
 have e2:(match hi with | none=>(n:Int) | some i=>max 0 (min (if i< 0 then i+(n:Int)else i) n))=((HT.sIx n n hi:Nat):Int):=by
  cases hi with
  | none=>simp[HT.sIx]
  | some i=>simp only[HT.sIx];by_cases h:i< 0 <;> simp only[h,if_true,if_false] <;> omega
 simp only[show(1:Int)> 0 by decide,if_true]
 rw[←e1,←e2]
 cases lo <;> cases hi <;> rfl
theorem mO (l:List Nat) (lo hi:Option Int):Txt.slice (aj l) lo hi=aj (gi l lo hi):=by
 have hn:(aj l).length=l.length:=cJ l
 have hk:(Builtin.Str.strSliceIndices lo hi 1 l.length).filterMap ((aj l).cps[·]?)=gi l lo hi:=by
  rw[gH,sliceRange_one,pick_run]
  simp[gi]
 have hlen:(Builtin.Str.strSliceIndices lo hi 1 l.length).length=(gi l lo hi).length:=by
  rw[gH,sliceRange_one]
  have h1:=HT.sIx_le l.length 0 (Nat.zero_le _) lo
  have h2:=HT.sIx_le l.length l.length (Nat.le_refl _) hi
  simp[gi]
  omega
 unfold Txt.slice
 rw[hn]
 split
 ·rename_i h
  have h:(Builtin.Str.strSliceIndices lo hi 1 l.length).length=l.length:=by simpa using h
  have hl:=hlen.symm.trans h
  have e:gi l lo hi=l:=by
   have h3:(gi l lo hi).length≤(l.drop (HT.sIx l.length 0 lo)).length:=by unfold gi;simp;omega
   have h4:HT.sIx l.length 0 lo=0∨l.length=0:=by
    rw[List.length_drop]at h3;omega
   rcases h4 with h4 | h4
   ·unfold gi at hl ⊢
    rw[h4]at hl ⊢
    rw[List.drop_zero]at hl ⊢
    rw[List.length_take]at hl
    exact List.take_of_length_le (by omega)
   ·have:l=[]:=List.length_eq_zero_iff.mp h4
    subst this
    simp[gi]
  rw[e]
 ·rw[hk]
theorem o7:uZ X (fun x lo hi H Q=>∃l,x=.str (aj l)∧l.length≤sizeLine∧Q (.str (aj (gi l lo hi))) H):=by
 intro pins s σ H x v vl vu lo hi sl Q I rx hs pl pu h
 obtain⟨l,rfl,hz,q⟩:=h
 obtain⟨t,rfl⟩:=rx
 obtain⟨a1,rfl,e1⟩:∃a:Option (Int×Tok),vl=partValue a∧a.map (·.1)=lo:=by
  cases pl with
  | none=>exact⟨none,rfl,rfl⟩
  | int i t=>exact⟨some (i,t),rfl,rfl⟩
 obtain⟨a2,rfl,e2⟩:∃a:Option (Int×Tok),vu=partValue a∧a.map (·.1)=hi:=by
  cases pu with
  | none=>exact⟨none,rfl,rfl⟩
  | int i t=>exact⟨some (i,t),rfl,rfl⟩
 have hle:(Txt.slice (aj l) lo hi).length≤sizeLine:=Nat.le_trans (Txt.slice_le _ _ _) (by rw[cJ];exact hz)
 refine⟨"str",_,PySem.F.slot_str_getitem.lookup,typeIs_str _ _ _,wpAny_getItem_str_slice (l:=a1) (u:=a2) (st:=none) hs rfl ?_⟩
 subst e1 e2
 refine post_val_or_str ⟨hle,fun t' k=>⟨.str _,H,I.tok _,⟨t',rfl⟩,?_⟩⟩
 have:=mO l (a1.map (·.1)) (a2.map (·.1))
 unfold Txt.slice at this
 show Q (.str (if _ then _ else _)) H
 exact this▸q
theorem o9 (hc:X.calm=true):um X "str.index" (fun x xs H Q=>∃a b,x=.str a∧xs=[.str b]∧0≤Txt.find a b∧Q (.int (Txt.find a b)) H):=by
 intro pins s σ H x xs v us Q I rx rs h
 obtain⟨a,b,rfl,rfl,h0,q⟩:=h
 obtain⟨t,rfl⟩:=rx
 obtain⟨u,rfl,t',rfl⟩:=eA rs
 refine index_or (I.ok.hd hc) (fun e=>?_) fun _ _=>⟨.int _,H,I.tok _,⟨_,rfl⟩,q⟩
 omega
theorem kP {ys:List (List Nat)} :∀{us:List Value},Vals (ys.map fun y=>V.str (aj y)) us→StrsAre us (ys.map aj):=by
 induction ys with
 | nil=>intro us r;cases r;exact .nil
 | cons y ys ih =>
  intro us r
  cases r with
  | cons r1 r2 =>
   obtain⟨t,e⟩:=r1
   subst e
   exact .cons _ t (ih r2)
theorem kQ (ys:List (List Nat)):Txt.join (aj []) (ys.map aj)=aj ys.flatten:=by
 have key:∀(r:List (List Nat)) (acc:List Nat),(r.map aj).foldl (fun acc p=>acc++(aj []).cps++p.cps) acc.toArray=(acc++r.flatten).toArray:=by
  intro r
  induction r with
  | nil=>intro acc;simp
  | cons a r ih =>
   intro acc
   rw[List.map_cons,List.foldl_cons,List.flatten_cons,←List.append_assoc,←ih (acc++a)]
   simp[aj]
 cases ys with
 | nil=>rfl
 | cons a r =>
  show Str.mk (((r.map aj)).foldl (fun acc p=>acc++(aj []).cps++p.cps) a.toArray)=_
  rw[key]
  rfl
theorem qw:um X "str.join" (fun x xs H Q=>∃(p:Addr) (ys:List (List Nat)),x=.str (aj [])∧xs=[.ref p]∧SqL X.K H p (ys.map fun y=>V.str (aj y))∧ys.flatten.length≤100000∧Q (.str (aj ys.flatten)) H):=by
 intro pins s σ H x xs v us Q I rx rs h
 obtain⟨p,ys,rfl,rfl,hp,hl,q⟩:=h
 obtain⟨t,rfl⟩:=rx
 obtain⟨u,rfl,r1⟩:=eA rs
 cases r1
 obtain⟨its,r,pl,hz⟩:=I.list hp
 refine join_list pl.isList (by simpa using kP r) ?_ fun t' k=>⟨.str _,H,I.tok _,⟨t',rfl⟩,by rw[kQ];exact q⟩
 have e:((ys.map aj).map (·.length)).sum=ys.flatten.length:=by
  rw[List.map_map,List.length_flatten]
  congr 1
  all_goals exact List.map_congr_left fun y _=>cJ y
 have e2:(aj []).length=0:=cJ []
 rw[e,e2]
 omega
theorem jB:cQ X (.builtin "isinstance") (fun xs H Q=>∃x T t b,xs=[x,.ty T]∧TyOf X.K H x t∧PySem.W.kitOne X.K t (.type T)=some b∧Q (.bl b) H):=by
 intro pins s σ H xs us Q I r h
 obtain⟨x,T,t,b,rfl,ty,e,q⟩:=h
 obtain⟨u,w',rfl,rx,rT⟩:=nX r
 obtain rfl:w'=.type T:=rT
 exact mI I rx ty e fun tk=>⟨.bl b,H,I.tok _,rfl,q⟩
def wa (l:List Nat):It:=⟨fun i _=>i< l.length,fun i H x H'=>H'=H∧∃c,l[i]? =some c∧x=.str (aj [c]),fun i _=>l.length≤i⟩
def ut (tl:TE):TI:=fun σ H R=>tl σ H fun x H1=>∃l,x=.str (aj l)∧R (wa l) H1
end
theorem oa {P:Program} {w:World} {K:PySem.W.Frag} {tg:Expr} (l:List Nat) (it:Addr) (ty:String) (t:Tok) (hty:ty="str_ascii_iterator" ∨ty="str_iterator")
  (W:∀A':Around,A'.handled=none→Walks P w A' it [it] [it] l.length (SignAt (aj l)) (fun i h=>h.IsStrIter it ty (aj l) t i)):
  Turn P w K tg (wa l) [it] it (fun i h=>i≤l.length∧h.IsStrIter it ty (aj l) t i) where
 mem:=by simp
 obj:=fun i h st b hb=>by
  have e:b=it:=by simpa using hb
  subst e
  obtain⟨_,o,e,c,d⟩:=st
  exact⟨o,e,fun v z=>by rw[d]at z;cases z⟩
 keep:=fun i h h' st k=>⟨st.1,by obtain⟨o,e,r⟩:=st.2;exact⟨o,k it (by simp) o e,r⟩⟩
 item:=by
  intro X hP hw hK hc i pins s σ H E I hf st hg
  subst hP hw hK
  obtain⟨f0,f1,f2,f3,f4,f5⟩:=hf it (by simp)
  refine(W X.A (I.ok.hd hc)).item i s _ _ hg st.2 fun v h' tk hv st' kk=>?_
  obtain⟨c,u,hc',rfl⟩:=hv
  have I1:Inv X pins σ H {s with heap:=h',toks:=tk} :=I.turned (fun b o hb e=>kk b o (by simpa using hb) e) f0 f1 f3 f4 f5
  obtain⟨o,e,c1,d⟩:=id st'
  refine⟨_,rfl,nO (s:={s with heap:=h',toks:=tk}) (n:=ty) e c1 d (by rcases hty with rfl | rfl <;> decide) ⟨.str (aj [c]),H,I1,⟨u,rfl⟩,⟨rfl,c,?_,rfl⟩,⟨hg,st'⟩,fun b hb=>(hf b hb).1⟩⟩
  simpa [aj] using hc'
 done:=by
  intro X hP hw hK hc i pins s σ H E I hf st hg
  subst hP hw hK
  obtain⟨f0,f1,f2,f3,f4,f5⟩:=hf it (by simp)
  have e:i=l.length:=Nat.le_antisymm st.1 hg
  subst e
  exact(W X.A (I.ok.hd hc)).done s _ _ st.2 fun h' tk kk=>⟨rfl,I.turned (fun b o hb e=>kk b o (by simpa using hb) e) f0 f1 f3 f4 f5⟩
 self:=fun A i s Q E st h=>by
  rcases hty with rfl | rfl
  ·exact wpAny_pyIter_striter_ascii st.2 h
  ·exact wpAny_pyIter_striter_wide st.2 h
theorem fL {X:Cx} {tg l:Expr} {tl:TE} (hl:PE X l tl):PI X tg l (ut tl):=by
 intro pins s σ H R I h
 refine bF (hl pins s σ H _ I h) fun v s1 ⟨x,H1,I1,r1,q1⟩=>?_
 obtain⟨y,e,q⟩:=q1
 subst e
 obtain⟨t,rfl⟩:=r1
 have hn:(aj y).cps.size=y.length:=by simp[aj]
 have fin:∀(ob:Obj) (ty:String),(ty="str_ascii_iterator" ∨ty="str_iterator")→(∀A':Around,A'.handled=none→Walks X.prog X.w A' s1.heap.objs.size [s1.heap.objs.size] [s1.heap.objs.size] y.length (SignAt (aj y)) (fun i h=>h.IsStrIter s1.heap.objs.size ty (aj y) t i))→
   (s1.heap.push ob).IsStrIter s1.heap.objs.size ty (aj y) t 0→vR X pins σ tg R (.ref s1.heap.objs.size) {s1 with heap:=s1.heap.push ob} :=fun ob ty hty W st=>by
  refine⟨s1.heap.objs.size,[s1.heap.objs.size],_,_,H1,rfl,I1.kept (t':=s1.toks) fun b o e=>Heap.get?_push_of_some _ e,oa y _ ty t hty W,⟨Nat.zero_le _,st⟩,fun b hb=>?_,q⟩
  have e:b=s1.heap.objs.size:=by simpa using hb
  subst e
  exact I1.fpOk (Nat.le_refl _) (I1.hok.fresh (Nat.le_refl _))
 cases ha:(aj y).cps.all (· <128)
 ·exact wpAny_pyIter_wide ha (fin _ "str_iterator" (.inr rfl) (fun A' hA=>hn▸Walks.strWide hA _ (aj y) t) ⟨_,Heap.get?_push_size _ rfl,rfl,rfl⟩)
 ·exact wpAny_pyIter_ascii ha (fin _ "str_ascii_iterator" (.inl rfl) (fun A' hA=>hn▸Walks.strAscii hA _ (aj y) t) ⟨_,Heap.get?_push_size _ rfl,rfl,rfl⟩)
end L2
namespace L2
open PySem PySem.Spec PyProof.Rows
def bA (env:Env):List (Str×NameKind)→List (Str×Addr)→List (Str×Addr)
 | [],acc=>acc
 | (n,k)::r,acc=>bA env r (if(k == .free)=true then(n,(env.cells.lookup n).getD 0)::acc else acc)
theorem du {scope:Scope} {env:Env} (h:∀x∈scope.names,x.2=.free→∃c,env.cells.lookup x.1=some c):closureFor scope env=pure (bA env scope.names []):=by
 simp only[closureFor]
 have key:∀(names:List (Str×NameKind)) (acc:List (Str×Addr)),(∀x∈names,x.2=.free→∃c,env.cells.lookup x.1=some c)→
   (forIn names acc fun(x:Str×NameKind) (cs:List (Str×Addr))=>if(x.2 == .free)=true then(do let a ←cellOf env x.1;pure (ForInStep.yield ((x.1,a)::cs)))else pure (ForInStep.yield cs))=(pure (bA env names acc):Sem _):=by
  intro names
  induction names with
  | nil=>intro acc _;rfl
  | cons x r ih =>
   intro acc hx
   obtain⟨n,k⟩:=x
   rw[List.forIn_cons]
   have hr:∀y∈r,y.2=.free→∃c,env.cells.lookup y.1=some c:=fun y hy=>hx y (List.mem_cons_of_mem _ hy)
   unfold bA
   by_cases hk:(k == NameKind.free)=true
   ·obtain⟨c,hc⟩:=hx (n,k) List.mem_cons_self (by simpa using hk)
    have hc:env.cells.lookup n=some c:=hc
    simp only[hk,if_true]
    unfold cellOf
    simp only[hc,Option.getD_some]
    exact ih _ hr
   ·simp only[hk,if_false]
    exact ih _ hr
 have:=key scope.names [] h
 rw[this]
 rfl
theorem eB {env:Env} {x:Str} {c:Addr} :∀(names:List (Str×NameKind)) (acc:List (Str×Addr)),(∀y∈names,y.2=.free→∃c,env.cells.lookup y.1=some c)→(bA env names acc).lookup x=some c→
  ((x,NameKind.free)∈names∧env.cells.lookup x=some c)∨acc.lookup x=some c
 | [],_,_,h=>.inr h
 | (n, k) :: r, acc, hx, h => by
  unfold bA at h
  rcases eB r _ (fun y hy=>hx y (List.mem_cons_of_mem _ hy)) h with⟨q1,q2⟩ | q
  ·exact .inl ⟨List.mem_cons_of_mem _ q1,q2⟩
  ·by_cases hk:(k == NameKind.free)=true
   ·rw[if_pos hk]at q
    have hk':k=.free:=by simpa using hk
    subst hk'
    rw[List.lookup_cons]at q
    cases hb:x == n with
    | true =>
     rw[hb]at q
     have e:x=n:=beq_iff_eq.mp hb
     subst e
     obtain⟨c',hc⟩:=hx (x,.free) List.mem_cons_self rfl
     have hc:env.cells.lookup x=some c':=hc
     rw[hc]at q
     simp at q
     subst q
     exact .inl ⟨List.mem_cons_self,hc⟩
    | false=>rw[hb]at q;exact .inr q
   ·rw[if_neg hk]at q;exact .inr q
theorem fX {env:Env} {x:Str} {c:Addr} :∀(names:List (Str×NameKind)) (acc:List (Str×Addr)),acc.lookup x=some c→env.cells.lookup x=some c→(bA env names acc).lookup x=some c
 | [],_,h,_=>h
 | (n, k) :: r, acc, h, he => by
  unfold bA
  refine fX r _ ?_ he
  by_cases hk:(k == NameKind.free)=true
  ·rw[if_pos hk,List.lookup_cons]
   cases hb:x == n with
   | true =>
    have e:x=n:=beq_iff_eq.mp hb
    subst e
    simp[he]
   | false=>exact h
  ·rw[if_neg hk];exact h
theorem fY {env:Env} {x:Str} {c:Addr} :∀(names:List (Str×NameKind)) (acc:List (Str×Addr)),(x,NameKind.free)∈names→env.cells.lookup x=some c→(bA env names acc).lookup x=some c
 | (n, k) :: r, acc, h, he => by
  unfold bA
  rcases List.mem_cons.mp h with e | h
  ·cases e
   exact fX r _ (by simp[he]) he
  ·exact fY r _ h he
theorem bR:∀(names:List (Str×NameKind)) (n:Nat) (acc:List (Str×Addr)),cellsFrom n names acc=cellsFrom n names []++acc
 | [],_,_=>rfl
 | (x, k) :: r, n, acc => by
  unfold cellsFrom
  split
  ·rw[bR r _ ((x,n)::acc),bR r _ [(x,n)],List.append_assoc];rfl
  ·exact bR r n acc
theorem cP:∀(names:List (Str×NameKind)) (n:Nat) {x:Str} {c:Addr},(x,c)∈cellsFrom n names []→(x,NameKind.cell)∈names
 | [],_,_,_,h=>by cases h
 | (y, k) :: r, n, x, c, h => by
  unfold cellsFrom at h
  split at h
  ·rename_i hk
   rw[bR]at h
   rcases List.mem_append.mp h with h | h
   ·exact List.mem_cons_of_mem _ (cP r _ h)
   ·have e:(x,c)=(y,n):=by simpa using h
    cases e
    have hk':k=.cell:=by simpa using hk
    subst hk'
    exact List.mem_cons_self
  ·exact List.mem_cons_of_mem _ (cP r _ h)
theorem gJ {M:Model} {A:Around} {E:Value→Shared→Prop} {s:Shared} {scope:Scope} {env:Env} {cl:List (Str×Addr)} {Q:Env→Shared→Prop}
  (hQ:Q (newEnv scope s.heap.objs.size env.globals (cellsFrom (s.heap.objs.size+1) scope.names cl) env.qual none .none (some env) builtinsNs) {s with heap:=pushCells (s.heap.push {cls:=.type "dict",data:=.dict #[]}) scope.names}):
  wpAny M A (newFunctionEnv scope env.globals cl [] env.qual none .none (some env)) Q E s:=by
 simp only[newFunctionEnv,Option.isSome_some,if_true]
 refine wpAny_bind (wpAny_alloc ?_)
 refine wpAny_bind (wpAny_layCells _ (fun name kind cells=>by cases hkc:kind == NameKind.cell <;> simp[hkc]) _ _ _ _ ?_)
 rw[show({s with heap:=s.heap.push {cls:=.type "dict",data:=.dict #[]}} :Shared).heap.objs.size=s.heap.objs.size+1 from Heap.size_push ..]
 simp only[List.forIn_nil]
 exact wpAny_bind (wpAny_pure (wpAny_pure hQ))
section
variable {prog:Program} {w:World} {A:Around} {R:Result→Shared→Prop} {s:Shared}
theorem iY {elt target iter:Expr} {ifs:List Expr} {scope:Scope} {pos:Pos} {it acc:Value} {env:Env} (I:Nat→Shared→Prop)
  (turn:∀n s,I n s→wpAny (model prog w) A (pyNext it) (fun r s₁=>match r with
   | none=>R (.ok .next) s₁
   | some v=>wpAny (model prog w) A (letOwnedTupleGo target it v) (fun _ s₁'=>wpAny (model prog w) A (assign target env v) (fun _ s₂=>
     wpAny (model prog w) A (forIn ifs true fun c r=>if r=true then do let ok ←isTrue c env (eval c env);pure (ForInStep.yield ok)else pure (ForInStep.yield r)) (fun ok s₃=>
      if ok=true then wpAny (model prog w) A (eval elt env) (fun x s₄=>
       wpAny (model prog w) A (call (.builtin "list.append") [acc,x]) (fun _ s₅=>∃m,m< n∧I m s₅) (fun _ _=>False) s₄) (fun _ _=>False) s₃
      else ∃m,m< n∧I m s₃) (fun _ _=>False) s₂) (fun _ _=>False) s₁') (fun _ _=>False) s₁) (fun _ _=>False) s)
  (n:Nat) (h:I n s):codeAny (model prog w) A (.compLoop (.ListComp elt [⟨target,iter,ifs,0⟩] scope pos) 0 it acc env) R s:=by
 refine codeAny_loop rfl I (fun n s hI=>?_) n h
 show wpAny _ A ((compTurn (.ListComp elt [⟨target,iter,ifs,0⟩] scope pos) 0 it acc env).onRaise (fun x=>do noteFrame x env;theTreesLotGoes x)) _ _ s
 refine wpAny_noted ?_
 rw[compTurn_list]
 refine wpAny_bind (wpAny_standAt (wpAny_bind (wpAny_mono (turn n s hI) (fun r s₁ h₁=>?_) fun _ _ h'=>h'.elim)))
 cases r with
 | none=>exact wpAny_pure h₁
 | some v =>
  refine wpAny_bind (wpAny_mono h₁ (fun _ s₁' h₁'=>?_) fun _ _ h'=>h'.elim)
  refine wpAny_bind (wpAny_mono h₁' (fun _ s₂ h₂=>wpAny_bind (wpAny_mono h₂ (fun ok s₃ h₃=>?_) fun _ _ h'=>h'.elim)) fun _ _ h'=>h'.elim)
  cases ok with
  | true =>
   rw[if_pos rfl]at h₃
   exact wpAny_bind (wpAny_bind (wpAny_mono h₃ (fun x s₄ h₄=>wpAny_bind (wpAny_mono h₄ (fun _ s₅ h₅=>wpAny_pure (wpAny_pure ⟨rfl,h₅⟩)) fun _ _ h'=>h'.elim)) fun _ _ h'=>h'.elim))
  | false =>
   rw[if_neg Bool.false_ne_true]at h₃
   exact wpAny_pure ⟨rfl,h₃⟩
end
def og (scope:Scope) (x:Str):Bool:=scope.names.lookup x == some .local || scope.names.lookup x == some .cell
def ay (X:Cx) (scope:Scope) (N:List Str) (s:Shared) (H:Hp) (C:Addr) (fp:List Addr):Cx:=
 {X with N:=N,s₀:=s,H₀:=H,env:=compEnvC scope (cellsFrom (C+1) scope.names (bA X.env scope.names [])) C X.env,outer:=X.stack,ex:=fp,fn:=og scope,pn:=[],xe:=fun _ _=>False}
def bt (cap:List (Option Nat)) (σ:St):St:=cap.map fun o=>o.bind fun j=>(σ[j]?).bind id
structure CompScope (X:Cx) (scope:Scope) (N:List Str) (cap:List (Option Nat)):Prop where
 kind:scope.kind=.function
 nd:N.Nodup
 len:cap.length=N.length
 uniq:(scope.names.map (·.1)).Nodup
 free:∀x∈scope.names,x.2=.free→(X.env.kindOf x.1=some .cell∨X.env.kindOf x.1=some .free)
 cap:∀(k:Nat) (x:Str) (j:Nat),N[k]? =some x→cap[k]? =some (some j)→X.N[j]? =some x∧(x,NameKind.free)∈scope.names
theorem cg {α:Type} :∀{l:List (Str×α)} {x:Str} {k:α},(l.map (·.1)).Nodup→(x,k)∈l→l.lookup x=some k
 | (y, j) :: r, x, k, nd, h => by
  obtain⟨n1,n2⟩:=List.nodup_cons.mp (show(y::r.map (·.1)).Nodup from nd)
  rw[List.lookup_cons]
  rcases List.mem_cons.mp h with e | h
  ·cases e;simp
  ·have:(x == y)=false:=beq_eq_false_iff_ne.mpr fun e=>n1 (e▸List.mem_map.mpr ⟨(x,k),h,rfl⟩)
   rw[this]
   exact cg n2 h
theorem d5 {env:Env} :∀{names:List (Str×NameKind)} {x:Str},(names.map fun(p:Str×NameKind)=>if(p.2 == NameKind.free && env.scope.kind == .function && env.kindOf p.1 == some .cell)=true then(p.1,NameKind.cell)else(p.1,p.2)).lookup x=
  (names.lookup x).map fun k=>if(k == NameKind.free && env.scope.kind == .function && env.kindOf x == some .cell)=true then .cell else k
 | [],_=>rfl
 | (n, k) :: r, x => by
  rw[List.map_cons]
  have ih:= @d5 env r x
  by_cases hx:x=n
  ·subst hx
   by_cases hc:(k == NameKind.free && env.scope.kind == .function && env.kindOf x == some .cell)=true
   ·simp only[hc,if_true,List.lookup_cons,beq_self_eq_true,Option.map_some]
   ·rw[if_neg hc,List.lookup_cons,List.lookup_cons,beq_self_eq_true];simp only[Option.map_some];rw[if_neg hc]
  ·have hb:(x == n)=false:=beq_eq_false_iff_ne.mpr hx
   by_cases hc:(k == NameKind.free && env.scope.kind == .function && env.kindOf n == some .cell)=true
   ·simp only[hc,if_true,List.lookup_cons,hb];exact ih
   ·rw[if_neg hc,List.lookup_cons,List.lookup_cons,hb];exact ih
end L2
namespace L2
open PySem PySem.Spec PyProof.Rows
def oh (X:Cx) (ifs:List Expr) (t:TT):Prop:=
 ∀ (pins : List (Addr × Obj)) (s : Shared) (σ : St) (H : Hp) (Q : Bool → Hp → Prop), Inv X pins σ H s → t σ H Q →
  wpAny (model X.prog X.w) X.A (forIn ifs true fun c r=>if r=true then do let ok ←isTrue c X.env (eval c X.env);pure (ForInStep.yield ok)else pure (ForInStep.yield r)) (TP X pins σ Q) X.xe s
def sO:TT:=fun _ H Q=>Q true H
theorem di {X:Cx} :oh X [] sO:=fun _ _ _ H _ I h=>wpAny_tests_nil ⟨H,I,h⟩
theorem qx {X:Cx} {c:Expr} {t:TT} (h:PT X c t):oh X [c] t:=fun pins s σ H Q I hq=>wpAny_tests_one (h pins s σ H Q I hq)
def Keep:St→St→Prop
 | [],_=>True
 | none::a,_::b=>Keep a b
 | some v::a,some u::b=>v=u∧Keep a b
 | _,_=>False
theorem Keep.get:∀{a b:St} {j:Nat} {v:V},Keep a b→a[j]? =some (some v)→b[j]? =some (some v)
 | [],_,_,_,_,h=>by simp at h
 | none::a,_::b,0,_,_,h=>by simp at h
 | none::a,_::b,j+1,v,k,h=>Keep.get (j:=j) (a:=a) (b:=b) k h
 | some w :: a, some u :: b, 0, v, k, h => by
  have e:w=u:=k.1
  subst e
  exact h
 | some w::a,some u::b,j+1,v,k,h=>Keep.get (j:=j) (a:=a) (b:=b) k.2 h
 | none::_,[],_,_,k,_=>k.elim
 | some _::_,[],_,_,k,_=>k.elim
 | some _::_,none::_,_,_,k,_=>k.elim
def uu (cap:List (Option Nat)) (g:TG) (tf:TT) (te:TE) (σ:St) (H1:Hp) (Q:VK) (J:It):Prop:=∃W:Nat→Nat→List V→Hp→Prop,(∃m,W 0 m [] H1)∧∀i m ys H,W i m ys H→ys.length< sizeLine∧
  ((J.stop i H∧∀D,H D=none→Q (.ref D) (cr H D (.lst ys)))∨
   (J.go i H∧∃N:List V→Hp→Prop,(∀ys' H',N ys' H'→∃m',m'< m∧W (i+1) m' ys' H')∧∀x H',J.yld i H x H'→g x (bt cap σ) H' fun σ2 H2=>Keep (bt cap σ) σ2∧tf σ2 H2 fun b H3=>if b=true then te σ2 H3 fun y H4=>N (ys++ [y]) H4 else N ys H3))
def lE (cap:List (Option Nat)) (wi:TI) (g:TG) (tf:TT) (te:TE):TE:=fun σ H Q=>wi σ H fun J H1=>uu cap g tf te σ H1 Q J
theorem cu {X:Cx} {scope:Scope} {C:Addr} {x:Str} {c:Addr} (frc:∀x∈scope.names,x.2=.free→∃c,X.env.cells.lookup x.1=some c)
  (h:(cellsFrom (C+1) scope.names (bA X.env scope.names [])).lookup x=some c):(x,c)∈cellsFrom (C+1) scope.names []∨((x,NameKind.free)∈scope.names∧X.env.cells.lookup x=some c):=by
 rw[bR,List.lookup_append]at h
 cases e:(cellsFrom (C+1) scope.names []).lookup x with
 | some d =>
  rw[e]at h
  have h:some d=some c:=h
  cases h
  exact .inl (PySem.mem_of_lookup e)
 | none =>
  rw[e]at h
  have h:(bA X.env scope.names []).lookup x=some c:=h
  rcases eB _ _ frc h with q | q
  ·exact .inr q
  ·cases q
theorem jC {X:Cx} {scope:Scope} {C:Addr} {x:Str} {c:Addr} (uq:(scope.names.map (·.1)).Nodup) (hx:(x,NameKind.free)∈scope.names) (hc:X.env.cells.lookup x=some c):
  (cellsFrom (C+1) scope.names (bA X.env scope.names [])).lookup x=some c:=by
 rw[bR,List.lookup_append]
 cases e:(cellsFrom (C+1) scope.names []).lookup x with
 | some d =>
  have h1:=cg uq (cP _ _ (PySem.mem_of_lookup e))
  have h2:=cg uq hx
  rw[h1]at h2;cases h2
 | none=>exact fY _ _ hx hc
section
variable {X:Cx} {scope:Scope} {N:List Str} {cap:List (Option Nat)} {pins:List (Addr×Obj)} {σ:St} {H:Hp} {s:Shared} {C:Addr} {fp:List Addr}
theorem mP {h4:Heap} (S:CompScope X scope N cap) (I:Inv X pins σ H s) (hC:s.heap.objs.size≤C) (ck:CellsOk h4 (C+1) (cellsFrom (C+1) scope.names []))
  (hf:∀b∈fp,FpOk X pins H b) (hlt:∀b∈fp,b< C):(ay X scope N s H C fp).Ok:=by
 have frc:∀x∈scope.names,x.2=.free→∃c,X.env.cells.lookup x.1=some c:=fun x hx hk=>I.ok.has x.1 (S.free x hx hk)
 have old:∀x c,X.env.cells.lookup x=some c→c< C:=fun x c e=>by
  obtain⟨v,q⟩:=I.cell x c e
  exact Nat.lt_of_lt_of_le q.lt hC
 have own:∀x c,(x,c)∈cellsFrom (C+1) scope.names []→C< c:=fun x c e=>(ck.empty x c e).2
 refine⟨I.ok.mod,S.kind,I.ok.glob,I.ok.blt,hC,fun x y c h1 h2=>?_,fun x hx=>?_,fun x c hfn h=>?_,I.ok.hd,I.ok.frames,.inl rfl,fun b hb=>⟨Nat.ne_of_lt (hlt b hb),fun x c h=>?_⟩,I.bs,Nat.le_trans I.ok.bsz I.sz,fun b o e hb=>?_,fun b hb z=>?_,I.stack,I.stkFree⟩
 ·rcases cu frc h1 with a | ⟨a1,a2⟩ <;> rcases cu frc h2 with b | ⟨b1,b2⟩
  ·exact name_of_addr ck.apart a b
  ·exact absurd (Nat.lt_trans (own x c a) (old y c b2)) (Nat.lt_irrefl _)
  ·exact absurd (Nat.lt_trans (own y c b) (old x c a2)) (Nat.lt_irrefl _)
  ·exact I.ok.inj x y c a2 b2
 ·have hx:(relabel scope X.env).names.lookup x=some .cell∨(relabel scope X.env).names.lookup x=some .free:=hx
  have e:(relabel scope X.env).names.lookup x=_:=d5 (env:=X.env) (names:=scope.names) (x:=x)
  rw[e]at hx
  cases q:scope.names.lookup x with
  | none=>rw[q]at hx;rcases hx with z | z <;> cases z
  | some k =>
   have hm:=PySem.mem_of_lookup q
   by_cases hk:k=.free
   ·subst hk
    obtain⟨c,hc⟩:=frc _ hm rfl
    exact⟨c,jC S.uniq hm hc⟩
   ·have hk':(k == NameKind.free)=false:=by simpa using hk
    rw[q]at hx
    simp only[Option.map_some,hk',Bool.false_and,Bool.false_eq_true,if_false]at hx
    have hkc:k=.cell:=by
     rcases hx with z | z
     ·exact Option.some.inj z
     ·exact absurd (Option.some.inj z) hk
    subst hkc
    exact Option.isSome_iff_exists.mp (PySem.W.cellsFrom_some scope.names (C+1) _ (.inl q))
 ·rcases cu frc h with a | ⟨a1,a2⟩
  ·exact Nat.le_trans hC (Nat.le_of_lt (own x c a))
  ·have q:=cg S.uniq a1
   have z:og scope x=true:=hfn
   unfold og at z
   rw[q]at z
   exact absurd z (by decide)
 ·rcases cu frc h with a | ⟨a1,a2⟩
  ·exact Nat.ne_of_gt (Nat.lt_trans (hlt b hb) (own x c a))
  ·exact(hf b hb).2.2.2.2.1 x c a2
 ·rcases (hf b hb).2.2.2.1 with z | z
  ·exact I.ok.noex b o e z
  ·exact absurd (Nat.lt_of_lt_of_le (Nat.lt_of_lt_of_le (Heap.lt_size e) I.ok.bsz) z) (Nat.lt_irrefl _)
 ·rcases List.mem_cons.mp (I.stkSub b z)with q | q
  ·exact(hf b hb).2.1 q
  ·exact(hf b hb).2.2.1 q
theorem gK {s4:Shared} (S:CompScope X scope N cap) (I:Inv X pins σ H s) (hC:s.heap.objs.size≤C) (ck:CellsOk s4.heap (C+1) (cellsFrom (C+1) scope.names []))
  (hf:∀b∈fp,FpOk X pins H b) (hlt:∀b∈fp,b< C) (h4:∃h' tk,s4={s with heap:=h',toks:=tk}) (hn:s4.heap.Ns C fun _=>none) (hk:∀b o,s.heap.get? b=some o→s4.heap.get? b=some o):
  Inv (ay X scope N s H C fp) [] (bt cap σ) H s4:=by
 have frc:∀x∈scope.names,x.2=.free→∃c,X.env.cells.lookup x.1=some c:=fun x hx hk=>I.ok.has x.1 (S.free x hx hk)
 obtain⟨h',tk,rfl⟩:=h4
 refine⟨mP S I hC ck hf hlt,rfl,I.bare,Un.kept hk,⟨_,hn,fun i x v e1 e2 e3=>?_⟩,fun x c h=>?_,I.hok.fresh hC,fun x c h=>?_,fun p hp=>absurd (show p∈([]:List (Addr×Obj))from hp) (by simp),I.hok.kept hk,?_⟩
 ·have e1:N[i]? =some x:=e1
  unfold bt at e2
  rw[List.getElem?_map]at e2
  cases q:cap[i]? with
  | none=>rw[q]at e2;cases e2
  | some o =>
   cases o with
   | none=>rw[q]at e2;cases e2
   | some j =>
    rw[q]at e2
    obtain⟨hj,hm⟩:=S.cap i x j e1 q
    have e2:σ[j]?.bind id=some v:=Option.some.inj e2
    have e2':σ[j]? =some (some v):=by
     cases z:σ[j]? with
     | none=>rw[z]at e2;cases e2
     | some o=>rw[z]at e2;exact congrArg some e2
    have kd:=S.free _ hm rfl
    obtain⟨m,_,hl⟩:=I.loc
    obtain⟨u,r,lk⟩:=hl j x v hj e2' (by rcases kd with z | z;exact .inr (.inl z);exact .inr (.inr z))
    refine⟨u,r,.inr ?_⟩
    rcases lk with⟨z,_⟩ | ⟨_,c,hc,hcell⟩
    ·rcases kd with q | q <;> · rw[show X.env.kindOf x=_ from q]at z;cases z
    ·refine⟨?_,c,jC S.uniq hm hc,hcell.keeps hk⟩
     have e:(relabel scope X.env).names.lookup x=_:=d5 (env:=X.env) (names:=scope.names) (x:=x)
     rw[cg S.uniq hm]at e
     simp only[Option.map_some]at e
     show(relabel scope X.env).names.lookup x=some .cell∨(relabel scope X.env).names.lookup x=some .free
     rw[e]
     split
     ·exact .inl rfl
     ·exact .inr rfl
 ·rcases cu frc h with a | ⟨a1,a2⟩
  ·exact⟨_,(ck.empty x c a).1⟩
  ·obtain⟨v,q⟩:=I.cell x c a2
   exact⟨v,q.keeps hk⟩
 ·rcases cu frc h with a | ⟨a1,a2⟩
  ·exact I.hok.fresh (Nat.le_trans hC (Nat.le_of_lt (ck.empty x c a).2))
  ·exact I.freeC x c a2
 ·show(bt cap σ).length=N.length
  unfold bt
  rw[List.length_map,S.len]
end
end L2
namespace L2
open PySem PySem.Spec PyProof.Rows
abbrev fc (its:List Value) (k:Nat):Obj:={cls:=.type "list",data:=.seq its.toArray k}
section
variable {X:Cx} {scope:Scope} {N:List Str} {cap:List (Option Nat)} {tg iter elt:Expr} {ifs:List Expr} {pos:Pos} {wi:TI} {g:TG} {tf:TT} {te:TE}
theorem ir (S:CompScope X scope N cap) (hc:X.calm=true)
  (hg:∀s H C fp,PG (ay X scope N s H C fp) tg g) (hf:∀s H C fp,oh (ay X scope N s H C fp) ifs tf) (he:∀s H C fp,PE (ay X scope N s H C fp) elt te)
  {pins:List (Addr×Obj)} {σ:St} {H2:Hp} {s2:Shared} {it:Addr} {fp:List Addr} {tn:Nat→Heap→Prop} {J:It} {Qv:VK} {E:Value→Shared→Prop} {RR:Value→Addr→Result→Shared→Prop}
  (I2:Inv X pins σ H2 s2) (T:Turn X.prog X.w X.K tg J fp it tn) (st2:tn 0 s2.heap) (f2:∀b∈fp,FpOk X pins H2 b) {W:Nat→Nat→List V→Hp→Prop} (w0:∃m,W 0 m [] H2)
  (turn:∀i m ys H,W i m ys H→ys.length< sizeLine∧((J.stop i H∧∀D,H D=none→Qv (.ref D) (cr H D (.lst ys)))∨
   (J.go i H∧∃N:List V→Hp→Prop,(∀ys' H',N ys' H'→∃m',m'< m∧W (i+1) m' ys' H')∧∀x H',J.yld i H x H'→g x (bt cap σ) H' fun σ2 H2=>Keep (bt cap σ) σ2∧tf σ2 H2 fun b H3=>if b=true then te σ2 H3 fun y H4=>N (ys++ [y]) H4 else N ys H3)))
  (fin:∀(D C:Addr) (σ':St) (H':Hp) (s':Shared) (its:List Value) (k:Nat) (ys:List V),s2.heap.objs.size≤D→s2.heap.objs.size≤C→D≠C→Inv (ay X scope N s2 H2 C fp) [(D,fc its k)] σ' H' s'→Vals ys its→ys.length≤sizeLine→
   Qv (.ref D) (cr H' D (.lst ys))→RR (.ref D) C (.ok .next) s'):
  wpAny (model X.prog X.w) X.A (newList []) (fun acc s₃=>wpAny (model X.prog X.w) X.A (newFunctionEnv scope X.env.globals (bA X.env scope.names []) [] X.env.qual none .none (some X.env)) (fun cenv s₄=>
   codeAny (model X.prog X.w) X.A (.compStart (.ListComp elt [⟨tg,iter,ifs,0⟩] scope pos) 0 (.ref it) acc {cenv with scope:=relabel scope X.env}) (RR acc cenv.locals) s₄) E s₃) E s2:=by
 refine wpAny_newObj_type (gJ ?_)
 generalize hD:s2.heap.objs.size=D
 generalize hH3:s2.heap.push {cls:=.type "list",dict:=none,data:=.seq ([]:List Value).toArray} =h3
 have hz3:h3.objs.size=D+1:=by rw[←hH3,Heap.size_push,hD]
 dsimp only
 have eC:({s2 with heap:=h3} :Shared).heap.objs.size=D+1:=hz3
 rw[show h3.objs.size=D+1 from hz3]
 generalize hH4:pushCells (h3.push {cls:=.type "dict",data:=.dict #[]}) scope.names=h4
 have hz3':(h3.push {cls:=.type "dict",data:=.dict #[]}).objs.size=D+1+1:=by rw[Heap.size_push,hz3]
 have ck:CellsOk h4 (D+1+1) (cellsFrom (D+1+1) scope.names []):=by
  have:=cellsFrom_ok scope.names (h3.push {cls:=.type "dict",data:=.dict #[]}) (D+1+1) [] ⟨fun _ _ hm=>(nomatch hm),List.Pairwise.nil⟩ (by rw[hz3'];exact Nat.le_refl _)
  rw[hz3',hH4]at this
  exact this
 have k23:∀b o,s2.heap.get? b=some o→h3.get? b=some o:=fun b o e=>by rw[←hH3];exact Heap.get?_push_of_some _ e
 have k34:∀b o,h3.get? b=some o→h4.get? b=some o:=fun b o e=>by rw[←hH4];exact pushCells_keeps _ _ b o (Heap.get?_push_of_some _ e)
 have hD4:h4.get? D=some (fc [] 0):=k34 _ _ (by rw[←hH3,←hD];exact Heap.get?_push_size _ rfl)
 have hn4:h4.Ns (D+1) fun _=>none:=by
  rw[←hH4,←hz3]
  exact(Heap.Ns.new h3 (.type "dict")).keeps (pushCells_keeps _ _)
 have fpD:∀b∈fp,b< D:=fun b hb=>by
  obtain⟨o,e,_⟩:=T.obj _ _ st2 b hb
  rw[←hD];exact Heap.lt_size e
 have hlt:∀b∈fp,b< D+1:=fun b hb=>Nat.lt_succ_of_lt (fpD b hb)
 have hDC:s2.heap.objs.size≤D+1:=by rw[hD];exact Nat.le_succ _
 have hDs:s2.heap.objs.size≤D:=by rw[hD];exact Nat.le_refl _
 have IC:Inv (ay X scope N s2 H2 (D+1) fp) [] (bt cap σ) H2 {s2 with heap:=h4} :=
  gK S I2 hDC ck f2 hlt ⟨_,_,rfl⟩ hn4 fun b o e=>k34 b o (k23 b o e)
 have okC:=IC.ok
 have nfs:∀{b:Addr},s2.heap.objs.size≤b→b∉frs X.stack:=fun {b} hb hm=>by
  obtain⟨_,o,ho,_⟩:=I2.stack.mem hm
  exact absurd (Nat.lt_of_lt_of_le (Heap.lt_size ho) hb) (Nat.lt_irrefl _)
 have frc:∀x∈scope.names,x.2=.free→∃c,X.env.cells.lookup x.1=some c:=fun x hx hk=>I2.ok.has x.1 (S.free x hx hk)
 have cellsD:∀x c,(ay X scope N s2 H2 (D+1) fp).env.cells.lookup x=some c→c≠D:=fun x c e=>by
  rcases cu frc e with a | ⟨_,a⟩
  ·have q:D+1+1≤c:=(ck.empty x c a).2
   exact Nat.ne_of_gt (Nat.lt_of_lt_of_le (Nat.lt_of_lt_of_le (Nat.lt_succ_self D) (Nat.le_succ _)) q)
  ·obtain⟨v,q⟩:=I2.cell x c a
   have:=q.lt
   rw[hD]at this
   exact Nat.ne_of_lt this
 have fpO:∀{H':Hp} {its:List Value} {k:Nat},(∀b∈fp,H' b=none)→∀b∈fp,FpOk (ay X scope N s2 H2 (D+1) fp) [(D,fc its k)] H' b:=fun {H' its k} hn b hb=>
  ⟨hn b hb,Nat.ne_of_lt (hlt b hb),okC.exfs b hb,.inl hb,(okC.exf b hb).2,fun p hp=>by
   have e:p=(D,fc its k):=by simpa [ay] using hp
   subst e
   exact Nat.ne_of_gt (fpD b hb)⟩
 have pinD:∀{σ':St} {H':Hp} {s':Shared} {its:List Value} {k:Nat},Inv (ay X scope N s2 H2 (D+1) fp) [] σ' H' s'→s'.heap.get? D=some (fc its k)→H' D=none→Inv (ay X scope N s2 H2 (D+1) fp) [(D,fc its k)] σ' H' s':=fun {σ' H' s' its k} J e n=>
  J.pins_of fun p hp=>by
   have e':p=(D,fc its k):=by simpa using hp
   subst e'
   exact⟨e,n,Nat.ne_of_lt (Nat.lt_succ_self _),nfs hDs,fun v z=>by
    have z':Data.seq its.toArray k=Data.cell v:=z
    cases z'⟩
 have loop:codeAny (model X.prog X.w) X.A (.compLoop (.ListComp elt [⟨tg,iter,ifs,0⟩] scope pos) 0 (.ref it) (.ref D) (ay X scope N s2 H2 (D+1) fp).env) (RR (.ref D) (D+1)) {s2 with heap:=h4} :=by
  obtain⟨m0,w0⟩:=w0
  refine iY (fun n s'=>∃i ys its k σ' H',Inv (ay X scope N s2 H2 (D+1) fp) [(D,fc its k)] σ' H' s'∧tn i s'.heap∧(∀b∈fp,H' b=none)∧Vals ys its∧(∀(j:Nat) (v:V),(bt cap σ)[j]? =some (some v)→σ'[j]? =some (some v))∧W i n ys H') ?_ m0
   ⟨0,[],[],0,bt cap σ,H2,pinD IC hD4 (I2.hok.fresh hDs),T.keep _ _ _ st2 fun b hb o e=>k34 b o (k23 b o e),fun b hb=>(f2 b hb).1,.nil,fun _ _ e=>e,w0⟩
  rintro n s3 ⟨i,ys,its,k,σ3,H3,I3,st3,fr3,rv,kp,w3⟩
  obtain⟨hyl,tr⟩:=turn i n ys H3 w3
  have pin3:=I3.pin (D,fc its k) (List.mem_append_right _ List.mem_cons_self)
  rcases tr with⟨stop,qn⟩ | ⟨go,NN,hNN,step⟩
  ·refine bF (T.done (ay X scope N s2 H2 (D+1) fp) rfl rfl rfl hc i _ s3 σ3 H3 _ I3 (fpO fr3) st3 stop) fun r s4 ⟨hr,I4⟩=>?_
   subst hr
   exact fin D (D+1) σ3 H3 s4 its k ys hDs hDC (Nat.ne_of_lt (Nat.lt_succ_self _)) I4 rv (Nat.le_of_lt hyl) (qn D pin3.2.1)
  ·have I3':Inv (ay X scope N s2 H2 (D+1) fp) [(D,fc its k)] (bt cap σ) H3 s3:=I3.weak (by rw[I3.len,IC.len]) kp
   refine bF (T.item (ay X scope N s2 H2 (D+1) fp) rfl rfl rfl hc i _ s3 _ H3 _ I3' (fpO fr3) st3 go) fun r s4 ⟨u,hr,h4⟩=>?_
   subst hr
   refine bF h4 fun _ s5 ⟨x,H5,I5,r5,y5,st5,fr5⟩=>?_
   have I5':=I5.pinned (fpO fr5) (T.obj _ _ st5)
   refine bF (hg _ _ _ _ _ s5 _ H5 x u _ I5' r5 (step x H5 y5)) fun _ s6 ⟨σ6,H6,I6,kp6,q6⟩=>?_
   refine bF (hf _ _ _ _ _ s6 σ6 H6 _ I6 q6) fun ok s7 ⟨H7,I7,q7⟩=>?_
   have back:∀{s8:Shared} {H8:Hp},Inv (ay X scope N s2 H2 (D+1) fp) ([(D,fc its k)]++fJ fp s5.heap) σ6 H8 s8→tn (i+1) s8.heap∧(∀b∈fp,H8 b=none)∧s8.heap.get? D=some (fc its k)∧H8 D=none:=fun {s8 H8} I8=>by
    have at_:∀b∈fp,∀o,s5.heap.get? b=some o→s8.heap.get? b=some o∧H8 b=none:=fun b hb o e=>by
     have z:=I8.pin (b,o) (List.mem_append_right _ (List.mem_append_right _ (d4 hb e)))
     exact⟨z.1,z.2.1⟩
    have pd:=I8.pin (D,fc its k) (List.mem_append_right _ (List.mem_append_left _ List.mem_cons_self))
    refine⟨T.keep _ _ _ st5 fun b hb o e=>(at_ b hb o e).1,fun b hb=>?_,pd.1,pd.2.1⟩
    obtain⟨o,e,d⟩:=T.obj _ _ st5 b hb
    exact(at_ b hb o e).2
   cases ok with
   | false =>
    rw[if_neg Bool.false_ne_true]at q7 ⊢
    obtain⟨m',hm,w'⟩:=hNN _ _ q7
    obtain⟨t7,f7,d7,n7⟩:=back I7
    exact⟨m',hm,i+1,ys,its,k,σ6,H7,I7.unpinned,t7,f7,rv,fun j v e=>Keep.get kp6 e,w'⟩
   | true =>
    rw[if_pos rfl]at q7 ⊢
    refine bF (he _ _ _ _ _ s7 σ6 H7 _ I7 q7) fun y8 s8 ⟨y,H8,I8,r8,q8⟩=>?_
    obtain⟨m',hm,w'⟩:=hNN _ _ q8
    obtain⟨t8,f8,d8,n8⟩:=back I8
    refine append_at (D:=D) (its:=its.toArray) (n:=k) d8 (fun h' hs' hD'=>?_) (by rw[List.size_toArray,←rv.length];exact Nat.le_of_lt hyl)
    have J0:Inv (ay X scope N s2 H2 (D+1) fp) [] σ6 H8 s8:=I8.pins_of fun p hp=>by cases hp
    have J1:Inv (ay X scope N s2 H2 (D+1) fp) [] σ6 H8 {s8 with heap:=h'} :=J0.turned (it:=D) (t':=s8.toks) (fun b o hb e=>(hs'.2 b hb).trans e) n8 (Nat.ne_of_lt (Nat.lt_succ_self _)) (.inr hDs) cellsD fun p hp=>by
     have:p∈([]:List (Addr×Obj)):=hp
     cases this
    refine⟨m',hm,i+1,ys++ [y],its++ [y8],k+1,σ6,H8,pinD J1 (by simpa using hD') n8,T.keep _ _ _ t8 fun b hb o e=>(hs'.2 b (Nat.ne_of_lt (fpD b hb))).trans e,f8,rv.append (.cons r8 .nil),fun j v e=>Keep.get kp6 e,w'⟩
 exact codeAny_compStart_list loop (wpAny_mono (T.self _ 0 _ _ _ (T.keep _ _ _ st2 fun b hb o e=>k34 b o (k23 b o e)) loop) (fun _ _ h=>h) fun _ _ h=>h)
end
end L2
namespace L2
open PySem PySem.Spec PyProof.Rows
section
variable {X:Cx} {scope:Scope} {N:List Str} {cap:List (Option Nat)} {tg iter elt:Expr} {ifs:List Expr} {pos:Pos} {wi:TI} {g:TG} {tf:TT} {te:TE}
theorem jD {pins:List (Addr×Obj)} {σ σ':St} {H2 H':Hp} {s2 s':Shared} {fp:List Addr} {D C:Addr} {its:List Value} {k:Nat} {ys:List V} {h':Heap} (I2:Inv X pins σ H2 s2) (f2:∀b∈fp,FpOk X pins H2 b)
  (hD:s2.heap.objs.size≤D) (hC:s2.heap.objs.size≤C) (hDC:D≠C) (I':Inv (ay X scope N s2 H2 C fp) [(D,fc its k)] σ' H' s') (rv:Vals ys its) (hl:ys.length≤sizeLine) (hs:Heap.SameBut C s'.heap h'):
  Inv X pins σ (cr H' D (.lst ys)) {s' with heap:=h'} :=by
 have pd:=I'.pin (D,fc its k) (List.mem_append_right _ List.mem_cons_self)
 have nD:H' D=none:=pd.2.1
 have nC:H' C=none:=I'.free
 have lt2:∀b o,s2.heap.get? b=some o→b≠D∧b≠C:=fun b o e=>⟨Nat.ne_of_lt (Nat.lt_of_lt_of_le (Heap.lt_size e) hD),Nat.ne_of_lt (Nat.lt_of_lt_of_le (Heap.lt_size e) hC)⟩
 have hk:∀b o,b≠C→s'.heap.get? b=some o→h'.get? b=some o:=fun b o hb e=>(hs.2 b hb).trans e
 have B:Un (frs X.stack) fp H2 H' s2.heap s'.heap:=I'.base
 have tr:∀b u,H' b=some u→b≠D∧b≠C:=fun b u e=>⟨fun z=>(by rw[z,nD]at e;cases e),fun z=>(by rw[z,nC]at e;cases e)⟩
 refine I2.call' (ch:=fp) I'.os ⟨fun b o e n hb hx=>?_,fun b o e n hb hx=>?_,fun b o e n hx=>?_,fun b o e hx=>?_,fun b xs e=>?_,fun b o u e=>?_,fun b ps e=>?_⟩ (fun b u e=>?_) I'.bare fun b hb=>⟨(f2 b hb).2.2.2.1,(f2 b hb).2.1,(f2 b hb).2.2.2.2.1,(f2 b hb).2.2.2.2.2⟩
 ·exact hk b o (lt2 b o e).2 (B.keep b o e n hb hx)
 ·obtain⟨sl,q⟩:=B.slot b o e n hb hx
  exact⟨sl,hk b _ (lt2 b o e).2 q⟩
 ·rw[aw (lt2 b o e).1];exact B.free b o e n hx
 ·obtain⟨o',q⟩:=B.there b o e hx
  exact⟨o',hk b _ (lt2 b o e).2 q⟩
 ·rw[aw (tr b _ (B.tups b xs e)).1];exact B.tups b xs e
 ·rw[aw (tr b _ (B.frzs b o u e)).1];exact B.frzs b o u e
 ·obtain⟨more,q⟩:=B.tbls b ps e
  exact⟨more,by rw[aw (tr b _ q).1];exact q⟩
 ·by_cases hb:b=D
  ·subst hb
   rw[aJ]at e;cases e
   exact⟨hl,its,k,rv,hk _ _ hDC pd.1⟩
  ·rw[aw hb]at e
   refine(I'.hok b u e).stay (fun c w' hc q=>hk c w' ?_ q) (fun c q=>by rw[aw (tr c _ q).1];exact q) fun c xs q=>by rw[aw (tr c _ q).1];exact q
   rcases hc with z | z
   ·rw[z];exact(tr b u e).2
   ·exact(tr c _ z).2
theorem fe (S:CompScope X scope N cap):∀x∈scope.names,x.2=.local→scope.names.lookup x.1=some .local:=fun x hx hl=>cg S.uniq (by rw[←hl];exact hx)
theorem eR (S:CompScope X scope N cap) (hc:X.calm=true) (hi:PI X tg iter wi)
  (hg:∀s H C fp,PG (ay X scope N s H C fp) tg g) (hf:∀s H C fp,oh (ay X scope N s H C fp) ifs tf) (he:∀s H C fp,PE (ay X scope N s H C fp) elt te)
  (hs:∀x,foldedSetIterable iter X.env x=pure x:=by intro _;rfl):PE X (.ListComp elt [⟨tg,iter,ifs,0⟩] scope pos) (lE cap wi g tf te):=by
 intro pins s σ H Q I h
 rw[eval_ListComp]
 have frc:∀x∈scope.names,x.2=.free→∃c,X.env.cells.lookup x.1=some c:=fun x hx hk=>I.ok.has x.1 (S.free x hx hk)
 refine wpAny_comprehension_free (use:=none) rfl hs (du frc) S.kind (fe S) (bF (hi pins s σ H _ I h) fun v s1 h1=>bF h1 fun itv s2 h2=>?_)
 obtain⟨it,fp,tn,J,H2,rfl,I2,T,st2,f2,W,w0,turn⟩:=h2
 refine ir (RR:=fun acc C=>compPost (model X.prog X.w) X.A X.xe none (EP X pins σ Q) acc C) S hc hg hf he I2 T st2 f2 w0 turn fun D C σ' H' s' its k ys hD hC hDC I' rv hl q=>?_
 obtain⟨m,hn,_⟩:=I'.loc
 exact⟨m,hn,fun h' hs'=>⟨.ref D,_,jD I2 f2 hD hC hDC I' rv hl hs',rfl,q⟩⟩
end
end L2
namespace L2
open PySem PySem.Spec PyProof.Rows
section
variable {X:Cx} {scope:Scope} {N:List Str} {cap:List (Option Nat)} {tg iter elt:Expr} {ifs:List Expr} {pos spos py:Pos} {wi:TI} {g:TG} {tf:TT} {te:TE} {i:Nat} {y:Str}
theorem kR (hN:X.N.Nodup) (hi':X.N[i]? =some y) (hy:tX X.env.scope y) (S:CompScope X scope N cap) (hc:X.calm=true) (hi:PI X tg iter wi)
  (hg:∀s H C fp,PG (ay X scope N s H C fp) tg g) (hf:∀s H C fp,oh (ay X scope N s H C fp) ifs tf) (he:∀s H C fp,PE (ay X scope N s H C fp) elt te)
  (hsw:swapsWith (.ListComp elt [⟨tg,iter,ifs,0⟩] scope pos) (some (.Name y py)) spos.line X.env=pure true:=by rfl)
  (hs:∀x,foldedSetIterable iter X.env x=pure x:=by intro _;rfl) (hfn:X.fn y=true∨X.env.scope.names.lookup y=some .local:=by first | exact .inl rfl | exact .inr rfl | assumption):
  PS X (.Assign [.Name y py] (.ListComp elt [⟨tg,iter,ifs,0⟩] scope pos) spos) (bu (lE cap wi g tf te) (aN i)):=by
 intro pins s σ H D I h
 rw[exec_Assign_Name_used _ _ _ _ hsw]
 refine wpAny_bind (wpAny_standAt (wpAny_bind ?_))
 show wpAny _ X.A (do let _ ←comprehension (.ListComp elt [⟨tg,iter,ifs,0⟩] scope pos) scope X.env _ (newList []) false (eval iter X.env) (some (assign (.Name y py) X.env))) _ _ s
 have frc:∀x∈scope.names,x.2=.free→∃c,X.env.cells.lookup x.1=some c:=fun x hx hk=>I.ok.has x.1 (S.free x hx hk)
 refine wpAny_bind (wpAny_mono (wpAny_comprehension_free (use:=some (assign (.Name y py) X.env)) (Q:=fun _ s'=>SP X pins D .next s') rfl hs (du frc) S.kind (fe S) (bF (hi pins s σ H _ I h) fun v s1 h1=>bF h1 fun itv s2 h2=>?_)) (fun _ s' hq=>wpAny_pure (wpAny_pure hq)) fun _ _ e=>e)
 obtain⟨it,fp,tn,J,H2,rfl,I2,T,st2,f2,W,w0,turn⟩:=h2
 refine ir (Qv:=fun x H1=>aN i x σ H1 D.nx) (RR:=fun acc C=>compPost (model X.prog X.w) X.A X.xe (some (assign (.Name y py) X.env)) (fun _ s'=>SP X pins D .next s') acc C) S hc hg hf he I2 T st2 f2 w0 turn fun d C σ' H' s' its k ys hD hC hDC I' rv hl q=>?_
 obtain⟨m,hn,_⟩:=I'.loc
 have I3:Inv X pins σ (cr H' d (.lst ys)) s':=jD (h':=s'.heap) I2 f2 hD hC hDC I' rv hl (.refl ..)
 have nC:(cr H' d (.lst ys)) C=none:=by rw[aw (Ne.symm hDC)];exact I'.free
 have cL:C≠X.env.locals:=fun z=>absurd (Nat.lt_of_lt_of_le I2.lt hC) (by rw[z];exact Nat.lt_irrefl _)
 have cc:∀x c,X.env.cells.lookup x=some c→c≠C:=fun x c e z=>by
  obtain⟨v,q⟩:=I2.cell x c e
  exact absurd (Nat.lt_of_lt_of_le q.lt hC) (by rw[z];exact Nat.lt_irrefl _)
 show wpAny _ X.A (assign (.Name y py) X.env (.ref d)) _ _ _
 refine wpAny_assign_Name (ii (v:=.ref d) I3 hN hi' hy rfl (fun s4 I4 ⟨a,sb,ha⟩=>?_) hfn)
 have aC:C≠a:=by
  rcases ha with z | z
  ·rw[z];exact cL
  ·exact Ne.symm (cc _ _ z)
 refine⟨m,hn.sameBut sb aC,fun h' hs'=>?_⟩
 exact⟨_,_,I4.turned (it:=C) (t':=s4.toks) (fun b o hb e=>(hs'.2 b hb).trans e) nC cL (.inr (Nat.le_trans I2.sz hC)) cc (fun p hp z=>absurd (Nat.lt_of_lt_of_le (Heap.lt_size (I2.pin p hp).1) hC) (by rw[z];exact Nat.lt_irrefl _)),q⟩
end
inductive Src where
 | lst (a:Addr) | tup (a:Addr) | str (l:List Nat)
def Src.has (K:PySem.W.Frag) (H:Hp):Src→List V→Prop
 | .lst a,xs=>SqL K H a xs
 | .tup a,xs=>SqT K H a xs
 | .str l,xs=>xs=l.map fun c=>V.str (aj [c])
def Src.at (it:Addr) (i:Nat) (h:Heap):Src→Prop
 | .lst a=>h.IsListIter it a i
 | .tup a=>h.IsTupleIter it a i
 | .str l=>∃t,h.IsStrIter it "str_ascii_iterator" (aj l) t i∨h.IsStrIter it "str_iterator" (aj l) t i
def Src.val:Src→V
 | .lst a=>.ref a
 | .tup a=>.ref a
 | .str l=>.str (aj l)
section
variable {P:Program} {w:World} {A:Around} {E:Value→Shared→Prop} {s:Shared}
theorem iZ {j a:Addr} {k:Nat} {us:Array Value} {x:Value} {Q:Value→Shared→Prop} (g:s.heap.IsTupleIter j a k) (ga:s.heap.IsTuple a us) (gx:us[k]? =some x)
  (q:∀h',h'.IsTupleIter j a (k+1)→Heap.SameBut j s.heap h'→Q x {s with heap:=h'}):wpAny (model P w) A (Builtin.SmallTypes.nextOf (.ref j)) Q E s:=by
 obtain⟨ob,e1,e2,e3⟩:=id g;obtain⟨ot,f1,_,nn,f3⟩:=ga
 unfold Builtin.SmallTypes.nextOf
 refine wpAny_bind (wpAny_callSpecial?_slot (name:=Str.ofString "__next__") g.typeIs PySem.F.slot_tuple_iterator_next (wpAny_call_entry PySem.F.slot_tuple_iterator_next g.typeIs PySem.F.entry_tuple_iterator_next ?_ (PySem.F.args_tuple_iterator_next_1 _)))
 show wpAny (model P w) _ (field (.ref j) 0 >>= _) _ _ s
 refine wpAny_bind (wpAny_field e1 e3 (x:=.ref a) rfl ?_)
 show wpAny (model P w) _ (if(Value.ref a == Value.none)=true then _ else _) _ _ s
 rw[if_neg (show ¬((Value.ref a == Value.none)=true)from Bool.false_ne_true)]
 show wpAny (model P w) _ (field (.ref j) 1 >>= _) _ _ s
 refine wpAny_bind (wpAny_field e1 e3 (x:=.int k 0) rfl ?_)
 show wpAny (model P w) _ (seqItems? (.ref a) >>= _) _ _ s
 refine wpAny_bind (wpAny_seqItems f1 f3 ?_)
 simp only[Int.toNat_natCast,gx]
 refine wpAny_bind (wpAny_setField e1 e3 (by simp) (wpAny_pure ⟨x,rfl,wpAny_pure (q _ ⟨_,Heap.get?_update_self _ e1 (Obj.isFreed_of_fields (Obj.data_mapFields e3 _)),(Obj.cls_mapFields ..).trans e2,(by rw[Obj.data_mapFields e3];simp[rawInt])⟩ (Heap.SameBut.update ..))⟩))
theorem jE {j a:Addr} {k:Nat} {us:Array Value} {Q:Value→Shared→Prop} (hh:A.handled=none) (g:s.heap.IsTupleIter j a k) (ga:s.heap.IsTuple a us) (gx:us[k]? =none)
  (q:∀h' e,Heap.ExtBut j s.heap h'→(∃o,h'.get? e=some o∧o.cls=.type "StopIteration")→E (.ref e) {s with heap:=h'}):wpAny (model P w) A (Builtin.SmallTypes.nextOf (.ref j)) Q E s:=by
 obtain⟨ob,e1,e2,e3⟩:=id g;obtain⟨ot,f1,_,nn,f3⟩:=ga
 unfold Builtin.SmallTypes.nextOf
 refine wpAny_bind (wpAny_callSpecial?_slot (name:=Str.ofString "__next__") g.typeIs PySem.F.slot_tuple_iterator_next (wpAny_call_entry PySem.F.slot_tuple_iterator_next g.typeIs PySem.F.entry_tuple_iterator_next ?_ (PySem.F.args_tuple_iterator_next_1 _)))
 show wpAny (model P w) _ (field (.ref j) 0 >>= _) _ _ s
 refine wpAny_bind (wpAny_field e1 e3 (x:=.ref a) rfl ?_)
 show wpAny (model P w) _ (if(Value.ref a == Value.none)=true then _ else _) _ _ s
 rw[if_neg (show ¬((Value.ref a == Value.none)=true)from Bool.false_ne_true)]
 show wpAny (model P w) _ (field (.ref j) 1 >>= _) _ _ s
 refine wpAny_bind (wpAny_field e1 e3 (x:=.int k 0) rfl ?_)
 show wpAny (model P w) _ (seqItems? (.ref a) >>= _) _ _ s
 refine wpAny_bind (wpAny_seqItems f1 f3 ?_)
 simp only[Int.toNat_natCast,gx]
 refine wpAny_bind (wpAny_rule (wpAny_bind (wpAny_setField e1 e3 (by simp) ?_)))
 show wpAny (model P w) _ (newExc (.type "StopIteration") [] >>= _) _ _ _
 refine wpAny_bind ?_;simp only[newExc,newTuple]
 refine wpAny_bind (wpAny_newObj_type (wpAny_bind (m:=firstArgMember _ _) (wpAny_of_eq (a:=Value.none) (by first | rfl | (simp only[firstArgMember];rfl)) (wpAny_newObj_type ?_ (by size_fits)))) (by size_fits))
 simp only[raiseNew];refine wpAny_bind (wpAny_handled ?_)
 first | rw[show A.in1.handled=none from hh] | rw[hh]
 exact wpAny_bind (wpAny_pure (wpAny_throw (q _ _ (((Heap.SameBut.update ..).extBut.push _).push _) ⟨_,Heap.get?_push_size _ rfl,rfl⟩)))
theorem oi (hh:A.handled=none) (j a:Addr) (ne:a≠j) (us:Array Value):Draws P w A j [j,a] us.size (fun k v=>us[k]? =some v) (fun k h=>h.IsTupleIter j a k∧h.IsTuple a us) where
 live:=fun _ _ st=>by obtain⟨⟨o,e,_⟩,_⟩:=st;exact⟨o,e⟩
 frame:=fun _ _ _ st hk=>⟨st.1.at fun o e=>hk j (by simp) o e,by obtain⟨o,e,r⟩:=st.2;exact⟨o,hk a (by simp) o e,r⟩⟩
 item:=fun k s Q E hk st q=>iZ st.1 st.2 (x:=us[k]) (by simp[hk]) fun h' g' sb=>q _ h' s.toks (by simp[hk]) ⟨g',by obtain⟨o,e,r⟩:=st.2;exact⟨o,(sb.2 a ne).trans e,r⟩⟩ sb
 done:=fun s Q E st q=>jE hh st.1 st.2 (by simp) q
theorem Src.draws {X:Cx} {pins:List (Addr×Obj)} {σ:St} {H:Hp} {s0:Shared} {c:Src} {xs:List V} {it:Addr} {i:Nat} (hh:A.handled=none) (I:Inv X pins σ H s0) (hs:c.has X.K H xs) (ht:c.at it i s0.heap) (hit:H it=none):
  ∃ (fp : List Addr) (Pt : Nat → Value → Prop) (St : Nat → Heap → Prop), Draws X.prog X.w A it fp xs.length Pt St ∧ St i s0.heap ∧ (∀ k v, Pt k v → ∃ x, xs[k]? = some x ∧ RelV x v) ∧ (∀ k h, St k h → c.at it k h) ∧ it ∈ fp ∧
   ∀b∈fp,b=it∨H b≠none∨∃o,X.base.get? b=some o:=by
 cases c with
 | lst a =>
  obtain⟨its,rv,p,hz⟩:=I.list hs
  have ne:a≠it:=fun z=>by
   obtain⟨o,e,c1,_⟩:=(show s0.heap.IsListIter it a i from ht)
   obtain⟨o2,e2,c2,_⟩:=p.isList
   rw[z,e]at e2;cases e2;rw[c1]at c2;exact absurd c2 (by decide)
  have dr:=Draws.list (prog:=X.prog) (w:=X.w) hh it a ne its.toArray
  rw[List.size_toArray,←rv.length]at dr
  refine⟨_,_,_,dr,⟨ht,p.isList⟩,fun k v e=>?_,fun k h st=>st.1,by simp,fun b hb=>?_⟩
  ·have e:its[k]? =some v:=by simpa using e
   have hk:k< xs.length:=by rw[rv.length];exact(List.getElem?_eq_some_iff.mp e).1
   obtain⟨u,hu,ru⟩:=rv.get (i:=k) (x:=xs[k]) (by simp[hk])
   rw[e]at hu;cases hu
   exact⟨_,by simp[hk],ru⟩
  ·rcases List.mem_cons.mp hb with z | z
   ·exact .inl z
   ·have z:b=a:=by simpa using z
    subst z
    rcases (show SqL X.K H b xs from hs)with(z | ⟨o,z⟩) | ⟨o,_,_,z,_⟩
    ·exact .inr (.inl (by rw[z];simp))
    ·exact .inr (.inl (by rw[z];simp))
    ·exact .inr (.inr ⟨_,I.mod.kin _ _ z⟩)
 | tup a =>
  obtain⟨its,rv,p,hz⟩:=I.tuple hs
  have p:s0.heap.IsTuple a its.toArray:=p
  have ne:a≠it:=fun z=>by
   obtain⟨o,e,c1,_⟩:=(show s0.heap.IsTupleIter it a i from ht)
   obtain⟨o2,e2,c2,_⟩:=id p
   rw[z,e]at e2;cases e2;rw[c1]at c2;exact absurd c2 (by decide)
  have dr:=oi (P:=X.prog) (w:=X.w) hh it a ne its.toArray
  rw[List.size_toArray,←rv.length]at dr
  refine⟨_,_,_,dr,⟨ht,p⟩,fun k v e=>?_,fun k h st=>st.1,by simp,fun b hb=>?_⟩
  ·have e:its[k]? =some v:=by simpa using e
   have hk:k< xs.length:=by rw[rv.length];exact(List.getElem?_eq_some_iff.mp e).1
   obtain⟨u,hu,ru⟩:=rv.get (i:=k) (x:=xs[k]) (by simp[hk])
   rw[e]at hu;cases hu
   exact⟨_,by simp[hk],ru⟩
  ·rcases List.mem_cons.mp hb with z | z
   ·exact .inl z
   ·have z:b=a:=by simpa using z
    subst z
    rcases (show SqT X.K H b xs from hs)with(z | ⟨o,z⟩) | ⟨o,_,_,z,_⟩
    ·exact .inr (.inl (by rw[z];simp))
    ·exact .inr (.inl (by rw[z];simp))
    ·exact .inr (.inr ⟨_,I.mod.kin _ _ z⟩)
 | str l =>
  have hs:xs=l.map fun c=>V.str (aj [c]):=hs
  obtain⟨t,ht⟩:=(show ∃t,s0.heap.IsStrIter it "str_ascii_iterator" (aj l) t i∨s0.heap.IsStrIter it "str_iterator" (aj l) t i from ht)
  have hn:(aj l).cps.size=xs.length:=by rw[hs];simp[aj]
  have sg:∀(k:Nat) (v:Value),(∃c u,(aj l).cps[k]? =some c∧v=.str ⟨#[c]⟩ u)→∃x,xs[k]? =some x∧RelV x v:=fun k v ⟨c,u,e,ev⟩=>by
   have e:l[k]? =some c:=by simpa [aj] using e
   exact⟨.str (aj [c]),by rw[hs];simp[e],⟨u,ev⟩⟩
  rcases ht with ht | ht
  ·exact⟨_,_,_,hn▸Draws.strAscii hh it (aj l) t,ht,sg,fun k h st=>⟨t,.inl st⟩,by simp,fun b hb=>.inl (by simpa using hb)⟩
  ·exact⟨_,_,_,hn▸Draws.strWide hh it (aj l) t,ht,sg,fun k h st=>⟨t,.inr st⟩,by simp,fun b hb=>.inl (by simpa using hb)⟩
end
end L2
namespace L2
open PySem PySem.Spec PyProof.Rows
def d6 (v:Value) (h:Heap) (o:Obj):Prop:=∀(prog:Program) (w:World) (A:Around) (E:Value→Shared→Prop) (Q:Value→Shared→Prop) (s:Shared),s.heap=h→Q (.ref h.objs.size) {s with heap:=h.push o}→wpAny (model prog w) A (pyIter v) Q E s
def uv (h:Heap) (o1 o2:Obj):Heap:=((h.push o1).push o2).push {cls:=.type "tuple",data:=.seq #[.ref h.objs.size,.ref (h.push o1).objs.size]}
def uw (h:Heap) (o1 o2:Obj):Heap:=(uv h o1 o2).push {cls:=.type "tuple",data:=.seq #[.none,.none]}
def tZ (h:Heap) (o1 o2:Obj):Heap:=(uw h o1 o2).push {cls:=.type "zip",data:=.fields #[.none,.bool false,.bool false,.ref ((h.push o1).push o2).objs.size,.ref (uv h o1 o2).objs.size]}
theorem j0 (v1 v2:Value) (o1 o2:Obj):Meets (Builtin.«zip.__new__» ⟨[.type "zip",v1,v2],[]⟩) (fun _ R s=>d6 v1 s.heap o1∧d6 v2 (s.heap.push o1) o2∧R (.ok (.ret (.ref (uw s.heap o1 o2).objs.size))) {s with heap:=tZ s.heap o1 o2}):=
 .of_wp fun prog w A R s h=>by
  obtain⟨hp,g,d,tk,os⟩:=s;obtain⟨i1,i2,h⟩:=h
  have hsub:=sub_zip
  have j1:=fun(A:Around) (E:Value→Shared→Prop) (Q:Value→Shared→Prop) (q:Q _ _)=>i1 prog w A E Q ⟨hp,g,d,tk,os⟩ rfl q
  have j2:=fun(A:Around) (E:Value→Shared→Prop) (Q:Value→Shared→Prop) (q:Q _ _)=>i2 prog w A E Q ⟨hp.push o1,g,d,tk,os⟩ rfl q
  wp_walk using j1 _ _ _,j2 _ _ _
  exact⟨_,rfl,h⟩
theorem mQ {P:Program} {w:World} {A:Around} {E:Value→Shared→Prop} {s:Shared} {v1 v2:Value} {o1 o2:Obj} {Q:Value→Shared→Prop} (i1:d6 v1 s.heap o1) (i2:d6 v2 (s.heap.push o1) o2)
  (f1:o1.isFreed=false) (f2:o2.isFreed=false)
  (q:∀h',IsZip h' (s.heap.objs.size+4) (s.heap.objs.size+2) (s.heap.objs.size+3) .none→IsPair h' (s.heap.objs.size+2) (.ref s.heap.objs.size) (.ref (s.heap.objs.size+1))→IsPair h' (s.heap.objs.size+3) .none .none→
   h'.get? s.heap.objs.size=some o1→h'.get? (s.heap.objs.size+1)=some o2→(∀c o,s.heap.get? c=some o→h'.get? c=some o)→Q (.ref (s.heap.objs.size+4)) {s with heap:=h'}):
  wpAny (model P w) A (call (.type "zip") [v1,v2]) Q E s:=by
 refine callType_new PySem.F.called_zip (by decide) (PySem.F.typeCall_zip_2 _ _) (PySem.F.newCall_zip_2 _ _) (fun obj=>PySem.F.args_object_init_3 obj _ _) PySem.F.entry_zip_new (j0 v1 v2 o1 o2) ⟨i1,i2,?_⟩
 have z1:(s.heap.push o1).objs.size=s.heap.objs.size+1:=Heap.size_push ..
 have z2:((s.heap.push o1).push o2).objs.size=s.heap.objs.size+2:=by rw[Heap.size_push,z1]
 have z3:(uv s.heap o1 o2).objs.size=s.heap.objs.size+3:=by unfold uv;rw[Heap.size_push,z2]
 have z4:(uw s.heap o1 o2).objs.size=s.heap.objs.size+4:=by unfold uw;rw[Heap.size_push,z3]
 have g5:(tZ s.heap o1 o2).get? (uw s.heap o1 o2).objs.size=some _:=Heap.get?_push_size _ rfl
 have g4:(tZ s.heap o1 o2).get? (uv s.heap o1 o2).objs.size=some _:=Heap.get?_push_of_some _ (Heap.get?_push_size _ rfl)
 have g3:(tZ s.heap o1 o2).get? ((s.heap.push o1).push o2).objs.size=some _:=Heap.get?_push_of_some _ (Heap.get?_push_of_some _ (Heap.get?_push_size _ rfl))
 have g2:(tZ s.heap o1 o2).get? (s.heap.push o1).objs.size=some o2:=Heap.get?_push_of_some _ (Heap.get?_push_of_some _ (Heap.get?_push_of_some _ (Heap.get?_push_size _ f2)))
 have g1:(tZ s.heap o1 o2).get? s.heap.objs.size=some o1:=Heap.get?_push_of_some _ (Heap.get?_push_of_some _ (Heap.get?_push_of_some _ (Heap.get?_push_of_some _ (Heap.get?_push_size _ f1))))
 show _∧_
 rw[z2,z3,z4]at g5
 rw[z1,z2]at g3
 rw[z3]at g4
 rw[z1]at g2
 rw[z4]
 exact⟨⟨_,g5,rfl⟩,q _ g5 g3 g4 g1 g2 fun c o x=>Heap.get?_push_of_some _ (Heap.get?_push_of_some _ (Heap.get?_push_of_some _ (Heap.get?_push_of_some _ (Heap.get?_push_of_some _ x))))⟩
theorem Src.iter {X:Cx} {pins:List (Addr×Obj)} {σ:St} {H:Hp} {s:Shared} {c:Src} {xs:List V} {v:Value} {h:Heap} (I:Inv X pins σ H s) (hs:c.has X.K H xs) (rv:RelV c.val v) (k:∀b o,s.heap.get? b=some o→h.get? b=some o):
  ∃o,d6 v h o∧o.isFreed=false∧(∀h':Heap,h'.get? h.objs.size=some o→c.at h.objs.size 0 h'):=by
 cases c with
 | lst a =>
  obtain⟨its,r,p,hz⟩:=I.list hs
  cases (show v=.ref a from rv)
  obtain⟨o,e,r2⟩:=p.isList
  refine⟨{cls:=.type "list_iterator",data:=.fields #[.ref a,.int 0 0]},fun prog w A E Q s' e' q=>?_,rfl,fun h' e'=>⟨_,e',rfl,rfl⟩⟩
  subst e'
  exact wpAny_pyIter_list ⟨o,k a o e,r2⟩ q
 | tup a =>
  obtain⟨its,r,p,hz⟩:=I.tuple hs
  cases (show v=.ref a from rv)
  obtain⟨o,e,r2⟩:=p
  refine⟨{cls:=.type "tuple_iterator",data:=.fields #[.ref a,.int 0 0]},fun prog w A E Q s' e' q=>?_,rfl,fun h' e'=>⟨_,e',rfl,rfl⟩⟩
  subst e'
  exact wpAny_pyIter_tuple ⟨o,k a o e,r2⟩ q
 | str l =>
  obtain⟨t,rfl⟩:=(show ∃t,v=.str (aj l) t from rv)
  cases ha:(aj l).cps.all (· <128)
  ·exact⟨{cls:=.type "str_iterator",data:=.fields #[.str (aj l) t,.int 0 0]},fun prog w A E Q s' e' q=>by subst e';exact wpAny_pyIter_wide ha q,rfl,fun h' e'=>⟨t,.inr ⟨_,e',rfl,rfl⟩⟩⟩
  ·exact⟨{cls:=.type "str_ascii_iterator",data:=.fields #[.str (aj l) t,.int 0 0]},fun prog w A E Q s' e' q=>by subst e';exact wpAny_pyIter_ascii ha q,rfl,fun h' e'=>⟨t,.inl ⟨_,e',rfl,rfl⟩⟩⟩
end L2
namespace L2
open PySem PySem.Spec PyProof.Rows
section
variable {P:Program} {w:World} {A:Around} {E:Value→Shared→Prop} {s:Shared} {z TI TO i1 i2:Addr} {fp1 fp2:List Addr} {n1 n2 k:Nat} {P1 P2:Nat→Value→Prop} {S1 S2:Nat→Heap→Prop} {a b:Value}
structure ZApart (z TI TO i1 i2:Addr) (fp1 fp2:List Addr):Prop where
 c1:TI≠z
 c2:TO≠z
 c3:i1≠z
 c4:i2≠z
 c5:TI≠TO
 c6:TI≠i1
 c7:TI≠i2
 c8:TO≠i1
 c9:TO≠i2
 d1:z∉fp1∧TO∉fp1∧i2∉fp1
 d2:z∉fp2∧TO∉fp2∧i1∉fp2
theorem ak {n:Nat} {it:Addr} {fp:List Addr} {Pt:Nat→Value→Prop} {S:Nat→Heap→Prop} (D:Draws P w A it fp n Pt S) {j:Nat} {h h':Heap} {c:Addr} (st:S j h) (sb:Heap.SameBut c h h') (hc:c∉fp):S j h':=
 D.frame _ _ _ st fun b hb o e=>(sb.2 b fun q=>hc (q▸hb)).trans e
theorem mR {Q:Option Value→Shared→Prop} (D1:Draws P w A.in1 i1 fp1 n1 P1 S1) (D2:Draws P w A.in1 i2 fp2 n2 P2 S2) (Z:ZApart z TI TO i1 i2 fp1 fp2) (h1:k< n1) (h2:k< n2) (hz:IsZip s.heap z TI TO .none)
  (hI:IsPair s.heap TI (.ref i1) (.ref i2)) (hO:IsPair s.heap TO a b) (t1:S1 k s.heap) (t2:S2 k s.heap)
  (q:∀x y h' tk T,P1 k x→P2 k y→T=s.heap.objs.size→IsZip h' z TI TO (rawInt T)→IsPair h' TO x y→S1 (k+1) h'→S2 (k+1) h'→IsPair h' T x y→
   (∀c o,c≠z→c≠TO→c≠i1→c≠i2→s.heap.get? c=some o→h'.get? c=some o)→Q (some (.ref T)) {s with heap:=h',toks:=tk}):
  wpAny (model P w) A (pyNext (.ref z)) Q E s:=by
 have hT:s.TypeIs (.ref z) "zip" :=⟨_,hz,rfl⟩
 unfold pyNext
 refine wpAny_bind (wpAny_attempt (wpAny_callSpecial?_slot (name:=Str.ofString "__next__") hT PySem.F.slot_zip_next (wpAny_call_entry PySem.F.slot_zip_next hT PySem.F.entry_zip_next ?_ (PySem.F.args_zip_next_1 _))))
 obtain⟨hp,gg,dd,tk0,os⟩:=s
 show wpAny (model P w) _ (field (.ref z) 2 >>= _) _ _ _
 refine wpAny_bind (wpAny_field hz rfl (x:=.bool false) rfl ?_)
 show wpAny (model P w) _ (field (.ref z) 3 >>= _) _ _ _
 refine wpAny_bind (wpAny_field hz rfl (x:=.ref TI) rfl (wpAny_bind (wpAny_seqItems hI rfl ?_)))
 show wpAny (model P w) _ (Builtin.SmallTypes.ownedTupleIsFree (.ref z) >>= _) _ _ _
 refine wpAny_bind ?_;unfold Builtin.SmallTypes.ownedTupleIsFree
 refine wpAny_bind (wpAny_field hz rfl (x:=.none) rfl (wpAny_pure ?_));simp only[if_true]
 refine wpAny_bind (wpAny_rule (wpAny_bind (wpAny_field hz rfl (x:=.ref TO) rfl (wpAny_bind (wpAny_setField_rec hz (by simp) fun g1 y1 b1=>?_)))))
 replace y1:IsZip g1 z TI TO .ellipsis:=y1
 replace b1:Heap.SameBut z hp g1:=b1
 refine wpAny_bind ?_;simp only[List.zipIdx_cons,List.zipIdx_nil,List.forIn_cons,List.forIn_nil]
 refine wpAny_bind (wpAny_bind (wpAny_onRaise ?_))
 show wpAny (model P w) _ (Builtin.SmallTypes.nextOf (.ref i1) >>= _) _ _ _
 refine wpAny_bind (D1.item k _ _ _ h1 (ak D1 t1 b1 Z.d1.1) fun x g2 tk2 px u1 b2=>wpAny_pure ?_)
 replace b2:Heap.SameBut i1 g1 g2:=b2
 have O2:IsPair g2 TO a b:=b2.extBut _ _ Z.c8 (b1.extBut _ _ Z.c2 hO)
 refine wpAny_bind (wpAny_seqItems O2 rfl (wpAny_bind (wpAny_updateSeq_pair O2 fun g3 O3 b3=>?_)))
 replace O3:IsPair g3 TO x b:=O3
 replace b3:Heap.SameBut TO g2 g3:=b3
 refine wpAny_bind (wpAny_letGo (wpAny_pure (wpAny_bind (wpAny_bind (wpAny_onRaise ?_)))))
 show wpAny (model P w) _ (Builtin.SmallTypes.nextOf (.ref i2) >>= _) _ _ _
 refine wpAny_bind (D2.item k _ _ _ h2 (ak D2 (ak D2 (ak D2 t2 b1 Z.d2.1) b2 Z.d2.2.2) b3 Z.d2.2.1) fun y g4 tk4 py u2 b4=>wpAny_pure ?_)
 replace b4:Heap.SameBut i2 g3 g4:=b4
 have O4:IsPair g4 TO x b:=b4.extBut _ _ Z.c9 O3
 refine wpAny_bind (wpAny_seqItems O4 rfl (wpAny_bind (wpAny_updateSeq_pair O4 fun g5 O5 b5=>?_)))
 replace O5:IsPair g5 TO x y:=O5
 replace b5:Heap.SameBut TO g4 g5:=b5
 refine wpAny_bind (wpAny_letGo (wpAny_pure (wpAny_pure (wpAny_bind (wpAny_seqItems O5 rfl (wpAny_bind (wpAny_newTuple ?_)))))))
 have sz:g5.objs.size=hp.objs.size:=by rw[b5.1,b4.1,b3.1,b2.1,b1.1]
 have y5:IsZip g5 z TI TO .ellipsis:=b5.extBut _ _ Z.c2.symm (b4.extBut _ _ Z.c4.symm (b3.extBut _ _ Z.c2.symm (b2.extBut _ _ Z.c3.symm y1)))
 have k5:∀c o,c≠z→c≠TO→c≠i1→c≠i2→hp.get? c=some o→g5.get? c=some o:=fun c o e1 e2 e3 e4 e=>b5.extBut _ _ e2 (b4.extBut _ _ e4 (b3.extBut _ _ e2 (b2.extBut _ _ e3 (b1.extBut _ _ e1 e))))
 have v1:S1 (k+1) g5:=ak D1 (ak D1 (ak D1 u1 b3 Z.d1.2.1) b4 Z.d1.2.2) b5 Z.d1.2.1
 have v2:S2 (k+1) g5:=ak D2 u2 b5 Z.d2.2.1
 have lz:z< g5.objs.size:=Heap.lt_size y5
 show wpAny (model P w) _ (Builtin.SmallTypes.ownedTupleHandOut (.ref z) (.ref g5.objs.size) >>= _) _ _ _
 refine wpAny_bind ?_;unfold Builtin.SmallTypes.ownedTupleHandOut
 have y6:IsZip (g5.push {cls:=.type "tuple",data:=.seq #[x,y]}) z TI TO .ellipsis:=Heap.get?_push_of_some _ y5
 refine wpAny_bind (wpAny_setField_rec y6 (by simp) fun g7 y7 b7=>?_)
 replace y7:IsZip g7 z TI TO (rawInt g5.objs.size):=y7
 replace b7:Heap.SameBut z (g5.push {cls:=.type "tuple",data:=.seq #[x,y]}) g7:=b7
 refine wpAny_setField_rec y7 (by simp) fun g8 y8 b8=>?_
 replace y8:IsZip g8 z TI TO (rawInt g5.objs.size):=y8
 replace b8:Heap.SameBut z g7 g8:=b8
 have up:∀c o,c≠z→g5.get? c=some o→g8.get? c=some o:=fun c o e1 e=>b8.extBut _ _ e1 (b7.extBut _ _ e1 (Heap.get?_push_of_some _ e))
 have T8:IsPair g8 g5.objs.size x y:=b8.extBut _ _ (Nat.ne_of_gt lz) (b7.extBut _ _ (Nat.ne_of_gt lz) (Heap.get?_push_size _ rfl))
 refine wpAny_pure ⟨_,rfl,wpAny_pure (q x y g8 _ g5.objs.size px py sz y8 (up _ _ Z.c2 O5) (D1.frame _ _ _ v1 fun b hb o e=>up b o (fun q=>Z.d1.1 (q▸hb)) e) (D2.frame _ _ _ v2 fun b hb o e=>up b o (fun q=>Z.d2.1 (q▸hb)) e) T8 fun c o e1 e2 e3 e4 e=>up c o e1 (k5 c o e1 e2 e3 e4 e))⟩
theorem oj {Q:Option Value→Shared→Prop} (hh:A.handled=none) (D1:Draws P w A.in1 i1 fp1 n1 P1 S1) (D2:Draws P w A.in1 i2 fp2 n2 P2 S2) (Z:ZApart z TI TO i1 i2 fp1 fp2) (hk:k=n1∨(k< n1∧k=n2)) (hz:IsZip s.heap z TI TO .none)
  (hI:IsPair s.heap TI (.ref i1) (.ref i2)) (hO:IsPair s.heap TO a b) (t1:S1 k s.heap) (t2:S2 k s.heap)
  (q:∀h' tk,(∀c o,c≠z→c≠TO→c≠i1→c≠i2→s.heap.get? c=some o→h'.get? c=some o)→Q none {s with heap:=h',toks:=tk}):
  wpAny (model P w) A (pyNext (.ref z)) Q E s:=by
 have hT:s.TypeIs (.ref z) "zip" :=⟨_,hz,rfl⟩
 unfold pyNext
 refine wpAny_bind (wpAny_attempt (wpAny_callSpecial?_slot (name:=Str.ofString "__next__") hT PySem.F.slot_zip_next (wpAny_call_entry PySem.F.slot_zip_next hT PySem.F.entry_zip_next ?_ (PySem.F.args_zip_next_1 _))))
 obtain⟨hp,gg,dd,tk0,os⟩:=s
 show wpAny (model P w) _ (field (.ref z) 2 >>= _) _ _ _
 refine wpAny_bind (wpAny_field hz rfl (x:=.bool false) rfl ?_)
 show wpAny (model P w) _ (field (.ref z) 3 >>= _) _ _ _
 refine wpAny_bind (wpAny_field hz rfl (x:=.ref TI) rfl (wpAny_bind (wpAny_seqItems hI rfl ?_)))
 show wpAny (model P w) _ (Builtin.SmallTypes.ownedTupleIsFree (.ref z) >>= _) _ _ _
 refine wpAny_bind ?_;unfold Builtin.SmallTypes.ownedTupleIsFree
 refine wpAny_bind (wpAny_field hz rfl (x:=.none) rfl (wpAny_pure ?_));simp only[if_true]
 refine wpAny_bind (wpAny_rule (wpAny_bind (wpAny_field hz rfl (x:=.ref TO) rfl (wpAny_bind (wpAny_setField_rec hz (by simp) fun g1 y1 b1=>?_)))))
 replace y1:IsZip g1 z TI TO .ellipsis:=y1
 replace b1:Heap.SameBut z hp g1:=b1
 refine wpAny_bind ?_;simp only[List.zipIdx_cons,List.zipIdx_nil,List.forIn_cons,List.forIn_nil]
 refine wpAny_bind (wpAny_bind (wpAny_onRaise ?_))
 show wpAny (model P w) _ (Builtin.SmallTypes.nextOf (.ref i1) >>= _) _ _ _
 rcases hk with hk | ⟨hk1,hk2⟩
 ·subst hk
  refine wpAny_bind (D1.done _ _ _ (ak D1 t1 b1 Z.d1.1) fun g2 e b2 he=>?_)
  obtain⟨oe,hoe,hce⟩:=he
  replace b2:Heap.ExtBut i1 g1 g2:=b2
  have y2:IsZip g2 z TI TO .ellipsis:=b2 _ _ Z.c3.symm y1
  have ez:e≠z:=fun x=>by subst x;rw[y2]at hoe;cases hoe;simp at hce
  refine wpAny_setField_rec y2 (by simp) fun g3 _ b3=>?_
  exact wpAny_bind (wpAny_isInstance (T:="StopIteration") (b:=true) ⟨oe,b3.extBut _ _ ez hoe,hce⟩ isSubtype_stop (wpAny_pure (q g3 _ fun c o e1 _ e3 _ x=>b3.extBut _ _ e1 (b2 _ _ e3 (b1.extBut _ _ e1 x)))))
 ·subst hk2
  refine wpAny_bind (D1.item k _ _ _ hk1 (ak D1 t1 b1 Z.d1.1) fun x g2 tk2 px u1 b2=>wpAny_pure ?_)
  replace b2:Heap.SameBut i1 g1 g2:=b2
  have O2:IsPair g2 TO a b:=b2.extBut _ _ Z.c8 (b1.extBut _ _ Z.c2 hO)
  refine wpAny_bind (wpAny_seqItems O2 rfl (wpAny_bind (wpAny_updateSeq_pair O2 fun g3 O3 b3=>?_)))
  replace b3:Heap.SameBut TO g2 g3:=b3
  refine wpAny_bind (wpAny_letGo (wpAny_pure (wpAny_bind (wpAny_bind (wpAny_onRaise ?_)))))
  show wpAny (model P w) _ (Builtin.SmallTypes.nextOf (.ref i2) >>= _) _ _ _
  refine wpAny_bind (D2.done _ _ _ (ak D2 (ak D2 (ak D2 t2 b1 Z.d2.1) b2 Z.d2.2.2) b3 Z.d2.2.1) fun g4 e b4 he=>?_)
  obtain⟨oe,hoe,hce⟩:=he
  replace b4:Heap.ExtBut i2 g3 g4:=b4
  have y4:IsZip g4 z TI TO .ellipsis:=b4 _ _ Z.c4.symm (b3.extBut _ _ Z.c2.symm (b2.extBut _ _ Z.c3.symm y1))
  have ez:e≠z:=fun x=>by subst x;rw[y4]at hoe;cases hoe;simp at hce
  refine wpAny_setField_rec y4 (by simp) fun g5 _ b5=>?_
  exact wpAny_bind (wpAny_isInstance (T:="StopIteration") (b:=true) ⟨oe,b5.extBut _ _ ez hoe,hce⟩ isSubtype_stop (wpAny_pure (q g5 _ fun c o e1 e2 e3 e4 x=>b5.extBut _ _ e1 (b4 _ _ e4 (b3.extBut _ _ e2 (b2.extBut _ _ e3 (b1.extBut _ _ e1 x)))))))
end
end L2
namespace L2
open PySem PySem.Spec PyProof.Rows
def ux (K:PySem.W.Frag) (c1 c2:Src):It:=
  ⟨fun i H=>∃xs ys x y,c1.has K H xs∧c2.has K H ys∧xs[i]? =some x∧ys[i]? =some y,
   fun i H v H'=>∃p x y,H p=none∧v=.ref p∧(∀xs,c1.has K H xs→xs[i]? =some x)∧(∀ys,c2.has K H ys→ys[i]? =some y)∧H'=cr H p (.tup [x,y]),
   fun i H=>∃xs ys,c1.has K H xs∧c2.has K H ys∧(i=xs.length∨(i< xs.length∧i=ys.length))⟩
theorem Src.inj {X:Cx} {pins:List (Addr×Obj)} {σ:St} {H:Hp} {s:Shared} {c:Src} {xs ys:List V} (I:Inv X pins σ H s) (h1:c.has X.K H xs) (h2:c.has X.K H ys):xs=ys:=by
 cases c with
 | lst a=>exact I.list_inj h1 h2
 | tup a=>exact I.tuple_inj h1 h2
 | str l=>exact Eq.trans h1 (Eq.symm h2)
theorem Src.at_keep {c:Src} {it:Addr} {i:Nat} {h h':Heap} (st:c.at it i h) (k:∀o,h.get? it=some o→h'.get? it=some o):c.at it i h':=by
 cases c with
 | lst a=>obtain⟨o,e,r⟩:=st;exact⟨o,k o e,r⟩
 | tup a=>obtain⟨o,e,r⟩:=st;exact⟨o,k o e,r⟩
 | str l =>
  obtain⟨t,st⟩:=st
  rcases st with⟨o,e,r⟩ | ⟨o,e,r⟩
  ·exact⟨t,.inl ⟨o,k o e,r⟩⟩
  ·exact⟨t,.inr ⟨o,k o e,r⟩⟩
theorem Src.at_obj {c:Src} {it:Addr} {i:Nat} {h:Heap} (st:c.at it i h):∃o,h.get? it=some o∧∃vs,o.data=.fields vs:=by
 cases c with
 | lst a=>obtain⟨o,e,_,r⟩:=st;exact⟨o,e,_,r⟩
 | tup a=>obtain⟨o,e,_,r⟩:=st;exact⟨o,e,_,r⟩
 | str l =>
  obtain⟨t,st⟩:=st
  rcases st with⟨o,e,_,r⟩ | ⟨o,e,_,r⟩
  ·exact⟨o,e,_,r⟩
  ·exact⟨o,e,_,r⟩
def we (c1 c2:Src) (z TI TO i1 i2:Addr) (i:Nat) (h:Heap):Prop:=IsZip h z TI TO .none∧IsPair h TI (.ref i1) (.ref i2)∧(∃a b,IsPair h TO a b)∧c1.at i1 i h∧c2.at i2 i h
structure ZIds (z TI TO i1 i2:Addr):Prop where
 c1:TI≠z
 c2:TO≠z
 c3:i1≠z
 c4:i2≠z
 c5:TI≠TO
 c6:TI≠i1
 c7:TI≠i2
 c8:TO≠i1
 c9:TO≠i2
 c10:i1≠i2
theorem ol {X:Cx} {pins:List (Addr×Obj)} {σ:St} {H:Hp} {s:Shared} {z TI TO i1 i2:Addr} {fp1 fp2:List Addr} (I:Inv X pins σ H s) (Z:ZIds z TI TO i1 i2) (hf:∀b∈[z,TI,TO,i1,i2],FpOk X pins H b)
  (g1:∀b∈fp1,b=i1∨H b≠none∨∃o,X.base.get? b=some o) (g2:∀b∈fp2,b=i2∨H b≠none∨∃o,X.base.get? b=some o):ZApart z TI TO i1 i2 fp1 fp2:=by
 have no:∀b∈[z,TI,TO,i1,i2],¬(H b≠none∨∃o,X.base.get? b=some o):=fun b hb q=>by
  rcases q with q | ⟨o,q⟩
  ·exact q (hf b hb).1
  ·rcases (hf b hb).2.2.2.1 with y | y
   ·exact I.ok.noex b o q y
   ·exact absurd (Nat.lt_of_lt_of_le (Nat.lt_of_lt_of_le (Heap.lt_size q) I.ok.bsz) y) (Nat.lt_irrefl _)
 refine⟨Z.c1,Z.c2,Z.c3,Z.c4,Z.c5,Z.c6,Z.c7,Z.c8,Z.c9,⟨fun m=>?_,fun m=>?_,fun m=>?_⟩,⟨fun m=>?_,fun m=>?_,fun m=>?_⟩⟩
 ·exact(g1 _ m).elim (fun e=>Z.c3 e.symm) (no z (by simp))
 ·exact(g1 _ m).elim (fun e=>Z.c8 e) (no TO (by simp))
 ·exact(g1 _ m).elim (fun e=>Z.c10 e.symm) (no i2 (by simp))
 ·exact(g2 _ m).elim (fun e=>Z.c4 e.symm) (no z (by simp))
 ·exact(g2 _ m).elim (fun e=>Z.c9 e) (no TO (by simp))
 ·exact(g2 _ m).elim (fun e=>Z.c10 e) (no i1 (by simp))
theorem om {P:Program} {w:World} {K:PySem.W.Frag} {elts:List Expr} {kk:Nat} {tp:Pos} (c1 c2:Src) (z TI TO i1 i2:Addr) (Z:ZIds z TI TO i1 i2):
  Turn P w K (.Tuple elts kk tp) (ux K c1 c2) [z,TI,TO,i1,i2] z (we c1 c2 z TI TO i1 i2) where
 mem:=by simp
 obj:=fun i h st b hb=>by
  obtain⟨hz,hI,⟨a,b',hO⟩,t1,t2⟩:=st
  obtain⟨o1,e1,v1,d1⟩:=Src.at_obj t1
  obtain⟨o2,e2,v2,d2⟩:=Src.at_obj t2
  simp only[List.mem_cons,List.not_mem_nil,or_false]at hb
  rcases hb with rfl | rfl | rfl | rfl | rfl
  ·exact⟨_,hz,fun v q=>by cases (show Data.fields _=Data.cell v from q)⟩
  ·exact⟨_,hI,fun v q=>by cases (show Data.seq _ _=Data.cell v from q)⟩
  ·exact⟨_,hO,fun v q=>by cases (show Data.seq _ _=Data.cell v from q)⟩
  ·exact⟨_,e1,fun v q=>by rw[d1]at q;cases q⟩
  ·exact⟨_,e2,fun v q=>by rw[d2]at q;cases q⟩
 keep:=fun i h h' st k=>by
  obtain⟨hz,hI,⟨a,b',hO⟩,t1,t2⟩:=st
  exact⟨k z (by simp) _ hz,k TI (by simp) _ hI,⟨a,b',k TO (by simp) _ hO⟩,Src.at_keep t1 (k i1 (by simp)),Src.at_keep t2 (k i2 (by simp))⟩
 item:=by
  intro X hP hw hK hc i pins s σ H E I hf st hg
  subst hP hw hK
  obtain⟨xs,ys,x,y,hx,hy,ex,ey⟩:=hg
  obtain⟨hz,hI,⟨a,b',hO⟩,t1,t2⟩:=st
  have hh:X.A.in1.handled=none:=I.ok.hd hc
  obtain⟨fp1,P1,S1,D1,u1,r1,a1,_,g1⟩:=Src.draws (A:=X.A.in1) hh I hx t1 (hf i1 (by simp)).1
  obtain⟨fp2,P2,S2,D2,u2,r2,a2,_,g2⟩:=Src.draws (A:=X.A.in1) hh I hy t2 (hf i2 (by simp)).1
  have ZA:=ol I Z hf g1 g2
  refine mR D1 D2 ZA (List.getElem?_eq_some_iff.mp ex).1 (List.getElem?_eq_some_iff.mp ey).1 hz hI hO u1 u2 fun vx vy h' tk T px py hT hz' hO' w1 w2 hTp kp=>?_
  obtain⟨x',ex',rx⟩:=r1 i vx px
  obtain⟨y',ey',ry⟩:=r2 i vy py
  rw[ex]at ex';cases ex'
  rw[ey]at ey';cases ey'
  have nT:H T=none:=by rw[hT];exact I.hok.fresh (Nat.le_refl _)
  refine⟨_,rfl,wpAny_letOwnedTupleGo_zip hz' fun h2 hz2 sb=>?_⟩
  have lt:∀{c o},s.heap.get? c=some o→c≠T:=fun e=>by rw[hT];exact Nat.ne_of_lt (Heap.lt_size e)
  have up:∀c o,c≠z→h'.get? c=some o→h2.get? c=some o:=fun c o hc e=>(sb.2 c hc).trans e
  have kp2:∀b o,b∉[z,TO,i1,i2]→s.heap.get? b=some o→h2.get? b=some o:=fun b o hb e=>by
   simp only[List.mem_cons,List.not_mem_nil,or_false,not_or]at hb
   exact up b o hb.1 (kp b o hb.1 hb.2.1 hb.2.2.1 hb.2.2.2 e)
  have ch:∀b∈[z,TO,i1,i2],b∈[z,TI,TO,i1,i2]:=fun b hb=>by
   simp only[List.mem_cons,List.not_mem_nil,or_false]at hb ⊢
   rcases hb with h | h | h | h <;> simp[h]
  have fW:∀b u,H b=some u→b∉[z,TO,i1,i2]∧b≠T:=fun b u e=>⟨fun hb=>(by rw[(hf b (ch b hb)).1]at e;cases e),fun q=>(by rw[q,nT]at e;cases e)⟩
  have I2:Inv X pins σ (cr H T (.tup [x,y])) {s with heap:=h2,gens:=s.gens,drawn:=s.drawn,toks:=tk} :=by
   refine I.step (g':=s.gens) (d':=s.drawn) (t':=tk) (ch:=[z,TO,i1,i2]) (fun b hb=>⟨(hf b (ch b hb)).2.2.2.1,(hf b (ch b hb)).2.1,(hf b (ch b hb)).2.2.2.2.1,(hf b (ch b hb)).2.2.2.2.2⟩) (fun b o _ _ hb e _=>kp2 b o hb e) (fun b o _ _ hb e _=>⟨o.slots,kp2 b o hb e⟩)
    (fun b o hb e n=>by rw[aw (lt e)];exact n) (fun b o hb e=>⟨o,kp2 b o hb e⟩) (fun b xs e=>by rw[aw (fW b _ e).2];exact e) (fun b o u e=>by rw[aw (fW b _ e).2];exact e) (fun b ps e=>⟨#[],by rw[aw (fW b _ e).2,e];simp⟩) (fun m hm=>?_) (fun b u e=>?_) I.bare
   ·obtain⟨o,es,ep,ho,r⟩:=hm
    exact⟨o,es,ep,kp2 _ o (fun hb=>(hf _ (ch _ hb)).2.1 rfl) ho,r⟩
   ·by_cases hb:b=T
    ·subst hb
     rw[aJ]at e;cases e
     refine⟨(by show 2≤sizeLine;rw[sizeLine_eq];decide),[vx,vy],.cons rx (.cons ry .nil),⟨_,up _ _ ?_ hTp,⟨rfl,rfl⟩,_,rfl⟩⟩
     exact fun q=>lt hz q.symm
    ·rw[aw hb]at e
     refine(I.hok b u e).stay (fun c v hc q=>kp2 c v ?_ q) (fun c q=>by rw[aw (fW c _ q).2];exact q) fun c xs q=>by rw[aw (fW c _ q).2];exact q
     rcases hc with q | q
     ·rw[q];exact(fW b u e).1
     ·exact(fW c _ q).1
  refine⟨.ref T,_,I2,rfl,⟨T,x,y,nT,rfl,fun xs' h=>by rw[Src.inj I h hx];exact ex,fun ys' h=>by rw[Src.inj I h hy];exact ey,rfl⟩,⟨hz2,up _ _ Z.c1 (kp _ _ Z.c1 Z.c5 Z.c6 Z.c7 hI),⟨_,_,up _ _ Z.c2 hO'⟩,Src.at_keep (a1 _ _ w1) fun o e=>up _ o Z.c3 e,Src.at_keep (a2 _ _ w2) fun o e=>up _ o Z.c4 e⟩,fun b hb=>?_⟩
  have hbT:b≠T:=by
   obtain⟨o,e⟩:∃o,s.heap.get? b=some o:=by
    obtain⟨o1,e1,_⟩:=Src.at_obj t1
    obtain⟨o2,e2,_⟩:=Src.at_obj t2
    simp only[List.mem_cons,List.not_mem_nil,or_false]at hb
    rcases hb with rfl | rfl | rfl | rfl | rfl
    ·exact⟨_,hz⟩
    ·exact⟨_,hI⟩
    ·exact⟨_,hO⟩
    ·exact⟨_,e1⟩
    ·exact⟨_,e2⟩
   exact lt e
  rw[aw hbT]
  exact(hf b hb).1
 done:=by
  intro X hP hw hK hc i pins s σ H E I hf st hg
  subst hP hw hK
  obtain⟨xs,ys,hx,hy,hend⟩:=hg
  obtain⟨hz,hI,⟨a,b',hO⟩,t1,t2⟩:=st
  have hh:X.A.in1.handled=none:=I.ok.hd hc
  obtain⟨fp1,P1,S1,D1,u1,r1,a1,_,g1⟩:=Src.draws (A:=X.A.in1) hh I hx t1 (hf i1 (by simp)).1
  obtain⟨fp2,P2,S2,D2,u2,r2,a2,_,g2⟩:=Src.draws (A:=X.A.in1) hh I hy t2 (hf i2 (by simp)).1
  have ZA:=ol I Z hf g1 g2
  have ch:∀b∈[z,TO,i1,i2],b∈[z,TI,TO,i1,i2]:=fun b hb=>by
   simp only[List.mem_cons,List.not_mem_nil,or_false]at hb ⊢
   rcases hb with h | h | h | h <;> simp[h]
  refine oj hh D1 D2 ZA hend hz hI hO u1 u2 fun h2 tk kp=>⟨rfl,?_⟩
  have kp2:∀b o,b∉[z,TO,i1,i2]→s.heap.get? b=some o→h2.get? b=some o:=fun b o hb e=>by
   simp only[List.mem_cons,List.not_mem_nil,or_false,not_or]at hb
   exact kp b o hb.1 hb.2.1 hb.2.2.1 hb.2.2.2 e
  refine I.step (g':=s.gens) (d':=s.drawn) (t':=tk) (ch:=[z,TO,i1,i2]) (fun b hb=>⟨(hf b (ch b hb)).2.2.2.1,(hf b (ch b hb)).2.1,(hf b (ch b hb)).2.2.2.2.1,(hf b (ch b hb)).2.2.2.2.2⟩) (fun b o _ _ hb e _=>kp2 b o hb e) (fun b o _ _ hb e _=>⟨o.slots,kp2 b o hb e⟩)
   (fun b o hb e n=>n) (fun b o hb e=>⟨o,kp2 b o hb e⟩) (fun b xs e=>e) (fun b o u e=>e) (fun b ps e=>⟨#[],by rw[e];simp⟩) (fun m hm=>?_) (fun b u e=>?_) I.bare
  ·obtain⟨o,es,ep,ho,r⟩:=hm
   exact⟨o,es,ep,kp2 _ o (fun hb=>(hf _ (ch _ hb)).2.1 rfl) ho,r⟩
  ·have fW:∀b u,H b=some u→b∉[z,TO,i1,i2]:=fun b u e hb=>by rw[(hf b (ch b hb)).1]at e;cases e
   refine(I.hok b u e).stay (fun c v hc q=>kp2 c v ?_ q) (fun c q=>q) fun c xs q=>q
   rcases hc with q | q
   ·rw[q];exact fW b u e
   ·exact fW c _ q
 self:=fun _ _ _ _ _ st h=>wpAny_pyIter_zip st.1 h
theorem gj (n a b:Nat) (h:a≠b): @Ne Nat (n+a) (n+b):=fun e=>h (Nat.add_left_cancel e)
def sP (K:PySem.W.Frag) (t:TA):TI:=fun σ H R=>t σ H fun vs H1=>∃c1 c2 xs ys,vs=[c1.val,c2.val]∧c1.has K H1 xs∧c2.has K H1 ys∧R (ux K c1 c2) H1
theorem sQ {X:Cx} {a b:Expr} {ta:TA} {p pos tp:Pos} {elts:List Expr} {kk:Nat} (hg:Gl X "zip") (hm:X.mg "zip" =none) (ha:PA X [a,b] ta)
  (hs:starEach [a,b] X.env=[(false,eval a X.env),(false,eval b X.env)]:=by rfl) (hs2:starEach [b] X.env=[(false,eval b X.env)]:=by rfl):PI X (.Tuple elts kk tp) (.Call (.Name "zip" p) [a,b] [] pos) (sP X.K ta):=by
 intro pins s σ H R I h
 refine Call_ (fG I hg hm boot_zip (PyProof.Rows.callWith_type1 (bF (ha pos pins s σ H _ I h) fun us s1 ⟨vs,H1,I1,r1,q1⟩=>?_) (by rw[hs,hs2]) (by rw[hs2];rfl)))
 obtain⟨c1,c2,xs,ys,e,h1,h2,q⟩:=q1
 subst e
 obtain⟨v1,v2,rfl,ra,rb⟩:=nX r1
 obtain⟨o1,i1,f1,n1⟩:=Src.iter I1 h1 ra fun _ _ e=>e
 obtain⟨o2,i2,f2,n2⟩:=Src.iter (h:=s1.heap.push o1) I1 h2 rb fun _ _ e=>Heap.get?_push_of_some _ e
 have z1:(s1.heap.push o1).objs.size=s1.heap.objs.size+1:=Heap.size_push ..
 rw[z1]at n2
 refine mQ i1 i2 f1 f2 fun h' hz hI hO e1 e2 kp=>?_
 refine wpAny_pyIter_zip hz ?_
 have zi:∀n:Nat,ZIds (n+4) (n+2) (n+3) n (n+1):=fun n=>⟨(gj n 2 4 (by decide)),(gj n 3 4 (by decide)),(gj n 0 4 (by decide)),(gj n 1 4 (by decide)),(gj n 2 3 (by decide)),(gj n 2 0 (by decide)),(gj n 2 1 (by decide)),(gj n 3 0 (by decide)),(gj n 3 1 (by decide)),(gj n 0 1 (by decide))⟩
 refine⟨s1.heap.objs.size+4,[s1.heap.objs.size+4,s1.heap.objs.size+2,s1.heap.objs.size+3,s1.heap.objs.size,s1.heap.objs.size+1],_,_,H1,rfl,I1.kept (t':=s1.toks) kp,om c1 c2 _ _ _ _ _ (zi s1.heap.objs.size),⟨hz,hI,⟨_,_,hO⟩,n1 h' e1,n2 h' e2⟩,fun b hb=>?_,q⟩
 have hb':s1.heap.objs.size≤b:=by
  simp only[List.mem_cons,List.not_mem_nil,or_false]at hb
  rcases hb with z | z | z | z | z <;> rw[z]
  ·exact Nat.le_add_right _ 4
  ·exact Nat.le_add_right _ 2
  ·exact Nat.le_add_right _ 3
  ·exact Nat.le_refl _
  ·exact Nat.le_add_right _ 1
 exact I1.fpOk hb' (I1.hok.fresh hb')
theorem qy {K:PySem.W.Frag} {c1 c2:Src} {xs ys:List V} {g:TG} {tb:TS} {D:Ends} {σ:St} {H:Hp} (Pv:Nat→St→Hp→Prop) (h0:Pv 0 σ H) (hl:∀i σ H,Pv i σ H→c1.has K H xs∧c2.has K H ys) (hn:xs.length=ys.length)
  (hs:∀i x y p σ H,xs[i]? =some x→ys[i]? =some y→H p=none→Pv i σ H→g (.ref p) σ (cr H p (.tup [x,y])) fun σ2 H2=>tb {D with nx:=Pv (i+1),ct:=Pv (i+1),bk:=D.nx} σ2 H2) (hd:∀σ H,Pv xs.length σ H→D.nx σ H):
  ∃ W : Nat → Nat → St → Hp → Prop, (∃ m, W 0 m σ H) ∧ ∀ i m σ H, W i m σ H →
   ((ux K c1 c2).stop i H∧D.nx σ H)∨((ux K c1 c2).go i H∧∃N:St→Hp→Prop,(∀σ' H',N σ' H'→∃m',m'< m∧W (i+1) m' σ' H')∧∀x H',(ux K c1 c2).yld i H x H'→g x σ H' fun σ2 H2=>tb {D with nx:=N,ct:=N,bk:=D.nx} σ2 H2):=by
 refine⟨fun i m σ H=>m=xs.length- i∧i≤xs.length∧Pv i σ H,⟨xs.length,by simp,Nat.zero_le _,h0⟩,?_⟩
 rintro i m σ H ⟨rfl,hi,p⟩
 obtain⟨q1,q2⟩:=hl i σ H p
 by_cases hlt:i< xs.length
 ·refine .inr ⟨⟨xs,ys,xs[i],ys[i],q1,q2,by simp[hlt],by simp[←hn,hlt]⟩,Pv (i+1),fun σ' H' p'=>⟨xs.length- (i+1),by omega,rfl,hlt,p'⟩,fun v H' ⟨a,x,y,na,ev,ex,ey,eh⟩=>?_⟩
  subst ev eh
  exact hs i x y a σ H (ex xs q1) (ey ys q2) na p
 ·have e:i=xs.length:=by omega
  subst e
  exact .inl ⟨⟨xs,ys,q1,q2,.inl rfl⟩,hd σ H p⟩
end L2
namespace L2
open PySem PySem.Spec PyProof.Rows
structure Cal (P:Program) (w:World) (K:PySem.W.Frag) (mg:Str→Option Value) (base:Heap) (x:Str) (ps:List Str) (k:Nat) (sp:Sp):Prop where
 ex:∃(f:Addr) (fd:FuncData),FnOk P w K mg base CX0 k f fd ps sp∧mg x=some (.ref f)∧PySem.W.keepIn K (.ref f)=true∧Binds K fd ps []
theorem ap {X:Cx} {x:Str} {ps:List Str} {k:Nat} {sp:Sp} {p pos:Pos} {e:Expr} {es:List Expr} {t:TA} (C:Cal X.prog X.w X.K X.mg X.base x ps k sp) (hr:Room k X.A) (hg:Gl X x) (ha:PA X (e::es) t)
  (hdb:(x == ("__debug__" :Str))=false:=by decide) (he:starEach (e::es) X.env=(false,eval e X.env)::starEach es X.env:=by rfl) (hpl:(backTo pos (starEach es X.env)).any (·.1)=false:=by rfl):
  PE X (.Call (.Name x p) (e::es) [] pos) (aP sp [] E0 t):=by
 obtain⟨f,fd,F,hm,hk,hb⟩:=C.ex
 exact qp F hr hg hm hk hb .nil ur ha hdb he hpl
theorem jF {X:Cx} {scope:Scope} {N:List Str} {cap:List (Option Nat)} (kind:scope.kind=.function) (nd:N.Nodup) (len:cap.length=N.length) (uniq:(scope.names.map (·.1)).Nodup)
  (fr:(scope.names.all fun x=>x.2 != .free || (X.env.kindOf x.1 == some .cell || X.env.kindOf x.1 == some .free))=true)
  (cp:((N.zip cap).all fun p=>match p.2 with | none=>true | some j=>X.N[j]? == some p.1 && scope.names.contains (p.1,NameKind.free))=true):CompScope X scope N cap:=by
 refine⟨kind,nd,len,uniq,fun x hx hk=>?_,fun k x j h1 h2=>?_⟩
 ·have:=List.all_eq_true.mp fr x hx
  rw[hk]at this
  simpa using this
 ·have hm:(x,some j)∈N.zip cap:=by
   rw[List.mem_iff_getElem?]
   exact⟨k,by rw[List.getElem?_zip_eq_some];exact⟨h1,h2⟩⟩
  have:=List.all_eq_true.mp cp _ hm
  simpa using this
def flat:V→Bool
 | .non=>true
 | .bl _=>true
 | .int _=>true
 | .str _=>true
 | _=>false
theorem cK {H:Hp} {p:Addr} {o:HO} (h:H p=none):Same H (cr H p o):=fun b u e=>by rw[aw (bE e h)];exact e
end L2
namespace L2
open PySem PySem.Spec PyProof.Rows
theorem eS (x:String) (l:List Nat) (h:(Str.ofString x).cps.toList=l):Str.ofString x=aj l:=by rw[o4 (Str.ofString x),h]
end L2
namespace L2
open PySem PySem.Spec PyProof.Rows
section
variable {X:Cx} {K:PySem.W.Frag} {w:World}
theorem aS (h:X.K=K):tY X (bP K):=h▸sI
theorem cz (h:X.K=K):tY X (bJ K):=h▸qr
theorem bS (h:X.K=K):cQ X (.builtin "len") (fun xs H Q=>∃x n,xs=[x]∧kI K x H n∧Q (.int n) H):=h▸nY
theorem aX (h:X.K=K):cQ X (.builtin "isinstance") (fun xs H Q=>∃x T t b,xs=[x,.ty T]∧TyOf K H x t∧PySem.W.kitOne K t (.type T)=some b∧Q (.bl b) H):=h▸jB
theorem on (h:X.K=K):um X "str.join" (fun x xs H Q=>∃(p:Addr) (ys:List (List Nat)),x=.str (aj [])∧xs=[.ref p]∧SqL K H p (ys.map fun y=>V.str (aj y))∧ys.flatten.length≤100000∧Q (.str (aj ys.flatten)) H):=h▸qw
theorem oo (h:X.K=K):uZ X (bQ K):=h▸qt
theorem iu (h:X.K=K) (hw:X.w=w) {o i:Expr} {pos:Pos} {td ty:TE} (ho:PE X o td) (hi:PE X i ty) (hs:sM i):PE X (.Subscript o i pos) (aI K w td ty):=h▸hw▸o6 ho hi hs
theorem ca (h:X.K=K) {pos:Pos} {es:List Expr} {k:Nat} {t:rW} {n:Nat} (hc:X.calm=true) (hg:ue X es t) (hn:(assignEach es X.env).length=n:=by rfl) (hst:(assignEach es X.env).findIdx? (·.1)=none:=by rfl):PG X (.Tuple es k pos) (bG K n t):=h▸sC hc hg hn hst
theorem cA (h:X.K=K) {tg l:Expr} {tl:TE} (hl:PE X l tl):PI X tg l (nP K tl):=h▸ql hl
theorem fk (h:X.K=K) {a b:Expr} {ta:TA} {p pos tp:Pos} {elts:List Expr} {kk:Nat} (hg:Gl X "zip") (hm:X.mg "zip" =none) (ha:PA X [a,b] ta)
  (hs:starEach [a,b] X.env=[(false,eval a X.env),(false,eval b X.env)]:=by rfl) (hs2:starEach [b] X.env=[(false,eval b X.env)]:=by rfl):PI X (.Tuple elts kk tp) (.Call (.Name "zip" p) [a,b] [] pos) (sP K ta):=h▸sQ hg hm ha hs hs2
theorem kS (h:X.K=K) {o e:Expr} {es:List Expr} {to:TE} {t:TA} {name:Str} {apos cpos:Pos} {T id:String} {r:V→List V→Hp→VK→Prop} (pa:PlainAttrs T) (slot:Slot T name id) (hty:typeOf (.builtin id)=pure (.type "method_descriptor")) (hm:um X id r) (ho:PE X o to) (ha:PA X (e::es) t)
  (hbase:attributeBase o name X.env (eval o X.env)=eval o X.env:=by rfl)
  (hfew:((backTo cpos (starEach (e::es) X.env)).all (fun x=> !x.1) && (backToKw cpos (keywordEach [] X.env)).all (fun x=>x.1.isSome) && decide ((e::es).length+([]:List Keyword).length+(if([]:List Keyword).isEmpty then 0 else 1)< 30))=true:=by rfl)
  (hline:(apos.endLine == cpos.line)=true:=by rfl) (hs:starEach (e::es) X.env=(false,eval e X.env)::starEach es X.env:=by rfl) (hplain:(backTo cpos (starEach es X.env)).any (·.1)=false:=by rfl):
  PE X (.Call (.Attribute o name apos) (e::es) [] cpos) (dh K T r to t):=h▸uo pa slot hty hm ho ha hbase hfew hline hs hplain
end
end L2
namespace L2
open PySem PySem.Spec PyProof.Rows
end L2
namespace L2
open PySem PySem.Spec PyProof.Rows
end L2
namespace Wb
open PySem L2
abbrev Rp (α:Type):=Hp→α→V→Prop
class Mono {α:Type} (R:Rp α):Prop where
 mono:∀{H H':Hp} {m:α} {v:V},Same H H'→R H m v→R H' m v
def LR {α:Type} (R:Rp α) (H:Hp) (ms:List α) (vs:List V):Prop:=vs.length=ms.length∧∀(i:Nat) (v:V) (m:α),vs[i]? =some v→ms[i]? =some m→R H m v
theorem LR.nil {α:Type} {R:Rp α} {H:Hp} :LR R H [] []:=⟨rfl,fun i v m e=>by simp at e⟩
theorem LR.same {α:Type} {R:Rp α} [Mono R] {H H':Hp} {ms:List α} {vs:List V} (h:LR R H ms vs) (e:Same H H'):LR R H' ms vs:=⟨h.1,fun i v m a b=>Mono.mono e (h.2 i v m a b)⟩
theorem LR.snoc {α:Type} {R:Rp α} {H:Hp} {ms:List α} {vs:List V} {m:α} {v:V} (h:LR R H ms vs) (r:R H m v):LR R H (ms++ [m]) (vs++ [v]):=by
 refine⟨by simp[h.1],fun i v' m' a b=>?_⟩
 by_cases hi:i< vs.length
 ·rw[List.getElem?_append_left hi]at a
  rw[List.getElem?_append_left (by rw[←h.1];exact hi)]at b
  exact h.2 i v' m' a b
 ·rw[List.getElem?_append_right (by omega)]at a
  rw[List.getElem?_append_right (by rw[←h.1];omega)]at b
  rw[←h.1]at b
  cases e:i- vs.length with
  | zero=>rw[e]at a b;simp at a b;subst a b;exact r
  | succ n=>rw[e]at a;simp at a
theorem LR.get {α:Type} {R:Rp α} {H:Hp} {ms:List α} {vs:List V} {i:Nat} {m:α} (h:LR R H ms vs) (e:ms[i]? =some m):∃v,vs[i]? =some v∧R H m v:=by
 have hi:i< vs.length:=by rw[h.1];exact(List.getElem?_eq_some_iff.mp e).1
 exact⟨vs[i],by simp[hi],h.2 i _ m (by simp[hi]) e⟩
theorem LR.got {α:Type} {R:Rp α} {H:Hp} {ms:List α} {vs:List V} {i:Nat} {v:V} (h:LR R H ms vs) (e:vs[i]? =some v):∃m,ms[i]? =some m∧R H m v:=by
 have hi:i< ms.length:=by rw[←h.1];exact(List.getElem?_eq_some_iff.mp e).1
 exact⟨ms[i],by simp[hi],h.2 i v _ e (by simp[hi])⟩
def isL {α:Type} (R:Rp α):Rp (List α):=fun H ms v=>∃p vs,v=.ref p∧H p=some (.lst vs)∧LR R H ms vs
instance zkeep1 {α:Type} {R:Rp α} [Mono R]:Mono (isL R):=⟨fun e ⟨p,vs,h1,h2,h3⟩=>⟨p,vs,h1,e _ _ h2,h3.same e⟩⟩
def isS:Rp (List Nat):=fun _ l v=>v=.str (aj l)
instance zkeep2:Mono isS:=⟨fun _ h=>h⟩
def isI:Rp Int:=fun _ l v=>v=.int l
instance zkeep4:Mono isI:=⟨fun _ h=>h⟩
theorem LR.str {H:Hp} {ms:List (List Nat)} {vs:List V} (h:LR isS H ms vs):vs=ms.map fun l=>V.str (aj l):=by
 refine List.ext_getElem? fun i=>?_
 rw[List.getElem?_map]
 cases e:ms[i]? with
 | none=>rw[List.getElem?_eq_none_iff]at e;rw[List.getElem?_eq_none_iff.mpr (by rw[h.1];exact e)];rfl
 | some m=>obtain⟨v,a,b⟩:=h.get e;rw[a];cases b;rfl
end Wb
namespace L2
open PySem PySem.Spec PyProof.Rows
section
variable {X:Cx} {K:PySem.W.Frag} {w:World}
theorem i9 (h:X.K=K):cQ X (.type "list") (fun xs H Q=>∃p ys,xs=[.ref p]∧(SqL K H p ys∨SqT K H p ys)∧∀l,H l=none→Q (.ref l) (cr H l (.lst ys))):=h▸iW
end
end L2
namespace Wb
open PySem L2
theorem LR.take {α:Type} {R:Rp α} {H:Hp} {ms:List α} {vs:List V} (h:LR R H ms vs) (k:Nat):LR R H (ms.take k) (vs.take k):=by
 refine⟨by simp[h.1],fun i v m a b=>?_⟩
 rw[List.getElem?_take]at a b
 split at a
 ·rw[if_pos (by assumption)]at b;exact h.2 i v m a b
 ·cases a
theorem LR.drop {α:Type} {R:Rp α} {H:Hp} {ms:List α} {vs:List V} (h:LR R H ms vs) (k:Nat):LR R H (ms.drop k) (vs.drop k):=by
 refine⟨by simp[h.1],fun i v m a b=>?_⟩
 rw[List.getElem?_drop]at a b
 exact h.2 _ v m a b
theorem bj {H H':Hp} {p:Addr} (e:Same H H') (h:H' p=none):H p=none:=by
 cases z:H p with
 | none=>rfl
 | some x=>have:=e _ _ z;rw[h]at this;cases this
theorem mS {H H3:Hp} {p:Addr} {o:HO} (e:Same H H3) (h:H p=none):Same H (cr H3 p o):=fun a u z=>by
 rw[aw (bE z h)];exact e _ _ z
end Wb
namespace L2
open PySem PySem.Spec PyProof.Rows
end L2
namespace L2
open PySem PySem.Spec PyProof.Rows
theorem jG:∀(xs:List V) (us:List Value),us.length=xs.length→(∀(j:Nat) (x:V) (u:Value),xs[j]? =some x→us[j]? =some u→RelV x u)→Vals xs us
 | [],[],_,_=>.nil
 | x::xs,u::us,hl,h=>.cons (h 0 x u rfl rfl) (jG xs us (by simpa using hl) fun j x u a b=>h (j+1) x u (by simpa using a) (by simpa using b))
 | [],_::_,hl,_=>by simp at hl
 | _::_,[],hl,_=>by simp at hl
section
variable {X:Cx} {K:PySem.W.Frag} {w:World}
theorem j4 (h:X.K=K):cQ X (.builtin "sorted") (fun xs H Q=>∃(p:Addr) (ns:List Int),xs=[.ref p]∧SqL K H p (ns.map V.int)∧ns.length< 64∧∀(q:Addr) (ns':List Int),H q=none→ns'.Perm ns→ns'.Pairwise (· ≤ ·)→Q (.ref q) (cr H q (.lst (ns'.map V.int)))):=by
 subst h
 intro pins s σ H xs us Q I r h
 obtain⟨p,ns,rfl,hq,h64,q⟩:=h
 obtain⟨u,rfl,rx⟩:=eA r
 cases rx
 obtain⟨its,r',pl,hz⟩:=I.list hq
 have hi:=kK r'
 have hlen:=IntsAre.length hi
 refine sorted_ints pl.isList hi (by omega) fun out ns' a1 a2 a3=>?_
 obtain⟨e,he⟩:=sortedAll_at s.heap its out
 have hl':=a2.length_eq
 refine⟨.ref (s.heap.objs.size+1),_,I.laid (t':=s.toks) (fun _ _=>sortedAll_old) (Nat.le_succ _) (show ObjOk X.prog X.w _ _ _ (.lst (ns'.map V.int))from⟨by rw[List.length_map,sizeLine_eq];omega,out.toList,e,fK a1,by rw[Array.toArray_toList];exact he⟩),rfl,q _ ns' (I.hok.fresh (Nat.le_succ _)) a2 a3⟩
theorem f9 (h:X.K=K):OpR X (compareOp .NotIn) (dW K true):=h▸iV
end
end L2
namespace L2
theorem sR {k:Nat} {A:PySem.Around} (r:Room k A):A.units+1< PySem.cLine:=by have:=r.un;omega
end L2
namespace L2
open PySem PySem.Spec PyProof.Rows
end L2
namespace L2
open PySem PySem.Spec PyProof.Rows
end L2
namespace Wb
open PySem L2
end Wb
namespace L2
open PySem PySem.Spec PyProof.Rows Wb
end L2
namespace L2
open PySem PySem.Spec PyProof.Rows
end L2
namespace L2
open PySem PySem.Spec PyProof.Rows
abbrev bw (h:Heap) (T:Addr) (a b c:Value):Prop:=h.get? T=some {cls:=.type "tuple",data:=.seq #[a,b,c]}
def uy (h:Heap) (o1 o2 o3:Obj):Heap:=(((h.push o1).push o2).push o3).push {cls:=.type "tuple",data:=.seq #[.ref h.objs.size,.ref (h.push o1).objs.size,.ref ((h.push o1).push o2).objs.size]}
def uz (h:Heap) (o1 o2 o3:Obj):Heap:=(uy h o1 o2 o3).push {cls:=.type "tuple",data:=.seq #[.none,.none,.none]}
def sS (h:Heap) (o1 o2 o3:Obj):Heap:=(uz h o1 o2 o3).push {cls:=.type "zip",data:=.fields #[.none,.bool false,.bool false,.ref (((h.push o1).push o2).push o3).objs.size,.ref (uy h o1 o2 o3).objs.size]}
theorem ia (v1 v2 v3:Value) (o1 o2 o3:Obj):Meets (Builtin.«zip.__new__» ⟨[.type "zip",v1,v2,v3],[]⟩) (fun _ R s=>d6 v1 s.heap o1∧d6 v2 (s.heap.push o1) o2∧d6 v3 ((s.heap.push o1).push o2) o3∧R (.ok (.ret (.ref (uz s.heap o1 o2 o3).objs.size))) {s with heap:=sS s.heap o1 o2 o3}):=
 .of_wp fun prog w A R s h=>by
  obtain⟨hp,g,d,tk,os⟩:=s;obtain⟨i1,i2,i3,h⟩:=h
  have hsub:=sub_zip
  have j1:=fun(A:Around) (E:Value→Shared→Prop) (Q:Value→Shared→Prop) (q:Q _ _)=>i1 prog w A E Q ⟨hp,g,d,tk,os⟩ rfl q
  have j2:=fun(A:Around) (E:Value→Shared→Prop) (Q:Value→Shared→Prop) (q:Q _ _)=>i2 prog w A E Q ⟨hp.push o1,g,d,tk,os⟩ rfl q
  have j3:=fun(A:Around) (E:Value→Shared→Prop) (Q:Value→Shared→Prop) (q:Q _ _)=>i3 prog w A E Q ⟨(hp.push o1).push o2,g,d,tk,os⟩ rfl q
  wp_walk using j1 _ _ _,j2 _ _ _,j3 _ _ _
  exact⟨_,rfl,h⟩
theorem gL (a b c:Value):checkTypeCall "zip" ⟨[a,b,c],[]⟩=pure ():=by kernel_rfl
theorem ib (a b c:Value):checkBuiltinCall "zip.__new__" ⟨[.type "zip",a,b,c],[]⟩=pure ():=by kernel_rfl
theorem ff (a b c d:Value):argsOk "object.__init__" ⟨[a,b,c,d],[]⟩:=by
 unfold argsOk;rw[PySem.signature?_of (id:="object.__init__") (n:=['_','_','t','i','n','i','_','_']) (o:=['t','c','e','j','b','o']) (by kernel_rfl) PySem.F.owner_object];kernel_rfl
theorem mT {P:Program} {w:World} {A:Around} {E:Value→Shared→Prop} {s:Shared} {v1 v2 v3:Value} {o1 o2 o3:Obj} {Q:Value→Shared→Prop} (i1:d6 v1 s.heap o1) (i2:d6 v2 (s.heap.push o1) o2) (i3:d6 v3 ((s.heap.push o1).push o2) o3)
  (f1:o1.isFreed=false) (f2:o2.isFreed=false) (f3:o3.isFreed=false)
  (q:∀h',IsZip h' (s.heap.objs.size+5) (s.heap.objs.size+3) (s.heap.objs.size+4) .none→bw h' (s.heap.objs.size+3) (.ref s.heap.objs.size) (.ref (s.heap.objs.size+1)) (.ref (s.heap.objs.size+2))→bw h' (s.heap.objs.size+4) .none .none .none→
   h'.get? s.heap.objs.size=some o1→h'.get? (s.heap.objs.size+1)=some o2→h'.get? (s.heap.objs.size+2)=some o3→(∀c o,s.heap.get? c=some o→h'.get? c=some o)→Q (.ref (s.heap.objs.size+5)) {s with heap:=h'}):
  wpAny (model P w) A (call (.type "zip") [v1,v2,v3]) Q E s:=by
 refine callType_new PySem.F.called_zip (by decide) (gL _ _ _) (ib _ _ _) (fun obj=>ff obj _ _ _) PySem.F.entry_zip_new (ia v1 v2 v3 o1 o2 o3) ⟨i1,i2,i3,?_⟩
 have z1:(s.heap.push o1).objs.size=s.heap.objs.size+1:=Heap.size_push ..
 have z2:((s.heap.push o1).push o2).objs.size=s.heap.objs.size+2:=by rw[Heap.size_push,z1]
 have z3:(((s.heap.push o1).push o2).push o3).objs.size=s.heap.objs.size+3:=by rw[Heap.size_push,z2]
 have z4:(uy s.heap o1 o2 o3).objs.size=s.heap.objs.size+4:=by unfold uy;rw[Heap.size_push,z3]
 have z5:(uz s.heap o1 o2 o3).objs.size=s.heap.objs.size+5:=by unfold uz;rw[Heap.size_push,z4]
 have g6:(sS s.heap o1 o2 o3).get? (uz s.heap o1 o2 o3).objs.size=some _:=Heap.get?_push_size _ rfl
 have g5:(sS s.heap o1 o2 o3).get? (uy s.heap o1 o2 o3).objs.size=some _:=Heap.get?_push_of_some _ (Heap.get?_push_size _ rfl)
 have g4:(sS s.heap o1 o2 o3).get? (((s.heap.push o1).push o2).push o3).objs.size=some _:=Heap.get?_push_of_some _ (Heap.get?_push_of_some _ (Heap.get?_push_size _ rfl))
 have g3:(sS s.heap o1 o2 o3).get? ((s.heap.push o1).push o2).objs.size=some o3:=Heap.get?_push_of_some _ (Heap.get?_push_of_some _ (Heap.get?_push_of_some _ (Heap.get?_push_size _ f3)))
 have g2:(sS s.heap o1 o2 o3).get? (s.heap.push o1).objs.size=some o2:=Heap.get?_push_of_some _ (Heap.get?_push_of_some _ (Heap.get?_push_of_some _ (Heap.get?_push_of_some _ (Heap.get?_push_size _ f2))))
 have g1:(sS s.heap o1 o2 o3).get? s.heap.objs.size=some o1:=Heap.get?_push_of_some _ (Heap.get?_push_of_some _ (Heap.get?_push_of_some _ (Heap.get?_push_of_some _ (Heap.get?_push_of_some _ (Heap.get?_push_size _ f1)))))
 show _∧_
 rw[z3,z4,z5]at g6
 rw[z1,z2,z3]at g4
 rw[z4]at g5
 rw[z2]at g3
 rw[z1]at g2
 rw[z5]
 exact⟨⟨_,g6,rfl⟩,q _ g6 g4 g5 g1 g2 g3 fun c o x=>Heap.get?_push_of_some _ (Heap.get?_push_of_some _ (Heap.get?_push_of_some _ (Heap.get?_push_of_some _ (Heap.get?_push_of_some _ (Heap.get?_push_of_some _ x)))))⟩
section
variable {P:Program} {w:World} {A:Around} {E:Value→Shared→Prop} {s:Shared} {z TI TO i1 i2 i3:Addr} {fp1 fp2 fp3:List Addr} {n1 n2 n3 k:Nat} {P1 P2 P3:Nat→Value→Prop} {S1 S2 S3:Nat→Heap→Prop} {a b c:Value}
theorem bf {T:Addr} {a b c x:Value} {k:Nat} {Q:Unit→Shared→Prop} (hT:bw s.heap T a b c)
  (h:∀h',h'.get? T=some {cls:=.type "tuple",data:=.seq ((#[a,b,c]:Array Value).setIfInBounds k x)}→Heap.SameBut T s.heap h'→Q () {s with heap:=h'}):
  wpAny (model P w) A (updateSeq T (·.setIfInBounds k x)) Q E s:=by
 refine wpAny_updateSeq hT rfl (h _ ?_ (Heap.SameBut.update ..))
 rw[Heap.get?_update_self _ hT rfl]
 simp[Obj.mapSeq]
structure ZApart3 (z TI TO i1 i2 i3:Addr) (fp1 fp2 fp3:List Addr):Prop where
 c1:TI≠z
 c2:TO≠z
 c3:i1≠z
 c4:i2≠z
 c4':i3≠z
 c5:TI≠TO
 c6:TI≠i1
 c7:TI≠i2
 c7':TI≠i3
 c8:TO≠i1
 c9:TO≠i2
 c9':TO≠i3
 d1:z∉fp1∧TO∉fp1∧i2∉fp1∧i3∉fp1
 d2:z∉fp2∧TO∉fp2∧i1∉fp2∧i3∉fp2
 d3:z∉fp3∧TO∉fp3∧i1∉fp3∧i2∉fp3
theorem mU {Q:Option Value→Shared→Prop} (D1:Draws P w A.in1 i1 fp1 n1 P1 S1) (D2:Draws P w A.in1 i2 fp2 n2 P2 S2) (D3:Draws P w A.in1 i3 fp3 n3 P3 S3) (Z:ZApart3 z TI TO i1 i2 i3 fp1 fp2 fp3) (h1:k< n1) (h2:k< n2) (h3:k< n3) (hz:IsZip s.heap z TI TO .none)
  (hI:bw s.heap TI (.ref i1) (.ref i2) (.ref i3)) (hO:bw s.heap TO a b c) (t1:S1 k s.heap) (t2:S2 k s.heap) (t3:S3 k s.heap)
  (q:∀x y u h' tk T,P1 k x→P2 k y→P3 k u→T=s.heap.objs.size→IsZip h' z TI TO (rawInt T)→bw h' TO x y u→S1 (k+1) h'→S2 (k+1) h'→S3 (k+1) h'→bw h' T x y u→
   (∀c o,c≠z→c≠TO→c≠i1→c≠i2→c≠i3→s.heap.get? c=some o→h'.get? c=some o)→Q (some (.ref T)) {s with heap:=h',toks:=tk}):
  wpAny (model P w) A (pyNext (.ref z)) Q E s:=by
 have hT:s.TypeIs (.ref z) "zip" :=⟨_,hz,rfl⟩
 unfold pyNext
 refine wpAny_bind (wpAny_attempt (wpAny_callSpecial?_slot (name:=Str.ofString "__next__") hT PySem.F.slot_zip_next (wpAny_call_entry PySem.F.slot_zip_next hT PySem.F.entry_zip_next ?_ (PySem.F.args_zip_next_1 _))))
 obtain⟨hp,gg,dd,tk0,os⟩:=s
 show wpAny (model P w) _ (field (.ref z) 2 >>= _) _ _ _
 refine wpAny_bind (wpAny_field hz rfl (x:=.bool false) rfl ?_)
 show wpAny (model P w) _ (field (.ref z) 3 >>= _) _ _ _
 refine wpAny_bind (wpAny_field hz rfl (x:=.ref TI) rfl (wpAny_bind (wpAny_seqItems hI rfl ?_)))
 show wpAny (model P w) _ (Builtin.SmallTypes.ownedTupleIsFree (.ref z) >>= _) _ _ _
 refine wpAny_bind ?_;unfold Builtin.SmallTypes.ownedTupleIsFree
 refine wpAny_bind (wpAny_field hz rfl (x:=.none) rfl (wpAny_pure ?_));simp only[if_true]
 refine wpAny_bind (wpAny_rule (wpAny_bind (wpAny_field hz rfl (x:=.ref TO) rfl (wpAny_bind (wpAny_setField_rec hz (by simp) fun g1 y1 b1=>?_)))))
 replace y1:IsZip g1 z TI TO .ellipsis:=y1
 replace b1:Heap.SameBut z hp g1:=b1
 refine wpAny_bind ?_;simp only[List.zipIdx_cons,List.zipIdx_nil,List.forIn_cons,List.forIn_nil]
 refine wpAny_bind (wpAny_bind (wpAny_onRaise ?_))
 show wpAny (model P w) _ (Builtin.SmallTypes.nextOf (.ref i1) >>= _) _ _ _
 refine wpAny_bind (D1.item k _ _ _ h1 (ak D1 t1 b1 Z.d1.1) fun x g2 tk2 px u1 b2=>wpAny_pure ?_)
 replace b2:Heap.SameBut i1 g1 g2:=b2
 have O2:bw g2 TO a b c:=b2.extBut _ _ Z.c8 (b1.extBut _ _ Z.c2 hO)
 refine wpAny_bind (wpAny_seqItems O2 rfl (wpAny_bind (bf O2 fun g3 O3 b3=>?_)))
 replace O3:bw g3 TO x b c:=O3
 replace b3:Heap.SameBut TO g2 g3:=b3
 refine wpAny_bind (wpAny_letGo (wpAny_pure (wpAny_bind (wpAny_bind (wpAny_onRaise ?_)))))
 show wpAny (model P w) _ (Builtin.SmallTypes.nextOf (.ref i2) >>= _) _ _ _
 refine wpAny_bind (D2.item k _ _ _ h2 (ak D2 (ak D2 (ak D2 t2 b1 Z.d2.1) b2 Z.d2.2.2.1) b3 Z.d2.2.1) fun y g4 tk4 py u2 b4=>wpAny_pure ?_)
 replace b4:Heap.SameBut i2 g3 g4:=b4
 have O4:bw g4 TO x b c:=b4.extBut _ _ Z.c9 O3
 refine wpAny_bind (wpAny_seqItems O4 rfl (wpAny_bind (bf O4 fun g5 O5 b5=>?_)))
 replace O5:bw g5 TO x y c:=O5
 replace b5:Heap.SameBut TO g4 g5:=b5
 refine wpAny_bind (wpAny_letGo (wpAny_pure (wpAny_bind (wpAny_bind (wpAny_onRaise ?_)))))
 show wpAny (model P w) _ (Builtin.SmallTypes.nextOf (.ref i3) >>= _) _ _ _
 refine wpAny_bind (D3.item k _ _ _ h3 (ak D3 (ak D3 (ak D3 (ak D3 (ak D3 t3 b1 Z.d3.1) b2 Z.d3.2.2.1) b3 Z.d3.2.1) b4 Z.d3.2.2.2) b5 Z.d3.2.1) fun u g6 tk6 pu u3 b6=>wpAny_pure ?_)
 replace b6:Heap.SameBut i3 g5 g6:=b6
 have O6:bw g6 TO x y c:=b6.extBut _ _ Z.c9' O5
 refine wpAny_bind (wpAny_seqItems O6 rfl (wpAny_bind (bf O6 fun g7 O7 b7=>?_)))
 replace O7:bw g7 TO x y u:=O7
 replace b7:Heap.SameBut TO g6 g7:=b7
 refine wpAny_bind (wpAny_letGo (wpAny_pure (wpAny_pure (wpAny_bind (wpAny_seqItems O7 rfl (wpAny_bind (wpAny_newTuple ?_)))))))
 have sz:g7.objs.size=hp.objs.size:=by rw[b7.1,b6.1,b5.1,b4.1,b3.1,b2.1,b1.1]
 have y7:IsZip g7 z TI TO .ellipsis:=b7.extBut _ _ Z.c2.symm (b6.extBut _ _ Z.c4'.symm (b5.extBut _ _ Z.c2.symm (b4.extBut _ _ Z.c4.symm (b3.extBut _ _ Z.c2.symm (b2.extBut _ _ Z.c3.symm y1)))))
 have k7:∀c o,c≠z→c≠TO→c≠i1→c≠i2→c≠i3→hp.get? c=some o→g7.get? c=some o:=fun c o e1 e2 e3 e4 e5 e=>b7.extBut _ _ e2 (b6.extBut _ _ e5 (b5.extBut _ _ e2 (b4.extBut _ _ e4 (b3.extBut _ _ e2 (b2.extBut _ _ e3 (b1.extBut _ _ e1 e))))))
 have v1:S1 (k+1) g7:=ak D1 (ak D1 (ak D1 (ak D1 (ak D1 u1 b3 Z.d1.2.1) b4 Z.d1.2.2.1) b5 Z.d1.2.1) b6 Z.d1.2.2.2) b7 Z.d1.2.1
 have v2:S2 (k+1) g7:=ak D2 (ak D2 (ak D2 u2 b5 Z.d2.2.1) b6 Z.d2.2.2.2) b7 Z.d2.2.1
 have v3:S3 (k+1) g7:=ak D3 u3 b7 Z.d3.2.1
 have lz:z< g7.objs.size:=Heap.lt_size y7
 show wpAny (model P w) _ (Builtin.SmallTypes.ownedTupleHandOut (.ref z) (.ref g7.objs.size) >>= _) _ _ _
 refine wpAny_bind ?_;unfold Builtin.SmallTypes.ownedTupleHandOut
 have y8:IsZip (g7.push {cls:=.type "tuple",data:=.seq #[x,y,u]}) z TI TO .ellipsis:=Heap.get?_push_of_some _ y7
 refine wpAny_bind (wpAny_setField_rec y8 (by simp) fun g9 y9 b9=>?_)
 replace y9:IsZip g9 z TI TO (rawInt g7.objs.size):=y9
 replace b9:Heap.SameBut z (g7.push {cls:=.type "tuple",data:=.seq #[x,y,u]}) g9:=b9
 refine wpAny_setField_rec y9 (by simp) fun g10 y10 b10=>?_
 replace y10:IsZip g10 z TI TO (rawInt g7.objs.size):=y10
 replace b10:Heap.SameBut z g9 g10:=b10
 have up:∀c o,c≠z→g7.get? c=some o→g10.get? c=some o:=fun c o e1 e=>b10.extBut _ _ e1 (b9.extBut _ _ e1 (Heap.get?_push_of_some _ e))
 have T8:bw g10 g7.objs.size x y u:=b10.extBut _ _ (Nat.ne_of_gt lz) (b9.extBut _ _ (Nat.ne_of_gt lz) (Heap.get?_push_size _ rfl))
 refine wpAny_pure ⟨_,rfl,wpAny_pure (q x y u g10 _ g7.objs.size px py pu sz y10 (up _ _ Z.c2 O7) (D1.frame _ _ _ v1 fun b hb o e=>up b o (fun q=>Z.d1.1 (q▸hb)) e) (D2.frame _ _ _ v2 fun b hb o e=>up b o (fun q=>Z.d2.1 (q▸hb)) e) (D3.frame _ _ _ v3 fun b hb o e=>up b o (fun q=>Z.d3.1 (q▸hb)) e) T8 fun c o e1 e2 e3 e4 e5 e=>up c o e1 (k7 c o e1 e2 e3 e4 e5 e))⟩
theorem oq {Q:Option Value→Shared→Prop} (hh:A.handled=none) (D1:Draws P w A.in1 i1 fp1 n1 P1 S1) (D2:Draws P w A.in1 i2 fp2 n2 P2 S2) (D3:Draws P w A.in1 i3 fp3 n3 P3 S3) (Z:ZApart3 z TI TO i1 i2 i3 fp1 fp2 fp3) (hk:k=n1∨(k< n1∧k=n2)∨(k< n1∧k< n2∧k=n3)) (hz:IsZip s.heap z TI TO .none)
  (hI:bw s.heap TI (.ref i1) (.ref i2) (.ref i3)) (hO:bw s.heap TO a b c) (t1:S1 k s.heap) (t2:S2 k s.heap) (t3:S3 k s.heap)
  (q:∀h' tk,(∀c o,c≠z→c≠TO→c≠i1→c≠i2→c≠i3→s.heap.get? c=some o→h'.get? c=some o)→Q none {s with heap:=h',toks:=tk}):
  wpAny (model P w) A (pyNext (.ref z)) Q E s:=by
 have hT:s.TypeIs (.ref z) "zip" :=⟨_,hz,rfl⟩
 unfold pyNext
 refine wpAny_bind (wpAny_attempt (wpAny_callSpecial?_slot (name:=Str.ofString "__next__") hT PySem.F.slot_zip_next (wpAny_call_entry PySem.F.slot_zip_next hT PySem.F.entry_zip_next ?_ (PySem.F.args_zip_next_1 _))))
 obtain⟨hp,gg,dd,tk0,os⟩:=s
 show wpAny (model P w) _ (field (.ref z) 2 >>= _) _ _ _
 refine wpAny_bind (wpAny_field hz rfl (x:=.bool false) rfl ?_)
 show wpAny (model P w) _ (field (.ref z) 3 >>= _) _ _ _
 refine wpAny_bind (wpAny_field hz rfl (x:=.ref TI) rfl (wpAny_bind (wpAny_seqItems hI rfl ?_)))
 show wpAny (model P w) _ (Builtin.SmallTypes.ownedTupleIsFree (.ref z) >>= _) _ _ _
 refine wpAny_bind ?_;unfold Builtin.SmallTypes.ownedTupleIsFree
 refine wpAny_bind (wpAny_field hz rfl (x:=.none) rfl (wpAny_pure ?_));simp only[if_true]
 refine wpAny_bind (wpAny_rule (wpAny_bind (wpAny_field hz rfl (x:=.ref TO) rfl (wpAny_bind (wpAny_setField_rec hz (by simp) fun g1 y1 b1=>?_)))))
 replace y1:IsZip g1 z TI TO .ellipsis:=y1
 replace b1:Heap.SameBut z hp g1:=b1
 refine wpAny_bind ?_;simp only[List.zipIdx_cons,List.zipIdx_nil,List.forIn_cons,List.forIn_nil]
 refine wpAny_bind (wpAny_bind (wpAny_onRaise ?_))
 show wpAny (model P w) _ (Builtin.SmallTypes.nextOf (.ref i1) >>= _) _ _ _
 rcases hk with hk | hk
 ·subst hk
  refine wpAny_bind (D1.done _ _ _ (ak D1 t1 b1 Z.d1.1) fun g2 e b2 he=>?_)
  obtain⟨oe,hoe,hce⟩:=he
  replace b2:Heap.ExtBut i1 g1 g2:=b2
  have y2:IsZip g2 z TI TO .ellipsis:=b2 _ _ Z.c3.symm y1
  have ez:e≠z:=fun x=>by subst x;rw[y2]at hoe;cases hoe;simp at hce
  refine wpAny_setField_rec y2 (by simp) fun g3 _ b3=>?_
  exact wpAny_bind (wpAny_isInstance (T:="StopIteration") (b:=true) ⟨oe,b3.extBut _ _ ez hoe,hce⟩ isSubtype_stop (wpAny_pure (q g3 _ fun c o e1 _ e3 _ _ x=>b3.extBut _ _ e1 (b2 _ _ e3 (b1.extBut _ _ e1 x)))))
 ·have hk1:k< n1:=by rcases hk with z | z <;> exact z.1
  refine wpAny_bind (D1.item k _ _ _ hk1 (ak D1 t1 b1 Z.d1.1) fun x g2 tk2 px u1 b2=>wpAny_pure ?_)
  replace b2:Heap.SameBut i1 g1 g2:=b2
  have O2:bw g2 TO a b c:=b2.extBut _ _ Z.c8 (b1.extBut _ _ Z.c2 hO)
  refine wpAny_bind (wpAny_seqItems O2 rfl (wpAny_bind (bf O2 fun g3 O3 b3=>?_)))
  replace b3:Heap.SameBut TO g2 g3:=b3
  replace O3:bw g3 TO x b c:=O3
  refine wpAny_bind (wpAny_letGo (wpAny_pure (wpAny_bind (wpAny_bind (wpAny_onRaise ?_)))))
  show wpAny (model P w) _ (Builtin.SmallTypes.nextOf (.ref i2) >>= _) _ _ _
  rcases hk with⟨_,hk2⟩ | ⟨_,hk2,hk3⟩
  ·subst hk2
   refine wpAny_bind (D2.done _ _ _ (ak D2 (ak D2 (ak D2 t2 b1 Z.d2.1) b2 Z.d2.2.2.1) b3 Z.d2.2.1) fun g4 e b4 he=>?_)
   obtain⟨oe,hoe,hce⟩:=he
   replace b4:Heap.ExtBut i2 g3 g4:=b4
   have y4:IsZip g4 z TI TO .ellipsis:=b4 _ _ Z.c4.symm (b3.extBut _ _ Z.c2.symm (b2.extBut _ _ Z.c3.symm y1))
   have ez:e≠z:=fun x=>by subst x;rw[y4]at hoe;cases hoe;simp at hce
   refine wpAny_setField_rec y4 (by simp) fun g5 _ b5=>?_
   exact wpAny_bind (wpAny_isInstance (T:="StopIteration") (b:=true) ⟨oe,b5.extBut _ _ ez hoe,hce⟩ isSubtype_stop (wpAny_pure (q g5 _ fun c o e1 e2 e3 e4 _ x=>b5.extBut _ _ e1 (b4 _ _ e4 (b3.extBut _ _ e2 (b2.extBut _ _ e3 (b1.extBut _ _ e1 x)))))))
  ·subst hk3
   refine wpAny_bind (D2.item k _ _ _ hk2 (ak D2 (ak D2 (ak D2 t2 b1 Z.d2.1) b2 Z.d2.2.2.1) b3 Z.d2.2.1) fun y g4 tk4 py u2 b4=>wpAny_pure ?_)
   replace b4:Heap.SameBut i2 g3 g4:=b4
   have O4:bw g4 TO x b c:=b4.extBut _ _ Z.c9 O3
   refine wpAny_bind (wpAny_seqItems O4 rfl (wpAny_bind (bf O4 fun g5 O5 b5=>?_)))
   replace b5:Heap.SameBut TO g4 g5:=b5
   refine wpAny_bind (wpAny_letGo (wpAny_pure (wpAny_bind (wpAny_bind (wpAny_onRaise ?_)))))
   show wpAny (model P w) _ (Builtin.SmallTypes.nextOf (.ref i3) >>= _) _ _ _
   refine wpAny_bind (D3.done _ _ _ (ak D3 (ak D3 (ak D3 (ak D3 (ak D3 t3 b1 Z.d3.1) b2 Z.d3.2.2.1) b3 Z.d3.2.1) b4 Z.d3.2.2.2) b5 Z.d3.2.1) fun g6 e b6 he=>?_)
   obtain⟨oe,hoe,hce⟩:=he
   replace b6:Heap.ExtBut i3 g5 g6:=b6
   have y6:IsZip g6 z TI TO .ellipsis:=b6 _ _ Z.c4'.symm (b5.extBut _ _ Z.c2.symm (b4.extBut _ _ Z.c4.symm (b3.extBut _ _ Z.c2.symm (b2.extBut _ _ Z.c3.symm y1))))
   have ez:e≠z:=fun x=>by subst x;rw[y6]at hoe;cases hoe;simp at hce
   refine wpAny_setField_rec y6 (by simp) fun g7 _ b7=>?_
   exact wpAny_bind (wpAny_isInstance (T:="StopIteration") (b:=true) ⟨oe,b7.extBut _ _ ez hoe,hce⟩ isSubtype_stop (wpAny_pure (q g7 _ fun c o e1 e2 e3 e4 e5 x=>b7.extBut _ _ e1 (b6 _ _ e5 (b5.extBut _ _ e2 (b4.extBut _ _ e4 (b3.extBut _ _ e2 (b2.extBut _ _ e3 (b1.extBut _ _ e1 x)))))))))
end
end L2
namespace L2
open PySem PySem.Spec PyProof.Rows
def uA (K:PySem.W.Frag) (c1 c2 c3:Src):It:=
  ⟨fun i H=>∃xs ys us x y u,c1.has K H xs∧c2.has K H ys∧c3.has K H us∧xs[i]? =some x∧ys[i]? =some y∧us[i]? =some u,
   fun i H v H'=>∃p x y u,H p=none∧v=.ref p∧(∀xs,c1.has K H xs→xs[i]? =some x)∧(∀ys,c2.has K H ys→ys[i]? =some y)∧(∀us,c3.has K H us→us[i]? =some u)∧H'=cr H p (.tup [x,y,u]),
   fun i H=>∃xs ys us,c1.has K H xs∧c2.has K H ys∧c3.has K H us∧(i=xs.length∨(i< xs.length∧i=ys.length)∨(i< xs.length∧i< ys.length∧i=us.length))⟩
def vV (c1 c2 c3:Src) (z TI TO i1 i2 i3:Addr) (i:Nat) (h:Heap):Prop:=IsZip h z TI TO .none∧bw h TI (.ref i1) (.ref i2) (.ref i3)∧(∃a b c,bw h TO a b c)∧c1.at i1 i h∧c2.at i2 i h∧c3.at i3 i h
structure ZIds3 (z TI TO i1 i2 i3:Addr):Prop where
 c1:TI≠z
 c2:TO≠z
 c3:i1≠z
 c4:i2≠z
 c4':i3≠z
 c5:TI≠TO
 c6:TI≠i1
 c7:TI≠i2
 c7':TI≠i3
 c8:TO≠i1
 c9:TO≠i2
 c9':TO≠i3
 c10:i1≠i2
 c11:i1≠i3
 c12:i2≠i3
theorem lF {X:Cx} {pins:List (Addr×Obj)} {σ:St} {H:Hp} {s:Shared} {z TI TO i1 i2 i3:Addr} {fp1 fp2 fp3:List Addr} (I:Inv X pins σ H s) (Z:ZIds3 z TI TO i1 i2 i3) (hf:∀b∈[z,TI,TO,i1,i2,i3],FpOk X pins H b)
  (g1:∀b∈fp1,b=i1∨H b≠none∨∃o,X.base.get? b=some o) (g2:∀b∈fp2,b=i2∨H b≠none∨∃o,X.base.get? b=some o) (g3:∀b∈fp3,b=i3∨H b≠none∨∃o,X.base.get? b=some o):ZApart3 z TI TO i1 i2 i3 fp1 fp2 fp3:=by
 have no:∀b∈[z,TI,TO,i1,i2,i3],¬(H b≠none∨∃o,X.base.get? b=some o):=fun b hb q=>by
  rcases q with q | ⟨o,q⟩
  ·exact q (hf b hb).1
  ·rcases (hf b hb).2.2.2.1 with y | y
   ·exact I.ok.noex b o q y
   ·exact absurd (Nat.lt_of_lt_of_le (Nat.lt_of_lt_of_le (Heap.lt_size q) I.ok.bsz) y) (Nat.lt_irrefl _)
 refine⟨Z.c1,Z.c2,Z.c3,Z.c4,Z.c4',Z.c5,Z.c6,Z.c7,Z.c7',Z.c8,Z.c9,Z.c9',⟨fun m=>?_,fun m=>?_,fun m=>?_,fun m=>?_⟩,⟨fun m=>?_,fun m=>?_,fun m=>?_,fun m=>?_⟩,⟨fun m=>?_,fun m=>?_,fun m=>?_,fun m=>?_⟩⟩
 ·exact(g1 _ m).elim (fun e=>Z.c3 e.symm) (no z (by simp))
 ·exact(g1 _ m).elim (fun e=>Z.c8 e) (no TO (by simp))
 ·exact(g1 _ m).elim (fun e=>Z.c10 e.symm) (no i2 (by simp))
 ·exact(g1 _ m).elim (fun e=>Z.c11 e.symm) (no i3 (by simp))
 ·exact(g2 _ m).elim (fun e=>Z.c4 e.symm) (no z (by simp))
 ·exact(g2 _ m).elim (fun e=>Z.c9 e) (no TO (by simp))
 ·exact(g2 _ m).elim (fun e=>Z.c10 e) (no i1 (by simp))
 ·exact(g2 _ m).elim (fun e=>Z.c12 e.symm) (no i3 (by simp))
 ·exact(g3 _ m).elim (fun e=>Z.c4' e.symm) (no z (by simp))
 ·exact(g3 _ m).elim (fun e=>Z.c9' e) (no TO (by simp))
 ·exact(g3 _ m).elim (fun e=>Z.c11 e) (no i1 (by simp))
 ·exact(g3 _ m).elim (fun e=>Z.c12 e) (no i2 (by simp))
theorem mV {P:Program} {w:World} {K:PySem.W.Frag} {elts:List Expr} {kk:Nat} {tp:Pos} (c1 c2 c3:Src) (z TI TO i1 i2 i3:Addr) (Z:ZIds3 z TI TO i1 i2 i3):
  Turn P w K (.Tuple elts kk tp) (uA K c1 c2 c3) [z,TI,TO,i1,i2,i3] z (vV c1 c2 c3 z TI TO i1 i2 i3) where
 mem:=by simp
 obj:=fun i h st b hb=>by
  obtain⟨hz,hI,⟨a,b',c',hO⟩,t1,t2,t3⟩:=st
  obtain⟨o1,e1,v1,d1⟩:=Src.at_obj t1
  obtain⟨o2,e2,v2,d2⟩:=Src.at_obj t2
  obtain⟨o3,e3,v3,d3⟩:=Src.at_obj t3
  simp only[List.mem_cons,List.not_mem_nil,or_false]at hb
  rcases hb with rfl | rfl | rfl | rfl | rfl | rfl
  ·exact⟨_,hz,fun v q=>by cases (show Data.fields _=Data.cell v from q)⟩
  ·exact⟨_,hI,fun v q=>by cases (show Data.seq _ _=Data.cell v from q)⟩
  ·exact⟨_,hO,fun v q=>by cases (show Data.seq _ _=Data.cell v from q)⟩
  ·exact⟨_,e1,fun v q=>by rw[d1]at q;cases q⟩
  ·exact⟨_,e2,fun v q=>by rw[d2]at q;cases q⟩
  ·exact⟨_,e3,fun v q=>by rw[d3]at q;cases q⟩
 keep:=fun i h h' st k=>by
  obtain⟨hz,hI,⟨a,b',c',hO⟩,t1,t2,t3⟩:=st
  exact⟨k z (by simp) _ hz,k TI (by simp) _ hI,⟨a,b',c',k TO (by simp) _ hO⟩,Src.at_keep t1 (k i1 (by simp)),Src.at_keep t2 (k i2 (by simp)),Src.at_keep t3 (k i3 (by simp))⟩
 item:=by
  intro X hP hw hK hc i pins s σ H E I hf st hg
  subst hP hw hK
  obtain⟨xs,ys,us,x,y,u,hx,hy,hu,ex,ey,eu⟩:=hg
  obtain⟨hz,hI,⟨a,b',c',hO⟩,t1,t2,t3⟩:=st
  have hh:X.A.in1.handled=none:=I.ok.hd hc
  obtain⟨fp1,P1,S1,D1,u1,r1,a1,_,g1⟩:=Src.draws (A:=X.A.in1) hh I hx t1 (hf i1 (by simp)).1
  obtain⟨fp2,P2,S2,D2,u2,r2,a2,_,g2⟩:=Src.draws (A:=X.A.in1) hh I hy t2 (hf i2 (by simp)).1
  obtain⟨fp3,P3,S3,D3,u3,r3,a3,_,g3⟩:=Src.draws (A:=X.A.in1) hh I hu t3 (hf i3 (by simp)).1
  have ZA:=lF I Z hf g1 g2 g3
  refine mU D1 D2 D3 ZA (List.getElem?_eq_some_iff.mp ex).1 (List.getElem?_eq_some_iff.mp ey).1 (List.getElem?_eq_some_iff.mp eu).1 hz hI hO u1 u2 u3 fun vx vy vu h' tk T px py pu hT hz' hO' w1 w2 w3 hTp kp=>?_
  obtain⟨x',ex',rx⟩:=r1 i vx px
  obtain⟨y',ey',ry⟩:=r2 i vy py
  obtain⟨u',eu',ru⟩:=r3 i vu pu
  rw[ex]at ex';cases ex'
  rw[ey]at ey';cases ey'
  rw[eu]at eu';cases eu'
  have nT:H T=none:=by rw[hT];exact I.hok.fresh (Nat.le_refl _)
  refine⟨_,rfl,wpAny_letOwnedTupleGo_zip hz' fun h2 hz2 sb=>?_⟩
  have lt:∀{c o},s.heap.get? c=some o→c≠T:=fun e=>by rw[hT];exact Nat.ne_of_lt (Heap.lt_size e)
  have up:∀c o,c≠z→h'.get? c=some o→h2.get? c=some o:=fun c o hc e=>(sb.2 c hc).trans e
  have kp2:∀b o,b∉[z,TO,i1,i2,i3]→s.heap.get? b=some o→h2.get? b=some o:=fun b o hb e=>by
   simp only[List.mem_cons,List.not_mem_nil,or_false,not_or]at hb
   exact up b o hb.1 (kp b o hb.1 hb.2.1 hb.2.2.1 hb.2.2.2.1 hb.2.2.2.2 e)
  have ch:∀b∈[z,TO,i1,i2,i3],b∈[z,TI,TO,i1,i2,i3]:=fun b hb=>by
   simp only[List.mem_cons,List.not_mem_nil,or_false]at hb ⊢
   rcases hb with h | h | h | h | h <;> simp[h]
  have fW:∀b u,H b=some u→b∉[z,TO,i1,i2,i3]∧b≠T:=fun b u e=>⟨fun hb=>(by rw[(hf b (ch b hb)).1]at e;cases e),fun q=>(by rw[q,nT]at e;cases e)⟩
  have I2:Inv X pins σ (cr H T (.tup [x,y,u])) {s with heap:=h2,gens:=s.gens,drawn:=s.drawn,toks:=tk} :=by
   refine I.step (g':=s.gens) (d':=s.drawn) (t':=tk) (ch:=[z,TO,i1,i2,i3]) (fun b hb=>⟨(hf b (ch b hb)).2.2.2.1,(hf b (ch b hb)).2.1,(hf b (ch b hb)).2.2.2.2.1,(hf b (ch b hb)).2.2.2.2.2⟩) (fun b o _ _ hb e _=>kp2 b o hb e) (fun b o _ _ hb e _=>⟨o.slots,kp2 b o hb e⟩)
    (fun b o hb e n=>by rw[aw (lt e)];exact n) (fun b o hb e=>⟨o,kp2 b o hb e⟩) (fun b xs e=>by rw[aw (fW b _ e).2];exact e) (fun b o u e=>by rw[aw (fW b _ e).2];exact e) (fun b ps e=>⟨#[],by rw[aw (fW b _ e).2,e];simp⟩) (fun m hm=>?_) (fun b u e=>?_) I.bare
   ·obtain⟨o,es,ep,ho,r⟩:=hm
    exact⟨o,es,ep,kp2 _ o (fun hb=>(hf _ (ch _ hb)).2.1 rfl) ho,r⟩
   ·by_cases hb:b=T
    ·subst hb
     rw[aJ]at e;cases e
     refine⟨(by show 3≤sizeLine;rw[sizeLine_eq];decide),[vx,vy,vu],.cons rx (.cons ry (.cons ru .nil)),⟨_,up _ _ ?_ hTp,⟨rfl,rfl⟩,_,rfl⟩⟩
     exact fun q=>lt hz q.symm
    ·rw[aw hb]at e
     refine(I.hok b u e).stay (fun c v hc q=>kp2 c v ?_ q) (fun c q=>by rw[aw (fW c _ q).2];exact q) fun c xs q=>by rw[aw (fW c _ q).2];exact q
     rcases hc with q | q
     ·rw[q];exact(fW b u e).1
     ·exact(fW c _ q).1
  refine⟨.ref T,_,I2,rfl,⟨T,x,y,u,nT,rfl,fun xs' h=>by rw[Src.inj I h hx];exact ex,fun ys' h=>by rw[Src.inj I h hy];exact ey,fun us' h=>by rw[Src.inj I h hu];exact eu,rfl⟩,⟨hz2,up _ _ Z.c1 (kp _ _ Z.c1 Z.c5 Z.c6 Z.c7 Z.c7' hI),⟨_,_,_,up _ _ Z.c2 hO'⟩,Src.at_keep (a1 _ _ w1) fun o e=>up _ o Z.c3 e,Src.at_keep (a2 _ _ w2) fun o e=>up _ o Z.c4 e,Src.at_keep (a3 _ _ w3) fun o e=>up _ o Z.c4' e⟩,fun b hb=>?_⟩
  have hbT:b≠T:=by
   obtain⟨o,e⟩:∃o,s.heap.get? b=some o:=by
    obtain⟨o1,e1,_⟩:=Src.at_obj t1
    obtain⟨o2,e2,_⟩:=Src.at_obj t2
    obtain⟨o3,e3,_⟩:=Src.at_obj t3
    simp only[List.mem_cons,List.not_mem_nil,or_false]at hb
    rcases hb with rfl | rfl | rfl | rfl | rfl | rfl
    ·exact⟨_,hz⟩
    ·exact⟨_,hI⟩
    ·exact⟨_,hO⟩
    ·exact⟨_,e1⟩
    ·exact⟨_,e2⟩
    ·exact⟨_,e3⟩
   exact lt e
  rw[aw hbT]
  exact(hf b hb).1
 done:=by
  intro X hP hw hK hc i pins s σ H E I hf st hg
  subst hP hw hK
  obtain⟨xs,ys,us,hx,hy,hu,hend⟩:=hg
  obtain⟨hz,hI,⟨a,b',c',hO⟩,t1,t2,t3⟩:=st
  have hh:X.A.in1.handled=none:=I.ok.hd hc
  obtain⟨fp1,P1,S1,D1,u1,r1,a1,_,g1⟩:=Src.draws (A:=X.A.in1) hh I hx t1 (hf i1 (by simp)).1
  obtain⟨fp2,P2,S2,D2,u2,r2,a2,_,g2⟩:=Src.draws (A:=X.A.in1) hh I hy t2 (hf i2 (by simp)).1
  obtain⟨fp3,P3,S3,D3,u3,r3,a3,_,g3⟩:=Src.draws (A:=X.A.in1) hh I hu t3 (hf i3 (by simp)).1
  have ZA:=lF I Z hf g1 g2 g3
  have ch:∀b∈[z,TO,i1,i2,i3],b∈[z,TI,TO,i1,i2,i3]:=fun b hb=>by
   simp only[List.mem_cons,List.not_mem_nil,or_false]at hb ⊢
   rcases hb with h | h | h | h | h <;> simp[h]
  refine oq hh D1 D2 D3 ZA hend hz hI hO u1 u2 u3 fun h2 tk kp=>⟨rfl,?_⟩
  have kp2:∀b o,b∉[z,TO,i1,i2,i3]→s.heap.get? b=some o→h2.get? b=some o:=fun b o hb e=>by
   simp only[List.mem_cons,List.not_mem_nil,or_false,not_or]at hb
   exact kp b o hb.1 hb.2.1 hb.2.2.1 hb.2.2.2.1 hb.2.2.2.2 e
  refine I.step (g':=s.gens) (d':=s.drawn) (t':=tk) (ch:=[z,TO,i1,i2,i3]) (fun b hb=>⟨(hf b (ch b hb)).2.2.2.1,(hf b (ch b hb)).2.1,(hf b (ch b hb)).2.2.2.2.1,(hf b (ch b hb)).2.2.2.2.2⟩) (fun b o _ _ hb e _=>kp2 b o hb e) (fun b o _ _ hb e _=>⟨o.slots,kp2 b o hb e⟩)
   (fun b o hb e n=>n) (fun b o hb e=>⟨o,kp2 b o hb e⟩) (fun b xs e=>e) (fun b o u e=>e) (fun b ps e=>⟨#[],by rw[e];simp⟩) (fun m hm=>?_) (fun b u e=>?_) I.bare
  ·obtain⟨o,es,ep,ho,r⟩:=hm
   exact⟨o,es,ep,kp2 _ o (fun hb=>(hf _ (ch _ hb)).2.1 rfl) ho,r⟩
  ·have fW:∀b u,H b=some u→b∉[z,TO,i1,i2,i3]:=fun b u e hb=>by rw[(hf b (ch b hb)).1]at e;cases e
   refine(I.hok b u e).stay (fun c v hc q=>kp2 c v ?_ q) (fun c q=>q) fun c xs q=>q
   rcases hc with q | q
   ·rw[q];exact fW b u e
   ·exact fW c _ q
 self:=fun _ _ _ _ _ st h=>wpAny_pyIter_zip st.1 h
theorem uB {x y z:V} {us:List Value} (r:Vals [x,y,z] us):∃u v w',us=[u,v,w']∧RelV x u∧RelV y v∧RelV z w':=by
 cases r with
 | cons h1 r => cases r with
  | cons h2 r => cases r with
   | cons h3 r=>cases r;exact⟨_,_,_,rfl,h1,h2,h3⟩
def se (K:PySem.W.Frag) (t:TA):TI:=fun σ H R=>t σ H fun vs H1=>∃c1 c2 c3 xs ys us,vs=[c1.val,c2.val,c3.val]∧c1.has K H1 xs∧c2.has K H1 ys∧c3.has K H1 us∧R (uA K c1 c2 c3) H1
theorem qz {X:Cx} {K:PySem.W.Frag} (hK:X.K=K) {a b c:Expr} {ta:TA} {p pos tp:Pos} {elts:List Expr} {kk:Nat} (hg:Gl X "zip") (hm:X.mg "zip" =none) (ha:PA X [a,b,c] ta)
  (hs:starEach [a,b,c] X.env=[(false,eval a X.env),(false,eval b X.env),(false,eval c X.env)]:=by rfl) (hs2:starEach [b,c] X.env=[(false,eval b X.env),(false,eval c X.env)]:=by rfl):PI X (.Tuple elts kk tp) (.Call (.Name "zip" p) [a,b,c] [] pos) (se K ta):=by
 subst hK
 intro pins s σ H R I h
 refine Call_ (fG I hg hm boot_zip (PyProof.Rows.callWith_type1 (bF (ha pos pins s σ H _ I h) fun us s1 ⟨vs,H1,I1,r1,q1⟩=>?_) (by rw[hs,hs2]) (by rw[hs2];rfl)))
 obtain⟨c1,c2,c3,xs,ys,zs,e,h1,h2,h3,q⟩:=q1
 subst e
 obtain⟨v1,v2,v3,rfl,ra,rb,rc⟩:=uB r1
 obtain⟨o1,i1,f1,n1⟩:=Src.iter I1 h1 ra fun _ _ e=>e
 obtain⟨o2,i2,f2,n2⟩:=Src.iter (h:=s1.heap.push o1) I1 h2 rb fun _ _ e=>Heap.get?_push_of_some _ e
 obtain⟨o3,i3,f3,n3⟩:=Src.iter (h:=(s1.heap.push o1).push o2) I1 h3 rc fun _ _ e=>Heap.get?_push_of_some _ (Heap.get?_push_of_some _ e)
 have z1:(s1.heap.push o1).objs.size=s1.heap.objs.size+1:=Heap.size_push ..
 have z2:((s1.heap.push o1).push o2).objs.size=s1.heap.objs.size+2:=by rw[Heap.size_push,z1]
 rw[z1]at n2
 rw[z2]at n3
 refine mT i1 i2 i3 f1 f2 f3 fun h' hz hI hO e1 e2 e3 kp=>?_
 refine wpAny_pyIter_zip hz ?_
 have zi:∀n:Nat,ZIds3 (n+5) (n+3) (n+4) n (n+1) (n+2):=fun n=>⟨(gj n 3 5 (by decide)),(gj n 4 5 (by decide)),(gj n 0 5 (by decide)),(gj n 1 5 (by decide)),(gj n 2 5 (by decide)),(gj n 3 4 (by decide)),(gj n 3 0 (by decide)),(gj n 3 1 (by decide)),(gj n 3 2 (by decide)),(gj n 4 0 (by decide)),(gj n 4 1 (by decide)),(gj n 4 2 (by decide)),(gj n 0 1 (by decide)),(gj n 0 2 (by decide)),(gj n 1 2 (by decide))⟩
 refine⟨s1.heap.objs.size+5,[s1.heap.objs.size+5,s1.heap.objs.size+3,s1.heap.objs.size+4,s1.heap.objs.size,s1.heap.objs.size+1,s1.heap.objs.size+2],_,_,H1,rfl,I1.kept (t':=s1.toks) kp,mV c1 c2 c3 _ _ _ _ _ _ (zi s1.heap.objs.size),⟨hz,hI,⟨_,_,_,hO⟩,n1 h' e1,n2 h' e2,n3 h' e3⟩,fun b hb=>?_,q⟩
 have hb':s1.heap.objs.size≤b:=by
  simp only[List.mem_cons,List.not_mem_nil,or_false]at hb
  rcases hb with z | z | z | z | z | z <;> rw[z]
  ·exact Nat.le_add_right _ 5
  ·exact Nat.le_add_right _ 3
  ·exact Nat.le_add_right _ 4
  ·exact Nat.le_refl _
  ·exact Nat.le_add_right _ 1
  ·exact Nat.le_add_right _ 2
 exact I1.fpOk hb' (I1.hok.fresh hb')
end L2
namespace Mi
inductive Res (α:Type) where
 | ok (a:α) | err (j:Nat) | stuck
namespace Res
variable {α β:Type}
def Ok (m:Res α) (P:α→Prop):Prop:=match m with | .ok a=>P a | _=>False
def bind (m:Res α) (f:α→Res β):Res β:=match m with | .ok a=>f a | .err j=>.err j | .stuck=>.stuck
theorem bind_ok {m:Res α} {f:α→Res β} {P:β→Prop} (h:m.Ok fun a=>(f a).Ok P):(m.bind f).Ok P:=by cases m <;> exact h
theorem Ok.imp {m:Res α} {P Q:α→Prop} (h:m.Ok P) (k:∀a,P a→Q a):m.Ok Q:=by cases m <;> first | exact k _ h | exact h
theorem Ok.ex {m:Res α} {P:α→Prop} (h:m.Ok P):∃a,m=.ok a∧P a:=by
 cases m with
 | ok a=>exact⟨a,rfl,h⟩
 | err j=>exact h.elim
 | stuck=>exact h.elim
def OkE (m:Res α) (Er:Nat→Prop) (P:α→Prop):Prop:=match m with | .ok a=>P a | .err j=>Er j | .stuck=>False
theorem okE_bind {m:Res α} {f:α→Res β} {Er:Nat→Prop} {P:β→Prop} (h:(m.bind f).OkE Er P):m.OkE Er fun a=>(f a).OkE Er P:=by cases m <;> exact h
theorem OkE.imp {m:Res α} {Er:Nat→Prop} {P Q:α→Prop} (h:m.OkE Er P) (k:∀a,P a→Q a):m.OkE Er Q:=by cases m <;> first | exact k _ h | exact h
theorem Ok.e {m:Res α} {Er:Nat→Prop} {P:α→Prop} (h:m.Ok P):m.OkE Er P:=by
 cases m with
 | ok a=>exact h
 | err j=>exact h.elim
 | stuck=>exact h.elim
@[simp] theorem bind_ok' (a:α) (f:α→Res β):(Res.ok a).bind f=f a:=rfl
end Res
abbrev cap:Nat:=100000
def dz (b:Prop) [Decidable b] {α:Type} (a:α):Res α:=if b then .ok a else .stuck
theorem bm {b:Prop} [Decidable b] {α:Type} {a:α} (h:b):dz b a=.ok a:=if_pos h
theorem bg {b:Prop} [Decidable b] {α:Type} {a:α} {Er:Nat→Prop} {P:α→Prop} (h:(dz b a).OkE Er P):b∧P a:=by
 unfold dz at h
 by_cases hb:b
 ·rw[if_pos hb]at h;exact⟨hb,h⟩
 ·rw[if_neg hb]at h;exact h.elim
def qA {α:Type} :Option α→Res α
 | some a=>.ok a
 | none=>.stuck
theorem dL {α:Type} {o:Option α} {Er:Nat→Prop} {P:α→Prop} (h:(qA o).OkE Er P):∃a,o=some a∧P a:=by
 cases o with
 | none=>exact h.elim
 | some a=>exact⟨a,rfl,h⟩
abbrev Tx:=List Nat
def bi (i:Int):Int:=if i< 0 then -i else i
def gM (i j:Int):Res Int:=dz ((-(2^64)< i∧i< 2^64)∨(-(2^64)< j∧j< 2^64)) (i*j)
def fZ (i j:Int):Res Int:=dz (0< j∧j< 1073741824) (i/ j)
def j5 (i j:Int):Res Int:=dz (0< j) (i% j)
def ixN (n:Nat) (i:Int):Option Nat:=if 0≤i then(if i< n then some i.toNat else none)else if -(n:Int)≤i then some (i+n).toNat else none
def qd {α:Type} (xs:List α) (i:Int):Option α:=(ixN xs.length i).bind fun j=>xs[j]?
theorem qB {α:Type} {xs:List α} {j:Nat} {v:α} (h:xs[j]? =some v):qd xs (j:Int)=some v:=by
 have hl:j< xs.length:=(List.getElem?_eq_some_iff.mp h).1
 unfold qd ixN
 rw[if_pos (by omega),if_pos (by omega),Int.toNat_natCast]
 exact h
theorem ou {α:Type} {xs:List α} {i:Int} (h0:0≤i) (h1:i< xs.length):∃h:i.toNat< xs.length,qd xs i=some xs[i.toNat]:=by
 have h2:i.toNat< xs.length:=by omega
 refine⟨h2,?_⟩
 have:=qB (xs:=xs) (j:=i.toNat) (v:=xs[i.toNat]) (by simp[h2])
 rw[Int.toNat_of_nonneg h0]at this
 exact this
def ic {α:Type} (xs:List α) (i:Int):Res α:=qA (qd xs i)
def dM (x:Tx) (i:Int):Res Tx:=(dz (x.length≤cap) x).bind fun x=>(qA (qd x i)).bind fun c=>.ok [c]
def fM (a b:Tx):Res Tx:=dz (a.length+b.length≤cap) (a++b)
def sT {α:Type} (a b:List α):Res (List α):=dz (a.length+b.length≤cap) (a++b)
def gk {α:Type} (a:List α) (x:α):Res (List α):=dz (a.length< cap) (a++ [x])
def sU (a:Tx) (n:Int):Res Tx:=match a with
 | [c]=>dz (0≤n∧n≤cap) (List.replicate n.toNat c)
 | _=>.stuck
def sV (x:Tx):Res Int:=dz (x.length≤cap) (x.length:Int)
def sIx (n d:Nat):Option Int→Nat
 | none=>d
 | some v=>if v< 0 then(v+(n:Int)).toNat else min v.toNat n
def cut {α:Type} (l:List α) (lo hi:Option Int):List α:=(l.drop (sIx l.length 0 lo)).take (sIx l.length l.length hi- sIx l.length 0 lo)
def mW (x:Tx) (lo hi:Option Int):Res Tx:=dz (x.length≤cap) (cut x lo hi)
def jH {α:Type} (xs:List α) (i:Int) (x:α):Res (List α):=(qA (ixN xs.length i)).bind fun j=>.ok (xs.set j x)
def oz (x:Tx) (c:Nat):Option Nat:=x.findIdx? (· == c)
def fN (x y:Tx):Res Int:=match y with
 | [c]=>(qA (oz x c)).bind fun j=>.ok (j:Int)
 | _=>.stuck
def jI (xs:List Tx):Res Tx:=dz (xs.flatten.length≤cap) xs.flatten
def look {κ α:Type} [DecidableEq κ] (kvs:List (κ×α)) (k:κ):Option α:=(kvs.find? fun p=>decide (p.1=k)).map (·.2)
def getD {κ α:Type} [DecidableEq κ] (kvs:List (κ×α)) (k:κ):Res α:=qA (look kvs k)
def gN {α β:Type} (f:α→Res β):List α→Res (List β)
 | []=>.ok []
 | a::r=>(f a).bind fun b=>(gN f r).bind fun bs=>.ok (b::bs)
def dX {α β:Type} (xs:List α) (f:α→Res β):Res (List β):=(dz (xs.length≤cap) xs).bind fun xs=>gN f xs
def fo {α β:Type} (f:α→Res (Option β)):List α→Res (List β)
 | []=>.ok []
 | a::r=>(f a).bind fun b=>(fo f r).bind fun bs=>.ok (match b with | some b=>b::bs | none=>bs)
def lG {α β:Type} (xs:List α) (f:α→Res (Option β)):Res (List β):=(dz (xs.length≤cap) xs).bind fun xs=>fo f xs
def bC {α S:Type} (f:α→S→Res S):List α→S→Res S
 | [],s=>.ok s
 | a::r,s=>(f a s).bind fun s=>bC f r s
inductive Fl (γ S:Type) where
 | nx (s:S) | bk (s:S) | rt (r:γ)
def oA {S γ:Type} (k:S→Res (Fl γ S)):Fl γ S→Res (Fl γ S)
 | .nx s=>k s
 | .bk s=>.ok (.nx s)
 | .rt x=>.ok (.rt x)
def dA {α S γ:Type} (f:α→S→Res (Fl γ S)):List α→S→Res (Fl γ S)
 | [],s=>.ok (.nx s)
 | a::r,s=>(f a s).bind (oA (dA f r))
def gO (n:Int):List Int:=(List.range n.toNat).map fun(i:Nat)=>(i:Int)
def dN (n:Int):Res (List Int):=dz (-(2^62)≤n∧n< 2^62) (gO n)
def bd (x:Tx):List Tx:=x.map fun c=>[c]
def fP (xs:List Int):List Int:=xs.mergeSort fun a b=>decide (a≤b)
theorem gb (xs:List Int):(fP xs).Perm xs:=List.mergeSort_perm _ _
theorem iw (xs:List Int):(fP xs).Pairwise (· ≤ ·):=by
 have:=List.pairwise_mergeSort (le:=fun a b:Int=>decide (a≤b)) (fun a b c h1 h2=>by simp at *;omega) (fun a b=>by simp;omega) xs
 exact this.imp fun h=>by simpa using h
theorem mX {xs ys:List Int} (h:ys.Perm xs) (hs:ys.Pairwise (· ≤ ·)):ys=fP xs:=
 List.Perm.eq_of_pairwise (le:=(· ≤ ·)) (fun a b _ _ h1 h2=>by omega) hs (iw xs) (h.trans (gb xs).symm)
def oB (xs:List Int):Res (List Int):=dz (xs.length< 64) (fP xs)
def u0 {α:Type} [DecidableEq α] (a b:α):Res Bool:=if a=b then .ok true else .stuck
def sW {α:Type} :List α→Res (α×α×α)
 | [a,b,c]=>.ok (a,b,c)
 | _=>.stuck
theorem lH {α β:Type} {f:α→Res β} {g:α→β} :∀{xs:List α},(∀x∈xs,f x=.ok (g x))→gN f xs=.ok (xs.map g)
 | [],_=>rfl
 | a :: r, h => by
  unfold gN
  rw[h a (List.mem_cons_self ..),Res.bind_ok',lH fun x hx=>h x (List.mem_cons_of_mem _ hx)]
  rfl
theorem eD {α β:Type} {f:α→Res β} {g:α→β} {xs:List α} (hl:xs.length≤cap) (h:∀x∈xs,f x=.ok (g x)):dX xs f=.ok (xs.map g):=by
 unfold dX;rw[bm hl,Res.bind_ok',lH h]
end Mi
namespace Mi
end Mi
namespace Wb
open PySem L2 Mi
variable {Er:Nat→Prop}
structure Wd where
 G:Hp
 H:Hp
 ok:Same G H
structure Ext (W W':Wd):Prop where
 g:Same W.G W'.G
 h:Same W.H W'.H
 k:∀p,W.H p≠none→W'.G p=W.G p
theorem Ext.refl (W:Wd):Ext W W:=⟨.refl _,.refl _,fun _ _=>rfl⟩
theorem Ext.trans {W W1 W2:Wd} (a:Ext W W1) (b:Ext W1 W2):Ext W W2:=⟨a.g.trans b.g,a.h.trans b.h,fun p hp=>by
 obtain⟨o,ho⟩:=Option.ne_none_iff_exists'.mp hp
 rw[b.k p (by rw[a.h p o ho];exact fun z=>nomatch z),a.k p hp]⟩
theorem Same.upd2 {G H:Hp} (h:Same G H) (p:Addr) (o:HO):Same (cr G p o) (cr H p o):=fun a u e=>by
 by_cases z:a=p
 ·subst z;rw[aJ]at e ⊢;exact e
 ·rw[aw z]at e ⊢;exact h _ _ e
def Wd.new (W:Wd) (p:Addr) (o:HO):Wd:=⟨cr W.G p o,cr W.H p o,Same.upd2 W.ok p o⟩
theorem Wd.gnone (W:Wd) {p:Addr} (h:W.H p=none):W.G p=none:=bj W.ok h
theorem Ext.new {W:Wd} {p:Addr} (o:HO) (h:W.H p=none):Ext W (W.new p o):=⟨cK (W.gnone h),cK h,fun q hq=>aw fun z=>hq (z▸h)⟩
def Wd.mut (W:Wd) (p:Addr) (o:HO) (h:W.G p=none):Wd:=⟨W.G,cr W.H p o,mS W.ok h⟩
theorem Ext.own {W:Wd} {p:Addr} (o:HO) (h:W.H p=none):Ext W (W.mut p o (W.gnone h)):=⟨.refl _,cK h,fun _ _=>rfl⟩
def Wd.frz (W:Wd) (p:Addr) (o:HO) (h:W.H p=some o):Wd:=⟨cr W.G p o,W.H,fun a u e=>by
 by_cases z:a=p
 ·subst z;rw[aJ]at e;cases e;exact h
 ·rw[aw z]at e;exact W.ok _ _ e⟩
theorem Ext.mut {W0 W:Wd} {p:Addr} {o:HO} (e:Ext W0 W) (hp:W0.H p=none) (h:W.G p=none):Ext W0 (W.mut p o h):=
 ⟨e.g,fun a u z=>by show cr W.H p o a=_;rw[aw (bE z hp)];exact e.h _ _ z,e.k⟩
theorem Ext.frz {W0 W:Wd} {p:Addr} {o:HO} (e:Ext W0 W) (hp:W0.H p=none) (h:W.H p=some o) (hg:W.G p=none):Ext W0 (W.frz p o h):=
 ⟨e.g.trans (cK hg),e.h,fun q hq=>by show cr W.G p o q=_;rw[aw (fun z=>hq (by rw[z];exact hp))];exact e.k q hq⟩
abbrev Rw (α:Type):=Wd→α→V→Prop
class MonoW {α:Type} (R:Rw α):Prop where
 mono:∀{W W':Wd} {a:α} {v:V},Ext W W'→R W a v→R W' a v
def sh {α:Type} (R:Rp α):Rw α:=fun W a v=>R W.G a v
instance zkeep8 {α:Type} {R:Rp α} [Mono R]:MonoW (sh R):=⟨fun e h=>Mono.mono (R:=R) e.g h⟩
def pk {α:Type} (R:Rp α):Rw (List α):=fun W xs v=>∃p vs,v=.ref p∧W.H p=some (.lst vs)∧LR R W.G xs vs
instance zkeep9 {α:Type} {R:Rp α} [Mono R]:MonoW (pk R):=⟨fun e ⟨p,vs,a,b,c⟩=>⟨p,vs,a,e.h _ _ b,c.same e.g⟩⟩
theorem pk.of {α:Type} {R:Rp α} {W:Wd} {xs:List α} {v:V} (h:isL R W.G xs v):pk R W xs v:=by
 obtain⟨p,vs,a,b,c⟩:=h
 exact⟨p,vs,a,W.ok _ _ b,c⟩
structure Ow {α:Type} (R:Rp α) (W:Wd) (p:Addr) (xs:List α):Prop where
 g:W.G p=none
 h:∃vs,W.H p=some (.lst vs)∧LR R W.G xs vs
theorem Ow.mono {α:Type} {R:Rp α} [Mono R] {W W':Wd} {p:Addr} {xs:List α} (o:Ow R W p xs) (e:Ext W W'):Ow R W' p xs:=by
 obtain⟨vs,a,b⟩:=o.h
 exact⟨by rw[e.k p (by rw[a];exact fun z=>nomatch z)];exact o.g,vs,e.h _ _ a,b.same e.g⟩
theorem Ow.pk {α:Type} {R:Rp α} {W:Wd} {p:Addr} {xs:List α} (o:Ow R W p xs):pk R W xs (.ref p):=by
 obtain⟨vs,a,b⟩:=o.h
 exact⟨p,vs,rfl,a,b⟩
theorem Ow.frz {α:Type} {R:Rp α} [Mono R] {W0 W:Wd} {p:Addr} {xs:List α} (o:Ow R W p xs) (e:Ext W0 W) (hp:W0.H p=none):
  ∃W',W'.H=W.H∧Ext W0 W'∧Same W.G W'.G∧isL R W'.G xs (.ref p)∧∀q,q≠p→W'.G q=W.G q:=by
 obtain⟨vs,a,b⟩:=o.h
 exact⟨W.frz p _ a,rfl,e.frz hp a o.g,cK o.g,⟨p,vs,rfl,aJ,b.same (cK o.g)⟩,fun q hq=>aw hq⟩
theorem Ow.keep {α:Type} {R:Rp α} [Mono R] {W W':Wd} {q:Addr} {xs:List α} (o:Ow R W q xs) (hH:W'.H q=W.H q) (hs:Same W.G W'.G) (hg:W'.G q=W.G q):Ow R W' q xs:=by
 obtain⟨vs,a,b⟩:=o.h
 exact⟨by rw[hg];exact o.g,vs,by rw[hH];exact a,b.same hs⟩
def EV (Er:Nat→Prop) {α:Type} (t:TE) (σ:St) (W:Wd) (R:Rw α) (m:Res α):Prop:=∀W1,Ext W W1→∀Q:VK,m.OkE Er (fun a=>∀v W2,Ext W1 W2→R W2 a v→Q v W2.H)→t σ W1.H Q
def EVo (Er:Nat→Prop) {α:Type} (t:TE) (σ:St) (W:Wd) (R:Rp α) (m:Res (List α)):Prop:=∀W1,Ext W W1→∀Q:VK,m.OkE Er (fun xs=>∀p W2,Ext W1 W2→W1.H p=none→Ow R W2 p xs→Q (.ref p) W2.H)→t σ W1.H Q
def TV (Er:Nat→Prop) (t:TT) (σ:St) (W:Wd) (m:Res Bool):Prop:=∀W1,Ext W W1→∀Q:Bool→Hp→Prop,m.OkE Er (fun b=>∀W2,Ext W1 W2→Q b W2.H)→t σ W1.H Q
section
variable {α β γ:Type} {t ta tb:TE} {σ:St} {W W0 W':Wd} {K:PySem.W.Frag}
theorem EV.imp {R R':Rw α} {m:Res α} (h:EV Er t σ W R m) (f:∀W a v,R W a v→R' W a v):EV Er t σ W R' m:=fun W1 e1 Q k=>h W1 e1 Q (k.imp fun a ka v W2 e2 r=>ka v W2 e2 (f _ _ _ r))
theorem EVo.ev {R:Rp α} [Mono R] {m:Res (List α)} (h:EVo Er t σ W R m):EV Er t σ W (sh (isL R)) m:=fun W1 e1 Q k=>h W1 e1 Q (k.imp fun xs kx p W2 e2 hp o=>by
 obtain⟨W3,hH,e3,_,r,_⟩:=o.frz e2 hp
 rw[←hH]
 exact kx (.ref p) W3 e3 r)
theorem EVo.pk {R:Rp α} [Mono R] {m:Res (List α)} (h:EVo Er t σ W R m):EV Er t σ W (pk R) m:=fun W1 e1 Q k=>h W1 e1 Q (k.imp fun xs kx p W2 e2 hp o=>kx (.ref p) W2 e2 o.pk)
theorem EV.pk {R:Rp α} {m:Res (List α)} (h:EV Er t σ W (sh (isL R)) m):EV Er t σ W (pk R) m:=h.imp fun _ _ _ r=>pk.of r
theorem a8 {R:Rw α} [MonoW R] {i:Nat} {v:V} {a:α} (r:R W a v) (h:σ[i]? =some (some v):=by rfl):EV Er (bz i) σ W R (.ok a):=fun W1 e1 Q k=>⟨v,h,k v W1 (.refl _) (MonoW.mono e1 r)⟩
theorem eT {R:Rp α} [Mono R] {i:Nat} {p:Addr} {a:List α} (r:Ow R W p a) (h:σ[i]? =some (some (.ref p)):=by rfl):EV Er (bz i) σ W (pk R) (.ok a):=a8 r.pk h
def isB:Rp Bool:=fun _ b v=>v=.bl b
instance zkeep10:Mono isB:=⟨fun _ h=>h⟩
def isO (R:Rp α):Rp (Option α):=fun H o v=>match o with | none=>v=.non | some a=>R H a v∧v≠.non
instance zkeep12 {R:Rp α} [Mono R]:Mono (isO R):=⟨fun {H H' m v} e h=>by
 cases m with
 | none=>exact h
 | some a=>exact⟨Mono.mono e h.1,h.2⟩⟩
theorem ah {i:Int} :EV Er (tC (.int i)) σ W (sh isI) (.ok i):=fun W1 _ Q k=>k _ W1 (.refl _) rfl
theorem aV {x:Str} {l:Tx} (h:x=aj l):EV Er (tC (.str x)) σ W (sh isS) (.ok l):=fun W1 _ Q k=>k _ W1 (.refl _) (by rw[h];rfl)
theorem ix {b:Bool} :EV Er (tC (.bl b)) σ W (sh isB) (.ok b):=fun W1 _ Q k=>k _ W1 (.refl _) rfl
theorem lI {R:Rp α} :EV Er (tC .non) σ W (sh (isO R)) (.ok none):=fun W1 _ Q k=>k _ W1 (.refl _) rfl
theorem mY {r:R2} {Ra:Rw α} [MonoW Ra] {Rb:Rw β} {R:Rw γ} {ma:Res α} {mb:Res β} {f:α→β→Res γ} (ha:EV Er ta σ W Ra ma) (hb:EV Er tb σ W Rb mb)
  (h:∀W a b x y Q,Ra W a x→Rb W b y→(f a b).OkE Er (fun c=>∀v W2,Ext W W2→R W2 c v→Q v W2.H)→r x y W.H Q):EV Er (cv r ta tb) σ W R (ma.bind fun a=>mb.bind fun b=>f a b):=fun W1 e1 Q k=>by
 refine ha W1 e1 _ ((Res.okE_bind k).imp fun a ka x W2 e2 hx=>?_)
 refine hb W2 (e1.trans e2) _ ((Res.okE_bind ka).imp fun b kb y W3 e3 hy=>?_)
 exact h W3 a b x y Q (MonoW.mono e3 hx) hy (kb.imp fun c kc v W4 e4 hv=>kc v W4 ((e2.trans e3).trans e4) hv)
theorem wf {r:V→Hp→VK→Prop} {Ra:Rw α} {R:Rw γ} {ma:Res α} {f:α→Res γ} (ha:EV Er ta σ W Ra ma)
  (h:∀W a x Q,Ra W a x→(f a).OkE Er (fun c=>∀v W2,Ext W W2→R W2 c v→Q v W2.H)→r x W.H Q):EV Er (dQ r ta) σ W R (ma.bind f):=fun W1 e1 Q k=>by
 refine ha W1 e1 _ ((Res.okE_bind k).imp fun a ka x W2 e2 hx=>?_)
 exact h W2 a x Q hx (ka.imp fun c kc v W4 e4 hv=>kc v W4 (e2.trans e4) hv)
section
variable {ma mb:Res Int}
theorem aZ {g:Int→Int→Int} (ha:EV Er ta σ W (sh isI) ma) (hb:EV Er tb σ W (sh isI) mb):EV Er (cv (de fun i j=>.int (g i j)) ta tb) σ W (sh isI) (ma.bind fun a=>mb.bind fun b=>.ok (g a b)):=
 mY ha hb fun W a b x y Q hx hy k=>by cases hx;cases hy;exact⟨a,b,rfl,rfl,k _ W (.refl _) rfl⟩
theorem oC {C:Int→Int→Prop} {g:Int→Int→Int} {f:Int→Int→Res Int} (hf:∀a b P,(f a b).OkE Er P→C a b∧P (g a b)) (ha:EV Er ta σ W (sh isI) ma) (hb:EV Er tb σ W (sh isI) mb):
  EV Er (cv (rI C fun i j=>.int (g i j)) ta tb) σ W (sh isI) (ma.bind fun a=>mb.bind fun b=>f a b):=
 mY ha hb fun W a b x y Q hx hy k=>by cases hx;cases hy;exact⟨a,b,rfl,rfl,(hf a b _ k).1,(hf a b _ k).2 _ W (.refl _) rfl⟩
theorem gP (ha:EV Er ta σ W (sh isI) ma) (hb:EV Er tb σ W (sh isI) mb):EV Er (cv (rI CMul fun i j=>.int (i*j)) ta tb) σ W (sh isI) (ma.bind fun a=>mb.bind fun b=>gM a b):=oC (fun a b P h=>by unfold gM at h;obtain⟨h1,h2⟩:=bg h;exact⟨h1,h2⟩) ha hb
theorem lJ (ha:EV Er ta σ W (sh isI) ma) (hb:EV Er tb σ W (sh isI) mb):EV Er (cv (rI uj fun i j=>.int (i/ j)) ta tb) σ W (sh isI) (ma.bind fun a=>mb.bind fun b=>fZ a b):=oC (fun a b P h=>by unfold fZ at h;obtain⟨h1,h2⟩:=bg h;exact⟨h1,h2⟩) ha hb
theorem j6 (ha:EV Er ta σ W (sh isI) ma) (hb:EV Er tb σ W (sh isI) mb):EV Er (cv (rI (fun _ j=>0< j) fun i j=>.int (i% j)) ta tb) σ W (sh isI) (ma.bind fun a=>mb.bind fun b=>j5 a b):=oC (fun a b P h=>by unfold j5 at h;obtain⟨h1,h2⟩:=bg h;exact⟨h1,h2⟩) ha hb
theorem aq {C:Int→Int→Prop} {g:Int→Int→Int} {n:Int} (hn:∀a,C a n) (ha:EV Er ta σ W (sh isI) ma):EV Er (cv (rI C fun i j=>.int (g i j)) ta (tC (.int n))) σ W (sh isI) (ma.bind fun a=>.ok (g a n)):=
 fun W1 e1 Q k=>ha W1 e1 _ ((Res.okE_bind k).imp fun a ka x W2 e2 hx=>by cases hx;exact⟨a,n,rfl,rfl,hn a,ka _ W2 e2 rfl⟩)
end
end
end Wb
namespace Wb
open PySem L2 Mi
variable {Er:Nat→Prop}
section
variable {α β γ δ:Type} {t ta tb tc:TE} {σ:St} {W W0 W':Wd} {K:PySem.W.Frag}
theorem mZ {n:Nat} (h:n≤cap):n≤sizeLine:=by rw[sizeLine_eq];unfold cap at h;omega
section
variable {ma mb:Res Int}
theorem gQ (ha:EV Er ta σ W (sh isI) ma):EV Er (dQ (rU fun i=>.int (-i)) ta) σ W (sh isI) (ma.bind fun a=>.ok (-a)):=
 wf ha fun W a x Q hx k=>by cases hx;exact⟨a,rfl,k _ W (.refl _) rfl⟩
theorem d9 {g:Int→Int→Bool} (ha:EV Er ta σ W (sh isI) ma) (hb:EV Er tb σ W (sh isI) mb):EV Er (cv (de fun i j=>.bl (g i j)) ta tb) σ W (sh isB) (ma.bind fun a=>mb.bind fun b=>.ok (g a b)):=
 mY ha hb fun W a b x y Q hx hy k=>by cases hx;cases hy;exact⟨a,b,rfl,rfl,k _ W (.refl _) rfl⟩
end
theorem dI {a b:Int} :decide (V.int a=V.int b)=decide (a=b):=by rw[Bool.eq_iff_iff];simp
theorem dS {a b:Tx} :decide (V.str (aj a)=V.str (aj b))=decide (a=b):=by
 rw[Bool.eq_iff_iff,decide_eq_true_eq,decide_eq_true_eq]
 exact⟨fun h=>lD (V.str.inj h),fun h=>by rw[h]⟩
theorem dv {ma mb:Res Int} (ha:EV Er ta σ W (sh isI) ma) (hb:EV Er tb σ W (sh isI) mb):EV Er (cv dR ta tb) σ W (sh isB) (ma.bind fun a=>mb.bind fun b=>.ok (decide (a=b))):=
 mY ha hb fun W a b x y Q hx hy k=>by cases hx;cases hy;exact⟨rfl,by rw[dI];exact k _ W (.refl _) rfl⟩
theorem fg {ma mb:Res Tx} (ha:EV Er ta σ W (sh isS) ma) (hb:EV Er tb σ W (sh isS) mb):EV Er (cv dR ta tb) σ W (sh isB) (ma.bind fun a=>mb.bind fun b=>.ok (decide (a=b))):=
 mY ha hb fun W a b x y Q hx hy k=>by cases hx;cases hy;exact⟨rfl,by rw[dS];exact k _ W (.refl _) rfl⟩
theorem sX {ma mb:Res Int} (ha:EV Er ta σ W (sh isI) ma) (hb:EV Er tb σ W (sh isI) mb):EV Er (cv dU ta tb) σ W (sh isB) (ma.bind fun a=>mb.bind fun b=>.ok (!decide (a=b))):=
 mY ha hb fun W a b x y Q hx hy k=>by cases hx;cases hy;exact⟨rfl,by rw[dI];exact k _ W (.refl _) rfl⟩
theorem gR {ma mb:Res Tx} (ha:EV Er ta σ W (sh isS) ma) (hb:EV Er tb σ W (sh isS) mb):EV Er (cv dU ta tb) σ W (sh isB) (ma.bind fun a=>mb.bind fun b=>.ok (!decide (a=b))):=
 mY ha hb fun W a b x y Q hx hy k=>by cases hx;cases hy;exact⟨rfl,by rw[dS];exact k _ W (.refl _) rfl⟩
theorem sY {R:Rp α} {ma:Res (Option α)} (ha:EV Er ta σ W (sh (isO R)) ma):EV Er (cv (fun x y H Q=>y=.non∧Q (.bl (decide (x=.non))) H) ta (tC .non)) σ W (sh isB) (ma.bind fun a=>.ok a.isNone):=fun W1 e1 Q k=>
 ha W1 e1 _ ((Res.okE_bind k).imp fun a ka x W2 e2 hx=>⟨rfl,by
  have e:decide (x=V.non)=a.isNone:=by
   cases a with
   | none=>cases hx;rfl
   | some b=>rw[decide_eq_false hx.2];rfl
  rw[e];exact ka _ W2 e2 rfl⟩)
theorem aG {m:Res Bool} (h:EV Er t σ W (sh isB) m):TV Er (bb t) σ W m:=fun W1 e1 Q k=>h W1 e1 _ (k.imp fun b kb v W2 e2 hv=>⟨b,hv,kb W2 e2⟩)
theorem n0 {m:Res Bool} (h:EV Er t σ W (sh isB) m):TV Er (tB t) σ W m:=fun W1 e1 Q k=>h W1 e1 _ (k.imp fun b kb v W2 e2 hv=>⟨b,hv,kb W2 e2⟩)
theorem sZ {t:TT} {m:Res Bool} (h:TV Er t σ W m):TV Er (bU t) σ W (m.bind fun b=>.ok (!b)):=fun W1 e1 Q k=>h W1 e1 _ ((Res.okE_bind k).imp fun b kb W2 e2=>kb W2 e2)
theorem fh {t u:TT} {m n:Res Bool} (h:TV Er t σ W m) (g:TV Er u σ W n):TV Er (bT t u) σ W (m.bind fun b=>if b then n else .ok false):=fun W1 e1 Q k=>h W1 e1 _ ((Res.okE_bind k).imp fun b kb W2 e2=>by
 cases b with
 | true=>exact g W2 (e1.trans e2) _ (kb.imp fun c kc W3 e3=>kc W3 (e2.trans e3))
 | false=>exact kb W2 e2)
theorem sf {t u:TT} {m n:Res Bool} (h:TV Er t σ W m) (g:TV Er u σ W n):TV Er (dZ t u) σ W (m.bind fun b=>if b then .ok true else n):=fun W1 e1 Q k=>h W1 e1 _ ((Res.okE_bind k).imp fun b kb W2 e2=>by
 cases b with
 | true=>exact kb W2 e2
 | false=>exact g W2 (e1.trans e2) _ (kb.imp fun c kc W3 e3=>kc W3 (e2.trans e3)))
theorem oD {m n:Res Bool} (h:EV Er ta σ W (sh isB) m) (g:EV Er tb σ W (sh isB) n):EV Er (ba ta tb) σ W (sh isB) (m.bind fun b=>if b then n else .ok false):=fun W1 e1 Q k=>h W1 e1 _ ((Res.okE_bind k).imp fun b kb v W2 e2 hv=>⟨b,hv,by
 cases b with
 | true=>exact g W2 (e1.trans e2) _ (kb.imp fun c kc v W3 e3 hv=>kc v W3 (e2.trans e3) hv)
 | false=>exact kb _ W2 e2 rfl⟩)
theorem uC {m n:Res Bool} (h:EV Er ta σ W (sh isB) m) (g:EV Er tb σ W (sh isB) n):EV Er (bV ta tb) σ W (sh isB) (m.bind fun b=>if b then .ok true else n):=fun W1 e1 Q k=>h W1 e1 _ ((Res.okE_bind k).imp fun b kb v W2 e2 hv=>⟨b,hv,by
 cases b with
 | true=>exact kb _ W2 e2 rfl
 | false=>exact g W2 (e1.trans e2) _ (kb.imp fun c kc v W3 e3 hv=>kc v W3 (e2.trans e3) hv)⟩)
theorem jJ {R:Rw α} {c:TT} {mc:Res Bool} {m n:Res α} (hc:TV Er c σ W mc) (h:EV Er ta σ W R m) (g:EV Er tb σ W R n):EV Er (ed c ta tb) σ W R (mc.bind fun b=>if b then m else n):=fun W1 e1 Q k=>hc W1 e1 _ ((Res.okE_bind k).imp fun b kb W2 e2=>by
 cases b with
 | true=>exact h W2 (e1.trans e2) _ (kb.imp fun c kc v W3 e3 hv=>kc v W3 (e2.trans e3) hv)
 | false=>exact g W2 (e1.trans e2) _ (kb.imp fun c kc v W3 e3 hv=>kc v W3 (e2.trans e3) hv))
theorem cT {ma mb:Res Tx} (ha:EV Er ta σ W (sh isS) ma) (hb:EV Er tb σ W (sh isS) mb):EV Er (cv (fun x y H Q=>∃i j,x=.str i∧y=.str j∧i.length+j.length≤sizeLine∧Q (.str (i++j)) H) ta tb) σ W (sh isS) (ma.bind fun a=>mb.bind fun b=>fM a b):=
 mY ha hb fun W a b x y Q hx hy k=>by
  cases hx;cases hy
  obtain⟨h1,h2⟩:=bg k
  exact⟨_,_,rfl,rfl,by rw[cJ,cJ];exact mZ h1,by rw[kN];exact h2 _ W (.refl _) rfl⟩
theorem qC {ma:Res Tx} {mb:Res Int} (ha:EV Er ta σ W (sh isS) ma) (hb:EV Er tb σ W (sh isI) mb):EV Er (cv (fun x y H Q=>∃c n,x=.str (aj [c])∧y=.int n∧0≤n∧n≤100000∧Q (.str (aj (List.replicate n.toNat c))) H) ta tb) σ W (sh isS) (ma.bind fun a=>mb.bind fun b=>sU a b):=
 mY ha hb fun W a b x y Q hx hy k=>by
  cases hx;cases hy
  match a,k with
  | [c], k =>
   obtain⟨h1,h2⟩:=bg k
   exact⟨c,b,rfl,rfl,h1.1,h1.2,h2 _ W (.refl _) rfl⟩
theorem bL {ma:Res Tx} {mb:Res Int} (ha:EV Er ta σ W (sh isS) ma) (hb:EV Er tb σ W (sh isI) mb):EV Er (cv bX ta tb) σ W (sh isS) (ma.bind fun a=>mb.bind fun b=>dM a b):=
 mY ha hb fun W a b x y Q hx hy k=>by
  cases hx;cases hy
  obtain⟨h1,h2⟩:=bg (Res.okE_bind k)
  obtain⟨c,h3,h4⟩:=dL (Res.okE_bind h2)
  exact⟨_,b,c,rfl,rfl,by rw[cJ];exact mZ h1,by rw[lC];exact h3,h4 _ W (.refl _) rfl⟩
theorem uD {R:Rw α} {r:V→Option Int→Option Int→Hp→VK→Prop} {Ra:Rw β} [MonoW Ra] {ma:Res β} {tl th:TO} {ml mh:Res (Option Int)} {f:β→Option Int→Option Int→Res α} (ha:EV Er ta σ W Ra ma)
  (hl:∀W1,Ext W W1→∀Q:Option Int→Hp→Prop,ml.OkE Er (fun o=>∀W2,Ext W1 W2→Q o W2.H)→tl σ W1.H Q) (hh:∀W1,Ext W W1→∀Q:Option Int→Hp→Prop,mh.OkE Er (fun o=>∀W2,Ext W1 W2→Q o W2.H)→th σ W1.H Q)
  (h:∀W a x lo hi Q,Ra W a x→(f a lo hi).OkE Er (fun c=>∀v W2,Ext W W2→R W2 c v→Q v W2.H)→r x lo hi W.H Q):EV Er (dJ r ta tl th) σ W R (ma.bind fun a=>ml.bind fun lo=>mh.bind fun hi=>f a lo hi):=fun W1 e1 Q k=>
 ha W1 e1 _ ((Res.okE_bind k).imp fun a ka x W2 e2 hx=>hl W2 (e1.trans e2) _ ((Res.okE_bind ka).imp fun lo kl W3 e3=>hh W3 ((e1.trans e2).trans e3) _ ((Res.okE_bind kl).imp fun hi kh W4 e4=>
  h W4 a x lo hi Q (MonoW.mono (e3.trans e4) hx) (kh.imp fun c kc v W5 e5 hv=>kc v W5 (((e2.trans e3).trans e4).trans e5) hv))))
theorem oE:∀W1,Ext W W1→∀Q:Option Int→Hp→Prop,(Res.ok (none:Option Int)).OkE Er (fun o=>∀W2,Ext W1 W2→Q o W2.H)→aB σ W1.H Q:=fun W1 _ Q k=>k W1 (.refl _)
theorem oF {m:Res Int} (h:EV Er t σ W (sh isI) m):∀W1,Ext W W1→∀Q:Option Int→Hp→Prop,(m.bind fun i=>.ok (some i)).OkE Er (fun o=>∀W2,Ext W1 W2→Q o W2.H)→bc t σ W1.H Q:=fun W1 e1 Q k=>
 h W1 e1 _ ((Res.okE_bind k).imp fun i ki v W2 e2 hv=>⟨i,hv,ki W2 e2⟩)
theorem lK {ma:Res Tx} {tl th:TO} {ml mh:Res (Option Int)} (ha:EV Er ta σ W (sh isS) ma)
  (hl:∀W1,Ext W W1→∀Q:Option Int→Hp→Prop,ml.OkE Er (fun o=>∀W2,Ext W1 W2→Q o W2.H)→tl σ W1.H Q) (hh:∀W1,Ext W W1→∀Q:Option Int→Hp→Prop,mh.OkE Er (fun o=>∀W2,Ext W1 W2→Q o W2.H)→th σ W1.H Q):
  EV Er (dJ (fun x lo hi H Q=>∃l,x=.str (aj l)∧l.length≤sizeLine∧Q (.str (aj (gi l lo hi))) H) ta tl th) σ W (sh isS) (ma.bind fun a=>ml.bind fun lo=>mh.bind fun hi=>mW a lo hi):=
 uD ha hl hh fun W a x lo hi Q hx k=>by
  cases hx
  obtain⟨h1,h2⟩:=bg k
  exact⟨a,rfl,mZ h1,h2 _ W (.refl _) rfl⟩
theorem uE (x:Tx) (c j:Nat) (h:oz x c=some j):Txt.find (aj x) (aj [c])=(j:Int):=by
 unfold oz at h
 rw[List.findIdx?_eq_some_iff_getElem]at h
 obtain⟨hj,h1,h2⟩:=h
 have hat:∀i,StrLaws.At (aj x) (aj [c]) (aj x).length i↔x[i]? =some c:=fun i=>by
  have:=StrLaws.subAt_one (aj x) c i
  rw[lC]at this
  exact this
 unfold Txt.find
 rcases StrLaws.occ_head (aj x) (aj [c]) 1 (Nat.le_refl _)with⟨_,hn⟩ | ⟨i,r,e,hi,hk⟩
 ·exact absurd ((hat j).mpr (by rw[List.getElem?_eq_getElem hj];simpa using h1)) (hn j)
 ·rw[e]
  have e2:=(hat i).mp hi
  obtain⟨hil,e3⟩:=List.getElem?_eq_some_iff.mp e2
  have:i=j:=by
   rcases Nat.lt_trichotomy i j with z | z | z
   ·exact absurd e3 (by simpa using h2 i z)
   ·exact z
   ·exact absurd ((hat j).mpr (by rw[List.getElem?_eq_getElem hj];simpa using h1)) (hk j z)
  rw[this]
theorem fq {ma mb:Res Tx} {K:PySem.W.Frag} (ha:EV Er ta σ W (sh isS) ma) (hb:EV Er tb σ W (sh isS) mb):EV Er (dh K "str" (fun x xs H Q=>∃a b,x=.str a∧xs=[.str b]∧0≤Txt.find a b∧Q (.int (Txt.find a b)) H) ta (ai tb aR)) σ W (sh isI) (ma.bind fun a=>mb.bind fun b=>fN a b):=fun W1 e1 Q k=>
 ha W1 e1 _ ((Res.okE_bind k).imp fun a ka x W2 e2 hx=>by
  cases hx
  refine⟨rfl,hb W2 (e1.trans e2) _ ((Res.okE_bind ka).imp fun b kb y W3 e3 hy=>?_)⟩
  cases hy
  match b,kb with
  | [c], kb =>
   obtain⟨j,h1,h2⟩:=dL (Res.okE_bind kb)
   have e:=uE a c j h1
   exact⟨_,_,rfl,rfl,by rw[e];omega,by rw[e];exact h2 _ W3 (e2.trans e3) rfl⟩)
theorem Same.tup {H H':Hp} {a:Addr} {xs:List V} (e:Same H H') (h:SqT K H a xs):SqT K H' a xs:=by
 rcases h with(h | ⟨o,h⟩) | h
 ·exact .inl (.inl (e _ _ h))
 ·exact .inl (.inr ⟨o,e _ _ h⟩)
 ·exact .inr h
def isT2 (K:PySem.W.Frag) (R1:Rp α) (R2:Rp β):Rp (α×β):=fun H a v=>∃p x y,v=.ref p∧SqT K H p [x,y]∧R1 H a.1 x∧R2 H a.2 y
def isT3 (K:PySem.W.Frag) (R1:Rp α) (R2:Rp β) (R3:Rp γ):Rp (α×β×γ):=fun H a v=>∃p x y z,v=.ref p∧SqT K H p [x,y,z]∧R1 H a.1 x∧R2 H a.2.1 y∧R3 H a.2.2 z
instance zkeep14 {R1:Rp α} {R2:Rp β} [Mono R1] [Mono R2]:Mono (isT2 K R1 R2):=⟨fun e ⟨p,x,y,h0,h,h1,h2⟩=>⟨p,x,y,h0,Same.tup e h,Mono.mono e h1,Mono.mono e h2⟩⟩
instance zkeep15 {R1:Rp α} {R2:Rp β} {R3:Rp γ} [Mono R1] [Mono R2] [Mono R3]:Mono (isT3 K R1 R2 R3):=⟨fun e ⟨p,x,y,z,h0,h,h1,h2,h3⟩=>⟨p,x,y,z,h0,Same.tup e h,Mono.mono e h1,Mono.mono e h2,Mono.mono e h3⟩⟩
theorem gl {R1:Rp α} {R2:Rp β} [Mono R1] [Mono R2] {ma:Res α} {mb:Res β} (ha:EV Er ta σ W (sh R1) ma) (hb:EV Er tb σ W (sh R2) mb):EV Er (bO (ai ta (ai tb aR))) σ W (sh (isT2 K R1 R2)) (ma.bind fun a=>mb.bind fun b=>.ok (a,b)):=fun W1 e1 Q k=>
 ha W1 e1 _ ((Res.okE_bind k).imp fun a ka x W2 e2 hx=>hb W2 (e1.trans e2) _ ((Res.okE_bind ka).imp fun b kb y W3 e3 hy=>⟨(by show 2≤sizeLine;decide),fun p hp=>
  kb (.ref p) (W3.new p (.tup [x,y])) ((e2.trans e3).trans (.new _ hp)) ⟨p,x,y,rfl,SqT.of aJ,Mono.mono (Ext.new _ hp).g (Mono.mono (R:=R1) e3.g hx),Mono.mono (R:=R2) (Ext.new _ hp).g hy⟩⟩))
theorem cU {R1:Rp α} {R2:Rp β} {R3:Rp γ} [Mono R1] [Mono R2] [Mono R3] {ma:Res α} {mb:Res β} {mc:Res γ} (ha:EV Er ta σ W (sh R1) ma) (hb:EV Er tb σ W (sh R2) mb) (hc:EV Er tc σ W (sh R3) mc):
  EV Er (bO (ai ta (ai tb (ai tc aR)))) σ W (sh (isT3 K R1 R2 R3)) (ma.bind fun a=>mb.bind fun b=>mc.bind fun c=>.ok (a,b,c)):=fun W1 e1 Q k=>
 ha W1 e1 _ ((Res.okE_bind k).imp fun a ka x W2 e2 hx=>hb W2 (e1.trans e2) _ ((Res.okE_bind ka).imp fun b kb y W3 e3 hy=>hc W3 ((e1.trans e2).trans e3) _ ((Res.okE_bind kb).imp fun c kc z W4 e4 hz=>⟨(by show 3≤sizeLine;decide),fun p hp=>
  kc (.ref p) (W4.new p (.tup [x,y,z])) (((e2.trans e3).trans e4).trans (.new _ hp)) ⟨p,x,y,z,rfl,SqT.of aJ,Mono.mono (Ext.new _ hp).g (Mono.mono (R:=R1) (e3.trans e4).g hx),Mono.mono (R:=R2) (Ext.new _ hp).g (Mono.mono (R:=R2) e4.g hy),Mono.mono (R:=R3) (Ext.new _ hp).g hz⟩⟩)))
theorem bh {R:Rp α} {Rt:Rp β} {m:Res β} {i:Int} {f:β→α} (h:∀H b v,Rt H b v→∃p xs x,v=.ref p∧SqT K H p xs∧L2.atI xs i=some x∧R H (f b) x) (ha:EV Er ta σ W (sh Rt) m):EV Er (cv (bP K) ta (tC (.int i))) σ W (sh R) (m.bind fun b=>.ok (f b)):=fun W1 e1 Q k=>
 ha W1 e1 _ ((Res.okE_bind k).imp fun b kb v W2 e2 hv=>by
  obtain⟨p,xs,x,h1,h2,h3,h4⟩:=h _ _ _ hv
  exact⟨p,xs,i,x,h1,rfl,Same.tup W2.ok h2,h3,kb _ W2 e2 h4⟩)
theorem uF {R1:Rp α} {R2:Rp β} :∀H b v,isT2 K R1 R2 H b v→∃p xs x,v=.ref p∧SqT K H p xs∧L2.atI xs 0=some x∧R1 H b.1 x:=fun _ _ _ ⟨p,x,y,h0,h,h1,h2⟩=>⟨p,_,x,h0,h,rfl,h1⟩
theorem kT {R1:Rp α} {R2:Rp β} {R3:Rp γ} :∀H b v,isT3 K R1 R2 R3 H b v→∃p xs x,v=.ref p∧SqT K H p xs∧L2.atI xs 0=some x∧R1 H b.1 x:=fun _ _ _ ⟨p,x,y,z,h0,h,h1,h2,h3⟩=>⟨p,_,x,h0,h,rfl,h1⟩
theorem jK {R1:Rp α} {R2:Rp β} {R3:Rp γ} :∀H b v,isT3 K R1 R2 R3 H b v→∃p xs x,v=.ref p∧SqT K H p xs∧L2.atI xs 1=some x∧R2 H b.2.1 x:=fun _ _ _ ⟨p,x,y,z,h0,h,h1,h2,h3⟩=>⟨p,_,y,h0,h,rfl,h2⟩
theorem j7 {R1:Rp α} {R2:Rp β} {R3:Rp γ} :∀H b v,isT3 K R1 R2 R3 H b v→∃p xs x,v=.ref p∧SqT K H p xs∧L2.atI xs 2=some x∧R3 H b.2.2 x:=fun _ _ _ ⟨p,x,y,z,h0,h,h1,h2,h3⟩=>⟨p,_,z,h0,h,rfl,h3⟩
theorem lL {R:Rp α} {H:Hp} {as:List α} {xs:List V} (h:LR R H as xs) {i:Int} {a:α} (e:qd as i=some a):∃x,L2.atI xs i=some x∧R H a x:=by
 unfold qd at e
 unfold L2.atI
 rw[h.1]
 cases z:Mi.ixN as.length i with
 | none=>rw[z]at e;cases e
 | some j =>
  rw[z]at e
  obtain⟨x,h1,h2⟩:=h.get (i:=j) e
  exact⟨x,by show(L2.ixN as.length i).bind _=_;rw[show L2.ixN as.length i=Mi.ixN as.length i from rfl,z];exact h1,h2⟩
theorem LR.three {R:Rp α} {H:Hp} {a b c:α} {x y z:V} (h1:R H a x) (h2:R H b y) (h3:R H c z):LR R H [a,b,c] [x,y,z]:=⟨rfl,fun i v m e1 e2=>by
 match i,e1,e2 with
 | 0,e1,e2=>cases e1;cases e2;exact h1
 | 1,e1,e2=>cases e1;cases e2;exact h2
 | 2,e1,e2=>cases e1;cases e2;exact h3⟩
theorem eE {R:Rp α} [Mono R] {ma:Res (List α)} {mb:Res Int} (ha:EV Er ta σ W (pk R) ma) (hb:EV Er tb σ W (sh isI) mb):EV Er (cv (bJ K) ta tb) σ W (sh R) (ma.bind fun a=>mb.bind fun b=>ic a b):=
 mY ha hb fun W a b x y Q hx hy k=>by
  cases hy
  obtain⟨p,vs,rfl,h,h1⟩:=hx
  obtain⟨c,h4,h5⟩:=dL k
  obtain⟨z,h6,h7⟩:=lL h1 h4
  exact⟨p,_,b,z,rfl,rfl,SqL.of h,h6,h5 _ W (.refl _) h7⟩
theorem eU {R:Rp α} :EVo Er (bI aR) σ W R (.ok []):=fun W1 e1 Q k=>⟨by decide,fun p hp=>k p (W1.mut p (.lst []) (W1.gnone hp)) (.own _ hp) hp ⟨W1.gnone hp,[],aJ,.nil⟩⟩
def AV (Er:Nat→Prop) (t:TA) (σ:St) (W:Wd) (R:Rp α) (n:Nat) (m:Res (List α)):Prop:=∀W1,Ext W W1→∀Q:List V→Hp→Prop,m.OkE Er (fun as=>∀vs W2,Ext W1 W2→vs.length=n→LR R W2.G as vs→Q vs W2.H)→t σ W1.H Q
theorem eF {R:Rp α} :AV Er aR σ W R 0 (.ok []):=fun W1 _ Q k=>k [] W1 (.refl _) rfl .nil
theorem LR.cons {R:Rp α} {H:Hp} {a:α} {v:V} {as:List α} {vs:List V} (h:R H a v) (r:LR R H as vs):LR R H (a::as) (v::vs):=⟨by simp[r.1],fun i x m e1 e2=>by
 cases i with
 | zero=>cases e1;cases e2;exact h
 | succ j=>exact r.2 j x m e1 e2⟩
theorem bn {R:Rp α} [Mono R] {n:Nat} {ts:TA} {m:Res α} {ms:Res (List α)} (h:EV Er t σ W (sh R) m) (g:AV Er ts σ W R n ms):AV Er (ai t ts) σ W R (n+1) (m.bind fun a=>ms.bind fun as=>.ok (a::as)):=fun W1 e1 Q k=>
 h W1 e1 _ ((Res.okE_bind k).imp fun a ka v W2 e2 hv=>g W2 (e1.trans e2) _ ((Res.okE_bind ka).imp fun as kas vs W3 e3 hn hvs=>kas (v::vs) W3 (e2.trans e3) (by simp[hn]) (.cons (Mono.mono (R:=R) e3.g hv) hvs)))
theorem eH {R:Rp α} [Mono R] {n:Nat} {ts:TA} {ms:Res (List α)} (g:AV Er ts σ W R n ms) (hn:n≤cap:=by decide):EVo Er (bI ts) σ W R ms:=fun W1 e1 Q k=>
 g W1 e1 _ (k.imp fun as ka vs W2 e2 hv hvs=>⟨by rw[hv];exact mZ hn,fun p hp=>ka p (W2.mut p (.lst vs) (W2.gnone hp)) (e2.trans (.own _ hp)) (bj e2.h hp) ⟨W2.gnone hp,vs,aJ,hvs⟩⟩)
theorem qD {R:Rp α} [Mono R] {ma mb:Res (List α)} (ha:EV Er ta σ W (pk R) ma) (hb:EV Er tb σ W (pk R) mb):EVo Er (cv bY ta tb) σ W R (ma.bind fun a=>mb.bind fun b=>sT a b):=fun W1 e1 Q k=>
 ha W1 e1 _ ((Res.okE_bind k).imp fun a ka x W2 e2 hx=>hb W2 (e1.trans e2) _ ((Res.okE_bind ka).imp fun b kb y W3 e3 hy=>by
  obtain⟨p,vs,rfl,h1,h2⟩:=MonoW.mono e3 hx
  obtain⟨q,us,rfl,h3,h4⟩:=hy
  obtain⟨h5,h6⟩:=bg kb
  refine⟨p,q,vs,us,rfl,rfl,h1,h3,by rw[h2.1,h4.1];exact mZ h5,fun r hr=>h6 r (W3.mut r (.lst (vs++us)) (W3.gnone hr)) ((e2.trans e3).trans (.own _ hr)) (bj (e2.trans e3).h hr) ⟨W3.gnone hr,_,aJ,?_⟩⟩
  exact⟨by rw[List.length_append,List.length_append,h2.1,h4.1],fun i v m q1 q2=>by
   by_cases hi:i< vs.length
   ·rw[List.getElem?_append_left hi]at q1
    rw[List.getElem?_append_left (by rw[←h2.1];exact hi)]at q2
    exact h2.2 i v m q1 q2
   ·rw[List.getElem?_append_right (by omega)]at q1
    rw[List.getElem?_append_right (by rw[←h2.1];omega)]at q2
    rw[←h2.1]at q2
    exact h4.2 _ v m q1 q2⟩))
theorem LR.cut {R:Rp α} {H:Hp} {as:List α} {vs:List V} (h:LR R H as vs) (lo hi:Option Int):LR R H (Mi.cut as lo hi) (kL vs lo hi):=by
 unfold Mi.cut kL
 rw[h.1]
 exact(h.drop _).take _
theorem qE {R:Rp α} [Mono R] {ma:Res (List α)} {tl th:TO} {ml mh:Res (Option Int)} (ha:EV Er ta σ W (pk R) ma)
  (hl:∀W1,Ext W W1→∀Q:Option Int→Hp→Prop,ml.OkE Er (fun o=>∀W2,Ext W1 W2→Q o W2.H)→tl σ W1.H Q) (hh:∀W1,Ext W W1→∀Q:Option Int→Hp→Prop,mh.OkE Er (fun o=>∀W2,Ext W1 W2→Q o W2.H)→th σ W1.H Q):
  EVo Er (dJ (bQ K) ta tl th) σ W R (ma.bind fun a=>ml.bind fun lo=>mh.bind fun hi=>.ok (Mi.cut a lo hi)):=fun W1 e1 Q k=>
 ha W1 e1 _ ((Res.okE_bind k).imp fun a ka x W2 e2 hx=>hl W2 (e1.trans e2) _ ((Res.okE_bind ka).imp fun lo kl W3 e3=>hh W3 ((e1.trans e2).trans e3) _ ((Res.okE_bind kl).imp fun hi kh W4 e4=>by
  obtain⟨p,vs,rfl,h1,h2⟩:=MonoW.mono (e3.trans e4) hx
  have e5:=(e2.trans e3).trans e4
  exact⟨p,vs,rfl,SqL.of h1,fun r hr=>kh r (W4.mut r (.lst (kL vs lo hi)) (W4.gnone hr)) (e5.trans (.own _ hr)) (bj e5.h hr) ⟨W4.gnone hr,_,aJ,h2.cut lo hi⟩⟩)))
theorem j8 {ma:Res Int} (ha:EV Er ta σ W (sh isI) ma):EV Er (cX (fun xs H Q=>∃i,xs=[.int i]∧Q (.int (if i< 0 then -i else i)) H) (ai ta aR)) σ W (sh isI) (ma.bind fun a=>.ok (bi a)):=fun W1 e1 Q k=>
 ha W1 e1 _ ((Res.okE_bind k).imp fun a ka x W2 e2 hx=>by cases hx;exact⟨a,rfl,ka _ W2 e2 rfl⟩)
theorem ft {R:Rp α} {ma:Res (List α)} (ha:EV Er ta σ W (pk R) ma):EV Er (cX (fun xs H Q=>∃x n,xs=[x]∧kI K x H n∧Q (.int n) H) (ai ta aR)) σ W (sh isI) (ma.bind fun a=>.ok (a.length:Int)):=fun W1 e1 Q k=>
 ha W1 e1 _ ((Res.okE_bind k).imp fun a ka x W2 e2 hx=>by
  obtain⟨p,vs,rfl,h1,h2⟩:=hx
  exact⟨_,a.length,rfl,.inl ⟨vs,SqL.of h1,h2.1.symm⟩,ka _ W2 e2 rfl⟩)
theorem qF {ma:Res Tx} (ha:EV Er ta σ W (sh isS) ma):EV Er (cX (fun xs H Q=>∃x n,xs=[x]∧kI K x H n∧Q (.int n) H) (ai ta aR)) σ W (sh isI) (ma.bind fun a=>sV a):=fun W1 e1 Q k=>
 ha W1 e1 _ ((Res.okE_bind k).imp fun a ka x W2 e2 hx=>by
  cases hx
  obtain⟨h1,h2⟩:=bg ka
  exact⟨_,a.length,rfl,⟨by rw[cJ];exact mZ h1,by rw[cJ]⟩,h2 _ W2 e2 rfl⟩)
theorem j9 {ma:Res (List Tx)} {x:Str} (hx:x=aj []) (ha:EV Er ta σ W (pk isS) ma):EV Er (dh K "str" (fun x xs H Q=>∃(p:Addr) (ys:List (List Nat)),x=.str (aj [])∧xs=[.ref p]∧SqL K H p (ys.map fun y=>V.str (aj y))∧ys.flatten.length≤100000∧Q (.str (aj ys.flatten)) H) (tC (.str x)) (ai ta aR)) σ W (sh isS) (ma.bind fun a=>jI a):=fun W1 e1 Q k=>
 ⟨by show vU K "str" (.str x) W1.H;rfl,ha W1 e1 _ ((Res.okE_bind k).imp fun a ka v W2 e2 hv=>by
  obtain⟨p,vs,rfl,h1,h2⟩:=hv
  obtain⟨h3,h4⟩:=bg ka
  exact⟨p,a,by rw[hx],rfl,SqL.of (by rw[h1,h2.str]),h3,h4 _ W2 e2 rfl⟩)⟩
end
end Wb
namespace Wb
open PySem L2 Mi
variable {Er:Nat→Prop}
abbrev Rt (β:Type):=Wd→β→VK→Prop
def rs {β:Type} (R:Rp β):Rt β:=fun W r Q=>∀u W',Ext W W'→R W'.G r u→Q u W'.H
def ro {β:Type} (R:Rp β):Rt (List β):=fun W r Q=>∀p W',Ext W W'→W.H p=none→Ow R W' p r→Q (.ref p) W'.H
section
variable {α β γ δ ε ζ:Type}
def cD (R1:Rp α) (rt:Rt β) (m:α→Res β):Sp:=fun vs H Q _=>∃(W:Wd) (a:α) (v:V),W.H=H∧vs=[v]∧R1 W.G a v∧∃Er:Nat→Prop,(m a).OkE Er fun r=>rt W r Q
def bo (R1:Rp α) (R2:Rp γ) (rt:Rt β) (m:α→γ→Res β):Sp:=fun vs H Q _=>∃(W:Wd) (a:α) (b:γ) (v u:V),W.H=H∧vs=[v,u]∧R1 W.G a v∧R2 W.G b u∧∃Er:Nat→Prop,(m a b).OkE Er fun r=>rt W r Q
def da (R1:Rp α) (R2:Rp γ) (R3:Rp δ) (rt:Rt β) (m:α→γ→δ→Res β):Sp:=fun vs H Q _=>∃(W:Wd) (a:α) (b:γ) (c:δ) (v u w:V),W.H=H∧vs=[v,u,w]∧R1 W.G a v∧R2 W.G b u∧R3 W.G c w∧∃Er:Nat→Prop,(m a b c).OkE Er fun r=>rt W r Q
def jL (R1:Rp α) (R2:Rp γ) (R3:Rp δ) (R4:Rp ε) (rt:Rt β) (m:α→γ→δ→ε→Res β):Sp:=fun vs H Q _=>∃(W:Wd) (a:α) (b:γ) (c:δ) (d:ε) (v u w x:V),W.H=H∧vs=[v,u,w,x]∧R1 W.G a v∧R2 W.G b u∧R3 W.G c w∧R4 W.G d x∧∃Er:Nat→Prop,(m a b c d).OkE Er fun r=>rt W r Q
def gS (R1:Rp α) (R2:Rp γ) (R3:Rp δ) (R4:Rp ε) (R5:Rp ζ) (rt:Rt β) (m:α→γ→δ→ε→ζ→Res β):Sp:=fun vs H Q _=>∃(W:Wd) (a:α) (b:γ) (c:δ) (d:ε) (e:ζ) (v u w x y:V),W.H=H∧vs=[v,u,w,x,y]∧R1 W.G a v∧R2 W.G b u∧R3 W.G c w∧R4 W.G d x∧R5 W.G e y∧∃Er:Nat→Prop,(m a b c d e).OkE Er fun r=>rt W r Q
variable {t t1 t2 t3 t4 t5:TE} {σ:St} {W W0 W':Wd} {K:PySem.W.Frag}
section
variable {R1:Rp α} {R2:Rp γ} {R3:Rp δ} {R4:Rp ε} {R5:Rp ζ} [Mono R1] [Mono R2] [Mono R3] [Mono R4] [Mono R5] {m1:Res α} {m2:Res γ} {m3:Res δ} {m4:Res ε} {m5:Res ζ} {E:XK}
theorem cf {R:Rp β} {m:α→Res β} (h1:EV Er t1 σ W (sh R1) m1):EV Er (aP (cD R1 (rs R) m) [] E (ai t1 aR)) σ W (sh R) (m1.bind fun a=>m a):=fun W1 e1 Q k=>
 h1 W1 e1 _ ((Res.okE_bind k).imp fun a ka v W2 e2 hv=>⟨W2,a,v,rfl,rfl,hv,Er,ka.imp fun r kr u W' e hu=>kr u W' (e2.trans e) hu⟩)
theorem aU {R:Rp β} {m:α→γ→Res β} (h1:EV Er t1 σ W (sh R1) m1) (h2:EV Er t2 σ W (sh R2) m2):EV Er (aP (bo R1 R2 (rs R) m) [] E (ai t1 (ai t2 aR))) σ W (sh R) (m1.bind fun a=>m2.bind fun b=>m a b):=fun W1 e1 Q k=>
 h1 W1 e1 _ ((Res.okE_bind k).imp fun a ka v W2 e2 hv=>h2 W2 (e1.trans e2) _ ((Res.okE_bind ka).imp fun b kb u W3 e3 hu=>⟨W3,a,b,v,u,rfl,rfl,MonoW.mono (R:=sh R1) e3 hv,hu,Er,kb.imp fun r kr u W' e hu=>kr u W' ((e2.trans e3).trans e) hu⟩))
theorem fQ {R:Rp β} {m:α→γ→Res (List β)} (h1:EV Er t1 σ W (sh R1) m1) (h2:EV Er t2 σ W (sh R2) m2):EVo Er (aP (bo R1 R2 (ro R) m) [] E (ai t1 (ai t2 aR))) σ W R (m1.bind fun a=>m2.bind fun b=>m a b):=fun W1 e1 Q k=>
 h1 W1 e1 _ ((Res.okE_bind k).imp fun a ka v W2 e2 hv=>h2 W2 (e1.trans e2) _ ((Res.okE_bind ka).imp fun b kb u W3 e3 hu=>⟨W3,a,b,v,u,rfl,rfl,MonoW.mono (R:=sh R1) e3 hv,hu,Er,kb.imp fun r kr p W' e hp o=>kr p W' ((e2.trans e3).trans e) (bj (e2.trans e3).h hp) o⟩))
theorem dB {R:Rp β} {m:α→γ→δ→Res β} (h1:EV Er t1 σ W (sh R1) m1) (h2:EV Er t2 σ W (sh R2) m2) (h3:EV Er t3 σ W (sh R3) m3):EV Er (aP (da R1 R2 R3 (rs R) m) [] E (ai t1 (ai t2 (ai t3 aR)))) σ W (sh R) (m1.bind fun a=>m2.bind fun b=>m3.bind fun c=>m a b c):=fun W1 e1 Q k=>
 h1 W1 e1 _ ((Res.okE_bind k).imp fun a ka v W2 e2 hv=>h2 W2 (e1.trans e2) _ ((Res.okE_bind ka).imp fun b kb u W3 e3 hu=>h3 W3 ((e1.trans e2).trans e3) _ ((Res.okE_bind kb).imp fun c kc w W4 e4 hw=>
  ⟨W4,a,b,c,v,u,w,rfl,rfl,MonoW.mono (R:=sh R1) (e3.trans e4) hv,MonoW.mono (R:=sh R2) e4 hu,hw,Er,kc.imp fun r kr u W' e hu=>kr u W' (((e2.trans e3).trans e4).trans e) hu⟩)))
theorem eV {R:Rp β} {m:α→γ→δ→Res (List β)} (h1:EV Er t1 σ W (sh R1) m1) (h2:EV Er t2 σ W (sh R2) m2) (h3:EV Er t3 σ W (sh R3) m3):EVo Er (aP (da R1 R2 R3 (ro R) m) [] E (ai t1 (ai t2 (ai t3 aR)))) σ W R (m1.bind fun a=>m2.bind fun b=>m3.bind fun c=>m a b c):=fun W1 e1 Q k=>
 h1 W1 e1 _ ((Res.okE_bind k).imp fun a ka v W2 e2 hv=>h2 W2 (e1.trans e2) _ ((Res.okE_bind ka).imp fun b kb u W3 e3 hu=>h3 W3 ((e1.trans e2).trans e3) _ ((Res.okE_bind kb).imp fun c kc w W4 e4 hw=>
  ⟨W4,a,b,c,v,u,w,rfl,rfl,MonoW.mono (R:=sh R1) (e3.trans e4) hv,MonoW.mono (R:=sh R2) e4 hu,hw,Er,kc.imp fun r kr p W' e hp o=>kr p W' (((e2.trans e3).trans e4).trans e) (bj ((e2.trans e3).trans e4).h hp) o⟩)))
theorem oG {R:Rp β} {m:α→γ→δ→ε→Res β} (h1:EV Er t1 σ W (sh R1) m1) (h2:EV Er t2 σ W (sh R2) m2) (h3:EV Er t3 σ W (sh R3) m3) (h4:EV Er t4 σ W (sh R4) m4):EV Er (aP (jL R1 R2 R3 R4 (rs R) m) [] E (ai t1 (ai t2 (ai t3 (ai t4 aR))))) σ W (sh R) (m1.bind fun a=>m2.bind fun b=>m3.bind fun c=>m4.bind fun d=>m a b c d):=fun W1 e1 Q k=>
 h1 W1 e1 _ ((Res.okE_bind k).imp fun a ka v W2 e2 hv=>h2 W2 (e1.trans e2) _ ((Res.okE_bind ka).imp fun b kb u W3 e3 hu=>h3 W3 ((e1.trans e2).trans e3) _ ((Res.okE_bind kb).imp fun c kc w W4 e4 hw=>h4 W4 (((e1.trans e2).trans e3).trans e4) _ ((Res.okE_bind kc).imp fun d kd x W5 e5 hx=>
  ⟨W5,a,b,c,d,v,u,w,x,rfl,rfl,MonoW.mono (R:=sh R1) ((e3.trans e4).trans e5) hv,MonoW.mono (R:=sh R2) (e4.trans e5) hu,MonoW.mono (R:=sh R3) e5 hw,hx,Er,kd.imp fun r kr u W' e hu=>kr u W' ((((e2.trans e3).trans e4).trans e5).trans e) hu⟩))))
theorem iy {R:Rp β} {m:α→γ→δ→ε→Res (List β)} (h1:EV Er t1 σ W (sh R1) m1) (h2:EV Er t2 σ W (sh R2) m2) (h3:EV Er t3 σ W (sh R3) m3) (h4:EV Er t4 σ W (sh R4) m4):EVo Er (aP (jL R1 R2 R3 R4 (ro R) m) [] E (ai t1 (ai t2 (ai t3 (ai t4 aR))))) σ W R (m1.bind fun a=>m2.bind fun b=>m3.bind fun c=>m4.bind fun d=>m a b c d):=fun W1 e1 Q k=>
 h1 W1 e1 _ ((Res.okE_bind k).imp fun a ka v W2 e2 hv=>h2 W2 (e1.trans e2) _ ((Res.okE_bind ka).imp fun b kb u W3 e3 hu=>h3 W3 ((e1.trans e2).trans e3) _ ((Res.okE_bind kb).imp fun c kc w W4 e4 hw=>h4 W4 (((e1.trans e2).trans e3).trans e4) _ ((Res.okE_bind kc).imp fun d kd x W5 e5 hx=>
  ⟨W5,a,b,c,d,v,u,w,x,rfl,rfl,MonoW.mono (R:=sh R1) ((e3.trans e4).trans e5) hv,MonoW.mono (R:=sh R2) (e4.trans e5) hu,MonoW.mono (R:=sh R3) e5 hw,hx,Er,kd.imp fun r kr p W' e hp o=>kr p W' ((((e2.trans e3).trans e4).trans e5).trans e) (bj (((e2.trans e3).trans e4).trans e5).h hp) o⟩))))
theorem oH {R:Rp β} {m:α→γ→δ→ε→ζ→Res β} (h1:EV Er t1 σ W (sh R1) m1) (h2:EV Er t2 σ W (sh R2) m2) (h3:EV Er t3 σ W (sh R3) m3) (h4:EV Er t4 σ W (sh R4) m4) (h5:EV Er t5 σ W (sh R5) m5):EV Er (aP (gS R1 R2 R3 R4 R5 (rs R) m) [] E (ai t1 (ai t2 (ai t3 (ai t4 (ai t5 aR)))))) σ W (sh R) (m1.bind fun a=>m2.bind fun b=>m3.bind fun c=>m4.bind fun d=>m5.bind fun e=>m a b c d e):=fun W1 e1 Q k=>
 h1 W1 e1 _ ((Res.okE_bind k).imp fun a ka v W2 e2 hv=>h2 W2 (e1.trans e2) _ ((Res.okE_bind ka).imp fun b kb u W3 e3 hu=>h3 W3 ((e1.trans e2).trans e3) _ ((Res.okE_bind kb).imp fun c kc w W4 e4 hw=>h4 W4 (((e1.trans e2).trans e3).trans e4) _ ((Res.okE_bind kc).imp fun d kd x W5 e5 hx=>h5 W5 ((((e1.trans e2).trans e3).trans e4).trans e5) _ ((Res.okE_bind kd).imp fun e ke y W6 e6 hy=>
  ⟨W6,a,b,c,d,e,v,u,w,x,y,rfl,rfl,MonoW.mono (R:=sh R1) (((e3.trans e4).trans e5).trans e6) hv,MonoW.mono (R:=sh R2) ((e4.trans e5).trans e6) hu,MonoW.mono (R:=sh R3) (e5.trans e6) hw,MonoW.mono (R:=sh R4) e6 hx,hy,Er,ke.imp fun r kr u W' e hu=>kr u W' (((((e2.trans e3).trans e4).trans e5).trans e6).trans e) hu⟩)))))
theorem iz {R:Rp β} {m:α→γ→δ→ε→ζ→Res (List β)} (h1:EV Er t1 σ W (sh R1) m1) (h2:EV Er t2 σ W (sh R2) m2) (h3:EV Er t3 σ W (sh R3) m3) (h4:EV Er t4 σ W (sh R4) m4) (h5:EV Er t5 σ W (sh R5) m5):EVo Er (aP (gS R1 R2 R3 R4 R5 (ro R) m) [] E (ai t1 (ai t2 (ai t3 (ai t4 (ai t5 aR)))))) σ W R (m1.bind fun a=>m2.bind fun b=>m3.bind fun c=>m4.bind fun d=>m5.bind fun e=>m a b c d e):=fun W1 e1 Q k=>
 h1 W1 e1 _ ((Res.okE_bind k).imp fun a ka v W2 e2 hv=>h2 W2 (e1.trans e2) _ ((Res.okE_bind ka).imp fun b kb u W3 e3 hu=>h3 W3 ((e1.trans e2).trans e3) _ ((Res.okE_bind kb).imp fun c kc w W4 e4 hw=>h4 W4 (((e1.trans e2).trans e3).trans e4) _ ((Res.okE_bind kc).imp fun d kd x W5 e5 hx=>h5 W5 ((((e1.trans e2).trans e3).trans e4).trans e5) _ ((Res.okE_bind kd).imp fun e ke y W6 e6 hy=>
  ⟨W6,a,b,c,d,e,v,u,w,x,y,rfl,rfl,MonoW.mono (R:=sh R1) (((e3.trans e4).trans e5).trans e6) hv,MonoW.mono (R:=sh R2) ((e4.trans e5).trans e6) hu,MonoW.mono (R:=sh R3) (e5.trans e6) hw,MonoW.mono (R:=sh R4) e6 hx,hy,Er,ke.imp fun r kr p W' e hp o=>kr p W' (((((e2.trans e3).trans e4).trans e5).trans e6).trans e) (bj ((((e2.trans e3).trans e4).trans e5).trans e6).h hp) o⟩)))))
end
def Yl (J:It) (W:Wd) (R:Rp α) (xs:List α):Prop:=∀W1:Wd,Same W.G W1.G→(∀(i:Nat) (a:α),xs[i]? =some a→J.go i W1.H∧∀x H',J.yld i W1.H x H'→∃W2:Wd,W2.H=H'∧Ext W1 W2∧R W2.G a x)∧J.stop xs.length W1.H
def IV (Er:Nat→Prop) (wi:TI) (σ:St) (W:Wd) (R:Rp α) (m:Res (List α)):Prop:=∀W1,Ext W W1→∀P:It→Hp→Prop,m.OkE Er (fun xs=>∀J W2,Ext W1 W2→Yl J W2 R xs→P J W2.H)→wi σ W1.H P
theorem cV {R:Rp α} [Mono R] {m:Res (List α)} (h:EV Er t σ W (sh (isL R)) m):IV Er (nP K t) σ W R m:=fun W1 e1 P k=>
 h W1 e1 _ (k.imp fun xs kx v W2 e2 hv => by
  obtain⟨p,vs,rfl,h1,h2⟩:=hv
  refine⟨p,rfl,⟨vs,SqL.of (W2.ok _ _ h1)⟩,kx _ W2 e2 fun W3 e3=>⟨fun i a ha=>?_,vs,SqL.of (W3.ok _ _ (e3 _ _ h1)),by rw[h2.1];exact Nat.le_refl _⟩⟩
  obtain⟨x,hx,hr⟩:=h2.get ha
  refine⟨⟨vs,x,SqL.of (W3.ok _ _ (e3 _ _ h1)),hx⟩,fun y H' ⟨z1,z2⟩=>⟨W3,z1.symm,.refl _,?_⟩⟩
  have:=z2 vs (SqL.of (W3.ok _ _ (e3 _ _ h1)))
  rw[hx]at this
  cases this
  exact Mono.mono e3 hr)
theorem fR {m:Res Tx} (h:EV Er t σ W (sh isS) m):IV Er (ut t) σ W isS (m.bind fun x=>.ok (bd x)):=fun W1 e1 P k=>
 h W1 e1 _ ((Res.okE_bind k).imp fun x kx v W2 e2 hv => by
  cases hv
  refine⟨x,rfl,kx _ W2 e2 fun W3 e3=>⟨fun i a ha=>?_,by show x.length≤(bd x).length;simp[bd]⟩⟩
  unfold bd at ha
  rw[List.getElem?_map]at ha
  cases hc:x[i]? with
  | none=>rw[hc]at ha;cases ha
  | some c =>
   rw[hc]at ha;cases ha
   refine⟨(List.getElem?_eq_some_iff.mp hc).1,fun y H' ⟨z1,c',z2,z3⟩=>⟨W3,z1.symm,.refl _,?_⟩⟩
   rw[hc]at z2;cases z2
   exact z3)
theorem fu {m:Res Int} (h:EV Er t σ W (sh isI) m):IV Er (rX (ai t aR)) σ W isI (m.bind fun n=>dN n):=fun W1 e1 P k=>
 h W1 e1 _ ((Res.okE_bind k).imp fun n kn v W2 e2 hv => by
  cases hv
  obtain⟨hb,kn⟩:=bg kn
  refine⟨n,rfl,hb.1,hb.2,kn _ W2 e2 fun W3 e3=>⟨fun i a ha=>?_,by show n.toNat≤(gO n).length;simp[gO]⟩⟩
  unfold gO at ha
  rw[List.getElem?_map]at ha
  have hi:i< n.toNat:=by
   refine Classical.byContradiction fun z=>?_
   rw[List.getElem?_eq_none_iff.mpr (by simp;omega)]at ha;cases ha
  rw[List.getElem?_range hi]at ha
  cases ha
  exact⟨hi,fun y H' ⟨z1,z2⟩=>⟨W3,z1.symm,.refl _,by rw[z2];show V.int (0+(i:Int))=.int (i:Int);rw[Int.zero_add]⟩⟩)
def SrcR (K:PySem.W.Frag) (W:Wd) (R:Rp α) (xs:List α) (v:V):Prop:=∃(c:Src) (vs:List V),v=c.val∧(∀W1:Wd,Same W.G W1.G→c.has K W1.H vs)∧LR R W.G xs vs
theorem SrcR.mono {R:Rp α} [Mono R] {xs:List α} {v:V} (h:SrcR K W R xs v) (e:Same W.G W'.G):SrcR K W' R xs v:=by
 obtain⟨c,vs,h1,h2,h3⟩:=h
 exact⟨c,vs,h1,fun W1 e1=>h2 W1 (e.trans e1),h3.same e⟩
def SV (Er:Nat→Prop) (t:TE) (σ:St) (W:Wd) (K:PySem.W.Frag) (R:Rp α) (m:Res (List α)):Prop:=EV Er t σ W (fun W xs v=>SrcR K W R xs v) m
theorem fS {R:Rp α} [Mono R] {m:Res (List α)} (h:EV Er t σ W (sh (isL R)) m):SV Er t σ W K R m:=h.imp fun W xs v ⟨p,vs,h0,h1,h2⟩=>⟨.lst p,vs,h0,fun W1 e1=>SqL.of (W1.ok _ _ (e1 _ _ h1)),h2⟩
theorem oI {H:Hp} (x:Tx):LR isS H (bd x) (x.map fun c=>V.str (aj [c])):=⟨by simp[bd],fun i v m e1 e2=>by
 unfold bd at e2
 rw[List.getElem?_map]at e1 e2
 cases hc:x[i]? with
 | none=>rw[hc]at e1;cases e1
 | some c=>rw[hc]at e1 e2;cases e1;cases e2;rfl⟩
theorem t0 {m:Res Tx} (h:EV Er t σ W (sh isS) m):SV Er t σ W K isS (m.bind fun x=>.ok (bd x)):=fun W1 e1 Q k=>
 h W1 e1 _ ((Res.okE_bind k).imp fun x kx v W2 e2 hv=>by cases hv;exact kx _ W2 e2 ⟨.str x,_,rfl,fun _ _=>rfl,oI x⟩)
theorem gm {R:Rp α} {m:Res (α×α×α)} (h:EV Er t σ W (sh (isT3 K R R R)) m):SV Er t σ W K R (m.bind fun x=>.ok [x.1,x.2.1,x.2.2]):=fun W1 e1 Q k=>
 h W1 e1 _ ((Res.okE_bind k).imp fun x kx v W2 e2 hv => by
  obtain⟨p,a,b,c,h0,h,h1,h2,h3⟩:=hv
  exact kx _ W2 e2 ⟨.tup p,_,h0,fun W3 e3=>Same.tup (e3.trans W3.ok) h,LR.three h1 h2 h3⟩)
theorem ja {R1:Rp α} {R2:Rp β} [Mono R1] [Mono R2] {m1:Res (List α)} {m2:Res (List β)} (h1:SV Er t1 σ W K R1 m1) (h2:SV Er t2 σ W K R2 m2):IV Er (sP K (ai t1 (ai t2 aR))) σ W (isT2 K R1 R2) (m1.bind fun xs=>m2.bind fun ys=>.ok (xs.zip ys)):=fun W1 e1 P k=>
 h1 W1 e1 _ ((Res.okE_bind k).imp fun xs kx v W2 e2 hv=>h2 W2 (e1.trans e2) _ ((Res.okE_bind kx).imp fun ys ky u W3 e3 hu=>by
  obtain⟨c1,vs,rfl,a1,b1⟩:=SrcR.mono hv e3.g
  obtain⟨c2,us,rfl,a2,b2⟩:=hu
  refine⟨c1,c2,vs,us,rfl,a1 W3 (.refl _),a2 W3 (.refl _),ky _ W3 (e2.trans e3) fun W4 e4=>⟨fun i ab hab=>?_,?_⟩⟩
  ·rw[List.getElem?_zip_eq_some]at hab
   obtain⟨x,hx,rx⟩:=b1.get hab.1
   obtain⟨y,hy,ry⟩:=b2.get hab.2
   refine⟨⟨vs,us,x,y,a1 W4 e4,a2 W4 e4,hx,hy⟩,fun z H' ⟨p,x',y',hp,z0,z1,z2,z3⟩=>⟨W4.new p (.tup [x',y']),by rw[z3];rfl,.new _ hp,p,x',y',z0,SqT.of aJ,?_,?_⟩⟩
   ·have:=z1 vs (a1 W4 e4);rw[hx]at this;cases this
    exact Mono.mono (e4.trans (Ext.new _ hp).g) rx
   ·have:=z2 us (a2 W4 e4);rw[hy]at this;cases this
    exact Mono.mono (e4.trans (Ext.new _ hp).g) ry
  ·refine⟨vs,us,a1 W4 e4,a2 W4 e4,?_⟩
   rw[List.length_zip,b1.1,b2.1]
   omega))
theorem n4 {f:α→Res β} {xs:List α} {i:Nat} {a:α} (h:xs[i]? =some a):gN f (xs.drop i)=(f a).bind fun b=>(gN f (xs.drop (i+1))).bind fun bs=>.ok (b::bs):=by
 obtain⟨hi,e⟩:=List.getElem?_eq_some_iff.mp h
 rw[List.drop_eq_getElem_cons hi,e]
 rfl
theorem kU {f:α→Res (Option β)} {xs:List α} {i:Nat} {a:α} (h:xs[i]? =some a):fo f (xs.drop i)=(f a).bind fun b=>(fo f (xs.drop (i+1))).bind fun bs=>.ok (match b with | some b=>b::bs | none=>bs):=by
 obtain⟨hi,e⟩:=List.getElem?_eq_some_iff.mp h
 rw[List.drop_eq_getElem_cons hi,e]
 rfl
theorem eW {cap:List (Option Nat)} {wi:TI} {g:TG} {te:TE} {R:Rp α} {R':Rp β} [Mono R'] {m:Res (List α)} {f:α→Res β} (hi:IV Er wi σ W R m)
  (hb:∀(W1:Wd) (a:α) (v:V),Ext W W1→R W1.G a v→∀Q:VK,(f a).OkE Er (fun b=>∀u W2,Ext W1 W2→R' W2.G b u→Q u W2.H)→g v (bt cap σ) W1.H fun σ2 H2=>Keep (bt cap σ) σ2∧te σ2 H2 Q):
  EVo Er (lE cap wi g sO te) σ W R' (m.bind fun xs=>dX xs f):=fun W1 e1 Q k=>by
 refine hi W1 e1 _ ((Res.okE_bind k).imp fun xs kx J W2 e2 hy=>?_)
 obtain⟨hl,kx⟩:=bg (Res.okE_bind kx)
 refine⟨fun i n ys H=>n=xs.length- i∧i≤xs.length∧ys.length≤i∧∃(W3:Wd) (bs:List β),W3.H=H∧Ext W2 W3∧LR R' W3.G bs ys∧(gN f (xs.drop i)).OkE Er (fun r=>∀p W4,Ext W1 W4→W1.H p=none→Ow R' W4 p (bs++r)→Q (.ref p) W4.H),⟨xs.length,by simp,by simp,by simp,W2,[],rfl,.refl _,.nil,?_⟩,?_⟩
 ·simpa using kx
 ·rintro i n ys H ⟨rfl,hi1,hyl,W3,bs,rfl,e3,lr,q⟩
  refine⟨by rw[sizeLine_eq];unfold Mi.cap at hl;omega,?_⟩
  by_cases hlt:i< xs.length
  ·obtain⟨a,ha⟩:∃a,xs[i]? =some a:=⟨xs[i],by simp[hlt]⟩
   obtain⟨h1,h2⟩:=(hy W3 e3.g).1 i a ha
   refine .inr ⟨h1,fun ys' H'=>ys'.length≤i+1∧∃(W3:Wd) (bs:List β),W3.H=H'∧Ext W2 W3∧LR R' W3.G bs ys'∧(gN f (xs.drop (i+1))).OkE Er (fun r=>∀p W4,Ext W1 W4→W1.H p=none→Ow R' W4 p (bs++r)→Q (.ref p) W4.H),fun ys' H' ⟨z1,z2⟩=>⟨xs.length- (i+1),by omega,rfl,hlt,z1,z2⟩,fun x H' hx=>?_⟩
   obtain⟨W4,rfl,e4,rx⟩:=h2 x H' hx
   rw[n4 ha]at q
   have:=hb W4 a x (e1.trans ((e2.trans e3).trans e4)) rx (fun y H4=>(ys++ [y]).length≤i+1∧∃(W3:Wd) (bs:List β),W3.H=H4∧Ext W2 W3∧LR R' W3.G bs (ys++ [y])∧(gN f (xs.drop (i+1))).OkE Er (fun r=>∀p W4,Ext W1 W4→W1.H p=none→Ow R' W4 p (bs++r)→Q (.ref p) W4.H))
    ((Res.okE_bind q).imp fun b kb u W5 e5 hu=>⟨by simp;exact hyl,W5,bs++ [b],rfl,(e3.trans e4).trans e5,(lr.same (e4.trans e5).g).snoc hu,(Res.okE_bind kb).imp fun r kr=>by rw[List.append_assoc];exact kr⟩)
   exact this
  ·have e:i=xs.length:=by omega
   subst e
   rw[List.drop_length]at q
   refine .inl ⟨(hy W3 e3.g).2,fun D hD=>?_⟩
   have e13:=e2.trans e3
   have:=q D (W3.mut D (.lst ys) (W3.gnone hD)) (e13.trans (.own _ hD)) (bj e13.h hD) ⟨W3.gnone hD,ys,aJ,by rw[List.append_nil];exact lr⟩
   exact this
theorem oJ {cap:List (Option Nat)} {wi:TI} {g:TG} {tf:TT} {te:TE} {R:Rp α} {R':Rp β} [Mono R'] {m:Res (List α)} {f:α→Res (Option β)} (hi:IV Er wi σ W R m)
    (hb:∀(W1:Wd) (a:α) (v:V),Ext W W1→R W1.G a v→∀Q:Option V→Hp→Prop,(f a).OkE Er (fun b=>∀u W2,Ext W1 W2→(match b,u with | some b,some u=>R' W2.G b u | none,none=>True | _,_=>False)→Q u W2.H)→g v (bt cap σ) W1.H fun σ2 H2=>Keep (bt cap σ) σ2∧tf σ2 H2 fun b H3=>if b=true then te σ2 H3 (fun y H4=>Q (some y) H4)else Q none H3):
    EVo Er (lE cap wi g tf te) σ W R' (m.bind fun xs=>lG xs f):=fun W1 e1 Q k=>by
  refine hi W1 e1 _ ((Res.okE_bind k).imp fun xs kx J W2 e2 hy=>?_)
  obtain⟨hl,kx⟩:=bg (Res.okE_bind kx)
  refine⟨fun i n ys H=>n=xs.length- i∧i≤xs.length∧ys.length≤i∧∃(W3:Wd) (bs:List β),W3.H=H∧Ext W2 W3∧LR R' W3.G bs ys∧(fo f (xs.drop i)).OkE Er (fun r=>∀p W4,Ext W1 W4→W1.H p=none→Ow R' W4 p (bs++r)→Q (.ref p) W4.H),⟨xs.length,by simp,by simp,by simp,W2,[],rfl,.refl _,.nil,?_⟩,?_⟩
  · simpa using kx
  · rintro i n ys H ⟨rfl,hi1,hyl,W3,bs,rfl,e3,lr,q⟩
    refine⟨by rw[sizeLine_eq];unfold Mi.cap at hl;omega,?_⟩
    by_cases hlt:i< xs.length
    · obtain⟨a,ha⟩:∃a,xs[i]? =some a:=⟨xs[i],by simp[hlt]⟩
      obtain⟨h1,h2⟩:=(hy W3 e3.g).1 i a ha
      refine .inr ⟨h1,fun ys' H'=>ys'.length≤i+1∧∃(W3:Wd) (bs:List β),W3.H=H'∧Ext W2 W3∧LR R' W3.G bs ys'∧(fo f (xs.drop (i+1))).OkE Er (fun r=>∀p W4,Ext W1 W4→W1.H p=none→Ow R' W4 p (bs++r)→Q (.ref p) W4.H),fun ys' H' ⟨z1,z2⟩=>⟨xs.length- (i+1),by omega,rfl,hlt,z1,z2⟩,fun x H' hx=>?_⟩
      obtain⟨W4,rfl,e4,rx⟩:=h2 x H' hx
      rw[kU ha]at q
      have:=hb W4 a x (e1.trans ((e2.trans e3).trans e4)) rx (fun y H4=>(match y with | some y=>ys++ [y] | none=>ys).length≤i+1∧∃(W3:Wd) (bs:List β),W3.H=H4∧Ext W2 W3∧LR R' W3.G bs (match y with | some y=>ys++ [y] | none=>ys)∧(fo f (xs.drop (i+1))).OkE Er (fun r=>∀p W4,Ext W1 W4→W1.H p=none→Ow R' W4 p (bs++r)→Q (.ref p) W4.H))
        ((Res.okE_bind q).imp fun b kb u W5 e5 hu=>by
          match b,u,hu,kb with
          | some b,some u,hu,kb=>exact⟨by simp;exact hyl,W5,bs++ [b],rfl,(e3.trans e4).trans e5,(lr.same (e4.trans e5).g).snoc hu,(Res.okE_bind kb).imp fun r kr=>by rw[List.append_assoc];exact kr⟩
          | none,none,hu,kb=>exact⟨by show ys.length≤i+1;omega,W5,bs,rfl,(e3.trans e4).trans e5,lr.same (e4.trans e5).g,(Res.okE_bind kb).imp fun r kr=>kr⟩)
      exact this
    · have e:i=xs.length:=by omega
      subst e
      rw[List.drop_length]at q
      refine .inl ⟨(hy W3 e3.g).2,fun D hD=>?_⟩
      have e13:=e2.trans e3
      have:=q D (W3.mut D (.lst ys) (W3.gnone hD)) (e13.trans (.own _ hD)) (bj e13.h hD) ⟨W3.gnone hD,ys,aJ,by rw[List.append_nil];exact lr⟩
      exact this
end
end Wb
namespace Wb
open PySem L2 Mi
variable {Er:Nat→Prop}
section
variable {α β γ δ:Type} {t u:TS} {te ti:TE} {g:TG} {D:Ends} {σ:St} {W W0 W':Wd} {K:PySem.W.Frag} {i j k n:Nat} {P:St→Hp→Prop} {H:Hp} {v:V}
theorem gn {σ':St} (h:P σ' H) (hσ:σ.set i (some v)=σ':=by rfl):aN i v σ H P:=by subst hσ;exact h
theorem jM {σ':V→V→St} {R1:Rp α} {R2:Rp β} {ab:α×β} (h:isT2 K R1 R2 W.G ab v) (q:∀x y,R1 W.G ab.1 x→R2 W.G ab.2 y→P (σ' x y) W.H) (hσ:∀x y,(σ.set i (some x)).set j (some y)=σ' x y:=by intro _ _;rfl):bG K 2 (aW (aN i) (aW (aN j) bN)) v σ W.H P:=by
 obtain⟨p,x,y,h0,h,h1,h2⟩:=h
 exact⟨p,_,h0,Same.tup W.ok h,rfl,x,_,rfl,y,_,rfl,rfl,by have:=q x y h1 h2;rw[←hσ]at this;exact this⟩
theorem oK {σ':V→V→V→St} {R1:Rp α} {R2:Rp β} {R3:Rp γ} {ab:α×β×γ} (h:isT3 K R1 R2 R3 W.G ab v) (q:∀x y z,R1 W.G ab.1 x→R2 W.G ab.2.1 y→R3 W.G ab.2.2 z→P (σ' x y z) W.H) (hσ:∀x y z,((σ.set i (some x)).set j (some y)).set k (some z)=σ' x y z:=by intro _ _ _;rfl):bG K 3 (aW (aN i) (aW (aN j) (aW (aN k) bN))) v σ W.H P:=by
 obtain⟨p,x,y,z,h0,h,h1,h2,h3⟩:=h
 exact⟨p,_,h0,Same.tup W.ok h,rfl,x,_,rfl,y,_,rfl,z,_,rfl,rfl,by have:=q x y z h1 h2 h3;rw[←hσ]at this;exact this⟩
theorem cG {σ':V→St} {R:Rw α} {m:Res α} (h:EV Er te σ W R m) (q:m.OkE Er fun a=>∀v W',Ext W W'→R W' a v→D.nx (σ' v) W'.H) (hσ:∀v,σ.set i (some v)=σ' v:=by intro _;rfl):bu te (aN i) D σ W.H:=h W (.refl _) _ (q.imp fun a k v W' e r=>by have:=k v W' e r;rw[←hσ]at this;exact this)
theorem qG {σ':Addr→St} {R:Rp α} {m:Res (List α)} (h:EVo Er te σ W R m) (q:m.OkE Er fun a=>∀p W',Ext W W'→W.H p=none→Ow R W' p a→D.nx (σ' p) W'.H) (hσ:∀p,σ.set i (some (.ref p))=σ' p:=by intro _;rfl):bu te (aN i) D σ W.H:=h W (.refl _) _ (q.imp fun a k p W' e hp r=>by have:=k p W' e hp r;rw[←hσ]at this;exact this)
theorem aO {R:Rw α} {m:Res α} (h:EV Er te σ W R m) (q:m.OkE Er fun a=>∀v W',Ext W W'→R W' a v→D.rt v W'.H):bM te D σ W.H:=h W (.refl _) _ q
theorem jb {R:Rp α} {m:Res (List α)} (h:EVo Er te σ W R m) (q:m.OkE Er fun a=>∀p W',Ext W W'→W.H p=none→Ow R W' p a→D.rt (.ref p) W'.H):bM te D σ W.H:=h W (.refl _) _ q
theorem si {c:TT} {m:Res Bool} (h:TV Er c σ W m) (q:m.OkE Er fun b=>∀W',Ext W W'→if b=true then t D σ W'.H else u D σ W'.H):gf c t u D σ W.H:=h W (.refl _) _ q
theorem fT {S:Type} {c:TT} {m:Res Bool} {mA mB:Res S} {P:S→Prop} (Iv:S→Wd→St→Prop) (h:TV Er c σ W m) (q:(m.bind fun b=>if b then mA else mB).OkE Er P)
  (hA:∀W' (N:St→Hp→Prop),Ext W W'→(∀s W1 σ1,Same W.G W1.G→Iv s W1 σ1→P s→N σ1 W1.H)→mA.OkE Er P→t {D with nx:=N} σ W'.H)
  (hB:∀W' (N:St→Hp→Prop),Ext W W'→(∀s W1 σ1,Same W.G W1.G→Iv s W1 σ1→P s→N σ1 W1.H)→mB.OkE Er P→u {D with nx:=N} σ W'.H)
  (hd:∀s W1 σ1,Same W.G W1.G→Iv s W1 σ1→P s→D.nx σ1 W1.H):gf c t u D σ W.H:=h W (.refl _) _ ((Res.okE_bind q).imp fun b kb W' e=>by
 cases b with
 | true=>exact hA W' D.nx e hd kb
 | false=>exact hB W' D.nx e hd kb)
theorem Ow.ne {R:Rp α} {p q:Addr} {ys:List α} (o:Ow R W q ys) (hp:W.H p=none):q≠p:=by
 obtain⟨vs,a,b⟩:=o.h
 exact bE a hp
structure Mu (W W':Wd) (p:Addr):Prop where
 g:Same W.G W'.G
 e:∀W0:Wd,Ext W0 W→W0.H p=none→Ext W0 W'
 h:∀q,q≠p→W.H q≠none→W'.H q=W.H q∧W'.G q=W.G q
theorem Mu.of {W1:Wd} {p:Addr} {o:HO} (e1:Ext W W1) (hg:W1.G p=none):Mu W (W1.mut p o hg) p:=⟨e1.g,fun W0 e0 hp=>(e0.trans e1).mut hp hg,fun q hq hn=>by
 obtain⟨o',ho⟩:=Option.ne_none_iff_exists'.mp hn
 exact⟨by show cr W1.H p o q=_;rw[aw hq,e1.h _ _ ho,ho],e1.k q hn⟩⟩
theorem Mu.ow {R:Rp α} [Mono R] {p q:Addr} {ys:List α} (m:Mu W W' p) (hq:q≠p) (o:Ow R W q ys):Ow R W' q ys:=by
 obtain⟨vs,a,b⟩:=o.h
 obtain⟨h1,h2⟩:=m.h q hq (by rw[a];exact fun z=>nomatch z)
 exact⟨by rw[h2];exact o.g,vs,by rw[h1];exact a,b.same m.g⟩
theorem fU {R:Rp α} [Mono R] {p:Addr} {xs:List α} {m:Res α} (o:Ow R W p xs) (h:EV Er te σ W (sh R) m) (q:(m.bind fun a=>gk xs a).OkE Er fun ys=>∀W',Mu W W' p→Ow R W' p ys→D.nx σ W'.H) (hi:σ[i]? =some (some (.ref p)):=by rfl):aY (dh K "list" ax (bz i) (ai te aR)) D σ W.H:=by
 obtain⟨vs,h1,h2⟩:=o.h
 refine⟨.ref p,hi,.inl ⟨rfl,vs,SqL.of h1⟩,h W (.refl _) _ ((Res.okE_bind q).imp fun a ka v W2 e2 hv=>?_)⟩
 obtain⟨h3,h4⟩:=bg ka
 have hg:=(o.mono e2).g
 refine⟨p,vs,v,rfl,rfl,e2.h _ _ h1,by rw[h2.1,sizeLine_eq];unfold Mi.cap at h3;omega,h4 (W2.mut p (.lst (vs++ [v])) hg) (.of e2 hg) ⟨hg,_,aJ,(h2.same e2.g).snoc hv⟩⟩
theorem LR.set {R:Rp α} {H:Hp} {as:List α} {vs:List V} {a:α} {v:V} (h:LR R H as vs) (r:R H a v) (j:Nat):LR R H (as.set j a) (vs.set j v):=⟨by simp[h.1],fun i x m e1 e2=>by
 rw[List.getElem?_set]at e1 e2
 by_cases z:j=i
 ·rw[if_pos z]at e1 e2
  split at e1
  ·split at e2
   ·cases e1;cases e2;exact r
   ·cases e2
  ·cases e1
 ·rw[if_neg z]at e1 e2
  exact h.2 i x m e1 e2⟩
theorem lM {R:Rp α} [Mono R] {p:Addr} {xs:List α} {m:Res α} {mi:Res Int} (o:Ow R W p xs) (h:EV Er te σ W (sh R) m) (hj:EV Er ti σ W (sh isI) mi) (q:(m.bind fun a=>mi.bind fun j=>jH xs j a).OkE Er fun ys=>∀W',Mu W W' p→Ow R W' p ys→D.nx σ W'.H) (hi:σ[i]? =some (some (.ref p)):=by rfl):bu te (ug (bz i) ti rZ) D σ W.H:=by
 obtain⟨vs,h1,h2⟩:=o.h
 refine h W (.refl _) _ ((Res.okE_bind q).imp fun a ka v W2 e2 hv=>⟨.ref p,hi,hj W2 e2 _ ((Res.okE_bind ka).imp fun j kj x W3 e3 hx=>?_)⟩)
 cases hx
 obtain⟨l,h3,h4⟩:=dL (Res.okE_bind kj)
 have e:=e2.trans e3
 have hg:=(o.mono e).g
 exact⟨p,vs,j,l,rfl,rfl,e.h _ _ h1,by rw[h2.1];exact h3,h4 (W3.mut p (.lst (vs.set l v)) hg) (.of e hg) ⟨hg,_,aJ,(h2.same e.g).set (Mono.mono (R:=R) e3.g hv) l⟩⟩
def kC {S:Type} (W:Wd) (Iv:S→Wd→St→Prop) (P:S→Prop):St→Hp→Prop:=fun σ' H'=>∃s' W',W'.H=H'∧Same W.G W'.G∧Iv s' W' σ'∧P s'
theorem iA {S:Type} {f:α→S→Res S} {xs:List α} {i:Nat} {a:α} {s:S} (h:xs[i]? =some a):bC f (xs.drop i) s=(f a s).bind fun s=>bC f (xs.drop (i+1)) s:=by
 obtain⟨hi,e⟩:=List.getElem?_eq_some_iff.mp h
 rw[List.drop_eq_getElem_cons hi,e]
 rfl
theorem kW {S:Type} {wi:TI} {tb:TS} {R:Rp α} {m:Res (List α)} {f:α→S→Res S} {s0:S} {P:S→Prop} (Iv:S→Wd→St→Prop) (hi:IV Er wi σ W R m) (q:(m.bind fun xs=>bC f xs s0).OkE Er P)
  (h0:∀W1,Ext W W1→Iv s0 W1 σ)
  (hs:∀Wb W1 W2 a v s σ1 P',Same W.G W1.G→Same Wb.G W1.G→Iv s W1 σ1→Ext W1 W2→R W2.G a v→(f a s).OkE Er P'→g v σ1 W2.H fun σ2 H2=>tb {D with nx:=kC Wb Iv P',ct:=kC Wb Iv P',bk:=D.nx} σ2 H2)
  (hd:∀s W1 σ1,Same W.G W1.G→Iv s W1 σ1→P s→D.nx σ1 W1.H):nR wi g tb D σ W.H:=by
 refine hi W (.refl _) _ ((Res.okE_bind q).imp fun xs kx J W1 e1 hy=>?_)
 refine⟨fun i n σ' H'=>n=xs.length- i∧i≤xs.length∧∃s' W',W'.H=H'∧Same W1.G W'.G∧Iv s' W' σ'∧(bC f (xs.drop i) s').OkE Er P,⟨xs.length,by simp,by simp,s0,W1,rfl,.refl _,h0 W1 e1,by simpa using kx⟩,?_⟩
 rintro i n σ1 H1 ⟨rfl,hi1,s,W2,rfl,e2,iv,k⟩
 by_cases hlt:i< xs.length
 ·obtain⟨a,ha⟩:∃a,xs[i]? =some a:=⟨xs[i],by simp[hlt]⟩
  obtain⟨h1,h2⟩:=(hy W2 e2).1 i a ha
  refine .inr ⟨h1,kC W1 Iv fun s'=>(bC f (xs.drop (i+1)) s').OkE Er P,fun σ' H' ⟨s',W',z1,z2,z3,z4⟩=>⟨xs.length- (i+1),by omega,rfl,hlt,s',W',z1,z2,z3,z4⟩,fun x H' hx=>?_⟩
  obtain⟨W3,rfl,e3,rx⟩:=h2 x H' hx
  rw[iA ha]at k
  exact hs W1 W2 W3 a x s σ1 (fun s'=>(bC f (xs.drop (i+1)) s').OkE Er P) (e1.g.trans e2) e2 iv e3 rx (Res.okE_bind k)
 ·have e:i=xs.length:=by omega
  subst e
  rw[List.drop_length]at k
  exact .inl ⟨(hy W2 e2).2,hd s W2 σ1 (e1.g.trans e2) iv k⟩
theorem n5 {S:Type} {f:α→S→Res (Fl γ S)} {xs:List α} {i:Nat} {a:α} {s:S} (h:xs[i]? =some a):dA f (xs.drop i) s=(f a s).bind (oA (dA f (xs.drop (i+1)))):=by
 obtain⟨hi,e⟩:=List.getElem?_eq_some_iff.mp h
 rw[List.drop_eq_getElem_cons hi,e]
 rfl
theorem lN {S:Type} {wi:TI} {tb:TS} {R:Rp α} {m:Res (List α)} {f:α→S→Res (Fl γ S)} {s0:S} {P:Fl γ S→Prop} (Iv:S→Wd→St→Prop) (hi:IV Er wi σ W R m) (q:(m.bind fun xs=>dA f xs s0).OkE Er P)
  (h0:∀W1,Ext W W1→Iv s0 W1 σ)
  (hs:∀Wb W1 W2 a v s σ1 P',Same W.G W1.G→Same Wb.G W1.G→Iv s W1 σ1→Ext W1 W2→R W2.G a v→(∀r,P' (.rt r)→P (.rt r))→(f a s).OkE Er P'→g v σ1 W2.H fun σ2 H2=>tb {D with nx:=kC Wb Iv fun s'=>P' (.nx s'),ct:=kC Wb Iv fun s'=>P' (.nx s'),bk:=D.nx} σ2 H2)
  (hd:∀s W1 σ1,Same W.G W1.G→Iv s W1 σ1→P (.nx s)→D.nx σ1 W1.H):nR wi g tb D σ W.H:=by
 refine hi W (.refl _) _ ((Res.okE_bind q).imp fun xs kx J W1 e1 hy=>?_)
 refine⟨fun i n σ' H'=>n=xs.length- i∧i≤xs.length∧∃s' W',W'.H=H'∧Same W1.G W'.G∧Iv s' W' σ'∧(dA f (xs.drop i) s').OkE Er P,⟨xs.length,by simp,by simp,s0,W1,rfl,.refl _,h0 W1 e1,by simpa using kx⟩,?_⟩
 rintro i n σ1 H1 ⟨rfl,hi1,s,W2,rfl,e2,iv,k⟩
 by_cases hlt:i< xs.length
 ·obtain⟨a,ha⟩:∃a,xs[i]? =some a:=⟨xs[i],by simp[hlt]⟩
  obtain⟨h1,h2⟩:=(hy W2 e2).1 i a ha
  refine .inr ⟨h1,kC W1 Iv fun s'=>(dA f (xs.drop (i+1)) s').OkE Er P,fun σ' H' ⟨s',W',z1,z2,z3,z4⟩=>⟨xs.length- (i+1),by omega,rfl,hlt,s',W',z1,z2,z3,z4⟩,fun x H' hx=>?_⟩
  obtain⟨W3,rfl,e3,rx⟩:=h2 x H' hx
  rw[n5 ha]at k
  exact hs W1 W2 W3 a x s σ1 (fun fl=>match fl with | .nx s'=>(dA f (xs.drop (i+1)) s').OkE Er P | .bk s'=>P (.nx s') | .rt r=>P (.rt r)) (e1.g.trans e2) e2 iv e3 rx (fun r h=>h) ((Res.okE_bind k).imp fun fl h=>by cases fl <;> exact h)
 ·have e:i=xs.length:=by omega
  subst e
  rw[List.drop_length]at k
  exact .inl ⟨(hy W2 e2).2,hd s W2 σ1 (e1.g.trans e2) iv k⟩
section
variable {r:TS}
theorem am {σ':V→St} {R:Rw α} {m:Res α} (h:EV Er te σ W R m) (q:m.OkE Er fun a=>∀v W',Ext W W'→R W' a v→r D (σ' v) W'.H) (hσ:∀v,σ.set i (some v)=σ' v:=by intro _;rfl):em (bu te (aN i)) r D σ W.H:=cG (D:={D with nx:=r D}) h q hσ
theorem cY {σ':Addr→St} {R:Rp α} {m:Res (List α)} (h:EVo Er te σ W R m) (q:m.OkE Er fun a=>∀p W',Ext W W'→W.H p=none→Ow R W' p a→r D (σ' p) W'.H) (hσ:∀p,σ.set i (some (.ref p))=σ' p:=by intro _;rfl):em (bu te (aN i)) r D σ W.H:=qG (D:={D with nx:=r D}) h q hσ
theorem dC {R:Rw α} {m:Res α} (h:EV Er te σ W R m) (q:m.OkE Er fun a=>∀v W',Ext W W'→R W' a v→g v σ W'.H (r D)):em (bu te g) r D σ W.H:=h W (.refl _) _ q
theorem dj {c:TT} {m:Res Bool} (h:TV Er c σ W m) (q:m.OkE Er fun b=>∀W',Ext W W'→if b=true then t {D with nx:=r D} σ W'.H else u {D with nx:=r D} σ W'.H):em (gf c t u) r D σ W.H:=h W (.refl _) _ q
theorem cM {S:Type} {c:TT} {m:Res Bool} {mA mB:Res S} {P:S→Prop} (Iv:S→Wd→St→Prop) (h:TV Er c σ W m) (q:(m.bind fun b=>if b then mA else mB).OkE Er P)
  (hA:∀W' (N:St→Hp→Prop),Ext W W'→(∀s W1 σ1,Same W.G W1.G→Iv s W1 σ1→P s→N σ1 W1.H)→mA.OkE Er P→t {D with nx:=N} σ W'.H)
  (hB:∀W' (N:St→Hp→Prop),Ext W W'→(∀s W1 σ1,Same W.G W1.G→Iv s W1 σ1→P s→N σ1 W1.H)→mB.OkE Er P→u {D with nx:=N} σ W'.H)
  (hd:∀s W1 σ1,Same W.G W1.G→Iv s W1 σ1→P s→r D σ1 W1.H):em (gf c t u) r D σ W.H:=fT (D:={D with nx:=r D}) Iv h q hA hB hd
theorem oM {R:Rp α} [Mono R] {p:Addr} {xs:List α} {m:Res α} (o:Ow R W p xs) (h:EV Er te σ W (sh R) m) (q:(m.bind fun a=>gk xs a).OkE Er fun ys=>∀W',Mu W W' p→Ow R W' p ys→r D σ W'.H) (hi:σ[i]? =some (some (.ref p)):=by rfl):em (aY (dh K "list" ax (bz i) (ai te aR))) r D σ W.H:=fU (D:={D with nx:=r D}) o h q hi
theorem cB {S:Type} {wi:TI} {tb:TS} {R:Rp α} {m:Res (List α)} {f:α→S→Res S} {s0:S} {P:S→Prop} (Iv:S→Wd→St→Prop) (hi:IV Er wi σ W R m) (q:(m.bind fun xs=>bC f xs s0).OkE Er P)
  (h0:∀W1,Ext W W1→Iv s0 W1 σ)
  (hs:∀Wb W1 W2 a v s σ1 P',Same W.G W1.G→Same Wb.G W1.G→Iv s W1 σ1→Ext W1 W2→R W2.G a v→(f a s).OkE Er P'→g v σ1 W2.H fun σ2 H2=>tb {D with nx:=kC Wb Iv P',ct:=kC Wb Iv P',bk:=r D} σ2 H2)
  (hd:∀s W1 σ1,Same W.G W1.G→Iv s W1 σ1→P s→r D σ1 W1.H):em (nR wi g tb) r D σ W.H:=kW (D:={D with nx:=r D}) Iv hi q h0 hs hd
theorem fV {S:Type} {wi:TI} {tb:TS} {R:Rp α} {m:Res (List α)} {f:α→S→Res (Fl γ S)} {s0:S} {P:Fl γ S→Prop} (Iv:S→Wd→St→Prop) (hi:IV Er wi σ W R m) (q:(m.bind fun xs=>dA f xs s0).OkE Er P)
  (h0:∀W1,Ext W W1→Iv s0 W1 σ)
  (hs:∀Wb W1 W2 a v s σ1 P',Same W.G W1.G→Same Wb.G W1.G→Iv s W1 σ1→Ext W1 W2→R W2.G a v→(∀r,P' (.rt r)→P (.rt r))→(f a s).OkE Er P'→g v σ1 W2.H fun σ2 H2=>tb {D with nx:=kC Wb Iv fun s'=>P' (.nx s'),ct:=kC Wb Iv fun s'=>P' (.nx s'),bk:=r D} σ2 H2)
  (hd:∀s W1 σ1,Same W.G W1.G→Iv s W1 σ1→P (.nx s)→r D σ1 W1.H):em (nR wi g tb) r D σ W.H:=lN (D:={D with nx:=r D}) Iv hi q h0 hs hd
end
theorem cj {S:Type} {Wb W:Wd} {Iv:S→Wd→St→Prop} {P:S→Prop} (s:S) (hs:Same Wb.G W.G) (iv:Iv s W σ) (hq:P s):kC Wb Iv P σ W.H:=⟨s,W,rfl,hs,iv,hq⟩
end
end Wb
namespace L2
open PySem PySem.Spec PyProof.Rows
section
variable {X:Cx} {K:PySem.W.Frag} {w:World}
theorem jN {ns:List Bool} :∀{us:List Value},Vals (ns.map V.bl) us→LSm.BoolsAre us ns:=by
 induction ns with
 | nil=>intro us r;cases r;exact .nil
 | cons b r ih=>intro us h;cases h with | cons h1 h2=>cases h1;exact .cons b (ih h2)
theorem n6 (hc:X.calm=true) (hK:X.K=K):cQ X (.builtin "all") (fun xs H Q=>∃(p:Addr) (bs:List Bool),xs=[.ref p]∧SqL K H p (bs.map V.bl)∧Q (.bl (bs.all id)) H):=by
 subst hK
 intro pins s σ H xs us Q I r h
 obtain⟨p,bs,rfl,hq,q⟩:=h
 obtain⟨u,rfl,rx⟩:=eA r
 cases rx
 obtain⟨its,r',pl,hz⟩:=I.list hq
 have hb:=jN r'
 have hl:=pl.isList
 have hlt:p< s.heap.objs.size:=by obtain⟨_,e,_⟩:=hl;exact Heap.lt_size e
 refine call_all_walk (wpAny_pyIter_list hl ?_)
 refine⟨s.heap.objs.size,[s.heap.objs.size,p],[s.heap.objs.size],its.toArray.size,_,_,fun i=>(bs[i]?).getD true,rfl,Walks.list (A:=X.A.in1) (I.ok.hd hc) _ p (Nat.ne_of_lt hlt) its.toArray,
  ⟨⟨_,Heap.get?_push_size _ rfl,rfl,rfl⟩,hl.push _⟩,fun i v s' Q' E' hP hQ=>?_,fun h' tk hk=>?_⟩
 ·obtain⟨b,e,rfl⟩:=hb.get i v (by simpa using hP)
  simp only[e,Option.getD_some]at hQ
  exact wpAny_truthy_bool hQ
 ·have e:((List.range its.toArray.size).all fun i=>(bs[i]?).getD true)=bs.all id:=by
   rw[List.size_toArray,hb.length];exact LSm.range_all bs
  rw[e]
  exact⟨.bl _,H,I.kept (LSm.kept_iter hk),rfl,q⟩
end
end L2
namespace Wb
open PySem L2 Mi
variable {Er:Nat→Prop}
section
variable {α β γ δ:Type} {t ta tb tc:TE} {σ:St} {W W0 W':Wd} {K:PySem.W.Frag} {w:World}
theorem qH {a n r:Int} (hc:0≤n∧n≤1000000∧a.natAbs< 2^64) (hr:a^n.toNat=r):EV Er (cv (rI uk fun i j=>.int (i^j.toNat)) (tC (.int a)) (tC (.int n))) σ W (sh isI) (.ok r):=fun W1 e1 Q k=>⟨a,n,rfl,rfl,hc,by show Q (.int (a^n.toNat)) W1.H;rw[hr];exact k _ W1 (.refl _) rfl⟩
def isScr (K:PySem.W.Frag):Rp (List Int):=fun H ns v=>∃a,v=.ref a∧SqL K H a (ns.map V.int)
instance zkeep17:Mono (isScr K):=⟨fun e ⟨a,h1,h2⟩=>⟨a,h1,e.seq h2⟩⟩
theorem iB {ma:Res (List Int)} (ha:EV Er ta σ W (sh (isScr K)) ma):EV Er (cX (fun xs H Q=>∃x n,xs=[x]∧kI K x H n∧Q (.int n) H) (ai ta aR)) σ W (sh isI) (ma.bind fun a=>.ok (a.length:Int)):=fun W1 e1 Q k=>
 ha W1 e1 _ ((Res.okE_bind k).imp fun a ka x W2 e2 hx=>by
  obtain⟨p,rfl,h1⟩:=hx
  exact⟨_,a.length,rfl,.inl ⟨_,W2.ok.seq h1,by simp⟩,ka _ W2 e2 rfl⟩)
theorem oN {ma:Res (List Int)} {mb:Res Int} (ha:EV Er ta σ W (sh (isScr K)) ma) (hb:EV Er tb σ W (sh isI) mb):EV Er (cv (bJ K) ta tb) σ W (sh isI) (ma.bind fun a=>mb.bind fun b=>ic a b):=
 mY ha hb fun W a b x y Q hx hy k=>by
  cases hy
  obtain⟨p,rfl,h1⟩:=hx
  obtain⟨c,h4,h5⟩:=dL k
  have lr:LR isI W.G a (a.map V.int):=⟨by simp,fun i v m e1 e2=>by rw[List.getElem?_map,e2]at e1;cases e1;rfl⟩
  obtain⟨z,h6,h7⟩:=lL lr h4
  exact⟨p,_,b,z,rfl,rfl,W.ok.seq h1,h6,h5 _ W (.refl _) h7⟩
theorem lO {ma:Res Bool} (ha:EV Er ta σ W (sh isB) ma):EV Er (cX (fun xs H Q=>(∃i,xs=[.int i]∧Q (.int i) H)∨∃k,xs=[.bl k]∧Q (.int (if k then 1 else 0)) H) (ai ta aR)) σ W (sh isI) (ma.bind fun a=>.ok (if a then(1:Int)else 0)):=fun W1 e1 Q k=>
 ha W1 e1 _ ((Res.okE_bind k).imp fun a ka x W2 e2 hx=>by cases hx;exact .inr ⟨a,rfl,ka _ W2 e2 rfl⟩)
theorem kX {R:Rp α} {W1 W2:Wd} {xs:List α} {vs:List V} {Q:VK} (h:LR R W2.G xs vs) (e:Ext W1 W2) (k:∀p W2,Ext W1 W2→W1.H p=none→Ow R W2 p xs→Q (.ref p) W2.H) (r:Addr) (hr:W2.H r=none):Q (.ref r) (cr W2.H r (.lst vs)):=
 k r (W2.mut r (.lst vs) (W2.gnone hr)) (e.trans (.own _ hr)) (bj e.h hr) ⟨W2.gnone hr,vs,aJ,h⟩
theorem oO {R:Rp α} {ma:Res (List α)} (ha:EV Er ta σ W (pk R) ma):EVo Er (cX (fun xs H Q=>∃p ys,xs=[.ref p]∧(SqL K H p ys∨SqT K H p ys)∧∀l,H l=none→Q (.ref l) (cr H l (.lst ys))) (ai ta aR)) σ W R ma:=fun W1 e1 Q k=>
 ha W1 e1 _ (k.imp fun a ka x W2 e2 hx=>by
  obtain⟨p,vs,rfl,h1,h2⟩:=hx
  exact⟨p,vs,rfl,.inl (SqL.of h1),fun l hl=>kX h2 e2 ka l hl⟩)
theorem LR.ints {H:Hp} {ns:List Int} {vs:List V} (h:LR isI H ns vs):vs=ns.map V.int:=by
 refine List.ext_getElem? fun i=>?_
 rw[List.getElem?_map]
 cases e:ns[i]? with
 | none=>rw[List.getElem?_eq_none_iff]at e;rw[List.getElem?_eq_none_iff.mpr (by rw[h.1];exact e)];rfl
 | some m=>obtain⟨v,a,b⟩:=h.get e;rw[a];cases b;rfl
theorem LR.bools {H:Hp} {ns:List Bool} {vs:List V} (h:LR isB H ns vs):vs=ns.map V.bl:=by
 refine List.ext_getElem? fun i=>?_
 rw[List.getElem?_map]
 cases e:ns[i]? with
 | none=>rw[List.getElem?_eq_none_iff]at e;rw[List.getElem?_eq_none_iff.mpr (by rw[h.1];exact e)];rfl
 | some m=>obtain⟨v,a,b⟩:=h.get e;rw[a];cases b;rfl
theorem t6 {ma:Res (List Bool)} (ha:EV Er ta σ W (pk isB) ma):EV Er (cX (fun xs H Q=>∃(p:Addr) (bs:List Bool),xs=[.ref p]∧SqL K H p (bs.map V.bl)∧Q (.bl (bs.all id)) H) (ai ta aR)) σ W (sh isB) (ma.bind fun a=>.ok (a.all id)):=fun W1 e1 Q k=>
 ha W1 e1 _ ((Res.okE_bind k).imp fun a ka x W2 e2 hx=>by
  obtain⟨p,vs,rfl,h1,h2⟩:=hx
  exact⟨p,a,rfl,SqL.of (by rw[h1,h2.bools]),ka _ W2 e2 rfl⟩)
theorem qI {ma mb:Res Int} (ha:EV Er ta σ W (sh isI) ma) (hb:EV Er tb σ W (sh isI) mb):EV Er (cX (fun xs H Q=>∃i j,xs=[.int i,.int j]∧Q (.int (if j> i then j else i)) H) (ai ta (ai tb aR))) σ W (sh isI) (ma.bind fun a=>mb.bind fun b=>.ok (if b> a then b else a)):=fun W1 e1 Q k=>
 ha W1 e1 _ ((Res.okE_bind k).imp fun a ka x W2 e2 hx=>hb W2 (e1.trans e2) _ ((Res.okE_bind ka).imp fun b kb y W3 e3 hy=>by cases hx;cases hy;exact⟨a,b,rfl,kb _ W3 (e2.trans e3) rfl⟩))
theorem oP {f:α→V} {g:β→Key} [DecidableEq β] (hg:∀a b,g a=g b→a=b) (kvs:List (β×α)) (k:β):jx (kvs.map fun p=>(g p.1,f p.2)) (g k)=(look kvs k).map f:=by
 induction kvs with
 | nil=>rfl
 | cons p r ih =>
  unfold look at ih ⊢
  rw[List.map_cons]
  by_cases z:p.1=k
  ·rw[jy (by rw[z]),List.find?_cons_of_pos (by simpa using z)];rfl
  ·rw[jz (fun e=>z (hg _ _ e)),ih,List.find?_cons_of_neg (by simpa using z)]
theorem lP {R:Rp α} {Rk:Rp β} [DecidableEq β] {d:Addr} {kv:List (Key×V)} {kvs:List (β×α)} {f:α→V} {g:β→Key} (hg:∀a b,g a=g b→a=b) (hf:∀H a,R H a (f a)) (hk:∀H b v,Rk H b v→v=kV (g b)) (D:DictK K w d kv) (e:kv=kvs.map fun p=>(g p.1,f p.2)) {m:Res β} (h:EV Er t σ W (sh Rk) m):
  EV Er (aI K w (tC (.ref d)) t) σ W (sh R) (m.bind fun k=>getD kvs k):=fun W1 e1 Q k=>
 h W1 e1 _ ((Res.okE_bind k).imp fun b kb v W2 e2 hv => by
  obtain⟨a,h1,h2⟩:=dL kb
  refine⟨d,kv,g b,f a,rfl,D,hk _ _ _ hv,?_,h2 _ W2 e2 (hf _ _)⟩
  rw[e,oP hg,h1];rfl)
theorem vW:∀a b:Tx,(Sum.inr (aj a):Key)=Sum.inr (aj b)→a=b:=fun a b e=>lD (Sum.inr.inj e)
theorem vX:∀a b:Int,(Sum.inl a:Key)=Sum.inl b→a=b:=fun a b e=>Sum.inl.inj e
theorem n9 {d:Addr} {kv:List (Key×V)} {kvs:List (Tx×Int)} (D:DictK K w d kv) (e:kv=kvs.map fun p=>(Sum.inr (aj p.1),V.int p.2)) {m:Res Tx} (h:EV Er t σ W (sh isS) m):EV Er (aI K w (tC (.ref d)) t) σ W (sh isI) (m.bind fun k=>getD kvs k):=lP (R:=isI) (f:=V.int) (g:=fun a=>Sum.inr (aj a)) vW (fun _ _=>rfl) (fun _ _ _ h=>h) D e h
theorem nb {d:Addr} {kv:List (Key×V)} {kvs:List (Int×Tx)} (D:DictK K w d kv) (e:kv=kvs.map fun p=>(Sum.inl p.1,V.str (aj p.2))) {m:Res Int} (h:EV Er t σ W (sh isI) m):EV Er (aI K w (tC (.ref d)) t) σ W (sh isS) (m.bind fun k=>getD kvs k):=lP (R:=isS) (f:=fun a=>V.str (aj a)) (g:=fun a=>Sum.inl a) vX (fun _ _=>rfl) (fun _ _ _ h=>h) D e h
theorem gT {ma:Res Int} {mb:Res (List Int)} (ha:EV Er ta σ W (sh isI) ma) (hb:EV Er tb σ W (pk isI) mb):EV Er (cv (dW K true) ta tb) σ W (sh isB) (ma.bind fun a=>mb.bind fun b=>.ok (!b.contains a)):=
 mY ha hb fun W a b x y Q hx hy k=>by
  cases hx
  obtain⟨p,vs,rfl,h1,h2⟩:=hy
  refine⟨p,vs,rfl,.inl (SqL.of h1),rfl,by rw[h2.ints];simp[L2.flatV],?_⟩
  have e:va (.int a) vs=b.contains a:=by
   rw[h2.ints];unfold va
   rw[List.any_map,Bool.eq_iff_iff]
   simp[L2.eqV]
   try exact⟨fun⟨x,h,e⟩=>by subst e;exact h,fun h=>⟨a,h,rfl⟩⟩
  rw[if_pos rfl,e]
  exact k _ W (.refl _) rfl
theorem oQ {R:Rp α} [Mono R] {ma:Res (List α)} (ha:EV Er ta σ W (pk R) ma):EV Er (cX (fun xs H Q=>∃p ys,xs=[.ref p]∧((SqL K H p ys∧∀l,H l=none→Q (.ref l) (cr H l (.tup ys)))∨(SqT K H p ys∧Q (.ref p) H))) (ai ta aR)) σ W (sh (isT3 K R R R)) (ma.bind fun a=>sW a):=fun W1 e1 Q k=>
 ha W1 e1 _ ((Res.okE_bind k).imp fun a ka x W2 e2 hx=>by
  obtain⟨p,vs,rfl,h1,h2⟩:=hx
  match a,ka,h2 with
  | [a, b, c], ka, h2 =>
   match vs,h2.1,h2,h1 with
   | [x, y, z], _, h2, h1 =>
    refine⟨p,_,rfl,.inl ⟨SqL.of h1,fun l hl=>ka (.ref l) (W2.new l (.tup [x,y,z])) (e2.trans (.new _ hl)) ⟨l,x,y,z,rfl,SqT.of aJ,?_,?_,?_⟩⟩⟩
    ·exact Mono.mono (Ext.new _ hl).g (h2.2 0 x a rfl rfl)
    ·exact Mono.mono (Ext.new _ hl).g (h2.2 1 y b rfl rfl)
    ·exact Mono.mono (Ext.new _ hl).g (h2.2 2 z c rfl rfl))
def EqK (K:PySem.W.Frag) (H:Hp):Nat→V→V→Prop
  | 0,v,u=>v=u∧flat v=true
  | n + 1, v, u => (v = u ∧ flat v = true) ∨ ∃ p q xs ys, v = .ref p ∧ u = .ref q ∧ ((H p = some (.lst xs) ∧ H q = some (.lst ys)) ∨ (SqT K H p xs ∧ SqT K H q ys)) ∧ xs.length = ys.length ∧
      ∀(i:Nat) (x y:V),xs[i]? =some x→ys[i]? =some y→EqK K H n x y
theorem EqK.same {H H':Hp} (e:Same H H'):∀{n:Nat} {v u:V},EqK K H n v u→EqK K H' n v u
 | 0,_,_,h=>h
 | n + 1, _, _, h => by
  rcases h with h | ⟨p,q,xs,ys,h1,h2,h3,h4,h5⟩
  ·exact .inl h
  ·refine .inr ⟨p,q,xs,ys,h1,h2,?_,h4,fun i x y e1 e2=>EqK.same e (h5 i x y e1 e2)⟩
   rcases h3 with⟨a,b⟩ | ⟨a,b⟩
   ·exact .inl ⟨e _ _ a,e _ _ b⟩
   ·exact .inr ⟨Same.tup e a,Same.tup e b⟩
theorem EqK.flat {H:Hp} {n:Nat} {v:V} (h:L2.flat v=true):EqK K H n v v:=by cases n with | zero=>exact⟨rfl,h⟩ | succ n=>exact .inl ⟨rfl,h⟩
class EqR (K:PySem.W.Frag) {α:Type} (R:Rp α) (n:outParam Nat):Prop where
 eq:∀H a v u m,n≤m→R H a v→R H a u→EqK K H m v u
instance zkeep18:EqR K isI 0:=⟨fun H a v u m _ h1 h2=>by cases h1;cases h2;exact .flat rfl⟩
instance zkeep19:EqR K isS 0:=⟨fun H a v u m _ h1 h2=>by cases h1;cases h2;exact .flat rfl⟩
instance zkeep22 {R:Rp α} {n:Nat} [EqR K R n]:EqR K (isO R) n:=⟨fun H a v u m hm h1 h2=>by
 cases a with
 | none=>cases h1;cases h2;exact .flat rfl
 | some a=>exact EqR.eq H a v u m hm h1.1 h2.1⟩
instance zkeep23 {R:Rp α} {n:Nat} [EqR K R n]:EqR K (isL R) (n+1):=⟨fun H a v u m hm ⟨p,vs,h1,h2,h3⟩ ⟨q,us,g1,g2,g3⟩=>by
 cases m with
 | zero=>omega
 | succ m =>
  refine .inr ⟨p,q,vs,us,h1,g1,.inl ⟨h2,g2⟩,by rw[h3.1,g3.1],fun i x y e1 e2=>?_⟩
  obtain⟨b,hb,rb⟩:=h3.got e1
  exact EqR.eq H b x y m (by omega) rb (g3.2 i y b e2 hb)⟩
instance zkeep25 {R1:Rp α} {R2:Rp β} {R3:Rp γ} {n k l:Nat} [EqR K R1 n] [EqR K R2 k] [EqR K R3 l]:EqR K (isT3 K R1 R2 R3) (max n (max k l)+1):=⟨fun H a v u m hm ⟨p,x,y,z,h0,h,h1,h2,h3⟩ ⟨q,x',y',z',g0,g,g1,g2,g3⟩=>by
 cases m with
 | zero=>omega
 | succ m =>
  refine .inr ⟨p,q,_,_,h0,g0,.inr ⟨h,g⟩,rfl,fun i w w' e1 e2=>?_⟩
  match i,e1,e2 with
  | 0,e1,e2=>cases e1;cases e2;exact EqR.eq H _ _ _ m (by omega) h1 g1
  | 1,e1,e2=>cases e1;cases e2;exact EqR.eq H _ _ _ m (by omega) h2 g2
  | 2,e1,e2=>cases e1;cases e2;exact EqR.eq H _ _ _ m (by omega) h3 g3⟩
end
end Wb
namespace L2
open PySem PySem.Spec PyProof.Rows
section
variable {X:Cx} {K:PySem.W.Frag} {w:World} {o e:Expr} {to:TE} {t:TA} {apos cpos:Pos}
def uG (K:PySem.W.Frag):V→List V→Hp→VK→Prop:=fun x xs H Q=>∃(p:Addr) (ys:List (List Nat)),x=.str (aj [])∧xs=[.ref p]∧SqL K H p (ys.map fun y=>V.str (aj y))∧ys.flatten.length≤100000∧Q (.str (aj ys.flatten)) H
def uH:V→List V→Hp→VK→Prop:=fun x xs H Q=>∃a b,x=.str a∧xs=[.str b]∧0≤Txt.find a b∧Q (.int (Txt.find a b)) H
abbrev vY (X:Cx) (cpos:Pos) (e:Expr):Prop:=((backTo cpos (starEach [e] X.env)).all (fun x=> !x.1) && (backToKw cpos (keywordEach [] X.env)).all (fun x=>x.1.isSome) && decide ([e].length+([]:List Keyword).length+(if([]:List Keyword).isEmpty then 0 else 1)< 30))=true
theorem gU (h:X.K=K):cQ X (.type "tuple") (fun xs H Q=>∃p ys,xs=[.ref p]∧((SqL K H p ys∧∀l,H l=none→Q (.ref l) (cr H l (.tup ys)))∨(SqT K H p ys∧Q (.ref p) H))):=h▸i8
theorem gV (h:X.K=K) (ho:PE X o to) (ha:PA X [e] t) (hbase:attributeBase o "join" X.env (eval o X.env)=eval o X.env:=by rfl) (hfew:vY X cpos e:=by rfl) (hline:(apos.endLine == cpos.line)=true:=by rfl) (hs:starEach [e] X.env=(false,eval e X.env)::starEach [] X.env:=by rfl) (hplain:(backTo cpos (starEach [] X.env)).any (·.1)=false:=by rfl):
  PE X (.Call (.Attribute o "join" apos) [e] [] cpos) (dh K "str" (uG K) to t):=kS (K:=K) h PySem.F.plainAttrs_str PySem.F.slot_str_join PySem.F.type_str_join (on (K:=K) h) ho ha hbase hfew hline hs hplain
theorem dD (h:X.K=K) (hc:X.calm=true) (ho:PE X o to) (ha:PA X [e] t) (hbase:attributeBase o "index" X.env (eval o X.env)=eval o X.env:=by rfl) (hfew:vY X cpos e:=by rfl) (hline:(apos.endLine == cpos.line)=true:=by rfl) (hs:starEach [e] X.env=(false,eval e X.env)::starEach [] X.env:=by rfl) (hplain:(backTo cpos (starEach [] X.env)).any (·.1)=false:=by rfl):
  PE X (.Call (.Attribute o "index" apos) [e] [] cpos) (dh K "str" uH to t):=kS (K:=K) h PySem.F.plainAttrs_str PySem.F.slot_str_index PySem.F.type_str_index (o9 hc) ho ha hbase hfew hline hs hplain
theorem cH (h:X.K=K) (ho:PE X o to) (ha:PA X [e] t) (hbase:attributeBase o "append" X.env (eval o X.env)=eval o X.env:=by rfl) (hfew:vY X cpos e:=by rfl) (hline:(apos.endLine == cpos.line)=true:=by rfl) (hs:starEach [e] X.env=(false,eval e X.env)::starEach [] X.env:=by rfl) (hplain:(backTo cpos (starEach [] X.env)).any (·.1)=false:=by rfl):
  PE X (.Call (.Attribute o "append" apos) [e] [] cpos) (dh K "list" ax to t):=kS (K:=K) h PySem.F.plainAttrs_list PySem.F.slot_list_append PySem.F.type_list_append mL ho ha hbase hfew hline hs hplain
end
end L2
namespace Wb
open PySem L2 Mi
variable {Er:Nat→Prop}
section
variable {α β γ δ:Type} {t t1 t2 t3 ta tb tc:TE} {σ:St} {W W0 W':Wd} {K:PySem.W.Frag} {w:World}
class NN {α:Type} (R:Rp α):Prop where
 nn:∀H a v,R H a v→v≠.non
instance zkeep26:NN isI:=⟨fun _ _ _ h=>by cases h;exact fun z=>nomatch z⟩
theorem jO {R:Rp α} [NN R] {m:Res α} (h:EV Er t σ W (sh R) m):EV Er t σ W (sh (isO R)) (m.bind fun a=>.ok (some a)):=fun W1 e1 Q k=>
 h W1 e1 _ ((Res.okE_bind k).imp fun a ka v W2 e2 hv=>ka v W2 e2 ⟨hv,NN.nn _ _ _ hv⟩)
theorem t9 {R:Rp α} {m:Res (Option α)} (h:EV Er t σ W (sh (isO R)) m):EV Er t σ W (sh R) (m.bind fun a=>qA a):=fun W1 e1 Q k=>
 h W1 e1 _ ((Res.okE_bind k).imp fun a ka v W2 e2 hv => by
  obtain⟨b,rfl,hb⟩:=dL ka
  exact hb v W2 e2 hv.1)
theorem oR {xs:List α} {ys:List β} {zs:List γ} {i:Nat} {p:α×β×γ} (h:(xs.zip (ys.zip zs))[i]? =some p):xs[i]? =some p.1∧ys[i]? =some p.2.1∧zs[i]? =some p.2.2:=by
 rw[List.getElem?_zip_eq_some]at h
 obtain⟨h1,h2⟩:=h
 rw[List.getElem?_zip_eq_some]at h2
 exact⟨h1,h2.1,h2.2⟩
theorem qJ {R1:Rp α} {R2:Rp β} {R3:Rp γ} [Mono R1] [Mono R2] [Mono R3] {m1:Res (List α)} {m2:Res (List β)} {m3:Res (List γ)} (h1:SV Er t1 σ W K R1 m1) (h2:SV Er t2 σ W K R2 m2) (h3:SV Er t3 σ W K R3 m3):IV Er (se K (ai t1 (ai t2 (ai t3 aR)))) σ W (isT3 K R1 R2 R3) (m1.bind fun xs=>m2.bind fun ys=>m3.bind fun zs=>.ok (xs.zip (ys.zip zs))):=fun W1 e1 P k=>
 h1 W1 e1 _ ((Res.okE_bind k).imp fun xs kx v W2 e2 hv=>h2 W2 (e1.trans e2) _ ((Res.okE_bind kx).imp fun ys ky u W3 e3 hu=>h3 W3 ((e1.trans e2).trans e3) _ ((Res.okE_bind ky).imp fun zs kz r W4 e4 hr=>by
  obtain⟨c1,vs,rfl,a1,b1⟩:=SrcR.mono hv (e3.trans e4).g
  obtain⟨c2,us,rfl,a2,b2⟩:=SrcR.mono hu e4.g
  obtain⟨c3,rs,rfl,a3,b3⟩:=hr
  refine⟨c1,c2,c3,vs,us,rs,rfl,a1 W4 (.refl _),a2 W4 (.refl _),a3 W4 (.refl _),kz _ W4 ((e2.trans e3).trans e4) fun W5 e5=>⟨fun i ab hab=>?_,?_⟩⟩
  ·obtain⟨q1,q2,q3⟩:=oR hab
   obtain⟨x,hx,rx⟩:=b1.get q1
   obtain⟨y,hy,ry⟩:=b2.get q2
   obtain⟨z,hz,rz⟩:=b3.get q3
   refine⟨⟨vs,us,rs,x,y,z,a1 W5 e5,a2 W5 e5,a3 W5 e5,hx,hy,hz⟩,fun o H' ⟨p,x',y',z',hp,z0,z1,z2,z3,z4⟩=>⟨W5.new p (.tup [x',y',z']),by rw[z4];rfl,.new _ hp,p,x',y',z',z0,SqT.of aJ,?_,?_,?_⟩⟩
   ·have:=z1 vs (a1 W5 e5);rw[hx]at this;cases this
    exact Mono.mono (e5.trans (Ext.new _ hp).g) rx
   ·have:=z2 us (a2 W5 e5);rw[hy]at this;cases this
    exact Mono.mono (e5.trans (Ext.new _ hp).g) ry
   ·have:=z3 rs (a3 W5 e5);rw[hz]at this;cases this
    exact Mono.mono (e5.trans (Ext.new _ hp).g) rz
  ·refine⟨vs,us,rs,a1 W5 e5,a2 W5 e5,a3 W5 e5,?_⟩
   rw[List.length_zip,List.length_zip,b1.1,b2.1,b3.1]
   omega)))
theorem oS {ma:Res (List Int)} (ha:EV Er ta σ W (pk isI) ma):EVo Er (cX (fun xs H Q=>∃(p:Addr) (ns:List Int),xs=[.ref p]∧SqL K H p (ns.map V.int)∧ns.length< 64∧∀(q:Addr) (ns':List Int),H q=none→ns'.Perm ns→ns'.Pairwise (· ≤ ·)→Q (.ref q) (cr H q (.lst (ns'.map V.int)))) (ai ta aR)) σ W isI (ma.bind fun a=>oB a):=fun W1 e1 Q k=>
 ha W1 e1 _ ((Res.okE_bind k).imp fun a ka x W2 e2 hx=>by
  obtain⟨p,vs,rfl,h1,h2⟩:=hx
  obtain⟨h3,h4⟩:=bg ka
  refine⟨p,a,rfl,SqL.of (by rw[h1,h2.ints]),h3,fun q ns' hq hp hs=>?_⟩
  rw[mX hp hs]
  exact kX (vs:=(fP a).map V.int) ⟨by simp,fun i v m e1 e2=>by rw[List.getElem?_map,e2]at e1;cases e1;rfl⟩ e2 h4 q hq)
theorem jP {R1:Rp α} {R2:Rp β} {d:Addr} {x y:V} {a:α} {b:β} (T:∀H,SqT K H d [x,y]) (h1:∀H,R1 H a x) (h2:∀H,R2 H b y):EV Er (tC (.ref d)) σ W (sh (isT2 K R1 R2)) (.ok (a,b)):=fun W1 _ Q k=>k _ W1 (.refl _) ⟨d,x,y,rfl,T _,h1 _,h2 _⟩
theorem gI (i:Int):∀H,isI H i (.int i):=fun _=>rfl
end
end Wb
namespace Mi
theorem gp {a b:Int} (h:0< b):j5 a b=.ok (a% b):=bm h
theorem jQ {a b:Int} (h1:0< b) (h2:b< 1073741824):fZ a b=.ok (a/ b):=bm ⟨h1,h2⟩
theorem gW {a b:Int} (h1: -18446744073709551616< a) (h2:a< 18446744073709551616):gM a b=.ok (a*b):=bm (.inl ⟨h1,h2⟩)
theorem oT {a b:Int} (h1: -18446744073709551616< b) (h2:b< 18446744073709551616):gM a b=.ok (a*b):=bm (.inr ⟨h1,h2⟩)
theorem fv {α:Type} {xs:List α} {x:α} (h:xs.length< 100000):gk xs x=.ok (xs++ [x]):=bm h
theorem eX {a b:Tx} (h:a.length+b.length≤100000):fM a b=.ok (a++b):=bm h
theorem qK {α:Type} {a b:List α} (h:a.length+b.length≤100000):sT a b=.ok (a++b):=bm h
theorem qL {a:Tx} (h:a.length≤100000):sV a=.ok (a.length:Int):=bm h
theorem qM {c:Nat} {n:Int} (h0:0≤n) (h1:n≤100000):sU [c] n=.ok (List.replicate n.toNat c):=bm ⟨h0,h1⟩
theorem lQ {a:Tx} {lo hi:Option Int} (h:a.length≤100000):mW a lo hi=.ok (cut a lo hi):=bm h
theorem jR {xs:List Tx} (h:xs.flatten.length≤100000):jI xs=.ok xs.flatten:=bm h
theorem iC {n:Nat} (h:n≤100000):dN (n:Int)=.ok ((List.range n).map fun(i:Nat)=>(i:Int)):=by
 unfold dN;rw[bm ⟨by omega,by omega⟩];simp[gO]
theorem jc {α:Type} {xs:List α} {i:Int} (h0:0≤i) (h1:i< xs.length):∃x,ic xs i=.ok x∧xs[i.toNat]? =some x:=by
 obtain⟨h,e⟩:=ou h0 h1
 exact⟨xs[i.toNat],by unfold ic;rw[e];rfl,by simp[h]⟩
theorem fw {x:Tx} {i:Int} (h0:0≤i) (h1:i< x.length) (h2:x.length≤100000):∃c,dM x i=.ok [c]∧x[i.toNat]? =some c:=by
 obtain⟨h,e⟩:=ou h0 h1
 refine⟨x[i.toNat],?_,by simp[h]⟩
 unfold dM;rw[bm h2];show(qA (qd x i)).bind _=_;rw[e];rfl
theorem tj {x:Tx} {i:Int} (h0:0≤i) (h1:i< x.length) (h2:x.length≤100000):dM x i=.ok [x[i.toNat]?.getD 0]:=by
 obtain⟨c,e,h⟩:=fw h0 h1 h2
 rw[e,h];rfl
theorem tm {α:Type} [DecidableEq α] {a b:α} (h:a=b):u0 a b=.ok true:=if_pos h
theorem oU {xs:List Int} (h:xs.length< 64):oB xs=.ok (fP xs):=bm h
theorem cn {α S:Type} {f:α→S→Res S} (I:List α→S→Prop) (xs:List α) (s0:S) (h0:I [] s0) (step:∀pre a post s,xs=pre++a::post→I pre s→∃s',f a s=.ok s'∧I (pre++ [a]) s'):
  ∃s,bC f xs s0=.ok s∧I xs s:=by
 have key:∀(post pre:List α) (s:S),xs=pre++post→I pre s→∃s',bC f post s=.ok s'∧I xs s':=by
  intro post
  induction post with
  | nil=>intro pre s e h;rw[List.append_nil]at e;subst e;exact⟨s,rfl,h⟩
  | cons a r ih =>
   intro pre s e h
   obtain⟨s1,e1,h1⟩:=step pre a r s e h
   obtain⟨s2,e2,h2⟩:=ih (pre++ [a]) s1 (by rw[e];simp) h1
   exact⟨s2,by unfold bC;rw[e1];exact e2,h2⟩
 exact key xs [] s0 rfl h0
theorem iD {α γ:Type} {f:α→Unit→Res (Fl γ Unit)} {g:α→Option γ} (xs:List α) (step:∀a∈xs,f a ()=.ok (match g a with | some r=>.rt r | none=>.nx ())):dA f xs ()=.ok (match xs.findSome? g with | some r=>.rt r | none=>.nx ()):=by
 induction xs with
 | nil=>rfl
 | cons a r ih =>
  unfold dA
  rw[step a (List.mem_cons_self ..)]
  cases h:g a with
  | some z=>simp[h,oA]
  | none=>simp only[Res.bind_ok',oA,List.findSome?_cons,h];exact ih fun b hb=>step b (List.mem_cons_of_mem _ hb)
theorem jS {α β:Type} {f:α→Res (Option β)} {g:α→Option β} :∀{xs:List α},(∀x∈xs,f x=.ok (g x))→fo f xs=.ok (xs.filterMap g)
 | [],_=>rfl
 | a :: r, h => by
  unfold fo
  rw[h a (List.mem_cons_self ..),Res.bind_ok',jS fun x hx=>h x (List.mem_cons_of_mem _ hx),Res.bind_ok',List.filterMap_cons]
  cases g a <;> rfl
theorem oV {α β:Type} {f:α→Res (Option β)} {g:α→Option β} {xs:List α} (hl:xs.length≤100000) (h:∀x∈xs,f x=.ok (g x)):lG xs f=.ok (xs.filterMap g):=by
 unfold lG;rw[bm hl,Res.bind_ok',jS h]
theorem lR (l:List Nat):((l.map fun c=>[c]):List Tx).flatten=l:=by induction l with | nil=>rfl | cons a r ih=>simp[ih]
theorem jT {α:Type} (l:List α) (k:Nat):cut l none (some (k:Int))=l.take k:=by
 unfold cut sIx;simp only[]
 rw[if_neg (by omega),Int.toNat_natCast];simp[List.take_eq_take_iff]
theorem oW {α:Type} (l:List α) (k:Nat):cut l (some (k:Int)) none=l.drop k:=by
 unfold cut sIx;simp only[]
 rw[if_neg (by omega),Int.toNat_natCast]
 by_cases h:k≤l.length
 ·rw[Nat.min_eq_left h,List.take_of_length_le (by simp)]
 ·rw[Nat.min_eq_right (by omega),List.drop_eq_nil_of_le (by omega),List.drop_eq_nil_of_le (by omega)];simp
theorem cZ {x:Tx} {t:Tx} (h:t∈bd x):∃c∈x,t=[c]:=by
 unfold bd at h;obtain⟨c,hc,e⟩:=List.mem_map.mp h;exact⟨c,hc,e.symm⟩
theorem qN (a:Int):0≤bi a:=by unfold bi;split <;> omega
section
variable {α β:Type} {P:α→Prop} {Q:β→Prop}
theorem jU {m:Res α} {f:α→Res β} (h:m.Ok fun a=>(f a).Ok Q):(m.bind f).Ok Q:=Res.bind_ok h
theorem qe {c:Prop} [Decidable c] {A B:Res α} (h1:c→A.Ok P) (h2:¬c→B.Ok P):(if decide c=true then A else B).Ok P:=by
 by_cases h:c
 ·rw[decide_eq_true h];exact h1 h
 ·rw[decide_eq_false h];exact h2 h
theorem iE {a:α} (h:P a):(Res.ok a).Ok P:=h
end
end Mi
namespace L2
open PySem PySem.Spec PyProof.Rows Wb
end L2
namespace L2
open PySem PySem.Spec PyProof.Rows
end L2
namespace Wb
open PySem L2 Mi
variable {Er:Nat→Prop}
end Wb
namespace Mi
end Mi
namespace PySem
open Sem (wp)
open AutoSeq1 (wpAny_loadPart')
end PySem
namespace L2
open PySem PySem.Spec PyProof.Rows
end L2
namespace L2
end L2
namespace Wb
open PySem L2 Mi
variable {Er:Nat→Prop}
section
variable {α β γ δ:Type} {t t1 t2 t3 t4 ta tb tc td:TE} {σ:St} {W W0 W':Wd} {K:PySem.W.Frag} {w:World}
def eY (K:PySem.W.Frag):Nat→Sp
 | 0=>fun _ _ _ _=>False
 | n+1=>fun vs H Q _=>∃v u,vs=[v,u]∧((EqK K H n v u∧∀H',Same H H'→Q (.bl true) H')∨∃x y,v=.str x∧u=.str y∧Q (.bl (decide (V.str x=V.str y))) H)
theorem gX [DecidableEq α] {R:Rp α} [Mono R] {n N:Nat} [EqR K R n] {E:XK} {ma mb:Res α} (hn:n< N) (ha:EV Er ta σ W (sh R) ma) (hb:EV Er tb σ W (sh R) mb):EV Er (aP (eY K N) [] E (ai ta (ai tb aR))) σ W (sh isB) (ma.bind fun a=>mb.bind fun b=>u0 a b):=fun W1 e1 Q k=>
 ha W1 e1 _ ((Res.okE_bind k).imp fun a ka x W2 e2 hx=>hb W2 (e1.trans e2) _ ((Res.okE_bind ka).imp fun b kb y W3 e3 hy=>by
  unfold u0 at kb
  by_cases z:a=b
  ·rw[if_pos z]at kb
   subst z
   cases N with
   | zero=>omega
   | succ N =>
    refine⟨x,y,rfl,.inl ⟨EqR.eq W3.H a x y N (by omega) (Mono.mono W3.ok (Mono.mono (R:=R) e3.g hx)) (Mono.mono W3.ok hy),fun H' hs=>?_⟩⟩
    exact kb (.bl true) ⟨W3.G,H',W3.ok.trans hs⟩ ⟨e2.g.trans e3.g,(e2.h.trans e3.h).trans hs,fun p hp=>(e2.trans e3).k p hp⟩ rfl
  ·rw[if_neg z]at kb;exact kb.elim))
theorem qO {D:Ends} {i:Nat} {te:TE} {a:Int} {m:Res Int} {f:Int→Int→Int} {σ':Int→St} (h:EV Er te σ W (sh isI) m) (q:m.OkE Er fun b=>∀W',Ext W W'→D.nx (σ' (f a b)) W'.H) (hi:σ[i]? =some (some (.int a)):=by rfl) (hσ:∀c,σ.set i (some (.int c))=σ' c:=by intro _;rfl):uh i te (w8 f) D σ W.H:=
 ⟨.int a,hi,h W (.refl _) _ (q.imp fun b kb v W' e hv=>by cases hv;exact⟨a,b,rfl,rfl,by have:=kb W' e;rw[←hσ]at this;exact this⟩)⟩
theorem EV.go {W1:Wd} {R:Rw α} {m:Res α} {Q:VK} (e:Ext W W1) (h:EV Er t σ W R m) (k:m.OkE Er fun a=>∀v W2,Ext W1 W2→R W2 a v→Q v W2.H):t σ W1.H Q:=h W1 e Q k
end
end Wb
namespace Mi
end Mi
namespace L2
open PySem PySem.Spec PyProof.Rows
end L2
namespace L2
open PySem PySem.Spec PyProof.Rows
end L2
namespace L2
open PySem PySem.Spec PyProof.Rows
end L2
namespace L2
open PySem PySem.Spec PyProof.Rows
end L2
namespace L2
open PySem PySem.Spec PyProof.Rows
end L2
namespace L2
open PySem PySem.Spec PyProof.Rows
end L2
namespace L2
open PySem PySem.Spec PyProof.Rows
end L2
namespace L2
open PySem PySem.Spec PyProof.Rows
end L2
namespace L2
open PySem PySem.Spec PySem.Calls PyProof.Rows
open PySem.W (findIn findObj mroIn looks_findIn looks_find looks_mroIn class_get KitX clsIn Frag)
end L2
namespace L2
open PySem PySem.Spec PySem.Calls PyProof.Rows
end L2
namespace L2
open PySem PySem.Spec PySem.Calls PyProof.Rows Mi
end L2
namespace Wb
open PySem L2 Mi
end Wb
namespace Wb
open PySem L2 Mi
end Wb
namespace Wb
open PySem L2 Mi
end Wb
namespace Wb
open PySem L2 Mi
end Wb
namespace Wb
open PySem L2 Mi
open PySem.W (findIn findObj mroIn kitOne kitCls clsIn typeIn subIn specialIn takesIn Frag)
end Wb
namespace Wb
open PySem L2 Mi
end Wb
namespace L2
open PySem PySem.Spec PyProof.Rows
end L2
namespace Wb
open PySem L2 Mi
end Wb
namespace Mi
def eI {S:Type} (c:S→Res Bool) (f:S→Res S):Nat→S→Res S
 | 0,_=>.stuck
 | n+1,s=>(c s).bind fun b=>if b then(f s).bind fun s'=>eI c f n s' else .ok s
end Mi
namespace Mi
end Mi
namespace Wb
open PySem L2 Mi
section
variable {Er:Nat→Prop} {K:PySem.W.Frag} {W0 W W':Wd} {p:Addr} {s:List Fr} {te:TE} {σ:St} {D:Ends} {i a b:Nat} {r:TS} {E:XK}
theorem oX {S:Type} {tc:TT} {tb:TS} {c:S→Res Bool} {f:S→Res S} {s0:S} {P:S→Prop} {n:Nat} (Iv:S→Wd→St→Prop) (q:(eI c f n s0).OkE Er P) (h0:Iv s0 W σ)
  (hm:∀W1 W2 s σ1,Ext W1 W2→Iv s W1 σ1→Iv s W2 σ1)
  (hc:∀W1 s σ1,Same W.G W1.G→Iv s W1 σ1→TV Er tc σ1 W1 (c s))
  (hs:∀Wb W1 s σ1 P',Same W.G W1.G→Same Wb.G W1.G→Iv s W1 σ1→(f s).OkE Er P'→tb {D with nx:=kC Wb Iv P',ct:=kC Wb Iv P',bk:=D.nx} σ1 W1.H)
  (hd:∀s W1 σ1,Same W.G W1.G→Iv s W1 σ1→P s→D.nx σ1 W1.H):kG tc tb D σ W.H:=by
 refine⟨fun m σ' H'=>∃s' W',W'.H=H'∧Same W.G W'.G∧Iv s' W' σ'∧(eI c f m s').OkE Er P,⟨n,s0,W,rfl,.refl _,h0,q⟩,?_⟩
 rintro m σ1 H1 ⟨s,W1,rfl,e1,iv,k⟩
 cases m with
 | zero=>exact k.elim
 | succ m =>
  refine hc W1 s σ1 e1 iv W1 (.refl _) _ ((Res.okE_bind k).imp fun b kb W2 e2=>?_)
  cases b with
  | true =>
   refine⟨kC W Iv fun s'=>(eI c f m s').OkE Er P,fun σ' H' ⟨s',W',z1,z2,z3,z4⟩=>⟨m,Nat.lt_succ_self _,s',W',z1,z2,z3,z4⟩,?_⟩
   exact hs W W2 s σ1 _ (e1.trans e2.g) (e1.trans e2.g) (hm W1 W2 s σ1 e2 iv) (Res.okE_bind kb)
  | false=>exact hd s W2 σ1 (e1.trans e2.g) (hm W1 W2 s σ1 e2 iv) kb
section
variable {r:TS}
theorem kY {S:Type} {tc:TT} {tb:TS} {c:S→Res Bool} {f:S→Res S} {s0:S} {P:S→Prop} {n:Nat} (Iv:S→Wd→St→Prop) (q:(eI c f n s0).OkE Er P) (h0:Iv s0 W σ)
  (hm:∀W1 W2 s σ1,Ext W1 W2→Iv s W1 σ1→Iv s W2 σ1)
  (hc:∀W1 s σ1,Same W.G W1.G→Iv s W1 σ1→TV Er tc σ1 W1 (c s))
  (hs:∀Wb W1 s σ1 P',Same W.G W1.G→Same Wb.G W1.G→Iv s W1 σ1→(f s).OkE Er P'→tb {D with nx:=kC Wb Iv P',ct:=kC Wb Iv P',bk:=r D} σ1 W1.H)
  (hd:∀s W1 σ1,Same W.G W1.G→Iv s W1 σ1→P s→r D σ1 W1.H):em (kG tc tb) r D σ W.H:=oX (D:={D with nx:=r D}) Iv q h0 hm hc hs hd
end
end
end Wb
namespace Wb
open PySem L2 Mi
end Wb
namespace L2
open PySem PySem.Spec PyProof.Rows
end L2
namespace Wb
open PySem L2 Mi
end Wb
namespace L2
open PySem PySem.Spec PySem.Calls PyProof.Rows Mi
end L2
namespace Wb
open PySem L2 Mi
end Wb
namespace L2
open PySem PySem.Spec PyProof.Rows
end L2
namespace L2
open PySem PySem.Spec PyProof.Rows
end L2
namespace Wb
open PySem L2 Mi
end Wb
namespace L2
open PySem PySem.Spec PyProof.Rows
end L2
namespace Wb
open PySem L2 Mi
end Wb
namespace Wb
open PySem L2 Mi
end Wb
namespace Mi
end Mi
namespace Wb
open PySem L2 Mi
end Wb
namespace Wb
open PySem L2 Mi
end Wb
namespace Wb
open PySem L2 Mi
end Wb
namespace L2
open PySem PySem.Spec PyProof.Rows
def cN (tg iter:Expr) (ifs:List Expr) (body:Sem Unit) (it:Value) (env:Env) (c:Code):Sem Fin:=do
 standAt iter.pos
 match ←pyNext it with
 | none=>pure (.done .next)
 | some v =>
  letOwnedTupleGo tg it v
  assign tg env v
  let mut ok:=true
  for c in ifs do
   if ok then ok ←isTrue c env (eval c env)
  if ok then body
  again c
structure CompE (e:Expr):Prop where
 a:∀(A:Around) (d:Nat) (it acc:Value) (env:Env),A.under (.compLoop e d it acc env)=A
 b:∀(A:Around) (d:Nat) (it acc:Value) (env:Env),A.under (.compStart e d it acc env)=A
 c:∀(prog:Program) (w:World) (d:Nat) (it acc:Value) (env:Env),(model prog w).den (.compLoop e d it acc env)=(compTurn e d it acc env).onRaise (fun x=>do noteFrame x env;theTreesLotGoes x)
 d:∀(prog:Program) (w:World) (d:Nat) (it acc:Value) (env:Env),(model prog w).den (.compStart e d it acc env)=(compStart e d it acc env).onRaise (fun x=>do noteFrame x env;standAt theWindowsPlace)
theorem CompE.set {k:Expr} {gs:List Comprehension} {sc:Scope} {pos:Pos} :CompE (.SetComp k gs sc pos):=⟨fun _ _ _ _ _=>rfl,fun _ _ _ _ _=>rfl,fun _ _ _ _ _ _=>rfl,fun _ _ _ _ _ _=>rfl⟩
section
variable {prog:Program} {w:World} {A:Around} {R:Result→Shared→Prop} {s:Shared}
theorem ie {e:Expr} (ce:CompE e) {d:Nat} {tg iter:Expr} {ifs:List Expr} {it acc:Value} {env:Env} {body:Sem Unit} (ht:compTurn e d it acc env=cN tg iter ifs body it env (.compLoop e d it acc env)) (I:Nat→Shared→Prop)
  (turn:∀n s,I n s→wpAny (model prog w) A (pyNext it) (fun r s₁=>match r with
   | none=>R (.ok .next) s₁
   | some v=>wpAny (model prog w) A (letOwnedTupleGo tg it v) (fun _ s₁'=>wpAny (model prog w) A (assign tg env v) (fun _ s₂=>
     wpAny (model prog w) A (forIn ifs true fun c r=>if r=true then do let ok ←isTrue c env (eval c env);pure (ForInStep.yield ok)else pure (ForInStep.yield r)) (fun ok s₃=>
      if ok=true then wpAny (model prog w) A body (fun _ s₅=>∃m,m< n∧I m s₅) (fun _ _=>False) s₃
      else ∃m,m< n∧I m s₃) (fun _ _=>False) s₂) (fun _ _=>False) s₁') (fun _ _=>False) s₁) (fun _ _=>False) s)
  (n:Nat) (h:I n s):codeAny (model prog w) A (.compLoop e d it acc env) R s:=by
 refine codeAny_loop rfl I (fun n s hI=>?_) n h
 rw[ce.a,ce.c]
 refine wpAny_noted ?_
 rw[ht]
 unfold cN
 refine wpAny_bind (wpAny_standAt (wpAny_bind (wpAny_mono (turn n s hI) (fun r s₁ h₁=>?_) fun _ _ h'=>h'.elim)))
 cases r with
 | none=>exact wpAny_pure h₁
 | some v =>
  refine wpAny_bind (wpAny_mono h₁ (fun _ s₁' h₁'=>?_) fun _ _ h'=>h'.elim)
  refine wpAny_bind (wpAny_mono h₁' (fun _ s₂ h₂=>wpAny_bind (wpAny_mono h₂ (fun ok s₃ h₃=>?_) fun _ _ h'=>h'.elim)) fun _ _ h'=>h'.elim)
  cases ok with
  | true =>
   rw[if_pos rfl]at h₃
   exact wpAny_bind (wpAny_mono h₃ (fun _ s₄ h₄=>wpAny_pure ⟨rfl,h₄⟩) fun _ _ h'=>h'.elim)
  | false =>
   rw[if_neg Bool.false_ne_true]at h₃
   exact wpAny_pure ⟨rfl,h₃⟩
theorem fb {e:Expr} (ce:CompE e) {d:Nat} {g:Comprehension} {it acc:Value} {env:Env} (hg:(clausesOf e)[d]? =some g) (ha:g.is_async=0)
  (h0:codeAny (model prog w) A (.compLoop e d it acc env) R s)
  (h:wpAny (model prog w) A (pyIter it) (fun it' s'=>codeAny (model prog w) A (.compLoop e d it' acc env) R s') (notedBy (model prog w) A env fun x s'=>R (.error x) s') s):
  codeAny (model prog w) A (.compStart e d it acc env) R s:=by
 refine codeAny_of_tree ?_
 rw[ce.b,ce.d]
 refine wpAny_notedAt ?_
 unfold compStart
 rw[hg]
 simp only[Option.elim_some,ha,bne_self_eq_false,Bool.false_eq_true,if_false]
 refine wpAny_bind (wpAny_askSetting (wpAny_ite ?_))
 split
 ·first
   | exact wpAny_bind (wpAny_pure (wpAny_pure (And.intro rfl h0)))
   | exact wpAny_pure (And.intro rfl h0)
 ·first
   | exact wpAny_bind (wpAny_rule (wpAny_bind (wpAny_standAt (wpAny_bind (wpAny_mono h (fun it' s' h'=>wpAny_pure (And.intro rfl h')) fun _ _ x=>x)))))
   | (refine wpAny_bind (wpAny_rule ?_);exact wpAny_bind (wpAny_standAt (wpAny_bind (wpAny_mono h (fun it' s' h'=>wpAny_pure (And.intro rfl h')) fun _ _ x=>x))))
end
def qP (iter:Expr) (e:Expr) (d:Nat) (env:Env) (acc:Value):Sem Unit:=do
        let x ←eval iter env
        standAt iter.pos
        let x ←foldedSetIterable iter env x
        let _ ←runOwn (.compStart e d (←holding [x] (pyIter x)) acc env) env
abbrev TB:=Addr→St→Hp→(Hp→Prop)→Prop
def PB (Y:Cx) (body:Value→Sem Unit) (tb:TB):Prop:=∀(D:Addr) (pins:List (Addr×Obj)) (s:Shared) (σ:St) (H:Hp) (N:Hp→Prop),Inv Y pins σ H s→tb D σ H N→
 wpAny (model Y.prog Y.w) Y.A (body (.ref D)) (fun _ s'=>∃σ' H',Inv Y pins σ' H' s'∧(∀(j:Nat) (v:V),σ[j]? =some (some v)→σ'[j]? =some (some v))∧N H') (fun _ _=>False) s
def oY (g:TG) (tf:TT) (tb:TB) (D:Addr) (σ:St) (H1:Hp) (N:Hp→Prop) (J:It):Prop:=∃W:Nat→Nat→Hp→Prop,(∃m,W 0 m H1)∧∀i m H,W i m H→
 ((J.stop i H∧N H)∨(J.go i H∧∃M:Hp→Prop,(∀H',M H'→∃m',m'< m∧W (i+1) m' H')∧∀x H',J.yld i H x H'→g x σ H' fun σ2 H2=>Keep σ σ2∧tf σ2 H2 fun b H3=>if b=true then tb D σ2 H3 M else M H3))
def tq (wi:TI) (g:TG) (tf:TT) (tb:TB):TB:=fun D σ H N=>wi σ H fun J H1=>oY g tf tb D σ H1 N J
section
variable {Y:Cx} {tg iter elt kx vx:Expr} {ifs:List Expr} {g:TG} {tf:TT} {tb:TB} {body:Value→Sem Unit} {te tk tv:TE} {wi:TI}
theorem jV (hc:Y.calm=true) (hxe:Y.xe=fun _ _=>False) (hg:PG Y tg g) (hf:oh Y ifs tf) (hb:PB Y body tb) {e:Expr} (ce:CompE e) {d:Nat} {it:Addr} {fp:List Addr} {tn:Nat→Heap→Prop} {J:It} (T:Turn Y.prog Y.w Y.K tg J fp it tn)
  {pins:List (Addr×Obj)} {s:Shared} {σ:St} {H:Hp} {D:Addr} {N:Hp→Prop} {R:Result→Shared→Prop} (I:Inv Y pins σ H s) (st:tn 0 s.heap) (f:∀b∈fp,FpOk Y pins H b) (w:oY g tf tb D σ H N J)
  (ht:compTurn e d (.ref it) (.ref D) Y.env=cN tg iter ifs (body (.ref D)) (.ref it) Y.env (.compLoop e d (.ref it) (.ref D) Y.env))
  (fin:∀σ' H' s',Inv Y pins σ' H' s'→(∀(j:Nat) (v:V),σ[j]? =some (some v)→σ'[j]? =some (some v))→N H'→R (.ok .next) s'):
  codeAny (model Y.prog Y.w) Y.A (.compLoop e d (.ref it) (.ref D) Y.env) R s:=by
 obtain⟨W,⟨m0,w0⟩,turn⟩:=w
 have stat:∀{H':Hp},(∀b∈fp,H' b=none)→∀b∈fp,FpOk Y pins H' b:=fun hn b hb=>⟨hn b hb,(f b hb).2⟩
 refine ie ce ht (fun n s'=>∃i σ' H',Inv Y pins σ' H' s'∧tn i s'.heap∧(∀b∈fp,H' b=none)∧(∀(j:Nat) (v:V),σ[j]? =some (some v)→σ'[j]? =some (some v))∧W i n H') ?_ m0 ⟨0,σ,H,I,st,fun b hb=>(f b hb).1,fun _ _ e=>e,w0⟩
 rintro n s3 ⟨i,σ3,H3,I3,st3,fr3,kp,w3⟩
 rcases turn i n H3 w3 with⟨stop,qn⟩ | ⟨go,M,hM,step⟩
 ·refine bF (T.done Y rfl rfl rfl hc i pins s3 σ3 H3 _ I3 (stat fr3) st3 stop) fun r s4 ⟨hr,I4⟩=>?_
  subst hr
  exact fin σ3 H3 s4 I4 kp qn
 ·have I3':Inv Y pins σ H3 s3:=I3.weak (by rw[I3.len,I.len]) kp
  refine bF (T.item Y rfl rfl rfl hc i pins s3 σ H3 _ I3' (stat fr3) st3 go) fun r s4 ⟨u,hr,h4⟩=>?_
  subst hr
  refine bF h4 fun _ s5 ⟨x,H5,I5,r5,y5,st5,fr5⟩=>?_
  have I5':=I5.pinned (stat fr5) (T.obj _ _ st5)
  have hg':=hg _ s5 σ H5 x u _ I5' r5 (step x H5 y5)
  rw[hxe]at hg'
  refine bF hg' fun _ s6 ⟨σ6,H6,I6,kp6,q6⟩=>?_
  have hf':=hf _ s6 σ6 H6 _ I6 q6
  rw[hxe]at hf'
  refine bF hf' fun ok s7 ⟨H7,I7,q7⟩=>?_
  have again:∀{s8:Shared} {σ7:St} {H7:Hp},Inv Y (pins++fJ fp s5.heap) σ7 H7 s8→(∀(j:Nat) (v:V),σ6[j]? =some (some v)→σ7[j]? =some (some v))→M H7→∃m,m< n∧∃i σ' H',Inv Y pins σ' H' s8∧tn i s8.heap∧(∀b∈fp,H' b=none)∧(∀(j:Nat) (v:V),σ[j]? =some (some v)→σ'[j]? =some (some v))∧W i m H':=fun {s8 σ7 H7} I7 k7 n7=>by
   obtain⟨m',hm,w7⟩:=hM H7 n7
   refine⟨m',hm,i+1,σ7,H7,I7.unpinned,T.keep _ _ _ st5 fun b hb o e=>(I7.pin (b,o) (List.mem_append_right _ (List.mem_append_right _ (d4 hb e)))).1,fun b hb=>?_,fun j v e=>k7 j v (Keep.get kp6 e),w7⟩
   obtain⟨o,e,d⟩:=T.obj _ _ st5 b hb
   exact(I7.pin (b,o) (List.mem_append_right _ (List.mem_append_right _ (d4 hb e)))).2.1
  cases ok with
  | false =>
   rw[if_neg Bool.false_ne_true]at q7 ⊢
   exact again I7 (fun _ _ e=>e) q7
  | true =>
   rw[if_pos rfl]at q7 ⊢
   exact bF (hb D _ s7 σ6 H7 _ I7 q7) fun _ s8 ⟨σ8,H8,I8,k8,q8⟩=>again I8 k8 q8
theorem tt (hc:Y.calm=true) (hxe:Y.xe=fun _ _=>False) (hi:PI Y tg iter wi) (hg:PG Y tg g) (hf:oh Y ifs tf) {body:Env→Value→Sem Unit} (hb:PB Y (body Y.env) tb) {e:Expr} (ce:CompE e) {d:Nat} (hcl:(clausesOf e)[d]? =some ⟨tg,iter,ifs,0⟩)
  (ht:∀env it acc,compTurn e d it acc env=cN tg iter ifs (body env acc) it env (.compLoop e d it acc env):=by intro _ _ _;rfl) (hs:∀x,foldedSetIterable iter Y.env x=pure x:=by intro _;rfl):
  PB Y (qP iter e d Y.env) (tq wi g tf tb):=by
 intro D pins s σ H N I h
 have hi':=hi pins s σ H _ I h
 rw[hxe]at hi'
 refine wpAny_bind (bF hi' fun v s1 h1=>wpAny_bind (wpAny_standAt (wpAny_bind (wpAny_of_eq (hs v) (wpAny_bind (wpAny_holding (bF h1 fun itv s2 h2=>?_)))))))
 obtain⟨it,fp,tn,J,H2,rfl,I2,T,st2,f2,w⟩:=h2
 have lp:codeAny (model Y.prog Y.w) Y.A (.compLoop e d (.ref it) (.ref D) Y.env) (fun r s'=>match r with | .ok f=>(∃σ' H',Inv Y pins σ' H' s'∧(∀(j:Nat) (v:V),σ[j]? =some (some v)→σ'[j]? =some (some v))∧N H') | .error x=>cameBackBy (model Y.prog Y.w) Y.A Y.env (fun _ _=>False) x s') s2:=
  jV hc hxe hg hf hb ce T I2 st2 f2 w (ht _ _ _) fun σ' H' s' I' k' n'=>⟨σ',H',I',k',n'⟩
 refine wpAny_bind (wpAny_runOwn (fb ce hcl rfl ?_ ?_))
 ·exact codeAny_mono lp fun r s' h=>by
   cases r with
   | ok f=>exact wpAny_pure h
   | error x=>exact h
 ·refine T.self _ 0 _ _ _ st2 (codeAny_mono lp fun r s' h=>by
   cases r with
   | ok f=>exact wpAny_pure h
   | error x=>exact h)
end
end L2
namespace L2
open PySem PySem.Spec PyProof.Rows
section
variable {X:Cx} {scope:Scope} {N:List Str} {cap:List (Option Nat)} {tg iter:Expr} {ifs:List Expr} {pos:Pos} {wi:TI} {g:TG} {tf:TT} {tb:TB} {body:Env→Value→Sem Unit}
theorem nc {pins:List (Addr×Obj)} {σ σ':St} {H2 H':Hp} {s2 s':Shared} {fp:List Addr} {C:Addr} {h':Heap} (I2:Inv X pins σ H2 s2) (f2:∀b∈fp,FpOk X pins H2 b)
  (hC:s2.heap.objs.size≤C) (I':Inv (ay X scope N s2 H2 C fp) [] σ' H' s') (hs:Heap.SameBut C s'.heap h'):Inv X pins σ H' {s' with heap:=h'} :=by
 have nC:H' C=none:=I'.free
 have lt2:∀b o,s2.heap.get? b=some o→b≠C:=fun b o e=>Nat.ne_of_lt (Nat.lt_of_lt_of_le (Heap.lt_size e) hC)
 have hk:∀b o,b≠C→s'.heap.get? b=some o→h'.get? b=some o:=fun b o hb e=>(hs.2 b hb).trans e
 have B:Un (frs X.stack) fp H2 H' s2.heap s'.heap:=I'.base
 have tr:∀b u,H' b=some u→b≠C:=fun b u e z=>by rw[z,nC]at e;cases e
 refine I2.call' (ch:=fp) I'.os ⟨fun b o e n hb hx=>?_,fun b o e n hb hx=>?_,fun b o e n hx=>?_,fun b o e hx=>?_,fun b xs e=>?_,fun b o u e=>?_,fun b ps e=>?_⟩ (fun b u e=>?_) I'.bare fun b hb=>⟨(f2 b hb).2.2.2.1,(f2 b hb).2.1,(f2 b hb).2.2.2.2.1,(f2 b hb).2.2.2.2.2⟩
 ·exact hk b o (lt2 b o e) (B.keep b o e n hb hx)
 ·obtain⟨sl,q⟩:=B.slot b o e n hb hx
  exact⟨sl,hk b _ (lt2 b o e) q⟩
 ·exact B.free b o e n hx
 ·obtain⟨o',q⟩:=B.there b o e hx
  exact⟨o',hk b _ (lt2 b o e) q⟩
 ·exact B.tups b xs e
 ·exact B.frzs b o u e
 ·exact B.tbls b ps e
 ·refine(I'.hok b u e).stay (fun c w' hc q=>hk c w' ?_ q) (fun c q=>q) fun c xs q=>q
  rcases hc with z | z
  ·rw[z];exact tr b u e
  ·exact tr c _ z
theorem kZ (S:CompScope X scope N cap) (hc:X.calm=true) {e:Expr} (ce:CompE e) (hcl:(clausesOf e)[0]? =some ⟨tg,iter,ifs,0⟩)
    (hg:∀s H C fp,PG (ay X scope N s H C fp) tg g) (hf:∀s H C fp,oh (ay X scope N s H C fp) ifs tf) (hb:∀s H C fp,PB (ay X scope N s H C fp) (body (ay X scope N s H C fp).env) tb)
    (ht:∀env it acc,compTurn e 0 it acc env=cN tg iter ifs (body env acc) it env (.compLoop e 0 it acc env))
    {pins:List (Addr×Obj)} {σ:St} {H3:Hp} {s3:Shared} {it D:Addr} {fp:List Addr} {tn:Nat→Heap→Prop} {J:It} {Qv:Hp→Prop} {E:Value→Shared→Prop} {RR:Addr→Result→Shared→Prop}
    (I3:Inv X pins σ H3 s3) (T:Turn X.prog X.w X.K tg J fp it tn) (st3:tn 0 s3.heap) (f3:∀b∈fp,FpOk X pins H3 b) (w:oY g tf tb D (bt cap σ) H3 Qv J)
    (fin:∀(C:Addr) (σ':St) (H':Hp) (s':Shared),s3.heap.objs.size≤C→Inv (ay X scope N s3 H3 C fp) [] σ' H' s'→Qv H'→RR C (.ok .next) s'):
    wpAny (model X.prog X.w) X.A (newFunctionEnv scope X.env.globals (bA X.env scope.names []) [] X.env.qual none .none (some X.env)) (fun cenv s₄=>
      codeAny (model X.prog X.w) X.A (.compStart e 0 (.ref it) (.ref D) {cenv with scope:=relabel scope X.env}) (RR cenv.locals) s₄) E s3:=by
  refine gJ ?_
  generalize hC:s3.heap.objs.size=C
  generalize hH4:pushCells (s3.heap.push {cls:=.type "dict",data:=.dict #[]}) scope.names=h4
  have hz3':(s3.heap.push {cls:=.type "dict",data:=.dict #[]}).objs.size=C+1:=by rw[Heap.size_push,hC]
  have ck:CellsOk h4 (C+1) (cellsFrom (C+1) scope.names []):=by
    have:=cellsFrom_ok scope.names (s3.heap.push {cls:=.type "dict",data:=.dict #[]}) (C+1) [] ⟨fun _ _ hm=>(nomatch hm),List.Pairwise.nil⟩ (by rw[hz3'];exact Nat.le_refl _)
    rw[hz3',hH4]at this
    exact this
  have k34:∀b o,s3.heap.get? b=some o→h4.get? b=some o:=fun b o e=>by rw[←hH4];exact pushCells_keeps _ _ b o (Heap.get?_push_of_some _ e)
  have hn4:h4.Ns C fun _=>none:=by
    rw[←hH4,←hC]
    exact(Heap.Ns.new s3.heap (.type "dict")).keeps (pushCells_keeps _ _)
  have hlt:∀b∈fp,b< C:=fun b hb=>by
    obtain⟨o,e,_⟩:=T.obj _ _ st3 b hb
    rw[←hC];exact Heap.lt_size e
  have hCs:s3.heap.objs.size≤C:=by rw[hC];exact Nat.le_refl _
  have IC:Inv (ay X scope N s3 H3 C fp) [] (bt cap σ) H3 {s3 with heap:=h4} :=
    gK S I3 hCs ck f3 hlt ⟨_,_,rfl⟩ hn4 fun b o e=>k34 b o e
  have okC:=IC.ok
  have fO:∀b∈fp,FpOk (ay X scope N s3 H3 C fp) [] H3 b:=fun b hb=>
    ⟨(f3 b hb).1,Nat.ne_of_lt (hlt b hb),okC.exfs b hb,.inl hb,(okC.exf b hb).2,fun p hp=>by
      have:p∈([]:List (Addr×Obj)):=hp
      cases this⟩
  have st4:tn 0 h4:=T.keep _ _ _ st3 fun b hb o e=>k34 b o e
  have loop:codeAny (model X.prog X.w) X.A (.compLoop e 0 (.ref it) (.ref D) (ay X scope N s3 H3 C fp).env) (RR C) {s3 with heap:=h4} :=
    jV (Y:=ay X scope N s3 H3 C fp) hc rfl (hg _ _ _ _) (hf _ _ _ _) (hb _ _ _ _) ce T IC st4 fO w (ht _ _ _) fun σ' H' s' I' _ q=>fin C σ' H' s' hCs I' q
  exact fb ce hcl rfl loop (T.self _ 0 _ _ _ st4 loop)
theorem ng {it acc:Value} {env:Env} {e iter2:Expr} {d:Nat} {c:Code} :cN tg iter ifs (qP iter2 e d env acc) it env c=(do
 standAt iter.pos
 match ←pyNext it with
 | none=>pure (.done .next)
 | some v =>
  letOwnedTupleGo tg it v
  assign tg env v
  let mut ok:=true
  for c in ifs do
   if ok then ok ←isTrue c env (eval c env)
  if ok then
    let x ←eval iter2 env
    standAt iter2.pos
    let x ←foldedSetIterable iter2 env x
    let _ ←runOwn (.compStart e d (←holding [x] (pyIter x)) acc env) env
  again c):=by
 unfold cN qP
 simp only[bind_assoc,pure_bind]
 all_goals rfl
variable {kx vx elt tg2 iter2 tg3 iter3:Expr} {ifs2 ifs3:List Expr} {wi2 wi3:TI} {g2 g3:TG} {tf2 tf3:TT} {te tk tv:TE} {mk:HO}
end
end L2
namespace Wb
open PySem L2 Mi
section
variable {Er:Nat→Prop} {α β γ S:Type} {K:PySem.W.Frag} {W W' W0 Wb W1 W2:Wd} {σ:St} {t ta tb te ti tk tv:TE} {i:Nat} {O:Wd→Addr→S→Prop}
theorem uI {t:TB} {D:Addr} {H:Hp} {M:Hp→Prop} (h:t D σ H M):sO σ H fun b H3=>if b=true then t D σ H3 M else M H3:=by
 show(if true=true then t D σ H M else M H)
 rw[if_pos rfl];exact h
def BV (Er:Nat→Prop) (t:TB) (σ:St) (Wb W:Wd) (O:Wd→Addr→S→Prop) (D:Addr) (m:S→Res S):Prop:=∀W1 s (N:Hp→Prop),Ext W W1→O W1 D s→(m s).OkE Er (fun s'=>∀W',Same W1.G W'.G→Ext Wb W'→O W' D s'→N W'.H)→t D σ W1.H N
theorem lS {R:Rp α} {J:It} {xs:List α} {g:TG} {tf:TT} {t:TB} {f:α→S→Res S} {D:Addr} {N:Hp→Prop} {s0:S} (hy:Yl J W R xs) (h0:Ext W W1∨Same W.G W1.G) (eb:Ext Wb W1) (o:O W1 D s0)
  (hs:∀W2 a v s (M:Hp→Prop),Same W.G W2.G→Ext Wb W2→O W2 D s→R W2.G a v→(f a s).OkE Er (fun s'=>∀W',Same W2.G W'.G→Ext Wb W'→O W' D s'→M W'.H)→g v σ W2.H fun σ2 H2=>Keep σ σ2∧tf σ2 H2 fun b H3=>if b=true then t D σ2 H3 M else M H3)
  (mono:∀W W' s,Ext W W'→O W D s→O W' D s)
  (k:(bC f xs s0).OkE Er fun s'=>∀W',Same W.G W'.G→Ext Wb W'→O W' D s'→N W'.H):oY g tf t D σ W1.H N J:=by
 have hs1:Same W.G W1.G:=h0.elim (fun e=>e.g) id
 refine⟨fun i n H=>n=xs.length- i∧i≤xs.length∧∃(W3:Wd) (s:S),W3.H=H∧Same W.G W3.G∧Ext Wb W3∧O W3 D s∧(bC f (xs.drop i) s).OkE Er fun s'=>∀W',Same W.G W'.G→Ext Wb W'→O W' D s'→N W'.H,⟨xs.length,by simp,by simp,W1,s0,rfl,hs1,eb,o,by simpa using k⟩,?_⟩
 rintro i n H ⟨rfl,hi1,W3,s,rfl,e3,eb3,o3,q⟩
 by_cases hlt:i< xs.length
 ·obtain⟨a,ha⟩:∃a,xs[i]? =some a:=⟨xs[i],by simp[hlt]⟩
  obtain⟨h1,h2⟩:=(hy W3 e3).1 i a ha
  refine .inr ⟨h1,fun H'=>∃(W3:Wd) (s:S),W3.H=H'∧Same W.G W3.G∧Ext Wb W3∧O W3 D s∧(bC f (xs.drop (i+1)) s).OkE Er fun s'=>∀W',Same W.G W'.G→Ext Wb W'→O W' D s'→N W'.H,fun H' z=>⟨xs.length- (i+1),by omega,rfl,hlt,z⟩,fun x H' hx=>?_⟩
  obtain⟨W4,rfl,e4,rx⟩:=h2 x H' hx
  rw[iA ha]at q
  exact hs W4 a x s _ (e3.trans e4.g) (eb3.trans e4) (mono _ _ _ e4 o3) rx ((Res.okE_bind q).imp fun s' ks W' z1 z2 z3=>⟨W',s',rfl,(e3.trans e4.g).trans z1,z2,z3,ks⟩)
 ·have e:i=xs.length:=by omega
  subst e
  rw[List.drop_length]at q
  exact .inl ⟨(hy W3 e3).2,q W3 e3 eb3 o3⟩
theorem tu {R:Rp α} {wi:TI} {g:TG} {tf:TT} {t:TB} {mi:Res (List α)} {f:α→S→Res S} {D:Addr} (eb:Ext Wb W) (hi:IV Er wi σ W R mi) (mono:∀W W' s,Ext W W'→O W D s→O W' D s)
  (hs:∀W2 a v s (M:Hp→Prop),Same W.G W2.G→Ext Wb W2→O W2 D s→R W2.G a v→(f a s).OkE Er (fun s'=>∀W',Same W2.G W'.G→Ext Wb W'→O W' D s'→M W'.H)→g v σ W2.H fun σ2 H2=>Keep σ σ2∧tf σ2 H2 fun b H3=>if b=true then t D σ2 H3 M else M H3):
  BV Er (tq wi g tf t) σ Wb W O D (fun s=>mi.bind fun xs=>bC f xs s):=fun W1 s N e1 o k=>
 hi W1 e1 _ ((Res.okE_bind k).imp fun xs kx J W2 e2 hy=>lS (W:=W2) (Wb:=Wb) hy (.inl (.refl _)) ((eb.trans e1).trans e2) (mono _ _ _ e2 o) (fun W3 a v s M e3 eb3 o3 r k3=>hs W3 a v s M ((e1.trans e2).g.trans e3) eb3 o3 r k3) mono (kx.imp fun s' ks W' z1 z2 z3=>ks W' (e2.g.trans z1) z2 z3))
end
end Wb
namespace Mi
end Mi
namespace Wb
open PySem L2 Mi
end Wb
namespace Mi
end Mi
namespace Wb
open PySem L2 Mi
section
open PyProof PyProof.Rows
variable {X:Cx} {pos:Pos}
end
end Wb
namespace Wb
open PySem L2 Mi
end Wb
namespace Mi
end Mi
namespace Wb
open PySem L2 Mi
end Wb
namespace Mi
end Mi
namespace Wb
open PySem L2 Mi
end Wb
namespace L2
open PySem PySem.Spec PyProof.Rows
end L2
namespace L2
open PySem PySem.Spec PyProof.Rows Builtin Builtin.ObjectAttr
open PySem.W (findIn findObj mroIn looks_findIn looks_find looks_mroIn looks_clsIn clsIn Frag InstAt Looks)
end L2
namespace L2
open PySem PySem.Spec PySem.Calls PyProof.Rows
open PySem.W (findIn findObj mroIn looks_findIn looks_find looks_mroIn class_get KitX clsIn Frag InstAt lookIn)
def XO (a:Addr) (o:Obj):HO:=.ext fun h=>h.get? a=some o
section
variable {P:Program} {w:World} {H:Hp} {h:Heap} {a d:Addr} {o:Obj} {fs:List (Str×V)} {mA:Str→Option Value}
theorem XO.ok (e:h.get? a=some o):ObjOk P w H h a (XO a o):=⟨e,⟨_,e⟩,fun _ _ p k=>k _ p⟩
end
end L2
namespace L2
open PySem PySem.Spec PySem.Calls PyProof.Rows
open PySem.W (findIn findObj clsIn Frag InstAt lookIn)
end L2
namespace Mi
end Mi
namespace Wb
open PySem L2 Mi
end Wb
namespace Wb
open PySem L2 Mi
end Wb
namespace Wb
open PySem L2 Mi
end Wb
namespace Wb
open PySem L2 Mi
end Wb
namespace Wb
open PySem L2 Mi
end Wb
namespace Mi
end Mi
namespace L2
open PySem PySem.Spec PyProof.Rows PySem.SeqAt PySem.AutoSeq1 PySem.MeetsSeq
end L2
namespace Wb
open PySem L2 Mi
end Wb
namespace Wb
open PySem L2 Mi
end Wb
namespace Wb
open PySem L2 Mi
end Wb
namespace Wb
open PySem L2 Mi
end Wb
namespace Mi
def tx (a b:Int×Int):Bool:=decide (a.1< b.1) || (decide (a.1=b.1) && decide (a.2≤b.2))
theorem gq {a b:Int×Int} :tx a b=true↔a.1< b.1∨(a.1=b.1∧a.2≤b.2):=by unfold tx;simp
def dO (xs:List (Int×Int)):List (Int×Int):=xs.mergeSort tx
theorem fz (xs:List (Int×Int)):(dO xs).Perm xs:=List.mergeSort_perm _ _
theorem l0 (xs:List (Int×Int)):(dO xs).Pairwise (fun a b=>tx a b=true):=
 List.pairwise_mergeSort (le:=tx) (fun a b c h1 h2=>by rw[gq]at *;omega) (fun a b=>by simp only[Bool.or_eq_true,gq];omega) xs
theorem l4 {xs ys:List (Int×Int)} (h:ys.Perm xs) (hs:ys.Pairwise (fun a b=>tx a b=true)):ys=dO xs:=
 List.Perm.eq_of_pairwise (le:=fun a b=>tx a b=true) (fun a b _ _ h1 h2=>by rw[gq]at *;exact Prod.ext (by omega) (by omega)) hs (l0 xs) (h.trans (fz xs).symm)
def l5 (ks:List (Int×Int)) (k:Int×Int):Res (List (Int×Int)):=dz (ks.length< 63) (if k∈ks then ks else k::ks)
def oZ (ks:List (Int×Int)):Res (List (Int×Int)):=dz (ks.length< 64) (dO ks)
end Mi
namespace Wb
open PySem
theorem gY {xs:Array Nat} {j:Nat} (up:∀a b,a< b→b< xs.size→xs.getD a 0< xs.getD b 0):∀(f lo hi:Nat),hi- lo≤f→lo≤hi→hi≤xs.size→(∀a,a< lo→xs.getD a 0< j)→(∀a,hi≤a→a< xs.size→j≤xs.getD a 0)→
  SetTable.below.go xs j f lo hi≤xs.size∧(∀a,a< SetTable.below.go xs j f lo hi→xs.getD a 0< j)∧(∀a,SetTable.below.go xs j f lo hi≤a→a< xs.size→j≤xs.getD a 0)
 | 0, lo, hi, h, hl, hs, h1, h2 => by
  unfold SetTable.below.go
  exact⟨by omega,h1,fun a ha=>h2 a (by omega)⟩
 | f + 1, lo, hi, h, hl, hs, h1, h2 => by
  unfold SetTable.below.go
  by_cases z:lo< hi
  ·rw[if_pos z]
   have hm:(lo+hi)/ 2< hi:=by omega
   have hm2:lo≤(lo+hi)/ 2:=by omega
   have e:∀d d':Nat,xs.getD ((lo+hi)/ 2) d=xs.getD ((lo+hi)/ 2) d':=fun d d'=>by
    simp[Array.getD,show(lo+hi)/ 2< xs.size by omega]
   dsimp only
   generalize hM:(lo+hi)/ 2=m at*
   by_cases y:xs.getD m j< j
   ·rw[if_pos y]
    refine gY up f (m+1) hi (by omega) (by omega) hs (fun a ha=>?_) h2
    by_cases q:a=m
    ·subst q;rw[e 0 j];exact y
    ·have:=up a m (by omega) (by omega)
     rw[e 0 j]at this
     omega
   ·rw[if_neg y]
    refine gY up f lo m (by omega) hm2 (by omega) h1 (fun a ha hb=>?_)
    by_cases q:a=m
    ·subst q;rw[e 0 j];omega
    ·have:=up m a (by omega) hb
     rw[e 0 j]at this
     omega
  ·rw[if_neg z]
   exact⟨by omega,h1,fun a ha=>h2 a (by omega)⟩
def Up (xs:Array Nat):Prop:=∀a b,a< b→b< xs.size→xs.getD a 0< xs.getD b 0
theorem fA {xs:Array Nat} (up:Up xs) (j:Nat):SetTable.below xs j≤xs.size∧(∀a,a< SetTable.below xs j→xs.getD a 0< j)∧(∀a,SetTable.below xs j≤a→a< xs.size→j≤xs.getD a 0):=by
 unfold SetTable.below
 exact gY up xs.size 0 xs.size (by omega) (by omega) (by omega) (fun a ha=>by omega) (fun a ha hb=>by omega)
abbrev Pr:=SetTable.Probe
def ee (mask:Nat) (p:Pr):Pr:=if p.more> 0 then {p with j:=p.j+1,more:=p.more- 1} else {p with j:=(SetTable.leap mask p.i p.perturb).1,more:=SetTable.runEnd mask (SetTable.leap mask p.i p.perturb).1- (SetTable.leap mask p.i p.perturb).1,i:=(SetTable.leap mask p.i p.perturb).1,perturb:=(SetTable.leap mask p.i p.perturb).2}
theorem gZ (t:SetTable) (p:Pr):t.advance p=ee t.mask p:=by unfold SetTable.advance ee;rfl
def itM (mask:Nat):Nat→Pr→Pr
 | 0,p=>p
 | n+1,p=>itM mask n (ee mask p)
theorem dl (mask:Nat):∀(a b:Nat) (p:Pr),itM mask (a+b) p=itM mask b (itM mask a p)
 | 0,b,p=>by rw[Nat.zero_add];rfl
 | a+1,b,p=>by rw[show a+1+b=(a+b)+1 by omega];exact dl mask a b (ee mask p)
theorem p0 (mask n:Nat) (p:Pr):itM mask (n+1) p=ee mask (itM mask n p):=by rw[dl];rfl
def nJ (mask i pt:Nat):Pr:={j:=i,more:=SetTable.runEnd mask i- i,i,perturb:=pt,dummy:=none}
theorem gr (mask:Nat):∀(n:Nat) (p:Pr),p.more=n→p.dummy=none→itM mask (n+1) p=nJ mask (SetTable.leap mask p.i p.perturb).1 (SetTable.leap mask p.i p.perturb).2
 | 0, p, h, hd => by
  show ee mask p=_
  unfold ee nJ
  rw[if_neg (by omega)]
  cases p;simp at hd;subst hd;rfl
 | n + 1, p, h, hd => by
  show itM mask (n+1) (ee mask p)=_
  have e:ee mask p={p with j:=p.j+1,more:=p.more- 1} :=by unfold ee;rw[if_pos (by omega)]
  rw[e]
  exact gr mask n _ (by show p.more- 1=n;omega) hd
theorem lT (mask i:Nat):SetTable.runEnd mask i- i≤9:=by unfold SetTable.runEnd;split <;> omega
def jp (mask:Nat):Nat→Nat×Nat→Nat×Nat
 | 0,x=>x
 | n+1,x=>jp mask n (SetTable.leap mask x.1 x.2)
theorem p5 (mask:Nat):∀(n i pt:Nat),∃k,k≤10*n∧itM mask k (nJ mask i pt)=nJ mask (jp mask n (i,pt)).1 (jp mask n (i,pt)).2
 | 0,i,pt=>⟨0,by omega,rfl⟩
 | n + 1, i, pt => by
  obtain⟨k,hk,e⟩:=p5 mask n (SetTable.leap mask i pt).1 (SetTable.leap mask i pt).2
  have r:=gr mask _ (nJ mask i pt) rfl rfl
  have m:=lT mask i
  refine⟨(nJ mask i pt).more+1+k,?_,?_⟩
  ·have:(nJ mask i pt).more≤9:=m
   omega
  ·rw[dl,r]
   exact e
theorem lU (mask:Nat):∀(a b:Nat) (x:Nat×Nat),jp mask (a+b) x=jp mask b (jp mask a x)
 | 0,b,x=>by rw[Nat.zero_add];rfl
 | a+1,b,x=>by rw[show a+1+b=(a+b)+1 by omega];exact lU mask a b _
theorem p7 (mask:Nat):∀(n:Nat) (x:Nat×Nat),(jp mask n x).2=x.2/ 32^n
 | 0,x=>by simp[jp]
 | n + 1, x => by
  show(jp mask n (SetTable.leap mask x.1 x.2)).2=_
  rw[p7 mask n]
  show x.2/ 32/ 32^n=_
  rw[Nat.div_div_eq_div_mul,Nat.pow_succ,Nat.mul_comm]
theorem tz (mask:Nat):∀(n:Nat) (x:Nat×Nat),x.1≤mask→(jp mask n x).1≤mask
 | 0,x,h=>h
 | n+1,x,h=>tz mask n _ (by show(x.1*5+1+x.2/ 32)% (mask+1)≤mask;have:=Nat.mod_lt (x.1*5+1+x.2/ 32) (show 0< mask+1 by omega);omega)
def p8 (mask:Nat):Nat→Nat→Nat
 | 0,i=>i
 | n+1,i=>p8 mask n ((i*5+1)% (mask+1))
theorem p9 (mask:Nat):∀(n i:Nat),jp mask n (i,0)=(p8 mask n i,0)
 | 0,i=>rfl
 | n + 1, i => by
  show jp mask n (SetTable.leap mask i 0)=_
  rw[show SetTable.leap mask i 0=((i*5+1)% (mask+1),0) by simp[SetTable.leap],p9 mask n];rfl
theorem gu (mask:Nat):∀(a b i:Nat),p8 mask (a+b) i=p8 mask b (p8 mask a i)
 | 0,b,i=>by rw[Nat.zero_add];rfl
 | a+1,b,i=>by rw[show a+1+b=(a+b)+1 by omega];exact gu mask a b _
def tD (mask:Nat):Nat→Nat→List Nat
 | 0,_=>[]
 | n+1,i=>i::tD mask n ((i*5+1)% (mask+1))
theorem jd (mask:Nat):∀(n i e:Nat),e∈tD mask n i→∃k,k< n∧p8 mask k i=e
 | 0,i,e,h=>by simp[tD]at h
 | n + 1, i, e, h => by
  rcases List.mem_cons.mp h with rfl | h
  ·exact⟨0,by omega,rfl⟩
  ·obtain⟨k,hk,e⟩:=jd mask n _ e h
   exact⟨k+1,by omega,e⟩
def isMask (m:Nat):Prop:=m=7∨m=31∨m=127
theorem vZ:(∀e,e< 8→e∈tD 7 8 0)∧p8 7 8 0=0:=by decide +kernel
theorem uJ:(∀e,e< 32→e∈tD 31 32 0)∧p8 31 32 0=0:=by decide +kernel
theorem tE:(∀e,e< 128→e∈tD 127 128 0)∧p8 127 128 0=0:=by decide +kernel
theorem w4 {m:Nat} (h:isMask m):(∀e,e< m+1→e∈tD m (m+1) 0)∧p8 m (m+1) 0=0:=by
 rcases h with rfl | rfl | rfl
 ·exact vZ
 ·exact uJ
 ·exact tE
theorem pb {m:Nat} (h:isMask m) {i e:Nat} (hi:i≤m) (he:e≤m):∃n,n≤m∧p8 m n i=e:=by
 obtain⟨h1,h2⟩:=w4 h
 obtain⟨a,ha,ea⟩:=jd m (m+1) 0 i (h1 i (by omega))
 obtain⟨b,hb,eb⟩:=jd m (m+1) 0 e (h1 e (by omega))
 by_cases z:a≤b
 ·refine⟨b- a,by omega,?_⟩
  rw[←ea,←gu,show a+(b- a)=b by omega,eb]
 ·refine⟨m+1- a+b,by omega,?_⟩
  rw[←ea,←gu,show a+(m+1- a+b)=(m+1)+b by omega,gu,h2,eb]
theorem uK {m:Nat} (h:isMask m) {p:Pr} (hd:p.dummy=none) (hm:p.more≤9) (hp:p.perturb< 2^64) {e:Nat} (he:e≤m):∃k,k< 10*SetTable.turns m∧(itM m k p).j=e:=by
 have r:=gr m p.more p rfl hd
 obtain⟨k1,hk1,e1⟩:=p5 m 12 (SetTable.leap m p.i p.perturb).1 (SetTable.leap m p.i p.perturb).2
 have z:(jp m 12 ((SetTable.leap m p.i p.perturb).1,(SetTable.leap m p.i p.perturb).2)).2=0:=by
  rw[p7]
  show p.perturb/ 32/ 32^12=0
  rw[Nat.div_div_eq_div_mul]
  exact Nat.div_eq_of_lt (by omega)
 have i0:(SetTable.leap m p.i p.perturb).1≤m:=by
  show(p.i*5+1+p.perturb/ 32)% (m+1)≤m
  have:=Nat.mod_lt (p.i*5+1+p.perturb/ 32) (show 0< m+1 by omega);omega
 have i1:=tz m 12 ((SetTable.leap m p.i p.perturb).1,(SetTable.leap m p.i p.perturb).2) i0
 rw[z]at e1
 generalize (jp m 12 ((SetTable.leap m p.i p.perturb).1,(SetTable.leap m p.i p.perturb).2)).1=i at*
 obtain⟨n,hn,en⟩:=pb h i1 he
 obtain⟨k2,hk2,e2⟩:=p5 m n i 0
 rw[p9,en]at e2
 refine⟨p.more+1+k1+k2,?_,?_⟩
 ·unfold SetTable.turns;omega
 ·rw[dl,dl,r,e1,e2];rfl
end Wb
namespace Wb
open PySem
def InP (xs:Array Nat) (j:Nat):Prop:=∃a,a< xs.size∧xs.getD a 0=j
theorem jW {xs:Array Nat} {a:Nat} (h:a< xs.size):xs[a]? =some (xs.getD a 0):=by simp[Array.getD,h]
theorem eJ {xs:Array Nat} (up:Up xs) {a:Nat} (h:a< xs.size):SetTable.below xs (xs.getD a 0)=a:=by
 obtain⟨h0,h1,h2⟩:=fA up (xs.getD a 0)
 generalize SetTable.below xs (xs.getD a 0)=b at*
 by_cases z:a< b
 ·have:=h1 a z;omega
 ·by_cases y:b< a
  ·have:=up b a y h
   have:=h2 b (by omega) (by omega)
   omega
  ·omega
theorem nh {xs:Array Nat} (up:Up xs) {j:Nat} (h:¬InP xs j):(xs[SetTable.below xs j]? == some j)=false:=by
 obtain⟨h0,h1,h2⟩:=fA up j
 by_cases z:SetTable.below xs j< xs.size
 ·rw[jW z]
  rw[beq_eq_false_iff_ne]
  intro e
  injection e with e
  exact h ⟨_,z,e⟩
 ·rw[Array.getElem?_eq_none (by omega)];rfl
structure Tp (t:SetTable) (hs:List Int):Prop where
 dm:t.dummies= #[]
 sz:t.place.size=hs.length
 up:Up t.place
 le:∀j,InP t.place j→j≤t.mask
 msk:isMask t.mask
 reach:∀i h,hs[i]? =some h→∃k,(itM t.mask k (t.probeStart h)).j=t.place.getD i 0∧∀k',k'< k→InP t.place (itM t.mask k' (t.probeStart h)).j
structure Tb (t:SetTable) (hs:List Int):Prop extends Tp t hs where
 room:hs.length*5< t.mask*3
section
variable {t:SetTable} {hs:List Int}
theorem Tb.live (T:Tb t hs) {i:Nat} (h:i< t.place.size):t.slot (t.place.getD i 0)=.live i:=by
 unfold SetTable.slot
 dsimp only
 rw[eJ T.up h,jW h]
 simp
theorem Tb.empty (T:Tb t hs) {j:Nat} (h:¬InP t.place j):t.slot j=.empty:=by
 unfold SetTable.slot
 dsimp only
 rw[if_neg (by rw[nh T.up h];decide)]
 unfold SetTable.has
 rw[T.dm]
 rfl
theorem pc (t:SetTable) (h:Int):(t.probeStart h).dummy=none∧(t.probeStart h).more≤9∧(t.probeStart h).perturb< 2^64:=by
 refine⟨rfl,lT _ _,?_⟩
 show(h% (2^64:Int)).toNat< 2^64
 omega
theorem tF {xs:Array Nat} (up:Up xs) {m:Nat} (h:xs.size≤m):∃j,j≤m∧¬InP xs j:=by
 have base:∀n,n≤xs.size→(∀j,j< n→InP xs j)→∀a,a< n→xs.getD a 0=a:=by
  intro n hn hin a
  induction a using Nat.strongRecOn with
  | _ a ih =>
   intro ha
   obtain⟨b,hb,eb⟩:=hin a ha
   have lo:∀a,a< xs.size→a≤xs.getD a 0:=by
    intro a
    induction a with
    | zero=>intro _;omega
    | succ a ih=>intro h;have:=ih (by omega);have:=up a (a+1) (by omega) h;omega
   have:=lo b hb
   by_cases z:b=a
   ·rw[←z];rw[z]at eb;rw[z];exact eb
   ·have:=ih b (by omega) (by omega)
    omega
 by_cases hall:∀j,j< xs.size→InP xs j
 ·refine⟨xs.size,h,fun⟨a,ha,ea⟩=>?_⟩
  have:=base xs.size (by omega) hall a ha
  omega
 ·have ⟨j,hj⟩:=Classical.not_forall.mp hall
  have ⟨h1,h2⟩:=Classical.not_imp.mp hj
  exact⟨j,by omega,h2⟩
theorem Tb.gap (T:Tb t hs) {p:Pr} (hp:p.dummy=none∧p.more≤9∧p.perturb< 2^64):∃k,k< 10*SetTable.turns t.mask∧¬InP t.place (itM t.mask k p).j∧∀k',k'< k→InP t.place (itM t.mask k' p).j:=by
 obtain⟨e,he,hn⟩:=tF T.up (m:=t.mask) (by have:=T.sz;have:=T.room;omega)
 obtain⟨k,hk,ek⟩:=uK T.msk hp.1 hp.2.1 hp.2.2 he
 rw[←ek]at hn
 clear ek
 induction k using Nat.strongRecOn with
 | _ k ih =>
  by_cases z:∀k',k'< k→InP t.place (itM t.mask k' p).j
  ·exact⟨k,hk,hn,z⟩
  ·have ⟨k',h'⟩:=Classical.not_forall.mp z
   have ⟨h1,h2⟩:=Classical.not_imp.mp h'
   exact ih k' h1 h2 (by omega)
theorem Tb.go (T:Tb t hs) {hashAt:Nat→Int} (hA:∀i h,hs[i]? =some h→hashAt i=h) (h:Int):∀(E fuel:Nat) (p:Pr),p.dummy=none→E< fuel→¬InP t.place (itM t.mask E p).j→(∀k',k'< E→InP t.place (itM t.mask k' p).j)→
  (∃k i,k< E∧i< hs.length∧t.place.getD i 0=(itM t.mask k p).j∧hs[i]? =some h∧SetTable.probe.go t hashAt h fuel p=some (.candidate (itM t.mask k p).j i (itM t.mask (k+1) p))∧∀k',k'< k→∀i,t.place.getD i 0=(itM t.mask k' p).j→i< hs.length→hs[i]? ≠some h)∨
  (SetTable.probe.go t hashAt h fuel p=some (.empty (itM t.mask E p).j none)∧∀k',k'< E→∀i,t.place.getD i 0=(itM t.mask k' p).j→i< hs.length→hs[i]? ≠some h)
 | 0, fuel + 1, p, hd, hf, hn, ha => by
  refine .inr ⟨?_,fun k' hk=>absurd hk (by omega)⟩
  unfold SetTable.probe.go
  rw[T.empty (j:=p.j) hn,hd]
  rfl
 | E + 1, fuel + 1, p, hd, hf, hn, ha => by
  obtain⟨a,h1,h2⟩:=ha 0 (by omega)
  have h2':t.place.getD a 0=p.j:=h2
  have one:∀i,t.place.getD i 0=p.j→i< hs.length→i=a:=fun i hi hl=>by
   have hi':i< t.place.size:=by have:=T.sz;omega
   rw[←eJ T.up hi',hi,←h2',eJ T.up h1]
  unfold SetTable.probe.go
  rw[←h2',T.live h1]
  dsimp only
  have hl:a< hs.length:=by have:=T.sz;omega
  by_cases z:hashAt a=h
  ·refine .inl ⟨0,a,by omega,hl,h2,?_,?_,fun k' hk=>absurd hk (by omega)⟩
   ·have e:=hA a hs[a] (List.getElem?_eq_getElem hl)
    rw[List.getElem?_eq_getElem hl,←e,z]
   ·rw[if_pos (by simpa using z),gZ,h2']
    rfl
  ·rw[if_neg (by simpa using z),gZ]
   have hne:∀i,t.place.getD i 0=p.j→i< hs.length→hs[i]? ≠some h:=fun i hi hl' e=>z (by rw[one i hi hl']at e;exact hA a h e)
   have hd':(ee t.mask p).dummy=none:=by unfold ee;split <;> exact hd
   rcases Tb.go T hA h E fuel (ee t.mask p) hd' (by omega) hn (fun k' hk=>ha (k'+1) (by omega))with⟨k,i,g1,g2,g3,g4,g5,g6⟩ | ⟨g1,g2⟩
   ·refine .inl ⟨k+1,i,by omega,g2,g3,g4,g5,fun k' hk=>?_⟩
    cases k' with
    | zero=>exact hne
    | succ k'=>exact g6 k' (by omega)
   ·refine .inr ⟨g1,fun k' hk=>?_⟩
    cases k' with
    | zero=>exact hne
    | succ k'=>exact g2 k' (by omega)
theorem hU {α:Type} (xs:Array α) (p:Nat) (x:α):(SetTable.insertAt xs p x).toList=xs.toList.take p++x::xs.toList.drop p:=by
 unfold SetTable.insertAt
 simp[Array.toList_append,Array.toList_push,List.take_of_length_le]
theorem db {α:Type} (xs:Array α) {p:Nat} (h:p≤xs.size) (x:α):(SetTable.insertAt xs p x).size=xs.size+1:=by
 rw[←Array.length_toList,hU]
 simp;omega
theorem qQ {α:Type} (xs:Array α) {p:Nat} (h:p≤xs.size) (x:α) (a:Nat):(SetTable.insertAt xs p x)[a]? =if a< p then xs[a]? else if a=p then some x else xs[a- 1]? :=by
 rw[←Array.getElem?_toList,hU]
 by_cases z:a< p
 ·rw[if_pos z,List.getElem?_append_left (by simp;omega),List.getElem?_take_of_lt z,Array.getElem?_toList]
 ·rw[if_neg z,List.getElem?_append_right (by simp;omega)]
  have hl:(List.take p xs.toList).length=p:=by simp;omega
  rw[hl]
  by_cases y:a=p
  ·rw[if_pos y,y];simp
  ·rw[if_neg y,show a- p=(a- p- 1)+1 by omega,List.getElem?_cons_succ,List.getElem?_drop,Array.getElem?_toList]
   congr 1;omega
theorem fB (xs:Array Nat) {p:Nat} (h:p≤xs.size) (x:Nat) (a:Nat):(SetTable.insertAt xs p x).getD a 0=if a< p then xs.getD a 0 else if a=p then x else xs.getD (a- 1) 0:=by
 rw[Array.getD_eq_getD_getElem?,qQ xs h]
 split
 ·rw[Array.getD_eq_getD_getElem?]
 ·split
  ·rfl
  ·rw[Array.getD_eq_getD_getElem?]
theorem lV {xs:Array Nat} {p:Nat} (h:p≤xs.size) {x j:Nat} :InP (SetTable.insertAt xs p x) j↔j=x∨InP xs j:=by
 constructor
 ·rintro ⟨a,ha,e⟩
  rw[db xs h]at ha
  rw[fB xs h]at e
  by_cases z:a< p
  ·rw[if_pos z]at e;exact .inr ⟨a,by omega,e⟩
  ·rw[if_neg z]at e
   by_cases y:a=p
   ·rw[if_pos y]at e;exact .inl e.symm
   ·rw[if_neg y]at e;exact .inr ⟨a- 1,by omega,e⟩
 ·rintro (rfl | ⟨a,ha,e⟩)
  ·exact⟨p,by rw[db xs h];omega,by rw[fB xs h,if_neg (by omega),if_pos rfl]⟩
  ·by_cases z:a< p
   ·exact⟨a,by rw[db xs h];omega,by rw[fB xs h,if_pos z,e]⟩
   ·exact⟨a+1,by rw[db xs h];omega,by rw[fB xs h,if_neg (by omega),if_neg (by omega)];exact e⟩
theorem Tb.put (T:Tb t hs) {h:Int} {E:Nat} (hn:¬InP t.place (itM t.mask E (t.probeStart h)).j) (hj:(itM t.mask E (t.probeStart h)).j≤t.mask) (ha:∀k',k'< E→InP t.place (itM t.mask k' (t.probeStart h)).j):
  (t.put (itM t.mask E (t.probeStart h)).j).2≤hs.length∧(t.put (itM t.mask E (t.probeStart h)).j).1.mask=t.mask∧Tp (t.put (itM t.mask E (t.probeStart h)).j).1 (hs.take (t.put (itM t.mask E (t.probeStart h)).j).2++h::hs.drop (t.put (itM t.mask E (t.probeStart h)).j).2):=by
 obtain⟨b0,b1,b2⟩:=fA T.up (itM t.mask E (t.probeStart h)).j
 generalize hJ:(itM t.mask E (t.probeStart h)).j=j at*
 have hp2:(t.put j).2=SetTable.below t.place j:=rfl
 have hpl:(t.put j).1.place=SetTable.insertAt t.place (SetTable.below t.place j) j:=rfl
 have hmk:(t.put j).1.mask=t.mask:=rfl
 have hst:∀h,(t.put j).1.probeStart h=t.probeStart h:=fun _=>rfl
 have hsz:=T.sz
 generalize SetTable.below t.place j=p at*
 rw[hp2]
 refine⟨by omega,rfl,?_,?_,?_,?_,T.msk,?_⟩
 ·show(if SetTable.has t.dummies j then _ else t.dummies)= #[]
  unfold SetTable.has
  rw[T.dm]
  rfl
 ·rw[hpl,db _ b0];simp;omega
 ·rw[hpl]
  intro a b hab hb
  rw[db _ b0]at hb
  rw[fB _ b0,fB _ b0]
  have gt:∀a,p≤a→a< t.place.size→j< t.place.getD a 0:=fun a h1 h2=>by
   have:=b2 a h1 h2
   by_cases z:t.place.getD a 0=j
   ·exact absurd ⟨a,h2,z⟩ hn
   ·omega
  by_cases z1:a< p
  ·rw[if_pos z1]
   by_cases z2:b< p
   ·rw[if_pos z2];exact T.up a b hab (by omega)
   ·rw[if_neg z2]
    by_cases z3:b=p
    ·rw[if_pos z3];exact b1 a z1
    ·rw[if_neg z3]
     have:=b1 a z1
     have:=gt (b- 1) (by omega) (by omega)
     omega
  ·rw[if_neg z1,if_neg (show ¬b< p by omega),if_neg (show ¬b=p by omega)]
   by_cases z3:a=p
   ·rw[if_pos z3];exact gt (b- 1) (by omega) (by omega)
   ·rw[if_neg z3];exact T.up (a- 1) (b- 1) (by omega) (by omega)
 ·intro q hq
  rw[hpl,lV b0]at hq
  rcases hq with rfl | hq
  ·exact hj
  ·exact T.le q hq
 ·intro i g hg
  rw[hmk,hst,hpl]
  have mono:∀q,InP t.place q→InP (SetTable.insertAt t.place p j) q:=fun q hq=>(lV b0).mpr (.inr hq)
  have hl:(hs.take p).length=p:=by simp;omega
  by_cases z1:i< p
  ·rw[List.getElem?_append_left (by omega),List.getElem?_take_of_lt z1]at hg
   obtain⟨k,ek,hk⟩:=T.reach i g hg
   exact⟨k,by rw[ek,fB _ b0,if_pos z1],fun k' h'=>mono _ (hk k' h')⟩
  ·rw[List.getElem?_append_right (by omega),hl]at hg
   by_cases z2:i=p
   ·rw[z2,Nat.sub_self,List.getElem?_cons_zero]at hg
    cases hg
    exact⟨E,by rw[hJ,fB _ b0,if_neg z1,if_pos z2],fun k' h'=>mono _ (ha k' h')⟩
   ·rw[show i- p=(i- p- 1)+1 by omega,List.getElem?_cons_succ,List.getElem?_drop]at hg
    rw[show p+(i- p- 1)=i- 1 by omega]at hg
    obtain⟨k,ek,hk⟩:=T.reach (i- 1) g hg
    exact⟨k,by rw[ek,fB _ b0,if_neg z1,if_neg z2],fun k' h'=>mono _ (hk k' h')⟩
end
end Wb
namespace Wb
open PySem
def Oc (ow:Array (Option Nat)) (j:Nat):Prop:=(ow.getD j (some 0)).isSome=true
theorem je (m i pt:Nat):∀k,k≤SetTable.runEnd m i- i→itM m k (nJ m i pt)={j:=i+k,more:=SetTable.runEnd m i- i- k,i:=i,perturb:=pt,dummy:=none}
 | 0,_=>rfl
 | k + 1, h => by
  rw[p0,je m i pt k (by omega)]
  unfold ee
  rw[if_pos (by show SetTable.runEnd m i- i- k> 0;omega)]
  rfl
theorem ni (m i:Nat):i≤SetTable.runEnd m i:=by unfold SetTable.runEnd;split <;> omega
theorem lW {m:Nat} (ow:Array (Option Nat)):∀(f i pt n:Nat),n< f→¬Oc ow (jp m n (i,pt)).1→
  ∃j E,SetTable.layClean.free m ow f i pt=some j∧(itM m E (nJ m i pt)).j=j∧¬Oc ow j∧∀k',k'< E→Oc ow (itM m k' (nJ m i pt)).j
 | 0,_,_,_,h,_=>absurd h (by omega)
 | f + 1, i, pt, n, h, hn => by
  have hr:=ni m i
  unfold SetTable.layClean.free
  cases hf:(List.range (SetTable.runEnd m i+1- i)).find? fun k=>(ow.getD (i+k) (some 0)).isNone with
  | some k =>
   have hk:=List.mem_range.mp (List.mem_of_find?_eq_some hf)
   have hp:=List.find?_some hf
   have hb:=(List.find?_range_eq_some.mp hf).2.2
   refine⟨i+k,k,rfl,by rw[je m i pt k (by omega)],?_,fun k' hk'=>?_⟩
   ·unfold Oc;simp at hp ⊢;exact hp
   ·rw[je m i pt k' (by omega)]
    have:=hb k' hk'
    unfold Oc
    simpa using this
  | none =>
   have hall:=List.find?_eq_none.mp hf
   have occ:∀k,k≤SetTable.runEnd m i- i→Oc ow (i+k):=fun k hk=>by
    have:=hall k (List.mem_range.mpr (by omega))
    unfold Oc
    cases q:ow.getD (i+k) (some 0)with
    | none=>rw[q]at this;exact absurd rfl this
    | some a=>rfl
   cases n with
   | zero=>exact absurd (occ 0 (by omega)) hn
   | succ n =>
    obtain⟨j,E,e1,e2,e3,e4⟩:=lW ow f (SetTable.leap m i pt).1 (SetTable.leap m i pt).2 n (by omega) hn
    have r:=gr m (SetTable.runEnd m i- i) (nJ m i pt) rfl rfl
    refine⟨j,(SetTable.runEnd m i- i)+1+E,e1,?_,e3,fun k' hk'=>?_⟩
    ·rw[dl,r];exact e2
    ·by_cases z:k'≤SetTable.runEnd m i- i
     ·rw[je m i pt k' z];exact occ k' z
     ·rw[show k'=(SetTable.runEnd m i- i)+1+(k'- ((SetTable.runEnd m i- i)+1)) by omega,dl,r]
      exact e4 _ (by omega)
abbrev stM (m:Nat) (h:Int):Pr:=nJ m (SetTable.bits h% (m+1)) (SetTable.bits h)
theorem qR (h:Int):SetTable.bits h< 2^64:=by show(h% (2^64:Int)).toNat< 2^64;omega
theorem qS {m:Nat} (hm:isMask m) (ow:Array (Option Nat)) (h:Int) {e:Nat} (he:e≤m) (hn:¬Oc ow e):
  ∃j E,SetTable.layClean.free m ow (SetTable.turns m) (SetTable.bits h% (m+1)) (SetTable.bits h)=some j∧(itM m E (stM m h)).j=j∧¬Oc ow j∧∀k',k'< E→Oc ow (itM m k' (stM m h)).j:=by
 have i0:SetTable.bits h% (m+1)≤m:=by have:=Nat.mod_lt (SetTable.bits h) (show 0< m+1 by omega);omega
 have z:(jp m 13 (SetTable.bits h% (m+1),SetTable.bits h)).2=0:=by
  rw[p7]
  exact Nat.div_eq_of_lt (by have:=qR h;show SetTable.bits h< 32^13;omega)
 have i1:=tz m 13 (SetTable.bits h% (m+1),SetTable.bits h) i0
 obtain⟨n,hn',en⟩:=pb hm i1 he
 refine lW ow _ _ _ (13+n) (by unfold SetTable.turns;omega) ?_
 rw[lU,show jp m 13 (SetTable.bits h% (m+1),SetTable.bits h)=((jp m 13 (SetTable.bits h% (m+1),SetTable.bits h)).1,0)from Prod.ext rfl z,p9,en]
 exact hn
structure Lay (m:Nat) (hs:List Int) (ow:Array (Option Nat)) (k:Nat):Prop where
 sz:ow.size=m+1
 cnt:ow.toList.countP Option.isSome=k
 inj:∀(j j' i:Nat),ow[j]? =some (some i)→ow[j']? =some (some i)→j=j'
 lt:∀(j i:Nat),ow[j]? =some (some i)→i< k
 reach:∀(j i:Nat) (h:Int),ow[j]? =some (some i)→hs[i]? =some h→∃n,(itM m n (stM m h)).j=j∧∀n',n'< n→Oc ow (itM m n' (stM m h)).j
theorem fC {ow:Array (Option Nat)} {j:Nat} (hj:j< ow.size):Oc ow j↔∃i,ow[j]? =some (some i):=by
 unfold Oc
 simp[Array.getD,hj]
 cases ow[j] <;> simp
theorem Lay.gap {m:Nat} {hs:List Int} {ow:Array (Option Nat)} {k:Nat} (L:Lay m hs ow k) (h:k≤m):∃e,e≤m∧¬Oc ow e:=by
 by_cases z:∀e,e≤m→Oc ow e
 ·exfalso
  have:ow.toList.countP Option.isSome=ow.toList.length:=List.countP_eq_length.mpr fun a ha=>by
   obtain⟨j,hj,e⟩:=List.mem_iff_getElem.mp ha
   have hj':j< ow.size:=by simpa using hj
   obtain⟨i,hi⟩:=(fC hj').mp (z j (by have:=L.sz;omega))
   rw[←e]
   have:ow.toList[j]=some i:=by
    have q:ow.toList[j]? =some (some i):=by rw[Array.getElem?_toList];exact hi
    rw[List.getElem?_eq_getElem hj]at q
    injection q
   rw[this];rfl
  rw[L.cnt,Array.length_toList,L.sz]at this
  omega
 ·have ⟨e,he⟩:=Classical.not_forall.mp z
  have ⟨h1,h2⟩:=Classical.not_imp.mp he
  exact⟨e,h1,h2⟩
theorem uL {ow:Array (Option Nat)} {j:Nat} (h:¬Oc ow j):j< ow.size:=by
 by_cases z:j< ow.size
 ·exact z
 ·exact absurd (by unfold Oc;simp[Array.getD,z]) h
theorem Lay.step {m:Nat} (hm:isMask m) {hs:List Int} {ow:Array (Option Nat)} {k:Nat} (L:Lay m hs ow k) (hk:k≤m) {h:Int} (hh:hs[k]? =some h):
  ∃j,SetTable.layClean.free m ow (SetTable.turns m) (SetTable.bits h% (m+1)) (SetTable.bits h)=some j∧Lay m hs (ow.setIfInBounds j (some k)) (k+1):=by
 obtain⟨e,he,hn⟩:=L.gap hk
 obtain⟨j,E,e1,e2,e3,e4⟩:=qS hm ow h he hn
 have hj:=uL e3
 refine⟨j,e1,?_⟩
 have none_j:ow[j]? =some none:=by
  have:¬∃i,ow[j]? =some (some i):=fun z=>e3 ((fC hj).mpr z)
  rw[Array.getElem?_eq_getElem hj]at this ⊢
  cases q:ow[j]with
  | none=>rfl
  | some i=>exact absurd ⟨i,by rw[q]⟩ this
 have at_:∀q,(ow.setIfInBounds j (some k))[q]? =if q=j then some (some k)else ow[q]? :=fun q=>by
  rw[Array.getElem?_setIfInBounds]
  by_cases z:j=q
  ·subst z;simp[hj]
  ·rw[if_neg z,if_neg (Ne.symm z)]
 have oc:∀q,Oc ow q→Oc (ow.setIfInBounds j (some k)) q:=fun q hq=>by
  by_cases hs':q< ow.size
  ·obtain⟨i,hi⟩:=(fC hs').mp hq
   refine(fC (by simpa using hs')).mpr ?_
   rw[at_]
   by_cases z:q=j
   ·exact⟨k,by rw[if_pos z]⟩
   ·exact⟨i,by rw[if_neg z];exact hi⟩
  ·unfold Oc;simp[Array.getD,hs']
 refine⟨by simp[L.sz],?_,?_,?_,?_⟩
 ·have hj2:j< ow.toList.length:=by simpa using hj
  have q:ow.toList[j]=none:=by
   have:=none_j
   rw[←Array.getElem?_toList,List.getElem?_eq_getElem hj2]at this
   injection this
  rw[Array.toList_setIfInBounds,List.countP_set hj2,q,L.cnt]
  simp
 ·intro a b i ha hb
  rw[at_]at ha hb
  by_cases z1:a=j
  ·rw[if_pos z1]at ha
   injection ha with ha;injection ha with ha
   by_cases z2:b=j
   ·rw[z1,z2]
   ·rw[if_neg z2]at hb
    have:=L.lt b i hb
    omega
  ·rw[if_neg z1]at ha
   by_cases z2:b=j
   ·rw[if_pos z2]at hb
    injection hb with hb;injection hb with hb
    have:=L.lt a i ha
    omega
   ·rw[if_neg z2]at hb
    exact L.inj a b i ha hb
 ·intro a i ha
  rw[at_]at ha
  by_cases z1:a=j
  ·rw[if_pos z1]at ha
   injection ha with ha;injection ha with ha
   omega
  ·rw[if_neg z1]at ha
   have:=L.lt a i ha
   omega
 ·intro a i g ha hg
  rw[at_]at ha
  by_cases z1:a=j
  ·rw[if_pos z1]at ha
   injection ha with ha;injection ha with ha
   subst ha
   rw[hh]at hg
   cases hg
   exact⟨E,by rw[z1];exact e2,fun n' h'=>oc _ (e4 n' h')⟩
  ·rw[if_neg z1]at ha
   obtain⟨n,q1,q2⟩:=L.reach a i g ha hg
   exact⟨n,q1,fun n' h'=>oc _ (q2 n' h')⟩
end Wb
namespace Wb
open PySem
theorem nj (m:Nat) (hs:List Int):Lay m hs (Array.replicate (m+1) none) 0:=by
 have no:∀(j i:Nat),(Array.replicate (m+1) (none:Option Nat))[j]? =some (some i)→False:=fun j i h=>by
  rw[Array.getElem?_replicate]at h
  split at h <;> simp at h
 refine⟨by simp,?_,fun j j' i h _=>(no j i h).elim,fun j i h=>(no j i h).elim,fun j i _ h _=>(no j i h).elim⟩
 rw[Array.toList_replicate,List.countP_replicate]
 rfl
abbrev jf (m:Nat) (acc:Option (Array (Option Nat)×Nat)) (h:Int):Option (Array (Option Nat)×Nat):=do
 let (owner,k) ←acc
 let j ←SetTable.layClean.free m owner (SetTable.turns m) (SetTable.bits h% (m+1)) (SetTable.bits h)
 pure (owner.setIfInBounds j (some k),k+1)
theorem jX {m:Nat} (hm:isMask m) (hs:List Int):∀(r:List Int) (ow:Array (Option Nat)) (k:Nat),Lay m hs ow k→hs.drop k=r→hs.length≤m→k≤hs.length→∃ow',r.foldl (jf m) (some (ow,k))=some (ow',hs.length)∧Lay m hs ow' hs.length
 | [], ow, k, L, hd, hl, hk => by
  have:k=hs.length:=by
   have:=congrArg List.length hd
   simp at this
   omega
  subst this
  exact⟨ow,rfl,L⟩
 | h :: r, ow, k, L, hd, hl, hk => by
  have hk2:k< hs.length:=by
   have:=congrArg List.length hd
   simp at this
   omega
  have hh:hs[k]? =some h:=by
   have:(hs.drop k)[0]? =some h:=by rw[hd];rfl
   rw[List.getElem?_drop]at this
   exact this
  obtain⟨j,e,L'⟩:=L.step hm (by omega) hh
  have e':jf m (some (ow,k)) h=some (ow.setIfInBounds j (some k),k+1):=by
   show(SetTable.layClean.free m ow (SetTable.turns m) (SetTable.bits h% (m+1)) (SetTable.bits h)).bind _=_
   rw[e];rfl
  rw[List.foldl_cons,e']
  exact jX hm hs r _ _ L' (by rw[←List.drop_drop,hd];rfl) hl (by omega)
theorem jY {m:Nat} (hm:isMask m) {hs:Array Int} (hl:hs.size≤m):∃ow,SetTable.layClean m hs=some ow∧Lay m hs.toList ow hs.size:=by
 obtain⟨ow,e,L⟩:=jX hm hs.toList hs.toList _ 0 (nj m hs.toList) rfl (by simpa using hl) (by simp)
 refine⟨ow,?_,by simpa using L⟩
 show Option.map (·.1) (hs.foldl (jf m) (some (Array.replicate (m+1) none,0)))=_
 rw[←Array.foldl_toList,e]
 rfl
abbrev cw (m:Nat) (ow:Array (Option Nat)):List (Nat×Nat):=(List.range (m+1)).filterMap fun j=>(ow.getD j none).map (j, ·)
theorem dE {m:Nat} {ow:Array (Option Nat)} (hs:ow.size=m+1) {j i:Nat} :(j,i)∈cw m ow↔ow[j]? =some (some i):=by
 unfold cw
 rw[List.mem_filterMap]
 constructor
 ·rintro ⟨q,hq,e⟩
  rw[Option.map_eq_some_iff]at e
  obtain⟨a,e1,e2⟩:=e
  injection e2 with e2 e3
  subst e2;subst e3
  have:=List.mem_range.mp hq
  have hq':q< ow.size:=by omega
  simp[Array.getD,hq']at e1
  rw[Array.getElem?_eq_getElem hq',e1]
 ·intro h
  have hj:j< ow.size:=(Array.getElem?_eq_some_iff.mp h).1
  refine⟨j,List.mem_range.mpr (by omega),?_⟩
  rw[Array.getD_eq_getD_getElem?,h]
  rfl
theorem jg {f:Nat→Option Nat} :∀{l:List Nat},l.Pairwise (· < ·)→((l.filterMap fun j=>(f j).map (j, ·)).map (·.1)).Pairwise (· < ·)
 | [],_=>by simp
 | a :: l, h => by
  have ih:=jg (f:=f) (List.pairwise_cons.mp h).2
  cases e:f a with
  | none=>simpa [e] using ih
  | some b =>
   rw[List.filterMap_cons_some (b:=(a,b)) (by rw[e];rfl),List.map_cons]
   refine List.pairwise_cons.mpr ⟨fun q hq=>?_,ih⟩
   obtain⟨x,hx,rfl⟩:=List.mem_map.mp hq
   obtain⟨c,hc,e2⟩:=List.mem_filterMap.mp hx
   rw[Option.map_eq_some_iff]at e2
   obtain⟨_,_,rfl⟩:=e2
   exact(List.pairwise_cons.mp h).1 c hc
theorem pf {f:Nat→Option Nat} :∀(l:List Nat),(l.filterMap fun j=>(f j).map (j, ·)).length=(l.map f).countP Option.isSome
 | []=>rfl
 | a :: l => by
  have ih:=pf (f:=f) l
  cases e:f a with
  | none=>rw[List.filterMap_cons_none (by rw[e];rfl),ih];simp[e]
  | some b=>rw[List.filterMap_cons_some (b:=(a,b)) (by rw[e];rfl)];simp[e,ih]
theorem ph {m k:Nat} {hs:List Int} {ow:Array (Option Nat)} (L:Lay m hs ow k):(cw m ow).length=k:=by
 unfold cw
 rw[pf (f:=fun j=>ow.getD j none),←L.cnt]
 congr 1
 refine List.ext_getElem (by simp[L.sz]) fun i h1 h2=>?_
 simp at h1 h2
 simp[Array.getD,h2]
end Wb
namespace Wb
open PySem
theorem pi:∀(n:Nat) (l:List Nat),l.Nodup→(∀x∈l,x< n)→l.length≤n
 | 0, l, _, h => by
  cases l with
  | nil=>simp
  | cons a l=>exact absurd (h a (List.mem_cons_self ..)) (by omega)
 | n + 1, l, nd, h => by
  by_cases z:n∈l
  ·have:=pi n (l.erase n) (nd.erase n) fun x hx=>by
    have h1:=h x (List.mem_of_mem_erase hx)
    have h2:x≠n:=fun e=>by subst e;exact(List.Nodup.not_mem_erase nd) hx
    omega
   rw[List.length_erase_of_mem z]at this
   omega
  ·have:=pi n l nd fun x hx=>by
    have h1:=h x hx
    have h2:x≠n:=fun e=>z (e▸hx)
    omega
   omega
theorem lX:∀(n:Nat) (l:List Nat),l.Nodup→(∀x∈l,x< n)→l.length=n→l.Perm (List.range n)
 | 0,l,_,_,h=>by rw[List.length_eq_zero_iff.mp h];exact .refl _
 | n + 1, l, nd, h, hl => by
  have z:n∈l:=by
   by_cases z:n∈l
   ·exact z
   ·have:=pi n l nd fun x hx=>by
     have h1:=h x hx
     have h2:x≠n:=fun e=>z (e▸hx)
     omega
    omega
  have:=lX n (l.erase n) (nd.erase n) (fun x hx=>by
    have h1:=h x (List.mem_of_mem_erase hx)
    have h2:x≠n:=fun e=>by subst e;exact(List.Nodup.not_mem_erase nd) hx
    omega) (by rw[List.length_erase_of_mem z];omega)
  rw[List.range_succ]
  exact(List.perm_cons_erase z).trans ((List.Perm.cons n this).trans (List.perm_append_singleton n _).symm)
theorem qT {l:List Nat} (h:l.Pairwise (· < ·)):Up l.toArray:=fun a b hab hb=>by
 have hb':b< l.length:=by simpa using hb
 have:=List.pairwise_iff_getElem.mp h a b (by omega) hb' hab
 simpa [Array.getD,show a< l.length by omega,hb'] using this
theorem iF {m i:Nat} (h:i≤m):i+(SetTable.runEnd m i- i)≤m:=by unfold SetTable.runEnd;split <;> omega
theorem uM {m:Nat} {p:Pr} (h:p.j+p.more≤m):(ee m p).j+(ee m p).more≤m:=by
 unfold ee
 split
 ·show p.j+1+(p.more- 1)≤m;omega
 ·refine iF ?_
  show(p.i*5+1+p.perturb/ 32)% (m+1)≤m
  have:=Nat.mod_lt (p.i*5+1+p.perturb/ 32) (show 0< m+1 by omega);omega
theorem uN {m:Nat} :∀(n:Nat) {p:Pr},p.j+p.more≤m→(itM m n p).j+(itM m n p).more≤m
 | 0,_,h=>h
 | n+1,_,h=>uN n (uM h)
theorem sj {m:Nat} {h:Int} (n:Nat):(itM m n (stM m h)).j≤m:=by
 have:=uN (m:=m) n (p:=stM m h) (iF (i:=SetTable.bits h% (m+1)) (by have:=Nat.mod_lt (SetTable.bits h) (show 0< m+1 by omega);omega))
 omega
theorem qU {m:Nat} (hm:isMask m) {hs:Array Int} (hl:hs.size≤m) (fi mo:Nat) (led plain:Bool):
  ∃t order,SetTable.laid m fi mo led plain hs=some (t,order)∧t.mask=m∧t.led=led∧t.plain=plain∧order.toList.Perm (List.range hs.size)∧Tp t (order.toList.map fun i=>hs.toList.getD i 0):=by
 obtain⟨ow,e,L⟩:=jY hm hl
 refine⟨_,_,by unfold SetTable.laid;rw[e];rfl,rfl,rfl,rfl,?_,?_⟩
 ·show((cw m ow).map (·.2)).toArray.toList.Perm _
  have len:=ph L
  have inc:=jg (f:=fun j=>ow.getD j none) (List.pairwise_lt_range (n:=m+1))
  have nd1:((cw m ow).map (·.1)).Nodup:=inc.imp fun h=>Nat.ne_of_lt h
  refine lX hs.size _ ?_ (fun x hx=>?_) (by simpa using len)
  ·show((cw m ow).map (·.2)).Nodup
   rw[List.nodup_iff_pairwise_ne,List.pairwise_map]
   rw[List.nodup_iff_pairwise_ne,List.pairwise_map]at nd1
   refine nd1.imp_of_mem fun {a b} ha hb hne e=>hne ?_
   have h1:=(dE L.sz (j:=a.1) (i:=a.2)).mp ha
   have h2:=(dE L.sz (j:=b.1) (i:=b.2)).mp hb
   rw[←e]at h2
   exact L.inj _ _ _ h1 h2
  ·obtain⟨y,hy,rfl⟩:=List.mem_map.mp (show x∈(cw m ow).map (·.2)from hx)
   exact L.lt _ _ ((dE L.sz (j:=y.1) (i:=y.2)).mp hy)
 ·have inc:=jg (f:=fun j=>ow.getD j none) (List.pairwise_lt_range (n:=m+1))
  have inp:∀j,InP ((cw m ow).map (·.1)).toArray j↔∃i,ow[j]? =some (some i):=fun j=>by
   constructor
   ·rintro ⟨a,ha,e⟩
    have ha':a< (cw m ow).length:=by simpa using ha
    have:((cw m ow)[a]).1=j:=by simpa [Array.getD,ha'] using e
    have mem:=List.getElem_mem ha'
    rw[←this]
    exact⟨_,(dE L.sz (j:=(cw m ow)[a].1) (i:=(cw m ow)[a].2)).mp mem⟩
   ·rintro ⟨i,hi⟩
    have mem:=(dE L.sz).mpr hi
    obtain⟨a,ha,e⟩:=List.mem_iff_getElem.mp mem
    exact⟨a,by simpa using ha,by simp[Array.getD,ha,e]⟩
  have ocp:∀j,j≤m→Oc ow j→InP ((cw m ow).map (·.1)).toArray j:=fun j hj h=>(inp j).mpr ((fC (by have:=L.sz;omega)).mp h)
  refine⟨rfl,?_,qT inc,?_,hm,?_⟩
  ·show((cw m ow).map (·.1)).toArray.size=(List.map _ ((cw m ow).map (·.2)).toArray.toList).length
   simp
  ·intro j hj
   obtain⟨i,hi⟩:=(inp j).mp hj
   have:=(Array.getElem?_eq_some_iff.mp hi).1
   have:=L.sz
   show j≤m
   omega
  ·intro a h ha
   have ha2:((cw m ow)[a]?).map (fun y=>hs.toList.getD y.2 0)=some h:=by
    have:(((cw m ow).map (·.2)).map fun i=>hs.toList.getD i 0)[a]? =some h:=ha
    rw[List.map_map,List.getElem?_map]at this
    exact this
   obtain⟨y,hy,e⟩:=Option.map_eq_some_iff.mp ha2
   have mem:=List.mem_of_getElem? hy
   have at_:=(dE L.sz (j:=y.1) (i:=y.2)).mp mem
   have lt:=L.lt _ _ at_
   have hh:hs.toList[y.2]? =some h:=by
    have hlt:y.2< hs.toList.length:=by simpa using lt
    rw[List.getD_eq_getElem?_getD,List.getElem?_eq_getElem hlt]at e
    rw[List.getElem?_eq_getElem hlt]
    exact congrArg some e
   obtain⟨n,q1,q2⟩:=L.reach _ _ _ at_ hh
   have hla:a< (cw m ow).length:=(List.getElem?_eq_some_iff.mp hy).1
   refine⟨n,?_,fun n' h'=>?_⟩
   ·show(itM m n (stM m h)).j=((cw m ow).map (·.1)).toArray.getD a 0
    rw[q1,Array.getD_eq_getD_getElem?]
    simp only[List.getElem?_toArray,List.getElem?_map,hy]
    rfl
   ·refine ocp _ ?_ (q2 n' h')
    by_cases z:(itM m n' (stM m h)).j≤m
    ·exact z
    ·exfalso;exact z (sj n')
end Wb
namespace Wb
open PySem
section
variable {prog:Program} {w:World} {K:Type} [DecidableEq K] {knd:KeyKind prog w K} {A:Around} {E:Value→Shared→Prop} {s:Shared}
structure TupsOf (knd:KeyKind prog w K) (h:Heap) (es:List (Int×Value)) (ks:List (List K)):Prop where
 len:es.length=ks.length
 at_:∀(i:Nat) (e:Int×Value),es[i]? =some e→∃k b,ks[i]? =some k∧e.2=.ref b∧IsTupleKey knd h k b∧e.1=tupleKeyHash knd k
theorem Tb.fits {t:SetTable} {es:Array (Int×Value)} (T:Tb t (es.toList.map (·.1))):t.fits es.size=true:=by
 have h1:=T.sz
 have h2:=T.room
 have h3:=T.dm
 simp at h1 h2
 unfold SetTable.fits SetTable.fill
 rw[h3]
 simp
 omega
theorem pj {m:Nat} (h:isMask m):(m% 2 == 0)=false:=by rcases h with rfl | rfl | rfl <;> rfl
theorem sk {m:Nat} :∀(k:Nat) {p:Pr},p.dummy=none→(itM m k p).dummy=none
 | 0,_,h=>h
 | k+1,p,h=>sk k (by unfold ee;split <;> exact h)
theorem l6 {a x:Addr} {o:Obj} {es:Array (Int×Value)} {ep:Nat} {t:SetTable} {ks:List (List K)} {kx:List K} (hu:A.units< cLine) (ho:s.heap.get? a=some o) (hd:o.data=.set es ep t) (T:Tb t (es.toList.map (·.1))) (hk:TupsOf knd s.heap es.toList ks) (hx:IsTupleKey knd s.heap kx x)
  (seen:∀(l:List Value) (Q:Bool→Shared→Prop),(∀y∈l,∃e∈es.toList,y=e.2)→Q false s→wpAny (model prog w) A (searchCouldBeSeen (.ref x) l) Q E s) {Q:SetFound→Shared→Prop} :
  ∀ (fuel G : Nat) (st : Option Pr), (st.getD (t.probeStart (tupleKeyHash knd kx))).dummy = none → G < fuel → G < 10 * SetTable.turns t.mask → ¬ InP t.place (itM t.mask G (st.getD (t.probeStart (tupleKeyHash knd kx)))).j → (∀ k', k' < G → InP t.place (itM t.mask k' (st.getD (t.probeStart (tupleKeyHash knd kx)))).j) →
   ((∃k i,k< G∧t.place.getD i 0=(itM t.mask k (st.getD (t.probeStart (tupleKeyHash knd kx)))).j∧ks[i]? =some kx)→Q (.there none) s)→
   ((∀k i,k< G→t.place.getD i 0=(itM t.mask k (st.getD (t.probeStart (tupleKeyHash knd kx)))).j→i< es.size→ks[i]? ≠some kx)→Q (.free (itM t.mask G (st.getD (t.probeStart (tupleKeyHash knd kx)))).j false) s)→
   wpAny (model prog w) A (setSearchFrom a (.ref x) (tupleKeyHash knd kx) true fuel st) Q E s:=by
 intro fuel
 induction fuel with
 | zero=>intro G st _ h;exact absurd h (by omega)
 | succ fuel ih =>
  intro G st hdm hG hGt hn ha h1 h2
  unfold setSearchFrom
  refine wpAny_bind (wpAny_setState_of ho hd T.fits ?_)
  dsimp only
  rw[if_neg (by unfold SetTable.gaveWay;rw[pj T.msk];decide)]
  generalize hp:st.getD (t.probeStart (tupleKeyHash knd kx))=p at*
  have hA:∀(i:Nat) (h:Int),(es.toList.map (·.1))[i]? =some h→(fun(i:Nat)=>(es[i]?.map (fun(e:Int×Value)=>e.1)).getD 0) i=h:=fun i h hh=>by
   rw[List.getElem?_map,Array.getElem?_toList]at hh
   show(es[i]?.map (fun(e:Int×Value)=>e.1)).getD 0=h
   rw[hh];rfl
  have go:=T.go hA (tupleKeyHash knd kx) G (10*SetTable.turns t.mask) p hdm hGt hn ha
  have hpr:t.probe (fun(i:Nat)=>(es[i]?.map (fun(e:Int×Value)=>e.1)).getD 0) (tupleKeyHash knd kx) p=SetTable.probe.go t (fun(i:Nat)=>(es[i]?.map (fun(e:Int×Value)=>e.1)).getD 0) (tupleKeyHash knd kx) (10*SetTable.turns t.mask) p:=rfl
  rw[←hpr]at go
  rcases go with⟨k,i,g1,g2,g3,g4,g5,g6⟩ | ⟨g1,g2⟩
  ·have e:∀f,f=(fun(i:Nat)=>(es[i]?.map (fun(e:Int×Value)=>e.1)).getD 0)→t.probe f (tupleKeyHash knd kx) p=some (.candidate (itM t.mask k p).j i (itM t.mask (k+1) p)):=fun f hf=>by rw[hf];exact g5
   have hi:i< es.size:=by simpa using g2
   obtain⟨ky,b,q1,q2,q3,q4⟩:=hk.at_ i es[i] (by rw[Array.getElem?_toList,Array.getElem?_eq_getElem hi])
   have hei:es[i]? =some (es[i].1,.ref b):=by rw[Array.getElem?_eq_getElem hi,←q2]
   have key_ne:∀k' i',k'< k→t.place.getD i' 0=(itM t.mask k' p).j→i'< es.size→ks[i']? ≠some kx:=fun k' i' hk' hi' hl hq=>by
    have hl':i'< es.toList.length:=by simpa using hl
    obtain⟨kz,c,z1,z2,z3,z4⟩:=hk.at_ i' es.toList[i'] (List.getElem?_eq_getElem hl')
    rw[z1]at hq
    cases hq
    refine g6 k' hk' i' hi' (by simpa using hl) ?_
    rw[List.getElem?_map,List.getElem?_eq_getElem hl',←z4]
    rfl
   have one:∀i',t.place.getD i' 0=(itM t.mask k p).j→i'< es.size→i'=i:=fun i' hi' hl=>by
    have h1':i'< t.place.size:=by have:=T.sz;simp at this;omega
    have h2':i< t.place.size:=by have:=T.sz;simp at this;omega
    rw[←eJ T.up h1',hi',←g3,eJ T.up h2']
   have again:ky≠kx→wpAny (model prog w) A (setSearchFrom a (.ref x) (tupleKeyHash knd kx) true fuel (some (itM t.mask (k+1) p))) Q E s:=fun hne=>by
    have ad:∀n,itM t.mask n (itM t.mask (k+1) p)=itM t.mask (k+1+n) p:=fun n=>(dl t.mask (k+1) n p).symm
    refine ih (G- (k+1)) (some (itM t.mask (k+1) p)) ?_ (by omega) (by omega) ?_ ?_ ?_ ?_
    ·exact sk (k+1) hdm
    ·show ¬InP t.place (itM t.mask _ (itM t.mask (k+1) p)).j
     rw[ad,show k+1+(G- (k+1))=G by omega];exact hn
    ·intro k' hk'
     show InP t.place (itM t.mask _ (itM t.mask (k+1) p)).j
     rw[ad];exact ha _ (by omega)
    ·rintro ⟨k',i',r1,r2,r3⟩
     have r2':t.place.getD i' 0=(itM t.mask k' (itM t.mask (k+1) p)).j:=r2
     rw[ad]at r2'
     exact h1 ⟨k+1+k',i',by omega,r2',r3⟩
    ·intro r
     show Q (.free (itM t.mask _ (itM t.mask (k+1) p)).j false) s
     rw[ad,show k+1+(G- (k+1))=G by omega]
     refine h2 fun k' i' z1 z2 z3=>?_
     by_cases y1:k'< k
     ·exact key_ne k' i' y1 z2 z3
     ·by_cases y2:k'=k
      ·subst y2
       rw[one i' z2 z3,q1]
       intro z;injection z with z;exact hne z
      ·refine r (k'- (k+1)) i' (by omega) ?_ z3
       show t.place.getD i' 0=(itM t.mask _ (itM t.mask (k+1) p)).j
       rw[ad,show k+1+(k'- (k+1))=k' by omega];exact z2
   have hlive:t.slot (itM t.mask k p).j=.live i:=by rw[←g3];exact T.live (by have:=T.sz;simp at this;omega)
   have hmem:t.sameMemory t.moves t.mask=some true:=by unfold SetTable.sameMemory;simp
   rw[e]
   ·dsimp only
    simp only[hei]
    by_cases hl:t.led=true
    ·rw[if_neg (by simp[hl])]
     refine wpAny_bind (wpAny_holding ((tupleKind knd).eqBool hu q3 hx ?_))
     refine wpAny_bind (wpAny_setState_of ho hd T.fits ?_)
     dsimp only
     by_cases hq:ky=kx
     ·rw[decide_eq_true hq,if_pos (by decide)]
      exact wpAny_pure (h1 ⟨k,i,g1,g3,hq▸q1⟩)
     ·rw[decide_eq_false hq,if_neg (by decide),hmem]
      dsimp only
      rw[if_pos rfl,hlive]
      dsimp only
      rw[hei]
      dsimp only
      refine wpAny_bind (wpAny_isSame_ref_self ?_)
      refine wpAny_bind (wpAny_pure ?_)
      exact again hq
    ·rw[if_pos (by simp[hl])]
     refine wpAny_bind (seen _ _ (fun y hy=>?_) ?_)
     ·obtain⟨z,hz,rfl⟩:=List.mem_map.mp hy
      exact⟨z,by simp at hz;simpa using hz.1,rfl⟩
     rw[if_neg (by decide)]
     refine wpAny_bind (wpAny_holding ((tupleKind knd).eqBool hu q3 hx ?_))
     refine wpAny_bind (wpAny_setState_of ho hd T.fits ?_)
     dsimp only
     by_cases hq:ky=kx
     ·rw[decide_eq_true hq,if_pos (by decide)]
      exact wpAny_pure (h1 ⟨k,i,g1,g3,hq▸q1⟩)
     ·rw[decide_eq_false hq,if_neg (by decide),hmem]
      dsimp only
      rw[if_pos rfl,hlive]
      dsimp only
      rw[hei]
      dsimp only
      refine wpAny_bind (wpAny_isSame_ref_self ?_)
      refine wpAny_bind (wpAny_pure ?_)
      exact again hq
   ·rfl
  ·have e:∀f,f=(fun(i:Nat)=>(es[i]?.map (fun(e:Int×Value)=>e.1)).getD 0)→t.probe f (tupleKeyHash knd kx) p=some (.empty (itM t.mask G p).j none):=fun f hf=>by rw[hf];exact g1
   rw[e]
   ·refine wpAny_pure (h2 fun k i hk' hi hl hq=>?_)
    have hl':i< es.toList.length:=by simpa using hl
    obtain⟨ky,b,q1,q2,q3,q4⟩:=hk.at_ i es.toList[i] (List.getElem?_eq_getElem hl')
    rw[q1]at hq
    cases hq
    refine g2 k hk' i hi (by simpa using hl) ?_
    rw[List.getElem?_map,List.getElem?_eq_getElem hl',←q4]
    rfl
   ·rfl
end
end Wb
namespace Wb
open PySem
section
variable {prog:Program} {w:World} {K:Type} [DecidableEq K] {knd:KeyKind prog w K} {A:Around} {E:Value→Shared→Prop} {s:Shared}
theorem nk {n:Nat} {v:Value} (h:carriedByValue v=true):ofAClassStatement n v=pure false:=by
 cases v <;> first | (cases n <;> rfl) | (exfalso;revert h;simp[carriedByValue])
theorem iG {ks:List K} {a:Addr} {Q:Bool→Shared→Prop} (hk:IsTupleKey knd s.heap ks a) (h:Q false s):wpAny (model prog w) A (ofAClassStatement 8 (.ref a)) Q E s:=by
 have hT:=hk.typeIs
 obtain⟨o,items,n,ho,_,hd,hi⟩:=hk
 unfold ofAClassStatement
 refine wpAny_bind (wpAny_typeOf hT ?_)
 dsimp only
 rw[if_pos (by rfl)]
 refine wpAny_bind (wpAny_pure ?_)
 rw[if_neg (by decide)]
 refine wpAny_bind (wpAny_seqItems ho hd ?_)
 dsimp only
 refine wpAny_bind ?_
 show wpAny _ _ (forIn items _ _) _ _ s
 rw[←Array.forIn_toList]
 refine wpAny_forIn_list _ (fun rest r s'=>r.1=none∧s'=s∧∀v∈rest,carriedByValue v=true) _ ?_ ?_ _ _ ⟨rfl,rfl,hi.byValue⟩
 ·rintro v rest r s' ⟨hr,rfl,hall⟩
  rw[nk (hall v List.mem_cons_self)]
  refine wpAny_bind (wpAny_pure ?_)
  simp only[Bool.false_eq_true,if_false]
  exact wpAny_pure ⟨rfl,rfl,fun u hu'=>hall u (List.mem_cons_of_mem _ hu')⟩
 ·rintro ⟨r1,r2⟩ s' ⟨hr,rfl,_⟩
  simp only at hr
  subst hr
  exact wpAny_pure h
theorem pq {kx:List K} {x:Addr} (hx:IsTupleKey knd s.heap kx x):∀(l:List Value) {Q:Bool→Shared→Prop},(∀y∈l,∃k b,y=.ref b∧IsTupleKey knd s.heap k b)→Q false s→wpAny (model prog w) A (searchCouldBeSeen (.ref x) l) Q E s:=by
 intro l Q hl h
 unfold searchCouldBeSeen
 refine wpAny_bind ?_
 refine wpAny_forIn_list _ (fun rest r s'=>r.1=none∧s'=s∧∀y∈rest,∃k b,y=.ref b∧IsTupleKey knd s.heap k b) _ ?_ ?_ _ _ ⟨rfl,rfl,hl⟩
 ·rintro v rest r s' ⟨hr,rfl,hall⟩
  obtain⟨k,b,rfl,hb⟩:=hall v List.mem_cons_self
  dsimp only
  by_cases z:x=b
  ·rw[if_pos (by simp[z])]
   exact wpAny_pure ⟨rfl,rfl,fun u hu'=>hall u (List.mem_cons_of_mem _ hu')⟩
  ·rw[if_neg (by simp[z,carriedByValue])]
   refine wpAny_bind ((tupleKind knd).quiet hx ?_)
   simp only[Bool.not_true,Bool.false_eq_true,if_false]
   refine wpAny_bind ((tupleKind knd).quiet hb ?_)
   simp only[Bool.not_true,Bool.false_eq_true,if_false]
   refine wpAny_bind (iG hx ?_)
   simp only[Bool.false_eq_true,if_false]
   refine wpAny_bind (iG hb ?_)
   simp only[Bool.false_eq_true,if_false]
   exact wpAny_pure ⟨rfl,rfl,fun u hu'=>hall u (List.mem_cons_of_mem _ hu')⟩
 ·rintro ⟨r1,r2⟩ s' ⟨hr,rfl,_⟩
  simp only at hr
  subst hr
  exact wpAny_pure h
end
end Wb
namespace Wb
open PySem
section
variable {prog:Program} {w:World} {K:Type} [DecidableEq K] {knd:KeyKind prog w K}
theorem jZ {h h':Heap} {a b:Addr} {o:Obj} {es:Array (Int×Value)} {ep:Nat} {t:SetTable} {k:List K} (hk:IsTupleKey knd h k b) (ho:h.get? a=some o) (hd:o.data=.set es ep t) (hs:Heap.SameBut a h h'):IsTupleKey knd h' k b:=by
 obtain⟨ob,items,n,h1,h2,h3,h4⟩:=hk
 have ne:b≠a:=fun z=>by
  subst z
  rw[ho]at h1
  cases h1
  rw[hd]at h3
  cases h3
 exact⟨ob,items,n,(hs.2 b ne).trans h1,h2,h3,h4⟩
theorem TupsOf.keep {h h':Heap} {a:Addr} {o:Obj} {es:Array (Int×Value)} {ep:Nat} {t:SetTable} {l:List (Int×Value)} {ks:List (List K)} (T:TupsOf knd h l ks) (ho:h.get? a=some o) (hd:o.data=.set es ep t) (hs:Heap.SameBut a h h'):TupsOf knd h' l ks:=
 ⟨T.len,fun i e he=>let ⟨k,b,q1,q2,q3,q4⟩:=T.at_ i e he;⟨k,b,q1,q2,jZ q3 ho hd hs,q4⟩⟩
end
end Wb
namespace Wb
open PySem
section
variable {prog:Program} {w:World} {K:Type} [DecidableEq K] {knd:KeyKind prog w K} {A:Around} {E:Value→Shared→Prop} {s:Shared}
theorem pr {ks:List K} {a:Addr} {Q:Bool→Shared→Prop} (hI:∀k∈ks,∀v,knd.is k v=true→∃i t,v=.int i t) (hk:IsTupleKey knd s.heap ks a) (h:Q true s):wpAny (model prog w) A (hashByValue 8 (.ref a)) Q E s:=by
 have hT:=hk.typeIs
 obtain⟨o,items,n,ho,_,hd,hi⟩:=hk
 unfold hashByValue
 refine wpAny_bind (wpAny_specialOf hT F.slot_tuple_hash.lookup ?_)
 show wpAny _ _ (seqItems? (.ref a) >>= _) _ _ s
 refine wpAny_bind (wpAny_seqItems ho hd ?_)
 dsimp only
 refine wpAny_bind ?_
 show wpAny _ _ (forIn items _ _) _ _ s
 rw[←Array.forIn_toList]
 have hall:∀v∈items.toList,∃i t,v=.int i t:=by
  clear hd ho
  generalize items.toList=l at hi
  induction hi with
  | nil=>intro v hv;cases hv
  | cons h1 _ ih =>
   intro v hv
   rcases List.mem_cons.mp hv with rfl | hv
   ·exact hI _ (List.mem_cons_self ..) _ h1
   ·exact ih (fun k hk=>hI k (List.mem_cons_of_mem _ hk)) v hv
 refine wpAny_forIn_list _ (fun rest r s'=>r.1=none∧s'=s∧∀v∈rest,∃i t,v=Value.int i t) _ ?_ ?_ _ _ ⟨rfl,rfl,hall⟩
 ·rintro v rest r s' ⟨hr,rfl,hall⟩
  obtain⟨i,t,rfl⟩:=hall v List.mem_cons_self
  show wpAny _ _ (hashByValue 7 (.int i t) >>= _) _ _ _
  rw[show hashByValue 7 (.int i t)=pure true from rfl]
  refine wpAny_bind (wpAny_pure ?_)
  exact wpAny_pure ⟨rfl,rfl,fun u hu'=>hall u (List.mem_cons_of_mem _ hu')⟩
 ·rintro ⟨r1,r2⟩ s' ⟨hr,rfl,_⟩
  simp only at hr
  subst hr
  exact wpAny_pure h
structure SetT (knd:KeyKind prog w K) (h:Heap) (a:Addr) (led:Bool) (ks:List (List K)) (o:Obj) (es:Array (Int×Value)) (ep:Nat) (t:SetTable):Prop where
 at_:h.get? a=some o
 ex:o.ExactSet
 dat:o.data=.set es ep t
 tab:Tb t (es.toList.map (·.1))
 tup:TupsOf knd h es.toList ks
 nd:ks.Nodup
 led:t.led=led
 pl:t.plain=true
theorem Tp.fits {t:SetTable} {es:Array (Int×Value)} (T:Tp t (es.toList.map (·.1))) (h:es.size≤t.mask):t.fits es.size=true:=by
 have h1:=T.sz
 have h3:=T.dm
 simp at h1
 unfold SetTable.fits SetTable.fill
 rw[h3]
 simp
 omega
theorem Tp.full {t:SetTable} {es:Array (Int×Value)} (T:Tp t (es.toList.map (·.1))):t.tooFull=decide (es.size*5≥t.mask*3):=by
 have h1:=T.sz
 simp at h1
 unfold SetTable.tooFull SetTable.fill
 rw[T.dm,h1]
 simp
theorem qV {es:Array (Int×Value)} {order:Array Nat} (h:order.toList.Perm (List.range es.size)):(order.filterMap (es[·]?)).toList=order.toList.map fun i=>es.toList.getD i (0,.none):=by
 rw[Array.toList_filterMap]
 have:∀i∈order.toList,i< es.size:=fun i hi=>by have:=h.mem_iff.mp hi;simpa using this
 generalize order.toList=l at this
 clear h
 induction l with
 | nil=>rfl
 | cons i l ih =>
  have hi:=this i (List.mem_cons_self ..)
  rw[List.filterMap_cons,Array.getElem?_eq_getElem hi,List.map_cons,ih fun j hj=>this j (List.mem_cons_of_mem _ hj)]
  congr 1
  rw[List.getD_eq_getElem?_getD,List.getElem?_eq_getElem (by simpa using hi)]
  rfl
theorem eZ {α:Type} (l:List α) (d:α):(List.range l.length).map (fun i=>l.getD i d)=l:=by
 apply List.ext_getElem?
 intro i
 rw[List.getElem?_map]
 by_cases z:i< l.length
 ·rw[List.getElem?_range z,List.getElem?_eq_getElem z]
  simp[List.getD_eq_getElem?_getD,z]
 ·rw[List.getElem?_eq_none (by simpa using z),List.getElem?_eq_none (by simpa using z)];rfl
theorem TupsOf.order {h:Heap} {es:List (Int×Value)} {ks:List (List K)} (U:TupsOf knd h es ks) {l:List Nat} (hl:l.Perm (List.range es.length)):TupsOf knd h (l.map fun i=>es.getD i (0,.none)) (l.map fun i=>ks.getD i []):=by
 refine⟨by simp,fun i e he=>?_⟩
 rw[List.getElem?_map]at he
 obtain⟨j,hj,e1⟩:=Option.map_eq_some_iff.mp he
 have hlt:j< es.length:=by have:=hl.mem_iff.mp (List.mem_of_getElem? hj);simpa using this
 obtain⟨k,b,q1,q2,q3,q4⟩:=U.at_ j es[j] (List.getElem?_eq_getElem hlt)
 have e2:e=es[j]:=by rw[←e1,List.getD_eq_getElem?_getD,List.getElem?_eq_getElem hlt];rfl
 subst e2
 refine⟨k,b,?_,q2,q3,q4⟩
 rw[List.getElem?_map,hj]
 simp[List.getD_eq_getElem?_getD,q1]
theorem pz {a:Addr} {o:Obj} {es es1:Array (Int×Value)} {ep n:Nat} {t t1:SetTable} {led:Bool} {ks1:List (List K)} (ho:s.heap.get? a=some o) (hex:o.ExactSet) (hd:o.data=.set es ep t) (T1:Tp t1 (es1.toList.map (·.1))) (U1:TupsOf knd s.heap es1.toList ks1) (nd1:ks1.Nodup) (hl:t1.led=led) (hpl:t1.plain=true) (hn:es1.size=n) (h0:0< n) (h63:n≤63) (hr:(n- 1)*5< t1.mask*3) {Q:Bool→Shared→Prop}
  (h:∀h' ks' o' es' ep' t',Heap.SameBut a s.heap h'→SetT knd h' a led ks' o' es' ep' t'→ks'.Perm ks1→es'.toList.Perm es1.toList→Q true {s with heap:=h'}):
  wpAny (model prog w) A (do
    storeSet a es1 t1
    if(!false && t1.tooFull)=true then setRelay a (SetTable.grown n)
    pure true) Q E s:=by
 have put:∀(s:Shared) (o:Obj) es ep t (es':Array (Int×Value)) (t':SetTable),s.heap.get? a=some o→o.data=.set es ep t→(s.heap.update a (Obj.putSet es' t')).get? a=some {o with data:=.set es' (ep+1) t'} :=fun s o es ep t es' t' ho hd=>by
  have:=Heap.get?_update_self (Obj.putSet es' t') ho (by rw[putSet_of es' t' hd];rfl)
  rw[putSet_of es' t' hd]at this;exact this
 have big:63≤sizeLine:=by rw[sizeLine_eq];omega
 have mk:=T1.msk
 refine wpAny_bind (wpAny_storeSet_of ho hd ?_ (by omega))
 have ho1:=put s o es ep t es1 t1 ho hd
 have sb1:=Heap.SameBut.update s.heap a (Obj.putSet es1 t1)
 have U2:=U1.keep ho hd sb1
 rw[T1.full]
 by_cases z:es1.size*5≥t1.mask*3
 ·rw[decide_eq_true z,if_pos (by rfl)]
  unfold setRelay
  refine wpAny_bind (wpAny_bind (wpAny_setState_of ho1 rfl (T1.fits (by rcases mk with y | y | y <;> omega)) ?_))
  dsimp only
  have hw:SetTable.sizeAbove (SetTable.grown n)≤128∧isMask (SetTable.sizeAbove (SetTable.grown n)- 1)∧n*5< (SetTable.sizeAbove (SetTable.grown n)- 1)*3:=by
   rcases mk with y | y | y
   ·have:n=5:=by omega
    subst this;exact⟨by decide,.inr (.inl (by decide)),by decide⟩
   ·have:n=19:=by omega
    subst this;exact⟨by decide,.inr (.inr (by decide)),by decide⟩
   ·omega
  rw[if_neg (by have:=hw.1;rw[sizeLine_eq];omega)]
  obtain⟨t2,order,e2,m2,l2,p2,pm,T2⟩:=qU hw.2.1 (hs:=es1.map (·.1)) (by simp;omega) t1.finger (t1.movedTo (SetTable.sizeAbove (SetTable.grown n)- 1)) t1.led t1.plain
  have er:t1.relaid (es1.map (·.1)) (SetTable.grown n)=some (t2,order):=e2
  have pm':order.toList.Perm (List.range es1.size):=by simpa using pm
  have fm:=qV (es:=es1) pm'
  have fs:(order.filterMap (es1[·]?)).size=es1.size:=by
   rw[←Array.length_toList,fm,List.length_map,pm'.length_eq,List.length_range]
  rw[er]
  have key:∀(f:Array (Int×Value)→Option (SetTable×Array Nat)→Sem (Array (Int×Value)×SetTable)) (R:(Array (Int×Value)×SetTable)→Shared→Prop) (s:Shared),(∀es l,f es l=(do
     let some (t,order):=l | unsupported "internal:set-table-without-room"
     let es':=order.filterMap (es[·]?)
     if es'.size != es.size then unsupported "internal:set-table-lost-an-element"
     pure (es',t)))→R (order.filterMap (es1[·]?),t2) s→wpAny (model prog w) A (f es1 (some (t2,order))) R E s:=fun f R s hf hR=>by
   rw[hf]
   dsimp only
   rw[if_neg (by rw[fs];simp)]
   exact wpAny_pure hR
  refine wpAny_bind (key _ _ _ (fun _ _=>rfl) ?_)
  dsimp only
  refine wpAny_storeSet_of ho1 rfl ?_ (by rw[fs];omega)
  have ho2:=put {s with heap:=s.heap.update a (Obj.putSet es1 t1)} _ _ _ _ (order.filterMap (es1[·]?)) t2 ho1 rfl
  have sb2:=Heap.SameBut.update (s.heap.update a (Obj.putSet es1 t1)) a (Obj.putSet (order.filterMap (es1[·]?)) t2)
  have U3:=U2.order (l:=order.toList) (by simpa using pm')
  rw[←fm]at U3
  have U4:=U3.keep ho1 rfl sb2
  have pk:(order.toList.map fun i=>ks1.getD i []).Perm ks1:=by
   have:=pm'.map (fun i=>ks1.getD i [])
   have hl:es1.size=ks1.length:=by have:=U1.len;simpa using this
   rw[hl,eZ]at this
   exact this
  have pe:(order.filterMap (es1[·]?)).toList.Perm es1.toList:=by
   rw[fm]
   have:=pm'.map (fun i=>es1.toList.getD i (0,Value.none))
   have hl:es1.size=es1.toList.length:=by simp
   rw[hl,eZ]at this
   exact this
  refine wpAny_pure (h _ _ _ _ _ _ (sb1.trans sb2) ⟨ho2,hex,rfl,⟨?_,?_⟩,U4,pk.nodup_iff.mpr nd1,by rw[l2];exact hl,by rw[p2];exact hpl⟩ pk pe)
  ·rw[fm,List.map_map]
   have:((fun x:Int×Value=>x.1) ∘ fun i=>es1.toList.getD i (0,.none))=fun i=>(es1.map (·.1)).toList.getD i 0:=funext fun i=>by
    simp only[Function.comp,List.getD_eq_getElem?_getD,Array.toList_map,List.getElem?_map]
    cases es1.toList[i]? <;> rfl
   rw[this]
   exact T2
  ·rw[List.length_map,Array.length_toList,fs,m2]
   have:=hw.2.2
   omega
 ·rw[decide_eq_false z,if_neg (by decide)]
  refine wpAny_pure (h _ _ _ _ _ _ sb1 ⟨ho1,hex,rfl,⟨T1,by simp;omega⟩,U2,nd1,hl,hpl⟩ (.refl _) (.refl _))
theorem qW {a x:Addr} {o:Obj} {es:Array (Int×Value)} {ep:Nat} {t:SetTable} {led:Bool} {ks:List (List K)} {kx:List K} (hu:A.units< cLine) (S:SetT knd s.heap a led ks o es ep t) (hn:es.size< 63) (hx:IsTupleKey knd s.heap kx x) (hI:∀k∈kx,∀v,knd.is k v=true→∃i t,v=.int i t)
  {Q:Bool→Shared→Prop} {fuel:Nat}
  (h1:kx∈ks→Q false s) (h2:kx∉ks→∀h' ks' o' es' ep' t',Heap.SameBut a s.heap h'→SetT knd h' a led ks' o' es' ep' t'→ks'.Perm (kx::ks)→es'.toList.Perm ((tupleKeyHash knd kx,.ref x)::es.toList)→Q true {s with heap:=h'}):
  wpAny (model prog w) A (setAddHashedIn a (.ref x) (tupleKeyHash knd kx) (fuel+1)) Q E s:=by
 unfold setAddHashedIn
 refine wpAny_bind (wpAny_setState_of S.at_ S.dat S.tab.fits ?_)
 dsimp only
 rw[if_neg (by unfold byScan;simp[Value.scannable])]
 obtain⟨G,g1,g2,g3⟩:=S.tab.gap (pc t (tupleKeyHash knd kx))
 have mem:∀i,i< es.size→ks[i]? =some kx→∃k,k< G∧t.place.getD i 0=(itM t.mask k (t.probeStart (tupleKeyHash knd kx))).j:=fun i hi z=>by
  have hi':i< es.toList.length:=by simpa using hi
  obtain⟨k,b,q1,q2,q3,q4⟩:=S.tup.at_ i es.toList[i] (List.getElem?_eq_getElem hi')
  rw[q1]at z
  cases z
  obtain⟨n,r1,r2⟩:=S.tab.reach i (tupleKeyHash knd kx) (by rw[List.getElem?_map,List.getElem?_eq_getElem hi',←q4];rfl)
  refine⟨n,?_,r1.symm⟩
  by_cases y:n< G
  ·exact y
  ·by_cases y2:n=G
   ·subst y2
    refine absurd ?_ g2
    rw[r1]
    exact⟨i,by have:=S.tab.sz;simp at this;omega,rfl⟩
   ·exact absurd (r2 G (by omega)) g2
 refine wpAny_bind ?_
 unfold setSearch
 have ht:t.mask≤127:=by rcases S.tab.msk with z | z | z <;> omega
 refine l6 (knd:=knd) hu S.at_ S.dat S.tab S.tup hx (fun l Q hl h=>pq hx l (fun y hy=>?_) h) 100000 G none rfl (by unfold SetTable.turns at g1;omega) g1 g2 g3 ?_ ?_
 ·obtain⟨e,he,rfl⟩:=hl y hy
  obtain⟨i,hi,rfl⟩:=List.mem_iff_getElem.mp he
  obtain⟨k,b,q1,q2,q3,q4⟩:=S.tup.at_ i es.toList[i] (List.getElem?_eq_getElem hi)
  exact⟨k,b,q2,q3⟩
 ·rintro ⟨k,i,_,_,hq⟩
  exact wpAny_pure (h1 (List.mem_of_getElem? hq))
 ·intro hall
  have nin:kx∉ks:=fun hm=>by
   obtain⟨i,hi,e⟩:=List.mem_iff_getElem.mp hm
   have hi':i< es.size:=by have:=S.tup.len;simp at this;omega
   have hq:ks[i]? =some kx:=by rw[List.getElem?_eq_getElem hi,e]
   obtain⟨k,q1,q2⟩:=mem i hi' hq
   exact hall k i q1 q2 hi' hq
  refine wpAny_bind (wpAny_setState_of S.at_ S.dat S.tab.fits ?_)
  dsimp only
  have jle:(itM t.mask G (t.probeStart (tupleKeyHash knd kx))).j≤t.mask:=sj (m:=t.mask) (h:=tupleKeyHash knd kx) G
  obtain⟨p1,p2,p3⟩:=S.tab.put g2 jle g3
  have led1:(t.put (itM t.mask G (t.probeStart (tupleKeyHash knd kx))).j).1.led=t.led:=rfl
  simp only[Option.getD_none]
  generalize hP:t.put (itM t.mask G (t.probeStart (tupleKeyHash knd kx))).j=P at*
  obtain⟨t1,p⟩:=P
  dsimp only at p1 p2 p3 led1
  have hp:p≤es.size:=by simpa using p1
  have il:=hU es p (tupleKeyHash knd kx,Value.ref x)
  have T1:Tp t1 ((SetTable.insertAt es p (tupleKeyHash knd kx,Value.ref x)).toList.map (·.1)):=by
   rw[il,List.map_append,List.map_cons,List.map_take,List.map_drop];exact p3
  have U1:TupsOf knd s.heap (SetTable.insertAt es p (tupleKeyHash knd kx,Value.ref x)).toList (ks.take p++kx::ks.drop p):=by
   have hlen:=S.tup.len
   have hp2:p≤ks.length:=by simp at hlen;omega
   rw[il]
   refine⟨by simp[hlen],fun i e he=>?_⟩
   have l1:(es.toList.take p).length=p:=by simp;omega
   have l2:(ks.take p).length=p:=by simp;omega
   by_cases z:i< p
   ·rw[List.getElem?_append_left (by omega),List.getElem?_take_of_lt z]at he
    obtain⟨k,b,q⟩:=S.tup.at_ i e he
    exact⟨k,b,by rw[List.getElem?_append_left (by omega),List.getElem?_take_of_lt z];exact q.1,q.2⟩
   ·rw[List.getElem?_append_right (by omega),l1]at he
    rw[List.getElem?_append_right (by omega),l2]
    by_cases y:i=p
    ·rw[y,Nat.sub_self,List.getElem?_cons_zero]at he ⊢
     cases he
     exact⟨kx,x,rfl,rfl,hx,rfl⟩
    ·rw[show i- p=(i- p- 1)+1 by omega,List.getElem?_cons_succ,List.getElem?_drop]at he ⊢
     exact S.tup.at_ _ e he
  have pk:(ks.take p++kx::ks.drop p).Perm (kx::ks):=List.perm_middle.trans (.cons kx (by rw[List.take_append_drop]))
  have nd1:(ks.take p++kx::ks.drop p).Nodup:=pk.nodup_iff.mpr (List.nodup_cons.mpr ⟨nin,S.nd⟩)
  have room:=S.tab.room
  have pl1:t1.plain=true:=by have:=S.pl;rw[←this];have e:=congrArg (fun z:SetTable×Nat=>z.1.plain) hP;exact e.symm
  rw[if_pos pl1]
  refine wpAny_bind (pr hI hx ?_)
  exact pz S.at_ S.ex S.dat T1 U1 nd1 (led1.trans S.led) pl1 (db es hp _) (by omega) (by omega) (by rw[p2];simpa using room) fun h' ks' o' es' ep' t' a1 a2 a3 a4=>h2 nin h' ks' o' es' ep' t' a1 a2 (a3.trans pk) (a4.trans (by rw[il];exact List.perm_middle.trans (.cons _ (by rw[List.take_append_drop]))))
end
end Wb
namespace Wb
open PySem PySem.W PySem.Calls PyProof.Rows
theorem sl_next:Slot "set_iterator" "__next__" "set_iterator.__next__" :=
 .of (owner:="set_iterator") (n:="__next__") (by rw[typeLookup_type,builtinLookup_eq_fast];kernel_rfl) (by decide +kernel) (by decide +kernel) (by decide +kernel)
  (by first | exact .inl (by decide +kernel) | exact .inr (by decide +kernel)) (by rw[isSubtype_type];kernel_rfl)
theorem lY:Slot "set_iterator" "__iter__" "set_iterator.__iter__" :=
 .of (owner:="set_iterator") (n:="__iter__") (by rw[typeLookup_type,builtinLookup_eq_fast];kernel_rfl) (by decide +kernel) (by decide +kernel) (by decide +kernel)
  (by first | exact .inl (by decide +kernel) | exact .inr (by decide +kernel)) (by rw[isSubtype_type];kernel_rfl)
theorem lZ:entryFor table "set_iterator.__next__" =some Builtin.«set_iterator.__next__» :=entryFor_of_tree (by kernel_rfl)
theorem qX:entryFor table "set_iterator.__iter__" =some Builtin.«dict_keyiterator.__iter__» :=entryFor_alias (id':="dict_keyiterator.__iter__") (by kernel_rfl) rfl (by decide +kernel) (by kernel_rfl)
theorem tG:entryFor table "set.__iter__" =some Builtin.«frozenset.__iter__» :=entryFor_alias (id':="frozenset.__iter__") (by kernel_rfl) rfl (by decide +kernel) (by kernel_rfl)
theorem m6:Manifest.owners.lookup (String.ofList ['r','o','t','a','r','e','t','i','_','t','e','s'].reverse)=some Manifest.sig_set_iterator:=by kernel_rfl
theorem m7 (a:Value):argsOk "set_iterator.__next__" ⟨[a],[]⟩:=by
 unfold argsOk;rw[signature?_of (id:="set_iterator.__next__") (n:=['_','_','t','x','e','n','_','_']) (o:=['r','o','t','a','r','e','t','i','_','t','e','s']) (by kernel_rfl) m6];kernel_rfl
theorem qY (a:Value):argsOk "set_iterator.__iter__" ⟨[a],[]⟩:=by
 unfold argsOk;rw[signature?_of (id:="set_iterator.__iter__") (n:=['_','_','r','e','t','i','_','_']) (o:=['r','o','t','a','r','e','t','i','_','t','e','s']) (by kernel_rfl) m6];kernel_rfl
theorem hV {α:Type} :∀(l:List α) (i:Nat) (h:i< l.length),(l[i]::l.eraseIdx i).Perm l
 | a::l,0,_=>.refl _
 | a :: l, i + 1, h => by
  have h2:i< l.length:=by simpa using h
  exact(List.Perm.swap a l[i] (l.eraseIdx i)).trans (.cons a (hV l i h2))
theorem iH {α:Type} (next:Nat→Nat):∀(fuel k:Nat) (left:List α) (out:Array α),fuel=left.length→(pickOrder.go next fuel k left out).toList.Perm (out.toList++left)
 | 0, k, left, out, h => by
  have:left=[]:=List.length_eq_zero_iff.mp h.symm
  subst this
  unfold pickOrder.go
  simp
 | fuel + 1, k, left, out, h => by
  unfold pickOrder.go
  have hl:next k% left.length< left.length:=Nat.mod_lt _ (by omega)
  rw[List.getElem?_eq_getElem hl]
  dsimp only
  refine(iH next fuel (k+1) _ _ (by rw[List.length_eraseIdx];simp[hl];omega)).trans ?_
  rw[Array.toList_push,List.append_assoc]
  refine List.Perm.append_left _ ?_
  exact hV left _ hl
def bD (w:World) (a:Addr) (ep:Nat) (es:Array (Int×Value)):Array (Int×Value):=if w.params.followText "set-order" =true then pickOrder (w.params.setOrder a ep) es else es
theorem fD (w:World) (a:Addr) (ep:Nat) (es:Array (Int×Value)):(bD w a ep es).toList.Perm es.toList:=by
 unfold bD
 split
 ·have:=iH (w.params.setOrder a ep) es.size 0 es.toList #[] (by simp)
  simp only[List.nil_append]at this
  exact this
 ·exact .refl _
def bB (w:World) (t:SetTable) (i:Nat):Int:=if w.params.followText "set-order" =true then 0 else if i=0 then 0 else(t.place.getD (i- 1) 0:Int)+1
theorem l7 {w:World} {t:SetTable} {hs:List Int} (T:Tp t hs) (hb:¬w.params.followText "set-order" =true) {i:Nat} (hi:i≤t.place.size):SetTable.below t.place (bB w t i).toNat=i:=by
 obtain⟨b0,b1,b2⟩:=fA T.up (bB w t i).toNat
 generalize hB:SetTable.below t.place (bB w t i).toNat=b at*
 have e:(bB w t i).toNat=if i=0 then 0 else t.place.getD (i- 1) 0+1:=by
  unfold bB;rw[if_neg hb];split <;> omega
 rw[e]at b1 b2
 by_cases z:i=0
 ·rw[if_pos z]at b1
  by_cases y:b=0
  ·omega
  ·have:=b1 0 (by omega);omega
 ·rw[if_neg z]at b1 b2
  by_cases y:b< i
  ·have:=b2 (i- 1) (by omega) (by omega)
   omega
  ·by_cases y2:i< b
   ·have h1:=b1 i y2
    have h2:=T.up (i- 1) i (by omega) (by omega)
    omega
   ·omega
def hW (w:World) (a:Addr) (t:SetTable) (n ep i:Nat):Obj:={cls:=.type "set_iterator",dict:=none,data:=.fields #[.int (bB w t i) 0,.int i 0,.ref a,.int n 0,.int ep 0],slots:= #[]}
section
variable {prog:Program} {w:World} {A:Around} {E:Value→Shared→Prop} {s:Shared} {a I:Addr} {o:Obj} {es:Array (Int×Value)} {ep:Nat} {t:SetTable}
theorem k4 {i:Nat} {Q:Option (Value×Nat)→Shared→Prop} (ho:s.heap.get? a=some o) (hd:o.data=.set es ep t) (T:Tp t (es.toList.map (·.1))) (hf:t.fits es.size=true) (hl:t.led= !w.params.followText "set-order") (hp:t.plain=true) (hi:i≤es.size)
  (h:Q (((bD w a ep es)[i]?).map fun e=>(e.2,(bB w t (i+1)).toNat)) s):wpAny (model prog w) A (setNext a (bB w t i).toNat i ep) Q E s:=by
 have hsz:t.place.size=es.size:=by have:=T.sz;simpa using this
 unfold setNext
 refine wpAny_bind (wpAny_setState_of ho hd hf ?_)
 dsimp only
 unfold setsByText
 refine wpAny_bind (wpAny_bind (wpAny_askSetting (wpAny_pure ?_)))
 show wpAny (model prog w) A (if w.params.followText "set-order" =true then _ else _) Q E s
 by_cases z:w.params.followText "set-order" =true
 ·rw[if_pos z,if_neg (by simp)]
  unfold setWalk
  refine wpAny_bind (wpAny_bind (wpAny_setState_of ho hd hf ?_))
  dsimp only
  unfold setsByText
  refine wpAny_bind (wpAny_bind (wpAny_askSetting (wpAny_pure ?_)))
  show wpAny (model prog w) A (if w.params.followText "set-order" =true then _ else _) _ E s
  rw[if_pos z]
  refine wpAny_bind (wpAny_askSetting (wpAny_pure (wpAny_pure ?_)))
  unfold bD bB at h
  rw[if_pos z,if_pos z]at h
  unfold bB
  rw[if_pos z]
  exact h
 ·rw[if_neg z]
  refine wpAny_ite_split (fun hab=>absurd hab (show ¬((!t.plain && decide (es.size> 1))=true) by rw[hp];simp)) (fun _=>?_)
  show wpAny _ _ ((if(!t.led && !es.isEmpty)=true then unsupported _ else pure ()) >>= _) _ _ _
  rw[if_neg (by rw[hl];simp[z])]
  refine wpAny_bind (wpAny_pure ?_)
  rw[l7 T z (by omega)]
  unfold bD at h
  rw[if_neg z]at h
  by_cases y:i< es.size
  ·have y2:i< t.place.size:=by omega
   rw[Array.getElem?_eq_getElem y]at h ⊢
   rw[Array.getElem?_eq_getElem y2]
   have e:(bB w t (i+1)).toNat=t.place[i]+1:=by
    unfold bB
    rw[if_neg z,if_neg (by omega),show i+1- 1=i by omega]
    have:t.place.getD i 0=t.place[i]:=by simp[Array.getD,y2]
    omega
   simp only[Option.map_some,e]at h
   exact wpAny_pure h
  ·rw[Array.getElem?_eq_none (by omega)]at h ⊢
   exact wpAny_pure h
end
end Wb
namespace Wb
open PySem PySem.W PySem.Calls PyProof.Rows
section
variable {prog:Program} {w:World} {A:Around} {E:Value→Shared→Prop} {s:Shared} {a I:Addr} {o:Obj} {es:Array (Int×Value)} {ep:Nat} {t:SetTable}
theorem hX {n i:Nat} (h:s.heap.get? I=some (hW w a t n ep i)):s.TypeIs (.ref I) "set_iterator" :=⟨_,h,rfl⟩
structure SetR (w:World) (o:Obj) (es:Array (Int×Value)) (ep:Nat) (t:SetTable):Prop where
 ex:o.ExactSet
 dat:o.data=.set es ep t
 tab:Tb t (es.toList.map (·.1))
 led:t.led= !w.params.followText "set-order"
 pl:t.plain=true
theorem pA {Q:Value→Shared→Prop} (R:SetR w o es ep t) (ho:s.heap.get? a=some o) (h:Q (.ref s.heap.objs.size) {s with heap:=s.heap.push (hW w a t es.size ep 0)}):wpAny (model prog w) A (pyIter (.ref a)) Q E s:=by
 have hT:s.TypeIs (.ref a) "set" :=⟨o,ho,R.ex.1⟩
 refine wpAny_pyIter_slot hT F.slot_set_iter (wpAny_call_entry F.slot_set_iter hT tG ?_ (F.args_set_iter_1 _))
 unfold Builtin.«frozenset.__iter__»
 refine wpAny_bind (m:=Builtin.Frozenset.slot0 _ _) (wpAny_pure ?_)
 unfold Builtin.Frozenset.sizeOf
 refine wpAny_bind (wpAny_bind (wpAny_setEntries_of ho R.dat R.tab.fits (wpAny_pure ?_)))
 unfold setDrawn
 refine wpAny_bind (wpAny_bind (wpAny_setState_of ho R.dat R.tab.fits ?_))
 dsimp only
 unfold setsByText
 refine wpAny_bind (wpAny_bind (wpAny_askSetting (wpAny_pure (wpAny_pure ?_))))
 refine wpAny_ite_split (fun hab=>absurd hab (show ¬((!w.params.followText "set-order" && (!t.plain && decide (es.size> 1)))=true) by rw[R.pl];simp)) (fun _=>?_)
 refine wpAny_bind (wpAny_pure ?_)
 refine wpAny_bind (wpAny_setEpoch_of ho R.dat R.tab.fits ?_)
 have e0:bB w t 0=0:=by unfold bB;split <;> rfl
 refine wpAny_bind (wpAny_newObj_type (wpAny_pure ⟨_,rfl,"set_iterator",_,⟨_,Heap.get?_push_size _ rfl,rfl⟩,sl_next.lookup,?_⟩))
 unfold hW at h
 rw[e0]at h
 exact h
theorem nl {i:Nat} {Q:Option Value→Shared→Prop} (R:SetR w o es ep t) (ho:s.heap.get? a=some o) (hne:a≠I) (hI:s.heap.get? I=some (hW w a t es.size ep i)) {e:Int×Value} (he:(bD w a ep es)[i]? =some e)
  (h:∀h',h'.get? I=some (hW w a t es.size ep (i+1))→Heap.SameBut I s.heap h'→Q (some e.2) {s with heap:=h'}):wpAny (model prog w) A (pyNext (.ref I)) Q E s:=by
 have hsz:(bD w a ep es).size=es.size:=by have:=(fD w a ep es).length_eq;simpa using this
 have hi:i< es.size:=by have:=(Array.getElem?_eq_some_iff.mp he).1;omega
 have hT:=hX hI
 unfold pyNext
 refine wpAny_bind (wpAny_attempt (wpAny_callSpecial?_slot (name:=Str.ofString "__next__") hT sl_next
  (wpAny_call_entry sl_next hT lZ ?_ (m7 _))))
 unfold Builtin.«set_iterator.__next__»
 refine wpAny_bind (m:=slotArgs _ _ _) (wpAny_pure ?_)
 refine wpAny_bind (wpAny_fieldsOf hI rfl ?_)
 dsimp only
 refine wpAny_bind (wpAny_setEntries_of ho R.dat R.tab.fits ?_)
 rw[if_neg (by simp)]
 show wpAny _ _ (setNext a (bB w t i).toNat ((i:Int).toNat) ((ep:Int).toNat) >>= _) _ _ _
 rw[Int.toNat_natCast,Int.toNat_natCast]
 refine wpAny_bind (k4 ho R.dat R.tab.toTp R.tab.fits R.led R.pl (by omega) ?_)
 rw[he]
 dsimp only[Option.map_some]
 refine wpAny_bind (wpAny_setField hI rfl (by simp) ?_)
 have hI1:=Heap.get?_update_self (Obj.mapFields (·.setIfInBounds 0 (rawInt ((bB w t (i+1)).toNat:Int)))) hI rfl
 refine wpAny_bind (wpAny_setField hI1 rfl (by simp) ?_)
 have hI2:=Heap.get?_update_self (Obj.mapFields (·.setIfInBounds 1 (rawInt ((i:Int)+1)))) hI1 rfl
 refine wpAny_pure ⟨_,rfl,wpAny_pure (h _ (hI2.trans ?_) ((Heap.SameBut.update ..).trans (Heap.SameBut.update ..)))⟩
 have e1:((bB w t (i+1)).toNat:Int)=bB w t (i+1):=by unfold bB;split <;> (try split) <;> omega
 rw[e1]
 rfl
theorem pB {Q:Option Value→Shared→Prop} (hh:A.handled=none) (R:SetR w o es ep t) (ho:s.heap.get? a=some o) (hne:a≠I) (hI:s.heap.get? I=some (hW w a t es.size ep es.size))
  (h:∀h',Heap.ExtBut I s.heap h'→Q none {s with heap:=h'}):wpAny (model prog w) A (pyNext (.ref I)) Q E s:=by
 have hsz:(bD w a ep es).size=es.size:=by have:=(fD w a ep es).length_eq;simpa using this
 have hT:=hX hI
 unfold pyNext
 refine wpAny_bind (wpAny_attempt (wpAny_callSpecial?_slot (name:=Str.ofString "__next__") hT sl_next
  (wpAny_call_entry sl_next hT lZ ?_ (m7 _))))
 unfold Builtin.«set_iterator.__next__»
 refine wpAny_bind (m:=slotArgs _ _ _) (wpAny_pure ?_)
 refine wpAny_bind (wpAny_fieldsOf hI rfl ?_)
 dsimp only
 refine wpAny_bind (wpAny_setEntries_of ho R.dat R.tab.fits ?_)
 rw[if_neg (by simp)]
 show wpAny _ _ (setNext a (bB w t es.size).toNat ((es.size:Int).toNat) ((ep:Int).toNat) >>= _) _ _ _
 rw[Int.toNat_natCast,Int.toNat_natCast]
 refine wpAny_bind (k4 ho R.dat R.tab.toTp R.tab.fits R.led R.pl (by omega) ?_)
 rw[Array.getElem?_eq_none (by omega)]
 dsimp only[Option.map_none]
 refine wpAny_bind (wpAny_setField hI rfl (by simp) ?_)
 show wpAny _ _ (newExc (.type "StopIteration") [] >>= _) _ _ _
 refine wpAny_bind ?_
 simp only[newExc,newTuple]
 refine wpAny_bind (wpAny_newObj_type ?_ (by size_fits))
 refine wpAny_bind (m:=firstArgMember _ _) (wpAny_of_eq (a:=Value.none) (by first | rfl | (simp only[firstArgMember];rfl)) ?_)
 refine wpAny_newObj_type ?_ (by size_fits)
 simp only[raiseNew]
 refine wpAny_bind (wpAny_handled ?_)
 rw[show A.in1.handled=none from hh]
 refine wpAny_bind (wpAny_pure (wpAny_throw ?_))
 refine wpAny_bind (wpAny_isInstance (T:="StopIteration") (b:=true) ⟨_,Heap.get?_push_size _ rfl,rfl⟩ isSubtype_stop ?_)
 exact wpAny_pure (h _ (((Heap.SameBut.update ..).extBut.push _).push _))
theorem Walks.setOf (hh:A.handled=none) (I a:Addr) (hne:a≠I) (R:SetR w o es ep t):
  Walks prog w A I [I,a] [I] es.size (fun i v=>∃e,(bD w a ep es)[i]? =some e∧v=e.2) (fun i h=>h.get? I=some (hW w a t es.size ep i)∧h.get? a=some o) where
 sub:=fun b hb=>by simp at hb;simp[hb]
 frame:=fun _ _ _ st hk=>⟨hk I (by simp) _ st.1,hk a (by simp) _ st.2⟩
 item:=fun i s Q E hi st hQ=>by
  have hsz:(bD w a ep es).size=es.size:=by have:=(fD w a ep es).length_eq;simpa using this
  have he:(bD w a ep es)[i]? =some (bD w a ep es)[i]:=Array.getElem?_eq_getElem (by omega)
  refine nl R st.2 hne st.1 he fun h' hI' hs'=>?_
  exact hQ _ h' s.toks ⟨_,he,rfl⟩ ⟨hI',hs'.extBut a _ hne st.2⟩ fun b o hb e=>hs'.extBut b o (fun h=>hb (by simp[h])) e
 done:=fun s Q E st hQ=>pB hh R st.2 hne st.1 fun h' he'=>hQ h' s.toks fun b o hb e=>he' b o (fun h=>hb (by simp[h])) e
 self:=fun i s Q E st hQ=>by
  refine wpAny_pyIter_slot (hX st.1) lY (wpAny_call_entry lY (hX st.1) qX ?_ (qY _))
  show wpAny _ _ (ret (.ref I)) _ _ s
  exact wpAny_pure ⟨_,rfl,"set_iterator",_,hX st.1,sl_next.lookup,hQ⟩
theorem pC {Q:Bool→Shared→Prop} (hT:s.TypeIs (.ref a) "set") (h:Q false s):wpAny (model prog w) A (Builtin.List.listLengthHint (.ref a)) Q E s:=by
 unfold Builtin.List.listLengthHint
 refine wpAny_bind (wpAny_specialOf hT F.slot_set_len.lookup ?_)
 generalize hid:("set.__len__" :String)=id0
 wp_delta
 rw[show splitId id0=some ("set","__len__")from by subst hid;decide +kernel]
 subst hid
 refine wpAny_bind (wpAny_isInstance (T:="set") (b:=true) hT (by rw[isSubtype_type];kernel_rfl) ?_)
 refine wpAny_ite_split (fun hab=>absurd hab (by decide)) (fun _=>?_)
 refine wpAny_ite_split (fun _=>?_) (fun hab=>absurd (by decide +kernel) hab)
 refine wpAny_bind (wpAny_typeOf hT ?_)
 exact wpAny_pure h
theorem qZ (R:SetR w o es ep t):KdlSrc prog w "set" a a es.size (fun i v=>∃e,(bD w a ep es)[i]? =some e∧v=e.2) (fun h=>h.get? a=some o) where
 type:=fun _ hm=>⟨o,hm,R.ex.1⟩
 there:=fun _ hm=>⟨Heap.lt_size hm,Heap.lt_size hm⟩
 keep:=fun _ _ hm hk=>hk a (.inl rfl) o hm
 notList:=by decide
 notTuple:=by decide
 hint:=fun _ _ _ _ hm hq=>pC ⟨o,hm,R.ex.1⟩ hq
 iter:=fun _ _ hh hm=>⟨_,_,(fun _ _ hq=>pA R hm hq),Walks.setOf hh _ a (Nat.ne_of_lt (Heap.lt_size hm)) R,⟨Heap.get?_push_size _ rfl,Heap.get?_push_of_some _ hm⟩⟩
end
end Wb
namespace Wb
open PySem PySem.W PySem.Calls PyProof.Rows
def Good (n:Nat) (c:Nat→Nat→Bool) {α:Type} :KasT α→(α→Prop)→Prop
 | .ret a,Q=>Q a
 | .ask i j k,Q=>i< n∧j< n∧Good n c (k (c i j)) Q
section
variable {n:Nat} {c:Nat→Nat→Bool} {α β:Type}
theorem Good.bind {f:α→KasT β} {Q:β→Prop} :∀(t:KasT α),Good n c t (fun a=>Good n c (f a) Q)→Good n c (t.bind f) Q
 | .ret _,h=>h
 | .ask i j k,h=>⟨h.1,h.2.1,Good.bind (k (c i j)) h.2.2⟩
theorem Good.imp {Q Q':α→Prop} (hq:∀a,Q a→Q' a):∀(t:KasT α),Good n c t Q→Good n c t Q'
 | .ret a,h=>hq a h
 | .ask i j k,h=>⟨h.1,h.2.1,Good.imp hq (k (c i j)) h.2.2⟩
theorem Good.wp {cmp:Nat→Nat→(Bool→Shared→Prop)→Shared→Prop} {s:Shared} {Q:α→Prop} (hc:∀i j (C:Bool→Shared→Prop),i< n→j< n→C (c i j) s→cmp i j C s):∀(t:KasT α),Good n c t Q→t.kasWp cmp (fun a s'=>s'=s∧Q a) s
 | .ret a,h=>⟨rfl,h⟩
 | .ask i j k,h=>hc i j _ h.1 h.2.1 (Good.wp hc (k (c i j)) h.2.2)
structure OrdC (n:Nat) (c:Nat→Nat→Bool):Prop where
 tr:∀i j k,i< n→j< n→k< n→c i j=true→c j k=true→c i k=true
 tot:∀i j,i< n→j< n→i≠j→c i j=false→c j i=true
structure Pm (n:Nat) (p:Array Nat):Prop where
 pm:p.toList.Perm (List.range n)
theorem Pm.sz {p:Array Nat} (h:Pm n p):p.size=n:=by have:=h.pm.length_eq;simpa using this
theorem fE {p:Array Nat} {a:Nat} (h:a< p.size):p.getD a 0=p.toList[a]'(by simpa using h):=by simp[Array.getD,h]
theorem Pm.lt {p:Array Nat} (h:Pm n p) {a:Nat} (ha:a< n):p.getD a 0< n:=by
 have hs:=h.sz
 rw[fE (by omega)]
 have:=h.pm.mem_iff.mp (List.getElem_mem (l:=p.toList) (n:=a) (by simp;omega))
 simpa using this
theorem Pm.inj {p:Array Nat} (h:Pm n p) {a b:Nat} (ha:a< n) (hb:b< n) (hab:a≠b):p.getD a 0≠p.getD b 0:=by
 have hs:=h.sz
 rw[fE (by omega),fE (by omega)]
 have nd:p.toList.Nodup:=h.pm.nodup_iff.mpr List.nodup_range
 have pw:=List.pairwise_iff_getElem.mp (List.nodup_iff_pairwise_ne.mp nd)
 rcases Nat.lt_or_gt_of_ne hab with z | z
 ·exact pw a b _ _ z
 ·exact fun e=>pw b a _ _ z e.symm
def r0 (c:Nat→Nat→Bool) (p:Array Nat) (m:Nat):Prop:=∀a b,a< b→b< m→c (p.getD a 0) (p.getD b 0)=true
def wb (c:Nat→Nat→Bool) (p:Array Nat) (m:Nat):Prop:=∀a b,a< b→b< m→c (p.getD b 0) (p.getD a 0)=true
variable {p:Array Nat}
theorem l8 (O:OrdC n c) (P:Pm n p):∀(f m:Nat),1≤m→m+f=n→r0 c p m→Good n c (kas_asc p f m) fun m'=>m≤m'∧m'≤n∧r0 c p m'∧(m'=n∨(m'< n∧c (p.getD m' 0) (p.getD (m'- 1) 0)=true))
 | 0,m,h1,h2,u=>⟨Nat.le_refl _,by omega,u,.inl (by omega)⟩
 | f + 1, m, h1, h2, u => by
  refine⟨P.lt (by omega),P.lt (by omega),?_⟩
  cases hc:c (p.getD m 0) (p.getD (m- 1) 0)with
  | true=>exact⟨Nat.le_refl _,by omega,u,.inr ⟨by omega,hc⟩⟩
  | false =>
   have q:=O.tot _ _ (P.lt (a:=m) (by omega)) (P.lt (a:=m- 1) (by omega)) (P.inj (by omega) (by omega) (by omega)) hc
   refine Good.imp (fun m' h=>⟨by omega,h.2⟩) _ (l8 O P f (m+1) (by omega) (by omega) fun a b hab hb=>?_)
   by_cases z:b< m
   ·exact u a b hab z
   ·have:b=m:=by omega
    subst this
    by_cases y:a=b- 1
    ·rw[y];exact q
    ·exact O.tr _ _ _ (P.lt (by omega)) (P.lt (by omega)) (P.lt (by omega)) (u a (b- 1) (by omega) (by omega)) q
theorem m8 (O:OrdC n c) (P:Pm n p):∀(f m:Nat),2≤m→m+f=n→wb c p m→Good n c (kas_desc f p m 0) fun r=>r.1=p∧r.2.2=0∧2≤r.2.1∧r.2.1≤n∧wb c p r.2.1
 | 0,m,h1,h2,u=>⟨rfl,rfl,h1,by show m≤n;omega,u⟩
 | f + 1, m, h1, h2, u => by
  refine⟨P.lt (by omega),P.lt (by omega),?_⟩
  cases hc:c (p.getD m 0) (p.getD (m- 1) 0)with
  | true =>
   refine m8 O P f (m+1) (by omega) (by omega) fun a b hab hb=>?_
   by_cases z:b< m
   ·exact u a b hab z
   ·have:b=m:=by omega
    subst this
    by_cases y:a=b- 1
    ·rw[y];exact hc
    ·exact O.tr _ _ _ (P.lt (by omega)) (P.lt (by omega)) (P.lt (by omega)) hc (u a (b- 1) (by omega) (by omega))
  | false =>
   have q:=O.tot _ _ (P.lt (a:=m) (by omega)) (P.lt (a:=m- 1) (by omega)) (P.inj (by omega) (by omega) (by omega)) hc
   refine⟨P.lt (by omega),P.lt (by omega),?_⟩
   rw[q]
   exact⟨rfl,rfl,h1,by show m≤n;omega,u⟩
theorem Pm.of (P:Pm n p) {q:Array Nat} (h:q.Perm p):Pm n q:=⟨(Array.perm_iff_toList_perm.mp h).trans P.pm⟩
theorem pD (P:Pm n p) {m:Nat} (hm:m≤n) (k:Nat):(kas_rev p 0 m).getD k 0=if k< m then p.getD (m- 1- k) 0 else p.getD k 0:=by
 have hs:=P.sz
 unfold kas_rev
 rw[Array.getD_eq_getD_getElem?,getElem?_mirror_all (by omega)]
 by_cases z:k< m
 ·rw[if_pos ⟨by omega,z⟩,if_pos z,Array.getD_eq_getD_getElem?]
  congr 2;omega
 ·rw[if_neg (by omega),if_neg z,Array.getD_eq_getD_getElem?]
theorem pE (O:OrdC n c) (P:Pm n p) (h1:1≤n):Good n c (kas_count n p) fun r=>Pm n r.2∧1≤r.1∧r.1≤n∧r0 c r.2 r.1:=by
 unfold kas_count
 refine Good.bind _ (Good.imp (fun m h=>?_) _ (l8 O P (n- 1) 1 (by omega) (by omega) fun a b hab hb=>by omega))
 obtain⟨q1,q2,q3,q4⟩:=h
 by_cases z:m=n
 ·rw[if_pos (by simp[z])];exact⟨P,q1,q2,q3⟩
 ·rw[if_neg (by simp[z])]
  by_cases y:m> 1
  ·rw[if_pos y]
   refine⟨P.lt (by omega),P.lt (by omega),?_⟩
   rw[q3 0 (m- 1) (by omega) (by omega)]
   exact⟨P,q1,q2,q3⟩
  ·rw[if_neg y]
   have:m=1:=by omega
   subst this
   have q5:c (p.getD 1 0) (p.getD 0 0)=true:=by rcases q4 with q4 | q4;exact absurd q4 z;exact q4.2
   unfold kas_descPart
   refine Good.bind _ (Good.imp (fun r h=>?_) _ (m8 O P (n- (1+1)) 2 (by omega) (by omega) fun a b hab hb=>?_))
   ·obtain⟨r,k,q⟩:=r
    obtain⟨e1,e2,e3,e4,e5⟩:=h
    dsimp only at e1 e2 e3 e4 e5 ⊢
    subst e1 e2
    rw[if_neg (by omega)]
    unfold kas_tail3
    have P2:Pm n (kas_rev r 0 k):=P.of (mirror_perm _ _ _ _)
    have U2:r0 c (kas_rev r 0 k) k:=fun a b hab hb=>by
     rw[pD P e4,pD P e4,if_pos (by omega),if_pos hb]
     exact e5 _ _ (by omega) (by omega)
    refine Good.bind _ (Good.imp (fun m h=>?_) _ (l8 O P2 (n- k) k (by omega) (by omega) U2))
    exact⟨P2,by show 1≤m;omega,h.2.1,h.2.2.1⟩
   ·have:a=0∧b=1:=by omega
    rw[this.1,this.2];exact q5
theorem hZ (O:OrdC n c) (P:Pm n p) {k:Nat} (hk:k< n) (u:r0 c p k):∀(f l r:Nat),l≤r→r≤k→r- l≤f→(∀a,a< l→c (p.getD a 0) (p.getD k 0)=true)→(∀a,r≤a→a< k→c (p.getD k 0) (p.getD a 0)=true)→
  Good n c (kas_place p k f l r) fun l=>l≤k∧(∀a,a< l→c (p.getD a 0) (p.getD k 0)=true)∧(∀a,l≤a→a< k→c (p.getD k 0) (p.getD a 0)=true)
 | 0, l, r, h1, h2, h3, lo, hi => by
  have:l=r:=by omega
  subst this
  exact⟨h2,lo,hi⟩
 | f + 1, l, r, h1, h2, h3, lo, hi => by
  unfold kas_place
  by_cases z:l≥r
  ·rw[if_pos z]
   have:l=r:=by omega
   subst this
   exact⟨h2,lo,hi⟩
  ·rw[if_neg z]
   refine⟨P.lt hk,P.lt (by omega),?_⟩
   cases hc:c (p.getD k 0) (p.getD ((l+r)/ 2) 0)with
   | true =>
    refine hZ O P hk u f l ((l+r)/ 2) (by omega) (by omega) (by omega) lo fun a h4 h5=>?_
    by_cases y:a=(l+r)/ 2
    ·rw[y];exact hc
    ·exact O.tr _ _ _ (P.lt hk) (P.lt (by omega)) (P.lt (by omega)) hc (u _ _ (by omega) h5)
   | false =>
    have q:=O.tot _ _ (P.lt hk) (P.lt (a:=(l+r)/ 2) (by omega)) (P.inj hk (by omega) (by omega)) hc
    refine hZ O P hk u f ((l+r)/ 2+1) r (by omega) (by omega) (by omega) (fun a h4=>?_) hi
    by_cases y:a=(l+r)/ 2
    ·rw[y];exact q
    ·exact O.tr _ _ _ (P.lt (by omega)) (P.lt (by omega)) (P.lt hk) (u _ _ (by omega) (by omega)) q
theorem pF (O:OrdC n c):∀(f k:Nat) (p:Array Nat),Pm n p→k+f=n→r0 c p k→Good n c (kas_bin f p k) fun p'=>Pm n p'∧r0 c p' n
 | 0,k,p,P,h,u=>⟨P,by rw[←h];exact u⟩
 | f + 1, k, p, P, h, u => by
  refine Good.bind _ (Good.imp (fun l hl=>?_) _ (hZ O P (by omega) u k 0 k (by omega) (by omega) (by omega) (fun a ha=>by omega) fun a h1 h2=>by omega))
  obtain⟨l1,l2,l3⟩:=hl
  have hs:=P.sz
  have at_:∀x,(bubble p k (k- l)).getD x 0=if x=l then p.getD k 0 else if l< x∧x≤k then p.getD (x- 1) 0 else p.getD x 0:=fun x=>by
   rw[Array.getD_eq_getD_getElem?,getElem?_bubble (by omega) _ (by omega),show k- (k- l)=l by omega]
   split
   ·rw[Array.getD_eq_getD_getElem?]
   ·split <;> rw[Array.getD_eq_getD_getElem?]
  refine pF O f (k+1) _ (P.of (bubble_perm _ _ _)) (by omega) fun a b hab hb=>?_
  rw[at_,at_]
  by_cases z1:a=l
  ·rw[if_pos z1,if_neg (by omega),if_pos (by omega)]
   exact l3 _ (by omega) (by omega)
  ·rw[if_neg z1]
   by_cases z2:b=l
   ·rw[if_pos z2,if_neg (by omega)]
    exact l2 _ (by omega)
   ·rw[if_neg z2]
    by_cases z3:l< a∧a≤k
    ·rw[if_pos z3,if_pos (by omega)]
     exact u _ _ (by omega) (by omega)
    ·rw[if_neg z3]
     by_cases z4:l< b∧b≤k
     ·rw[if_pos z4]
      exact u _ _ (by omega) (by omega)
     ·rw[if_neg z4]
      exact u _ _ (by omega) (by omega)
theorem r6 (O:OrdC n c) (h1:1≤n):Good n c (kas_sort n) fun p=>Pm n p∧r0 c p n:=by
 unfold kas_sort
 refine Good.bind _ (Good.imp (fun r h=>?_) _ (pE O (p:=List.toArray (List.range n)) ⟨.refl _⟩ h1))
 obtain⟨q1,q2,q3,q4⟩:=h
 by_cases z:r.1< n
 ·rw[if_pos z,show max r.1 1=r.1 by omega]
  exact pF O _ _ _ q1 (by omega) q4
 ·rw[if_neg z]
  have:r.1=n:=by omega
  exact⟨q1,by rw[←this];exact q4⟩
end
end Wb
namespace Wb
open PySem PySem.W PySem.Calls PyProof.Rows
def PairAt (h:Heap) (v:Value) (k:Int×Int):Prop:=∃b o t1 t2 n,v=.ref b∧h.get? b=some o∧o.cls=.type "tuple" ∧o.data=.seq #[.int k.1 t1,.int k.2 t2] n
def k6 (a b:Int×Int):Bool:=decide (a.1< b.1) || (decide (a.1=b.1) && decide (a.2< b.2))
theorem gv {a b:Int×Int} :k6 a b=true↔a.1< b.1∨(a.1=b.1∧a.2< b.2):=by unfold k6;simp
theorem tH {a b c:Int×Int} (h:k6 a b=true) (h':k6 b c=true):k6 a c=true:=by rw[gv]at *;omega
theorem r9 {a b:Int×Int} (hn:a≠b) (h:k6 a b=false):k6 b a=true:=by
 have h2:¬k6 a b=true:=by rw[h];decide
 rw[gv]at h2
 rw[gv]
 by_cases z:a.1=b.1
 ·have:a.2≠b.2:=fun e=>hn (Prod.ext z e)
  omega
 ·omega
theorem rd (a:Int×Int):k6 a a=false:=by unfold k6;simp
structure PairsAt (h:Heap) (vs:List Value) (ks:List (Int×Int)):Prop where
 len:vs.length=ks.length
 at_:∀(i:Nat) (v:Value),vs[i]? =some v→∃k,ks[i]? =some k∧PairAt h v k
theorem PairsAt.get {h:Heap} {vs:List Value} {ks:List (Int×Int)} (P:PairsAt h vs ks) {i:Nat} (hi:i< vs.length):PairAt h (vs.getD i .none) (ks.getD i (0,0)):=by
 obtain⟨k,h1,h2⟩:=P.at_ i vs[i] (List.getElem?_eq_getElem hi)
 rw[List.getD_eq_getElem?_getD,List.getD_eq_getElem?_getD,List.getElem?_eq_getElem hi,h1]
 exact h2
theorem PairsAt.keep {h h':Heap} {vs:List Value} {ks:List (Int×Int)} (P:PairsAt h vs ks) (hk:∀b o,o.cls=.type "tuple" →h.get? b=some o→h'.get? b=some o):PairsAt h' vs ks:=
 ⟨P.len,fun i v e=>let ⟨k,q1,b,o,t1,t2,n,q2,q3,q4,q5⟩:=P.at_ i v e;⟨k,q1,b,o,t1,t2,n,q2,hk b o q4 q3,q4,q5⟩⟩
section
variable {prog:Program} {w:World} {A:Around} {E:Value→Shared→Prop} {s:Shared}
theorem re {x y:Value} {k l:Int×Int} {Q:Bool→Shared→Prop} (hx:PairAt s.heap x k) (hy:PairAt s.heap y l) (h:Q (k6 k l) s):wpAny (model prog w) A (keyLt' (tuples' true) x y) Q E s:=by
 obtain⟨bx,ox,t1,t2,n,rfl,hx,_,dx⟩:=hx
 obtain⟨by_,oy,u1,u2,m,rfl,hy,_,dy⟩:=hy
 refine kat_lt hx dx hy dy (kat_cons (wpAny_eqBool_int (kat_go (fun e=>kat_yes (kat_cons (wpAny_eqBool_int (kat_go (fun e'=>kat_yes (kat_nil ?_)) fun e'=>kat_no (kat_one _ _ (lt_int ?_)))))) fun e=>kat_no (oneLt_int ?_))))
 ·have e1:k.1=l.1:=by simpa using e
  have e2:k.2=l.2:=by simpa using e'
  have:k=l:=Prod.ext e1 e2
  subst this
  rw[rd]at h
  simpa using h
 ·have e1:k.1=l.1:=by simpa using e
  show Q (decide (k.2< l.2)) s
  unfold k6 at h
  simpa [e1] using h
 ·have e1:¬k.1=l.1:=by simpa using e
  unfold k6 at h
  simpa [e1] using h
theorem m9 {h:Heap} :∀{vs:List Value} {ks:List (Int×Int)},PairsAt h vs ks→∃fs,fs.length=vs.length∧KatTups h vs fs∧∀f∈fs,∃i t,f=Value.int i t
 | [],ks,P=>⟨[],rfl,trivial,fun f hf=>by cases hf⟩
 | v :: vs, ks, P => by
  obtain⟨k,q1,b,o,t1,t2,n,rfl,q3,q4,q5⟩:=P.at_ 0 v rfl
  obtain⟨fs,l1,l2,l3⟩:=m9 (h:=h) (vs:=vs) (ks:=ks.drop 1) ⟨by have:=P.len;simp at this ⊢;omega,fun i v e=>by
   obtain⟨k,a1,a2⟩:=P.at_ (i+1) v (by simpa using e)
   exact⟨k,by rw[List.getElem?_drop,Nat.add_comm];exact a1,a2⟩⟩
  refine⟨.int k.1 t1::fs,by simp[l1],.cons q3 q4 q5 (by simp) l2,fun f hf=>?_⟩
  rcases List.mem_cons.mp hf with rfl | hf
  ·exact⟨_,_,rfl⟩
  ·exact l3 f hf
theorem l9 {a:Addr} {vs:List Value} {ks:List (Int×Int)} {n:Nat} {P:PySem.Fin→Shared→Prop} (ho:s.heap.get? a=some (seqObj "list" vs.toArray n)) (hp:PairsAt s.heap vs ks) (nd:ks.Nodup) (h64:vs.length< 64)
  (h:∀p:List Nat,p.Perm (List.range vs.length)→(p.map fun i=>ks.getD i (0,0)).Pairwise (fun x y=>k6 x y=true)→P (.done (.ret .none)) {s with heap:=sortedHeap s.heap a vs (p.map fun i=>vs.getD i Value.none).toArray}):
  wpAny (model prog w) A (Builtin.«list.sort» ⟨[.ref a],[]⟩) P E s:=by
 rw[list_sort_plain]
 have ha:a< s.heap.objs.size:=Heap.lt_size ho
 refine wpAny_bind (listItems_at ho rfl ?_)
 refine wpAny_bind (listUpdate_at ho rfl ?_)
 obtain⟨e1,ho1⟩:∃e1,(s.heap.update a (Obj.mapSeq fun _=> #[])).get? a=some (seqObj "list" #[] e1):=⟨_,get?_update_seq ho (fun _=> #[])⟩
 refine wpAny_bind (seqEpoch_at ho1 rfl ?_)
 refine wpAny_bind (wpAny_newTuple ?_)
 refine wpAny_bind (wpAny_newList ?_)
 refine wpAny_holding ?_
 have ho6:(((s.heap.update a (Obj.mapSeq fun _=> #[])).push (seqObj "tuple" vs.toArray 0)).push (seqObj "list" #[] 0)).get? a=some (seqObj "list" #[] e1):=by
  rw[Heap.get?_push_ne _ _ _ (by rw[size_push',Heap.size_update];exact Nat.ne_of_lt (Nat.lt_succ_of_lt ha)),Heap.get?_push_ne _ _ _ (by rw[Heap.size_update];exact Nat.ne_of_lt ha)]
  exact ho1
 show wpAny (model prog w) A _ P E {s with heap:=((s.heap.update a (Obj.mapSeq fun _=> #[])).push (seqObj "tuple" vs.toArray 0)).push (seqObj "list" #[] 0)}
 dsimp only
 have hsz:vs.toArray.size=vs.length:=by simp
 have hl:vs.length≤sizeLine:=by rw[sizeLine_eq];omega
 by_cases h2:vs.toArray.size< 2
 ·rw[if_pos h2,if_pos h2]
  refine wpAny_bind (wpAny_pure ?_)
  rw[StateT.run_pure]
  refine wpAny_bind (wpAny_pure ?_)
  dsimp only
  refine wpAny_bind (seqEpoch_at ho6 rfl ?_)
  refine wpAny_bind (listUpdate_at ho6 rfl ?_ (hsz2:=by rw[Array.size_map];show(pairsOf vs).size≤_;rw[pairsOf_size,sizeLine_eq];omega))
  simp only[bne_self_eq_false,Bool.false_eq_true,if_false]
  have:=h (List.range vs.length) (.refl _) (by
   have h3:vs.length=0∨vs.length=1:=by omega
   rcases h3 with h3 | h3 <;> rw[h3]
   ·exact List.Pairwise.nil
   ·exact List.pairwise_singleton _ _)
  refine wpAny_pure ?_
  have e:(arrOf (SortSt.mk' general' (vs.toArray.zip vs.toArray) #[] 7 none)).map (·.2)=((List.range vs.length).map fun i=>vs.getD i Value.none).toArray:=by
   rw[eZ]
   show(vs.toArray.zip vs.toArray).map (·.2)=_
   apply Array.toList_inj.mp
   simp only[Array.toList_map,Array.toList_zip,List.map_snd_zip,Nat.le_refl]
  rw[e]
  exact this
 ·rw[if_neg h2,if_neg h2]
  obtain⟨fs,l1,l2,l3⟩:=m9 (hp.keep (h':=((s.heap.update a (Obj.mapSeq fun _=> #[])).push (seqObj "tuple" vs.toArray 0)).push (seqObj "list" #[] 0)) fun b o hc e=>by
   have hb:b≠a:=fun z=>by subst z;rw[ho]at e;cases e;exact absurd hc (by show ¬(Value.type "list" =Value.type "tuple");decide)
   exact Heap.get?_push_of_some _ (Heap.get?_push_of_some _ ((Heap.get?_update_other _ _ (Ne.symm hb)).trans e)))
  have hp2:=hp.keep (h':=((s.heap.update a (Obj.mapSeq fun _=> #[])).push (seqObj "tuple" vs.toArray 0)).push (seqObj "list" #[] 0)) fun b o hc e=>by
   have hb:b≠a:=fun z=>by subst z;rw[ho]at e;cases e;exact absurd hc (by show ¬(Value.type "list" =Value.type "tuple");decide)
   exact Heap.get?_push_of_some _ (Heap.get?_push_of_some _ ((Heap.get?_update_other _ _ (Ne.symm hb)).trans e))
  refine wpAny_bind (kat_kind (T:=.type "int") l2 (by rw[l1];omega) (fun v hv=>?_) (by decide) ?_)
  ·obtain⟨i,t,rfl⟩:=l3 v hv
   exact .now
  rw[show(Value.type "int" != Value.type "tuple")=true from by decide]
  have inj:∀i j,i< vs.length→j< vs.length→ks.getD i (0,0)=ks.getD j (0,0)→i=j:=fun i j hi hj e=>by
   have lk:=hp.len
   have pw:=List.pairwise_iff_getElem.mp (List.nodup_iff_pairwise_ne.mp nd)
   have ei:ks.getD i (0,0)=ks[i]'(by omega):=by simp[List.getD_eq_getElem?_getD,show i< ks.length by omega]
   have ej:ks.getD j (0,0)=ks[j]'(by omega):=by simp[List.getD_eq_getElem?_getD,show j< ks.length by omega]
   rw[ei,ej]at e
   by_cases z:i=j
   ·exact z
   ·rcases Nat.lt_or_gt_of_ne z with z | z
    ·exact absurd e (pw i j _ _ z)
    ·exact absurd e.symm (pw j i _ _ z)
  have O:OrdC vs.length fun i j=>k6 (ks.getD i (0,0)) (ks.getD j (0,0)):=⟨fun i j k _ _ _ x y=>tH x y,fun i j hi hj hij x=>r9 (fun e=>hij (inj i j hi hj e)) x⟩
  have run:=Good.wp (s:={s with heap:=((s.heap.update a (Obj.mapSeq fun _=> #[])).push (seqObj "tuple" vs.toArray 0)).push (seqObj "list" #[] 0)}) (cmp:=kas_ask prog w A (tuples' true) vs) (fun i j C hi hj hC=>re (hp2.get hi) (hp2.get hj) hC) _ (r6 O (by omega))
  refine wpAny_bind (wpAny_mono (kat_run (Q:=fun st' s'=>∃p:Array Nat,p.size=vs.length∧arrOf st'=p.map (kas_item (vs.toArray.zip vs.toArray))∧failedOf st'=none∧s'={s with heap:=((s.heap.update a (Obj.mapSeq fun _=> #[])).push (seqObj "tuple" vs.toArray 0)).push (seqObj "list" #[] 0)}∧Pm vs.length p∧r0 (fun i j=>k6 (ks.getD i (0,0)) (ks.getD j (0,0))) p vs.length)
   rfl (by omega) h64 (fun p' st' s' a1 a2 a3 a4=>⟨p',a1,a2,a3,a4⟩) run) ?_ fun _ _ e=>e)
  rintro ⟨⟨⟩,st'⟩ s' ⟨p,hps,har,hf,rfl,P1,U1⟩
  dsimp only
  have hout:=kat_snds rfl har
  rw[hout]
  refine wpAny_bind (seqEpoch_at ho6 rfl ?_)
  refine wpAny_bind (listUpdate_at ho6 rfl ?_ (hsz2:=by rw[List.size_toArray,List.length_map,Array.length_toList,hps];exact Nat.le_succ_of_le hl))
  rw[hf]
  simp only[bne_self_eq_false,Bool.false_eq_true,if_false]
  refine wpAny_pure (h p.toList P1.pm ?_)
  rw[List.pairwise_map,List.pairwise_iff_getElem]
  intro i j hi hj hij
  have:=U1 i j hij (by simpa [hps] using hj)
  rwa [fE (by simpa using hi),fE (by simpa using hj)]at this
end
end Wb
namespace Wb
open PySem PySem.W PySem.Calls PyProof.Rows
section
variable {prog:Program} {w:World} {K:Type} [DecidableEq K] {knd:KeyKind prog w K} {A:Around} {E:Value→Shared→Prop} {s:Shared}
theorem nq {a x:Addr} {o:Obj} {es:Array (Int×Value)} {ep:Nat} {t:SetTable} {led:Bool} {ks:List (List K)} {kx:List K} (hu:A.units+1< cLine) (S:SetT knd s.heap a led ks o es ep t) (hn:es.size< 63) (hx:IsTupleKey knd s.heap kx x) (hI:∀k∈kx,∀v,knd.is k v=true→∃i t,v=.int i t) {Q:Value→Shared→Prop}
  (h1:kx∈ks→∀tk,Q .none {s with toks:=tk}) (h2:kx∉ks→∀tk h' ks' o' es' ep' t',Heap.SameBut a s.heap h'→SetT knd h' a led ks' o' es' ep' t'→ks'.Perm (kx::ks)→es'.toList.Perm ((tupleKeyHash knd kx,.ref x)::es.toList)→Q .none {s with heap:=h',toks:=tk}):
  wpAny (model prog w) A (call (.builtin "set.add") [.ref a,.ref x]) Q E s:=by
 have hT:s.TypeIs (.ref a) "set" :=⟨o,S.at_,S.ex.1⟩
 refine wpAny_call_entry F.slot_set_add hT F.entry_set_add ?_ (F.args_set_add_2 _ _)
 unfold Builtin.«set.add» Builtin.Frozenset.oneOther
 simp only[List.isEmpty_nil,bind_assoc]
 unfold Builtin.Frozenset.addrOf setAdd
 refine wpAny_bind (wpAny_pure ?_)
 try dsimp only
 refine wpAny_bind (wpAny_pure ?_)
 try dsimp only
 refine wpAny_bind ?_
 refine wpAny_holding ?_
 refine wpAny_bind (wpAny_pyHash_tuple (show A.in1.units< cLine from hu) hx ?_)
 unfold setAddHashed
 refine wpAny_holding (qW (s:={s with toks:=s.toks+(kx.length+1)}) (show A.in1.units< cLine from hu) S hn hx hI (fun hm=>?_) fun hm h' ks' o' es' ep' t' a1 a2 a3 a4=>?_)
 ·show wpAny _ _ (ret Value.none) _ _ _
  exact wpAny_pure ⟨_,rfl,h1 hm _⟩
 ·show wpAny _ _ (ret Value.none) _ _ _
  exact wpAny_pure ⟨_,rfl,h2 hm _ h' ks' o' es' ep' t' a1 a2 a3 a4⟩
end
end Wb
namespace L2
open PySem PySem.Spec PyProof.Rows Wb
structure TupsH (prog:Program) (w:World) (K:PySem.W.Frag) (H:Hp) (es:List (Int×Value)) (ks:List (Int×Int)):Prop where
 len:es.length=ks.length
 at_:∀(i:Nat) (e:Int×Value),es[i]? =some e→∃k b,ks[i]? =some k∧e.2=.ref b∧SqT K H b [.int k.1,.int k.2]∧e.1=tupleKeyHash (mixKind prog w) [.inl k.1,.inl k.2]
def SetH (prog:Program) (w:World) (K:PySem.W.Frag) (H:Hp) (o:Obj) (ks:List (Int×Int)):Prop:=∃es ep t,SetR w o es ep t∧TupsH prog w K H es.toList ks∧ks.Nodup
def nr (k:Int×Int):List Key:=[.inl k.1,.inl k.2]
theorem md {a b:Int×Int} (h:nr a=nr b):a=b:=by
 unfold nr at h
 injection h with h1 h2
 injection h2 with h2 _
 injection h1 with h1
 injection h2 with h2
 exact Prod.ext h1 h2
def nt:List Key→Int×Int
 | [.inl a,.inl b]=>(a,b)
 | _=>(0,0)
theorem mf (k:Int×Int):nt (nr k)=k:=rfl
def sm (elt:Expr) (env:Env) (acc:Value):Sem Unit:=do
 let v ←eval elt env
 standAt elt.pos
 let _ ←call (.builtin "set.add") [acc,v]
def la (prog:Program) (w:World) (K:PySem.W.Frag) (te:TE):TB:=fun D σ H N=>te σ H fun y H'=>∃G o ks b k,Same G H'∧H' D=some (XO D o)∧SetH prog w K G o ks∧ks.length< 63∧y=.ref b∧SqT K G b [.int k.1,.int k.2]∧(k∈ks→N H')∧(k∉ks→∀o' ks',SetH prog w K G o' ks'→ks'.Perm (k::ks)→N (cr H' D (XO D o')))
section
variable {Y X:Cx} {elt:Expr} {te:TE}
theorem jh {pins:List (Addr×Obj)} {σ:St} {H:Hp} {s:Shared} {b:Addr} {k:Int×Int} (I:Inv X pins σ H s) (h:SqT X.K H b [.int k.1,.int k.2]):IsTupleKey (mixKind X.prog X.w) s.heap (nr k) b:=by
 obtain⟨its,r,⟨o,h1,h2,n,h3⟩,_⟩:=I.tuple h
 exact⟨o,its.toArray,n,h1,h2,h3,by simpa using iq (ks:=nr k) r⟩
theorem w5 {k:Int×Int} :∀q∈nr k,∀v,(mixKind X.prog X.w).is q v=true→∃i t,v=.int i t:=fun q hq v hv=>by
 have:q=.inl k.1∨q=.inl k.2:=by simpa [nr] using hq
 rcases bp (show ef q v=true from hv)with⟨i,t,e1,rfl⟩ | ⟨x,t,e1,rfl⟩
 ·exact⟨i,t,rfl⟩
 ·rcases this with z | z <;> (rw[z]at e1;cases e1)
theorem tI (hxe:Y.xe=fun _ _=>False) (hu:Y.A.units+1< cLine) (he:PE Y elt te):PB Y (sm elt Y.env) (la Y.prog Y.w Y.K te):=by
 intro D pins s σ H N I h
 have he':=he pins s σ H _ I h
 rw[hxe]at he'
 refine wpAny_bind (bF he' fun u s1 ⟨y,H1,I1,r1,G,o,ks,b,k,eG,hD,hS,hl,ey,hb,h1,h2⟩=>?_)
 subst ey
 obtain rfl:u=.ref b:=r1
 refine wpAny_bind (wpAny_standAt ?_)
 obtain⟨es,ep,t,R,T,nd⟩:=hS
 have hDo:s1.heap.get? D=some o:=(I1.hok D _ hD).1
 have hsz:es.size=ks.length:=by have:=T.len;simpa using this
 have U:TupsOf (mixKind Y.prog Y.w) s1.heap es.toList (ks.map nr):=⟨by rw[List.length_map];exact T.len,fun i e hi=>by
  obtain⟨k,b,q1,q2,q3,q4⟩:=T.at_ i e hi
  exact⟨nr k,b,by rw[List.getElem?_map,q1];rfl,q2,jh I1 (Same.tup eG q3),q4⟩⟩
 have S:SetT (mixKind Y.prog Y.w) s1.heap D (!Y.w.params.followText "set-order") (ks.map nr) o es ep t:=⟨hDo,R.ex,R.dat,R.tab,U,List.Pairwise.map _ (fun a b hab e=>hab (md e)) nd,R.led,R.pl⟩
 refine wpAny_bind (nq hu S (by omega) (jh I1 (Same.tup eG hb)) w5 (fun hm tk=>?_) fun hm tk h' ks' o' es' ep' t' a1 a2 a3 a4=>?_)
 ·obtain⟨k',m1,m2⟩:=List.mem_map.mp hm
  cases md m2
  exact wpAny_pure ⟨σ,H1,I1.kept (fun _ _ z=>z),fun _ _ e=>e,h1 m1⟩
 ·have nm:k∉ks:=fun z=>hm (List.mem_map.mpr ⟨k,z,rfl⟩)
  have pk:(ks'.map nt).Perm (k::ks):=by
   have:=a3.map nt
   rw[List.map_cons,List.map_map,show(nt ∘ nr)=id from funext mf,List.map_id,mf]at this
   exact this
  have TH:TupsH Y.prog Y.w Y.K G es'.toList (ks'.map nt):=⟨by rw[List.length_map];exact a2.tup.len,fun i e hi=>by
   obtain⟨kk,b',q1,q2,q3,q4⟩:=a2.tup.at_ i e hi
   have src:∃k0:Int×Int,SqT Y.K G b' [.int k0.1,.int k0.2]:=by
    rcases List.mem_cons.mp (a4.mem_iff.mp (List.mem_of_getElem? hi))with z | z
    ·rw[z]at q2;cases q2;exact⟨k,hb⟩
    ·obtain⟨j,hj,ej⟩:=List.mem_iff_getElem.mp z
     obtain⟨k0,b0,r1,r2,r3,r4⟩:=T.at_ j e (by rw[List.getElem?_eq_getElem hj,ej])
     rw[r2]at q2;cases q2
     exact⟨k0,r3⟩
   obtain⟨k0,hk0⟩:=src
   have e0:kk=nr k0:=q3.inj (jZ (jh I1 (Same.tup eG hk0)) hDo R.dat a1)
   subst e0
   exact⟨k0,b',by rw[List.getElem?_map,q1];rfl,q2,hk0,q4⟩⟩
  refine wpAny_pure ⟨σ,_,?_,fun _ _ e=>e,h2 nm o' (ks'.map nt) ⟨es',ep',t',⟨a2.ex,a2.dat,a2.tab,a2.led,a2.pl⟩,TH,pk.nodup_iff.mpr (List.nodup_cons.mpr ⟨nm,nd⟩)⟩ pk⟩
  exact I1.write (x:=D) (e:=D) (by rw[hD];exact True.intro) (.inl rfl) (fun b u hb' z=>(a1.2 b hb').trans z) ⟨o',a2.at_⟩ (XO.ok a2.at_)
theorem pG {pins:List (Addr×Obj)} {σ:St} {H:Hp} {s:Shared} {b:Addr} {k l:Int×Int} (I:Inv X pins σ H s) (h:SqT X.K H b [.int k.1,.int k.2]) (h':SqT X.K H b [.int l.1,.int l.2]):k=l:=by
 have:=I.tuple_inj h h'
 injection this with e1 e2
 injection e2 with e2 _
 injection e1 with e1
 injection e2 with e2
 exact Prod.ext e1 e2
open Classical in
noncomputable def f6 (K:PySem.W.Frag) (H:Hp) (e:Int×Value):Int×Int:=if h:∃k:Int×Int,∃b,e.2=.ref b∧SqT K H b [.int k.1,.int k.2]then h.choose else(0,0)
theorem mj {pins:List (Addr×Obj)} {σ:St} {G H:Hp} {s:Shared} {b:Addr} {k:Int×Int} {e:Int×Value} (eG:Same G H) (I:Inv X pins σ H s) (h:SqT X.K G b [.int k.1,.int k.2]) (he:e.2=.ref b):f6 X.K G e=k:=by
 have ex:∃k:Int×Int,∃b,e.2=.ref b∧SqT X.K G b [.int k.1,.int k.2]:=⟨k,b,he,h⟩
 unfold f6
 rw[dif_pos ex]
 obtain⟨b',e1,e2⟩:=ex.choose_spec
 rw[he]at e1
 cases e1
 exact pG I (Same.tup eG e2) (Same.tup eG h)
def uO:Value→V
 | .ref b=>.ref b
 | _=>.non
def pH (prog:Program) (w:World) (K:PySem.W.Frag):List V→Hp→VK→Prop:=fun xs H Q=>∃(G:Hp) (p:Addr) (o:Obj) (ks:List (Int×Int)),xs=[.ref p]∧Same G H∧H p=some (XO p o)∧SetH prog w K G o ks∧ks.length< 64∧∀(q:Addr) (us:List V) (ks':List (Int×Int)),H q=none→ks'.Perm ks→ks'.Pairwise (fun a b=>k6 a b=true)→us.length=ks'.length→(∀(i:Nat) (v:V) (k:Int×Int),us[i]? =some v→ks'[i]? =some k→∃b,v=.ref b∧SqT K G b [.int k.1,.int k.2])→Q (.ref q) (cr H q (.lst us))
theorem ji (hc:X.calm=true):cQ X (.builtin "sorted") (pH X.prog X.w X.K):=by
 intro pins s σ H xs us Q I r h
 obtain⟨G,p,o,ks,rfl,eG,hp,⟨es,ep,t,R,T,nd⟩,h64,q⟩:=h
 obtain⟨u,rfl,rx⟩:=eA r
 cases rx
 have hpo:s.heap.get? p=some o:=(I.hok p _ hp).1
 have hsz:es.size=ks.length:=by have:=T.len;simpa using this
 have op:=fD X.w p ep es
 have osz:(bD X.w p ep es).size=es.size:=by have:=op.length_eq;simpa using this
 have ek:es.toList.map (f6 X.K G)=ks:=by
  apply List.ext_getElem?
  intro i
  rw[List.getElem?_map]
  by_cases z:i< es.toList.length
  ·obtain⟨k,b,q1,q2,q3,q4⟩:=T.at_ i es.toList[i] (List.getElem?_eq_getElem z)
   rw[List.getElem?_eq_getElem z,q1]
   exact congrArg some (mj eG I q3 q2)
  ·rw[List.getElem?_eq_none (by omega),List.getElem?_eq_none (by have:=T.len;omega)];rfl
 have mem:∀e∈(bD X.w p ep es).toList,∃b,e.2=.ref b∧SqT X.K G b [.int (f6 X.K G e).1,.int (f6 X.K G e).2]:=fun e he=>by
  obtain⟨j,hj,ej⟩:=List.mem_iff_getElem.mp (op.mem_iff.mp he)
  obtain⟨k0,b0,r1,r2,r3,r4⟩:=T.at_ j e (by rw[List.getElem?_eq_getElem hj,ej])
  exact⟨b0,r2,by rw[mj eG I r3 r2];exact r3⟩
 have kzp:((bD X.w p ep es).toList.map (f6 X.K G)).Perm ks:=by
  have:=op.map (f6 X.K G)
  rw[ek]at this
  exact this
 refine Calls.call_function_entry kind_sorted plain_sorted entry_sorted (args_sorted1 _) ?_
 unfold Builtin.«sorted»
 refine wpAny_bind (m:=checkCount "sorted" 1 1 _) (wpAny_pure ?_)
 refine wpAny_bind (PySem.W.kdu_collect (A:=X.A.in1) (qZ (a:=p) R) (I.ok.hd hc) hpo (by rw[sizeLine_eq];omega) fun h' tk acc hk hacc=>?_)
 have av:acc.toList=(bD X.w p ep es).toList.map (·.2):=by
  apply List.ext_getElem?
  intro i
  rw[List.getElem?_map]
  by_cases z:i< acc.size
  ·have z2:i< acc.toList.length:=by simpa using z
   obtain⟨e,q1,q2⟩:=hacc.2 i acc.toList[i] (by rw[←Array.getElem?_toList];exact List.getElem?_eq_getElem z2)
   rw[List.getElem?_eq_getElem z2,Array.getElem?_toList,q1,q2];rfl
  ·have:=hacc.1
   rw[List.getElem?_eq_none (by simp;omega),List.getElem?_eq_none (by simp;omega)];rfl
 have hal:acc.toList.length=ks.length:=by rw[Array.length_toList,hacc.1,hsz]
 have I':=I.kept (t':=tk) hk
 refine wpAny_bind (wpAny_newList ?_ (by rw[hal,sizeLine_eq];omega))
 have hoL:(h'.push (seqObj "list" acc.toList.toArray 0)).get? h'.objs.size=some (seqObj "list" acc.toList.toArray 0):=Heap.get?_push_size _ rfl
 have PA:PairsAt (h'.push (seqObj "list" acc.toList.toArray 0)) acc.toList ((bD X.w p ep es).toList.map (f6 X.K G)):=⟨by rw[av,List.length_map,List.length_map],fun i v hv=>by
  rw[av,List.getElem?_map]at hv
  obtain⟨e,h1,rfl⟩:=Option.map_eq_some_iff.mp hv
  obtain⟨b,h2,h3⟩:=mem e (List.mem_of_getElem? h1)
  obtain⟨its,rr,⟨ob,g1,g2,n,g3⟩,_⟩:=I'.tuple (Same.tup eG h3)
  obtain⟨u1,u2,e1,⟨t1,e2⟩,t2,e3⟩:∃u1 u2,its=[u1,u2]∧RelV (.int (f6 X.K G e).1) u1∧RelV (.int (f6 X.K G e).2) u2:=by
   cases rr with
   | cons a b => cases b with
    | cons c d => cases d with
     | nil=>exact⟨_,_,rfl,a,c⟩
  subst e1
  rw[e2,e3]at g3
  exact⟨_,by rw[List.getElem?_map,h1];rfl,b,ob,t1,t2,n,h2,Heap.get?_push_of_some _ g1,g2,g3⟩⟩
 refine wpAny_bind (wpAny_holding (wpAny_call_entry slot_list_sort ⟨_,hoL,rfl⟩ entry_list_sort (l9 hoL PA (kzp.nodup_iff.mpr nd) (by omega) fun pp pm pw=>⟨_,rfl,?_⟩) (args_list_sort _)))
 obtain⟨e,he⟩:=sortedHeap_at (h:=h'.push (seqObj "list" acc.toList.toArray 0)) (a:=h'.objs.size) (vs:=acc.toList) (out:=(pp.map fun i=>acc.toList.getD i Value.none).toArray) (n:=0) hoL
 have lt_:∀i∈pp,i< acc.toList.length:=fun i hi=>by have:=pm.mem_iff.mp hi;simpa using this
 have at_:∀i∈pp,∃b,acc.toList.getD i Value.none=.ref b∧SqT X.K G b [.int (((bD X.w p ep es).toList.map (f6 X.K G)).getD i (0,0)).1,.int (((bD X.w p ep es).toList.map (f6 X.K G)).getD i (0,0)).2]:=fun i hi=>by
  have hl:=lt_ i hi
  have ho:i< (bD X.w p ep es).toList.length:=by rw[av,List.length_map]at hl;exact hl
  obtain⟨b,h2,h3⟩:=mem (bD X.w p ep es).toList[i] (List.getElem_mem ho)
  refine⟨b,?_,?_⟩
  ·rw[av,List.getD_eq_getElem?_getD,List.getElem?_map,List.getElem?_eq_getElem ho];exact h2
  ·rw[List.getD_eq_getElem?_getD,List.getElem?_map,List.getElem?_eq_getElem ho];exact h3
 have pkz:(pp.map fun i=>((bD X.w p ep es).toList.map (f6 X.K G)).getD i (0,0)).Perm ks:=by
  have:=pm.map (fun i=>((bD X.w p ep es).toList.map (f6 X.K G)).getD i (0,0))
  have hl:acc.toList.length=((bD X.w p ep es).toList.map (f6 X.K G)).length:=PA.len
  rw[hl,eZ]at this
  exact this.trans kzp
 have ppl:pp.length=ks.length:=by have:=pm.length_eq;rw[List.length_range]at this;omega
 refine wpAny_pure ⟨_,rfl,.ref h'.objs.size,_,I'.laid (t':=tk) (fun b o z=>?_) (Nat.le_refl _) (show ObjOk X.prog X.w _ _ _ (.lst (pp.map fun i=>uO (acc.toList.getD i Value.none)))from⟨by rw[List.length_map,sizeLine_eq];omega,(pp.map fun i=>acc.toList.getD i Value.none),e,?_,he⟩),rfl,q _ _ (pp.map fun i=>((bD X.w p ep es).toList.map (f6 X.K G)).getD i (0,0)) (I'.hok.fresh (Nat.le_refl _)) pkz pw (by rw[List.length_map,List.length_map]) fun i v k h1 h2=>?_⟩
 ·show(sortedHeap _ _ _ _).get? b=some o
  rw[sortedHeap_old (Nat.ne_of_lt (Heap.lt_size z)) (by rw[size_push'];exact Nat.lt_succ_of_lt (Heap.lt_size z))]
  exact Heap.get?_push_of_some _ z
 ·refine jG _ _ (by rw[List.length_map,List.length_map]) fun j x u hx hu=>?_
  rw[List.getElem?_map]at hx hu
  obtain⟨i,hi,rfl⟩:=Option.map_eq_some_iff.mp hx
  rw[hi]at hu
  cases hu
  obtain⟨b,h1,_⟩:=at_ i (List.mem_of_getElem? hi)
  show RelV (uO (acc.toList.getD i Value.none)) (acc.toList.getD i Value.none)
  rw[h1]
  rfl
 ·rw[List.getElem?_map]at h1 h2
  obtain⟨j,hj,rfl⟩:=Option.map_eq_some_iff.mp h1
  rw[hj]at h2
  cases h2
  obtain⟨b,h1,h2⟩:=at_ j (List.mem_of_getElem? hj)
  exact⟨b,by rw[h1];rfl,h2⟩
end
end L2
namespace L2
open PySem PySem.Spec PyProof.Rows Wb
def lb (w:World):Obj:={cls:=.type "set",dict:=none,data:=.set #[] 0 (.fresh 0 0 (!w.params.followText "set-order")),slots:= #[]}
theorem rf (prog:Program) (w:World) (K:PySem.W.Frag) (H:Hp):SetH prog w K H (lb w) []:=
 ⟨#[],0,.fresh 0 0 (!w.params.followText "set-order"),⟨⟨rfl,rfl,rfl⟩,rfl,⟨⟨rfl,rfl,fun a b _ hb=>by simp[SetTable.fresh]at hb,fun j ⟨a,ha,_⟩=>by simp[SetTable.fresh]at ha,.inl rfl,fun i h e=>by simp at e⟩,by show 0*5< 7*3;decide⟩,rfl,rfl⟩,⟨rfl,fun i e he=>by simp at he⟩,List.Pairwise.nil⟩
def lc (w:World) (cap:List (Option Nat)) (wi:TI) (g:TG) (tf:TT) (tb:TB):TE:=fun σ H Q=>wi σ H fun J H1=>∀D,H1 D=none→oY g tf tb D (bt cap σ) (cr H1 D (XO D (lb w))) (fun H'=>Q (.ref D) H') J
section
variable {X:Cx} {scope:Scope} {N:List Str} {cap:List (Option Nat)} {tg iter:Expr} {ifs:List Expr} {pos:Pos} {wi:TI} {g:TG} {tf:TT} {tb:TB} {body:Env→Value→Sem Unit}
theorem pI (S:CompScope X scope N cap) (hc:X.calm=true) {elt:Expr} {gs:List Comprehension} (hi:PI X tg iter wi)
  (hg:∀s H C fp,PG (ay X scope N s H C fp) tg g) (hf:∀s H C fp,oh (ay X scope N s H C fp) ifs tf) (hb:∀s H C fp,PB (ay X scope N s H C fp) (body (ay X scope N s H C fp).env) tb)
  (ht:∀env it acc,compTurn (.SetComp elt (⟨tg,iter,ifs,0⟩::gs) scope pos) 0 it acc env=cN tg iter ifs (body env acc) it env (.compLoop (.SetComp elt (⟨tg,iter,ifs,0⟩::gs) scope pos) 0 it acc env):=by intro _ _ _;rfl)
  (hs:∀x,foldedSetIterable iter X.env x=pure x:=by intro _;rfl):PE X (.SetComp elt (⟨tg,iter,ifs,0⟩::gs) scope pos) (lc X.w cap wi g tf tb):=by
 intro pins s σ H Q I h
 rw[arm_eval_SetComp]
 have frc:∀x∈scope.names,x.2=.free→∃c,X.env.cells.lookup x.1=some c:=fun x hx hk=>I.ok.has x.1 (S.free x hx hk)
 refine wpAny_comprehension_free (use:=none) rfl hs (du frc) S.kind (fe S) (bF (hi pins s σ H _ I h) fun v s1 h1=>bF h1 fun itv s2 h2=>?_)
 obtain⟨it,fp,tn,J,H2,rfl,I2,T,st2,f2,w⟩:=h2
 unfold newSet setsByText
 refine wpAny_bind (wpAny_bind (wpAny_askSetting (wpAny_pure ?_)))
 refine wpAny_newObj_type ?_
 have hz:H2 s2.heap.objs.size=none:=I2.hok.fresh (Nat.le_refl _)
 have I3:Inv X pins σ (cr H2 s2.heap.objs.size (XO s2.heap.objs.size (lb X.w))) {s2 with heap:=s2.heap.push (lb X.w)} :=
  I2.laid (a:=s2.heap.objs.size) (t':=s2.toks) (fun _ _ q=>Heap.get?_push_of_some _ q) (Nat.le_refl _) (XO.ok (Heap.get?_push_size _ rfl))
 have nD:∀b∈fp,b≠s2.heap.objs.size:=fun b hb=>by
  obtain⟨o,e,_⟩:=T.obj _ _ st2 b hb
  exact Nat.ne_of_lt (Heap.lt_size e)
 have f3:∀b∈fp,FpOk X pins (cr H2 s2.heap.objs.size (XO s2.heap.objs.size (lb X.w))) b:=fun b hb=>⟨by rw[aw (nD b hb)];exact(f2 b hb).1,(f2 b hb).2⟩
 refine kZ (RR:=fun C=>compPost (model X.prog X.w) X.A X.xe none (EP X pins σ Q) (.ref s2.heap.objs.size) C) S hc CompE.set rfl hg hf hb ht I3 T (T.keep _ _ _ st2 fun b hb o e=>Heap.get?_push_of_some _ e) f3 (w _ hz) fun C σ' H' s' hC I' q=>?_
 obtain⟨m,hn,_⟩:=I'.loc
 exact⟨m,hn,fun h' hs'=>⟨.ref _,H',nc I3 f3 hC I' hs',rfl,q⟩⟩
variable {kx vx elt tg2 iter2:Expr} {ifs2:List Expr} {wi2:TI} {g2:TG} {tf2:TT} {te:TE}
theorem nu (hu:X.A.units+1< cLine) (S:CompScope X scope N cap) (hc:X.calm=true) (hi:PI X tg iter wi)
  (hg:∀s H C fp,PG (ay X scope N s H C fp) tg g) (hf:∀s H C fp,oh (ay X scope N s H C fp) ifs tf)
  (hi2:∀s H C fp,PI (ay X scope N s H C fp) tg2 iter2 wi2) (hg2:∀s H C fp,PG (ay X scope N s H C fp) tg2 g2) (hf2:∀s H C fp,oh (ay X scope N s H C fp) ifs2 tf2) (he:∀s H C fp,PE (ay X scope N s H C fp) elt te)
  (hs:∀x,foldedSetIterable iter X.env x=pure x:=by intro _;rfl) (hs2:∀env x,foldedSetIterable iter2 env x=pure x:=by intro _ _;rfl):PE X (.SetComp elt [⟨tg,iter,ifs,0⟩,⟨tg2,iter2,ifs2,0⟩] scope pos) (lc X.w cap wi g tf (tq wi2 g2 tf2 (la X.prog X.w X.K te))):=
 pI S hc hi hg hf (body:=qP iter2 (.SetComp elt [⟨tg,iter,ifs,0⟩,⟨tg2,iter2,ifs2,0⟩] scope pos) 1)
  (fun s H C fp=>tt (Y:=ay X scope N s H C fp) hc rfl (hi2 s H C fp) (hg2 s H C fp) (hf2 s H C fp) (body:=sm elt) (tI (Y:=ay X scope N s H C fp) rfl hu (he s H C fp)) CompE.set rfl (fun _ _ _=>rfl) (hs2 _)) (fun _ _ _=>by rw[ng];rfl) hs
end
end L2
namespace Wb
open PySem L2 Mi
section
variable {Er:Nat→Prop} {α:Type} {prog:Program} {w:World} {K:PySem.W.Frag} {W W' W0 Wb W1 W2:Wd} {σ:St} {te:TE}
structure OwS2 (prog:Program) (w:World) (K:PySem.W.Frag) (W:Wd) (p:Addr) (ks:List (Int×Int)):Prop where
 g:W.G p=none
 h:∃o ks0,W.H p=some (XO p o)∧SetH prog w K W.G o ks0∧ks0.Perm ks
theorem nv {G G':Hp} {o:Obj} {ks:List (Int×Int)} (h:SetH prog w K G o ks) (e:Same G G'):SetH prog w K G' o ks:=
 let ⟨es,ep,t,R,T,nd⟩:=h
 ⟨es,ep,t,R,⟨T.len,fun i x hx=>let ⟨k,b,q1,q2,q3,q4⟩:=T.at_ i x hx;⟨k,b,q1,q2,Same.tup e q3,q4⟩⟩,nd⟩
theorem OwS2.mono {p:Addr} {ks:List (Int×Int)} (o:OwS2 prog w K W p ks) (e:Ext W W'):OwS2 prog w K W' p ks:=by
 obtain⟨x,k0,a,b,c⟩:=o.h
 exact⟨by rw[e.k p (by rw[a];exact fun z=>nomatch z)];exact o.g,x,k0,e.h _ _ a,nv b e.g,c⟩
theorem tJ {me:Res (Int×Int)} {D:Addr} (eb:Ext Wb W) (hD:Wb.H D=none) (h:EV Er te σ W (sh (isT2 K isI isI)) me):BV Er (la prog w K te) σ Wb W (OwS2 prog w K) D (fun ks=>me.bind fun y=>l5 ks y):=fun W1 ks N e1 o k=>
 h W1 e1 _ ((Res.okE_bind k).imp fun y ky v W2 e2 hv => by
  obtain⟨h3,h4⟩:=bg ky
  have o2:=o.mono e2
  obtain⟨ob,ks0,q1,q2,q3⟩:=o2.h
  obtain⟨p,x1,x2,rfl,t1,r1,r2⟩:=hv
  cases r1
  cases r2
  refine⟨W2.G,ob,ks0,p,y,W2.ok,q1,q2,by rw[q3.length_eq];exact h3,rfl,t1,fun hm=>?_,fun hm o' ks' s' p'=>?_⟩
  ·rw[if_pos (q3.mem_iff.mp hm)]at h4
   exact h4 W2 e2.g ((eb.trans e1).trans e2) o2
  ·rw[if_neg (fun z=>hm (q3.mem_iff.mpr z))]at h4
   exact h4 (W2.mut D (XO D o') o2.g) e2.g (((eb.trans e1).trans e2).mut hD o2.g) ⟨o2.g,o',ks',aJ,s',p'.trans (.cons _ q3)⟩)
theorem pJ {R:Rp α} {cap:List (Option Nat)} {wi:TI} {g:TG} {tf:TT} {t:TB} {mi:Res (List α)} {f:α→List (Int×Int)→Res (List (Int×Int))} (hi:IV Er wi σ W R mi)
  (hs:∀Wb D W2 a v s (M:Hp→Prop),Same W.G W2.G→Ext W Wb→Wb.H D=none→Ext Wb W2→OwS2 prog w K W2 D s→R W2.G a v→(f a s).OkE Er (fun s'=>∀W',Same W2.G W'.G→Ext Wb W'→OwS2 prog w K W' D s'→M W'.H)→g v (bt cap σ) W2.H fun σ2 H2=>Keep (bt cap σ) σ2∧tf σ2 H2 fun b H3=>if b=true then t D σ2 H3 M else M H3):
  EVo Er (cX (pH prog w K) (ai (lc w cap wi g tf t) aR)) σ W (isT2 K isI isI) ((mi.bind fun xs=>bC f xs []).bind fun ks=>oZ ks):=fun W1 e1 Q k=>by
 refine hi W1 e1 _ ((Res.okE_bind (Res.okE_bind k)).imp fun xs kx J W2 e2 hy D hD=>?_)
 refine lS (W:=W2) (W1:=W2.mut D (XO D (lb w)) (W2.gnone hD)) (Wb:=W2) (O:=OwS2 prog w K) (s0:=[]) hy (.inr (.refl _)) (.own _ hD) ⟨W2.gnone hD,lb w,[],aJ,rf ..,.refl _⟩ (fun W3 a v s M e3 eb3 o3 r k3=>hs W2 D W3 a v s M ((e1.trans e2).g.trans e3) (e1.trans e2) hD eb3 o3 r k3) (fun _ _ _ e o=>o.mono e) ?_
 exact kx.imp fun ks kk W' z1 z2 z3=>by
  obtain⟨h3,h4⟩:=bg kk
  obtain⟨o,ks0,q1,q2,q3⟩:=z3.h
  refine⟨W'.G,D,o,ks0,rfl,W'.ok,q1,q2,by rw[q3.length_eq];exact h3,fun q us ks1 hq p1 p2 l1 at_=>?_⟩
  have e:ks1=dO ks:=l4 (p1.trans q3) (p2.imp fun {a b} h=>by rw[gv]at h;rw[gq];omega)
  rw[←e]at h4
  exact kX (W2:=W') (vs:=us) ⟨l1,fun i v m e1 e2=>by
   obtain⟨b,rfl,hb⟩:=at_ i v m e1 e2
   exact⟨b,_,_,rfl,hb,rfl,rfl⟩⟩ (e2.trans z2) h4 q hq
end
end Wb
namespace L2
open PySem PySem.Spec PyProof.Rows Wb
def uP:R2:=fun x y H Q=>∃p q xs,x=.ref p∧y=.ref q∧H p=some (.lst xs)∧H q=some (.lst [])∧Q (.bl xs.isEmpty) H
theorem ld {X:Cx} (hu:X.A.units< cLine):OpR X (compareOp .Eq) uP:=by
 intro pins s σ H x y v u Q I rx ry h
 obtain⟨p,q,xs,rfl,rfl,h1,h2,hq⟩:=h
 cases rx;cases ry
 obtain⟨i1,r1,t1,z1⟩:=I.list (SqL.of (K:=X.K) h1)
 obtain⟨i2,r2,t2,z2⟩:=I.list (SqL.of (K:=X.K) h2)
 have l1:=r1.length
 have l2:=r2.length
 have key:SeqAt.RcAt X.A s (.ref p) (.ref q) xs.isEmpty:=by
  cases xs with
  | nil =>
   have:=SeqAt.RcAt.lists (A:=X.A) (s:=s) (e:=fun _=>true) t1.isList t2.isList (by rw[List.size_toArray,List.size_toArray,←l1,←l2]) hu (fun j h1' h2'=>by
    have:j< i1.length:=by simpa using h1'
    rw[←l1]at this
    exact absurd this (Nat.not_lt_zero _))
   have e0:i1.toArray.size=0:=by rw[List.size_toArray,←l1];rfl
   rw[e0]at this
   exact this
  | cons a r=>exact SeqAt.RcAt.lists_lengths t1.isList t2.isList (by simp at l1 l2 ⊢;omega) hu
 exact key _ _ _ _ ⟨.bl _,H,I,rfl,hq⟩
end L2
namespace Wb
open PySem L2 Mi
section
variable {Er:Nat→Prop} {α:Type} {W:Wd} {σ:St} {ta:TE}
theorem lf {R:Rp α} {ma:Res (List α)} (ha:EV Er ta σ W (pk R) ma):EV Er (cv uP ta (bI aR)) σ W (sh isB) (ma.bind fun a=>.ok a.isEmpty):=fun W1 e1 Q k=>
 ha W1 e1 _ ((Res.okE_bind k).imp fun a ka x W2 e2 hx=>by
  obtain⟨p,vs,rfl,h1,h2⟩:=hx
  refine⟨by decide,fun q hq=>⟨p,q,vs,rfl,rfl,?_,aJ,?_⟩⟩
  ·rw[aw (fun z=>by rw[z]at h1;rw[hq]at h1;cases h1)];exact h1
  ·have:vs.isEmpty=a.isEmpty:=by
    have:=h2.1
    cases vs <;> cases a <;> simp at this ⊢
   rw[this]
   exact ka (.bl a.isEmpty) (W2.mut q (.lst []) (W2.gnone hq)) (e2.trans (.own _ hq)) rfl)
end
end Wb
namespace Mi
noncomputable section
@[irreducible] def vb (Z0e:List Int) (l_k:Int):Res Int:=if(decide (l_k< (Z0e.length:Int)))then ic Z0e l_k else(gM ((l_k*48271)+(11:Int)) ((Z0e.length:Int)+(7:Int))).bind fun y8=>Res.ok (y8% 1000003)
def jj (Z0e:List Int) (l_k:Int):Res Int:=vb Z0e l_k
@[irreducible] def u4 (Z01:Int) (Z0i:Int) (a19:Int) (s20:(Int×Int×(List Int))):Res (Int×Int×(List Int)):=((if(decide ((1000000000000000000:Int)≤bi Z01))then Res.ok (decide ((0:Int)< s20.2.1))else Res.ok false).bind fun y45=>(if y45 then((j5 s20.2.1 Z0i).bind fun y56=>gk s20.2.2 y56).bind fun y55=>(fZ s20.2.1 Z0i).bind fun y59=>Res.ok (y59,y55)else((((gM ((((s20.1*48271)+(7919:Int))+a19)% 2147483647) ((((s20.1*48271)+(7919:Int))+a19)% 2147483647)).bind fun y63=>Res.ok (y63% 1000003)).bind fun y64=>j5 y64 Z0i).bind fun y69=>gk s20.2.2 y69).bind fun y68=>Res.ok (s20.2.1,y68):Res (Int×(List Int)))).bind fun s70=>Res.ok (((((s20.1*48271)+(7919:Int))+a19)% 2147483647),s70.1,s70.2)
@[irreducible] def vc (Z01:Int) (Z08:Int) (Z0i:Int):Res (List Int):=((dN Z08).bind fun y78=>bC (u4 Z01 Z0i) y78 (((bi Z01)% 2147483647),bi Z01,([]:List Int))).bind fun s79=>Res.ok s79.2.2
def i6 (Z01:Int) (Z08:Int) (Z0i:Int):Res (List Int):=vc Z01 Z08 Z0i
@[irreducible] def u5 (y3:Int) (y8:List Int) (a15:Int) (s16:Tx):Res Tx:=(((((ic y8 (4:Int)).bind fun y39=>((j5 a15 y3).bind fun y38=>Res.ok (y38*7)).bind fun y40=>Res.ok (y39+y40)).bind fun y41=>Res.ok (y41% 26)).bind fun y42=>dM ([97,98,99,100,101,102,103,104,105,106,107,108,109,110,111,112,113,114,115,116,117,118,119,120,121,122]:Tx) y42).bind fun y43=>fM s16 y43).bind fun y44=>Res.ok y44
@[irreducible] def vd (i6:Int→Int→Int→Res (List Int)) (Z01:Int):Res Tx:=(ic [(1:Int),(2:Int),(3:Int),(4:Int),(26:Int)] (Z01% 5)).bind fun y3=>(i6 (Z01/ 5) (5:Int) (26:Int)).bind fun y8=>(bC (u5 y3 y8) (cut y8 none (some (4:Int))) ([]:Tx)).bind fun s47=>Res.ok s47
def rg (Z01:Int):Res Tx:=vd i6 Z01
@[irreducible] def ve (rg:Int→Res Tx) (Z01:Int):Res (Tx×Tx×Int):=(dM ([83,90]:Tx) (Z01% 2)).bind fun y1=>(rg (Z01/ 8)).bind fun y2=>Res.ok (y1,y2,((Z01/ 2)% 4))
def qf (Z01:Int):Res (Tx×Tx×Int):=ve rg Z01
@[irreducible] def vf (i6:Int→Int→Int→Res (List Int)) (Z01:Int) (Z08:Int):Res Tx:=if(decide ((Z01% 7)=(3:Int)))then(dM ([102,98,105]:Tx) ((Z01/ 7)% 3)).bind fun y3=>sU y3 Z08 else((i6 (Z01/ 7) Z08 (3:Int)).bind fun y18=>dX y18 (fun(a9:Int)=>dM ([102,98,105]:Tx) a9)).bind fun y19=>jI y19
def rh (Z01:Int) (Z08:Int):Res Tx:=vf i6 Z01 Z08
@[irreducible] def vg (Z0f:Tx):Res Int:=(fN ([98,105,102]:Tx) Z0f).bind fun y1=>Res.ok (y1- (1:Int))
def kD (Z0f:Tx):Res Int:=vg Z0f
@[irreducible] def vh (kD:Tx→Res Int) (Z02:Tx×Tx×Int) (Z0f:Tx):Res (Tx×Tx×Int):=(((kD Z0f).bind fun y1=>Res.ok (Z02.2.2+y1)).bind fun y2=>Res.ok (y2% 4)).bind fun y3=>Res.ok (Z02.1,Z02.2.1,y3)
def gw (Z02:Tx×Tx×Int) (Z0f:Tx):Res (Tx×Tx×Int):=vh kD Z02 Z0f
@[irreducible] def vi (kD:Tx→Res Int) (Z02:Tx×Tx×Int) (Z0f:Tx):Res Int:=if(decide (Z02.1=([83]:Tx)))then kD Z0f else(kD Z0f).bind fun y8=>Res.ok ((0:Int)- y8)
def dY (Z02:Tx×Tx×Int) (Z0f:Tx):Res Int:=vi kD Z02 Z0f
@[irreducible] def u6 (gw:(Tx×Tx×Int)→Tx→Res (Tx×Tx×Int)) (dY:(Tx×Tx×Int)→Tx→Res Int) (a7:Tx) (s8:((Tx×Tx×Int)×(List (Tx×Tx×Tx)))):Res ((Tx×Tx×Int)×(List (Tx×Tx×Tx))):=(gw s8.1 a7).bind fun y34=>(((dY y34 a7).bind fun y39=>Res.ok (y39+(1:Int))).bind fun y40=>dM ([122,111,115]:Tx) y40).bind fun y41=>(((dM y34.2.1 y34.2.2).bind fun y44=>(dM y34.2.1 ((y34.2.2+(2:Int))% 4)).bind fun y45=>Res.ok (y44,y45,y41)).bind fun y50=>gk s8.2 y50).bind fun y49=>Res.ok (y34,y49)
@[irreducible] def vj (gw:(Tx×Tx×Int)→Tx→Res (Tx×Tx×Int)) (dY:(Tx×Tx×Int)→Tx→Res Int) (Z02:Tx×Tx×Int) (Z03:Tx):Res (List (Tx×Tx×Tx)):=(bC (u6 gw dY) (bd Z03) (Z02,([]:List (Tx×Tx×Tx)))).bind fun s51=>Res.ok s51.2
def lg (Z02:Tx×Tx×Int) (Z03:Tx):Res (List (Tx×Tx×Tx)):=vj gw dY Z02 Z03
@[irreducible] def u7 (Z01:Int) (a14:(Tx×Tx×Tx)×Int) (s15:(List (Tx×Tx×Tx))):Res (List (Tx×Tx×Tx)):=(if(decide ((Z01% 5)=(0:Int)))then Res.ok ((a14.2/ 8)*8)else Res.ok a14.2:Res Int).bind fun s56=>(if(decide ((Z01% 5)=(1:Int)))then Res.ok (((s56/ 8)*8)+(7:Int))else Res.ok s56:Res Int).bind fun s75=>((if(decide ((56:Int)≤s75))then Res.ok (decide ((s75% 3)< (2:Int)))else Res.ok false).bind fun y90=>(if y90 then(((((ic [a14.1.1,a14.1.2.1,a14.1.2.2] (s75% 3)).bind fun y101=>fN ([97,98,99,100,101,102,103,104,105,106,107,108,109,110,111,112,113,114,115,116,117,118,119,120,121,122,97]:Tx) y101).bind fun y102=>Res.ok (y102+(1:Int))).bind fun y103=>dM ([97,98,99,100,101,102,103,104,105,106,107,108,109,110,111,112,113,114,115,116,117,118,119,120,121,122,97]:Tx) y103).bind fun y107=>jH [a14.1.1,a14.1.2.1,a14.1.2.2] (s75% 3) y107).bind fun y108=>Res.ok y108 else Res.ok [a14.1.1,a14.1.2.1,a14.1.2.2]:Res (List Tx))).bind fun s110=>((if(decide ((56:Int)≤s75))then Res.ok (decide ((s75% 3)=(2:Int)))else Res.ok false).bind fun y120=>(if y120 then((((ic s110 (2:Int)).bind fun y127=>fN ([115,122,111]:Tx) y127).bind fun y128=>dM ([122,111,115]:Tx) y128).bind fun y132=>jH s110 (2:Int) y132).bind fun y133=>Res.ok y133 else Res.ok s110:Res (List Tx))).bind fun s135=>(((dX (s135.zip [(1:Int),(2:Int),(4:Int)]) (fun(a149:Tx×Int)=>(((fZ s75 a149.2).bind fun y158=>Res.ok (y158% 2)).bind fun y159=>Res.ok (decide (y159=(1:Int)))).bind fun y160=>if y160 then Res.ok a149.1 else Res.ok ([63]:Tx))).bind fun y163=>sW y163).bind fun y168=>gk s15 y168).bind fun y167=>Res.ok y167
@[irreducible] def vk (i6:Int→Int→Int→Res (List Int)) (Z15:List (Tx×Tx×Tx)) (Z01:Int) (Z0r:Bool):Res (List (Tx×Tx×Tx)):=(((gM (8:Int) (if Z0r then(1:Int)else 0)).bind fun y9=>Res.ok ((56:Int)+y9)).bind fun y10=>i6 (Z01/ 5) (Z15.length:Int) y10).bind fun y11=>(bC (u7 Z01) (Z15.zip y11) ([]:List (Tx×Tx×Tx))).bind fun s169=>Res.ok s169
def rj (Z15:List (Tx×Tx×Tx)) (Z01:Int) (Z0r:Bool):Res (List (Tx×Tx×Tx)):=vk i6 Z15 Z01 Z0r
@[irreducible] def vm (Z02:Tx×Tx×Int):Res (Tx×Tx×Int):=((fN ([83,90]:Tx) Z02.1).bind fun y5=>dM ([90,83]:Tx) y5).bind fun y12=>((((dM Z02.2.1 (0:Int)).bind fun y6=>(dM Z02.2.1 (3:Int)).bind fun y7=>fM y6 y7).bind fun y8=>(dM Z02.2.1 (2:Int)).bind fun y9=>fM y8 y9).bind fun y10=>(dM Z02.2.1 (1:Int)).bind fun y11=>fM y10 y11).bind fun y13=>Res.ok (y12,y13,(((0:Int)- Z02.2.2)% 4))
def rk (Z02:Tx×Tx×Int):Res (Tx×Tx×Int):=vm Z02
@[irreducible] def vn (Z03:Tx):Res Tx:=(dX (bd Z03) (fun(a1:Tx)=>(fN ([98,105,102]:Tx) a1).bind fun y8=>dM ([102,105,98]:Tx) y8)).bind fun y11=>jI y11
def rl (Z03:Tx):Res Tx:=vn Z03
@[irreducible] def vo (Z02:Tx×Tx×Int) (Z08:Int):Res (Tx×Tx×Int):=(((dN (4:Int)).bind fun y13=>dX y13 (fun(a3:Int)=>dM Z02.2.1 ((a3- Z08)% 4))).bind fun y14=>jI y14).bind fun y15=>Res.ok (Z02.1,y15,((Z02.2.2+Z08)% 4))
def rm (Z02:Tx×Tx×Int) (Z08:Int):Res (Tx×Tx×Int):=vo Z02 Z08
@[irreducible] def u8 (a37:Int) (s38:(List Int)):Res (List Int):=(if(!s38.contains a37)then(gk s38 a37).bind fun y68=>Res.ok y68 else Res.ok s38:Res (List Int)).bind fun s70=>Res.ok s70
@[irreducible] def uQ (gw:(Tx×Tx×Int)→Tx→Res (Tx×Tx×Int)) (a7:Tx) (s8:((Tx×Tx×Int)×(List Int))):Res ((Tx×Tx×Int)×(List Int)):=(gw s8.1 a7).bind fun y34=>(bC u8 [y34.2.2,((y34.2.2+(2:Int))% 4)] s8.2).bind fun s78=>Res.ok (y34,s78)
@[irreducible] def vp (gw:(Tx×Tx×Int)→Tx→Res (Tx×Tx×Int)) (Z02:Tx×Tx×Int) (Z03:Tx):Res (List Int):=(bC (uQ gw) (bd Z03) (Z02,([]:List Int))).bind fun s82=>oB s82.2
def rn (Z02:Tx×Tx×Int) (Z03:Tx):Res (List Int):=vp gw Z02 Z03
@[irreducible] def u9 (Z01:Int) (y40:List Int) (a43:Int) (s44:(Tx×Tx×Int)):Res (Tx×Tx×Int):=(if(!y40.contains a43)then((((gM (5:Int) a43).bind fun y75=>Res.ok ((Z01/ 16)+y75)).bind fun y76=>Res.ok (y76% 26)).bind fun y77=>dM ([97,98,99,100,101,102,103,104,105,106,107,108,109,110,111,112,113,114,115,116,117,118,119,120,121,122]:Tx) y77).bind fun y78=>((((mW s44.2.1 none (some a43)).bind fun y83=>fM y83 y78).bind fun y84=>(mW s44.2.1 (some (a43+(1:Int))) none).bind fun y85=>fM y84 y85).bind fun y86=>Res.ok (s44.1,y86,s44.2.2)).bind fun y87=>Res.ok y87 else Res.ok s44:Res (Tx×Tx×Int)).bind fun s91=>Res.ok s91
@[irreducible] def vq (rk:(Tx×Tx×Int)→Res (Tx×Tx×Int)) (rl:Tx→Res Tx) (rm:(Tx×Tx×Int)→Int→Res (Tx×Tx×Int)) (rn:(Tx×Tx×Int)→Tx→Res (List Int)) (Z02:Tx×Tx×Int) (Z03:Tx) (Z01:Int):Res ((Tx×Tx×Int)×Tx):=(if(decide ((Z01% 2)=(1:Int)))then(rk Z02).bind fun y9=>(rl Z03).bind fun y14=>Res.ok (y9,y14)else Res.ok (Z02,Z03):Res ((Tx×Tx×Int)×Tx)).bind fun s18=>(rm s18.1 ((Z01/ 2)% 4)).bind fun y29=>(if(decide (((Z01/ 8)% 2)=(1:Int)))then(rn y29 s18.2).bind fun y40=>((dN (4:Int)).bind fun y101=>bC (u9 Z01 y40) y101 y29).bind fun s102=>Res.ok s102 else Res.ok y29:Res (Tx×Tx×Int)).bind fun s107=>Res.ok (s107,s18.2)
def rp (Z02:Tx×Tx×Int) (Z03:Tx) (Z01:Int):Res ((Tx×Tx×Int)×Tx):=vq rk rl rm rn Z02 Z03 Z01
@[irreducible] def vt (qf:Int→Res (Tx×Tx×Int)) (jj:List Int→Int→Res Int) (rh:Int→Int→Res Tx) (rj:(List (Tx×Tx×Tx))→Int→Bool→Res (List (Tx×Tx×Tx))) (lg:(Tx×Tx×Int)→Tx→Res (List (Tx×Tx×Tx))) (rp:(Tx×Tx×Int)→Tx→Int→Res ((Tx×Tx×Int)×Tx)) (Z0e:List Int) (Z0C:Int):Res ((Tx×Tx×Int)×(List (Tx×Tx×Tx))×Int):=((jj Z0e (0:Int)).bind fun y3=>qf y3).bind fun y4=>((jj Z0e (1:Int)).bind fun y10=>((jj Z0e (2:Int)).bind fun y9=>j5 y9 (Z0C+(1:Int))).bind fun y11=>rh y10 y11).bind fun y12=>(jj Z0e (3:Int)).bind fun y17=>((lg y4 y12).bind fun y22=>rj y22 (y17/ 3) (decide ((y17% 3)=(2:Int)))).bind fun y23=>((jj Z0e (4:Int)).bind fun y28=>Res.ok (y28/ 4)).bind fun y29=>(if(decide ((y29% 6)=(1:Int)))then((rp y4 y12 (y29/ 6)).bind fun y40=>Res.ok y40.1).bind fun y41=>Res.ok y41 else Res.ok y4:Res (Tx×Tx×Int)).bind fun s45=>(if(decide ((y29% 6)=(2:Int)))then(qf (y29/ 6)).bind fun y62=>Res.ok y62 else Res.ok s45:Res (Tx×Tx×Int)).bind fun s66=>((jj Z0e (4:Int)).bind fun y75=>Res.ok (y75% 4)).bind fun y76=>Res.ok (s66,y23,y76)
def qg (Z0e:List Int) (Z0C:Int):Res ((Tx×Tx×Int)×(List (Tx×Tx×Tx))×Int):=vt qf jj rh rj lg rp Z0e Z0C
@[irreducible] def ua (a34:Tx) (s35:(List Tx)):Res (List Tx):=(((fM a34 ([102]:Tx)).bind fun y62=>((fM a34 ([98]:Tx)).bind fun y60=>((fM a34 ([105]:Tx)).bind fun y59=>Res.ok (y59::([]:List Tx))).bind fun y61=>Res.ok (y60::y61)).bind fun y63=>Res.ok (y62::y63)).bind fun y64=>sT s35 y64).bind fun y65=>Res.ok y65
@[irreducible] def ub (a5:Int) (s6:(List Tx)):Res (List Tx):=(bC ua s6 ([]:List Tx)).bind fun s68=>Res.ok s68
@[irreducible] def vv (Z08:Int):Res (List Tx):=((dN Z08).bind fun y76=>bC ub y76 [([]:Tx)]).bind fun s77=>Res.ok s77
def rq (Z08:Int):Res (List Tx):=vv Z08
@[irreducible] def vw (a9:Tx) (s10:Unit):Res (Fl Bool Unit):=(if(!decide (a9=([102]:Tx)))then if(!decide (a9=([98]:Tx)))then Res.ok (!decide (a9=([105]:Tx)))else Res.ok false else Res.ok false).bind fun y30=>if y30 then Res.ok (.rt false)else Res.ok (.nx ())
@[irreducible] def uR (a103:Tx×Tx) (s104:Unit):Res (Fl Bool Unit):=(if(!decide (a103.2=([63]:Tx)))then Res.ok (!decide (a103.2=a103.1))else Res.ok false).bind fun y131=>if y131 then Res.ok (.rt false)else Res.ok (.nx ())
@[irreducible] def uc (dY:(Tx×Tx×Int)→Tx→Res Int) (Z02:Tx×Tx×Int) (Z0m:Int) (Z0n:Int) (a50:Tx×(Tx×Tx×Tx)×(Tx×Tx×Tx)) (s51:(Int×Int)):Res (Fl Bool (Int×Int)):=((dY Z02 a50.1).bind fun y87=>Res.ok (s51.1+y87)).bind fun y88=>(gM (s51.2+(1:Int)) (if(decide (a50.1=([105]:Tx)))then(1:Int)else 0)).bind fun y93=>(if(decide (Z0n< bi y88))then Res.ok true else Res.ok (decide (Z0m< y93))).bind fun y96=>if y96 then Res.ok (.rt false)else(dA uR ([a50.2.1.1,a50.2.1.2.1,a50.2.1.2.2].zip [a50.2.2.1,a50.2.2.2.1,a50.2.2.2.2]) ()).bind (fun | .nx s138=>(Res.ok (.nx (y88,y93))) | .rt r=>Res.ok (.rt r) | .bk _=>Res.stuck)
@[irreducible] def vz (lg:(Tx×Tx×Int)→Tx→Res (List (Tx×Tx×Tx))) (dY:(Tx×Tx×Int)→Tx→Res Int) (Z02:Tx×Tx×Int) (Z3M:List (Tx×Tx×Tx)) (Z0m:Int) (Z0n:Int) (Z0h:Tx):Res Bool:=((sV Z0h).bind fun y1=>Res.ok (!decide (y1=(Z3M.length:Int)))).bind fun y2=>if y2 then Res.ok false else(dA vw (bd Z0h) ()).bind (fun | .nx s37=>((((lg Z02 Z0h).bind fun y49=>Res.ok ((bd Z0h).zip (y49.zip Z3M))).bind fun y142=>dA (uc dY Z02 Z0m Z0n) y142 ((0:Int),(0:Int))).bind (fun | .nx s143=>(Res.ok true) | .rt r=>Res.ok r | .bk _=>Res.stuck)) | .rt r=>Res.ok r | .bk _=>Res.stuck)
def mm (Z02:Tx×Tx×Int) (Z3M:List (Tx×Tx×Tx)) (Z0m:Int) (Z0n:Int) (Z0h:Tx):Res Bool:=vz lg dY Z02 Z3M Z0m Z0n Z0h
@[irreducible] def sn (dY:(Tx×Tx×Int)→Tx→Res Int) (Z02:Tx×Tx×Int) (a9:Tx) (s10:(Int×Int)):Res (Int×Int):=((dY Z02 a9).bind fun y32=>Res.ok (s10.1+y32)).bind fun y33=>Res.ok (y33,(if bi y33> s10.2 then bi y33 else s10.2))
@[irreducible] def vA (dY:(Tx×Tx×Int)→Tx→Res Int) (Z02:Tx×Tx×Int) (Z03:Tx):Res Int:=(bC (sn dY Z02) (bd Z03) ((0:Int),(0:Int))).bind fun s40=>Res.ok s40.2
def mn (Z02:Tx×Tx×Int) (Z03:Tx):Res Int:=vA dY Z02 Z03
@[irreducible] def vB (state:Int×Int) (loose:Int) (bound:Int):Res Bool:=if(decide (bi state.1≤bound))then Res.ok (decide (state.2≤loose))else Res.ok false
def k9 (state:Int×Int) (loose:Int) (bound:Int):Res Bool:=vB state loose bound
@[irreducible] def vC (tablet:Tx×Tx×Int) (turn:Tx):Res Int:=(getD ([([102],1),([98],(-1)),([105],0)]:List (Tx×Int)) turn).bind fun y3=>if(decide (tablet.1=([83]:Tx)))then Res.ok y3 else Res.ok (-y3)
def lh (tablet:Tx×Tx×Int) (turn:Tx):Res Int:=vC tablet turn
@[irreducible] def vD (lh:(Tx×Tx×Int)→Tx→Res Int) (tablet:Tx×Tx×Int) (state:Int×Int) (turn:Tx):Res (Int×Int):=((lh tablet turn).bind fun y9=>Res.ok (state.1+y9)).bind fun y10=>(if(decide (turn=([105]:Tx)))then Res.ok (state.2+(1:Int))else Res.ok (0:Int)).bind fun y11=>Res.ok (y10,y11)
def qh (tablet:Tx×Tx×Int) (state:Int×Int) (turn:Tx):Res (Int×Int):=vD lh tablet state turn
@[irreducible] def vE (tablet:Tx×Tx×Int) (twist:Int):Res (Tx×Tx×Int):=((if(decide (tablet.1=([83]:Tx)))then Res.ok (tablet.2.2+twist)else Res.ok (tablet.2.2- twist)).bind fun y11=>Res.ok (y11% 4)).bind fun y12=>Res.ok (tablet.1,tablet.2.1,y12)
def rA (tablet:Tx×Tx×Int) (twist:Int):Res (Tx×Tx×Int):=vE tablet twist
@[irreducible] def mq (tablet:Tx×Tx×Int):Res Tx:=dM tablet.2.1 (tablet.2.2% 4)
def fF (tablet:Tx×Tx×Int):Res Tx:=mq tablet
@[irreducible] def vF (tablet:Tx×Tx×Int):Res Tx:=dM tablet.2.1 ((tablet.2.2+(2:Int))% 4)
def rB (tablet:Tx×Tx×Int):Res Tx:=vF tablet
@[irreducible] def vG (fF:(Tx×Tx×Int)→Res Tx) (rB:(Tx×Tx×Int)→Res Tx) (lh:(Tx×Tx×Int)→Tx→Res Int) (tablet:Tx×Tx×Int) (turn:Tx):Res (Tx×Tx×Tx):=(fF tablet).bind fun y2=>(rB tablet).bind fun y3=>((lh tablet turn).bind fun y1=>getD ([(1,[115]),((-1),[122]),(0,[111])]:List (Int×Tx)) y1).bind fun y4=>Res.ok (y2,y3,y4)
def rC (tablet:Tx×Tx×Int) (turn:Tx):Res (Tx×Tx×Tx):=vG fF rB lh tablet turn
@[irreducible] def vH (sign:Tx) (left:Tx):Res Bool:=if(decide (left=([63]:Tx)))then Res.ok true else Res.ok (decide (left=sign))
def qi (sign:Tx) (left:Tx):Res Bool:=vH sign left
@[irreducible] def vI (qi:Tx→Tx→Res Bool) (place:Tx×Tx×Tx) (mark:Tx×Tx×Tx):Res Bool:=(dX ([place.1,place.2.1,place.2.2].zip [mark.1,mark.2.1,mark.2.2]) (fun(a1:Tx×Tx)=>qi a1.1 a1.2)).bind fun y12=>Res.ok (y12.all id)
def rD (place:Tx×Tx×Tx) (mark:Tx×Tx×Tx):Res Bool:=vI qi place mark
@[irreducible] def vJ (rD:(Tx×Tx×Tx)→(Tx×Tx×Tx)→Res Bool) (rC:(Tx×Tx×Int)→Tx→Res (Tx×Tx×Tx)) (rA:(Tx×Tx×Int)→Int→Res (Tx×Tx×Int)) (tablet:Tx×Tx×Int) (state:Int×Int) (turn:Tx) (mark:Tx×Tx×Tx):Res Bool:=((rA tablet state.1).bind fun y1=>rC y1 turn).bind fun y2=>rD y2 mark
def pK (tablet:Tx×Tx×Int) (state:Int×Int) (turn:Tx) (mark:Tx×Tx×Tx):Res Bool:=vJ rD rC rA tablet state turn mark
@[irreducible] def vK (qh:(Tx×Tx×Int)→(Int×Int)→Tx→Res (Int×Int)) (k9:(Int×Int)→Int→Int→Res Bool) (pK:(Tx×Tx×Int)→(Int×Int)→Tx→(Tx×Tx×Tx)→Res Bool) (tablet:Tx×Tx×Int) (mark:Tx×Tx×Tx) (loose:Int) (bound:Int) (state:Int×Int):Res (List (Tx×(Int×Int))):=(dX (bd ([102,98,105]:Tx)) (fun(a3:Tx)=>(qh tablet state a3).bind fun y12=>Res.ok (a3,y12))).bind fun y15=>lG y15 (fun(a18:Tx×(Int×Int))=>((k9 a18.2 loose bound).bind fun y31=>if y31 then pK tablet a18.2 a18.1 mark else Res.ok false).bind fun y33=>if y33 then Res.ok (some (a18.1,a18.2))else Res.ok none)
def pL (tablet:Tx×Tx×Int) (mark:Tx×Tx×Tx) (loose:Int) (bound:Int) (state:Int×Int):Res (List (Tx×(Int×Int))):=vK qh k9 pK tablet mark loose bound state
@[irreducible] def vL (pL:(Tx×Tx×Int)→(Tx×Tx×Tx)→Int→Int→(Int×Int)→Res (List (Tx×(Int×Int)))) (tablet:Tx×Tx×Int) (mark:Tx×Tx×Tx) (loose:Int) (bound:Int) (states:List (Int×Int)):Res (List (Int×Int)):=(bC (fun(a6:Int×Int) (s8:List (Int×Int))=>(pL tablet mark loose bound a6).bind fun y36=>bC (fun(a20:Tx×(Int×Int)) (s22:List (Int×Int))=>l5 s22 a20.2) y36 s8) states ([]:List (Int×Int))).bind fun k37=>oZ k37
def kE (tablet:Tx×Tx×Int) (mark:Tx×Tx×Tx) (loose:Int) (bound:Int) (states:List (Int×Int)):Res (List (Int×Int)):=vL pL tablet mark loose bound states
@[irreducible] def so (kE:(Tx×Tx×Int)→(Tx×Tx×Tx)→Int→Int→(List (Int×Int))→Res (List (Int×Int))) (tablet:Tx×Tx×Int) (loose:Int) (bound:Int) (a10:Tx×Tx×Tx) (s11:(List (List (Int×Int)))):Res (Fl (List (List (Int×Int))) (List (List (Int×Int)))):=((ic s11 (-(1:Int))).bind fun y32=>Res.ok y32.isEmpty).bind fun y33=>if y33 then Res.ok (.rt s11)else(((ic s11 (-(1:Int))).bind fun y36=>kE tablet a10 loose bound y36).bind fun y41=>gk s11 y41).bind fun y40=>Res.ok (.nx y40)
@[irreducible] def vM (k9:(Int×Int)→Int→Int→Res Bool) (kE:(Tx×Tx×Int)→(Tx×Tx×Tx)→Int→Int→(List (Int×Int))→Res (List (Int×Int))) (tablet:Tx×Tx×Int) (strip:List (Tx×Tx×Tx)) (loose:Int) (bound:Int):Res (List (List (Int×Int))):=(((k9 (0,0) loose bound).bind fun y3=>if y3 then Res.ok [(0,0)]else Res.ok ([]:List (Int×Int))).bind fun y4=>Res.ok [y4]).bind fun y5=>(dA (so kE tablet loose bound) strip y5).bind (fun | .nx s42=>(Res.ok s42) | .rt r=>Res.ok r | .bk _=>Res.stuck)
def nw (tablet:Tx×Tx×Int) (strip:List (Tx×Tx×Tx)) (loose:Int) (bound:Int):Res (List (List (Int×Int))):=vM k9 kE tablet strip loose bound
@[irreducible] def vN (nw:(Tx×Tx×Int)→(List (Tx×Tx×Tx))→Int→Int→Res (List (List (Int×Int)))) (tablet:Tx×Tx×Int) (strip:List (Tx×Tx×Tx)) (loose:Int) (s15:Int):Res Bool:=((nw tablet strip loose s15).bind fun y27=>ic y27 (-(1:Int))).bind fun y28=>Res.ok y28.isEmpty
@[irreducible] def vO (s15:Int):Res Int:=Res.ok (s15+(1:Int))
@[irreducible] def vP (nw:(Tx×Tx×Int)→(List (Tx×Tx×Tx))→Int→Int→Res (List (List (Int×Int)))) (tablet:Tx×Tx×Int) (strip:List (Tx×Tx×Tx)) (loose:Int):Res (Option Int):=(((nw tablet strip loose (strip.length:Int)).bind fun y1=>ic y1 (-(1:Int))).bind fun y2=>Res.ok y2.isEmpty).bind fun y3=>if y3 then Res.ok (none:Option Int)else(eI (vN nw tablet strip loose) vO cap (0:Int)).bind fun s31=>Res.ok (some s31)
def qj (tablet:Tx×Tx×Int) (strip:List (Tx×Tx×Tx)) (loose:Int):Res (Option Int):=vP nw tablet strip loose
@[irreducible] def dF (mm:(Tx×Tx×Int)→(List (Tx×Tx×Tx))→Int→Int→Tx→Res Bool) (mn:(Tx×Tx×Int)→Tx→Res Int) (y1:(Tx×Tx×Int)×(List (Tx×Tx×Tx))×Int) (a16:Tx) (s17:(Option Int)):Res (Option Int):=((mm y1.1 y1.2.1 y1.2.2 (y1.2.1.length:Int) a16).bind fun y40=>(if y40 then(mn y1.1 a16).bind fun y49=>((if s17.isNone then Res.ok true else(qA s17).bind fun y52=>Res.ok (decide (y49< y52))).bind fun y53=>(if y53 then Res.ok (some y49)else Res.ok s17:Res (Option Int))).bind fun s65=>Res.ok s65 else Res.ok s17:Res (Option Int))).bind fun s75=>Res.ok s75
@[irreducible] def mr (qg:List Int→Int→Res ((Tx×Tx×Int)×(List (Tx×Tx×Tx))×Int)) (rq:Int→Res (List Tx)) (mm:(Tx×Tx×Int)→(List (Tx×Tx×Tx))→Int→Int→Tx→Res Bool) (mn:(Tx×Tx×Int)→Tx→Res Int) (qj:(Tx×Tx×Int)→(List (Tx×Tx×Tx))→Int→Res (Option Int)) (Z0e:List Int):Res Bool:=(qg Z0e (4:Int)).bind fun y1=>((rq (y1.2.1.length:Int)).bind fun y85=>bC (dF mm mn y1) y85 (none:Option Int)).bind fun s86=>(((qj y1.1 y1.2.1 y1.2.2).bind fun y94=>u0 y94 s86).bind fun y95=>Res.ok (!y95)).bind fun y96=>if y96 then Res.ok false else(u0 y1.2.1 y1.2.1).bind fun y104=>if y104 then(qj y1.1 y1.2.1 y1.2.2).bind fun y103=>u0 y103 s86 else Res.ok false
def pM (Z0e:List Int):Res Bool:=mr qg rq mm mn qj Z0e
end
end Mi
namespace Wb
open PySem L2 Mi
def tp (i:Nat):Stmt:=PySem.Challenge.pw_wornband_k36_least_by_all_columns.main.body.getD i (.Pass ⟨0,0,0,0⟩)
end Wb
namespace Wb
open PySem L2 Mi
section
variable {P:Program} {w:World} {K:PySem.W.Frag} {mg:Str→Option Value} {base:Heap}
theorem wg {f:Addr} {fd:FuncData} (F:Fun K "_law_at" "_law_at" (tp 29) f fd) (h_len:mg "len" =none):FnOk P w K mg base CX0 (1) f fd ["_law_script","_law_k"] (bo (isScr K) isI (rs isI) (vb)):=by
 have SC:FnScope ["_law_script","_law_k"] ["_law_script","_law_k"] (defScope (tp 29)):=⟨rfl,rfl,rfl,by decide +kernel,rfl,by decide +kernel,by decide +kernel⟩
 refine F.ok SC (fun vs H Q E h=>?_) (fun cdv A outer s H vs Q E hr h=>?_)
 ·obtain⟨_,_,_,_,_,_,rfl,_⟩:=h;rfl
 ·obtain⟨W0,Z0e,l_k,Z0a,_,rfl,rfl,Z06,z_l_k,Er,hq⟩:=h
  cases z_l_k
  refine⟨_,(ae (br (aA nU (pv 1) (aF (bS (K:=K) rfl) (by rfl) h_len PySem.boot_len (a0 (pv 0) ac)) (aD _)) (af (ar (aH (cz (K:=K) rfl) (pv 0) (pv 1) (fun _ _=>rfl)))) aM)
   (af (ar (ag aL (ag dt (ag bq (ag dt (pv 1) aa) aa) (ag bq (aF (bS (K:=K) rfl) (by rfl) h_len PySem.boot_len (a0 (pv 0) ac)) aa)) aa)))),?_⟩
  have E0:Ext W0 W0:=.refl W0
  rw[show L2.start ["_law_script","_law_k"] [Z0a,.int l_k]=[some Z0a,some (.int l_k)]from rfl]
  unfold vb at hq
  refine dj (Er:=Er) (aG (d9 (a8 (R:=sh isI) (a:=l_k) (v:=.int l_k) rfl) (iB (a8 (R:=sh (isScr K)) Z06)))) (fun W1 e2=>?_)
  have E0:=E0.trans e2
  have Z06:=Mono.mono (R:=(isScr K)) e2.g Z06
  by_cases hb13:(decide (l_k< (Z0e.length:Int)))=true
  ·rw[if_pos hb13]at hq ⊢
   exact aO (Er:=Er) (R:=sh isI) (oN (a8 (R:=sh (isScr K)) Z06) (a8 (R:=sh isI) (a:=l_k) (v:=.int l_k) rfl)) (Res.OkE.imp hq fun y3 hq v4 W5 e6 h7=>hq v4 W5 (E0.trans e6) h7)
  ·rw[if_neg hb13]at hq ⊢
   try dsimp only[aE]
   exact aO (Er:=Er) (R:=sh isI) (aq (fun _=>by decide) (gP (aZ (aq (fun _=>.inr ⟨by decide,by decide⟩) (a8 (R:=sh isI) (a:=l_k) (v:=.int l_k) rfl)) ah) (aZ (iB (a8 (R:=sh (isScr K)) Z06)) ah))) (Res.OkE.imp hq fun y9 hq v10 W11 e12 h13=>hq v10 W11 (E0.trans e12) h13)
theorem wj {f:Addr} {fd:FuncData} (F:Fun K "_law_row" "_law_row" (tp 25) f fd) (h_abs:mg "abs" =none) (h_range:mg "range" =none):FnOk P w K mg base CX0 (1) f fd ["_law_cell","_law_many","_law_base"] (da isI isI isI (ro isI) (vc)):=by
 have SC:FnScope ["_law_cell","_law_many","_law_base","_law_now","_law_far","_law_mix","_law_out","_law_k"] ["_law_cell","_law_many","_law_base"] (defScope (tp 25)):=⟨rfl,rfl,rfl,by decide +kernel,rfl,by decide +kernel,by decide +kernel⟩
 refine F.ok SC (fun vs H Q E h=>?_) (fun cdv A outer s H vs Q E hr h=>?_)
 ·obtain⟨_,_,_,_,_,_,_,_,rfl,_⟩:=h;rfl
 ·obtain⟨W0,Z01,Z08,Z0i,_,_,_,rfl,rfl,Z0M,Z1A,Zbf,Er,hq⟩:=h
  cases Z0M
  cases Z1A
  cases Zbf
  refine⟨_,(ae (ao (i:=3) SC.nd rfl (by first | exact Or.inl rfl | exact Or.inr rfl) (aF fj (by rfl) h_abs PyProof.Rows.boot_abs (a0 (pv 0) ac)))
   (ae (ao (i:=4) SC.nd rfl (by first | exact Or.inl rfl | exact Or.inr rfl) (cy nW (pv 3) (ag sG aa aa) (aD _)))
   (ae (ao (i:=5) SC.nd rfl (by first | exact Or.inl rfl | exact Or.inr rfl) (ag aL (pv 3) aa))
   (ae (ao (i:=6) SC.nd rfl (by first | exact Or.inl rfl | exact Or.inr rfl) (cb ac))
   (ae (ci PassesOwn.never rfl (eP rfl h_range (a0 (pv 1) ac)) (al (i:=7) SC.nd rfl (by first | exact Or.inl rfl | exact Or.inr rfl)) (ae (ao (i:=5) SC.nd rfl (by first | exact Or.inl rfl | exact Or.inr rfl) (ag aL (ag bq (ag bq (ag dt (pv 5) aa) aa) (pv 7)) aa))
   (af (br (PW.pt (dH (cE (pv 4)) (dg (aA nV (pv 3) aa (aD _))))) (ae (eO (cH (K:=K) rfl (pv 6) (a0 (ag aL (pv 3) (pv 2)) ac)))
   (af (ao (i:=3) SC.nd rfl (by first | exact Or.inl rfl | exact Or.inr rfl) (ag bv (pv 3) (pv 2))))) (af (eO (cH (K:=K) rfl (pv 6) (a0 (ag aL (ag aL (ag dt (pv 5) (pv 5)) aa) (pv 2)) ac))))))))
   (af (ar (pv 6)))))))),?_⟩
  have E0:Ext W0 W0:=.refl W0
  rw[show L2.start ["_law_cell","_law_many","_law_base","_law_now","_law_far","_law_mix","_law_out","_law_k"] [.int Z01,.int Z08,.int Z0i]=[some (.int Z01),some (.int Z08),some (.int Z0i),none,none,none,none,none]from rfl]
  unfold vc at hq
  refine am (Er:=Er) (i:=3) (R:=sh isI) (σ':=fun v3=>[some (.int Z01),some (.int Z08),some (.int Z0i),some v3,none,none,none,none]) (j8 (a8 (R:=sh isI) (a:=Z01) (v:=.int Z01) rfl)) (fun v3 W1 e2 h4=>?_)
  cases h4
  have E0:=E0.trans e2
  refine am (Er:=Er) (i:=4) (R:=sh isB) (σ':=fun v7=>[some (.int Z01),some (.int Z08),some (.int Z0i),some (.int (bi Z01)),some v7,none,none,none]) (d9 (a8 (R:=sh isI) (a:=(bi Z01)) (v:=.int (bi Z01)) rfl) (qH (r:=1000000000000000000) (by decide) (by decide))) (fun v7 W5 e6 h8=>?_)
  cases h8
  have E0:=E0.trans e6
  refine am (Er:=Er) (i:=5) (R:=sh isI) (σ':=fun v11=>[some (.int Z01),some (.int Z08),some (.int Z0i),some (.int (bi Z01)),some (.bl (decide ((1000000000000000000:Int)≤bi Z01))),some v11,none,none]) (aq (fun _=>by decide) (a8 (R:=sh isI) (a:=(bi Z01)) (v:=.int (bi Z01)) rfl)) (fun v11 W9 e10 h12=>?_)
  cases h12
  have E0:=E0.trans e10
  refine cY (Er:=Er) (i:=6) (σ':=fun p15=>[some (.int Z01),some (.int Z08),some (.int Z0i),some (.int (bi Z01)),some (.bl (decide ((1000000000000000000:Int)≤bi Z01))),some (.int ((bi Z01)% 2147483647)),some (.ref p15),none]) (eU (R:=isI)) (fun p15 W13 e14 hp16 o17=>?_)
  have fr18:=bj E0.h hp16
  have E0:=E0.trans e14
  refine cB (Er:=Er) (f:=(u4 Z01 Z0i)) (s0:=(((bi Z01)% 2147483647),bi Z01,([]:List Int))) (Iv:=fun(s21:(Int×Int×(List Int))) (W22:Wd) (g23:St)=>∃(d25:Option V),g23=[some (.int Z01),some (.int Z08),some (.int Z0i),some (.int s21.2.1),some (.bl (decide ((1000000000000000000:Int)≤bi Z01))),some (.int s21.1),some (.ref p15),d25]∧Ext W0 W22∧Ow isI W22 p15 s21.2.2) (fu (a8 (R:=sh isI) (a:=Z08) (v:=.int Z08) rfl)) (Res.okE_bind hq) ?_ ?_ ?_
  ·intro W37 e38
   have E0:=E0.trans e38
   have o17:=o17.mono e38
   exact⟨_,rfl,E0,o17⟩
  ·intro Wb26 W27 W28 a19 v29 s20 sg30 P31 hW32 hB33 iv e34 h35 hq
   obtain⟨d25,rfl,E0,o24⟩:=iv
   have E0:=E0.trans e34
   have hB33:=hB33.trans e34.g
   have o24:=o24.mono e34
   cases h35
   refine gn (σ':=[some (.int Z01),some (.int Z08),some (.int Z0i),some (.int s20.2.1),some (.bl (decide ((1000000000000000000:Int)≤bi Z01))),some (.int s20.1),some (.ref p15),some (.int a19)]) ?_
   unfold u4 at hq
   refine am (Er:=Er) (i:=5) (R:=sh isI) (σ':=fun v43=>[some (.int Z01),some (.int Z08),some (.int Z0i),some (.int s20.2.1),some (.bl (decide ((1000000000000000000:Int)≤bi Z01))),some v43,some (.ref p15),some (.int a19)]) (aq (fun _=>by decide) (aZ (aZ (aq (fun _=>.inr ⟨by decide,by decide⟩) (a8 (R:=sh isI) (a:=s20.1) (v:=.int s20.1) rfl)) ah) (a8 (R:=sh isI) (a:=a19) (v:=.int a19) rfl))) (fun v43 W41 e42 h44=>?_)
   cases h44
   have E0:=E0.trans e42
   have hB33:=hB33.trans e42.g
   have o24:=o24.mono e42
   refine fT (Er:=Er) (Iv:=fun(s74:(Int×(List Int))) (W75:Wd) (g76:St)=>g76=[some (.int Z01),some (.int Z08),some (.int Z0i),some (.int s74.1),some (.bl (decide ((1000000000000000000:Int)≤bi Z01))),some (.int ((((s20.1*48271)+(7919:Int))+a19)% 2147483647)),some (.ref p15),some (.int a19)]∧Ext W0 W75∧Ow isI W75 p15 s74.2) (fh (n0 (a8 (R:=sh isB) (a:=(decide ((1000000000000000000:Int)≤bi Z01))) (v:=.bl (decide ((1000000000000000000:Int)≤bi Z01))) rfl)) (aG (d9 (a8 (R:=sh isI) (a:=s20.2.1) (v:=.int s20.2.1) rfl) ah))) (Res.okE_bind hq) ?_ ?_ ?_
   ·intro W46 N49 e47 hN50 hq
    have hs51:=e47.g
    have E0:=E0.trans e47
    have hB33:=hB33.trans e47.g
    have o24:=o24.mono e47
    refine oM (Er:=Er) o24 (j6 (a8 (R:=sh isI) (a:=s20.2.1) (v:=.int s20.2.1) rfl) (a8 (R:=sh isI) (a:=Z0i) (v:=.int Z0i) rfl)) ((Res.okE_bind hq).imp fun y55 hq W52 mu53 o54=>?_)
    have E0:=mu53.e _ E0 fr18
    have hB33:=hB33.trans mu53.g
    have hs51:=hs51.trans mu53.g
    refine cG (Er:=Er) (i:=3) (R:=sh isI) (σ':=fun v60=>[some (.int Z01),some (.int Z08),some (.int Z0i),some v60,some (.bl (decide ((1000000000000000000:Int)≤bi Z01))),some (.int ((((s20.1*48271)+(7919:Int))+a19)% 2147483647)),some (.ref p15),some (.int a19)]) (lJ (a8 (R:=sh isI) (a:=s20.2.1) (v:=.int s20.2.1) rfl) (a8 (R:=sh isI) (a:=Z0i) (v:=.int Z0i) rfl)) ((Res.okE_bind hq).imp fun y59 hq v60 W57 e58 h61=>?_)
    cases h61
    have E0:=E0.trans e58
    have hB33:=hB33.trans e58.g
    have hs51:=hs51.trans e58.g
    have o54:=o54.mono e58
    exact hN50 (y59,y55) W57 _ hs51 ⟨rfl,E0,o54⟩ hq
   ·intro W46 N49 e47 hN50 hq
    have hs62:=e47.g
    have E0:=E0.trans e47
    have hB33:=hB33.trans e47.g
    have o24:=o24.mono e47
    refine fU (Er:=Er) o24 (j6 (aq (fun _=>by decide) (gP (a8 (R:=sh isI) (a:=((((s20.1*48271)+(7919:Int))+a19)% 2147483647)) (v:=.int ((((s20.1*48271)+(7919:Int))+a19)% 2147483647)) rfl) (a8 (R:=sh isI) (a:=((((s20.1*48271)+(7919:Int))+a19)% 2147483647)) (v:=.int ((((s20.1*48271)+(7919:Int))+a19)% 2147483647)) rfl))) (a8 (R:=sh isI) (a:=Z0i) (v:=.int Z0i) rfl)) ((Res.okE_bind hq).imp fun y68 hq W65 mu66 o67=>?_)
    have E0:=mu66.e _ E0 fr18
    have hB33:=hB33.trans mu66.g
    have hs62:=hs62.trans mu66.g
    exact hN50 (s20.2.1,y68) W65 _ hs62 ⟨rfl,E0,o67⟩ hq
   ·intro s70 W71 sg72 hS73 iv hq
    obtain⟨rfl,E0,o77⟩:=iv
    have hB33:=hB33.trans hS73
    try dsimp only
    refine cj (W:=W71) (((((s20.1*48271)+(7919:Int))+a19)% 2147483647),s70.1,s70.2) hB33 ?_ hq
    exact⟨_,rfl,E0,o77⟩
  ·intro s79 W80 sg81 hS82 iv hq
   obtain⟨d25,rfl,E0,o24⟩:=iv
   exact⟨.ref p15,rfl,hq p15 W80 E0 fr18 o24⟩
theorem wk {f:Addr} {fd:FuncData} (F:Fun K "_law_holes" "_law_holes" (tp 26) f fd) {i6:Int→Int→Int→Res (List Int)} (Z0G:Cal P w K mg base "_law_row" ["_law_cell","_law_many","_law_base"] (1) (da isI isI isI (ro isI) i6)):FnOk P w K mg base CX0 (2) f fd ["_law_cell"] (cD isI (rs isS) (vd i6)):=by
 have SC:FnScope ["_law_cell","_law_size","_law_draws","_law_out","_law_d"] ["_law_cell"] (defScope (tp 26)):=⟨rfl,rfl,rfl,by decide +kernel,rfl,by decide +kernel,by decide +kernel⟩
 refine F.ok SC (fun vs H Q E h=>?_) (fun cdv A outer s H vs Q E hr h=>?_)
 ·obtain⟨_,_,_,_,rfl,_⟩:=h;rfl
 ·obtain⟨W0,Z01,_,rfl,rfl,Z0M,Er,hq⟩:=h
  cases Z0M
  refine⟨_,(ae (ao (i:=1) SC.nd rfl (by first | exact Or.inl rfl | exact Or.inr rfl) (aH (cz (K:=K) rfl) (cb (a0 aa (a0 aa (a0 aa (a0 aa (a0 aa ac)))))) (ag aL (pv 0) aa) (fun _ _=>rfl)))
   (ae (ao (i:=2) SC.nd rfl (by first | exact Or.inl rfl | exact Or.inr rfl) (ap Z0G (hr.mono (by decide)) (by rfl) (a0 (ag bv (pv 0) aa) (a0 aa (a0 aa ac)))))
   (ae (ao (i:=3) SC.nd rfl (by first | exact Or.inl rfl | exact Or.inr rfl) aT)
   (ae (ci PassesOwn.never rfl (cA (K:=K) rfl (gE (oo (K:=K) rfl) (pv 2) iQ (iR aa))) (al (i:=4) SC.nd rfl (by first | exact Or.inl rfl | exact Or.inr rfl)) (af (ao (i:=3) SC.nd rfl (by first | exact Or.inl rfl | exact Or.inr rfl) (ag bH (pv 3) (aH bK aT (ag aL (ag bq (aH (cz (K:=K) rfl) (pv 2) aa (fun _ _=>rfl)) (ag dt (ag aL (pv 4) (pv 1)) aa)) aa) (fun _ _=>rfl))))))
   (af (ar (pv 3))))))),?_⟩
  have E0:Ext W0 W0:=.refl W0
  rw[show L2.start ["_law_cell","_law_size","_law_draws","_law_out","_law_d"] [.int Z01]=[some (.int Z01),none,none,none,none]from rfl]
  unfold vd at hq
  refine am (Er:=Er) (i:=1) (R:=sh isI) (σ':=fun v4=>[some (.int Z01),some v4,none,none,none]) (eE (EVo.pk (eH (bn ah (bn ah (bn ah (bn ah (bn ah (eF (R:=isI))))))))) (aq (fun _=>by decide) (a8 (R:=sh isI) (a:=Z01) (v:=.int Z01) rfl))) ((Res.okE_bind hq).imp fun y3 hq v4 W1 e2 h5=>?_)
  cases h5
  have E0:=E0.trans e2
  refine am (Er:=Er) (i:=2) (R:=sh (isL isI)) (σ':=fun v9=>[some (.int Z01),some (.int y3),some v9,none,none]) (EVo.ev (eV (aq (fun _=>⟨by decide,by decide⟩) (a8 (R:=sh isI) (a:=Z01) (v:=.int Z01) rfl)) ah ah)) ((Res.okE_bind hq).imp fun y8 hq v9 W6 e7 h10=>?_)
  have E0:=E0.trans e7
  refine am (Er:=Er) (i:=3) (R:=sh isS) (σ':=fun v13=>[some (.int Z01),some (.int y3),some v9,some v13,none]) (aV (x:=Str.ofString "") (l:=[]) (eS _ _ (by decide +kernel))) (fun v13 W11 e12 h14=>?_)
  cases h14
  have E0:=E0.trans e12
  have h10:=Mono.mono (R:=(isL isI)) e12.g h10
  refine cB (Er:=Er) (f:=(u5 y3 y8)) (s0:=([]:Tx)) (Iv:=fun(s17:Tx) (W18:Wd) (g19:St)=>∃(d20:Option V),g19=[some (.int Z01),some (.int y3),some v9,some (.str (aj s17)),d20]∧Ext W0 W18) (cV (EVo.ev (qE (EV.pk (a8 (R:=sh (isL isI)) h10)) oE (oF ah)))) (Res.okE_bind hq) ?_ ?_ ?_
  ·intro W32 e33
   have E0:=E0.trans e33
   have h10:=Mono.mono (R:=(isL isI)) e33.g h10
   exact⟨_,rfl,E0⟩
  ·intro Wb21 W22 W23 a15 v24 s16 sg25 P26 hW27 hB28 iv e29 h30 hq
   obtain⟨d20,rfl,E0⟩:=iv
   have h10:=Mono.mono (R:=(isL isI)) hW27 h10
   have E0:=E0.trans e29
   have hB28:=hB28.trans e29.g
   have h10:=Mono.mono (R:=(isL isI)) e29.g h10
   cases h30
   refine gn (σ':=[some (.int Z01),some (.int y3),some v9,some (.str (aj s16)),some (.int a15)]) ?_
   unfold u5 at hq
   refine cG (Er:=Er) (i:=3) (R:=sh isS) (σ':=fun v45=>[some (.int Z01),some (.int y3),some v9,some v45,some (.int a15)]) (cT (a8 (R:=sh isS) (a:=s16) (v:=.str (aj s16)) rfl) (bL (aV (x:=Str.ofString "abcdefghijklmnopqrstuvwxyz") (l:=[97,98,99,100,101,102,103,104,105,106,107,108,109,110,111,112,113,114,115,116,117,118,119,120,121,122]) (eS _ _ (by decide +kernel))) (aq (fun _=>by decide) (aZ (eE (EV.pk (a8 (R:=sh (isL isI)) h10)) ah) (aq (fun _=>.inr ⟨by decide,by decide⟩) (j6 (a8 (R:=sh isI) (a:=a15) (v:=.int a15) rfl) (a8 (R:=sh isI) (a:=y3) (v:=.int y3) rfl))))))) ((Res.okE_bind hq).imp fun y44 hq v45 W36 e37 h46=>?_)
   cases h46
   have E0:=E0.trans e37
   have hB28:=hB28.trans e37.g
   have h10:=Mono.mono (R:=(isL isI)) e37.g h10
   try dsimp only
   refine cj (W:=W36) y44 hB28 ?_ hq
   exact⟨_,rfl,E0⟩
  ·intro s47 W48 sg49 hS50 iv hq
   obtain⟨d20,rfl,E0⟩:=iv
   exact aO (Er:=Er) (R:=sh isS) (a8 (R:=sh isS) (a:=s47) (v:=.str (aj s47)) rfl) (fun v51 W52 e53 h54=>hq v51 W52 (E0.trans e53) h54)
theorem wm {f:Addr} {fd:FuncData} (F:Fun K "_law_card" "_law_card" (tp 27) f fd) {rg:Int→Res Tx} (Z2H:Cal P w K mg base "_law_holes" ["_law_cell"] (2) (cD isI (rs isS) rg)):FnOk P w K mg base CX0 (3) f fd ["_law_cell"] (cD isI (rs (isT3 K isS isS isI)) (ve rg)):=by
 have SC:FnScope ["_law_cell"] ["_law_cell"] (defScope (tp 27)):=⟨rfl,rfl,rfl,by decide +kernel,rfl,by decide +kernel,by decide +kernel⟩
 refine F.ok SC (fun vs H Q E h=>?_) (fun cdv A outer s H vs Q E hr h=>?_)
 ·obtain⟨_,_,_,_,rfl,_⟩:=h;rfl
 ·obtain⟨W0,Z01,_,rfl,rfl,Z0M,Er,hq⟩:=h
  cases Z0M
  refine⟨_,(af (ar (cF (a0 (aH bK aT (ag aL (pv 0) aa) (fun _ _=>rfl)) (a0 (ap Z2H (hr.mono (by decide)) (by rfl) (a0 (ag bv (pv 0) aa) ac)) (a0 (ag aL (ag bv (pv 0) aa) aa) ac)))))),?_⟩
  have E0:Ext W0 W0:=.refl W0
  rw[show L2.start ["_law_cell"] [.int Z01]=[some (.int Z01)]from rfl]
  unfold ve at hq
  exact aO (Er:=Er) (R:=sh (isT3 K isS isS isI)) (cU (K:=K) (bL (aV (x:=Str.ofString "SZ") (l:=[83,90]) (eS _ _ (by decide +kernel))) (aq (fun _=>by decide) (a8 (R:=sh isI) (a:=Z01) (v:=.int Z01) rfl))) (cf (aq (fun _=>⟨by decide,by decide⟩) (a8 (R:=sh isI) (a:=Z01) (v:=.int Z01) rfl))) (aq (fun _=>by decide) (aq (fun _=>⟨by decide,by decide⟩) (a8 (R:=sh isI) (a:=Z01) (v:=.int Z01) rfl)))) (Res.OkE.imp hq fun y3 hq v4 W5 e6 h7=>hq v4 W5 (E0.trans e6) h7)
theorem wn {f:Addr} {fd:FuncData} (F:Fun K "_law_turns" "_law_turns" (tp 28) f fd) {i6:Int→Int→Int→Res (List Int)} (Z0G:Cal P w K mg base "_law_row" ["_law_cell","_law_many","_law_base"] (1) (da isI isI isI (ro isI) i6)):FnOk P w K mg base CX0 (2) f fd ["_law_cell","_law_many"] (bo isI isI (rs isS) (vf i6)):=by
 have SC:FnScope ["_law_cell","_law_many"] ["_law_cell","_law_many"] (defScope (tp 28)):=⟨rfl,rfl,rfl,by decide +kernel,rfl,by decide +kernel,by decide +kernel⟩
 refine F.ok SC (fun vs H Q E h=>?_) (fun cdv A outer s H vs Q E hr h=>?_)
 ·obtain⟨_,_,_,_,_,_,rfl,_⟩:=h;rfl
 ·obtain⟨W0,Z01,Z08,_,_,rfl,rfl,Z0M,Z1A,Er,hq⟩:=h
  cases Z0M
  cases Z1A
  refine⟨_,(ae (br (aA cm (ag aL (pv 0) aa) aa (aD _)) (af (ar (ag kO (aH bK aT (ag aL (ag bv (pv 0) aa) aa) (fun _ _=>rfl)) (pv 1)))) aM)
   (af (ar (gV (K:=K) rfl aT (a0 (eR (N:=["_law_d"]) (cap:=[none]) (jF rfl (by decide +kernel) rfl (by decide +kernel) (by rfl) (by rfl)) rfl (cA (K:=K) rfl (ap Z0G (hr.mono (by decide)) (by rfl) (a0 (ag bv (pv 0) aa) (a0 (pv 1) (a0 aa ac))))) (fun _ _ _ _=>(al (i:=0) (show List.Nodup (["_law_d"]:List Str) by decide +kernel) rfl (by first | exact Or.inl rfl | exact Or.inr rfl))) (fun _ _ _ _=>di) (fun _ _ _ _=>(aH bK aT (pv 0) (fun _ _=>rfl)))) ac))))),?_⟩
  have E0:Ext W0 W0:=.refl W0
  rw[show L2.start ["_law_cell","_law_many"] [.int Z01,.int Z08]=[some (.int Z01),some (.int Z08)]from rfl]
  unfold vf at hq
  refine dj (Er:=Er) (aG (dv (aq (fun _=>by decide) (a8 (R:=sh isI) (a:=Z01) (v:=.int Z01) rfl)) ah)) (fun W1 e2=>?_)
  have E0:=E0.trans e2
  by_cases hb24:(decide ((Z01% 7)=(3:Int)))=true
  ·rw[if_pos hb24]at hq ⊢
   exact aO (Er:=Er) (R:=sh isS) (qC (bL (aV (x:=Str.ofString "fbi") (l:=[102,98,105]) (eS _ _ (by decide +kernel))) (aq (fun _=>by decide) (aq (fun _=>⟨by decide,by decide⟩) (a8 (R:=sh isI) (a:=Z01) (v:=.int Z01) rfl)))) (a8 (R:=sh isI) (a:=Z08) (v:=.int Z08) rfl)) (Res.OkE.imp hq fun y4 hq v5 W6 e7 h8=>hq v5 W6 (E0.trans e7) h8)
  ·rw[if_neg hb24]at hq ⊢
   try dsimp only[aE]
   exact aO (Er:=Er) (R:=sh isS) (j9 (eS _ _ (by decide +kernel)) (EVo.pk (eW (f:=fun(a9:Int)=>dM ([102,98,105]:Tx) a9) (cV (EVo.ev (eV (aq (fun _=>⟨by decide,by decide⟩) (a8 (R:=sh isI) (a:=Z01) (v:=.int Z01) rfl)) (a8 (R:=sh isI) (a:=Z08) (v:=.int Z08) rfl) ah))) fun W11 a9 v10 e12 h13 Q16 k17=>by
    cases h13
    refine gn ?_
    exact⟨by simp[Keep,bt],((bL (aV (x:=Str.ofString "fbi") (l:=[102,98,105]) (eS _ _ (by decide +kernel))) (a8 (R:=sh isI) (a:=a9) (v:=.int a9) rfl)):EV Er _ [some (.int a9)] _ _ _) _ (.refl _) _ k17⟩))) (Res.OkE.imp hq fun y20 hq v21 W22 e23 h24=>hq v21 W22 (E0.trans e23) h24)
theorem wo {f:Addr} {fd:FuncData} (F:Fun K "_law_go" "_law_go" (tp 31) f fd):FnOk P w K mg base CX0 (1) f fd ["_law_turn"] (cD isS (rs isI) (vg)):=by
 have SC:FnScope ["_law_turn"] ["_law_turn"] (defScope (tp 31)):=⟨rfl,rfl,rfl,by decide +kernel,rfl,by decide +kernel,by decide +kernel⟩
 refine F.ok SC (fun vs H Q E h=>?_) (fun cdv A outer s H vs Q E hr h=>?_)
 ·obtain⟨_,_,_,_,rfl,_⟩:=h;rfl
 ·obtain⟨W0,Z0f,_,rfl,rfl,Z2I,Er,hq⟩:=h
  cases Z2I
  refine⟨_,(af (ar (ag gA (dD (K:=K) rfl rfl aT (a0 (pv 0) ac)) aa))),?_⟩
  have E0:Ext W0 W0:=.refl W0
  rw[show L2.start ["_law_turn"] [.str (aj Z0f)]=[some (.str (aj Z0f))]from rfl]
  unfold vg at hq
  exact aO (Er:=Er) (R:=sh isI) (aZ (fq (aV (x:=Str.ofString "bif") (l:=[98,105,102]) (eS _ _ (by decide +kernel))) (a8 (R:=sh isS) (a:=Z0f) (v:=.str (aj Z0f)) rfl)) ah) (Res.OkE.imp hq fun y2 hq v3 W4 e5 h6=>hq v3 W4 (E0.trans e5) h6)
theorem wq {f:Addr} {fd:FuncData} (F:Fun K "_law_behind" "_law_behind" (tp 32) f fd) {kD:Tx→Res Int} (Z1f:Cal P w K mg base "_law_go" ["_law_turn"] (1) (cD isS (rs isI) kD)):FnOk P w K mg base CX0 (2) f fd ["_law_card_here","_law_turn"] (bo (isT3 K isS isS isI) isS (rs (isT3 K isS isS isI)) (vh kD)):=by
 have SC:FnScope ["_law_card_here","_law_turn"] ["_law_card_here","_law_turn"] (defScope (tp 32)):=⟨rfl,rfl,rfl,by decide +kernel,rfl,by decide +kernel,by decide +kernel⟩
 refine F.ok SC (fun vs H Q E h=>?_) (fun cdv A outer s H vs Q E hr h=>?_)
 ·obtain⟨_,_,_,_,_,_,rfl,_⟩:=h;rfl
 ·obtain⟨W0,Z02,Z0f,Z04,_,rfl,rfl,Z00,Z2I,Er,hq⟩:=h
  cases Z2I
  refine⟨_,(af (ar (cF (a0 (aH (aS (K:=K) rfl) (pv 0) aa (fun _ _=>rfl)) (a0 (aH (aS (K:=K) rfl) (pv 0) aa (fun _ _=>rfl)) (a0 (ag aL (ag bq (aH (aS (K:=K) rfl) (pv 0) aa (fun _ _=>rfl)) (ap Z1f (hr.mono (by decide)) (by rfl) (a0 (pv 1) ac))) aa) ac)))))),?_⟩
  have E0:Ext W0 W0:=.refl W0
  rw[show L2.start ["_law_card_here","_law_turn"] [Z04,.str (aj Z0f)]=[some Z04,some (.str (aj Z0f))]from rfl]
  unfold vh at hq
  exact aO (Er:=Er) (R:=sh (isT3 K isS isS isI)) (cU (K:=K) (bh (f:=fun(b:Tx×Tx×Int)=>b.1) kT (a8 (R:=sh (isT3 K isS isS isI)) Z00)) (bh (f:=fun(b:Tx×Tx×Int)=>b.2.1) jK (a8 (R:=sh (isT3 K isS isS isI)) Z00)) (aq (fun _=>by decide) (aZ (bh (f:=fun(b:Tx×Tx×Int)=>b.2.2) j7 (a8 (R:=sh (isT3 K isS isS isI)) Z00)) (cf (a8 (R:=sh isS) (a:=Z0f) (v:=.str (aj Z0f)) rfl))))) (Res.OkE.imp hq fun y4 hq v5 W6 e7 h8=>hq v5 W6 (E0.trans e7) h8)
theorem wr {f:Addr} {fd:FuncData} (F:Fun K "_law_twist" "_law_twist" (tp 33) f fd) {kD:Tx→Res Int} (Z1f:Cal P w K mg base "_law_go" ["_law_turn"] (1) (cD isS (rs isI) kD)):FnOk P w K mg base CX0 (2) f fd ["_law_card_here","_law_turn"] (bo (isT3 K isS isS isI) isS (rs isI) (vi kD)):=by
 have SC:FnScope ["_law_card_here","_law_turn"] ["_law_card_here","_law_turn"] (defScope (tp 33)):=⟨rfl,rfl,rfl,by decide +kernel,rfl,by decide +kernel,by decide +kernel⟩
 refine F.ok SC (fun vs H Q E h=>?_) (fun cdv A outer s H vs Q E hr h=>?_)
 ·obtain⟨_,_,_,_,_,_,rfl,_⟩:=h;rfl
 ·obtain⟨W0,Z02,Z0f,Z04,_,rfl,rfl,Z00,Z2I,Er,hq⟩:=h
  cases Z2I
  refine⟨_,(ae (br (aA cm (aH (aS (K:=K) rfl) (pv 0) aa (fun _ _=>rfl)) aT (aD _)) (af (ar (ap Z1f (hr.mono (by decide)) (by rfl) (a0 (pv 1) ac)))) aM)
   (af (ar (ag gA aa (ap Z1f (hr.mono (by decide)) (by rfl) (a0 (pv 1) ac)))))),?_⟩
  have E0:Ext W0 W0:=.refl W0
  rw[show L2.start ["_law_card_here","_law_turn"] [Z04,.str (aj Z0f)]=[some Z04,some (.str (aj Z0f))]from rfl]
  unfold vi at hq
  refine dj (Er:=Er) (aG (fg (bh (f:=fun(b:Tx×Tx×Int)=>b.1) kT (a8 (R:=sh (isT3 K isS isS isI)) Z00)) (aV (x:=Str.ofString "S") (l:=[83]) (eS _ _ (by decide +kernel))))) (fun W1 e2=>?_)
  have E0:=E0.trans e2
  have Z00:=Mono.mono (R:=(isT3 K isS isS isI)) e2.g Z00
  by_cases hb13:(decide (Z02.1=([83]:Tx)))=true
  ·rw[if_pos hb13]at hq ⊢
   exact aO (Er:=Er) (R:=sh isI) (cf (a8 (R:=sh isS) (a:=Z0f) (v:=.str (aj Z0f)) rfl)) (Res.OkE.imp hq fun y3 hq v4 W5 e6 h7=>hq v4 W5 (E0.trans e6) h7)
  ·rw[if_neg hb13]at hq ⊢
   try dsimp only[aE]
   exact aO (Er:=Er) (R:=sh isI) (aZ ah (cf (a8 (R:=sh isS) (a:=Z0f) (v:=.str (aj Z0f)) rfl))) (Res.OkE.imp hq fun y9 hq v10 W11 e12 h13=>hq v10 W11 (E0.trans e12) h13)
theorem wt {f:Addr} {fd:FuncData} (F:Fun K "_law_places" "_law_places" (tp 34) f fd) {gw:(Tx×Tx×Int)→Tx→Res (Tx×Tx×Int)} {dY:(Tx×Tx×Int)→Tx→Res Int} (Z0O:Cal P w K mg base "_law_behind" ["_law_card_here","_law_turn"] (2) (bo (isT3 K isS isS isI) isS (rs (isT3 K isS isS isI)) gw)) (Z0y:Cal P w K mg base "_law_twist" ["_law_card_here","_law_turn"] (2) (bo (isT3 K isS isS isI) isS (rs isI) dY)):FnOk P w K mg base CX0 (3) f fd ["_law_card_here","_law_turns_here"] (bo (isT3 K isS isS isI) isS (ro (isT3 K isS isS isS)) (vj gw dY)):=by
 have SC:FnScope ["_law_card_here","_law_turns_here","_law_out","_law_turn","_law_slant"] ["_law_card_here","_law_turns_here"] (defScope (tp 34)):=⟨rfl,rfl,rfl,by decide +kernel,rfl,by decide +kernel,by decide +kernel⟩
 refine F.ok SC (fun vs H Q E h=>?_) (fun cdv A outer s H vs Q E hr h=>?_)
 ·obtain⟨_,_,_,_,_,_,rfl,_⟩:=h;rfl
 ·obtain⟨W0,Z02,Z03,Z04,_,rfl,rfl,Z00,Z0q,Er,hq⟩:=h
  cases Z0q
  refine⟨_,(ae (ao (i:=2) SC.nd rfl (by first | exact Or.inl rfl | exact Or.inr rfl) (cb ac))
   (ae (ci PassesOwn.never rfl (fL (pv 1)) (al (i:=3) SC.nd rfl (by first | exact Or.inl rfl | exact Or.inr rfl)) (ae (ao (i:=0) SC.nd rfl (by first | exact Or.inl rfl | exact Or.inr rfl) (ap Z0O (hr.mono (by decide)) (by rfl) (a0 (pv 0) (a0 (pv 3) ac))))
   (ae (ao (i:=4) SC.nd rfl (by first | exact Or.inl rfl | exact Or.inr rfl) (aH bK aT (ag bq (ap Z0y (hr.mono (by decide)) (by rfl) (a0 (pv 0) (a0 (pv 3) ac))) aa) (fun _ _=>rfl)))
   (af (eO (cH (K:=K) rfl (pv 2) (a0 (cF (a0 (aH bK (aH (aS (K:=K) rfl) (pv 0) aa (fun _ _=>rfl)) (aH (aS (K:=K) rfl) (pv 0) aa (fun _ _=>rfl)) (fun _ _=>rfl)) (a0 (aH bK (aH (aS (K:=K) rfl) (pv 0) aa (fun _ _=>rfl)) (ag aL (ag bq (aH (aS (K:=K) rfl) (pv 0) aa (fun _ _=>rfl)) aa) aa) (fun _ _=>rfl)) (a0 (pv 4) ac)))) ac)))))))
   (af (ar (pv 2))))),?_⟩
  have E0:Ext W0 W0:=.refl W0
  rw[show L2.start ["_law_card_here","_law_turns_here","_law_out","_law_turn","_law_slant"] [Z04,.str (aj Z03)]=[some Z04,some (.str (aj Z03)),none,none,none]from rfl]
  unfold vj at hq
  refine cY (Er:=Er) (i:=2) (σ':=fun p3=>[some Z04,some (.str (aj Z03)),some (.ref p3),none,none]) (eU (R:=(isT3 K isS isS isS))) (fun p3 W1 e2 hp4 o5=>?_)
  have fr6:=bj E0.h hp4
  have E0:=E0.trans e2
  have Z00:=Mono.mono (R:=(isT3 K isS isS isI)) e2.g Z00
  refine cB (Er:=Er) (f:=(u6 gw dY)) (s0:=(Z02,([]:List (Tx×Tx×Tx)))) (Iv:=fun(s9:((Tx×Tx×Int)×(List (Tx×Tx×Tx)))) (W10:Wd) (g11:St)=>∃(v12:V) (d15:Option V) (d16:Option V),g11=[some v12,some (.str (aj Z03)),some (.ref p3),d16,d15]∧Ext W0 W10∧(isT3 K isS isS isI) W10.G s9.1 v12∧Ow (isT3 K isS isS isS) W10 p3 s9.2) (fR (a8 (R:=sh isS) (a:=Z03) (v:=.str (aj Z03)) rfl)) (Res.okE_bind hq) ?_ ?_ ?_
  ·intro W28 e29
   have E0:=E0.trans e29
   have Z00:=Mono.mono (R:=(isT3 K isS isS isI)) e29.g Z00
   have o5:=o5.mono e29
   exact⟨_,_,_,rfl,E0,Z00,o5⟩
  ·intro Wb17 W18 W19 a7 v20 s8 sg21 P22 hW23 hB24 iv e25 h26 hq
   obtain⟨v12,d15,d16,rfl,E0,h13,o14⟩:=iv
   have E0:=E0.trans e25
   have hB24:=hB24.trans e25.g
   have o14:=o14.mono e25
   have h13:=Mono.mono (R:=(isT3 K isS isS isI)) e25.g h13
   cases h26
   refine gn (σ':=[some v12,some (.str (aj Z03)),some (.ref p3),some (.str (aj a7)),d15]) ?_
   unfold u6 at hq
   refine am (Er:=Er) (i:=0) (R:=sh (isT3 K isS isS isI)) (σ':=fun v35=>[some v35,some (.str (aj Z03)),some (.ref p3),some (.str (aj a7)),d15]) (aU (a8 (R:=sh (isT3 K isS isS isI)) h13) (a8 (R:=sh isS) (a:=a7) (v:=.str (aj a7)) rfl)) ((Res.okE_bind hq).imp fun y34 hq v35 W32 e33 h36=>?_)
   have E0:=E0.trans e33
   have hB24:=hB24.trans e33.g
   have o14:=o14.mono e33
   refine am (Er:=Er) (i:=4) (R:=sh isS) (σ':=fun v42=>[some v35,some (.str (aj Z03)),some (.ref p3),some (.str (aj a7)),some v42]) (bL (aV (x:=Str.ofString "zos") (l:=[122,111,115]) (eS _ _ (by decide +kernel))) (aZ (aU (a8 (R:=sh (isT3 K isS isS isI)) h36) (a8 (R:=sh isS) (a:=a7) (v:=.str (aj a7)) rfl)) ah)) ((Res.okE_bind hq).imp fun y41 hq v42 W37 e38 h43=>?_)
   cases h43
   have E0:=E0.trans e38
   have hB24:=hB24.trans e38.g
   have o14:=o14.mono e38
   have h36:=Mono.mono (R:=(isT3 K isS isS isI)) e38.g h36
   refine fU (Er:=Er) o14 (cU (K:=K) (bL (bh (f:=fun(b:Tx×Tx×Int)=>b.2.1) jK (a8 (R:=sh (isT3 K isS isS isI)) h36)) (bh (f:=fun(b:Tx×Tx×Int)=>b.2.2) j7 (a8 (R:=sh (isT3 K isS isS isI)) h36))) (bL (bh (f:=fun(b:Tx×Tx×Int)=>b.2.1) jK (a8 (R:=sh (isT3 K isS isS isI)) h36)) (aq (fun _=>by decide) (aZ (bh (f:=fun(b:Tx×Tx×Int)=>b.2.2) j7 (a8 (R:=sh (isT3 K isS isS isI)) h36)) ah))) (a8 (R:=sh isS) (a:=y41) (v:=.str (aj y41)) rfl)) ((Res.okE_bind hq).imp fun y49 hq W46 mu47 o48=>?_)
   have E0:=mu47.e _ E0 fr6
   have hB24:=hB24.trans mu47.g
   have h36:=Mono.mono (R:=(isT3 K isS isS isI)) mu47.g h36
   try dsimp only
   refine cj (W:=W46) (y34,y49) hB24 ?_ hq
   exact⟨_,_,_,rfl,E0,h36,o48⟩
  ·intro s51 W52 sg53 hS54 iv hq
   obtain⟨v12,d15,d16,rfl,E0,h13,o14⟩:=iv
   exact⟨.ref p3,rfl,hq p3 W52 E0 fr6 o14⟩
theorem wu {f:Addr} {fd:FuncData} (F:Fun K "_law_marks" "_law_marks" (tp 35) f fd) {i6:Int→Int→Int→Res (List Int)} (Z0G:Cal P w K mg base "_law_row" ["_law_cell","_law_many","_law_base"] (1) (da isI isI isI (ro isI) i6)) (h_int:mg "int" =none) (h_len:mg "len" =none) (h_tuple:mg "tuple" =none) (h_zip:mg "zip" =none):FnOk P w K mg base CX0 (2) f fd ["_law_places_here","_law_cell","_law_lies"] (da (isL (isT3 K isS isS isS)) isI isB (ro (isT3 K isS isS isS)) (vk i6)):=by
 have SC:FnScope ["_law_places_here","_law_cell","_law_lies","_law_out","_law_draws","_law_place","_law_d","_law_mark","_law_letters"] ["_law_places_here","_law_cell","_law_lies"] (defScope (tp 35)):=⟨rfl,rfl,rfl,by decide +kernel,rfl,by decide +kernel,by decide +kernel⟩
 refine F.ok SC (fun vs H Q E h=>?_) (fun cdv A outer s H vs Q E hr h=>?_)
 ·obtain⟨_,_,_,_,_,_,_,_,rfl,_⟩:=h;rfl
 ·obtain⟨W0,Z15,Z01,Z0r,Z0d,_,_,rfl,rfl,Z0D,Z0M,Zbh,Er,hq⟩:=h
  cases Z0M
  cases Zbh
  refine⟨_,(ae (ao (i:=3) SC.nd rfl (by first | exact Or.inl rfl | exact Or.inr rfl) (cb ac))
   (ae (ao (i:=4) SC.nd rfl (by first | exact Or.inl rfl | exact Or.inr rfl) (ap Z0G (hr.mono (by decide)) (by rfl) (a0 (ag bv (pv 1) aa) (a0 (aF (bS (K:=K) rfl) (by rfl) h_len PySem.boot_len (a0 (pv 0) ac)) (a0 (ag bq aa (ag dt aa (eQ ij (by rfl) h_int PyProof.Rows.boot_int (a0 (pv 2) ac)))) ac)))))
   (ae (ci PassesOwn.never rfl (fk (K:=K) rfl rfl h_zip (a0 (pv 0) (a0 (pv 4) ac))) (ca (K:=K) (n:=2) rfl rfl (au (al (i:=5) SC.nd rfl (by first | exact Or.inl rfl | exact Or.inr rfl)) (au (al (i:=6) SC.nd rfl (by first | exact Or.inl rfl | exact Or.inr rfl)) bZ))) (ae (br (aA cm (ag aL (pv 1) aa) aa (aD _)) (af (ao (i:=6) SC.nd rfl (by first | exact Or.inl rfl | exact Or.inr rfl) (ag dt (ag bv (pv 6) aa) aa))) aM)
   (ae (br (aA cm (ag aL (pv 1) aa) aa (aD _)) (af (ao (i:=6) SC.nd rfl (by first | exact Or.inl rfl | exact Or.inr rfl) (ag bq (ag dt (ag bv (pv 6) aa) aa) aa))) aM)
   (ae (ao (i:=7) SC.nd rfl (by first | exact Or.inl rfl | exact Or.inr rfl) (cb (a0 (aH (aS (K:=K) rfl) (pv 5) aa (fun _ _=>rfl)) (a0 (aH (aS (K:=K) rfl) (pv 5) aa (fun _ _=>rfl)) (a0 (aH (aS (K:=K) rfl) (pv 5) aa (fun _ _=>rfl)) ac)))))
   (ae (br (PW.pt (dH (aA nW (pv 6) aa (aD _)) (dg (aA nU (ag aL (pv 6) aa) aa (aD _))))) (ae (ao (i:=8) SC.nd rfl (by first | exact Or.inl rfl | exact Or.inr rfl) aT)
   (af (eo (aH bK (pv 8) (ag bq (dD (K:=K) rfl rfl (pv 8) (a0 (aH (cz (K:=K) rfl) (pv 7) (ag aL (pv 6) aa) (fun _ _=>rfl)) ac)) aa) (fun _ _=>rfl)) (nM (pv 7) (ag aL (pv 6) aa) jw)))) aM)
   (ae (br (PW.pt (dH (aA nW (pv 6) aa (aD _)) (dg (aA cm (ag aL (pv 6) aa) aa (aD _))))) (af (eo (aH bK aT (dD (K:=K) rfl rfl aT (a0 (aH (cz (K:=K) rfl) (pv 7) aa (fun _ _=>rfl)) ac)) (fun _ _=>rfl)) (nM (pv 7) aa jw))) aM)
   (af (eO (cH (K:=K) rfl (pv 3) (a0 (eQ (gU (K:=K) rfl) (by rfl) h_tuple PyProof.Rows.boot_tuple (a0 (eR (N:=["_law_sign","_law_part","_law_d"]) (cap:=[none,none,some 6]) (jF rfl (by decide +kernel) rfl (by decide +kernel) (by rfl) (by rfl)) rfl (fk (K:=K) rfl rfl h_zip (a0 (pv 7) (a0 (cb (a0 aa (a0 aa (a0 aa ac)))) ac))) (fun _ _ _ _=>(ca (K:=K) (n:=2) rfl rfl (au (al (i:=0) (show List.Nodup (["_law_sign","_law_part","_law_d"]:List Str) by decide +kernel) rfl (by first | exact Or.inl rfl | exact Or.inr rfl)) (au (al (i:=1) (show List.Nodup (["_law_sign","_law_part","_law_d"]:List Str) by decide +kernel) rfl (by first | exact Or.inl rfl | exact Or.inr rfl)) bZ)))) (fun _ _ _ _=>di) (fun _ _ _ _=>(eg (aA cm (ag aL (ag bv (pv 2) (pv 1)) aa) aa (aD _)) (pv 0) aT))) ac)) ac))))))))))
   (af (ar (pv 3)))))),?_⟩
  have E0:Ext W0 W0:=.refl W0
  rw[show L2.start ["_law_places_here","_law_cell","_law_lies","_law_out","_law_draws","_law_place","_law_d","_law_mark","_law_letters"] [Z0d,.int Z01,.bl Z0r]=[some Z0d,some (.int Z01),some (.bl Z0r),none,none,none,none,none,none]from rfl]
  unfold vk at hq
  refine cY (Er:=Er) (i:=3) (σ':=fun p3=>[some Z0d,some (.int Z01),some (.bl Z0r),some (.ref p3),none,none,none,none,none]) (eU (R:=(isT3 K isS isS isS))) (fun p3 W1 e2 hp4 o5=>?_)
  have fr6:=bj E0.h hp4
  have E0:=E0.trans e2
  have Z0D:=Mono.mono (R:=(isL (isT3 K isS isS isS))) e2.g Z0D
  refine am (Er:=Er) (i:=4) (R:=sh (isL isI)) (σ':=fun v12=>[some Z0d,some (.int Z01),some (.bl Z0r),some (.ref p3),some v12,none,none,none,none]) (EVo.ev (eV (aq (fun _=>⟨by decide,by decide⟩) (a8 (R:=sh isI) (a:=Z01) (v:=.int Z01) rfl)) (ft (EV.pk (a8 (R:=sh (isL (isT3 K isS isS isS))) Z0D))) (aZ ah (gP ah (lO (a8 (R:=sh isB) (a:=Z0r) (v:=.bl Z0r) rfl)))))) ((Res.okE_bind hq).imp fun y11 hq v12 W7 e8 h13=>?_)
  have E0:=E0.trans e8
  have Z0D:=Mono.mono (R:=(isL (isT3 K isS isS isS))) e8.g Z0D
  have o5:=o5.mono e8
  refine cB (Er:=Er) (f:=(u7 Z01)) (s0:=([]:List (Tx×Tx×Tx))) (Iv:=fun(s16:(List (Tx×Tx×Tx))) (W17:Wd) (g18:St)=>∃(d20:Option V) (d21:Option V) (d22:Option V) (d23:Option V),g18=[some Z0d,some (.int Z01),some (.bl Z0r),some (.ref p3),some v12,d23,d20,d21,d22]∧Ext W0 W17∧Ow (isT3 K isS isS isS) W17 p3 s16) (ja (fS (a8 (R:=sh (isL (isT3 K isS isS isS))) Z0D)) (fS (a8 (R:=sh (isL isI)) h13))) (Res.okE_bind hq) ?_ ?_ ?_
  ·intro W35 e36
   have E0:=E0.trans e36
   have o5:=o5.mono e36
   exact⟨_,_,_,_,rfl,E0,o5⟩
  ·intro Wb24 W25 W26 a14 v27 s15 sg28 P29 hW30 hB31 iv e32 h33 hq
   obtain⟨d20,d21,d22,d23,rfl,E0,o19⟩:=iv
   have E0:=E0.trans e32
   have hB31:=hB31.trans e32.g
   have o19:=o19.mono e32
   refine jM (σ':=fun v41 v43=>[some Z0d,some (.int Z01),some (.bl Z0r),some (.ref p3),some v12,some v41,some v43,d21,d22]) h33 fun v41 v43 h42 h44=>?_
   cases h44
   unfold u7 at hq
   refine cM (Er:=Er) (Iv:=fun(s60:Int) (W61:Wd) (g62:St)=>g62=[some Z0d,some (.int Z01),some (.bl Z0r),some (.ref p3),some v12,some v41,some (.int s60),d21,d22]∧Ext W0 W61∧Ow (isT3 K isS isS isS) W61 p3 s15) (aG (dv (aq (fun _=>by decide) (a8 (R:=sh isI) (a:=Z01) (v:=.int Z01) rfl)) ah)) (Res.okE_bind hq) ?_ ?_ ?_
   ·intro W45 N48 e46 hN49 hq
    have hs50:=e46.g
    have E0:=E0.trans e46
    have hB31:=hB31.trans e46.g
    have o19:=o19.mono e46
    have h42:=Mono.mono (R:=(isT3 K isS isS isS)) e46.g h42
    refine cG (Er:=Er) (i:=6) (R:=sh isI) (σ':=fun v53=>[some Z0d,some (.int Z01),some (.bl Z0r),some (.ref p3),some v12,some v41,some v53,d21,d22]) (aq (fun _=>.inr ⟨by decide,by decide⟩) (aq (fun _=>⟨by decide,by decide⟩) (a8 (R:=sh isI) (a:=a14.2) (v:=.int a14.2) rfl))) (fun v53 W51 e52 h54=>?_)
    cases h54
    have E0:=E0.trans e52
    have hB31:=hB31.trans e52.g
    have hs50:=hs50.trans e52.g
    have o19:=o19.mono e52
    have h42:=Mono.mono (R:=(isT3 K isS isS isS)) e52.g h42
    exact hN49 ((a14.2/ 8)*8) W51 _ hs50 ⟨rfl,E0,o19⟩ hq
   ·intro W45 N48 e46 hN49 hq
    have hs55:=e46.g
    have E0:=E0.trans e46
    have hB31:=hB31.trans e46.g
    have o19:=o19.mono e46
    have h42:=Mono.mono (R:=(isT3 K isS isS isS)) e46.g h42
    try dsimp only[aE]
    exact hN49 a14.2 W45 _ hs55 ⟨rfl,E0,o19⟩ hq
   ·intro s56 W57 sg58 hS59 iv hq
    obtain⟨rfl,E0,o63⟩:=iv
    have hB31:=hB31.trans hS59
    have h42:=Mono.mono (R:=(isT3 K isS isS isS)) hS59 h42
    refine cM (Er:=Er) (Iv:=fun(s79:Int) (W80:Wd) (g81:St)=>g81=[some Z0d,some (.int Z01),some (.bl Z0r),some (.ref p3),some v12,some v41,some (.int s79),d21,d22]∧Ext W0 W80∧Ow (isT3 K isS isS isS) W80 p3 s15) (aG (dv (aq (fun _=>by decide) (a8 (R:=sh isI) (a:=Z01) (v:=.int Z01) rfl)) ah)) (Res.okE_bind hq) ?_ ?_ ?_
    ·intro W64 N67 e65 hN68 hq
     have hs69:=e65.g
     have E0:=E0.trans e65
     have hB31:=hB31.trans e65.g
     have o63:=o63.mono e65
     have h42:=Mono.mono (R:=(isT3 K isS isS isS)) e65.g h42
     refine cG (Er:=Er) (i:=6) (R:=sh isI) (σ':=fun v72=>[some Z0d,some (.int Z01),some (.bl Z0r),some (.ref p3),some v12,some v41,some v72,d21,d22]) (aZ (aq (fun _=>.inr ⟨by decide,by decide⟩) (aq (fun _=>⟨by decide,by decide⟩) (a8 (R:=sh isI) (a:=s56) (v:=.int s56) rfl))) ah) (fun v72 W70 e71 h73=>?_)
     cases h73
     have E0:=E0.trans e71
     have hB31:=hB31.trans e71.g
     have hs69:=hs69.trans e71.g
     have o63:=o63.mono e71
     have h42:=Mono.mono (R:=(isT3 K isS isS isS)) e71.g h42
     exact hN68 (((s56/ 8)*8)+(7:Int)) W70 _ hs69 ⟨rfl,E0,o63⟩ hq
    ·intro W64 N67 e65 hN68 hq
     have hs74:=e65.g
     have E0:=E0.trans e65
     have hB31:=hB31.trans e65.g
     have o63:=o63.mono e65
     have h42:=Mono.mono (R:=(isT3 K isS isS isS)) e65.g h42
     try dsimp only[aE]
     exact hN68 s56 W64 _ hs74 ⟨rfl,E0,o63⟩ hq
    ·intro s75 W76 sg77 hS78 iv hq
     obtain⟨rfl,E0,o82⟩:=iv
     have hB31:=hB31.trans hS78
     have h42:=Mono.mono (R:=(isT3 K isS isS isS)) hS78 h42
     refine cY (Er:=Er) (i:=7) (σ':=fun p85=>[some Z0d,some (.int Z01),some (.bl Z0r),some (.ref p3),some v12,some v41,some (.int s75),some (.ref p85),d22]) (eH (bn (bh (f:=fun(b:Tx×Tx×Tx)=>b.1) kT (a8 (R:=sh (isT3 K isS isS isS)) h42)) (bn (bh (f:=fun(b:Tx×Tx×Tx)=>b.2.1) jK (a8 (R:=sh (isT3 K isS isS isS)) h42)) (bn (bh (f:=fun(b:Tx×Tx×Tx)=>b.2.2) j7 (a8 (R:=sh (isT3 K isS isS isS)) h42)) (eF (R:=isS)))))) (fun p85 W83 e84 hp86 o87=>?_)
     have ne88:=o82.ne hp86
     have fr89:=bj E0.h hp86
     have E0:=E0.trans e84
     have hB31:=hB31.trans e84.g
     have o82:=o82.mono e84
     have h42:=Mono.mono (R:=(isT3 K isS isS isS)) e84.g h42
     refine cM (Er:=Er) (Iv:=fun(s114:(List Tx)) (W115:Wd) (g116:St)=>∃(d118:Option V),g116=[some Z0d,some (.int Z01),some (.bl Z0r),some (.ref p3),some v12,some v41,some (.int s75),some (.ref p85),d118]∧Ext W0 W115∧Ow isS W115 p85 s114∧Ow (isT3 K isS isS isS) W115 p3 s15) (fh (aG (d9 (a8 (R:=sh isI) (a:=s75) (v:=.int s75) rfl) ah)) (aG (d9 (aq (fun _=>by decide) (a8 (R:=sh isI) (a:=s75) (v:=.int s75) rfl)) ah))) (Res.okE_bind hq) ?_ ?_ ?_
     ·intro W91 N94 e92 hN95 hq
      have hs96:=e92.g
      have E0:=E0.trans e92
      have hB31:=hB31.trans e92.g
      have o82:=o82.mono e92
      have h42:=Mono.mono (R:=(isT3 K isS isS isS)) e92.g h42
      have o87:=o87.mono e92
      refine am (Er:=Er) (i:=8) (R:=sh isS) (σ':=fun v99=>[some Z0d,some (.int Z01),some (.bl Z0r),some (.ref p3),some v12,some v41,some (.int s75),some (.ref p85),some v99]) (aV (x:=Str.ofString "abcdefghijklmnopqrstuvwxyza") (l:=[97,98,99,100,101,102,103,104,105,106,107,108,109,110,111,112,113,114,115,116,117,118,119,120,121,122,97]) (eS _ _ (by decide +kernel))) (fun v99 W97 e98 h100=>?_)
      cases h100
      have E0:=E0.trans e98
      have hB31:=hB31.trans e98.g
      have hs96:=hs96.trans e98.g
      have o82:=o82.mono e98
      have h42:=Mono.mono (R:=(isT3 K isS isS isS)) e98.g h42
      have o87:=o87.mono e98
      refine lM (Er:=Er) o87 (bL (a8 (R:=sh isS) (a:=([97,98,99,100,101,102,103,104,105,106,107,108,109,110,111,112,113,114,115,116,117,118,119,120,121,122,97]:Tx)) (v:=.str (aj ([97,98,99,100,101,102,103,104,105,106,107,108,109,110,111,112,113,114,115,116,117,118,119,120,121,122,97]:Tx))) rfl) (aZ (fq (a8 (R:=sh isS) (a:=([97,98,99,100,101,102,103,104,105,106,107,108,109,110,111,112,113,114,115,116,117,118,119,120,121,122,97]:Tx)) (v:=.str (aj ([97,98,99,100,101,102,103,104,105,106,107,108,109,110,111,112,113,114,115,116,117,118,119,120,121,122,97]:Tx))) rfl) (eE (eT o87) (aq (fun _=>by decide) (a8 (R:=sh isI) (a:=s75) (v:=.int s75) rfl)))) ah)) (aq (fun _=>by decide) (a8 (R:=sh isI) (a:=s75) (v:=.int s75) rfl)) ((Res.okE_bind hq).imp fun y108 hq W104 mu105 o106=>?_)
      have E0:=mu105.e _ E0 fr89
      have hB31:=hB31.trans mu105.g
      have hs96:=hs96.trans mu105.g
      have o82:=mu105.ow ne88 o82
      have h42:=Mono.mono (R:=(isT3 K isS isS isS)) mu105.g h42
      exact hN95 y108 W104 _ hs96 ⟨_,rfl,E0,o106,o82⟩ hq
     ·intro W91 N94 e92 hN95 hq
      have hs109:=e92.g
      have E0:=E0.trans e92
      have hB31:=hB31.trans e92.g
      have o82:=o82.mono e92
      have h42:=Mono.mono (R:=(isT3 K isS isS isS)) e92.g h42
      have o87:=o87.mono e92
      try dsimp only[aE]
      exact hN95 [a14.1.1,a14.1.2.1,a14.1.2.2] W91 _ hs109 ⟨_,rfl,E0,o87,o82⟩ hq
     ·intro s110 W111 sg112 hS113 iv hq
      obtain⟨d118,rfl,E0,o117,o119⟩:=iv
      have hB31:=hB31.trans hS113
      have h42:=Mono.mono (R:=(isT3 K isS isS isS)) hS113 h42
      refine cM (Er:=Er) (Iv:=fun(s139:(List Tx)) (W140:Wd) (g141:St)=>g141=[some Z0d,some (.int Z01),some (.bl Z0r),some (.ref p3),some v12,some v41,some (.int s75),some (.ref p85),d118]∧Ext W0 W140∧Ow isS W140 p85 s139∧Ow (isT3 K isS isS isS) W140 p3 s15) (fh (aG (d9 (a8 (R:=sh isI) (a:=s75) (v:=.int s75) rfl) ah)) (aG (dv (aq (fun _=>by decide) (a8 (R:=sh isI) (a:=s75) (v:=.int s75) rfl)) ah))) (Res.okE_bind hq) ?_ ?_ ?_
      ·intro W121 N124 e122 hN125 hq
       have hs126:=e122.g
       have E0:=E0.trans e122
       have hB31:=hB31.trans e122.g
       have o119:=o119.mono e122
       have h42:=Mono.mono (R:=(isT3 K isS isS isS)) e122.g h42
       have o117:=o117.mono e122
       refine lM (Er:=Er) o117 (bL (aV (x:=Str.ofString "zos") (l:=[122,111,115]) (eS _ _ (by decide +kernel))) (fq (aV (x:=Str.ofString "szo") (l:=[115,122,111]) (eS _ _ (by decide +kernel))) (eE (eT o117) ah))) ah ((Res.okE_bind hq).imp fun y133 hq W129 mu130 o131=>?_)
       have E0:=mu130.e _ E0 fr89
       have hB31:=hB31.trans mu130.g
       have hs126:=hs126.trans mu130.g
       have o119:=mu130.ow ne88 o119
       have h42:=Mono.mono (R:=(isT3 K isS isS isS)) mu130.g h42
       exact hN125 y133 W129 _ hs126 ⟨rfl,E0,o131,o119⟩ hq
      ·intro W121 N124 e122 hN125 hq
       have hs134:=e122.g
       have E0:=E0.trans e122
       have hB31:=hB31.trans e122.g
       have o119:=o119.mono e122
       have h42:=Mono.mono (R:=(isT3 K isS isS isS)) e122.g h42
       have o117:=o117.mono e122
       try dsimp only[aE]
       exact hN125 s110 W121 _ hs134 ⟨rfl,E0,o117,o119⟩ hq
      ·intro s135 W136 sg137 hS138 iv hq
       obtain⟨rfl,E0,o142,o143⟩:=iv
       have hB31:=hB31.trans hS138
       have h42:=Mono.mono (R:=(isT3 K isS isS isS)) hS138 h42
       obtain⟨W144,hH145,E0,hS146,h148,hk147⟩:=o142.frz E0 fr89
       rw[←hH145]
       have hB31:=hB31.trans hS146
       have o143:=o143.keep (by rw[hH145]) hS146 (hk147 _ ne88)
       have h42:=Mono.mono (R:=(isT3 K isS isS isS)) hS146 h42
       refine fU (Er:=Er) o143 (oQ (EVo.pk (eW (f:=fun(a149:Tx×Int)=>(((fZ s75 a149.2).bind fun y158=>Res.ok (y158% 2)).bind fun y159=>Res.ok (decide (y159=(1:Int)))).bind fun y160=>if y160 then Res.ok a149.1 else Res.ok ([63]:Tx)) (ja (fS (a8 (R:=sh (isL isS)) h148)) (fS (EVo.ev (eH (bn ah (bn ah (bn ah (eF (R:=isI))))))))) fun W151 a149 v150 e152 h153 Q161 k162=>by
        refine jM h153 fun v154 v156 h155 h157=>?_
        cases h155
        cases h157
        exact⟨by simp[Keep,bt],((jJ (aG (dv (aq (fun _=>by decide) (lJ (a8 (R:=sh isI) (a:=s75) (v:=.int s75) rfl) (a8 (R:=sh isI) (a:=a149.2) (v:=.int a149.2) rfl))) ah)) (a8 (R:=sh isS) (a:=a149.1) (v:=.str (aj a149.1)) rfl) (aV (x:=Str.ofString "?") (l:=[63]) (eS _ _ (by decide +kernel)))):EV Er _ [some (.str (aj a149.1)),some (.int a149.2),some (.int s75)] _ _ _) _ (.refl _) _ k162⟩))) ((Res.okE_bind hq).imp fun y167 hq W164 mu165 o166=>?_)
       have E0:=mu165.e _ E0 fr6
       have hB31:=hB31.trans mu165.g
       have h42:=Mono.mono (R:=(isT3 K isS isS isS)) mu165.g h42
       have h148:=Mono.mono (R:=(isL isS)) mu165.g h148
       try dsimp only
       refine cj (W:=W164) y167 hB31 ?_ hq
       exact⟨_,_,_,_,rfl,E0,o166⟩
  ·intro s169 W170 sg171 hS172 iv hq
   obtain⟨d20,d21,d22,d23,rfl,E0,o19⟩:=iv
   exact⟨.ref p3,rfl,hq p3 W170 E0 fr6 o19⟩
theorem wv {f:Addr} {fd:FuncData} (F:Fun K "_law_turnover" "_law_turnover" (tp 36) f fd):FnOk P w K mg base CX0 (1) f fd ["_law_card_here"] (cD (isT3 K isS isS isI) (rs (isT3 K isS isS isI)) (vm)):=by
 have SC:FnScope ["_law_card_here","_law_holes_here"] ["_law_card_here"] (defScope (tp 36)):=⟨rfl,rfl,rfl,by decide +kernel,rfl,by decide +kernel,by decide +kernel⟩
 refine F.ok SC (fun vs H Q E h=>?_) (fun cdv A outer s H vs Q E hr h=>?_)
 ·obtain⟨_,_,_,_,rfl,_⟩:=h;rfl
 ·obtain⟨W0,Z02,Z04,rfl,rfl,Z00,Er,hq⟩:=h
  refine⟨_,(ae (ao (i:=1) SC.nd rfl (by first | exact Or.inl rfl | exact Or.inr rfl) (aH (aS (K:=K) rfl) (pv 0) aa (fun _ _=>rfl)))
   (af (ar (cF (a0 (aH bK aT (dD (K:=K) rfl rfl aT (a0 (aH (aS (K:=K) rfl) (pv 0) aa (fun _ _=>rfl)) ac)) (fun _ _=>rfl)) (a0 (ag bH (ag bH (ag bH (aH bK (pv 1) aa (fun _ _=>rfl)) (aH bK (pv 1) aa (fun _ _=>rfl))) (aH bK (pv 1) aa (fun _ _=>rfl))) (aH bK (pv 1) aa (fun _ _=>rfl))) (a0 (ag aL (ag gA aa (aH (aS (K:=K) rfl) (pv 0) aa (fun _ _=>rfl))) aa) ac))))))),?_⟩
  have E0:Ext W0 W0:=.refl W0
  rw[show L2.start ["_law_card_here","_law_holes_here"] [Z04]=[some Z04,none]from rfl]
  unfold vm at hq
  refine am (Er:=Er) (i:=1) (R:=sh isS) (σ':=fun v3=>[some Z04,some v3]) (bh (f:=fun(b:Tx×Tx×Int)=>b.2.1) jK (a8 (R:=sh (isT3 K isS isS isI)) Z00)) (fun v3 W1 e2 h4=>?_)
  cases h4
  have E0:=E0.trans e2
  have Z00:=Mono.mono (R:=(isT3 K isS isS isI)) e2.g Z00
  exact aO (Er:=Er) (R:=sh (isT3 K isS isS isI)) (cU (K:=K) (bL (aV (x:=Str.ofString "ZS") (l:=[90,83]) (eS _ _ (by decide +kernel))) (fq (aV (x:=Str.ofString "SZ") (l:=[83,90]) (eS _ _ (by decide +kernel))) (bh (f:=fun(b:Tx×Tx×Int)=>b.1) kT (a8 (R:=sh (isT3 K isS isS isI)) Z00)))) (cT (cT (cT (bL (a8 (R:=sh isS) (a:=Z02.2.1) (v:=.str (aj Z02.2.1)) rfl) ah) (bL (a8 (R:=sh isS) (a:=Z02.2.1) (v:=.str (aj Z02.2.1)) rfl) ah)) (bL (a8 (R:=sh isS) (a:=Z02.2.1) (v:=.str (aj Z02.2.1)) rfl) ah)) (bL (a8 (R:=sh isS) (a:=Z02.2.1) (v:=.str (aj Z02.2.1)) rfl) ah)) (aq (fun _=>by decide) (aZ ah (bh (f:=fun(b:Tx×Tx×Int)=>b.2.2) j7 (a8 (R:=sh (isT3 K isS isS isI)) Z00))))) (Res.OkE.imp hq fun y14 hq v15 W16 e17 h18=>hq v15 W16 (E0.trans e17) h18)
theorem ww {f:Addr} {fd:FuncData} (F:Fun K "_law_back" "_law_back" (tp 37) f fd):FnOk P w K mg base CX0 (1) f fd ["_law_turns_here"] (cD isS (rs isS) (vn)):=by
 have SC:FnScope ["_law_turns_here"] ["_law_turns_here"] (defScope (tp 37)):=⟨rfl,rfl,rfl,by decide +kernel,rfl,by decide +kernel,by decide +kernel⟩
 refine F.ok SC (fun vs H Q E h=>?_) (fun cdv A outer s H vs Q E hr h=>?_)
 ·obtain⟨_,_,_,_,rfl,_⟩:=h;rfl
 ·obtain⟨W0,Z03,_,rfl,rfl,Z0q,Er,hq⟩:=h
  cases Z0q
  refine⟨_,(af (ar (gV (K:=K) rfl aT (a0 (eR (N:=["_law_turn"]) (cap:=[none]) (jF rfl (by decide +kernel) rfl (by decide +kernel) (by rfl) (by rfl)) rfl (fL (pv 0)) (fun _ _ _ _=>(al (i:=0) (show List.Nodup (["_law_turn"]:List Str) by decide +kernel) rfl (by first | exact Or.inl rfl | exact Or.inr rfl))) (fun _ _ _ _=>di) (fun _ _ _ _=>(aH bK aT (dD (K:=K) rfl rfl aT (a0 (pv 0) ac)) (fun _ _=>rfl)))) ac)))),?_⟩
  have E0:Ext W0 W0:=.refl W0
  rw[show L2.start ["_law_turns_here"] [.str (aj Z03)]=[some (.str (aj Z03))]from rfl]
  unfold vn at hq
  exact aO (Er:=Er) (R:=sh isS) (j9 (eS _ _ (by decide +kernel)) (EVo.pk (eW (f:=fun(a1:Tx)=>(fN ([98,105,102]:Tx) a1).bind fun y8=>dM ([102,105,98]:Tx) y8) (fR (a8 (R:=sh isS) (a:=Z03) (v:=.str (aj Z03)) rfl)) fun W3 a1 v2 e4 h5 Q9 k10=>by
   cases h5
   refine gn ?_
   exact⟨by simp[Keep,bt],((bL (aV (x:=Str.ofString "fib") (l:=[102,105,98]) (eS _ _ (by decide +kernel))) (fq (aV (x:=Str.ofString "bif") (l:=[98,105,102]) (eS _ _ (by decide +kernel))) (a8 (R:=sh isS) (a:=a1) (v:=.str (aj a1)) rfl))):EV Er _ [some (.str (aj a1))] _ _ _) _ (.refl _) _ k10⟩))) (Res.OkE.imp hq fun y12 hq v13 W14 e15 h16=>hq v13 W14 (E0.trans e15) h16)
theorem wx {f:Addr} {fd:FuncData} (F:Fun K "_law_roll" "_law_roll" (tp 38) f fd) (h_range:mg "range" =none):FnOk P w K mg base CX0 (1) f fd ["_law_card_here","_law_many"] (bo (isT3 K isS isS isI) isI (rs (isT3 K isS isS isI)) (vo)):=by
 have SC:FnScope ["_law_card_here","_law_many","_law_holes_here"] ["_law_card_here","_law_many"] (defScope (tp 38)):=⟨rfl,rfl,rfl,by decide +kernel,rfl,by decide +kernel,by decide +kernel⟩
 refine F.ok SC (fun vs H Q E h=>?_) (fun cdv A outer s H vs Q E hr h=>?_)
 ·obtain⟨_,_,_,_,_,_,rfl,_⟩:=h;rfl
 ·obtain⟨W0,Z02,Z08,Z04,_,rfl,rfl,Z00,Z1A,Er,hq⟩:=h
  cases Z1A
  refine⟨_,(ae (ao (i:=2) SC.nd rfl (by first | exact Or.inl rfl | exact Or.inr rfl) (gV (K:=K) rfl aT (a0 (eR (N:=["_law_k","_law_card_here","_law_many"]) (cap:=[none,some 0,some 1]) (jF rfl (by decide +kernel) rfl (by decide +kernel) (by rfl) (by rfl)) rfl (eP rfl h_range (a0 aa ac)) (fun _ _ _ _=>(al (i:=0) (show List.Nodup (["_law_k","_law_card_here","_law_many"]:List Str) by decide +kernel) rfl (by first | exact Or.inl rfl | exact Or.inr rfl))) (fun _ _ _ _=>di) (fun _ _ _ _=>(aH bK (aH (aS (K:=K) rfl) (pv 1) aa (fun _ _=>rfl)) (ag aL (ag gA (pv 0) (pv 2)) aa) (fun _ _=>rfl)))) ac)))
   (af (ar (cF (a0 (aH (aS (K:=K) rfl) (pv 0) aa (fun _ _=>rfl)) (a0 (pv 2) (a0 (ag aL (ag bq (aH (aS (K:=K) rfl) (pv 0) aa (fun _ _=>rfl)) (pv 1)) aa) ac))))))),?_⟩
  have E0:Ext W0 W0:=.refl W0
  rw[show L2.start ["_law_card_here","_law_many","_law_holes_here"] [Z04,.int Z08]=[some Z04,some (.int Z08),none]from rfl]
  unfold vo at hq
  refine am (Er:=Er) (i:=2) (R:=sh isS) (σ':=fun v16=>[some Z04,some (.int Z08),some v16]) (j9 (eS _ _ (by decide +kernel)) (EVo.pk (eW (f:=fun(a3:Int)=>dM Z02.2.1 ((a3- Z08)% 4)) (fu ah) fun W5 a3 v4 e6 h7 Q11 k12=>by
   have h8:=MonoW.mono (R:=sh (isT3 K isS isS isI)) e6 Z00
   cases h7
   refine gn ?_
   exact⟨by simp[Keep,bt],((bL (bh (f:=fun(b:Tx×Tx×Int)=>b.2.1) jK (a8 (R:=sh (isT3 K isS isS isI)) h8)) (aq (fun _=>by decide) (aZ (a8 (R:=sh isI) (a:=a3) (v:=.int a3) rfl) (a8 (R:=sh isI) (a:=Z08) (v:=.int Z08) rfl)))):EV Er _ [some (.int a3),some Z04,some (.int Z08)] _ _ _) _ (.refl _) _ k12⟩))) ((Res.okE_bind hq).imp fun y15 hq v16 W1 e2 h17=>?_)
  cases h17
  have E0:=E0.trans e2
  have Z00:=Mono.mono (R:=(isT3 K isS isS isI)) e2.g Z00
  exact aO (Er:=Er) (R:=sh (isT3 K isS isS isI)) (cU (K:=K) (bh (f:=fun(b:Tx×Tx×Int)=>b.1) kT (a8 (R:=sh (isT3 K isS isS isI)) Z00)) (a8 (R:=sh isS) (a:=y15) (v:=.str (aj y15)) rfl) (aq (fun _=>by decide) (aZ (bh (f:=fun(b:Tx×Tx×Int)=>b.2.2) j7 (a8 (R:=sh (isT3 K isS isS isI)) Z00)) (a8 (R:=sh isI) (a:=Z08) (v:=.int Z08) rfl)))) (fun v18 W19 e20 h21=>hq v18 W19 (E0.trans e20) h21)
theorem wy {f:Addr} {fd:FuncData} (F:Fun K "_law_seen" "_law_seen" (tp 39) f fd) {gw:(Tx×Tx×Int)→Tx→Res (Tx×Tx×Int)} (Z0O:Cal P w K mg base "_law_behind" ["_law_card_here","_law_turn"] (2) (bo (isT3 K isS isS isI) isS (rs (isT3 K isS isS isI)) gw)) (h_sorted:mg "sorted" =none):FnOk P w K mg base CX0 (3) f fd ["_law_card_here","_law_turns_here"] (bo (isT3 K isS isS isI) isS (ro isI) (vp gw)):=by
 have SC:FnScope ["_law_card_here","_law_turns_here","_law_out","_law_turn","_law_hole"] ["_law_card_here","_law_turns_here"] (defScope (tp 39)):=⟨rfl,rfl,rfl,by decide +kernel,rfl,by decide +kernel,by decide +kernel⟩
 refine F.ok SC (fun vs H Q E h=>?_) (fun cdv A outer s H vs Q E hr h=>?_)
 ·obtain⟨_,_,_,_,_,_,rfl,_⟩:=h;rfl
 ·obtain⟨W0,Z02,Z03,Z04,_,rfl,rfl,Z00,Z0q,Er,hq⟩:=h
  cases Z0q
  refine⟨_,(ae (ao (i:=2) SC.nd rfl (by first | exact Or.inl rfl | exact Or.inr rfl) (cb ac))
   (ae (ci PassesOwn.never rfl (fL (pv 1)) (al (i:=3) SC.nd rfl (by first | exact Or.inl rfl | exact Or.inr rfl)) (ae (ao (i:=0) SC.nd rfl (by first | exact Or.inl rfl | exact Or.inr rfl) (ap Z0O (hr.mono (by decide)) (by rfl) (a0 (pv 0) (a0 (pv 3) ac))))
   (af (ci PassesOwn.never rfl (cA (K:=K) rfl (cb (a0 (aH (aS (K:=K) rfl) (pv 0) aa (fun _ _=>rfl)) (a0 (ag aL (ag bq (aH (aS (K:=K) rfl) (pv 0) aa (fun _ _=>rfl)) aa) aa) ac)))) (al (i:=4) SC.nd rfl (by first | exact Or.inl rfl | exact Or.inr rfl)) (af (br (aA (f9 (K:=K) rfl) (pv 4) (pv 2) (by with_unfolding_all rfl)) (af (eO (cH (K:=K) rfl (pv 2) (a0 (pv 4) ac)))) aM))))))
   (af (ar (aF (j4 (K:=K) rfl) (by rfl) h_sorted PyProof.Rows.boot_sorted (a0 (pv 2) ac)))))),?_⟩
  have E0:Ext W0 W0:=.refl W0
  rw[show L2.start ["_law_card_here","_law_turns_here","_law_out","_law_turn","_law_hole"] [Z04,.str (aj Z03)]=[some Z04,some (.str (aj Z03)),none,none,none]from rfl]
  unfold vp at hq
  refine cY (Er:=Er) (i:=2) (σ':=fun p3=>[some Z04,some (.str (aj Z03)),some (.ref p3),none,none]) (eU (R:=isI)) (fun p3 W1 e2 hp4 o5=>?_)
  have fr6:=bj E0.h hp4
  have E0:=E0.trans e2
  have Z00:=Mono.mono (R:=(isT3 K isS isS isI)) e2.g Z00
  refine cB (Er:=Er) (f:=(uQ gw)) (s0:=(Z02,([]:List Int))) (Iv:=fun(s9:((Tx×Tx×Int)×(List Int))) (W10:Wd) (g11:St)=>∃(v12:V) (d15:Option V) (d16:Option V),g11=[some v12,some (.str (aj Z03)),some (.ref p3),d16,d15]∧Ext W0 W10∧(isT3 K isS isS isI) W10.G s9.1 v12∧Ow isI W10 p3 s9.2) (fR (a8 (R:=sh isS) (a:=Z03) (v:=.str (aj Z03)) rfl)) (Res.okE_bind hq) ?_ ?_ ?_
  ·intro W28 e29
   have E0:=E0.trans e29
   have Z00:=Mono.mono (R:=(isT3 K isS isS isI)) e29.g Z00
   have o5:=o5.mono e29
   exact⟨_,_,_,rfl,E0,Z00,o5⟩
  ·intro Wb17 W18 W19 a7 v20 s8 sg21 P22 hW23 hB24 iv e25 h26 hq
   obtain⟨v12,d15,d16,rfl,E0,h13,o14⟩:=iv
   have E0:=E0.trans e25
   have hB24:=hB24.trans e25.g
   have o14:=o14.mono e25
   have h13:=Mono.mono (R:=(isT3 K isS isS isI)) e25.g h13
   cases h26
   refine gn (σ':=[some v12,some (.str (aj Z03)),some (.ref p3),some (.str (aj a7)),d15]) ?_
   unfold uQ at hq
   refine am (Er:=Er) (i:=0) (R:=sh (isT3 K isS isS isI)) (σ':=fun v35=>[some v35,some (.str (aj Z03)),some (.ref p3),some (.str (aj a7)),d15]) (aU (a8 (R:=sh (isT3 K isS isS isI)) h13) (a8 (R:=sh isS) (a:=a7) (v:=.str (aj a7)) rfl)) ((Res.okE_bind hq).imp fun y34 hq v35 W32 e33 h36=>?_)
   have E0:=E0.trans e33
   have hB24:=hB24.trans e33.g
   have o14:=o14.mono e33
   refine kW (Er:=Er) (f:=u8) (s0:=s8.2) (Iv:=fun(s39:(List Int)) (W40:Wd) (g41:St)=>∃(d43:Option V),g41=[some v35,some (.str (aj Z03)),some (.ref p3),some (.str (aj a7)),d43]∧Ext W0 W40∧Ow isI W40 p3 s39) (cV (EVo.ev (eH (bn (bh (f:=fun(b:Tx×Tx×Int)=>b.2.2) j7 (a8 (R:=sh (isT3 K isS isS isI)) h36)) (bn (aq (fun _=>by decide) (aZ (bh (f:=fun(b:Tx×Tx×Int)=>b.2.2) j7 (a8 (R:=sh (isT3 K isS isS isI)) h36)) ah)) (eF (R:=isI))))))) (Res.okE_bind hq) ?_ ?_ ?_
   ·intro W55 e56
    have E0:=E0.trans e56
    have hB24:=hB24.trans e56.g
    have o14:=o14.mono e56
    have h36:=Mono.mono (R:=(isT3 K isS isS isI)) e56.g h36
    exact⟨_,rfl,E0,o14⟩
   ·intro Wb44 W45 W46 a37 v47 s38 sg48 P49 hW50 hB51 iv e52 h53 hq
    obtain⟨d43,rfl,E0,o42⟩:=iv
    have hB24:=hB24.trans hW50
    have h36:=Mono.mono (R:=(isT3 K isS isS isI)) hW50 h36
    have E0:=E0.trans e52
    have hB24:=hB24.trans e52.g
    have hB51:=hB51.trans e52.g
    have o42:=o42.mono e52
    have h36:=Mono.mono (R:=(isT3 K isS isS isI)) e52.g h36
    cases h53
    refine gn (σ':=[some v35,some (.str (aj Z03)),some (.ref p3),some (.str (aj a7)),some (.int a37)]) ?_
    unfold u8 at hq
    refine fT (Er:=Er) (Iv:=fun(s74:(List Int)) (W75:Wd) (g76:St)=>g76=[some v35,some (.str (aj Z03)),some (.ref p3),some (.str (aj a7)),some (.int a37)]∧Ext W0 W75∧Ow isI W75 p3 s74) (aG (gT (a8 (R:=sh isI) (a:=a37) (v:=.int a37) rfl) (eT o42))) (Res.okE_bind hq) ?_ ?_ ?_
    ·intro W59 N62 e60 hN63 hq
     have hs64:=e60.g
     have E0:=E0.trans e60
     have hB24:=hB24.trans e60.g
     have hB51:=hB51.trans e60.g
     have o42:=o42.mono e60
     have h36:=Mono.mono (R:=(isT3 K isS isS isI)) e60.g h36
     refine fU (Er:=Er) o42 (a8 (R:=sh isI) (a:=a37) (v:=.int a37) rfl) ((Res.okE_bind hq).imp fun y68 hq W65 mu66 o67=>?_)
     have E0:=mu66.e _ E0 fr6
     have hB24:=hB24.trans mu66.g
     have hB51:=hB51.trans mu66.g
     have hs64:=hs64.trans mu66.g
     have h36:=Mono.mono (R:=(isT3 K isS isS isI)) mu66.g h36
     exact hN63 y68 W65 _ hs64 ⟨rfl,E0,o67⟩ hq
    ·intro W59 N62 e60 hN63 hq
     have hs69:=e60.g
     have E0:=E0.trans e60
     have hB24:=hB24.trans e60.g
     have hB51:=hB51.trans e60.g
     have o42:=o42.mono e60
     have h36:=Mono.mono (R:=(isT3 K isS isS isI)) e60.g h36
     try dsimp only[aE]
     exact hN63 s38 W59 _ hs69 ⟨rfl,E0,o42⟩ hq
    ·intro s70 W71 sg72 hS73 iv hq
     obtain⟨rfl,E0,o77⟩:=iv
     have hB24:=hB24.trans hS73
     have hB51:=hB51.trans hS73
     have h36:=Mono.mono (R:=(isT3 K isS isS isI)) hS73 h36
     try dsimp only
     refine cj (W:=W71) s70 hB51 ?_ hq
     exact⟨_,rfl,E0,o77⟩
   ·intro s78 W79 sg80 hS81 iv hq
    obtain⟨d43,rfl,E0,o42⟩:=iv
    have hB24:=hB24.trans hS81
    have h36:=Mono.mono (R:=(isT3 K isS isS isI)) hS81 h36
    try dsimp only
    refine cj (W:=W79) (y34,s78) hB24 ?_ hq
    exact⟨_,_,_,rfl,E0,h36,o42⟩
  ·intro s82 W83 sg84 hS85 iv hq
   obtain⟨v12,d15,d16,rfl,E0,h13,o14⟩:=iv
   exact jb (Er:=Er) (oS (eT o14)) (Res.OkE.imp hq fun y86 hq p87 W88 e89 hp90 o91=>hq p87 W88 (E0.trans e89) (bj E0.h hp90) o91)
theorem wz {f:Addr} {fd:FuncData} (F:Fun K "_law_kin" "_law_kin" (tp 40) f fd) {rk:(Tx×Tx×Int)→Res (Tx×Tx×Int)} {rl:Tx→Res Tx} {rm:(Tx×Tx×Int)→Int→Res (Tx×Tx×Int)} {rn:(Tx×Tx×Int)→Tx→Res (List Int)} (Z1E:Cal P w K mg base "_law_turnover" ["_law_card_here"] (1) (cD (isT3 K isS isS isI) (rs (isT3 K isS isS isI)) rk)) (Z3n:Cal P w K mg base "_law_back" ["_law_turns_here"] (1) (cD isS (rs isS) rl)) (Z3o:Cal P w K mg base "_law_roll" ["_law_card_here","_law_many"] (1) (bo (isT3 K isS isS isI) isI (rs (isT3 K isS isS isI)) rm)) (Z3p:Cal P w K mg base "_law_seen" ["_law_card_here","_law_turns_here"] (3) (bo (isT3 K isS isS isI) isS (ro isI) rn)) (h_range:mg "range" =none):FnOk P w K mg base CX0 (4) f fd ["_law_card_here","_law_turns_here","_law_cell"] (da (isT3 K isS isS isI) isS isI (rs (isT2 K (isT3 K isS isS isI) isS)) (vq rk rl rm rn)):=by
 have SC:FnScope ["_law_card_here","_law_turns_here","_law_cell","_law_known","_law_hole","_law_colour"] ["_law_card_here","_law_turns_here","_law_cell"] (defScope (tp 40)):=⟨rfl,rfl,rfl,by decide +kernel,rfl,by decide +kernel,by decide +kernel⟩
 refine F.ok SC (fun vs H Q E h=>?_) (fun cdv A outer s H vs Q E hr h=>?_)
 ·obtain⟨_,_,_,_,_,_,_,_,rfl,_⟩:=h;rfl
 ·obtain⟨W0,Z02,Z03,Z01,Z04,_,_,rfl,rfl,Z00,Z0q,Z0M,Er,hq⟩:=h
  cases Z0q
  cases Z0M
  refine⟨_,(ae (br (aA cm (ag aL (pv 2) aa) aa (aD _)) (ae (ao (i:=0) SC.nd rfl (by first | exact Or.inl rfl | exact Or.inr rfl) (ap Z1E (hr.mono (by decide)) (by rfl) (a0 (pv 0) ac)))
   (af (ao (i:=1) SC.nd rfl (by first | exact Or.inl rfl | exact Or.inr rfl) (ap Z3n (hr.mono (by decide)) (by rfl) (a0 (pv 1) ac))))) aM)
   (ae (ao (i:=0) SC.nd rfl (by first | exact Or.inl rfl | exact Or.inr rfl) (ap Z3o (hr.mono (by decide)) (by rfl) (a0 (pv 0) (a0 (ag aL (ag bv (pv 2) aa) aa) ac))))
   (ae (br (aA cm (ag aL (ag bv (pv 2) aa) aa) aa (aD _)) (ae (ao (i:=3) SC.nd rfl (by first | exact Or.inl rfl | exact Or.inr rfl) (ap Z3p (hr.mono (by decide)) (by rfl) (a0 (pv 0) (a0 (pv 1) ac))))
   (af (ci PassesOwn.never rfl (eP rfl h_range (a0 aa ac)) (al (i:=4) SC.nd rfl (by first | exact Or.inl rfl | exact Or.inr rfl)) (af (br (aA (f9 (K:=K) rfl) (pv 4) (pv 3) (by with_unfolding_all rfl)) (ae (ao (i:=5) SC.nd rfl (by first | exact Or.inl rfl | exact Or.inr rfl) (aH bK aT (ag aL (ag bq (ag bv (pv 2) aa) (ag dt aa (pv 4))) aa) (fun _ _=>rfl)))
   (af (ao (i:=0) SC.nd rfl (by first | exact Or.inl rfl | exact Or.inr rfl) (cF (a0 (aH (aS (K:=K) rfl) (pv 0) aa (fun _ _=>rfl)) (a0 (ag bH (ag bH (gE o7 (aH (aS (K:=K) rfl) (pv 0) aa (fun _ _=>rfl)) iQ (iR (pv 4))) (pv 5)) (gE o7 (aH (aS (K:=K) rfl) (pv 0) aa (fun _ _=>rfl)) (iR (ag bq (pv 4) aa)) iQ)) (a0 (aH (aS (K:=K) rfl) (pv 0) aa (fun _ _=>rfl)) ac))))))) aM))))) aM)
   (af (ar (cF (a0 (pv 0) (a0 (pv 1) ac)))))))),?_⟩
  have E0:Ext W0 W0:=.refl W0
  rw[show L2.start ["_law_card_here","_law_turns_here","_law_cell","_law_known","_law_hole","_law_colour"] [Z04,.str (aj Z03),.int Z01]=[some Z04,some (.str (aj Z03)),some (.int Z01),none,none,none]from rfl]
  unfold vq at hq
  refine cM (Er:=Er) (Iv:=fun(s22:((Tx×Tx×Int)×Tx)) (W23:Wd) (g24:St)=>∃(v25:V),g24=[some v25,some (.str (aj s22.2)),some (.int Z01),none,none,none]∧Ext W0 W23∧(isT3 K isS isS isI) W23.G s22.1 v25) (aG (dv (aq (fun _=>by decide) (a8 (R:=sh isI) (a:=Z01) (v:=.int Z01) rfl)) ah)) (Res.okE_bind hq) ?_ ?_ ?_
  ·intro W1 N4 e2 hN5 hq
   have hs6:=e2.g
   have E0:=E0.trans e2
   have Z00:=Mono.mono (R:=(isT3 K isS isS isI)) e2.g Z00
   refine am (Er:=Er) (i:=0) (R:=sh (isT3 K isS isS isI)) (σ':=fun v10=>[some v10,some (.str (aj Z03)),some (.int Z01),none,none,none]) (cf (a8 (R:=sh (isT3 K isS isS isI)) Z00)) ((Res.okE_bind hq).imp fun y9 hq v10 W7 e8 h11=>?_)
   have E0:=E0.trans e8
   have hs6:=hs6.trans e8.g
   refine cG (Er:=Er) (i:=1) (R:=sh isS) (σ':=fun v15=>[some v10,some v15,some (.int Z01),none,none,none]) (cf (a8 (R:=sh isS) (a:=Z03) (v:=.str (aj Z03)) rfl)) ((Res.okE_bind hq).imp fun y14 hq v15 W12 e13 h16=>?_)
   cases h16
   have E0:=E0.trans e13
   have hs6:=hs6.trans e13.g
   have h11:=Mono.mono (R:=(isT3 K isS isS isI)) e13.g h11
   exact hN5 (y9,y14) W12 _ hs6 ⟨_,rfl,E0,h11⟩ hq
  ·intro W1 N4 e2 hN5 hq
   have hs17:=e2.g
   have E0:=E0.trans e2
   have Z00:=Mono.mono (R:=(isT3 K isS isS isI)) e2.g Z00
   try dsimp only[aE]
   exact hN5 (Z02,Z03) W1 _ hs17 ⟨_,rfl,E0,Z00⟩ hq
  ·intro s18 W19 sg20 hS21 iv hq
   obtain⟨v25,rfl,E0,h26⟩:=iv
   refine am (Er:=Er) (i:=0) (R:=sh (isT3 K isS isS isI)) (σ':=fun v30=>[some v30,some (.str (aj s18.2)),some (.int Z01),none,none,none]) (aU (a8 (R:=sh (isT3 K isS isS isI)) h26) (aq (fun _=>by decide) (aq (fun _=>⟨by decide,by decide⟩) (a8 (R:=sh isI) (a:=Z01) (v:=.int Z01) rfl)))) ((Res.okE_bind hq).imp fun y29 hq v30 W27 e28 h31=>?_)
   have E0:=E0.trans e28
   refine cM (Er:=Er) (Iv:=fun(s111:(Tx×Tx×Int)) (W112:Wd) (g113:St)=>∃(v114:V) (d116:Option V) (d117:Option V) (d118:Option V),g113=[some v114,some (.str (aj s18.2)),some (.int Z01),d116,d117,d118]∧Ext W0 W112∧(isT3 K isS isS isI) W112.G s111 v114) (aG (dv (aq (fun _=>by decide) (aq (fun _=>⟨by decide,by decide⟩) (a8 (R:=sh isI) (a:=Z01) (v:=.int Z01) rfl))) ah)) (Res.okE_bind hq) ?_ ?_ ?_
   ·intro W32 N35 e33 hN36 hq
    have hs37:=e33.g
    have E0:=E0.trans e33
    have h31:=Mono.mono (R:=(isT3 K isS isS isI)) e33.g h31
    refine am (Er:=Er) (i:=3) (R:=sh (isL isI)) (σ':=fun v41=>[some v30,some (.str (aj s18.2)),some (.int Z01),some v41,none,none]) (EVo.ev (fQ (a8 (R:=sh (isT3 K isS isS isI)) h31) (a8 (R:=sh isS) (a:=s18.2) (v:=.str (aj s18.2)) rfl))) ((Res.okE_bind hq).imp fun y40 hq v41 W38 e39 h42=>?_)
    have E0:=E0.trans e39
    have hs37:=hs37.trans e39.g
    have h31:=Mono.mono (R:=(isT3 K isS isS isI)) e39.g h31
    refine kW (Er:=Er) (f:=(u9 Z01 y40)) (s0:=y29) (Iv:=fun(s45:(Tx×Tx×Int)) (W46:Wd) (g47:St)=>∃(v48:V) (d50:Option V) (d51:Option V),g47=[some v48,some (.str (aj s18.2)),some (.int Z01),some v41,d51,d50]∧Ext W0 W46∧(isT3 K isS isS isI) W46.G s45 v48) (fu ah) (Res.okE_bind hq) ?_ ?_ ?_
    ·intro W63 e64
     have E0:=E0.trans e64
     have hs37:=hs37.trans e64.g
     have h31:=Mono.mono (R:=(isT3 K isS isS isI)) e64.g h31
     have h42:=Mono.mono (R:=(isL isI)) e64.g h42
     exact⟨_,_,_,rfl,E0,h31⟩
    ·intro Wb52 W53 W54 a43 v55 s44 sg56 P57 hW58 hB59 iv e60 h61 hq
     obtain⟨v48,d50,d51,rfl,E0,h49⟩:=iv
     have hs37:=hs37.trans hW58
     have h42:=Mono.mono (R:=(isL isI)) hW58 h42
     have E0:=E0.trans e60
     have hs37:=hs37.trans e60.g
     have hB59:=hB59.trans e60.g
     have h42:=Mono.mono (R:=(isL isI)) e60.g h42
     have h49:=Mono.mono (R:=(isT3 K isS isS isI)) e60.g h49
     cases h61
     refine gn (σ':=[some v48,some (.str (aj s18.2)),some (.int Z01),some v41,some (.int a43),d50]) ?_
     unfold u9 at hq
     refine fT (Er:=Er) (Iv:=fun(s95:(Tx×Tx×Int)) (W96:Wd) (g97:St)=>∃(v98:V) (d100:Option V),g97=[some v98,some (.str (aj s18.2)),some (.int Z01),some v41,some (.int a43),d100]∧Ext W0 W96∧(isT3 K isS isS isI) W96.G s95 v98) (aG (gT (a8 (R:=sh isI) (a:=a43) (v:=.int a43) rfl) (EV.pk (a8 (R:=sh (isL isI)) h42)))) (Res.okE_bind hq) ?_ ?_ ?_
     ·intro W67 N70 e68 hN71 hq
      have hs72:=e68.g
      have E0:=E0.trans e68
      have hs37:=hs37.trans e68.g
      have hB59:=hB59.trans e68.g
      have h42:=Mono.mono (R:=(isL isI)) e68.g h42
      have h49:=Mono.mono (R:=(isT3 K isS isS isI)) e68.g h49
      refine am (Er:=Er) (i:=5) (R:=sh isS) (σ':=fun v79=>[some v48,some (.str (aj s18.2)),some (.int Z01),some v41,some (.int a43),some v79]) (bL (aV (x:=Str.ofString "abcdefghijklmnopqrstuvwxyz") (l:=[97,98,99,100,101,102,103,104,105,106,107,108,109,110,111,112,113,114,115,116,117,118,119,120,121,122]) (eS _ _ (by decide +kernel))) (aq (fun _=>by decide) (aZ (aq (fun _=>⟨by decide,by decide⟩) (a8 (R:=sh isI) (a:=Z01) (v:=.int Z01) rfl)) (gP ah (a8 (R:=sh isI) (a:=a43) (v:=.int a43) rfl))))) ((Res.okE_bind hq).imp fun y78 hq v79 W73 e74 h80=>?_)
      cases h80
      have E0:=E0.trans e74
      have hs37:=hs37.trans e74.g
      have hB59:=hB59.trans e74.g
      have hs72:=hs72.trans e74.g
      have h42:=Mono.mono (R:=(isL isI)) e74.g h42
      have h49:=Mono.mono (R:=(isT3 K isS isS isI)) e74.g h49
      refine cG (Er:=Er) (i:=0) (R:=sh (isT3 K isS isS isI)) (σ':=fun v88=>[some v88,some (.str (aj s18.2)),some (.int Z01),some v41,some (.int a43),some (.str (aj y78))]) (cU (K:=K) (bh (f:=fun(b:Tx×Tx×Int)=>b.1) kT (a8 (R:=sh (isT3 K isS isS isI)) h49)) (cT (cT (lK (bh (f:=fun(b:Tx×Tx×Int)=>b.2.1) jK (a8 (R:=sh (isT3 K isS isS isI)) h49)) oE (oF (a8 (R:=sh isI) (a:=a43) (v:=.int a43) rfl))) (a8 (R:=sh isS) (a:=y78) (v:=.str (aj y78)) rfl)) (lK (bh (f:=fun(b:Tx×Tx×Int)=>b.2.1) jK (a8 (R:=sh (isT3 K isS isS isI)) h49)) (oF (aZ (a8 (R:=sh isI) (a:=a43) (v:=.int a43) rfl) ah)) oE)) (bh (f:=fun(b:Tx×Tx×Int)=>b.2.2) j7 (a8 (R:=sh (isT3 K isS isS isI)) h49))) ((Res.okE_bind hq).imp fun y87 hq v88 W81 e82 h89=>?_)
      have E0:=E0.trans e82
      have hs37:=hs37.trans e82.g
      have hB59:=hB59.trans e82.g
      have hs72:=hs72.trans e82.g
      have h42:=Mono.mono (R:=(isL isI)) e82.g h42
      exact hN71 y87 W81 _ hs72 ⟨_,_,rfl,E0,h89⟩ hq
     ·intro W67 N70 e68 hN71 hq
      have hs90:=e68.g
      have E0:=E0.trans e68
      have hs37:=hs37.trans e68.g
      have hB59:=hB59.trans e68.g
      have h42:=Mono.mono (R:=(isL isI)) e68.g h42
      have h49:=Mono.mono (R:=(isT3 K isS isS isI)) e68.g h49
      try dsimp only[aE]
      exact hN71 s44 W67 _ hs90 ⟨_,_,rfl,E0,h49⟩ hq
     ·intro s91 W92 sg93 hS94 iv hq
      obtain⟨v98,d100,rfl,E0,h99⟩:=iv
      have hs37:=hs37.trans hS94
      have hB59:=hB59.trans hS94
      have h42:=Mono.mono (R:=(isL isI)) hS94 h42
      try dsimp only
      refine cj (W:=W92) s91 hB59 ?_ hq
      exact⟨_,_,_,rfl,E0,h99⟩
    ·intro s102 W103 sg104 hS105 iv hq
     obtain⟨v48,d50,d51,rfl,E0,h49⟩:=iv
     have hs37:=hs37.trans hS105
     exact hN36 s102 W103 _ hs37 ⟨_,_,_,_,rfl,E0,h49⟩ hq
   ·intro W32 N35 e33 hN36 hq
    have hs106:=e33.g
    have E0:=E0.trans e33
    have h31:=Mono.mono (R:=(isT3 K isS isS isI)) e33.g h31
    try dsimp only[aE]
    exact hN36 y29 W32 _ hs106 ⟨_,_,_,_,rfl,E0,h31⟩ hq
   ·intro s107 W108 sg109 hS110 iv hq
    obtain⟨v114,d116,d117,d118,rfl,E0,h115⟩:=iv
    exact aO (Er:=Er) (R:=sh (isT2 K (isT3 K isS isS isI) isS)) (gl (K:=K) (a8 (R:=sh (isT3 K isS isS isI)) h115) (a8 (R:=sh isS) (a:=s18.2) (v:=.str (aj s18.2)) rfl)) (fun v119 W120 e121 h122=>hq v119 W120 (E0.trans e121) h122)
theorem wA {f:Addr} {fd:FuncData} (F:Fun K "_law_small" "_law_small" (tp 41) f fd) {qf:Int→Res (Tx×Tx×Int)} {jj:List Int→Int→Res Int} {rh:Int→Int→Res Tx} {rj:(List (Tx×Tx×Tx))→Int→Bool→Res (List (Tx×Tx×Tx))} {lg:(Tx×Tx×Int)→Tx→Res (List (Tx×Tx×Tx))} {rp:(Tx×Tx×Int)→Tx→Int→Res ((Tx×Tx×Int)×Tx)} (Z29:Cal P w K mg base "_law_card" ["_law_cell"] (3) (cD isI (rs (isT3 K isS isS isI)) qf)) (Z0Z:Cal P w K mg base "_law_at" ["_law_script","_law_k"] (1) (bo (isScr K) isI (rs isI) jj)) (Z2J:Cal P w K mg base "_law_turns" ["_law_cell","_law_many"] (2) (bo isI isI (rs isS) rh)) (Z2K:Cal P w K mg base "_law_marks" ["_law_places_here","_law_cell","_law_lies"] (2) (da (isL (isT3 K isS isS isS)) isI isB (ro (isT3 K isS isS isS)) rj)) (Z0P:Cal P w K mg base "_law_places" ["_law_card_here","_law_turns_here"] (3) (bo (isT3 K isS isS isI) isS (ro (isT3 K isS isS isS)) lg)) (Z42:Cal P w K mg base "_law_kin" ["_law_card_here","_law_turns_here","_law_cell"] (4) (da (isT3 K isS isS isI) isS isI (rs (isT2 K (isT3 K isS isS isI) isS)) rp)):FnOk P w K mg base CX0 (5) f fd ["_law_script","_law_most"] (bo (isScr K) isI (rs (isT3 K (isT3 K isS isS isI) (isL (isT3 K isS isS isS)) isI)) (vt qf jj rh rj lg rp)):=by
 have SC:FnScope ["_law_script","_law_most","_law_card_here","_law_turns_here","_law_cell","_law_strip","_law_side"] ["_law_script","_law_most"] (defScope (tp 41)):=⟨rfl,rfl,rfl,by decide +kernel,rfl,by decide +kernel,by decide +kernel⟩
 refine F.ok SC (fun vs H Q E h=>?_) (fun cdv A outer s H vs Q E hr h=>?_)
 ·obtain⟨_,_,_,_,_,_,rfl,_⟩:=h;rfl
 ·obtain⟨W0,Z0e,Z0C,Z0a,_,rfl,rfl,Z06,Zbl,Er,hq⟩:=h
  cases Zbl
  refine⟨_,(ae (ao (i:=2) SC.nd rfl (by first | exact Or.inl rfl | exact Or.inr rfl) (ap Z29 (hr.mono (by decide)) (by rfl) (a0 (ap Z0Z (hr.mono (by decide)) (by rfl) (a0 (pv 0) (a0 aa ac))) ac)))
   (ae (ao (i:=3) SC.nd rfl (by first | exact Or.inl rfl | exact Or.inr rfl) (ap Z2J (hr.mono (by decide)) (by rfl) (a0 (ap Z0Z (hr.mono (by decide)) (by rfl) (a0 (pv 0) (a0 aa ac))) (a0 (ag aL (ap Z0Z (hr.mono (by decide)) (by rfl) (a0 (pv 0) (a0 aa ac))) (ag bq (pv 1) aa)) ac))))
   (ae (ao (i:=4) SC.nd rfl (by first | exact Or.inl rfl | exact Or.inr rfl) (ap Z0Z (hr.mono (by decide)) (by rfl) (a0 (pv 0) (a0 aa ac))))
   (ae (ao (i:=5) SC.nd rfl (by first | exact Or.inl rfl | exact Or.inr rfl) (ap Z2K (hr.mono (by decide)) (by rfl) (a0 (ap Z0P (hr.mono (by decide)) (by rfl) (a0 (pv 2) (a0 (pv 3) ac))) (a0 (ag bv (pv 4) aa) (a0 (cy cm (ag aL (pv 4) aa) aa (aD _)) ac)))))
   (ae (ao (i:=6) SC.nd rfl (by first | exact Or.inl rfl | exact Or.inr rfl) (ag bv (ap Z0Z (hr.mono (by decide)) (by rfl) (a0 (pv 0) (a0 aa ac))) aa))
   (ae (br (aA cm (ag aL (pv 6) aa) aa (aD _)) (af (ao (i:=2) SC.nd rfl (by first | exact Or.inl rfl | exact Or.inr rfl) (aH (aS (K:=K) rfl) (ap Z42 (hr.mono (by decide)) (by rfl) (a0 (pv 2) (a0 (pv 3) (a0 (ag bv (pv 6) aa) ac)))) aa (fun _ _=>rfl)))) aM)
   (ae (br (aA cm (ag aL (pv 6) aa) aa (aD _)) (af (ao (i:=2) SC.nd rfl (by first | exact Or.inl rfl | exact Or.inr rfl) (ap Z29 (hr.mono (by decide)) (by rfl) (a0 (ag bv (pv 6) aa) ac)))) aM)
   (af (ar (cF (a0 (pv 2) (a0 (pv 5) (a0 (ag aL (ap Z0Z (hr.mono (by decide)) (by rfl) (a0 (pv 0) (a0 aa ac))) aa) ac))))))))))))),?_⟩
  have E0:Ext W0 W0:=.refl W0
  rw[show L2.start ["_law_script","_law_most","_law_card_here","_law_turns_here","_law_cell","_law_strip","_law_side"] [Z0a,.int Z0C]=[some Z0a,some (.int Z0C),none,none,none,none,none]from rfl]
  unfold vt at hq
  refine am (Er:=Er) (i:=2) (R:=sh (isT3 K isS isS isI)) (σ':=fun v5=>[some Z0a,some (.int Z0C),some v5,none,none,none,none]) (cf (aU (a8 (R:=sh (isScr K)) Z06) ah)) ((Res.okE_bind hq).imp fun y4 hq v5 W1 e2 h6=>?_)
  have E0:=E0.trans e2
  have Z06:=Mono.mono (R:=(isScr K)) e2.g Z06
  refine am (Er:=Er) (i:=3) (R:=sh isS) (σ':=fun v13=>[some Z0a,some (.int Z0C),some v5,some v13,none,none,none]) (aU (aU (a8 (R:=sh (isScr K)) Z06) ah) (j6 (aU (a8 (R:=sh (isScr K)) Z06) ah) (aZ (a8 (R:=sh isI) (a:=Z0C) (v:=.int Z0C) rfl) ah))) ((Res.okE_bind hq).imp fun y12 hq v13 W7 e8 h14=>?_)
  cases h14
  have E0:=E0.trans e8
  have Z06:=Mono.mono (R:=(isScr K)) e8.g Z06
  have h6:=Mono.mono (R:=(isT3 K isS isS isI)) e8.g h6
  refine am (Er:=Er) (i:=4) (R:=sh isI) (σ':=fun v18=>[some Z0a,some (.int Z0C),some v5,some (.str (aj y12)),some v18,none,none]) (aU (a8 (R:=sh (isScr K)) Z06) ah) ((Res.okE_bind hq).imp fun y17 hq v18 W15 e16 h19=>?_)
  cases h19
  have E0:=E0.trans e16
  have Z06:=Mono.mono (R:=(isScr K)) e16.g Z06
  have h6:=Mono.mono (R:=(isT3 K isS isS isI)) e16.g h6
  refine am (Er:=Er) (i:=5) (R:=sh (isL (isT3 K isS isS isS))) (σ':=fun v24=>[some Z0a,some (.int Z0C),some v5,some (.str (aj y12)),some (.int y17),some v24,none]) (EVo.ev (eV (EVo.ev (fQ (a8 (R:=sh (isT3 K isS isS isI)) h6) (a8 (R:=sh isS) (a:=y12) (v:=.str (aj y12)) rfl))) (aq (fun _=>⟨by decide,by decide⟩) (a8 (R:=sh isI) (a:=y17) (v:=.int y17) rfl)) (dv (aq (fun _=>by decide) (a8 (R:=sh isI) (a:=y17) (v:=.int y17) rfl)) ah))) ((Res.okE_bind hq).imp fun y23 hq v24 W20 e21 h25=>?_)
  have E0:=E0.trans e21
  have Z06:=Mono.mono (R:=(isScr K)) e21.g Z06
  have h6:=Mono.mono (R:=(isT3 K isS isS isI)) e21.g h6
  refine am (Er:=Er) (i:=6) (R:=sh isI) (σ':=fun v30=>[some Z0a,some (.int Z0C),some v5,some (.str (aj y12)),some (.int y17),some v24,some v30]) (aq (fun _=>⟨by decide,by decide⟩) (aU (a8 (R:=sh (isScr K)) Z06) ah)) ((Res.okE_bind hq).imp fun y29 hq v30 W26 e27 h31=>?_)
  cases h31
  have E0:=E0.trans e27
  have Z06:=Mono.mono (R:=(isScr K)) e27.g Z06
  have h6:=Mono.mono (R:=(isT3 K isS isS isI)) e27.g h6
  have h25:=Mono.mono (R:=(isL (isT3 K isS isS isS))) e27.g h25
  refine cM (Er:=Er) (Iv:=fun(s49:(Tx×Tx×Int)) (W50:Wd) (g51:St)=>∃(v52:V),g51=[some Z0a,some (.int Z0C),some v52,some (.str (aj y12)),some (.int y17),some v24,some (.int y29)]∧Ext W0 W50∧(isT3 K isS isS isI) W50.G s49 v52) (aG (dv (aq (fun _=>by decide) (a8 (R:=sh isI) (a:=y29) (v:=.int y29) rfl)) ah)) (Res.okE_bind hq) ?_ ?_ ?_
  ·intro W32 N35 e33 hN36 hq
   have hs37:=e33.g
   have E0:=E0.trans e33
   have Z06:=Mono.mono (R:=(isScr K)) e33.g Z06
   have h6:=Mono.mono (R:=(isT3 K isS isS isI)) e33.g h6
   have h25:=Mono.mono (R:=(isL (isT3 K isS isS isS))) e33.g h25
   refine cG (Er:=Er) (i:=2) (R:=sh (isT3 K isS isS isI)) (σ':=fun v42=>[some Z0a,some (.int Z0C),some v42,some (.str (aj y12)),some (.int y17),some v24,some (.int y29)]) (bh (f:=fun(b:(Tx×Tx×Int)×Tx)=>b.1) uF (dB (a8 (R:=sh (isT3 K isS isS isI)) h6) (a8 (R:=sh isS) (a:=y12) (v:=.str (aj y12)) rfl) (aq (fun _=>⟨by decide,by decide⟩) (a8 (R:=sh isI) (a:=y29) (v:=.int y29) rfl)))) ((Res.okE_bind hq).imp fun y41 hq v42 W38 e39 h43=>?_)
   have E0:=E0.trans e39
   have hs37:=hs37.trans e39.g
   have Z06:=Mono.mono (R:=(isScr K)) e39.g Z06
   have h25:=Mono.mono (R:=(isL (isT3 K isS isS isS))) e39.g h25
   exact hN36 y41 W38 _ hs37 ⟨_,rfl,E0,h43⟩ hq
  ·intro W32 N35 e33 hN36 hq
   have hs44:=e33.g
   have E0:=E0.trans e33
   have Z06:=Mono.mono (R:=(isScr K)) e33.g Z06
   have h6:=Mono.mono (R:=(isT3 K isS isS isI)) e33.g h6
   have h25:=Mono.mono (R:=(isL (isT3 K isS isS isS))) e33.g h25
   try dsimp only[aE]
   exact hN36 y4 W32 _ hs44 ⟨_,rfl,E0,h6⟩ hq
  ·intro s45 W46 sg47 hS48 iv hq
   obtain⟨v52,rfl,E0,h53⟩:=iv
   have Z06:=Mono.mono (R:=(isScr K)) hS48 Z06
   have h25:=Mono.mono (R:=(isL (isT3 K isS isS isS))) hS48 h25
   refine cM (Er:=Er) (Iv:=fun(s70:(Tx×Tx×Int)) (W71:Wd) (g72:St)=>∃(v73:V),g72=[some Z0a,some (.int Z0C),some v73,some (.str (aj y12)),some (.int y17),some v24,some (.int y29)]∧Ext W0 W71∧(isT3 K isS isS isI) W71.G s70 v73) (aG (dv (aq (fun _=>by decide) (a8 (R:=sh isI) (a:=y29) (v:=.int y29) rfl)) ah)) (Res.okE_bind hq) ?_ ?_ ?_
   ·intro W54 N57 e55 hN58 hq
    have hs59:=e55.g
    have E0:=E0.trans e55
    have Z06:=Mono.mono (R:=(isScr K)) e55.g Z06
    have h25:=Mono.mono (R:=(isL (isT3 K isS isS isS))) e55.g h25
    have h53:=Mono.mono (R:=(isT3 K isS isS isI)) e55.g h53
    refine cG (Er:=Er) (i:=2) (R:=sh (isT3 K isS isS isI)) (σ':=fun v63=>[some Z0a,some (.int Z0C),some v63,some (.str (aj y12)),some (.int y17),some v24,some (.int y29)]) (cf (aq (fun _=>⟨by decide,by decide⟩) (a8 (R:=sh isI) (a:=y29) (v:=.int y29) rfl))) ((Res.okE_bind hq).imp fun y62 hq v63 W60 e61 h64=>?_)
    have E0:=E0.trans e61
    have hs59:=hs59.trans e61.g
    have Z06:=Mono.mono (R:=(isScr K)) e61.g Z06
    have h25:=Mono.mono (R:=(isL (isT3 K isS isS isS))) e61.g h25
    exact hN58 y62 W60 _ hs59 ⟨_,rfl,E0,h64⟩ hq
   ·intro W54 N57 e55 hN58 hq
    have hs65:=e55.g
    have E0:=E0.trans e55
    have Z06:=Mono.mono (R:=(isScr K)) e55.g Z06
    have h25:=Mono.mono (R:=(isL (isT3 K isS isS isS))) e55.g h25
    have h53:=Mono.mono (R:=(isT3 K isS isS isI)) e55.g h53
    try dsimp only[aE]
    exact hN58 s45 W54 _ hs65 ⟨_,rfl,E0,h53⟩ hq
   ·intro s66 W67 sg68 hS69 iv hq
    obtain⟨v73,rfl,E0,h74⟩:=iv
    have Z06:=Mono.mono (R:=(isScr K)) hS69 Z06
    have h25:=Mono.mono (R:=(isL (isT3 K isS isS isS))) hS69 h25
    exact aO (Er:=Er) (R:=sh (isT3 K (isT3 K isS isS isI) (isL (isT3 K isS isS isS)) isI)) (cU (K:=K) (a8 (R:=sh (isT3 K isS isS isI)) h74) (a8 (R:=sh (isL (isT3 K isS isS isS))) h25) (aq (fun _=>by decide) (aU (a8 (R:=sh (isScr K)) Z06) ah))) (Res.OkE.imp hq fun y77 hq v78 W79 e80 h81=>hq v78 W79 (E0.trans e80) h81)
theorem wB {f:Addr} {fd:FuncData} (F:Fun K "_law_all" "_law_all" (tp 44) f fd) (h_range:mg "range" =none):FnOk P w K mg base CX0 (1) f fd ["_law_many"] (cD isI (rs (isL isS)) (vv)):=by
 have SC:FnScope ["_law_many","_law_out","_law_k","_law_longer","_law_text"] ["_law_many"] (defScope (tp 44)):=⟨rfl,rfl,rfl,by decide +kernel,rfl,by decide +kernel,by decide +kernel⟩
 refine F.ok SC (fun vs H Q E h=>?_) (fun cdv A outer s H vs Q E hr h=>?_)
 ·obtain⟨_,_,_,_,rfl,_⟩:=h;rfl
 ·obtain⟨W0,Z08,_,rfl,rfl,Z1A,Er,hq⟩:=h
  cases Z1A
  refine⟨_,(ae (ao (i:=1) SC.nd rfl (by first | exact Or.inl rfl | exact Or.inr rfl) (cb (a0 aT ac)))
   (ae (ci PassesOwn.never rfl (eP rfl h_range (a0 (pv 0) ac)) (al (i:=2) SC.nd rfl (by first | exact Or.inl rfl | exact Or.inr rfl)) (ae (ao (i:=3) SC.nd rfl (by first | exact Or.inl rfl | exact Or.inr rfl) (cb ac))
   (ae (ci PassesOwn.never rfl (cA (K:=K) rfl (pv 1)) (al (i:=4) SC.nd rfl (by first | exact Or.inl rfl | exact Or.inr rfl)) (af (ao (i:=3) SC.nd rfl (by first | exact Or.inl rfl | exact Or.inr rfl) (ag sL (pv 3) (cb (a0 (ag bH (pv 4) aT) (a0 (ag bH (pv 4) aT) (a0 (ag bH (pv 4) aT) ac))))))))
   (af (ao (i:=1) SC.nd rfl (by first | exact Or.inl rfl | exact Or.inr rfl) (pv 3))))))
   (af (ar (pv 1))))),?_⟩
  have E0:Ext W0 W0:=.refl W0
  rw[show L2.start ["_law_many","_law_out","_law_k","_law_longer","_law_text"] [.int Z08]=[some (.int Z08),none,none,none,none]from rfl]
  unfold vv at hq
  refine am (Er:=Er) (i:=1) (R:=sh (isL isS)) (σ':=fun v3=>[some (.int Z08),some v3,none,none,none]) (EVo.ev (eH (bn (aV (x:=Str.ofString "") (l:=[]) (eS _ _ (by decide +kernel))) (eF (R:=isS))))) (fun v3 W1 e2 h4=>?_)
  have E0:=E0.trans e2
  refine cB (Er:=Er) (f:=ub) (s0:=[([]:Tx)]) (Iv:=fun(s7:(List Tx)) (W8:Wd) (g9:St)=>∃(v10:V) (d12:Option V) (d13:Option V) (d14:Option V),g9=[some (.int Z08),some v10,d14,d12,d13]∧Ext W0 W8∧(isL isS) W8.G s7 v10) (fu (a8 (R:=sh isI) (a:=Z08) (v:=.int Z08) rfl)) (Res.okE_bind hq) ?_ ?_ ?_
  ·intro W26 e27
   have E0:=E0.trans e27
   have h4:=Mono.mono (R:=(isL isS)) e27.g h4
   exact⟨_,_,_,_,rfl,E0,h4⟩
  ·intro Wb15 W16 W17 a5 v18 s6 sg19 P20 hW21 hB22 iv e23 h24 hq
   obtain⟨v10,d12,d13,d14,rfl,E0,h11⟩:=iv
   have E0:=E0.trans e23
   have hB22:=hB22.trans e23.g
   have h11:=Mono.mono (R:=(isL isS)) e23.g h11
   cases h24
   refine gn (σ':=[some (.int Z08),some v10,some (.int a5),d12,d13]) ?_
   unfold ub at hq
   refine am (Er:=Er) (i:=3) (R:=sh (isL isS)) (σ':=fun v32=>[some (.int Z08),some v10,some (.int a5),some v32,d13]) (EVo.ev (eU (R:=isS))) (fun v32 W30 e31 h33=>?_)
   have E0:=E0.trans e31
   have hB22:=hB22.trans e31.g
   have h11:=Mono.mono (R:=(isL isS)) e31.g h11
   refine cB (Er:=Er) (f:=ua) (s0:=([]:List Tx)) (Iv:=fun(s36:(List Tx)) (W37:Wd) (g38:St)=>∃(v39:V) (d41:Option V),g38=[some (.int Z08),some v10,some (.int a5),some v39,d41]∧Ext W0 W37∧(isL isS) W37.G s36 v39) (cV (a8 (R:=sh (isL isS)) h11)) (Res.okE_bind hq) ?_ ?_ ?_
   ·intro W53 e54
    have E0:=E0.trans e54
    have hB22:=hB22.trans e54.g
    have h11:=Mono.mono (R:=(isL isS)) e54.g h11
    have h33:=Mono.mono (R:=(isL isS)) e54.g h33
    exact⟨_,_,rfl,E0,h33⟩
   ·intro Wb42 W43 W44 a34 v45 s35 sg46 P47 hW48 hB49 iv e50 h51 hq
    obtain⟨v39,d41,rfl,E0,h40⟩:=iv
    have hB22:=hB22.trans hW48
    have h11:=Mono.mono (R:=(isL isS)) hW48 h11
    have E0:=E0.trans e50
    have hB22:=hB22.trans e50.g
    have hB49:=hB49.trans e50.g
    have h11:=Mono.mono (R:=(isL isS)) e50.g h11
    have h40:=Mono.mono (R:=(isL isS)) e50.g h40
    cases h51
    refine gn (σ':=[some (.int Z08),some v10,some (.int a5),some v39,some (.str (aj a34))]) ?_
    unfold ua at hq
    refine cG (Er:=Er) (i:=3) (R:=sh (isL isS)) (σ':=fun v66=>[some (.int Z08),some v10,some (.int a5),some v66,some (.str (aj a34))]) (EVo.ev (qD (EV.pk (a8 (R:=sh (isL isS)) h40)) (EVo.pk (eH (bn (cT (a8 (R:=sh isS) (a:=a34) (v:=.str (aj a34)) rfl) (aV (x:=Str.ofString "f") (l:=[102]) (eS _ _ (by decide +kernel)))) (bn (cT (a8 (R:=sh isS) (a:=a34) (v:=.str (aj a34)) rfl) (aV (x:=Str.ofString "b") (l:=[98]) (eS _ _ (by decide +kernel)))) (bn (cT (a8 (R:=sh isS) (a:=a34) (v:=.str (aj a34)) rfl) (aV (x:=Str.ofString "i") (l:=[105]) (eS _ _ (by decide +kernel)))) (eF (R:=isS))))))))) ((Res.okE_bind hq).imp fun y65 hq v66 W57 e58 h67=>?_)
    have E0:=E0.trans e58
    have hB22:=hB22.trans e58.g
    have hB49:=hB49.trans e58.g
    have h11:=Mono.mono (R:=(isL isS)) e58.g h11
    try dsimp only
    refine cj (W:=W57) y65 hB49 ?_ hq
    exact⟨_,_,rfl,E0,h67⟩
   ·intro s68 W69 sg70 hS71 iv hq
    obtain⟨v39,d41,rfl,E0,h40⟩:=iv
    have hB22:=hB22.trans hS71
    have h11:=Mono.mono (R:=(isL isS)) hS71 h11
    refine cG (Er:=Er) (i:=1) (R:=sh (isL isS)) (σ':=fun v74=>[some (.int Z08),some v74,some (.int a5),some v39,d41]) (a8 (R:=sh (isL isS)) h40) (fun v74 W72 e73 h75=>?_)
    have E0:=E0.trans e73
    have hB22:=hB22.trans e73.g
    have h40:=Mono.mono (R:=(isL isS)) e73.g h40
    try dsimp only
    refine cj (W:=W72) s68 hB22 ?_ hq
    exact⟨_,_,_,_,rfl,E0,h75⟩
  ·intro s77 W78 sg79 hS80 iv hq
   obtain⟨v10,d12,d13,d14,rfl,E0,h11⟩:=iv
   exact aO (Er:=Er) (R:=sh (isL isS)) (a8 (R:=sh (isL isS)) h11) (fun v81 W82 e83 h84=>hq v81 W82 (E0.trans e83) h84)
theorem wC {f:Addr} {fd:FuncData} (F:Fun K "_law_does" "_law_does" (tp 42) f fd) {lg:(Tx×Tx×Int)→Tx→Res (List (Tx×Tx×Tx))} {dY:(Tx×Tx×Int)→Tx→Res Int} (Z0P:Cal P w K mg base "_law_places" ["_law_card_here","_law_turns_here"] (3) (bo (isT3 K isS isS isI) isS (ro (isT3 K isS isS isS)) lg)) (Z0y:Cal P w K mg base "_law_twist" ["_law_card_here","_law_turn"] (2) (bo (isT3 K isS isS isI) isS (rs isI) dY)) (h_abs:mg "abs" =none) (h_int:mg "int" =none) (h_len:mg "len" =none) (h_zip:mg "zip" =none):FnOk P w K mg base CX0 (4) f fd ["_law_card_here","_law_strip","_law_loose","_law_bound","_law_text"] (gS (isT3 K isS isS isI) (isL (isT3 K isS isS isS)) isI isI isS (rs isB) (vz lg dY)):=by
 have SC:FnScope ["_law_card_here","_law_strip","_law_loose","_law_bound","_law_text","_law_turn","_law_now","_law_idle","_law_place","_law_mark","_law_sign","_law_left"] ["_law_card_here","_law_strip","_law_loose","_law_bound","_law_text"] (defScope (tp 42)):=⟨rfl,rfl,rfl,by decide +kernel,rfl,by decide +kernel,by decide +kernel⟩
 refine F.ok SC (fun vs H Q E h=>?_) (fun cdv A outer s H vs Q E hr h=>?_)
 ·obtain⟨_,_,_,_,_,_,_,_,_,_,_,_,rfl,_⟩:=h;rfl
 ·obtain⟨W0,Z02,Z3M,Z0m,Z0n,Z0h,Z04,Z0z,_,_,_,rfl,rfl,Z00,Z0g,Zan,Zao,Zbn,Er,hq⟩:=h
  cases Zan
  cases Zao
  cases Zbn
  refine⟨_,(ae (br (aA gC (aF (bS (K:=K) rfl) (by rfl) h_len PySem.boot_len (a0 (pv 4) ac)) (aF (bS (K:=K) rfl) (by rfl) h_len PySem.boot_len (a0 (pv 1) ac)) (aD _)) (af (ar dw)) aM)
   (ae (ci PassesOwn.never rfl (fL (pv 4)) (al (i:=5) SC.nd rfl (by first | exact Or.inl rfl | exact Or.inr rfl)) (af (br (PW.pt (dH (aA gC (pv 5) aT (aD _)) (dH (aA gC (pv 5) aT (aD _)) (dg (aA gC (pv 5) aT (aD _)))))) (af (ar dw)) aM)))
   (ae (ao (i:=6) SC.nd rfl (by first | exact Or.inl rfl | exact Or.inr rfl) aa)
   (ae (ao (i:=7) SC.nd rfl (by first | exact Or.inl rfl | exact Or.inr rfl) aa)
   (ae (ci PassesOwn.never rfl (qz (K:=K) rfl rfl h_zip (a0 (pv 4) (a0 (ap Z0P (hr.mono (by decide)) (by rfl) (a0 (pv 0) (a0 (pv 4) ac))) (a0 (pv 1) ac)))) (ca (K:=K) (n:=3) rfl rfl (au (al (i:=5) SC.nd rfl (by first | exact Or.inl rfl | exact Or.inr rfl)) (au (al (i:=8) SC.nd rfl (by first | exact Or.inl rfl | exact Or.inr rfl)) (au (al (i:=9) SC.nd rfl (by first | exact Or.inl rfl | exact Or.inr rfl)) bZ)))) (ae (ao (i:=6) SC.nd rfl (by first | exact Or.inl rfl | exact Or.inr rfl) (ag bq (pv 6) (ap Z0y (hr.mono (by decide)) (by rfl) (a0 (pv 0) (a0 (pv 5) ac)))))
   (ae (ao (i:=7) SC.nd rfl (by first | exact Or.inl rfl | exact Or.inr rfl) (ag dt (ag bq (pv 7) aa) (eQ ij (by rfl) h_int PyProof.Rows.boot_int (a0 (cy cm (pv 5) aT (aD _)) ac))))
   (ae (br (PW.pt (lw (aA nV (aF fj (by rfl) h_abs PyProof.Rows.boot_abs (a0 (pv 6) ac)) (pv 3) (aD _)) (kF (aA nV (pv 7) (pv 2) (aD _))))) (af (ar dw)) aM)
   (af (ci PassesOwn.never rfl (fk (K:=K) rfl rfl h_zip (a0 (pv 8) (a0 (pv 9) ac))) (ca (K:=K) (n:=2) rfl rfl (au (al (i:=10) SC.nd rfl (by first | exact Or.inl rfl | exact Or.inr rfl)) (au (al (i:=11) SC.nd rfl (by first | exact Or.inl rfl | exact Or.inr rfl)) bZ))) (af (br (PW.pt (dH (aA gC (pv 11) aT (aD _)) (dg (aA gC (pv 11) (pv 10) (aD _))))) (af (ar dw)) aM))))))))
   (af (ar dw))))))),?_⟩
  have E0:Ext W0 W0:=.refl W0
  rw[show L2.start ["_law_card_here","_law_strip","_law_loose","_law_bound","_law_text","_law_turn","_law_now","_law_idle","_law_place","_law_mark","_law_sign","_law_left"] [Z04,Z0z,.int Z0m,.int Z0n,.str (aj Z0h)]=[some Z04,some Z0z,some (.int Z0m),some (.int Z0n),some (.str (aj Z0h)),none,none,none,none,none,none,none]from rfl]
  unfold vz at hq
  refine dj (Er:=Er) (aG (sX (qF (a8 (R:=sh isS) (a:=Z0h) (v:=.str (aj Z0h)) rfl)) (ft (EV.pk (a8 (R:=sh (isL (isT3 K isS isS isS))) Z0g))))) ((Res.okE_bind hq).imp fun y2 hq W3 e4=>?_)
  have E0:=E0.trans e4
  have Z00:=Mono.mono (R:=(isT3 K isS isS isI)) e4.g Z00
  have Z0g:=Mono.mono (R:=(isL (isT3 K isS isS isS))) e4.g Z0g
  by_cases hb150:y2=true
  ·rw[if_pos hb150]at hq ⊢
   exact aO (Er:=Er) (R:=sh isB) ix (fun v5 W6 e7 h8=>hq v5 W6 (E0.trans e7) h8)
  ·rw[if_neg hb150]at hq ⊢
   try dsimp only[aE]
   refine fV (Er:=Er) (f:=vw) (s0:=()) (Iv:=fun(s11:Unit) (W12:Wd) (g13:St)=>∃(d14:Option V),g13=[some Z04,some Z0z,some (.int Z0m),some (.int Z0n),some (.str (aj Z0h)),d14,none,none,none,none,none,none]∧Ext W0 W12) (fR (a8 (R:=sh isS) (a:=Z0h) (v:=.str (aj Z0h)) rfl)) (Res.okE_bind hq) ?_ ?_ ?_
   ·intro W26 e27
    have E0:=E0.trans e27
    have Z00:=Mono.mono (R:=(isT3 K isS isS isI)) e27.g Z00
    have Z0g:=Mono.mono (R:=(isL (isT3 K isS isS isS))) e27.g Z0g
    exact⟨_,rfl,E0⟩
   ·intro Wb15 W16 W17 a9 v18 s10 sg19 P20 hW21 hB22 iv e23 h24 hrt25 hq
    obtain⟨d14,rfl,E0⟩:=iv
    have Z00:=Mono.mono (R:=(isT3 K isS isS isI)) hW21 Z00
    have Z0g:=Mono.mono (R:=(isL (isT3 K isS isS isS))) hW21 Z0g
    have E0:=E0.trans e23
    have hB22:=hB22.trans e23.g
    have Z00:=Mono.mono (R:=(isT3 K isS isS isI)) e23.g Z00
    have Z0g:=Mono.mono (R:=(isL (isT3 K isS isS isS))) e23.g Z0g
    cases h24
    refine gn (σ':=[some Z04,some Z0z,some (.int Z0m),some (.int Z0n),some (.str (aj Z0h)),some (.str (aj a9)),none,none,none,none,none,none]) ?_
    unfold vw at hq
    refine si (Er:=Er) (fh (aG (gR (a8 (R:=sh isS) (a:=a9) (v:=.str (aj a9)) rfl) (aV (x:=Str.ofString "f") (l:=[102]) (eS _ _ (by decide +kernel))))) (fh (aG (gR (a8 (R:=sh isS) (a:=a9) (v:=.str (aj a9)) rfl) (aV (x:=Str.ofString "b") (l:=[98]) (eS _ _ (by decide +kernel))))) (aG (gR (a8 (R:=sh isS) (a:=a9) (v:=.str (aj a9)) rfl) (aV (x:=Str.ofString "i") (l:=[105]) (eS _ _ (by decide +kernel))))))) ((Res.okE_bind hq).imp fun y30 hq W31 e32=>?_)
    have E0:=E0.trans e32
    have hB22:=hB22.trans e32.g
    have Z00:=Mono.mono (R:=(isT3 K isS isS isI)) e32.g Z00
    have Z0g:=Mono.mono (R:=(isL (isT3 K isS isS isS))) e32.g Z0g
    by_cases hb36:y30=true
    ·rw[if_pos hb36]at hq ⊢
     exact aO (Er:=Er) (R:=sh isB) ix (fun v33 W34 e35 h36=>(hrt25 _ hq) v33 W34 (E0.trans e35) h36)
    ·rw[if_neg hb36]at hq ⊢
     try dsimp only[aE]
     try dsimp only
     refine cj (W:=W31) () hB22 ?_ hq
     exact⟨_,rfl,E0⟩
   ·intro s37 W38 sg39 hS40 iv hq
    obtain⟨d14,rfl,E0⟩:=iv
    have Z00:=Mono.mono (R:=(isT3 K isS isS isI)) hS40 Z00
    have Z0g:=Mono.mono (R:=(isL (isT3 K isS isS isS))) hS40 Z0g
    refine am (Er:=Er) (i:=6) (R:=sh isI) (σ':=fun v43=>[some Z04,some Z0z,some (.int Z0m),some (.int Z0n),some (.str (aj Z0h)),d14,some v43,none,none,none,none,none]) ah (fun v43 W41 e42 h44=>?_)
    cases h44
    have E0:=E0.trans e42
    have Z00:=Mono.mono (R:=(isT3 K isS isS isI)) e42.g Z00
    have Z0g:=Mono.mono (R:=(isL (isT3 K isS isS isS))) e42.g Z0g
    refine am (Er:=Er) (i:=7) (R:=sh isI) (σ':=fun v47=>[some Z04,some Z0z,some (.int Z0m),some (.int Z0n),some (.str (aj Z0h)),d14,some (.int (0:Int)),some v47,none,none,none,none]) ah (fun v47 W45 e46 h48=>?_)
    cases h48
    have E0:=E0.trans e46
    have Z00:=Mono.mono (R:=(isT3 K isS isS isI)) e46.g Z00
    have Z0g:=Mono.mono (R:=(isL (isT3 K isS isS isS))) e46.g Z0g
    refine fV (Er:=Er) (f:=(uc dY Z02 Z0m Z0n)) (s0:=((0:Int),(0:Int))) (Iv:=fun(s52:(Int×Int)) (W53:Wd) (g54:St)=>∃(d55:Option V) (d56:Option V) (d57:Option V) (d58:Option V) (d59:Option V),g54=[some Z04,some Z0z,some (.int Z0m),some (.int Z0n),some (.str (aj Z0h)),d57,some (.int s52.1),some (.int s52.2),d58,d59,d55,d56]∧Ext W0 W53) (qJ (t0 (a8 (R:=sh isS) (a:=Z0h) (v:=.str (aj Z0h)) rfl)) (fS (EVo.ev (fQ (a8 (R:=sh (isT3 K isS isS isI)) Z00) (a8 (R:=sh isS) (a:=Z0h) (v:=.str (aj Z0h)) rfl)))) (fS (a8 (R:=sh (isL (isT3 K isS isS isS))) Z0g))) (Res.okE_bind hq) ?_ ?_ ?_
    ·intro W71 e72
     have E0:=E0.trans e72
     have Z00:=Mono.mono (R:=(isT3 K isS isS isI)) e72.g Z00
     exact⟨_,_,_,_,_,rfl,E0⟩
    ·intro Wb60 W61 W62 a50 v63 s51 sg64 P65 hW66 hB67 iv e68 h69 hrt70 hq
     obtain⟨d55,d56,d57,d58,d59,rfl,E0⟩:=iv
     have Z00:=Mono.mono (R:=(isT3 K isS isS isI)) hW66 Z00
     have E0:=E0.trans e68
     have hB67:=hB67.trans e68.g
     have Z00:=Mono.mono (R:=(isT3 K isS isS isI)) e68.g Z00
     refine oK (σ':=fun v79 v81 v83=>[some Z04,some Z0z,some (.int Z0m),some (.int Z0n),some (.str (aj Z0h)),some v79,some (.int s51.1),some (.int s51.2),some v81,some v83,d55,d56]) h69 fun v79 v81 v83 h80 h82 h84=>?_
     cases h80
     unfold uc at hq
     refine am (Er:=Er) (i:=6) (R:=sh isI) (σ':=fun v89=>[some Z04,some Z0z,some (.int Z0m),some (.int Z0n),some (.str (aj Z0h)),some (.str (aj a50.1)),some v89,some (.int s51.2),some v81,some v83,d55,d56]) (aZ (a8 (R:=sh isI) (a:=s51.1) (v:=.int s51.1) rfl) (aU (a8 (R:=sh (isT3 K isS isS isI)) Z00) (a8 (R:=sh isS) (a:=a50.1) (v:=.str (aj a50.1)) rfl))) ((Res.okE_bind hq).imp fun y88 hq v89 W85 e86 h90=>?_)
     cases h90
     have E0:=E0.trans e86
     have hB67:=hB67.trans e86.g
     have Z00:=Mono.mono (R:=(isT3 K isS isS isI)) e86.g Z00
     have h82:=Mono.mono (R:=(isT3 K isS isS isS)) e86.g h82
     have h84:=Mono.mono (R:=(isT3 K isS isS isS)) e86.g h84
     refine am (Er:=Er) (i:=7) (R:=sh isI) (σ':=fun v94=>[some Z04,some Z0z,some (.int Z0m),some (.int Z0n),some (.str (aj Z0h)),some (.str (aj a50.1)),some (.int y88),some v94,some v81,some v83,d55,d56]) (gP (aZ (a8 (R:=sh isI) (a:=s51.2) (v:=.int s51.2) rfl) ah) (lO (fg (a8 (R:=sh isS) (a:=a50.1) (v:=.str (aj a50.1)) rfl) (aV (x:=Str.ofString "i") (l:=[105]) (eS _ _ (by decide +kernel)))))) ((Res.okE_bind hq).imp fun y93 hq v94 W91 e92 h95=>?_)
     cases h95
     have E0:=E0.trans e92
     have hB67:=hB67.trans e92.g
     have Z00:=Mono.mono (R:=(isT3 K isS isS isI)) e92.g Z00
     have h82:=Mono.mono (R:=(isT3 K isS isS isS)) e92.g h82
     have h84:=Mono.mono (R:=(isT3 K isS isS isS)) e92.g h84
     refine dj (Er:=Er) (sf (aG (d9 (j8 (a8 (R:=sh isI) (a:=y88) (v:=.int y88) rfl)) (a8 (R:=sh isI) (a:=Z0n) (v:=.int Z0n) rfl))) (aG (d9 (a8 (R:=sh isI) (a:=y93) (v:=.int y93) rfl) (a8 (R:=sh isI) (a:=Z0m) (v:=.int Z0m) rfl)))) ((Res.okE_bind hq).imp fun y96 hq W97 e98=>?_)
     have E0:=E0.trans e98
     have hB67:=hB67.trans e98.g
     have Z00:=Mono.mono (R:=(isT3 K isS isS isI)) e98.g Z00
     have h82:=Mono.mono (R:=(isT3 K isS isS isS)) e98.g h82
     have h84:=Mono.mono (R:=(isT3 K isS isS isS)) e98.g h84
     by_cases hb141:y96=true
     ·rw[if_pos hb141]at hq ⊢
      exact aO (Er:=Er) (R:=sh isB) ix (fun v99 W100 e101 h102=>(hrt70 _ hq) v99 W100 (E0.trans e101) h102)
     ·rw[if_neg hb141]at hq ⊢
      try dsimp only[aE]
      refine lN (Er:=Er) (f:=uR) (s0:=()) (Iv:=fun(s105:Unit) (W106:Wd) (g107:St)=>∃(d108:Option V) (d109:Option V),g107=[some Z04,some Z0z,some (.int Z0m),some (.int Z0n),some (.str (aj Z0h)),some (.str (aj a50.1)),some (.int y88),some (.int y93),some v81,some v83,d108,d109]∧Ext W0 W106) (ja (gm (a8 (R:=sh (isT3 K isS isS isS)) h82)) (gm (a8 (R:=sh (isT3 K isS isS isS)) h84))) (Res.okE_bind hq) ?_ ?_ ?_
      ·intro W121 e122
       have E0:=E0.trans e122
       have hB67:=hB67.trans e122.g
       have Z00:=Mono.mono (R:=(isT3 K isS isS isI)) e122.g Z00
       have h82:=Mono.mono (R:=(isT3 K isS isS isS)) e122.g h82
       have h84:=Mono.mono (R:=(isT3 K isS isS isS)) e122.g h84
       exact⟨_,_,rfl,E0⟩
      ·intro Wb110 W111 W112 a103 v113 s104 sg114 P115 hW116 hB117 iv e118 h119 hrt120 hq
       obtain⟨d108,d109,rfl,E0⟩:=iv
       have hB67:=hB67.trans hW116
       have Z00:=Mono.mono (R:=(isT3 K isS isS isI)) hW116 Z00
       have h82:=Mono.mono (R:=(isT3 K isS isS isS)) hW116 h82
       have h84:=Mono.mono (R:=(isT3 K isS isS isS)) hW116 h84
       have E0:=E0.trans e118
       have hB67:=hB67.trans e118.g
       have hB117:=hB117.trans e118.g
       have Z00:=Mono.mono (R:=(isT3 K isS isS isI)) e118.g Z00
       have h82:=Mono.mono (R:=(isT3 K isS isS isS)) e118.g h82
       have h84:=Mono.mono (R:=(isT3 K isS isS isS)) e118.g h84
       refine jM (σ':=fun v127 v129=>[some Z04,some Z0z,some (.int Z0m),some (.int Z0n),some (.str (aj Z0h)),some (.str (aj a50.1)),some (.int y88),some (.int y93),some v81,some v83,some v127,some v129]) h119 fun v127 v129 h128 h130=>?_
       cases h128
       cases h130
       unfold uR at hq
       refine si (Er:=Er) (fh (aG (gR (a8 (R:=sh isS) (a:=a103.2) (v:=.str (aj a103.2)) rfl) (aV (x:=Str.ofString "?") (l:=[63]) (eS _ _ (by decide +kernel))))) (aG (gR (a8 (R:=sh isS) (a:=a103.2) (v:=.str (aj a103.2)) rfl) (a8 (R:=sh isS) (a:=a103.1) (v:=.str (aj a103.1)) rfl)))) ((Res.okE_bind hq).imp fun y131 hq W132 e133=>?_)
       have E0:=E0.trans e133
       have hB67:=hB67.trans e133.g
       have hB117:=hB117.trans e133.g
       have Z00:=Mono.mono (R:=(isT3 K isS isS isI)) e133.g Z00
       have h82:=Mono.mono (R:=(isT3 K isS isS isS)) e133.g h82
       have h84:=Mono.mono (R:=(isT3 K isS isS isS)) e133.g h84
       by_cases hb137:y131=true
       ·rw[if_pos hb137]at hq ⊢
        exact aO (Er:=Er) (R:=sh isB) ix (fun v134 W135 e136 h137=>(hrt70 _ (hrt120 _ hq)) v134 W135 (E0.trans e136) h137)
       ·rw[if_neg hb137]at hq ⊢
        try dsimp only[aE]
        try dsimp only
        refine cj (W:=W132) () hB117 ?_ hq
        exact⟨_,_,rfl,E0⟩
      ·intro s138 W139 sg140 hS141 iv hq
       obtain⟨d108,d109,rfl,E0⟩:=iv
       have hB67:=hB67.trans hS141
       have Z00:=Mono.mono (R:=(isT3 K isS isS isI)) hS141 Z00
       have h82:=Mono.mono (R:=(isT3 K isS isS isS)) hS141 h82
       have h84:=Mono.mono (R:=(isT3 K isS isS isS)) hS141 h84
       try dsimp only
       refine cj (W:=W139) (y88,y93) hB67 ?_ hq
       exact⟨_,_,_,_,_,rfl,E0⟩
    ·intro s143 W144 sg145 hS146 iv hq
     obtain⟨d55,d56,d57,d58,d59,rfl,E0⟩:=iv
     exact aO (Er:=Er) (R:=sh isB) ix (fun v147 W148 e149 h150=>hq v147 W148 (E0.trans e149) h150)
theorem wD {f:Addr} {fd:FuncData} (F:Fun K "_law_peak" "_law_peak" (tp 43) f fd) {dY:(Tx×Tx×Int)→Tx→Res Int} (Z0y:Cal P w K mg base "_law_twist" ["_law_card_here","_law_turn"] (2) (bo (isT3 K isS isS isI) isS (rs isI) dY)) (h_abs:mg "abs" =none) (h_max:mg "max" =none):FnOk P w K mg base CX0 (3) f fd ["_law_card_here","_law_turns_here"] (bo (isT3 K isS isS isI) isS (rs isI) (vA dY)):=by
 have SC:FnScope ["_law_card_here","_law_turns_here","_law_now","_law_far","_law_turn"] ["_law_card_here","_law_turns_here"] (defScope (tp 43)):=⟨rfl,rfl,rfl,by decide +kernel,rfl,by decide +kernel,by decide +kernel⟩
 refine F.ok SC (fun vs H Q E h=>?_) (fun cdv A outer s H vs Q E hr h=>?_)
 ·obtain⟨_,_,_,_,_,_,rfl,_⟩:=h;rfl
 ·obtain⟨W0,Z02,Z03,Z04,_,rfl,rfl,Z00,Z0q,Er,hq⟩:=h
  cases Z0q
  refine⟨_,(ae (ao (i:=2) SC.nd rfl (by first | exact Or.inl rfl | exact Or.inr rfl) aa)
   (ae (ao (i:=3) SC.nd rfl (by first | exact Or.inl rfl | exact Or.inr rfl) aa)
   (ae (ci PassesOwn.never rfl (fL (pv 1)) (al (i:=4) SC.nd rfl (by first | exact Or.inl rfl | exact Or.inr rfl)) (ae (ao (i:=2) SC.nd rfl (by first | exact Or.inl rfl | exact Or.inr rfl) (ag bq (pv 2) (ap Z0y (hr.mono (by decide)) (by rfl) (a0 (pv 0) (a0 (pv 4) ac)))))
   (af (ao (i:=3) SC.nd rfl (by first | exact Or.inl rfl | exact Or.inr rfl) (aF (mG rfl) (by rfl) h_max PyProof.Rows.boot_max (a0 (pv 3) (a0 (aF fj (by rfl) h_abs PyProof.Rows.boot_abs (a0 (pv 2) ac)) ac)))))))
   (af (ar (pv 3)))))),?_⟩
  have E0:Ext W0 W0:=.refl W0
  rw[show L2.start ["_law_card_here","_law_turns_here","_law_now","_law_far","_law_turn"] [Z04,.str (aj Z03)]=[some Z04,some (.str (aj Z03)),none,none,none]from rfl]
  unfold vA at hq
  refine am (Er:=Er) (i:=2) (R:=sh isI) (σ':=fun v3=>[some Z04,some (.str (aj Z03)),some v3,none,none]) ah (fun v3 W1 e2 h4=>?_)
  cases h4
  have E0:=E0.trans e2
  have Z00:=Mono.mono (R:=(isT3 K isS isS isI)) e2.g Z00
  refine am (Er:=Er) (i:=3) (R:=sh isI) (σ':=fun v7=>[some Z04,some (.str (aj Z03)),some (.int (0:Int)),some v7,none]) ah (fun v7 W5 e6 h8=>?_)
  cases h8
  have E0:=E0.trans e6
  have Z00:=Mono.mono (R:=(isT3 K isS isS isI)) e6.g Z00
  refine cB (Er:=Er) (f:=(sn dY Z02)) (s0:=((0:Int),(0:Int))) (Iv:=fun(s11:(Int×Int)) (W12:Wd) (g13:St)=>∃(d14:Option V),g13=[some Z04,some (.str (aj Z03)),some (.int s11.1),some (.int s11.2),d14]∧Ext W0 W12) (fR (a8 (R:=sh isS) (a:=Z03) (v:=.str (aj Z03)) rfl)) (Res.okE_bind hq) ?_ ?_ ?_
  ·intro W26 e27
   have E0:=E0.trans e27
   have Z00:=Mono.mono (R:=(isT3 K isS isS isI)) e27.g Z00
   exact⟨_,rfl,E0⟩
  ·intro Wb15 W16 W17 a9 v18 s10 sg19 P20 hW21 hB22 iv e23 h24 hq
   obtain⟨d14,rfl,E0⟩:=iv
   have Z00:=Mono.mono (R:=(isT3 K isS isS isI)) hW21 Z00
   have E0:=E0.trans e23
   have hB22:=hB22.trans e23.g
   have Z00:=Mono.mono (R:=(isT3 K isS isS isI)) e23.g Z00
   cases h24
   refine gn (σ':=[some Z04,some (.str (aj Z03)),some (.int s10.1),some (.int s10.2),some (.str (aj a9))]) ?_
   unfold sn at hq
   refine am (Er:=Er) (i:=2) (R:=sh isI) (σ':=fun v34=>[some Z04,some (.str (aj Z03)),some v34,some (.int s10.2),some (.str (aj a9))]) (aZ (a8 (R:=sh isI) (a:=s10.1) (v:=.int s10.1) rfl) (aU (a8 (R:=sh (isT3 K isS isS isI)) Z00) (a8 (R:=sh isS) (a:=a9) (v:=.str (aj a9)) rfl))) ((Res.okE_bind hq).imp fun y33 hq v34 W30 e31 h35=>?_)
   cases h35
   have E0:=E0.trans e31
   have hB22:=hB22.trans e31.g
   have Z00:=Mono.mono (R:=(isT3 K isS isS isI)) e31.g Z00
   refine cG (Er:=Er) (i:=3) (R:=sh isI) (σ':=fun v38=>[some Z04,some (.str (aj Z03)),some (.int y33),some v38,some (.str (aj a9))]) (qI (a8 (R:=sh isI) (a:=s10.2) (v:=.int s10.2) rfl) (j8 (a8 (R:=sh isI) (a:=y33) (v:=.int y33) rfl))) (fun v38 W36 e37 h39=>?_)
   cases h39
   have E0:=E0.trans e37
   have hB22:=hB22.trans e37.g
   have Z00:=Mono.mono (R:=(isT3 K isS isS isI)) e37.g Z00
   try dsimp only
   refine cj (W:=W36) (y33,(if bi y33> s10.2 then bi y33 else s10.2)) hB22 ?_ hq
   exact⟨_,rfl,E0⟩
  ·intro s40 W41 sg42 hS43 iv hq
   obtain⟨d14,rfl,E0⟩:=iv
   exact aO (Er:=Er) (R:=sh isI) (a8 (R:=sh isI) (a:=s40.2) (v:=.int s40.2) rfl) (fun v44 W45 e46 h47=>hq v44 W45 (E0.trans e46) h47)
theorem wE {f:Addr} {fd:FuncData} (F:Fun K "within" "within" (tp 18) f fd) (h_abs:mg "abs" =none):FnOk P w K mg base CX0 (1) f fd ["state","loose","bound"] (da (isT2 K isI isI) isI isI (rs isB) (vB)):=by
 have SC:FnScope ["state","loose","bound","twist","idle"] ["state","loose","bound"] (defScope (tp 18)):=⟨rfl,rfl,rfl,by decide +kernel,rfl,by decide +kernel,by decide +kernel⟩
 refine F.ok SC (fun vs H Q E h=>?_) (fun cdv A outer s H vs Q E hr h=>?_)
 ·obtain⟨_,_,_,_,_,_,_,_,rfl,_⟩:=h;rfl
 ·obtain⟨W0,state,loose,bound,Z0B,_,_,rfl,rfl,Z1Z,Z1n,Z20,Er,hq⟩:=h
  cases Z1n
  cases Z20
  refine⟨_,(ae (eo (pv 0) (ca (K:=K) (n:=2) rfl rfl (au (al (i:=3) SC.nd rfl (by first | exact Or.inl rfl | exact Or.inr rfl)) (au (al (i:=4) SC.nd rfl (by first | exact Or.inl rfl | exact Or.inr rfl)) bZ))))
   (af (ar (fI (cy rY (aF fj (by rfl) h_abs PyProof.Rows.boot_abs (a0 (pv 3) ac)) (pv 2) (aD _)) (fH (cy rY (pv 4) (pv 1) (aD _))))))),?_⟩
  have E0:Ext W0 W0:=.refl W0
  rw[show L2.start ["state","loose","bound","twist","idle"] [Z0B,.int loose,.int bound]=[some Z0B,some (.int loose),some (.int bound),none,none]from rfl]
  unfold vB at hq
  refine dC (Er:=Er) (R:=sh (isT2 K isI isI)) (a8 (R:=sh (isT2 K isI isI)) Z1Z) (fun v1 W2 e3 h4=>?_)
  have E0:=E0.trans e3
  refine jM (σ':=fun v5 v7=>[some Z0B,some (.int loose),some (.int bound),some v5,some v7]) h4 fun v5 v7 h6 h8=>?_
  cases h6
  cases h8
  exact aO (Er:=Er) (R:=sh isB) (oD (d9 (j8 (a8 (R:=sh isI) (a:=state.1) (v:=.int state.1) rfl)) (a8 (R:=sh isI) (a:=bound) (v:=.int bound) rfl)) (d9 (a8 (R:=sh isI) (a:=state.2) (v:=.int state.2) rfl) (a8 (R:=sh isI) (a:=loose) (v:=.int loose) rfl))) (Res.OkE.imp hq fun y9 hq v10 W11 e12 h13=>hq v10 W11 (E0.trans e12) h13)
theorem wF {f:Addr} {fd:FuncData} (F:Fun K "twisting" "twisting" (tp 6) f fd) {Z21:Addr} (Z6n:mg "STEPS" =some (.ref Z21)) (Z6o:DictK K w Z21 [(Sum.inr (Str.ofString "f"),.int (1)),(Sum.inr (Str.ofString "b"),.int (-1)),(Sum.inr (Str.ofString "i"),.int (0))]):FnOk P w K mg base CX0 (1) f fd ["tablet","turn"] (bo (isT3 K isS isS isI) isS (rs isI) (vC)):=by
 have SC:FnScope ["tablet","turn","step"] ["tablet","turn"] (defScope (tp 6)):=⟨rfl,rfl,rfl,by decide +kernel,rfl,by decide +kernel,by decide +kernel⟩
 refine F.ok SC (fun vs H Q E h=>?_) (fun cdv A outer s H vs Q E hr h=>?_)
 ·obtain⟨_,_,_,_,_,_,rfl,_⟩:=h;rfl
 ·obtain⟨W0,tablet,turn,Z07,_,rfl,rfl,Z05,Z2L,Er,hq⟩:=h
  cases Z2L
  refine⟨_,(ae (ao (i:=2) SC.nd rfl (by first | exact Or.inl rfl | exact Or.inr rfl) (iu (K:=K) (w:=w) rfl rfl (cS (v:=.ref _) (by rfl) Z6n rfl) (pv 1) (fun _ _=>rfl)))
   (af (ar (eg (aA cm (aH (aS (K:=K) rfl) (pv 0) aa (fun _ _=>rfl)) aT (aD _)) (pv 2) (jt gB (pv 2)))))),?_⟩
  have E0:Ext W0 W0:=.refl W0
  rw[show L2.start ["tablet","turn","step"] [Z07,.str (aj turn)]=[some Z07,some (.str (aj turn)),none]from rfl]
  unfold vC at hq
  refine am (Er:=Er) (i:=2) (R:=sh isI) (σ':=fun v4=>[some Z07,some (.str (aj turn)),some v4]) (n9 Z6o (by decide +kernel) (a8 (R:=sh isS) (a:=turn) (v:=.str (aj turn)) rfl)) ((Res.okE_bind hq).imp fun y3 hq v4 W1 e2 h5=>?_)
  cases h5
  have E0:=E0.trans e2
  have Z05:=Mono.mono (R:=(isT3 K isS isS isI)) e2.g Z05
  exact aO (Er:=Er) (R:=sh isI) (jJ (aG (fg (bh (f:=fun(b:Tx×Tx×Int)=>b.1) kT (a8 (R:=sh (isT3 K isS isS isI)) Z05)) (aV (x:=Str.ofString "S") (l:=[83]) (eS _ _ (by decide +kernel))))) (a8 (R:=sh isI) (a:=y3) (v:=.int y3) rfl) (gQ (a8 (R:=sh isI) (a:=y3) (v:=.int y3) rfl))) (Res.OkE.imp hq fun y6 hq v7 W8 e9 h10=>hq v7 W8 (E0.trans e9) h10)
theorem wG {f:Addr} {fd:FuncData} (F:Fun K "state_behind" "state_behind" (tp 17) f fd) {lh:(Tx×Tx×Int)→Tx→Res Int} (Z1o:Cal P w K mg base "twisting" ["tablet","turn"] (1) (bo (isT3 K isS isS isI) isS (rs isI) lh)):FnOk P w K mg base CX0 (2) f fd ["tablet","state","turn"] (da (isT3 K isS isS isI) (isT2 K isI isI) isS (rs (isT2 K isI isI)) (vD lh)):=by
 have SC:FnScope ["tablet","state","turn","twist","idle"] ["tablet","state","turn"] (defScope (tp 17)):=⟨rfl,rfl,rfl,by decide +kernel,rfl,by decide +kernel,by decide +kernel⟩
 refine F.ok SC (fun vs H Q E h=>?_) (fun cdv A outer s H vs Q E hr h=>?_)
 ·obtain⟨_,_,_,_,_,_,_,_,rfl,_⟩:=h;rfl
 ·obtain⟨W0,tablet,state,turn,Z07,Z0B,_,rfl,rfl,Z05,Z1Z,Z2L,Er,hq⟩:=h
  cases Z2L
  refine⟨_,(ae (eo (pv 1) (ca (K:=K) (n:=2) rfl rfl (au (al (i:=3) SC.nd rfl (by first | exact Or.inl rfl | exact Or.inr rfl)) (au (al (i:=4) SC.nd rfl (by first | exact Or.inl rfl | exact Or.inr rfl)) bZ))))
   (af (ar (cF (a0 (ag bq (pv 3) (ap Z1o (hr.mono (by decide)) (by rfl) (a0 (pv 0) (a0 (pv 2) ac)))) (a0 (eg (aA cm (pv 2) aT (aD _)) (ag bq (pv 4) aa) aa) ac)))))),?_⟩
  have E0:Ext W0 W0:=.refl W0
  rw[show L2.start ["tablet","state","turn","twist","idle"] [Z07,Z0B,.str (aj turn)]=[some Z07,some Z0B,some (.str (aj turn)),none,none]from rfl]
  unfold vD at hq
  refine dC (Er:=Er) (R:=sh (isT2 K isI isI)) (a8 (R:=sh (isT2 K isI isI)) Z1Z) (fun v1 W2 e3 h4=>?_)
  have E0:=E0.trans e3
  have Z05:=Mono.mono (R:=(isT3 K isS isS isI)) e3.g Z05
  refine jM (σ':=fun v5 v7=>[some Z07,some Z0B,some (.str (aj turn)),some v5,some v7]) h4 fun v5 v7 h6 h8=>?_
  cases h6
  cases h8
  exact aO (Er:=Er) (R:=sh (isT2 K isI isI)) (gl (K:=K) (aZ (a8 (R:=sh isI) (a:=state.1) (v:=.int state.1) rfl) (aU (a8 (R:=sh (isT3 K isS isS isI)) Z05) (a8 (R:=sh isS) (a:=turn) (v:=.str (aj turn)) rfl))) (jJ (aG (fg (a8 (R:=sh isS) (a:=turn) (v:=.str (aj turn)) rfl) (aV (x:=Str.ofString "i") (l:=[105]) (eS _ _ (by decide +kernel))))) (aZ (a8 (R:=sh isI) (a:=state.2) (v:=.int state.2) rfl) ah) ah)) (Res.OkE.imp hq fun y12 hq v13 W14 e15 h16=>hq v13 W14 (E0.trans e15) h16)
theorem wH {f:Addr} {fd:FuncData} (F:Fun K "twisted" "twisted" (tp 16) f fd) {Z22:Tok} (Z1p:mg "HOLES" =some (.int 4 Z22)):FnOk P w K mg base CX0 (1) f fd ["tablet","twist"] (bo (isT3 K isS isS isI) isI (rs (isT3 K isS isS isI)) (vE)):=by
 have SC:FnScope ["tablet","twist","lay","holes","stand"] ["tablet","twist"] (defScope (tp 16)):=⟨rfl,rfl,rfl,by decide +kernel,rfl,by decide +kernel,by decide +kernel⟩
 refine F.ok SC (fun vs H Q E h=>?_) (fun cdv A outer s H vs Q E hr h=>?_)
 ·obtain⟨_,_,_,_,_,_,rfl,_⟩:=h;rfl
 ·obtain⟨W0,tablet,twist,Z07,_,rfl,rfl,Z05,ZbW,Er,hq⟩:=h
  cases ZbW
  refine⟨_,(ae (eo (pv 0) (ca (K:=K) (n:=3) rfl rfl (au (al (i:=2) SC.nd rfl (by first | exact Or.inl rfl | exact Or.inr rfl)) (au (al (i:=3) SC.nd rfl (by first | exact Or.inl rfl | exact Or.inr rfl)) (au (al (i:=4) SC.nd rfl (by first | exact Or.inl rfl | exact Or.inr rfl)) bZ)))))
   (af (ar (cF (a0 (pv 2) (a0 (pv 3) (a0 (ag aL (eg (aA cm (pv 2) aT (aD _)) (ag bq (pv 4) (pv 1)) (ag gA (pv 4) (pv 1))) (cS (v:=.int 4) (by rfl) Z1p ⟨_,rfl⟩)) ac))))))),?_⟩
  have E0:Ext W0 W0:=.refl W0
  rw[show L2.start ["tablet","twist","lay","holes","stand"] [Z07,.int twist]=[some Z07,some (.int twist),none,none,none]from rfl]
  unfold vE at hq
  refine dC (Er:=Er) (R:=sh (isT3 K isS isS isI)) (a8 (R:=sh (isT3 K isS isS isI)) Z05) (fun v1 W2 e3 h4=>?_)
  have E0:=E0.trans e3
  refine oK (σ':=fun v5 v7 v9=>[some Z07,some (.int twist),some v5,some v7,some v9]) h4 fun v5 v7 v9 h6 h8 h10=>?_
  cases h6
  cases h8
  cases h10
  exact aO (Er:=Er) (R:=sh (isT3 K isS isS isI)) (cU (K:=K) (a8 (R:=sh isS) (a:=tablet.1) (v:=.str (aj tablet.1)) rfl) (a8 (R:=sh isS) (a:=tablet.2.1) (v:=.str (aj tablet.2.1)) rfl) (aq (fun _=>by decide) (jJ (aG (fg (a8 (R:=sh isS) (a:=tablet.1) (v:=.str (aj tablet.1)) rfl) (aV (x:=Str.ofString "S") (l:=[83]) (eS _ _ (by decide +kernel))))) (aZ (a8 (R:=sh isI) (a:=tablet.2.2) (v:=.int tablet.2.2) rfl) (a8 (R:=sh isI) (a:=twist) (v:=.int twist) rfl)) (aZ (a8 (R:=sh isI) (a:=tablet.2.2) (v:=.int tablet.2.2) rfl) (a8 (R:=sh isI) (a:=twist) (v:=.int twist) rfl))))) (Res.OkE.imp hq fun y13 hq v14 W15 e16 h17=>hq v14 W15 (E0.trans e16) h17)
theorem uS {f:Addr} {fd:FuncData} (F:Fun K "top" "top" (tp 4) f fd) {Z22:Tok} (Z1p:mg "HOLES" =some (.int 4 Z22)):FnOk P w K mg base CX0 (1) f fd ["tablet"] (cD (isT3 K isS isS isI) (rs isS) (mq)):=by
 have SC:FnScope ["tablet","lay","holes","stand"] ["tablet"] (defScope (tp 4)):=⟨rfl,rfl,rfl,by decide +kernel,rfl,by decide +kernel,by decide +kernel⟩
 refine F.ok SC (fun vs H Q E h=>?_) (fun cdv A outer s H vs Q E hr h=>?_)
 ·obtain⟨_,_,_,_,rfl,_⟩:=h;rfl
 ·obtain⟨W0,tablet,Z07,rfl,rfl,Z05,Er,hq⟩:=h
  refine⟨_,(ae (eo (pv 0) (ca (K:=K) (n:=3) rfl rfl (au (al (i:=1) SC.nd rfl (by first | exact Or.inl rfl | exact Or.inr rfl)) (au (al (i:=2) SC.nd rfl (by first | exact Or.inl rfl | exact Or.inr rfl)) (au (al (i:=3) SC.nd rfl (by first | exact Or.inl rfl | exact Or.inr rfl)) bZ)))))
   (af (ar (aH bK (pv 2) (ag aL (pv 3) (cS (v:=.int 4) (by rfl) Z1p ⟨_,rfl⟩)) (fun _ _=>rfl))))),?_⟩
  have E0:Ext W0 W0:=.refl W0
  rw[show L2.start ["tablet","lay","holes","stand"] [Z07]=[some Z07,none,none,none]from rfl]
  unfold mq at hq
  refine dC (Er:=Er) (R:=sh (isT3 K isS isS isI)) (a8 (R:=sh (isT3 K isS isS isI)) Z05) (fun v1 W2 e3 h4=>?_)
  have E0:=E0.trans e3
  refine oK (σ':=fun v5 v7 v9=>[some Z07,some v5,some v7,some v9]) h4 fun v5 v7 v9 h6 h8 h10=>?_
  cases h6
  cases h8
  cases h10
  exact aO (Er:=Er) (R:=sh isS) (bL (a8 (R:=sh isS) (a:=tablet.2.1) (v:=.str (aj tablet.2.1)) rfl) (aq (fun _=>by decide) (a8 (R:=sh isI) (a:=tablet.2.2) (v:=.int tablet.2.2) rfl))) (Res.OkE.imp hq fun y11 hq v12 W13 e14 h15=>hq v12 W13 (E0.trans e14) h15)
theorem wI {f:Addr} {fd:FuncData} (F:Fun K "bottom" "bottom" (tp 5) f fd) {Z22:Tok} (Z1p:mg "HOLES" =some (.int 4 Z22)):FnOk P w K mg base CX0 (1) f fd ["tablet"] (cD (isT3 K isS isS isI) (rs isS) (vF)):=by
 have SC:FnScope ["tablet","lay","holes","stand"] ["tablet"] (defScope (tp 5)):=⟨rfl,rfl,rfl,by decide +kernel,rfl,by decide +kernel,by decide +kernel⟩
 refine F.ok SC (fun vs H Q E h=>?_) (fun cdv A outer s H vs Q E hr h=>?_)
 ·obtain⟨_,_,_,_,rfl,_⟩:=h;rfl
 ·obtain⟨W0,tablet,Z07,rfl,rfl,Z05,Er,hq⟩:=h
  refine⟨_,(ae (eo (pv 0) (ca (K:=K) (n:=3) rfl rfl (au (al (i:=1) SC.nd rfl (by first | exact Or.inl rfl | exact Or.inr rfl)) (au (al (i:=2) SC.nd rfl (by first | exact Or.inl rfl | exact Or.inr rfl)) (au (al (i:=3) SC.nd rfl (by first | exact Or.inl rfl | exact Or.inr rfl)) bZ)))))
   (af (ar (aH bK (pv 2) (ag aL (ag bq (pv 3) aa) (cS (v:=.int 4) (by rfl) Z1p ⟨_,rfl⟩)) (fun _ _=>rfl))))),?_⟩
  have E0:Ext W0 W0:=.refl W0
  rw[show L2.start ["tablet","lay","holes","stand"] [Z07]=[some Z07,none,none,none]from rfl]
  unfold vF at hq
  refine dC (Er:=Er) (R:=sh (isT3 K isS isS isI)) (a8 (R:=sh (isT3 K isS isS isI)) Z05) (fun v1 W2 e3 h4=>?_)
  have E0:=E0.trans e3
  refine oK (σ':=fun v5 v7 v9=>[some Z07,some v5,some v7,some v9]) h4 fun v5 v7 v9 h6 h8 h10=>?_
  cases h6
  cases h8
  cases h10
  exact aO (Er:=Er) (R:=sh isS) (bL (a8 (R:=sh isS) (a:=tablet.2.1) (v:=.str (aj tablet.2.1)) rfl) (aq (fun _=>by decide) (aZ (a8 (R:=sh isI) (a:=tablet.2.2) (v:=.int tablet.2.2) rfl) ah))) (Res.OkE.imp hq fun y11 hq v12 W13 e14 h15=>hq v12 W13 (E0.trans e14) h15)
theorem wJ {f:Addr} {fd:FuncData} (F:Fun K "left_place" "left_place" (tp 9) f fd) {fF:(Tx×Tx×Int)→Res Tx} {rB:(Tx×Tx×Int)→Res Tx} {lh:(Tx×Tx×Int)→Tx→Res Int} (C_top:Cal P w K mg base "top" ["tablet"] (1) (cD (isT3 K isS isS isI) (rs isS) fF)) (Z5m:Cal P w K mg base "bottom" ["tablet"] (1) (cD (isT3 K isS isS isI) (rs isS) rB)) (Z1o:Cal P w K mg base "twisting" ["tablet","turn"] (1) (bo (isT3 K isS isS isI) isS (rs isI) lh)) {Z1B:Addr} (Z5n:mg "SLANTS" =some (.ref Z1B)) (Z5o:DictK K w Z1B [(Sum.inl (1),.str (Str.ofString "s")),(Sum.inl (-1),.str (Str.ofString "z")),(Sum.inl (0),.str (Str.ofString "o"))]):FnOk P w K mg base CX0 (2) f fd ["tablet","turn"] (bo (isT3 K isS isS isI) isS (rs (isT3 K isS isS isS)) (vG fF rB lh)):=by
 have SC:FnScope ["tablet","turn"] ["tablet","turn"] (defScope (tp 9)):=⟨rfl,rfl,rfl,by decide +kernel,rfl,by decide +kernel,by decide +kernel⟩
 refine F.ok SC (fun vs H Q E h=>?_) (fun cdv A outer s H vs Q E hr h=>?_)
 ·obtain⟨_,_,_,_,_,_,rfl,_⟩:=h;rfl
 ·obtain⟨W0,tablet,turn,Z07,_,rfl,rfl,Z05,Z2L,Er,hq⟩:=h
  cases Z2L
  refine⟨_,(af (ar (cF (a0 (ap C_top (hr.mono (by decide)) (by rfl) (a0 (pv 0) ac)) (a0 (ap Z5m (hr.mono (by decide)) (by rfl) (a0 (pv 0) ac)) (a0 (iu (K:=K) (w:=w) rfl rfl (cS (v:=.ref _) (by rfl) Z5n rfl) (ap Z1o (hr.mono (by decide)) (by rfl) (a0 (pv 0) (a0 (pv 1) ac))) (fun _ _=>rfl)) ac)))))),?_⟩
  have E0:Ext W0 W0:=.refl W0
  rw[show L2.start ["tablet","turn"] [Z07,.str (aj turn)]=[some Z07,some (.str (aj turn))]from rfl]
  unfold vG at hq
  exact aO (Er:=Er) (R:=sh (isT3 K isS isS isS)) (cU (K:=K) (cf (a8 (R:=sh (isT3 K isS isS isI)) Z05)) (cf (a8 (R:=sh (isT3 K isS isS isI)) Z05)) (nb Z5o (by decide +kernel) (aU (a8 (R:=sh (isT3 K isS isS isI)) Z05) (a8 (R:=sh isS) (a:=turn) (v:=.str (aj turn)) rfl)))) (Res.OkE.imp hq fun y5 hq v6 W7 e8 h9=>hq v6 W7 (E0.trans e8) h9)
theorem wK {f:Addr} {fd:FuncData} (F:Fun K "suits" "suits" (tp 13) f fd) {Z7W:Tok} (Z7X:mg "WORN" =some (.str (Str.ofString "?") Z7W)):FnOk P w K mg base CX0 (1) f fd ["sign","left"] (bo isS isS (rs isB) (vH)):=by
 have SC:FnScope ["sign","left"] ["sign","left"] (defScope (tp 13)):=⟨rfl,rfl,rfl,by decide +kernel,rfl,by decide +kernel,by decide +kernel⟩
 refine F.ok SC (fun vs H Q E h=>?_) (fun cdv A outer s H vs Q E hr h=>?_)
 ·obtain⟨_,_,_,_,_,_,rfl,_⟩:=h;rfl
 ·obtain⟨W0,sign,left,_,_,rfl,rfl,Zc6,Zc7,Er,hq⟩:=h
  cases Zc6
  cases Zc7
  refine⟨_,(af (ar (ud (cy cm (pv 1) (cS (v:=.str (Str.ofString "?")) (by rfl) Z7X ⟨_,rfl⟩) (aD _)) (fH (cy cm (pv 1) (pv 0) (aD _)))))),?_⟩
  have E0:Ext W0 W0:=.refl W0
  rw[show L2.start ["sign","left"] [.str (aj sign),.str (aj left)]=[some (.str (aj sign)),some (.str (aj left))]from rfl]
  unfold vH at hq
  exact aO (Er:=Er) (R:=sh isB) (uC (fg (a8 (R:=sh isS) (a:=left) (v:=.str (aj left)) rfl) (aV (x:=Str.ofString "?") (l:=[63]) (eS _ _ (by decide +kernel)))) (fg (a8 (R:=sh isS) (a:=left) (v:=.str (aj left)) rfl) (a8 (R:=sh isS) (a:=sign) (v:=.str (aj sign)) rfl))) (Res.OkE.imp hq fun y1 hq v2 W3 e4 h5=>hq v2 W3 (E0.trans e4) h5)
theorem wL {f:Addr} {fd:FuncData} (F:Fun K "agrees" "agrees" (tp 12) f fd) {qi:Tx→Tx→Res Bool} (Z6q:Cal P w K mg base "suits" ["sign","left"] (1) (bo isS isS (rs isB) qi)) (h_all:mg "all" =none) (h_zip:mg "zip" =none):FnOk P w K mg base CX0 (2) f fd ["place","mark"] (bo (isT3 K isS isS isS) (isT3 K isS isS isS) (rs isB) (vI qi)):=by
 have SC:FnScope ["place","mark"] ["place","mark"] (defScope (tp 12)):=⟨rfl,rfl,rfl,by decide +kernel,rfl,by decide +kernel,by decide +kernel⟩
 refine F.ok SC (fun vs H Q E h=>?_) (fun cdv A outer s H vs Q E hr h=>?_)
 ·obtain⟨_,_,_,_,_,_,rfl,_⟩:=h;rfl
 ·obtain⟨W0,place,mark,Z9K,Z0F,rfl,rfl,ZbY,Z1F,Er,hq⟩:=h
  refine⟨_,(af (ar (aF (n6 (K:=K) rfl rfl) (by rfl) h_all PyProof.Rows.boot_all (a0 (eR (N:=["sign","left"]) (cap:=[none,none]) (jF rfl (by decide +kernel) rfl (by decide +kernel) (by rfl) (by rfl)) rfl (fk (K:=K) rfl rfl h_zip (a0 (pv 0) (a0 (pv 1) ac))) (fun _ _ _ _=>(ca (K:=K) (n:=2) rfl rfl (au (al (i:=0) (show List.Nodup (["sign","left"]:List Str) by decide +kernel) rfl (by first | exact Or.inl rfl | exact Or.inr rfl)) (au (al (i:=1) (show List.Nodup (["sign","left"]:List Str) by decide +kernel) rfl (by first | exact Or.inl rfl | exact Or.inr rfl)) bZ)))) (fun _ _ _ _=>di) (fun _ _ _ _=>(ap Z6q (hr.mono (by decide)) (by rfl) (a0 (pv 0) (a0 (pv 1) ac))))) ac)))),?_⟩
  have E0:Ext W0 W0:=.refl W0
  rw[show L2.start ["place","mark"] [Z9K,Z0F]=[some Z9K,some Z0F]from rfl]
  unfold vI at hq
  exact aO (Er:=Er) (R:=sh isB) (t6 (EVo.pk (eW (f:=fun(a1:Tx×Tx)=>qi a1.1 a1.2) (ja (gm (a8 (R:=sh (isT3 K isS isS isS)) ZbY)) (gm (a8 (R:=sh (isT3 K isS isS isS)) Z1F))) fun W3 a1 v2 e4 h5 Q10 k11=>by
   refine jM h5 fun v6 v8 h7 h9=>?_
   cases h7
   cases h9
   exact⟨by simp[Keep,bt],((aU (a8 (R:=sh isS) (a:=a1.1) (v:=.str (aj a1.1)) rfl) (a8 (R:=sh isS) (a:=a1.2) (v:=.str (aj a1.2)) rfl)):EV Er _ [some (.str (aj a1.1)),some (.str (aj a1.2))] _ _ _) _ (.refl _) _ k11⟩))) (Res.OkE.imp hq fun y13 hq v14 W15 e16 h17=>hq v14 W15 (E0.trans e16) h17)
theorem wM {f:Addr} {fd:FuncData} (F:Fun K "leaves" "leaves" (tp 19) f fd) {rD:(Tx×Tx×Tx)→(Tx×Tx×Tx)→Res Bool} {rC:(Tx×Tx×Int)→Tx→Res (Tx×Tx×Tx)} {rA:(Tx×Tx×Int)→Int→Res (Tx×Tx×Int)} (Z5p:Cal P w K mg base "agrees" ["place","mark"] (2) (bo (isT3 K isS isS isS) (isT3 K isS isS isS) (rs isB) rD)) (Z2M:Cal P w K mg base "left_place" ["tablet","turn"] (2) (bo (isT3 K isS isS isI) isS (rs (isT3 K isS isS isS)) rC)) (Z4B:Cal P w K mg base "twisted" ["tablet","twist"] (1) (bo (isT3 K isS isS isI) isI (rs (isT3 K isS isS isI)) rA)):FnOk P w K mg base CX0 (3) f fd ["tablet","state","turn","mark"] (jL (isT3 K isS isS isI) (isT2 K isI isI) isS (isT3 K isS isS isS) (rs isB) (vJ rD rC rA)):=by
 have SC:FnScope ["tablet","state","turn","mark"] ["tablet","state","turn","mark"] (defScope (tp 19)):=⟨rfl,rfl,rfl,by decide +kernel,rfl,by decide +kernel,by decide +kernel⟩
 refine F.ok SC (fun vs H Q E h=>?_) (fun cdv A outer s H vs Q E hr h=>?_)
 ·obtain⟨_,_,_,_,_,_,_,_,_,_,rfl,_⟩:=h;rfl
 ·obtain⟨W0,tablet,state,turn,mark,Z07,Z0B,_,Z0F,rfl,rfl,Z05,Z1Z,Z2L,Z1F,Er,hq⟩:=h
  cases Z2L
  refine⟨_,(af (ar (ap Z5p (hr.mono (by decide)) (by rfl) (a0 (ap Z2M (hr.mono (by decide)) (by rfl) (a0 (ap Z4B (hr.mono (by decide)) (by rfl) (a0 (pv 0) (a0 (aH (aS (K:=K) rfl) (pv 1) aa (fun _ _=>rfl)) ac))) (a0 (pv 2) ac))) (a0 (pv 3) ac))))),?_⟩
  have E0:Ext W0 W0:=.refl W0
  rw[show L2.start ["tablet","state","turn","mark"] [Z07,Z0B,.str (aj turn),Z0F]=[some Z07,some Z0B,some (.str (aj turn)),some Z0F]from rfl]
  unfold vJ at hq
  exact aO (Er:=Er) (R:=sh isB) (aU (aU (aU (a8 (R:=sh (isT3 K isS isS isI)) Z05) (bh (f:=fun(b:Int×Int)=>b.1) uF (a8 (R:=sh (isT2 K isI isI)) Z1Z))) (a8 (R:=sh isS) (a:=turn) (v:=.str (aj turn)) rfl)) (a8 (R:=sh (isT3 K isS isS isS)) Z1F)) (Res.OkE.imp hq fun y3 hq v4 W5 e6 h7=>hq v4 W5 (E0.trans e6) h7)
theorem wN {f:Addr} {fd:FuncData} (F:Fun K "onward" "onward" (tp 20) f fd) {qh:(Tx×Tx×Int)→(Int×Int)→Tx→Res (Int×Int)} {k9:(Int×Int)→Int→Int→Res Bool} {pK:(Tx×Tx×Int)→(Int×Int)→Tx→(Tx×Tx×Tx)→Res Bool} (Z23:Cal P w K mg base "state_behind" ["tablet","state","turn"] (2) (da (isT3 K isS isS isI) (isT2 K isI isI) isS (rs (isT2 K isI isI)) qh)) (Z24:Cal P w K mg base "within" ["state","loose","bound"] (1) (da (isT2 K isI isI) isI isI (rs isB) k9)) (Z5q:Cal P w K mg base "leaves" ["tablet","state","turn","mark"] (3) (jL (isT3 K isS isS isI) (isT2 K isI isI) isS (isT3 K isS isS isS) (rs isB) pK)) {Z6r:Tok} (Z6s:mg "TURNS" =some (.str (Str.ofString "fbi") Z6r)):FnOk P w K mg base CX0 (4) f fd ["tablet","mark","loose","bound","state"] (gS (isT3 K isS isS isI) (isT3 K isS isS isS) isI isI (isT2 K isI isI) (ro (isT2 K isS (isT2 K isI isI))) (vK qh k9 pK)):=by
 have SC:FnScope ["tablet","mark","loose","bound","state","moves"] ["tablet","mark","loose","bound","state"] (defScope (tp 20)):=⟨rfl,rfl,rfl,by decide +kernel,rfl,by decide +kernel,by decide +kernel⟩
 refine F.ok SC (fun vs H Q E h=>?_) (fun cdv A outer s H vs Q E hr h=>?_)
 ·obtain⟨_,_,_,_,_,_,_,_,_,_,_,_,rfl,_⟩:=h;rfl
 ·obtain⟨W0,tablet,mark,loose,bound,state,Z07,Z0F,_,_,Z0B,rfl,rfl,Z05,Z1F,Z1n,Z20,Z1Z,Er,hq⟩:=h
  cases Z1n
  cases Z20
  refine⟨_,(ae (kR (i:=5) SC.nd rfl (by first | exact Or.inl rfl | exact Or.inr rfl) (N:=["turn","tablet","state"]) (cap:=[none,some 0,some 4]) (jF rfl (by decide +kernel) rfl (by decide +kernel) (by rfl) (by rfl)) rfl (fL (cS (v:=.str (Str.ofString "fbi")) (by rfl) Z6s ⟨_,rfl⟩)) (fun _ _ _ _=>(al (i:=0) (show List.Nodup (["turn","tablet","state"]:List Str) by decide +kernel) rfl (by first | exact Or.inl rfl | exact Or.inr rfl))) (fun _ _ _ _=>di) (fun _ _ _ _=>(cF (a0 (pv 0) (a0 (ap Z23 (hr.mono (by decide)) (by rfl) (a0 (pv 1) (a0 (pv 2) (a0 (pv 0) ac)))) ac)))))
   (af (ar (eR (N:=["turn","after","loose","bound","tablet","mark"]) (cap:=[none,none,some 2,some 3,some 0,some 1]) (jF rfl (by decide +kernel) rfl (by decide +kernel) (by rfl) (by rfl)) rfl (cA (K:=K) rfl (pv 5)) (fun _ _ _ _=>(ca (K:=K) (n:=2) rfl rfl (au (al (i:=0) (show List.Nodup (["turn","after","loose","bound","tablet","mark"]:List Str) by decide +kernel) rfl (by first | exact Or.inl rfl | exact Or.inr rfl)) (au (al (i:=1) (show List.Nodup (["turn","after","loose","bound","tablet","mark"]:List Str) by decide +kernel) rfl (by first | exact Or.inl rfl | exact Or.inr rfl)) bZ)))) (fun _ _ _ _=>(qx (PW.pt (dH (cE (ap Z24 (hr.mono (by decide)) (by rfl) (a0 (pv 1) (a0 (pv 2) (a0 (pv 3) ac))))) (dg (cE (ap Z5q (hr.mono (by decide)) (by rfl) (a0 (pv 4) (a0 (pv 1) (a0 (pv 0) (a0 (pv 5) ac))))))))))) (fun _ _ _ _=>(cF (a0 (pv 0) (a0 (pv 1) ac)))))))),?_⟩
  have E0:Ext W0 W0:=.refl W0
  rw[show L2.start ["tablet","mark","loose","bound","state","moves"] [Z07,Z0F,.int loose,.int bound,Z0B]=[some Z07,some Z0F,some (.int loose),some (.int bound),some Z0B,none]from rfl]
  unfold vK at hq
  refine am (Er:=Er) (i:=5) (R:=sh (isL (isT2 K isS (isT2 K isI isI)))) (σ':=fun v16=>[some Z07,some Z0F,some (.int loose),some (.int bound),some Z0B,some v16]) (EVo.ev (eW (f:=fun(a3:Tx)=>(qh tablet state a3).bind fun y12=>Res.ok (a3,y12)) (fR (aV (x:=Str.ofString "fbi") (l:=[102,98,105]) (eS _ _ (by decide +kernel)))) fun W5 a3 v4 e6 h7 Q13 k14=>by
   have h8:=MonoW.mono (R:=sh (isT3 K isS isS isI)) e6 Z05
   have h9:=MonoW.mono (R:=sh (isT2 K isI isI)) e6 Z1Z
   cases h7
   refine gn ?_
   exact⟨by simp[Keep,bt],((gl (K:=K) (a8 (R:=sh isS) (a:=a3) (v:=.str (aj a3)) rfl) (dB (a8 (R:=sh (isT3 K isS isS isI)) h8) (a8 (R:=sh (isT2 K isI isI)) h9) (a8 (R:=sh isS) (a:=a3) (v:=.str (aj a3)) rfl))):EV Er _ [some (.str (aj a3)),some Z07,some Z0B] _ _ _) _ (.refl _) _ k14⟩)) ((Res.okE_bind hq).imp fun y15 hq v16 W1 e2 h17=>?_)
  have E0:=E0.trans e2
  have Z05:=Mono.mono (R:=(isT3 K isS isS isI)) e2.g Z05
  have Z1F:=Mono.mono (R:=(isT3 K isS isS isS)) e2.g Z1F
  exact jb (Er:=Er) (oJ (f:=fun(a18:Tx×(Int×Int))=>((k9 a18.2 loose bound).bind fun y31=>if y31 then pK tablet a18.2 a18.1 mark else Res.ok false).bind fun y33=>if y33 then Res.ok (some (a18.1,a18.2))else Res.ok none) (cV (a8 (R:=sh (isL (isT2 K isS (isT2 K isI isI)))) h17)) fun W20 a18 v19 e21 h22 Q29 k30=>by
   have h23:=MonoW.mono (R:=sh (isT3 K isS isS isI)) e21 Z05
   have h24:=MonoW.mono (R:=sh (isT3 K isS isS isS)) e21 Z1F
   refine jM h22 fun v25 v27 h26 h28=>?_
   cases h26
   refine⟨by simp[Keep,bt],((fh (n0 (dB (a8 (R:=sh (isT2 K isI isI)) h28) (a8 (R:=sh isI) (a:=loose) (v:=.int loose) rfl) (a8 (R:=sh isI) (a:=bound) (v:=.int bound) rfl))) (n0 (oG (a8 (R:=sh (isT3 K isS isS isI)) h23) (a8 (R:=sh (isT2 K isI isI)) h28) (a8 (R:=sh isS) (a:=a18.1) (v:=.str (aj a18.1)) rfl) (a8 (R:=sh (isT3 K isS isS isS)) h24)))):TV Er _ [some (.str (aj a18.1)),some v27,some (.int loose),some (.int bound),some Z07,some Z0F] _ _) _ (.refl _) _ (Res.OkE.imp (P:=fun b32=>(if b32=true then Res.ok (some (a18.1,a18.2))else Res.ok none:Res (Option (Tx×(Int×Int)))).OkE Er _) (Res.okE_bind k30) fun b32 k36 W34 e35=>?_)⟩
   cases b32 with
   | false=>exact k36 none _ e35 trivial
   | true =>
    rw[if_pos rfl]
    refine EV.go (Er:=Er) (σ:=[some (.str (aj a18.1)),some v27,some (.int loose),some (.int bound),some Z07,some Z0F]) (W1:=W34) e35 (gl (K:=K) (a8 (R:=sh isS) (a:=a18.1) (v:=.str (aj a18.1)) rfl) (a8 (R:=sh (isT2 K isI isI)) h28)) ?_
    exact fun u39 W37 e38 h40=>k36 (some u39) _ (e35.trans e38) h40) (Res.OkE.imp hq fun y42 hq p43 W44 e45 hp46 o47=>hq p43 W44 (E0.trans e45) (bj E0.h hp46) o47)
theorem wO {f:Addr} {fd:FuncData} (F:Fun K "states_behind" "states_behind" (tp 22) f fd) {pL:(Tx×Tx×Int)→(Tx×Tx×Tx)→Int→Int→(Int×Int)→Res (List (Tx×(Int×Int)))} (Z5r:Cal P w K mg base "onward" ["tablet","mark","loose","bound","state"] (4) (gS (isT3 K isS isS isI) (isT3 K isS isS isS) isI isI (isT2 K isI isI) (ro (isT2 K isS (isT2 K isI isI))) pL)) (h_sorted:mg "sorted" =none):FnOk P w K mg base CX0 (5) f fd ["tablet","mark","loose","bound","states"] (gS (isT3 K isS isS isI) (isT3 K isS isS isS) isI isI (isL (isT2 K isI isI)) (ro (isT2 K isI isI)) (vL pL)):=by
 have SC:FnScope ["tablet","mark","loose","bound","states"] ["tablet","mark","loose","bound","states"] (defScope (tp 22)):=⟨rfl,rfl,rfl,by decide +kernel,rfl,by decide +kernel,by decide +kernel⟩
 refine F.ok SC (fun vs H Q E h=>?_) (fun cdv A outer s H vs Q E hr h=>?_)
 ·obtain⟨_,_,_,_,_,_,_,_,_,_,_,_,rfl,_⟩:=h;rfl
 ·obtain⟨W0,tablet,mark,loose,bound,states,Z07,Z0F,_,_,Z7Y,rfl,rfl,Z05,Z1F,Z1n,Z20,Zbu,Er,hq⟩:=h
  cases Z1n
  cases Z20
  refine⟨_,(af (ar (aF (ji rfl) (by rfl) h_sorted PyProof.Rows.boot_sorted (a0 (nu (sR hr) (N:=["state","turn","after","tablet","mark","loose","bound"]) (cap:=[none,none,none,some 0,some 1,some 2,some 3]) (jF rfl (by decide +kernel) rfl (by decide +kernel) (by rfl) (by rfl)) rfl (cA (K:=K) rfl (pv 4)) (fun _ _ _ _=>(al (i:=0) (show List.Nodup (["state","turn","after","tablet","mark","loose","bound"]:List Str) by decide +kernel) rfl (by first | exact Or.inl rfl | exact Or.inr rfl))) (fun _ _ _ _=>di) (fun _ _ _ _=>(cA (K:=K) rfl (ap Z5r (hr.mono (by decide)) (by rfl) (a0 (pv 3) (a0 (pv 4) (a0 (pv 5) (a0 (pv 6) (a0 (pv 0) ac)))))))) (fun _ _ _ _=>(ca (K:=K) (n:=2) rfl rfl (au (al (i:=1) (show List.Nodup (["state","turn","after","tablet","mark","loose","bound"]:List Str) by decide +kernel) rfl (by first | exact Or.inl rfl | exact Or.inr rfl)) (au (al (i:=2) (show List.Nodup (["state","turn","after","tablet","mark","loose","bound"]:List Str) by decide +kernel) rfl (by first | exact Or.inl rfl | exact Or.inr rfl)) bZ)))) (fun _ _ _ _=>di) (fun _ _ _ _=>(pv 2))) ac)))),?_⟩
  have E0:Ext W0 W0:=.refl W0
  rw[show L2.start ["tablet","mark","loose","bound","states"] [Z07,Z0F,.int loose,.int bound,Z7Y]=[some Z07,some Z0F,some (.int loose),some (.int bound),some Z7Y]from rfl]
  unfold vL at hq
  exact jb (Er:=Er) (pJ (f:=fun(a6:Int×Int) (s8:List (Int×Int))=>(pL tablet mark loose bound a6).bind fun y36=>bC (fun(a20:Tx×(Int×Int)) (s22:List (Int×Int))=>l5 s22 a20.2) y36 s8) (cV (a8 (R:=sh (isL (isT2 K isI isI))) Zbu)) (fun W1 D2 W5 a6 v7 s8 M9 hS10 e3 h4 e11 o12 h13 k14=>by
   have h15:=Mono.mono (R:=(isT3 K isS isS isI)) hS10 Z05
   have h16:=Mono.mono (R:=(isT3 K isS isS isS)) hS10 Z1F
   refine gn ?_
   exact⟨by simp[Keep,bt],uI (((tu (f:=fun(a20:Tx×(Int×Int)) (s22:List (Int×Int))=>l5 s22 a20.2) e11 (cV (EVo.ev (iz (a8 (R:=sh (isT3 K isS isS isI)) h15) (a8 (R:=sh (isT3 K isS isS isS)) h16) (a8 (R:=sh isI) (a:=loose) (v:=.int loose) rfl) (a8 (R:=sh isI) (a:=bound) (v:=.int bound) rfl) (a8 (R:=sh (isT2 K isI isI)) h13)))) (fun _ _ _ e o=>o.mono e) (fun W19 a20 v21 s22 M23 hS24 e25 o26 h27 k28=>by
    have h29:=Mono.mono (R:=(isT3 K isS isS isI)) hS24 h15
    have h30:=Mono.mono (R:=(isT3 K isS isS isS)) hS24 h16
    have h31:=Mono.mono (R:=(isT2 K isI isI)) hS24 h13
    refine jM h27 fun v32 v34 h33 h35=>?_
    cases h33
    exact⟨by simp[Keep,bt],uI (((tJ e25 h4 (a8 (R:=sh (isT2 K isI isI)) h35)):BV Er _ [some v7,some (.str (aj a20.1)),some v34,some Z07,some Z0F,some (.int loose),some (.int bound)] _ _ _ _ _) _ _ _ (.refl _) o26 k28)⟩)):BV Er _ [some v7,none,none,some Z07,some Z0F,some (.int loose),some (.int bound)] _ _ _ _ _) _ _ _ (.refl _) o12 k14)⟩)) (Res.OkE.imp hq fun y38 hq p39 W40 e41 hp42 o43=>hq p39 W40 (E0.trans e41) (bj E0.h hp42) o43)
theorem wP {f:Addr} {fd:FuncData} (F:Fun K "search" "search" (tp 21) f fd) {k9:(Int×Int)→Int→Int→Res Bool} {kE:(Tx×Tx×Int)→(Tx×Tx×Tx)→Int→Int→(List (Int×Int))→Res (List (Int×Int))} (Z24:Cal P w K mg base "within" ["state","loose","bound"] (1) (da (isT2 K isI isI) isI isI (rs isB) k9)) (Z1G:Cal P w K mg base "states_behind" ["tablet","mark","loose","bound","states"] (5) (gS (isT3 K isS isS isI) (isT3 K isS isS isS) isI isI (isL (isT2 K isI isI)) (ro (isT2 K isI isI)) kE)) {Z2G:Addr} (Z53:mg "START" =some (.ref Z2G)) (Z54:∀H,SqT K H Z2G [.int (0),.int (0)]):FnOk P w K mg base CX0 (6) f fd ["tablet","strip","loose","bound"] (jL (isT3 K isS isS isI) (isL (isT3 K isS isS isS)) isI isI (ro (isL (isT2 K isI isI))) (vM k9 kE)):=by
 have SC:FnScope ["tablet","strip","loose","bound","lists","mark"] ["tablet","strip","loose","bound"] (defScope (tp 21)):=⟨rfl,rfl,rfl,by decide +kernel,rfl,by decide +kernel,by decide +kernel⟩
 refine F.ok SC (fun vs H Q E h=>?_) (fun cdv A outer s H vs Q E hr h=>?_)
 ·obtain⟨_,_,_,_,_,_,_,_,_,_,rfl,_⟩:=h;rfl
 ·obtain⟨W0,tablet,strip,loose,bound,Z07,Z0Y,_,_,rfl,rfl,Z05,Z0s,Z1n,Z20,Er,hq⟩:=h
  cases Z1n
  cases Z20
  refine⟨_,(ae (ao (i:=4) SC.nd rfl (by first | exact Or.inl rfl | exact Or.inr rfl) (cb (a0 (eg (cE (ap Z24 (hr.mono (by decide)) (by rfl) (a0 (cS (v:=.ref _) (by rfl) Z53 rfl) (a0 (pv 2) (a0 (pv 3) ac))))) (cb (a0 (cS (v:=.ref _) (by rfl) Z53 rfl) ac)) (cb ac)) ac)))
   (ae (ci PassesOwn.never rfl (cA (K:=K) rfl (pv 1)) (al (i:=5) SC.nd rfl (by first | exact Or.inl rfl | exact Or.inr rfl)) (ae (br (aA (ld hr.units0) (aH (cz (K:=K) rfl) (pv 4) (jt gB aa) (fun _ _=>rfl)) (cb ac) (aD _)) (af (ar (pv 4))) aM)
   (af (eO (cH (K:=K) rfl (pv 4) (a0 (ap Z1G (hr.mono (by decide)) (by rfl) (a0 (pv 0) (a0 (pv 5) (a0 (pv 2) (a0 (pv 3) (a0 (aH (cz (K:=K) rfl) (pv 4) (jt gB aa) (fun _ _=>rfl)) ac)))))) ac))))))
   (af (ar (pv 4))))),?_⟩
  have E0:Ext W0 W0:=.refl W0
  rw[show L2.start ["tablet","strip","loose","bound","lists","mark"] [Z07,Z0Y,.int loose,.int bound]=[some Z07,some Z0Y,some (.int loose),some (.int bound),none,none]from rfl]
  unfold vM at hq
  refine cY (Er:=Er) (i:=4) (σ':=fun p6=>[some Z07,some Z0Y,some (.int loose),some (.int bound),some (.ref p6),none]) (eH (bn (jJ (n0 (dB (jP Z54 (gI _) (gI _)) (a8 (R:=sh isI) (a:=loose) (v:=.int loose) rfl) (a8 (R:=sh isI) (a:=bound) (v:=.int bound) rfl))) (EVo.ev (eH (bn (jP Z54 (gI _) (gI _)) (eF (R:=(isT2 K isI isI)))))) (EVo.ev (eU (R:=(isT2 K isI isI))))) (eF (R:=(isL (isT2 K isI isI)))))) ((Res.okE_bind hq).imp fun y5 hq p6 W1 e2 hp7 o8=>?_)
  have fr9:=bj E0.h hp7
  have E0:=E0.trans e2
  have Z05:=Mono.mono (R:=(isT3 K isS isS isI)) e2.g Z05
  have Z0s:=Mono.mono (R:=(isL (isT3 K isS isS isS))) e2.g Z0s
  refine fV (Er:=Er) (f:=(so kE tablet loose bound)) (s0:=y5) (Iv:=fun(s12:(List (List (Int×Int)))) (W13:Wd) (g14:St)=>∃(d16:Option V),g14=[some Z07,some Z0Y,some (.int loose),some (.int bound),some (.ref p6),d16]∧Ext W0 W13∧Ow (isL (isT2 K isI isI)) W13 p6 s12) (cV (a8 (R:=sh (isL (isT3 K isS isS isS))) Z0s)) (Res.okE_bind hq) ?_ ?_ ?_
  ·intro W28 e29
   have E0:=E0.trans e29
   have Z05:=Mono.mono (R:=(isT3 K isS isS isI)) e29.g Z05
   have o8:=o8.mono e29
   exact⟨_,rfl,E0,o8⟩
  ·intro Wb17 W18 W19 a10 v20 s11 sg21 P22 hW23 hB24 iv e25 h26 hrt27 hq
   obtain⟨d16,rfl,E0,o15⟩:=iv
   have Z05:=Mono.mono (R:=(isT3 K isS isS isI)) hW23 Z05
   have E0:=E0.trans e25
   have hB24:=hB24.trans e25.g
   have Z05:=Mono.mono (R:=(isT3 K isS isS isI)) e25.g Z05
   have o15:=o15.mono e25
   refine gn (σ':=[some Z07,some Z0Y,some (.int loose),some (.int bound),some (.ref p6),some v20]) ?_
   unfold so at hq
   refine dj (Er:=Er) (aG (lf (EV.pk (eE (eT o15) (gQ ah))))) ((Res.okE_bind hq).imp fun y33 hq W34 e35=>?_)
   have E0:=E0.trans e35
   have hB24:=hB24.trans e35.g
   have Z05:=Mono.mono (R:=(isT3 K isS isS isI)) e35.g Z05
   have o15:=o15.mono e35
   have h26:=Mono.mono (R:=(isT3 K isS isS isS)) e35.g h26
   by_cases hb41:y33=true
   ·rw[if_pos hb41]at hq ⊢
    exact⟨.ref p6,rfl,(hrt27 _ hq) p6 W34 E0 fr9 o15⟩
   ·rw[if_neg hb41]at hq ⊢
    try dsimp only[aE]
    refine fU (Er:=Er) o15 (EVo.ev (iz (a8 (R:=sh (isT3 K isS isS isI)) Z05) (a8 (R:=sh (isT3 K isS isS isS)) h26) (a8 (R:=sh isI) (a:=loose) (v:=.int loose) rfl) (a8 (R:=sh isI) (a:=bound) (v:=.int bound) rfl) (eE (eT o15) (gQ ah)))) ((Res.okE_bind hq).imp fun y40 hq W37 mu38 o39=>?_)
    have E0:=mu38.e _ E0 fr9
    have hB24:=hB24.trans mu38.g
    have Z05:=Mono.mono (R:=(isT3 K isS isS isI)) mu38.g Z05
    have h26:=Mono.mono (R:=(isT3 K isS isS isS)) mu38.g h26
    try dsimp only
    refine cj (W:=W37) y40 hB24 ?_ hq
    exact⟨_,rfl,E0,o39⟩
  ·intro s42 W43 sg44 hS45 iv hq
   obtain⟨d16,rfl,E0,o15⟩:=iv
   exact⟨.ref p6,rfl,hq p6 W43 E0 fr9 o15⟩
theorem wQ {f:Addr} {fd:FuncData} (F:Fun K "least" "least" (tp 23) f fd) {nw:(Tx×Tx×Int)→(List (Tx×Tx×Tx))→Int→Int→Res (List (List (Int×Int)))} (Z43:Cal P w K mg base "search" ["tablet","strip","loose","bound"] (6) (jL (isT3 K isS isS isI) (isL (isT3 K isS isS isS)) isI isI (ro (isL (isT2 K isI isI))) nw)) (h_len:mg "len" =none):FnOk P w K mg base CX0 (7) f fd ["tablet","strip","loose"] (da (isT3 K isS isS isI) (isL (isT3 K isS isS isS)) isI (rs (isO isI)) (vP nw)):=by
 have SC:FnScope ["tablet","strip","loose","bound"] ["tablet","strip","loose"] (defScope (tp 23)):=⟨rfl,rfl,rfl,by decide +kernel,rfl,by decide +kernel,by decide +kernel⟩
 refine F.ok SC (fun vs H Q E h=>?_) (fun cdv A outer s H vs Q E hr h=>?_)
 ·obtain⟨_,_,_,_,_,_,_,_,rfl,_⟩:=h;rfl
 ·obtain⟨W0,tablet,strip,loose,Z07,Z0Y,_,rfl,rfl,Z05,Z0s,Z1n,Er,hq⟩:=h
  cases Z1n
  refine⟨_,(ae (br (aA (ld hr.units0) (aH (cz (K:=K) rfl) (ap Z43 (hr.mono (by decide)) (by rfl) (a0 (pv 0) (a0 (pv 1) (a0 (pv 2) (a0 (aF (bS (K:=K) rfl) (by rfl) h_len PySem.boot_len (a0 (pv 1) ac)) ac))))) (jt gB aa) (fun _ _=>rfl)) (cb ac) (aD _)) (af (ar iO)) aM)
   (ae (ao (i:=3) SC.nd rfl (by first | exact Or.inl rfl | exact Or.inr rfl) aa)
   (ae (nN PassesOwn.never (aA (ld hr.units0) (aH (cz (K:=K) rfl) (ap Z43 (hr.mono (by decide)) (by rfl) (a0 (pv 0) (a0 (pv 1) (a0 (pv 2) (a0 (pv 3) ac))))) (jt gB aa) (fun _ _=>rfl)) (cb ac) (aD _)) (af (sD (i:=3) SC.nd rfl (by first | exact Or.inl rfl | exact Or.inr rfl) aa sE)))
   (af (ar (pv 3)))))),?_⟩
  have E0:Ext W0 W0:=.refl W0
  rw[show L2.start ["tablet","strip","loose","bound"] [Z07,Z0Y,.int loose]=[some Z07,some Z0Y,some (.int loose),none]from rfl]
  unfold vP at hq
  refine dj (Er:=Er) (aG (lf (EV.pk (eE (EVo.pk (iy (a8 (R:=sh (isT3 K isS isS isI)) Z05) (a8 (R:=sh (isL (isT3 K isS isS isS))) Z0s) (a8 (R:=sh isI) (a:=loose) (v:=.int loose) rfl) (ft (EV.pk (a8 (R:=sh (isL (isT3 K isS isS isS))) Z0s))))) (gQ ah))))) ((Res.okE_bind hq).imp fun y3 hq W4 e5=>?_)
  have E0:=E0.trans e5
  have Z05:=Mono.mono (R:=(isT3 K isS isS isI)) e5.g Z05
  have Z0s:=Mono.mono (R:=(isL (isT3 K isS isS isS))) e5.g Z0s
  by_cases hb38:y3=true
  ·rw[if_pos hb38]at hq ⊢
   exact aO (Er:=Er) (R:=sh (isO isI)) (lI (R:=isI)) (fun v6 W7 e8 h9=>hq v6 W7 (E0.trans e8) h9)
  ·rw[if_neg hb38]at hq ⊢
   try dsimp only[aE]
   refine am (Er:=Er) (i:=3) (R:=sh isI) (σ':=fun v12=>[some Z07,some Z0Y,some (.int loose),some v12]) ah (fun v12 W10 e11 h13=>?_)
   cases h13
   have E0:=E0.trans e11
   have Z05:=Mono.mono (R:=(isT3 K isS isS isI)) e11.g Z05
   have Z0s:=Mono.mono (R:=(isL (isT3 K isS isS isS))) e11.g Z0s
   refine kY (Er:=Er) (c:=(vN nw tablet strip loose)) (f:=vO) (s0:=(0:Int)) (n:=cap) (Iv:=fun(s16:Int) (W17:Wd) (g18:St)=>g18=[some Z07,some Z0Y,some (.int loose),some (.int s16)]∧Ext W0 W17) (Res.okE_bind hq) ?_ ?_ ?_ ?_ ?_
   ·exact⟨rfl,E0⟩
   ·intro W20 W21 s15 sg22 e26 iv
    obtain⟨rfl,E0⟩:=iv
    have E0:=E0.trans e26
    exact⟨rfl,E0⟩
   ·intro W20 s15 sg22 hW24 iv
    obtain⟨rfl,E0⟩:=iv
    have Z05:=Mono.mono (R:=(isT3 K isS isS isI)) hW24 Z05
    have Z0s:=Mono.mono (R:=(isL (isT3 K isS isS isS))) hW24 Z0s
    unfold vN
    exact(aG (lf (EV.pk (eE (EVo.pk (iy (a8 (R:=sh (isT3 K isS isS isI)) Z05) (a8 (R:=sh (isL (isT3 K isS isS isS))) Z0s) (a8 (R:=sh isI) (a:=loose) (v:=.int loose) rfl) (a8 (R:=sh isI) (a:=s15) (v:=.int s15) rfl))) (gQ ah)))))
   ·intro Wb19 W20 s15 sg22 P23 hW24 hB25 iv hq
    obtain⟨rfl,E0⟩:=iv
    have Z05:=Mono.mono (R:=(isT3 K isS isS isI)) hW24 Z05
    have Z0s:=Mono.mono (R:=(isL (isT3 K isS isS isS))) hW24 Z0s
    unfold vO at hq
    refine qO (Er:=Er) (i:=3) (a:=s15) (σ':=fun c=>[some Z07,some Z0Y,some (.int loose),some (.int c)]) ah (fun W29 e30=>?_)
    have E0:=E0.trans e30
    have hB25:=hB25.trans e30.g
    have Z05:=Mono.mono (R:=(isT3 K isS isS isI)) e30.g Z05
    have Z0s:=Mono.mono (R:=(isL (isT3 K isS isS isS))) e30.g Z0s
    try dsimp only
    refine cj (W:=W29) (s15+(1:Int)) hB25 ?_ hq
    exact⟨rfl,E0⟩
   ·intro s31 W32 sg33 hS34 iv hq
    obtain⟨rfl,E0⟩:=iv
    exact aO (Er:=Er) (R:=sh (isO isI)) (jO (a8 (R:=sh isI) (a:=s31) (v:=.int s31) rfl)) (fun v35 W36 e37 h38=>hq v35 W36 (E0.trans e37) h38)
theorem uT {f:Addr} {fd:FuncData} (F:Fun K "law" "law" (tp 46) f fd) {qg:List Int→Int→Res ((Tx×Tx×Int)×(List (Tx×Tx×Tx))×Int)} {rq:Int→Res (List Tx)} {mm:(Tx×Tx×Int)→(List (Tx×Tx×Tx))→Int→Int→Tx→Res Bool} {mn:(Tx×Tx×Int)→Tx→Res Int} {qj:(Tx×Tx×Int)→(List (Tx×Tx×Tx))→Int→Res (Option Int)} (Z2N:Cal P w K mg base "_law_small" ["_law_script","_law_most"] (5) (bo (isScr K) isI (rs (isT3 K (isT3 K isS isS isI) (isL (isT3 K isS isS isS)) isI)) qg)) (Z44:Cal P w K mg base "_law_all" ["_law_many"] (1) (cD isI (rs (isL isS)) rq)) (Z3q:Cal P w K mg base "_law_does" ["_law_card_here","_law_strip","_law_loose","_law_bound","_law_text"] (4) (gS (isT3 K isS isS isI) (isL (isT3 K isS isS isS)) isI isI isS (rs isB) mm)) (Z3r:Cal P w K mg base "_law_peak" ["_law_card_here","_law_turns_here"] (3) (bo (isT3 K isS isS isI) isS (rs isI) mn)) (Z0V:Cal P w K mg base "_law_same" ["_law_found","_law_due"] 26 (eY K 26)) (Z55:Cal P w K mg base "least" ["tablet","strip","loose"] (7) (da (isT3 K isS isS isI) (isL (isT3 K isS isS isS)) isI (rs (isO isI)) qj)) (h_len:mg "len" =none) (h_list:mg "list" =none):FnOk P w K mg base CX0 (27) f fd ["_law_script"] (cD (isScr K) (rs isB) (mr qg rq mm mn qj)):=by
 have SC:FnScope ["_law_script","_law_card_here","_law_strip","_law_loose","_law_due","_law_text","_law_far","_law_hand"] ["_law_script"] (defScope (tp 46)):=⟨rfl,rfl,rfl,by decide +kernel,rfl,by decide +kernel,by decide +kernel⟩
 refine F.ok SC (fun vs H Q E h=>?_) (fun cdv A outer s H vs Q E hr h=>?_)
 ·obtain⟨_,_,_,_,rfl,_⟩:=h;rfl
 ·obtain⟨W0,Z0e,Z0a,rfl,rfl,Z06,Er,hq⟩:=h
  refine⟨_,(ae (eo (ap Z2N (hr.mono (by decide)) (by rfl) (a0 (pv 0) (a0 aa ac))) (ca (K:=K) (n:=3) rfl rfl (au (al (i:=1) SC.nd rfl (by first | exact Or.inl rfl | exact Or.inr rfl)) (au (al (i:=2) SC.nd rfl (by first | exact Or.inl rfl | exact Or.inr rfl)) (au (al (i:=3) SC.nd rfl (by first | exact Or.inl rfl | exact Or.inr rfl)) bZ)))))
   (ae (ao (i:=4) SC.nd rfl (by first | exact Or.inl rfl | exact Or.inr rfl) iO)
   (ae (ci PassesOwn.never rfl (cA (K:=K) rfl (ap Z44 (hr.mono (by decide)) (by rfl) (a0 (aF (bS (K:=K) rfl) (by rfl) h_len PySem.boot_len (a0 (pv 2) ac)) ac))) (al (i:=5) SC.nd rfl (by first | exact Or.inl rfl | exact Or.inr rfl)) (af (br (cE (ap Z3q (hr.mono (by decide)) (by rfl) (a0 (pv 1) (a0 (pv 2) (a0 (pv 3) (a0 (aF (bS (K:=K) rfl) (by rfl) h_len PySem.boot_len (a0 (pv 2) ac)) (a0 (pv 5) ac))))))) (ae (ao (i:=6) SC.nd rfl (by first | exact Or.inl rfl | exact Or.inr rfl) (ap Z3r (hr.mono (by decide)) (by rfl) (a0 (pv 1) (a0 (pv 5) ac))))
   (af (br (PW.pt (lw (aA op_isN (pv 4) iO (aD _)) (kF (aA nU (pv 6) (pv 4) (aD _))))) (af (ao (i:=4) SC.nd rfl (by first | exact Or.inl rfl | exact Or.inr rfl) (pv 6))) aM))) aM)))
   (ae (ao (i:=7) SC.nd rfl (by first | exact Or.inl rfl | exact Or.inr rfl) (eQ (i9 (K:=K) rfl) (by rfl) h_list PyProof.Rows.boot_list (a0 (pv 2) ac)))
   (ae (br (iP (cE (ap Z0V (hr.mono (by decide)) (by rfl) (a0 (ap Z55 (hr.mono (by decide)) (by rfl) (a0 (pv 1) (a0 (pv 7) (a0 (pv 3) ac)))) (a0 (pv 4) ac))))) (af (ar dw)) aM)
   (af (ar (fI (ap Z0V (hr.mono (by decide)) (by rfl) (a0 (pv 7) (a0 (pv 2) ac))) (fH (ap Z0V (hr.mono (by decide)) (by rfl) (a0 (ap Z55 (hr.mono (by decide)) (by rfl) (a0 (pv 1) (a0 (pv 7) (a0 (pv 3) ac)))) (a0 (pv 4) ac)))))))))))),?_⟩
  have E0:Ext W0 W0:=.refl W0
  rw[show L2.start ["_law_script","_law_card_here","_law_strip","_law_loose","_law_due","_law_text","_law_far","_law_hand"] [Z0a]=[some Z0a,none,none,none,none,none,none,none]from rfl]
  unfold mr at hq
  refine dC (Er:=Er) (R:=sh (isT3 K (isT3 K isS isS isI) (isL (isT3 K isS isS isS)) isI)) (aU (a8 (R:=sh (isScr K)) Z06) ah) ((Res.okE_bind hq).imp fun y1 hq v2 W3 e4 h5=>?_)
  have E0:=E0.trans e4
  refine oK (σ':=fun v6 v8 v10=>[some Z0a,some v6,some v8,some v10,none,none,none,none]) h5 fun v6 v8 v10 h7 h9 h11=>?_
  cases h11
  refine am (Er:=Er) (i:=4) (R:=sh (isO isI)) (σ':=fun v14=>[some Z0a,some v6,some v8,some (.int y1.2.2),some v14,none,none,none]) (lI (R:=isI)) (fun v14 W12 e13 h15=>?_)
  have E0:=E0.trans e13
  have h7:=Mono.mono (R:=(isT3 K isS isS isI)) e13.g h7
  have h9:=Mono.mono (R:=(isL (isT3 K isS isS isS))) e13.g h9
  refine cB (Er:=Er) (f:=(dF mm mn y1)) (s0:=(none:Option Int)) (Iv:=fun(s18:(Option Int)) (W19:Wd) (g20:St)=>∃(v21:V) (d23:Option V) (d24:Option V),g20=[some Z0a,some v6,some v8,some (.int y1.2.2),some v21,d24,d23,none]∧Ext W0 W19∧(isO isI) W19.G s18 v21) (cV (cf (ft (EV.pk (a8 (R:=sh (isL (isT3 K isS isS isS))) h9))))) (Res.okE_bind hq) ?_ ?_ ?_
  ·intro W36 e37
   have E0:=E0.trans e37
   have h7:=Mono.mono (R:=(isT3 K isS isS isI)) e37.g h7
   have h9:=Mono.mono (R:=(isL (isT3 K isS isS isS))) e37.g h9
   have h15:=Mono.mono (R:=(isO isI)) e37.g h15
   exact⟨_,_,_,rfl,E0,h15⟩
  ·intro Wb25 W26 W27 a16 v28 s17 sg29 P30 hW31 hB32 iv e33 h34 hq
   obtain⟨v21,d23,d24,rfl,E0,h22⟩:=iv
   have h7:=Mono.mono (R:=(isT3 K isS isS isI)) hW31 h7
   have h9:=Mono.mono (R:=(isL (isT3 K isS isS isS))) hW31 h9
   have E0:=E0.trans e33
   have hB32:=hB32.trans e33.g
   have h7:=Mono.mono (R:=(isT3 K isS isS isI)) e33.g h7
   have h9:=Mono.mono (R:=(isL (isT3 K isS isS isS))) e33.g h9
   have h22:=Mono.mono (R:=(isO isI)) e33.g h22
   cases h34
   refine gn (σ':=[some Z0a,some v6,some v8,some (.int y1.2.2),some v21,some (.str (aj a16)),d23,none]) ?_
   unfold dF at hq
   refine fT (Er:=Er) (Iv:=fun(s79:(Option Int)) (W80:Wd) (g81:St)=>∃(v82:V) (d84:Option V),g81=[some Z0a,some v6,some v8,some (.int y1.2.2),some v82,some (.str (aj a16)),d84,none]∧Ext W0 W80∧(isO isI) W80.G s79 v82) (n0 (oH (a8 (R:=sh (isT3 K isS isS isI)) h7) (a8 (R:=sh (isL (isT3 K isS isS isS))) h9) (a8 (R:=sh isI) (a:=y1.2.2) (v:=.int y1.2.2) rfl) (ft (EV.pk (a8 (R:=sh (isL (isT3 K isS isS isS))) h9))) (a8 (R:=sh isS) (a:=a16) (v:=.str (aj a16)) rfl))) (Res.okE_bind hq) ?_ ?_ ?_
   ·intro W41 N44 e42 hN45 hq
    have hs46:=e42.g
    have E0:=E0.trans e42
    have hB32:=hB32.trans e42.g
    have h7:=Mono.mono (R:=(isT3 K isS isS isI)) e42.g h7
    have h9:=Mono.mono (R:=(isL (isT3 K isS isS isS))) e42.g h9
    have h22:=Mono.mono (R:=(isO isI)) e42.g h22
    refine am (Er:=Er) (i:=6) (R:=sh isI) (σ':=fun v50=>[some Z0a,some v6,some v8,some (.int y1.2.2),some v21,some (.str (aj a16)),some v50,none]) (aU (a8 (R:=sh (isT3 K isS isS isI)) h7) (a8 (R:=sh isS) (a:=a16) (v:=.str (aj a16)) rfl)) ((Res.okE_bind hq).imp fun y49 hq v50 W47 e48 h51=>?_)
    cases h51
    have E0:=E0.trans e48
    have hB32:=hB32.trans e48.g
    have hs46:=hs46.trans e48.g
    have h7:=Mono.mono (R:=(isT3 K isS isS isI)) e48.g h7
    have h9:=Mono.mono (R:=(isL (isT3 K isS isS isS))) e48.g h9
    have h22:=Mono.mono (R:=(isO isI)) e48.g h22
    refine fT (Er:=Er) (Iv:=fun(s69:(Option Int)) (W70:Wd) (g71:St)=>∃(v72:V),g71=[some Z0a,some v6,some v8,some (.int y1.2.2),some v72,some (.str (aj a16)),some (.int y49),none]∧Ext W0 W70∧(isO isI) W70.G s69 v72) (sf (aG (sY (a8 (R:=sh (isO isI)) h22))) (aG (d9 (a8 (R:=sh isI) (a:=y49) (v:=.int y49) rfl) (t9 (a8 (R:=sh (isO isI)) h22))))) (Res.okE_bind hq) ?_ ?_ ?_
    ·intro W54 N57 e55 hN58 hq
     have hs59:=e55.g
     have E0:=E0.trans e55
     have hB32:=hB32.trans e55.g
     have hs46:=hs46.trans e55.g
     have h7:=Mono.mono (R:=(isT3 K isS isS isI)) e55.g h7
     have h9:=Mono.mono (R:=(isL (isT3 K isS isS isS))) e55.g h9
     have h22:=Mono.mono (R:=(isO isI)) e55.g h22
     refine cG (Er:=Er) (i:=4) (R:=sh (isO isI)) (σ':=fun v62=>[some Z0a,some v6,some v8,some (.int y1.2.2),some v62,some (.str (aj a16)),some (.int y49),none]) (jO (a8 (R:=sh isI) (a:=y49) (v:=.int y49) rfl)) (fun v62 W60 e61 h63=>?_)
     have E0:=E0.trans e61
     have hB32:=hB32.trans e61.g
     have hs46:=hs46.trans e61.g
     have hs59:=hs59.trans e61.g
     have h7:=Mono.mono (R:=(isT3 K isS isS isI)) e61.g h7
     have h9:=Mono.mono (R:=(isL (isT3 K isS isS isS))) e61.g h9
     exact hN58 (some y49) W60 _ hs59 ⟨_,rfl,E0,h63⟩ hq
    ·intro W54 N57 e55 hN58 hq
     have hs64:=e55.g
     have E0:=E0.trans e55
     have hB32:=hB32.trans e55.g
     have hs46:=hs46.trans e55.g
     have h7:=Mono.mono (R:=(isT3 K isS isS isI)) e55.g h7
     have h9:=Mono.mono (R:=(isL (isT3 K isS isS isS))) e55.g h9
     have h22:=Mono.mono (R:=(isO isI)) e55.g h22
     try dsimp only[aE]
     exact hN58 s17 W54 _ hs64 ⟨_,rfl,E0,h22⟩ hq
    ·intro s65 W66 sg67 hS68 iv hq
     obtain⟨v72,rfl,E0,h73⟩:=iv
     have hB32:=hB32.trans hS68
     have hs46:=hs46.trans hS68
     have h7:=Mono.mono (R:=(isT3 K isS isS isI)) hS68 h7
     have h9:=Mono.mono (R:=(isL (isT3 K isS isS isS))) hS68 h9
     exact hN45 s65 W66 _ hs46 ⟨_,_,rfl,E0,h73⟩ hq
   ·intro W41 N44 e42 hN45 hq
    have hs74:=e42.g
    have E0:=E0.trans e42
    have hB32:=hB32.trans e42.g
    have h7:=Mono.mono (R:=(isT3 K isS isS isI)) e42.g h7
    have h9:=Mono.mono (R:=(isL (isT3 K isS isS isS))) e42.g h9
    have h22:=Mono.mono (R:=(isO isI)) e42.g h22
    try dsimp only[aE]
    exact hN45 s17 W41 _ hs74 ⟨_,_,rfl,E0,h22⟩ hq
   ·intro s75 W76 sg77 hS78 iv hq
    obtain⟨v82,d84,rfl,E0,h83⟩:=iv
    have hB32:=hB32.trans hS78
    have h7:=Mono.mono (R:=(isT3 K isS isS isI)) hS78 h7
    have h9:=Mono.mono (R:=(isL (isT3 K isS isS isS))) hS78 h9
    try dsimp only
    refine cj (W:=W76) s75 hB32 ?_ hq
    exact⟨_,_,_,rfl,E0,h83⟩
  ·intro s86 W87 sg88 hS89 iv hq
   obtain⟨v21,d23,d24,rfl,E0,h22⟩:=iv
   have h7:=Mono.mono (R:=(isT3 K isS isS isI)) hS89 h7
   have h9:=Mono.mono (R:=(isL (isT3 K isS isS isS))) hS89 h9
   refine am (Er:=Er) (i:=7) (R:=sh (isL (isT3 K isS isS isS))) (σ':=fun v92=>[some Z0a,some v6,some v8,some (.int y1.2.2),some v21,d24,d23,some v92]) (EVo.ev (oO (EV.pk (a8 (R:=sh (isL (isT3 K isS isS isS))) h9)))) (fun v92 W90 e91 h93=>?_)
   have E0:=E0.trans e91
   have h7:=Mono.mono (R:=(isT3 K isS isS isI)) e91.g h7
   have h9:=Mono.mono (R:=(isL (isT3 K isS isS isS))) e91.g h9
   have h22:=Mono.mono (R:=(isO isI)) e91.g h22
   refine dj (Er:=Er) (sZ (n0 (gX (by decide) (dB (a8 (R:=sh (isT3 K isS isS isI)) h7) (a8 (R:=sh (isL (isT3 K isS isS isS))) h93) (a8 (R:=sh isI) (a:=y1.2.2) (v:=.int y1.2.2) rfl)) (a8 (R:=sh (isO isI)) h22)))) ((Res.okE_bind hq).imp fun y96 hq W97 e98=>?_)
   have E0:=E0.trans e98
   have h7:=Mono.mono (R:=(isT3 K isS isS isI)) e98.g h7
   have h9:=Mono.mono (R:=(isL (isT3 K isS isS isS))) e98.g h9
   have h22:=Mono.mono (R:=(isO isI)) e98.g h22
   have h93:=Mono.mono (R:=(isL (isT3 K isS isS isS))) e98.g h93
   by_cases hb109:y96=true
   ·rw[if_pos hb109]at hq ⊢
    exact aO (Er:=Er) (R:=sh isB) ix (fun v99 W100 e101 h102=>hq v99 W100 (E0.trans e101) h102)
   ·rw[if_neg hb109]at hq ⊢
    try dsimp only[aE]
    exact aO (Er:=Er) (R:=sh isB) (oD (gX (by decide) (a8 (R:=sh (isL (isT3 K isS isS isS))) h93) (a8 (R:=sh (isL (isT3 K isS isS isS))) h9)) (gX (by decide) (dB (a8 (R:=sh (isT3 K isS isS isI)) h7) (a8 (R:=sh (isL (isT3 K isS isS isS))) h93) (a8 (R:=sh isI) (a:=y1.2.2) (v:=.int y1.2.2) rfl)) (a8 (R:=sh (isO isI)) h22))) (Res.OkE.imp hq fun y105 hq v106 W107 e108 h109=>hq v106 W107 (E0.trans e108) h109)
end
end Wb
namespace Wb
open PySem L2
section
variable {P:Program} {w:World} {K:PySem.W.Frag} {mg:Str→Option Value} {base:Heap}
theorem rE {f:Addr} {fd:FuncData} {ps:List Str} {k:Nat} :FnOk P w K mg base CX0 k f fd ps (eY K 0):=⟨fun _ _ _ _ h=>h.elim,fun _ _ _ _ _ _ _ _ _ _ _ _ _ h=>h.elim⟩
theorem ig {K:PySem.W.Frag} (a b:String) (r:Bool) (h:PySem.W.kitOne [] (.type a) (.type b)=some r):PySem.W.kitOne K (.type a) (.type b)=some r:=by first | exact h | (rw[←h];rfl)
theorem eK {c:TT} {t rest:TS} {D:Ends} {σ:St} {H:Hp} (h:∀Q:Bool→Hp→Prop,Q false H→c σ H Q) (k:rest D σ H):em (gf c t aE) rest D σ H:=h _ k
theorem kf {c:TT} {t rest:TS} {D:Ends} {σ:St} {H:Hp} (h:∀Q:Bool→Hp→Prop,Q true H→c σ H Q) (k:t {D with nx:=rest D} σ H):em (gf c t aE) rest D σ H:=h _ k
theorem pN {f:Addr} {fd:FuncData} (F:Fun K "_law_same" "_law_same" (tp 45) f fd) (h_len:mg "len" =none) (h_isinstance:mg "isinstance" =none) (h_bool:mg "bool" =none) (h_int:mg "int" =none) (h_str:mg "str" =none) (h_list:mg "list" =none) (h_tuple:mg "tuple" =none) (h_zip:mg "zip" =none) {n:Nat}
  (Z0V:Cal P w K mg base "_law_same" ["_law_found","_law_due"] n (eY K n)):FnOk P w K mg base CX0 (n+1) f fd ["_law_found","_law_due"] (eY K (n+1)):=by
 have SC:FnScope ["_law_found","_law_due","_law_one","_law_other"] ["_law_found","_law_due"] (defScope (tp 45)):=⟨rfl,rfl,rfl,by decide +kernel,rfl,by decide +kernel,by decide +kernel⟩
 refine F.ok SC (fun vs H Q E h=>?_) (fun cdv A outer s H vs Q E hr h=>?_)
 ·obtain⟨v,u,rfl,_⟩:=h;rfl
 ·obtain⟨v,u,rfl,h⟩:=h
  have hr:Room n _:=hr
  refine⟨_,(ae (br (PW.pt (lw (aA (op_isN.or gG) (pv 1) iO (aD _)) (lw (aA (op_isN.or gG) (pv 1) dw (aD _)) (kF (aA (op_isN.or gG) (pv 1) dw (aD _)))))) (af (ar (fI (cy cm (aF (aX (K:=K) rfl) (by rfl) h_isinstance PyProof.Rows.boot_isinstance (a0 (pv 0) (a0 (cx (v:=.ty "bool") (by rfl) h_bool PyProof.Rows.boot_bool rfl) ac))) (aF (aX (K:=K) rfl) (by rfl) h_isinstance PyProof.Rows.boot_isinstance (a0 (pv 1) (a0 (cx (v:=.ty "bool") (by rfl) h_bool PyProof.Rows.boot_bool rfl) ac))) (aD _)) (fH (cy cm (pv 0) (pv 1) (aD _)))))) aM)
   (ae (br (cE (aF (aX (K:=K) rfl) (by rfl) h_isinstance PyProof.Rows.boot_isinstance (a0 (pv 1) (a0 (cx (v:=.ty "int") (by rfl) h_int PyProof.Rows.boot_int rfl) ac)))) (af (ar (fI (aF (aX (K:=K) rfl) (by rfl) h_isinstance PyProof.Rows.boot_isinstance (a0 (pv 0) (a0 (cx (v:=.ty "int") (by rfl) h_int PyProof.Rows.boot_int rfl) ac))) (fI (sA (aF (aX (K:=K) rfl) (by rfl) h_isinstance PyProof.Rows.boot_isinstance (a0 (pv 0) (a0 (cx (v:=.ty "bool") (by rfl) h_bool PyProof.Rows.boot_bool rfl) ac)))) (fH (cy cm (pv 0) (pv 1) (aD _))))))) aM)
   (ae (br (cE (aF (aX (K:=K) rfl) (by rfl) h_isinstance PyProof.Rows.boot_isinstance (a0 (pv 1) (a0 (cx (v:=.ty "str") (by rfl) h_str PyProof.Rows.boot_str rfl) ac)))) (af (ar (fI (aF (aX (K:=K) rfl) (by rfl) h_isinstance PyProof.Rows.boot_isinstance (a0 (pv 0) (a0 (cx (v:=.ty "str") (by rfl) h_str PyProof.Rows.boot_str rfl) ac))) (fH (cy cm (pv 0) (pv 1) (aD _)))))) aM)
   (ae (br (PW.pt (dH (cE (aF (aX (K:=K) rfl) (by rfl) h_isinstance PyProof.Rows.boot_isinstance (a0 (pv 1) (a0 (cx (v:=.ty "list") (by rfl) h_list PyProof.Rows.boot_list rfl) ac)))) (dg (iP (cE (aF (aX (K:=K) rfl) (by rfl) h_isinstance PyProof.Rows.boot_isinstance (a0 (pv 0) (a0 (cx (v:=.ty "list") (by rfl) h_list PyProof.Rows.boot_list rfl) ac)))))))) (af (ar dw)) aM)
   (ae (br (PW.pt (dH (cE (aF (aX (K:=K) rfl) (by rfl) h_isinstance PyProof.Rows.boot_isinstance (a0 (pv 1) (a0 (cx (v:=.ty "tuple") (by rfl) h_tuple PyProof.Rows.boot_tuple rfl) ac)))) (dg (iP (cE (aF (aX (K:=K) rfl) (by rfl) h_isinstance PyProof.Rows.boot_isinstance (a0 (pv 0) (a0 (cx (v:=.ty "tuple") (by rfl) h_tuple PyProof.Rows.boot_tuple rfl) ac)))))))) (af (ar dw)) aM)
   (ae (br (aA gC (aF (bS (K:=K) rfl) (by rfl) h_len PySem.boot_len (a0 (pv 0) ac)) (aF (bS (K:=K) rfl) (by rfl) h_len PySem.boot_len (a0 (pv 1) ac)) (aD _)) (af (ar dw)) aM)
   (ae (ci PassesOwn.never rfl (fk (K:=K) rfl rfl h_zip (a0 (pv 0) (a0 (pv 1) ac))) (ca (K:=K) (n:=2) rfl rfl (au (al (i:=2) SC.nd rfl (by first | exact Or.inl rfl | exact Or.inr rfl)) (au (al (i:=3) SC.nd rfl (by first | exact Or.inl rfl | exact Or.inr rfl)) bZ))) (af (br (iP (cE (ap Z0V hr (by rfl) (a0 (pv 2) (a0 (pv 3) ac))))) (af (ar dw)) aM)))
   (af (ar dw))))))))),?_⟩
  rcases h with⟨he,q⟩ | ⟨x,y,rfl,rfl,q⟩
  rotate_left
  ·refine eK (fun Q q=>?_) (eK (fun Q q=>?_) (kf (fun Q q=>?_) ?_))
   ·simp only[bQ,bb,cv,bz,tC,cX,ai,aR,bM,aE,bu,aN,bG,aW,bN,tB,dQ,rU,de,rI,bO,bI,aP,aY,ed,bT,dZ,bU,ba,bV,be,dJ,bc,aB,dh,dW,dR,dU,bW,bY,bJ,bP,bX,ax,aI,L2.start,List.map_cons,List.map_nil,List.cons_append,List.nil_append,List.append_nil,List.length_cons,List.length_nil,List.replicate,List.set_cons_zero,List.set_cons_succ,List.getElem?_cons_zero,List.getElem?_cons_succ,Option.some.injEq,exists_eq_left',exists_eq_left,exists_and_left,exists_eq',exists_const,V.int.injEq,V.bl.injEq,V.str.injEq,V.ref.injEq,V.ty.injEq,List.cons.injEq,and_true,true_and,reduceCtorEq,false_and,and_false,exists_false,or_false,false_or,decide_eq_true_eq,Bool.not_eq_true',decide_eq_false_iff_not,if_true,if_false,Bool.false_eq_true,ite_true,ite_false,Bool.not_true,Bool.not_false,Nat.reduceAdd,Nat.reduceSub,and_assoc];exact q
   ·simp only[bQ,bb,cv,bz,tC,cX,ai,aR,bM,aE,bu,aN,bG,aW,bN,tB,dQ,rU,de,rI,bO,bI,aP,aY,ed,bT,dZ,bU,ba,bV,be,dJ,bc,aB,dh,dW,dR,dU,bW,bY,bJ,bP,bX,ax,aI,L2.start,List.map_cons,List.map_nil,List.cons_append,List.nil_append,List.append_nil,List.length_cons,List.length_nil,List.replicate,List.set_cons_zero,List.set_cons_succ,List.getElem?_cons_zero,List.getElem?_cons_succ,Option.some.injEq,exists_eq_left',exists_eq_left,exists_and_left,exists_eq',exists_const,V.int.injEq,V.bl.injEq,V.str.injEq,V.ref.injEq,V.ty.injEq,List.cons.injEq,and_true,true_and,reduceCtorEq,false_and,and_false,exists_false,or_false,false_or,decide_eq_true_eq,Bool.not_eq_true',decide_eq_false_iff_not,if_true,if_false,Bool.false_eq_true,ite_true,ite_false,Bool.not_true,Bool.not_false,Nat.reduceAdd,Nat.reduceSub,and_assoc];exact⟨_,.str _,_,ig "str" "int" false rfl,q⟩
   ·simp only[bQ,bb,cv,bz,tC,cX,ai,aR,bM,aE,bu,aN,bG,aW,bN,tB,dQ,rU,de,rI,bO,bI,aP,aY,ed,bT,dZ,bU,ba,bV,be,dJ,bc,aB,dh,dW,dR,dU,bW,bY,bJ,bP,bX,ax,aI,L2.start,List.map_cons,List.map_nil,List.cons_append,List.nil_append,List.append_nil,List.length_cons,List.length_nil,List.replicate,List.set_cons_zero,List.set_cons_succ,List.getElem?_cons_zero,List.getElem?_cons_succ,Option.some.injEq,exists_eq_left',exists_eq_left,exists_and_left,exists_eq',exists_const,V.int.injEq,V.bl.injEq,V.str.injEq,V.ref.injEq,V.ty.injEq,List.cons.injEq,and_true,true_and,reduceCtorEq,false_and,and_false,exists_false,or_false,false_or,decide_eq_true_eq,Bool.not_eq_true',decide_eq_false_iff_not,if_true,if_false,Bool.false_eq_true,ite_true,ite_false,Bool.not_true,Bool.not_false,Nat.reduceAdd,Nat.reduceSub,and_assoc];exact⟨_,.str _,_,ig "str" "str" true rfl,q⟩
   ·simp only[bQ,bb,cv,bz,tC,cX,ai,aR,bM,aE,bu,aN,bG,aW,bN,tB,dQ,rU,de,rI,bO,bI,aP,aY,ed,bT,dZ,bU,ba,bV,be,dJ,bc,aB,dh,dW,dR,dU,bW,bY,bJ,bP,bX,ax,aI,L2.start,List.map_cons,List.map_nil,List.cons_append,List.nil_append,List.append_nil,List.length_cons,List.length_nil,List.replicate,List.set_cons_zero,List.set_cons_succ,List.getElem?_cons_zero,List.getElem?_cons_succ,Option.some.injEq,exists_eq_left',exists_eq_left,exists_and_left,exists_eq',exists_const,V.int.injEq,V.bl.injEq,V.str.injEq,V.ref.injEq,V.ty.injEq,List.cons.injEq,and_true,true_and,reduceCtorEq,false_and,and_false,exists_false,or_false,false_or,decide_eq_true_eq,Bool.not_eq_true',decide_eq_false_iff_not,if_true,if_false,Bool.false_eq_true,ite_true,ite_false,Bool.not_true,Bool.not_false,Nat.reduceAdd,Nat.reduceSub,and_assoc]
    refine⟨_,.str _,_,ig "str" "str" true rfl,?_⟩
    simp only[bQ,bb,cv,bz,tC,cX,ai,aR,bM,aE,bu,aN,bG,aW,bN,tB,dQ,rU,de,rI,bO,bI,aP,aY,ed,bT,dZ,bU,ba,bV,be,dJ,bc,aB,dh,dW,dR,dU,bW,bY,bJ,bP,bX,ax,aI,L2.start,List.map_cons,List.map_nil,List.cons_append,List.nil_append,List.append_nil,List.length_cons,List.length_nil,List.replicate,List.set_cons_zero,List.set_cons_succ,List.getElem?_cons_zero,List.getElem?_cons_succ,Option.some.injEq,exists_eq_left',exists_eq_left,exists_and_left,exists_eq',exists_const,V.int.injEq,V.bl.injEq,V.str.injEq,V.ref.injEq,V.ty.injEq,List.cons.injEq,and_true,true_and,reduceCtorEq,false_and,and_false,exists_false,or_false,false_or,decide_eq_true_eq,Bool.not_eq_true',decide_eq_false_iff_not,if_true,if_false,Bool.false_eq_true,ite_true,ite_false,Bool.not_true,Bool.not_false,Nat.reduceAdd,Nat.reduceSub,and_assoc]
    simpa using q
  have fl:∀v,L2.flat v=true→(∀H',Same H H'→Q (.bl true) H')→(v=.non∨(∃b,v=.bl b)∨(∃i,v=.int i)∨∃x,v=.str x):=fun v hv _=>by
   cases v with
   | non=>exact .inl rfl
   | bl b=>exact .inr (.inl ⟨b,rfl⟩)
   | int b=>exact .inr (.inr (.inl ⟨b,rfl⟩))
   | str b=>exact .inr (.inr (.inr ⟨b,rfl⟩))
   | _=>cases hv
  have he':(v=u∧L2.flat v=true)∨∃m p q xs ys,n=m+1∧v=.ref p∧u=.ref q∧((H p=some (.lst xs)∧H q=some (.lst ys))∨(SqT K H p xs∧SqT K H q ys))∧xs.length=ys.length∧∀(i:Nat) (x y:V),xs[i]? =some x→ys[i]? =some y→EqK K H m x y:=by
   cases n with
   | zero=>exact .inl he
   | succ m=>rcases he with z | ⟨p,q,xs,ys,z⟩;exact .inl z;exact .inr ⟨m,p,q,xs,ys,rfl,z⟩
  rcases he' with⟨rfl,hf⟩ | ⟨m,p,q',xs,ys,hnm,rfl,rfl,hk,hl,hi⟩
  ·rcases fl v hf q with rfl | ⟨b,rfl⟩ | ⟨i,rfl⟩ | ⟨x,rfl⟩
   ·refine kf (fun Q q=>?_) ?_
    ·simp only[bQ,bb,cv,bz,tC,cX,ai,aR,bM,aE,bu,aN,bG,aW,bN,tB,dQ,rU,de,rI,bO,bI,aP,aY,ed,bT,dZ,bU,ba,bV,be,dJ,bc,aB,dh,dW,dR,dU,bW,bY,bJ,bP,bX,ax,aI,L2.start,List.map_cons,List.map_nil,List.cons_append,List.nil_append,List.append_nil,List.length_cons,List.length_nil,List.replicate,List.set_cons_zero,List.set_cons_succ,List.getElem?_cons_zero,List.getElem?_cons_succ,Option.some.injEq,exists_eq_left',exists_eq_left,exists_and_left,exists_eq',exists_const,V.int.injEq,V.bl.injEq,V.str.injEq,V.ref.injEq,V.ty.injEq,List.cons.injEq,and_true,true_and,reduceCtorEq,false_and,and_false,exists_false,or_false,false_or,decide_eq_true_eq,Bool.not_eq_true',decide_eq_false_iff_not,if_true,if_false,Bool.false_eq_true,ite_true,ite_false,Bool.not_true,Bool.not_false,Nat.reduceAdd,Nat.reduceSub,and_assoc];exact q
    ·simp only[bQ,bb,cv,bz,tC,cX,ai,aR,bM,aE,bu,aN,bG,aW,bN,tB,dQ,rU,de,rI,bO,bI,aP,aY,ed,bT,dZ,bU,ba,bV,be,dJ,bc,aB,dh,dW,dR,dU,bW,bY,bJ,bP,bX,ax,aI,L2.start,List.map_cons,List.map_nil,List.cons_append,List.nil_append,List.append_nil,List.length_cons,List.length_nil,List.replicate,List.set_cons_zero,List.set_cons_succ,List.getElem?_cons_zero,List.getElem?_cons_succ,Option.some.injEq,exists_eq_left',exists_eq_left,exists_and_left,exists_eq',exists_const,V.int.injEq,V.bl.injEq,V.str.injEq,V.ref.injEq,V.ty.injEq,List.cons.injEq,and_true,true_and,reduceCtorEq,false_and,and_false,exists_false,or_false,false_or,decide_eq_true_eq,Bool.not_eq_true',decide_eq_false_iff_not,if_true,if_false,Bool.false_eq_true,ite_true,ite_false,Bool.not_true,Bool.not_false,Nat.reduceAdd,Nat.reduceSub,and_assoc]
     refine⟨_,.non,_,ig "NoneType" "bool" false rfl,_,.non,_,ig "NoneType" "bool" false rfl,?_⟩
     simp only[bQ,bb,cv,bz,tC,cX,ai,aR,bM,aE,bu,aN,bG,aW,bN,tB,dQ,rU,de,rI,bO,bI,aP,aY,ed,bT,dZ,bU,ba,bV,be,dJ,bc,aB,dh,dW,dR,dU,bW,bY,bJ,bP,bX,ax,aI,L2.start,List.map_cons,List.map_nil,List.cons_append,List.nil_append,List.append_nil,List.length_cons,List.length_nil,List.replicate,List.set_cons_zero,List.set_cons_succ,List.getElem?_cons_zero,List.getElem?_cons_succ,Option.some.injEq,exists_eq_left',exists_eq_left,exists_and_left,exists_eq',exists_const,V.int.injEq,V.bl.injEq,V.str.injEq,V.ref.injEq,V.ty.injEq,List.cons.injEq,and_true,true_and,reduceCtorEq,false_and,and_false,exists_false,or_false,false_or,decide_eq_true_eq,Bool.not_eq_true',decide_eq_false_iff_not,if_true,if_false,Bool.false_eq_true,ite_true,ite_false,Bool.not_true,Bool.not_false,Nat.reduceAdd,Nat.reduceSub,and_assoc]
     exact q H (.refl H)
   ·refine kf (fun Q q=>?_) ?_
    ·cases b <;> simp only[bQ,bb,cv,bz,tC,cX,ai,aR,bM,aE,bu,aN,bG,aW,bN,tB,dQ,rU,de,rI,bO,bI,aP,aY,ed,bT,dZ,bU,ba,bV,be,dJ,bc,aB,dh,dW,dR,dU,bW,bY,bJ,bP,bX,ax,aI,L2.start,List.map_cons,List.map_nil,List.cons_append,List.nil_append,List.append_nil,List.length_cons,List.length_nil,List.replicate,List.set_cons_zero,List.set_cons_succ,List.getElem?_cons_zero,List.getElem?_cons_succ,Option.some.injEq,exists_eq_left',exists_eq_left,exists_and_left,exists_eq',exists_const,V.int.injEq,V.bl.injEq,V.str.injEq,V.ref.injEq,V.ty.injEq,List.cons.injEq,and_true,true_and,reduceCtorEq,false_and,and_false,exists_false,or_false,false_or,decide_eq_true_eq,Bool.not_eq_true',decide_eq_false_iff_not,if_true,if_false,Bool.false_eq_true,ite_true,ite_false,Bool.not_true,Bool.not_false,Nat.reduceAdd,Nat.reduceSub,and_assoc] <;> exact q
    ·simp only[bQ,bb,cv,bz,tC,cX,ai,aR,bM,aE,bu,aN,bG,aW,bN,tB,dQ,rU,de,rI,bO,bI,aP,aY,ed,bT,dZ,bU,ba,bV,be,dJ,bc,aB,dh,dW,dR,dU,bW,bY,bJ,bP,bX,ax,aI,L2.start,List.map_cons,List.map_nil,List.cons_append,List.nil_append,List.append_nil,List.length_cons,List.length_nil,List.replicate,List.set_cons_zero,List.set_cons_succ,List.getElem?_cons_zero,List.getElem?_cons_succ,Option.some.injEq,exists_eq_left',exists_eq_left,exists_and_left,exists_eq',exists_const,V.int.injEq,V.bl.injEq,V.str.injEq,V.ref.injEq,V.ty.injEq,List.cons.injEq,and_true,true_and,reduceCtorEq,false_and,and_false,exists_false,or_false,false_or,decide_eq_true_eq,Bool.not_eq_true',decide_eq_false_iff_not,if_true,if_false,Bool.false_eq_true,ite_true,ite_false,Bool.not_true,Bool.not_false,Nat.reduceAdd,Nat.reduceSub,and_assoc]
     refine⟨_,.bl _,_,ig "bool" "bool" true rfl,_,.bl _,_,ig "bool" "bool" true rfl,?_⟩
     simp only[bQ,bb,cv,bz,tC,cX,ai,aR,bM,aE,bu,aN,bG,aW,bN,tB,dQ,rU,de,rI,bO,bI,aP,aY,ed,bT,dZ,bU,ba,bV,be,dJ,bc,aB,dh,dW,dR,dU,bW,bY,bJ,bP,bX,ax,aI,L2.start,List.map_cons,List.map_nil,List.cons_append,List.nil_append,List.append_nil,List.length_cons,List.length_nil,List.replicate,List.set_cons_zero,List.set_cons_succ,List.getElem?_cons_zero,List.getElem?_cons_succ,Option.some.injEq,exists_eq_left',exists_eq_left,exists_and_left,exists_eq',exists_const,V.int.injEq,V.bl.injEq,V.str.injEq,V.ref.injEq,V.ty.injEq,List.cons.injEq,and_true,true_and,reduceCtorEq,false_and,and_false,exists_false,or_false,false_or,decide_eq_true_eq,Bool.not_eq_true',decide_eq_false_iff_not,if_true,if_false,Bool.false_eq_true,ite_true,ite_false,Bool.not_true,Bool.not_false,Nat.reduceAdd,Nat.reduceSub,and_assoc]
     exact q H (.refl H)
   ·refine eK (fun Q q=>?_) (kf (fun Q q=>?_) ?_)
    ·simp only[bQ,bb,cv,bz,tC,cX,ai,aR,bM,aE,bu,aN,bG,aW,bN,tB,dQ,rU,de,rI,bO,bI,aP,aY,ed,bT,dZ,bU,ba,bV,be,dJ,bc,aB,dh,dW,dR,dU,bW,bY,bJ,bP,bX,ax,aI,L2.start,List.map_cons,List.map_nil,List.cons_append,List.nil_append,List.append_nil,List.length_cons,List.length_nil,List.replicate,List.set_cons_zero,List.set_cons_succ,List.getElem?_cons_zero,List.getElem?_cons_succ,Option.some.injEq,exists_eq_left',exists_eq_left,exists_and_left,exists_eq',exists_const,V.int.injEq,V.bl.injEq,V.str.injEq,V.ref.injEq,V.ty.injEq,List.cons.injEq,and_true,true_and,reduceCtorEq,false_and,and_false,exists_false,or_false,false_or,decide_eq_true_eq,Bool.not_eq_true',decide_eq_false_iff_not,if_true,if_false,Bool.false_eq_true,ite_true,ite_false,Bool.not_true,Bool.not_false,Nat.reduceAdd,Nat.reduceSub,and_assoc];exact q
    ·simp only[bQ,bb,cv,bz,tC,cX,ai,aR,bM,aE,bu,aN,bG,aW,bN,tB,dQ,rU,de,rI,bO,bI,aP,aY,ed,bT,dZ,bU,ba,bV,be,dJ,bc,aB,dh,dW,dR,dU,bW,bY,bJ,bP,bX,ax,aI,L2.start,List.map_cons,List.map_nil,List.cons_append,List.nil_append,List.append_nil,List.length_cons,List.length_nil,List.replicate,List.set_cons_zero,List.set_cons_succ,List.getElem?_cons_zero,List.getElem?_cons_succ,Option.some.injEq,exists_eq_left',exists_eq_left,exists_and_left,exists_eq',exists_const,V.int.injEq,V.bl.injEq,V.str.injEq,V.ref.injEq,V.ty.injEq,List.cons.injEq,and_true,true_and,reduceCtorEq,false_and,and_false,exists_false,or_false,false_or,decide_eq_true_eq,Bool.not_eq_true',decide_eq_false_iff_not,if_true,if_false,Bool.false_eq_true,ite_true,ite_false,Bool.not_true,Bool.not_false,Nat.reduceAdd,Nat.reduceSub,and_assoc];exact⟨_,.int _,_,ig "int" "int" true rfl,q⟩
    ·simp only[bQ,bb,cv,bz,tC,cX,ai,aR,bM,aE,bu,aN,bG,aW,bN,tB,dQ,rU,de,rI,bO,bI,aP,aY,ed,bT,dZ,bU,ba,bV,be,dJ,bc,aB,dh,dW,dR,dU,bW,bY,bJ,bP,bX,ax,aI,L2.start,List.map_cons,List.map_nil,List.cons_append,List.nil_append,List.append_nil,List.length_cons,List.length_nil,List.replicate,List.set_cons_zero,List.set_cons_succ,List.getElem?_cons_zero,List.getElem?_cons_succ,Option.some.injEq,exists_eq_left',exists_eq_left,exists_and_left,exists_eq',exists_const,V.int.injEq,V.bl.injEq,V.str.injEq,V.ref.injEq,V.ty.injEq,List.cons.injEq,and_true,true_and,reduceCtorEq,false_and,and_false,exists_false,or_false,false_or,decide_eq_true_eq,Bool.not_eq_true',decide_eq_false_iff_not,if_true,if_false,Bool.false_eq_true,ite_true,ite_false,Bool.not_true,Bool.not_false,Nat.reduceAdd,Nat.reduceSub,and_assoc]
     refine⟨_,.int _,_,ig "int" "int" true rfl,?_⟩
     simp only[bQ,bb,cv,bz,tC,cX,ai,aR,bM,aE,bu,aN,bG,aW,bN,tB,dQ,rU,de,rI,bO,bI,aP,aY,ed,bT,dZ,bU,ba,bV,be,dJ,bc,aB,dh,dW,dR,dU,bW,bY,bJ,bP,bX,ax,aI,L2.start,List.map_cons,List.map_nil,List.cons_append,List.nil_append,List.append_nil,List.length_cons,List.length_nil,List.replicate,List.set_cons_zero,List.set_cons_succ,List.getElem?_cons_zero,List.getElem?_cons_succ,Option.some.injEq,exists_eq_left',exists_eq_left,exists_and_left,exists_eq',exists_const,V.int.injEq,V.bl.injEq,V.str.injEq,V.ref.injEq,V.ty.injEq,List.cons.injEq,and_true,true_and,reduceCtorEq,false_and,and_false,exists_false,or_false,false_or,decide_eq_true_eq,Bool.not_eq_true',decide_eq_false_iff_not,if_true,if_false,Bool.false_eq_true,ite_true,ite_false,Bool.not_true,Bool.not_false,Nat.reduceAdd,Nat.reduceSub,and_assoc]
     refine⟨_,.int _,_,ig "int" "bool" false rfl,?_⟩
     simp only[bQ,bb,cv,bz,tC,cX,ai,aR,bM,aE,bu,aN,bG,aW,bN,tB,dQ,rU,de,rI,bO,bI,aP,aY,ed,bT,dZ,bU,ba,bV,be,dJ,bc,aB,dh,dW,dR,dU,bW,bY,bJ,bP,bX,ax,aI,L2.start,List.map_cons,List.map_nil,List.cons_append,List.nil_append,List.append_nil,List.length_cons,List.length_nil,List.replicate,List.set_cons_zero,List.set_cons_succ,List.getElem?_cons_zero,List.getElem?_cons_succ,Option.some.injEq,exists_eq_left',exists_eq_left,exists_and_left,exists_eq',exists_const,V.int.injEq,V.bl.injEq,V.str.injEq,V.ref.injEq,V.ty.injEq,List.cons.injEq,and_true,true_and,reduceCtorEq,false_and,and_false,exists_false,or_false,false_or,decide_eq_true_eq,Bool.not_eq_true',decide_eq_false_iff_not,if_true,if_false,Bool.false_eq_true,ite_true,ite_false,Bool.not_true,Bool.not_false,Nat.reduceAdd,Nat.reduceSub,and_assoc]
     exact q H (.refl H)
   ·refine eK (fun Q q=>?_) (eK (fun Q q=>?_) (kf (fun Q q=>?_) ?_))
    ·simp only[bQ,bb,cv,bz,tC,cX,ai,aR,bM,aE,bu,aN,bG,aW,bN,tB,dQ,rU,de,rI,bO,bI,aP,aY,ed,bT,dZ,bU,ba,bV,be,dJ,bc,aB,dh,dW,dR,dU,bW,bY,bJ,bP,bX,ax,aI,L2.start,List.map_cons,List.map_nil,List.cons_append,List.nil_append,List.append_nil,List.length_cons,List.length_nil,List.replicate,List.set_cons_zero,List.set_cons_succ,List.getElem?_cons_zero,List.getElem?_cons_succ,Option.some.injEq,exists_eq_left',exists_eq_left,exists_and_left,exists_eq',exists_const,V.int.injEq,V.bl.injEq,V.str.injEq,V.ref.injEq,V.ty.injEq,List.cons.injEq,and_true,true_and,reduceCtorEq,false_and,and_false,exists_false,or_false,false_or,decide_eq_true_eq,Bool.not_eq_true',decide_eq_false_iff_not,if_true,if_false,Bool.false_eq_true,ite_true,ite_false,Bool.not_true,Bool.not_false,Nat.reduceAdd,Nat.reduceSub,and_assoc];exact q
    ·simp only[bQ,bb,cv,bz,tC,cX,ai,aR,bM,aE,bu,aN,bG,aW,bN,tB,dQ,rU,de,rI,bO,bI,aP,aY,ed,bT,dZ,bU,ba,bV,be,dJ,bc,aB,dh,dW,dR,dU,bW,bY,bJ,bP,bX,ax,aI,L2.start,List.map_cons,List.map_nil,List.cons_append,List.nil_append,List.append_nil,List.length_cons,List.length_nil,List.replicate,List.set_cons_zero,List.set_cons_succ,List.getElem?_cons_zero,List.getElem?_cons_succ,Option.some.injEq,exists_eq_left',exists_eq_left,exists_and_left,exists_eq',exists_const,V.int.injEq,V.bl.injEq,V.str.injEq,V.ref.injEq,V.ty.injEq,List.cons.injEq,and_true,true_and,reduceCtorEq,false_and,and_false,exists_false,or_false,false_or,decide_eq_true_eq,Bool.not_eq_true',decide_eq_false_iff_not,if_true,if_false,Bool.false_eq_true,ite_true,ite_false,Bool.not_true,Bool.not_false,Nat.reduceAdd,Nat.reduceSub,and_assoc];exact⟨_,.str _,_,ig "str" "int" false rfl,q⟩
    ·simp only[bQ,bb,cv,bz,tC,cX,ai,aR,bM,aE,bu,aN,bG,aW,bN,tB,dQ,rU,de,rI,bO,bI,aP,aY,ed,bT,dZ,bU,ba,bV,be,dJ,bc,aB,dh,dW,dR,dU,bW,bY,bJ,bP,bX,ax,aI,L2.start,List.map_cons,List.map_nil,List.cons_append,List.nil_append,List.append_nil,List.length_cons,List.length_nil,List.replicate,List.set_cons_zero,List.set_cons_succ,List.getElem?_cons_zero,List.getElem?_cons_succ,Option.some.injEq,exists_eq_left',exists_eq_left,exists_and_left,exists_eq',exists_const,V.int.injEq,V.bl.injEq,V.str.injEq,V.ref.injEq,V.ty.injEq,List.cons.injEq,and_true,true_and,reduceCtorEq,false_and,and_false,exists_false,or_false,false_or,decide_eq_true_eq,Bool.not_eq_true',decide_eq_false_iff_not,if_true,if_false,Bool.false_eq_true,ite_true,ite_false,Bool.not_true,Bool.not_false,Nat.reduceAdd,Nat.reduceSub,and_assoc];exact⟨_,.str _,_,ig "str" "str" true rfl,q⟩
    ·simp only[bQ,bb,cv,bz,tC,cX,ai,aR,bM,aE,bu,aN,bG,aW,bN,tB,dQ,rU,de,rI,bO,bI,aP,aY,ed,bT,dZ,bU,ba,bV,be,dJ,bc,aB,dh,dW,dR,dU,bW,bY,bJ,bP,bX,ax,aI,L2.start,List.map_cons,List.map_nil,List.cons_append,List.nil_append,List.append_nil,List.length_cons,List.length_nil,List.replicate,List.set_cons_zero,List.set_cons_succ,List.getElem?_cons_zero,List.getElem?_cons_succ,Option.some.injEq,exists_eq_left',exists_eq_left,exists_and_left,exists_eq',exists_const,V.int.injEq,V.bl.injEq,V.str.injEq,V.ref.injEq,V.ty.injEq,List.cons.injEq,and_true,true_and,reduceCtorEq,false_and,and_false,exists_false,or_false,false_or,decide_eq_true_eq,Bool.not_eq_true',decide_eq_false_iff_not,if_true,if_false,Bool.false_eq_true,ite_true,ite_false,Bool.not_true,Bool.not_false,Nat.reduceAdd,Nat.reduceSub,and_assoc]
     refine⟨_,.str _,_,ig "str" "str" true rfl,?_⟩
     simp only[bQ,bb,cv,bz,tC,cX,ai,aR,bM,aE,bu,aN,bG,aW,bN,tB,dQ,rU,de,rI,bO,bI,aP,aY,ed,bT,dZ,bU,ba,bV,be,dJ,bc,aB,dh,dW,dR,dU,bW,bY,bJ,bP,bX,ax,aI,L2.start,List.map_cons,List.map_nil,List.cons_append,List.nil_append,List.append_nil,List.length_cons,List.length_nil,List.replicate,List.set_cons_zero,List.set_cons_succ,List.getElem?_cons_zero,List.getElem?_cons_succ,Option.some.injEq,exists_eq_left',exists_eq_left,exists_and_left,exists_eq',exists_const,V.int.injEq,V.bl.injEq,V.str.injEq,V.ref.injEq,V.ty.injEq,List.cons.injEq,and_true,true_and,reduceCtorEq,false_and,and_false,exists_false,or_false,false_or,decide_eq_true_eq,Bool.not_eq_true',decide_eq_false_iff_not,if_true,if_false,Bool.false_eq_true,ite_true,ite_false,Bool.not_true,Bool.not_false,Nat.reduceAdd,Nat.reduceSub,and_assoc]
     exact q H (.refl H)
  ·subst hnm
   obtain⟨T,tp1,tp2,tl,src1,src2,h1,h2,e1,e2⟩:∃(T:String) (tp1:TyOf K H (.ref p) (.type T)) (tp2:TyOf K H (.ref q') (.type T)) (tl:(T="list" ∧SqL K H p xs∧SqL K H q' ys)∨(T="tuple" ∧SqT K H p xs∧SqT K H q' ys)) (src1 src2:Src),(∀H',Same H H'→src1.has K H' xs)∧(∀H',Same H H'→src2.has K H' ys)∧src1.val=.ref p∧src2.val=.ref q':=by
    rcases hk with⟨a,b⟩ | ⟨a,b⟩
    ·exact⟨"list",.lst a,.lst b,.inl ⟨rfl,SqL.of a,SqL.of b⟩,.lst p,.lst q',fun H' e=>SqL.of (e _ _ a),fun H' e=>SqL.of (e _ _ b),rfl,rfl⟩
    ·exact⟨"tuple",.tup a,.tup b,.inr ⟨rfl,a,b⟩,.tup p,.tup q',fun H' e=>Same.tup e a,fun H' e=>Same.tup e b,rfl,rfl⟩
   have hi0:PySem.W.kitOne K (.type T) (.type "int")=some false:=by rcases tl with⟨rfl,_⟩ | ⟨rfl,_⟩;exact ig _ _ _ rfl;exact ig _ _ _ rfl
   have hs0:PySem.W.kitOne K (.type T) (.type "str")=some false:=by rcases tl with⟨rfl,_⟩ | ⟨rfl,_⟩;exact ig _ _ _ rfl;exact ig _ _ _ rfl
   obtain⟨bl,hl0,hl1⟩:∃bl,PySem.W.kitOne K (.type T) (.type "list")=some bl∧PySem.W.kitOne K (.type T) (.type "tuple")=some (!bl):=by rcases tl with⟨rfl,_⟩ | ⟨rfl,_⟩;exact⟨true,ig _ _ _ rfl,ig _ _ _ rfl⟩;exact⟨false,ig _ _ _ rfl,ig _ _ _ rfl⟩
   have ln1:kI K (.ref p) H xs.length:=by rcases tl with⟨_,t1,_⟩ | ⟨_,t1,_⟩;exact .inl ⟨_,t1,rfl⟩;exact .inr ⟨_,t1,rfl⟩
   have ln2:kI K (.ref q') H ys.length:=by rcases tl with⟨_,_,t2⟩ | ⟨_,_,t2⟩;exact .inl ⟨_,t2,rfl⟩;exact .inr ⟨_,t2,rfl⟩
   refine eK (fun Q q=>?_) (eK (fun Q q=>?_) (eK (fun Q q=>?_) (eK (fun Q q=>?_) (eK (fun Q q=>?_) (eK (fun Q q=>?_) ?_)))))
   ·simp only[bQ,bb,cv,bz,tC,cX,ai,aR,bM,aE,bu,aN,bG,aW,bN,tB,dQ,rU,de,rI,bO,bI,aP,aY,ed,bT,dZ,bU,ba,bV,be,dJ,bc,aB,dh,dW,dR,dU,bW,bY,bJ,bP,bX,ax,aI,L2.start,List.map_cons,List.map_nil,List.cons_append,List.nil_append,List.append_nil,List.length_cons,List.length_nil,List.replicate,List.set_cons_zero,List.set_cons_succ,List.getElem?_cons_zero,List.getElem?_cons_succ,Option.some.injEq,exists_eq_left',exists_eq_left,exists_and_left,exists_eq',exists_const,V.int.injEq,V.bl.injEq,V.str.injEq,V.ref.injEq,V.ty.injEq,List.cons.injEq,and_true,true_and,reduceCtorEq,false_and,and_false,exists_false,or_false,false_or,decide_eq_true_eq,Bool.not_eq_true',decide_eq_false_iff_not,if_true,if_false,Bool.false_eq_true,ite_true,ite_false,Bool.not_true,Bool.not_false,Nat.reduceAdd,Nat.reduceSub,and_assoc];exact q
   ·simp only[bQ,bb,cv,bz,tC,cX,ai,aR,bM,aE,bu,aN,bG,aW,bN,tB,dQ,rU,de,rI,bO,bI,aP,aY,ed,bT,dZ,bU,ba,bV,be,dJ,bc,aB,dh,dW,dR,dU,bW,bY,bJ,bP,bX,ax,aI,L2.start,List.map_cons,List.map_nil,List.cons_append,List.nil_append,List.append_nil,List.length_cons,List.length_nil,List.replicate,List.set_cons_zero,List.set_cons_succ,List.getElem?_cons_zero,List.getElem?_cons_succ,Option.some.injEq,exists_eq_left',exists_eq_left,exists_and_left,exists_eq',exists_const,V.int.injEq,V.bl.injEq,V.str.injEq,V.ref.injEq,V.ty.injEq,List.cons.injEq,and_true,true_and,reduceCtorEq,false_and,and_false,exists_false,or_false,false_or,decide_eq_true_eq,Bool.not_eq_true',decide_eq_false_iff_not,if_true,if_false,Bool.false_eq_true,ite_true,ite_false,Bool.not_true,Bool.not_false,Nat.reduceAdd,Nat.reduceSub,and_assoc];exact⟨_,tp2,_,hi0,q⟩
   ·simp only[bQ,bb,cv,bz,tC,cX,ai,aR,bM,aE,bu,aN,bG,aW,bN,tB,dQ,rU,de,rI,bO,bI,aP,aY,ed,bT,dZ,bU,ba,bV,be,dJ,bc,aB,dh,dW,dR,dU,bW,bY,bJ,bP,bX,ax,aI,L2.start,List.map_cons,List.map_nil,List.cons_append,List.nil_append,List.append_nil,List.length_cons,List.length_nil,List.replicate,List.set_cons_zero,List.set_cons_succ,List.getElem?_cons_zero,List.getElem?_cons_succ,Option.some.injEq,exists_eq_left',exists_eq_left,exists_and_left,exists_eq',exists_const,V.int.injEq,V.bl.injEq,V.str.injEq,V.ref.injEq,V.ty.injEq,List.cons.injEq,and_true,true_and,reduceCtorEq,false_and,and_false,exists_false,or_false,false_or,decide_eq_true_eq,Bool.not_eq_true',decide_eq_false_iff_not,if_true,if_false,Bool.false_eq_true,ite_true,ite_false,Bool.not_true,Bool.not_false,Nat.reduceAdd,Nat.reduceSub,and_assoc];exact⟨_,tp2,_,hs0,q⟩
   ·simp only[bQ,bb,cv,bz,tC,cX,ai,aR,bM,aE,bu,aN,bG,aW,bN,tB,dQ,rU,de,rI,bO,bI,aP,aY,ed,bT,dZ,bU,ba,bV,be,dJ,bc,aB,dh,dW,dR,dU,bW,bY,bJ,bP,bX,ax,aI,L2.start,List.map_cons,List.map_nil,List.cons_append,List.nil_append,List.append_nil,List.length_cons,List.length_nil,List.replicate,List.set_cons_zero,List.set_cons_succ,List.getElem?_cons_zero,List.getElem?_cons_succ,Option.some.injEq,exists_eq_left',exists_eq_left,exists_and_left,exists_eq',exists_const,V.int.injEq,V.bl.injEq,V.str.injEq,V.ref.injEq,V.ty.injEq,List.cons.injEq,and_true,true_and,reduceCtorEq,false_and,and_false,exists_false,or_false,false_or,decide_eq_true_eq,Bool.not_eq_true',decide_eq_false_iff_not,if_true,if_false,Bool.false_eq_true,ite_true,ite_false,Bool.not_true,Bool.not_false,Nat.reduceAdd,Nat.reduceSub,and_assoc]
    refine⟨_,tp2,_,hl0,?_⟩
    cases bl with
    | false=>exact q
    | true=>simp only[bQ,bb,cv,bz,tC,cX,ai,aR,bM,aE,bu,aN,bG,aW,bN,tB,dQ,rU,de,rI,bO,bI,aP,aY,ed,bT,dZ,bU,ba,bV,be,dJ,bc,aB,dh,dW,dR,dU,bW,bY,bJ,bP,bX,ax,aI,L2.start,List.map_cons,List.map_nil,List.cons_append,List.nil_append,List.append_nil,List.length_cons,List.length_nil,List.replicate,List.set_cons_zero,List.set_cons_succ,List.getElem?_cons_zero,List.getElem?_cons_succ,Option.some.injEq,exists_eq_left',exists_eq_left,exists_and_left,exists_eq',exists_const,V.int.injEq,V.bl.injEq,V.str.injEq,V.ref.injEq,V.ty.injEq,List.cons.injEq,and_true,true_and,reduceCtorEq,false_and,and_false,exists_false,or_false,false_or,decide_eq_true_eq,Bool.not_eq_true',decide_eq_false_iff_not,if_true,if_false,Bool.false_eq_true,ite_true,ite_false,Bool.not_true,Bool.not_false,Nat.reduceAdd,Nat.reduceSub,and_assoc];exact⟨_,tp1,_,hl0,q⟩
   ·simp only[bQ,bb,cv,bz,tC,cX,ai,aR,bM,aE,bu,aN,bG,aW,bN,tB,dQ,rU,de,rI,bO,bI,aP,aY,ed,bT,dZ,bU,ba,bV,be,dJ,bc,aB,dh,dW,dR,dU,bW,bY,bJ,bP,bX,ax,aI,L2.start,List.map_cons,List.map_nil,List.cons_append,List.nil_append,List.append_nil,List.length_cons,List.length_nil,List.replicate,List.set_cons_zero,List.set_cons_succ,List.getElem?_cons_zero,List.getElem?_cons_succ,Option.some.injEq,exists_eq_left',exists_eq_left,exists_and_left,exists_eq',exists_const,V.int.injEq,V.bl.injEq,V.str.injEq,V.ref.injEq,V.ty.injEq,List.cons.injEq,and_true,true_and,reduceCtorEq,false_and,and_false,exists_false,or_false,false_or,decide_eq_true_eq,Bool.not_eq_true',decide_eq_false_iff_not,if_true,if_false,Bool.false_eq_true,ite_true,ite_false,Bool.not_true,Bool.not_false,Nat.reduceAdd,Nat.reduceSub,and_assoc]
    refine⟨_,tp2,_,hl1,?_⟩
    cases bl with
    | true=>exact q
    | false=>simp only[bQ,bb,cv,bz,tC,cX,ai,aR,bM,aE,bu,aN,bG,aW,bN,tB,dQ,rU,de,rI,bO,bI,aP,aY,ed,bT,dZ,bU,ba,bV,be,dJ,bc,aB,dh,dW,dR,dU,bW,bY,bJ,bP,bX,ax,aI,L2.start,List.map_cons,List.map_nil,List.cons_append,List.nil_append,List.append_nil,List.length_cons,List.length_nil,List.replicate,List.set_cons_zero,List.set_cons_succ,List.getElem?_cons_zero,List.getElem?_cons_succ,Option.some.injEq,exists_eq_left',exists_eq_left,exists_and_left,exists_eq',exists_const,V.int.injEq,V.bl.injEq,V.str.injEq,V.ref.injEq,V.ty.injEq,List.cons.injEq,and_true,true_and,reduceCtorEq,false_and,and_false,exists_false,or_false,false_or,decide_eq_true_eq,Bool.not_eq_true',decide_eq_false_iff_not,if_true,if_false,Bool.false_eq_true,ite_true,ite_false,Bool.not_true,Bool.not_false,Nat.reduceAdd,Nat.reduceSub,and_assoc];exact⟨_,tp1,_,hl1,q⟩
   ·simp only[bQ,bb,cv,bz,tC,cX,ai,aR,bM,aE,bu,aN,bG,aW,bN,tB,dQ,rU,de,rI,bO,bI,aP,aY,ed,bT,dZ,bU,ba,bV,be,dJ,bc,aB,dh,dW,dR,dU,bW,bY,bJ,bP,bX,ax,aI,L2.start,List.map_cons,List.map_nil,List.cons_append,List.nil_append,List.append_nil,List.length_cons,List.length_nil,List.replicate,List.set_cons_zero,List.set_cons_succ,List.getElem?_cons_zero,List.getElem?_cons_succ,Option.some.injEq,exists_eq_left',exists_eq_left,exists_and_left,exists_eq',exists_const,V.int.injEq,V.bl.injEq,V.str.injEq,V.ref.injEq,V.ty.injEq,List.cons.injEq,and_true,true_and,reduceCtorEq,false_and,and_false,exists_false,or_false,false_or,decide_eq_true_eq,Bool.not_eq_true',decide_eq_false_iff_not,if_true,if_false,Bool.false_eq_true,ite_true,ite_false,Bool.not_true,Bool.not_false,Nat.reduceAdd,Nat.reduceSub,and_assoc]
    refine⟨_,ln1,_,ln2,?_⟩
    simp only[hl,bQ,bb,cv,bz,tC,cX,ai,aR,bM,aE,bu,aN,bG,aW,bN,tB,dQ,rU,de,rI,bO,bI,aP,aY,ed,bT,dZ,bU,ba,bV,be,dJ,bc,aB,dh,dW,dR,dU,bW,bY,bJ,bP,bX,ax,aI,L2.start,List.map_cons,List.map_nil,List.cons_append,List.nil_append,List.append_nil,List.length_cons,List.length_nil,List.replicate,List.set_cons_zero,List.set_cons_succ,List.getElem?_cons_zero,List.getElem?_cons_succ,Option.some.injEq,exists_eq_left',exists_eq_left,exists_and_left,exists_eq',exists_const,V.int.injEq,V.bl.injEq,V.str.injEq,V.ref.injEq,V.ty.injEq,List.cons.injEq,and_true,true_and,reduceCtorEq,false_and,and_false,exists_false,or_false,false_or,decide_eq_true_eq,Bool.not_eq_true',decide_eq_false_iff_not,if_true,if_false,Bool.false_eq_true,ite_true,ite_false,Bool.not_true,Bool.not_false,Nat.reduceAdd,Nat.reduceSub,and_assoc]
    exact q
   ·simp only[bQ,em,gf,bb,cv,bz,tC,cX,ai,aR,bM,aE,bu,aN,bG,aW,bN,tB,dQ,rU,de,rI,bO,bI,aP,aY,ed,bT,dZ,bU,ba,bV,be,dJ,bc,aB,dh,dW,dR,dU,bW,bY,bJ,bP,bX,ax,aI,L2.start,List.map_cons,List.map_nil,List.cons_append,List.nil_append,List.append_nil,List.length_cons,List.length_nil,List.replicate,List.set_cons_zero,List.set_cons_succ,List.getElem?_cons_zero,List.getElem?_cons_succ,Option.some.injEq,exists_eq_left',exists_eq_left,exists_and_left,exists_eq',exists_const,V.int.injEq,V.bl.injEq,V.str.injEq,V.ref.injEq,V.ty.injEq,List.cons.injEq,and_true,true_and,reduceCtorEq,false_and,and_false,exists_false,or_false,false_or,decide_eq_true_eq,Bool.not_eq_true',decide_eq_false_iff_not,if_true,if_false,Bool.false_eq_true,ite_true,ite_false,Bool.not_true,Bool.not_false,Nat.reduceAdd,Nat.reduceSub,and_assoc]
    refine⟨_,rfl,_,rfl,src1,src2,xs,ys,by rw[e1,e2],h1 H (.refl H),h2 H (.refl H),qy (fun i σ H2=>Same H H2∧∃a b,σ=[some (.ref p),some (.ref q'),a,b]) ⟨.refl H,none,none,rfl⟩ (fun i σ H2 ⟨e,_⟩=>⟨h1 H2 e,h2 H2 e⟩) hl ?_ ?_⟩
    ·rintro i x y r σ H2 hx hy hr' ⟨e,a,b,rfl⟩
     simp only[bQ,em,gf,bb,cv,bz,tC,cX,ai,aR,bM,aE,bu,aN,bG,aW,bN,tB,dQ,rU,de,rI,bO,bI,aP,aY,ed,bT,dZ,bU,ba,bV,be,dJ,bc,aB,dh,dW,dR,dU,bW,bY,bJ,bP,bX,ax,aI,L2.start,List.map_cons,List.map_nil,List.cons_append,List.nil_append,List.append_nil,List.length_cons,List.length_nil,List.replicate,List.set_cons_zero,List.set_cons_succ,List.getElem?_cons_zero,List.getElem?_cons_succ,Option.some.injEq,exists_eq_left',exists_eq_left,exists_and_left,exists_eq',exists_const,V.int.injEq,V.bl.injEq,V.str.injEq,V.ref.injEq,V.ty.injEq,List.cons.injEq,and_true,true_and,reduceCtorEq,false_and,and_false,exists_false,or_false,false_or,decide_eq_true_eq,Bool.not_eq_true',decide_eq_false_iff_not,if_true,if_false,Bool.false_eq_true,ite_true,ite_false,Bool.not_true,Bool.not_false,Nat.reduceAdd,Nat.reduceSub,and_assoc]
     refine⟨_,SqT.of aJ,rfl,?_⟩
     simp only[bQ,em,gf,bb,cv,bz,tC,cX,ai,aR,bM,aE,bu,aN,bG,aW,bN,tB,dQ,rU,de,rI,bO,bI,aP,aY,ed,bT,dZ,bU,ba,bV,be,dJ,bc,aB,dh,dW,dR,dU,bW,bY,bJ,bP,bX,ax,aI,L2.start,List.map_cons,List.map_nil,List.cons_append,List.nil_append,List.append_nil,List.length_cons,List.length_nil,List.replicate,List.set_cons_zero,List.set_cons_succ,List.getElem?_cons_zero,List.getElem?_cons_succ,Option.some.injEq,exists_eq_left',exists_eq_left,exists_and_left,exists_eq',exists_const,V.int.injEq,V.bl.injEq,V.str.injEq,V.ref.injEq,V.ty.injEq,List.cons.injEq,and_true,true_and,reduceCtorEq,false_and,and_false,exists_false,or_false,false_or,decide_eq_true_eq,Bool.not_eq_true',decide_eq_false_iff_not,if_true,if_false,Bool.false_eq_true,ite_true,ite_false,Bool.not_true,Bool.not_false,Nat.reduceAdd,Nat.reduceSub,and_assoc]
     refine⟨x,y,rfl,.inl ⟨(hi i x y hx hy).same (e.trans (cK hr')),fun H3 e3=>?_⟩⟩
     simp only[bQ,em,gf,bb,cv,bz,tC,cX,ai,aR,bM,aE,bu,aN,bG,aW,bN,tB,dQ,rU,de,rI,bO,bI,aP,aY,ed,bT,dZ,bU,ba,bV,be,dJ,bc,aB,dh,dW,dR,dU,bW,bY,bJ,bP,bX,ax,aI,L2.start,List.map_cons,List.map_nil,List.cons_append,List.nil_append,List.append_nil,List.length_cons,List.length_nil,List.replicate,List.set_cons_zero,List.set_cons_succ,List.getElem?_cons_zero,List.getElem?_cons_succ,Option.some.injEq,exists_eq_left',exists_eq_left,exists_and_left,exists_eq',exists_const,V.int.injEq,V.bl.injEq,V.str.injEq,V.ref.injEq,V.ty.injEq,List.cons.injEq,and_true,true_and,reduceCtorEq,false_and,and_false,exists_false,or_false,false_or,decide_eq_true_eq,Bool.not_eq_true',decide_eq_false_iff_not,if_true,if_false,Bool.false_eq_true,ite_true,ite_false,Bool.not_true,Bool.not_false,Nat.reduceAdd,Nat.reduceSub,and_assoc]
     exact e.trans ((cK hr').trans e3)
    ·rintro σ H2 ⟨e,a,b,rfl⟩
     simp only[bQ,em,gf,bb,cv,bz,tC,cX,ai,aR,bM,aE,bu,aN,bG,aW,bN,tB,dQ,rU,de,rI,bO,bI,aP,aY,ed,bT,dZ,bU,ba,bV,be,dJ,bc,aB,dh,dW,dR,dU,bW,bY,bJ,bP,bX,ax,aI,L2.start,List.map_cons,List.map_nil,List.cons_append,List.nil_append,List.append_nil,List.length_cons,List.length_nil,List.replicate,List.set_cons_zero,List.set_cons_succ,List.getElem?_cons_zero,List.getElem?_cons_succ,Option.some.injEq,exists_eq_left',exists_eq_left,exists_and_left,exists_eq',exists_const,V.int.injEq,V.bl.injEq,V.str.injEq,V.ref.injEq,V.ty.injEq,List.cons.injEq,and_true,true_and,reduceCtorEq,false_and,and_false,exists_false,or_false,false_or,decide_eq_true_eq,Bool.not_eq_true',decide_eq_false_iff_not,if_true,if_false,Bool.false_eq_true,ite_true,ite_false,Bool.not_true,Bool.not_false,Nat.reduceAdd,Nat.reduceSub,and_assoc]
     exact q H2 e
def mt (K:PySem.W.Frag):Sp:=fun vs H Q _=>∃(a:Addr) (ns:List Int),vs=[.ref a]∧SqL K H a (ns.map V.int)∧ns.length≤63∧∀H',Q (.bl true) H'
end
end Wb
namespace Mi
theorem kg {s:List Int} (hs:s.length≤63) (k:Nat) (hk:k≤200):∃n,jj s (k:Int)=.ok n:=by
 unfold jj vb
 by_cases h:(k:Int)< (s.length:Int)
 ·rw[if_pos (by simpa using h)]
  obtain⟨x,e,_⟩:=jc (xs:=s) (i:=(k:Int)) (by omega) h
  exact⟨x,e⟩
 ·rw[if_neg (by simpa using h),oT (by omega) (by omega)]
  exact⟨_,rfl⟩
theorem tK (c b:Int) (hb:1≤b) (hb2:b< 1073741824) (k:Nat) (s:Int×Int×List Int) (h1:0≤s.2.1) (hl:s.2.2.length< 100000):∃s':Int×Int×List Int,u4 c b (k:Int) s=.ok s'∧0≤s'.2.1∧∃v,0≤v∧v< b∧s'.2.2=s.2.2++ [v]:=by
 unfold u4
 have hm0:=Int.emod_nonneg (s.1*48271+7919+(k:Int)) (show(2147483647:Int)≠0 by decide)
 have hm1:=Int.emod_lt_of_pos (s.1*48271+7919+(k:Int)) (show(0:Int)< 2147483647 by decide)
 generalize (s.1*48271+7919+(k:Int))% 2147483647=mx at*
 have other:∀z:Int,0≤z% b∧z% b< b:=fun z=>⟨Int.emod_nonneg _ (by omega),Int.emod_lt_of_pos _ (by omega)⟩
 have A:∀z:Int,gk s.2.2 z=.ok (s.2.2++ [z]):=fun z=>fv hl
 have e2:((((gM mx mx).bind fun y63=>Res.ok (y63% 1000003)).bind fun y64=>j5 y64 b).bind fun y69=>gk s.2.2 y69)=.ok (s.2.2++ [mx*mx% 1000003% b]):=by
  rw[gW (by omega) (by omega)];simp only[Res.bind_ok'];rw[gp (by omega)];exact A _
 have e1:((j5 s.2.1 b).bind fun y56=>gk s.2.2 y56)=.ok (s.2.2++ [s.2.1% b]):=by rw[gp (by omega)];exact A _
 by_cases hf:(1000000000000000000:Int)≤bi c
 ·rw[decide_eq_true hf]
  by_cases hp:0< s.2.1
  ·rw[decide_eq_true hp]
   simp only[if_true,Res.bind_ok',e1,jQ (show 0< b by omega) hb2]
   exact⟨_,rfl,Int.ediv_nonneg h1 (by omega),_,(other _).1,(other _).2,rfl⟩
  ·rw[decide_eq_false hp]
   simp only[if_true,Res.bind_ok',Bool.false_eq_true,if_false,e2]
   exact⟨_,rfl,h1,_,(other _).1,(other _).2,rfl⟩
 ·rw[decide_eq_false hf]
  simp only[Res.bind_ok',Bool.false_eq_true,if_false,e2]
  exact⟨_,rfl,h1,_,(other _).1,(other _).2,rfl⟩
theorem li (c:Int) (n:Nat) (b:Int) (hn:n≤1000) (hb:1≤b) (hb2:b< 1073741824):∃ns,i6 c (n:Int) b=.ok ns∧ns.length=n∧∀x∈ns,0≤x∧x< b:=by
 unfold i6 vc
 rw[iC (by omega),Res.bind_ok']
 obtain⟨s,e,h0,hl,hb⟩:=cn (f:=u4 c b) (fun pre (s:Int×Int×List Int)=>0≤s.2.1∧s.2.2.length=pre.length∧∀x∈s.2.2,0≤x∧x< b) ((List.range n).map fun(i:Nat)=>(i:Int)) ((bi c)% 2147483647,bi c,[]) ⟨qN c,rfl,by simp⟩ (by
  intro pre a post s e ⟨h0,hl,hb'⟩
  have hlen:pre.length< n:=by have:=congrArg List.length e;simp at this;omega
  obtain⟨k,rfl⟩:∃k:Nat,a=(k:Int):=by
   have:a∈(List.range n).map fun(i:Nat)=>(i:Int):=by rw[e];simp
   obtain⟨k,_,hk⟩:=List.mem_map.mp this;exact⟨k,hk.symm⟩
  obtain⟨s',e',h0',v,v0,v1,ev⟩:=tK c b hb hb2 k s h0 (by omega)
  refine⟨s',e',h0',by rw[ev];simp[hl],fun x hx=>?_⟩
  rw[ev]at hx
  rcases List.mem_append.mp hx with z | z
  ·exact hb' x z
  ·rw[List.mem_singleton.mp z];exact⟨v0,v1⟩)
 rw[e]
 exact⟨_,rfl,by rw[hl];simp,hb⟩
def isTurn (c:Nat):Prop:=c=102∨c=98∨c=105
instance zkeep63 (c:Nat):Decidable (isTurn c):=by unfold isTurn;infer_instance
def cq (t:Tx):Prop:=∀c∈t,isTurn c
abbrev Cd:=Tx×Tx×Int
structure Card (t:Cd):Prop where
 lay:t.1=[83]∨t.1=[90]
 four:t.2.1.length=4
 col:∀c∈t.2.1,97≤c∧c≤122
 low:0≤t.2.2
 high:t.2.2< 4
theorem pO (sz:Int) (ds:List Int) (hsz:1≤sz) (hd:ds.length=5) (a:Int) (t:Tx) (ht:t.length< 1000):∃c,97≤c∧c≤122∧u5 sz ds a t=.ok (t++ [c]):=by
 unfold u5
 obtain⟨x,e,_⟩:=jc (xs:=ds) (i:=4) (by decide) (by rw[hd];decide)
 rw[e]
 simp only[Res.bind_ok',gp (show 0< sz by omega)]
 have h0:=Int.emod_nonneg (x+a% sz*7) (show(26:Int)≠0 by decide)
 have h1:=Int.emod_lt_of_pos (x+a% sz*7) (show(0:Int)< 26 by decide)
 generalize (x+a% sz*7)% 26=r at h0 h1
 obtain⟨c,e2,h2⟩:=fw (x:=([97,98,99,100,101,102,103,104,105,106,107,108,109,110,111,112,113,114,115,116,117,118,119,120,121,122]:Tx)) (i:=r) h0 (by simp;omega) (by decide)
 rw[e2]
 simp only[Res.bind_ok',eX (show t.length+ [c].length≤100000 by simp;omega)]
 have hc:c∈([97,98,99,100,101,102,103,104,105,106,107,108,109,110,111,112,113,114,115,116,117,118,119,120,121,122]:Tx):=List.mem_of_getElem? h2
 have:∀c∈([97,98,99,100,101,102,103,104,105,106,107,108,109,110,111,112,113,114,115,116,117,118,119,120,121,122]:Tx),97≤c∧c≤122:=by decide
 exact⟨c,(this c hc).1,(this c hc).2,rfl⟩
theorem pP (c:Int):∃t,rg c=.ok t∧t.length=4∧∀x∈t,97≤x∧x≤122:=by
 unfold rg vd
 have h0:=Int.emod_nonneg c (show(5:Int)≠0 by decide)
 have h1:=Int.emod_lt_of_pos c (show(0:Int)< 5 by decide)
 obtain⟨sz,e,h2⟩:=jc (xs:=[(1:Int),2,3,4,26]) (i:=c% 5) h0 (by simp;omega)
 have hsz:1≤sz:=by
  have:∀x∈[(1:Int),2,3,4,26],1≤x:=by decide
  exact this sz (List.mem_of_getElem? h2)
 rw[e,Res.bind_ok']
 obtain⟨ds,e2,hd,_⟩:=li (c/ 5) 5 26 (by decide) (by decide) (by decide)
 rw[show i6 (c/ 5) 5 26=Res.ok ds from e2,Res.bind_ok',show cut ds none (some 4)=ds.take 4 from jT ds 4]
 obtain⟨t,e3,h3,h4⟩:=cn (f:=u5 sz ds) (fun pre t=>t.length=pre.length∧∀x∈t,97≤x∧x≤122) (ds.take 4) [] ⟨rfl,by simp⟩ (by
  intro pre a post t e ⟨hl,hb⟩
  have hlen:pre.length< 5:=by have:=congrArg List.length e;simp at this;omega
  obtain⟨c,c0,c1,ec⟩:=pO sz ds hsz hd a t (by omega)
  refine⟨_,ec,by simp[hl],fun x hx=>?_⟩
  rcases List.mem_append.mp hx with z | z
  ·exact hb x z
  ·rw[List.mem_singleton.mp z];exact⟨c0,c1⟩)
 rw[e3]
 exact⟨t,rfl,by rw[h3,List.length_take];omega,h4⟩
theorem mv (c:Int):∃t,qf c=.ok t∧Card t:=by
 unfold qf ve
 have h0:=Int.emod_nonneg c (show(2:Int)≠0 by decide)
 have h1:=Int.emod_lt_of_pos c (show(0:Int)< 2 by decide)
 obtain⟨y,e,h2⟩:=fw (x:=([83,90]:Tx)) (i:=c% 2) h0 (by simp;omega) (by decide)
 obtain⟨t,e2,hl,hb⟩:=pP (c/ 8)
 rw[e,Res.bind_ok',e2,Res.bind_ok']
 refine⟨_,rfl,?_,hl,hb,Int.emod_nonneg _ (by decide),Int.emod_lt_of_pos _ (by decide)⟩
 have:y=83∨y=90:=by simpa using List.mem_of_getElem? h2
 rcases this with rfl | rfl
 ·exact .inl rfl
 ·exact .inr rfl
theorem pQ (d:Int) (h0:0≤d) (h1:d< 3):∃c,dM ([102,98,105]:Tx) d=.ok [c]∧isTurn c:=by
 obtain⟨c,e,h⟩:=fw (x:=([102,98,105]:Tx)) (i:=d) h0 (by simp;omega) (by decide)
 refine⟨c,e,?_⟩
 have:=List.mem_of_getElem? h
 simpa [isTurn] using this
theorem pR (c:Int) (n:Nat) (hn:n≤1000):∃t,rh c (n:Int)=.ok t∧t.length=n∧cq t:=by
 unfold rh vf
 by_cases h:c% 7=3
 ·rw[if_pos (by simpa using h)]
  obtain⟨y,e,hy⟩:=pQ (c/ 7% 3) (Int.emod_nonneg _ (by decide)) (Int.emod_lt_of_pos _ (by decide))
  rw[e,Res.bind_ok',qM (by omega) (by omega)]
  refine⟨_,rfl,by simp,fun x hx=>?_⟩
  rw[List.eq_of_mem_replicate hx];exact hy
 ·rw[if_neg (by simpa using h)]
  obtain⟨ds,e,hl,hb⟩:=li (c/ 7) n 3 hn (by decide) (by decide)
  rw[e,Res.bind_ok']
  have key:∃t:List Nat,dX ds (fun(a9:Int)=>dM ([102,98,105]:Tx) a9)=.ok (t.map fun c=>[c])∧t.length=n∧cq t:=by
   have:∀d∈ds,∃c:Nat,dM ([102,98,105]:Tx) d=.ok [c]∧isTurn c:=fun d hd=>pQ d (hb d hd).1 (hb d hd).2
   have hf:∀d∈ds,dM ([102,98,105]:Tx) d=.ok ((fun d=>[if d=0 then 102 else if d=1 then 98 else 105]) d):=fun d hd=>by
    have h1:=hb d hd
    have:d=0∨d=1∨d=2:=by omega
    rcases this with rfl | rfl | rfl <;> rfl
   rw[eD (by show ds.length≤100000;omega) hf]
   refine⟨ds.map fun d=>if d=0 then 102 else if d=1 then 98 else 105,by simp,by simp[hl],fun x hx=>?_⟩
   obtain⟨d,_,rfl⟩:=List.mem_map.mp hx
   unfold isTurn;split
   ·exact .inl rfl
   ·split
    ·exact .inr (.inl rfl)
    ·exact .inr (.inr rfl)
  obtain⟨t,e2,hl2,ht⟩:=key
  rw[e2,Res.bind_ok',jR (by rw[lR];omega),lR]
  exact⟨t,rfl,hl2,ht⟩
def go (c:Nat):Int:=if c=102 then 1 else if c=98 then -1 else 0
def tw (t:Cd) (c:Nat):Int:=if t.1=[83]then go c else -go c
def cO (t:Cd) (i:Int):Nat:=t.2.1[i.toNat]?.getD 0
def km (i:Int):Nat:=if i=1 then 115 else if i= -1 then 122 else 111
def behind (t:Cd) (c:Nat):Cd:=(t.1,t.2.1,(t.2.2+go c)% 4)
abbrev Pl:=Tx×Tx×Tx
def place (t:Cd) (c:Nat):Pl:=([cO t t.2.2],[cO t ((t.2.2+2)% 4)],[km (tw t c)])
theorem uU (c:Nat): -1≤go c∧go c≤1:=by unfold go;split;omega;split <;> omega
theorem sq (t:Cd) (c:Nat): -1≤tw t c∧tw t c≤1:=by have:=uU c;unfold tw;split <;> omega
theorem Card.behind {t:Cd} (h:Card t) (c:Nat):Card (behind t c):=⟨h.lay,h.four,h.col,Int.emod_nonneg _ (by decide),Int.emod_lt_of_pos _ (by decide)⟩
theorem sr {c:Nat} (h:isTurn c):kD [c]=.ok (go c):=by
 unfold kD vg
 rcases h with rfl | rfl | rfl <;> rfl
theorem iI {t:Cd} {c:Nat} (h:isTurn c):gw t [c]=.ok (behind t c):=by
 unfold gw vh
 rw[sr h];rfl
theorem i4 {t:Cd} {c:Nat} (h:isTurn c):dY t [c]=.ok (tw t c):=by
 unfold dY vi
 rw[sr h]
 by_cases z:t.1=[83]
 ·rw[if_pos (by simpa using z)];unfold tw;rw[if_pos z]
 ·rw[if_neg (by simpa using z)];unfold tw;rw[if_neg z];simp only[Res.bind_ok'];congr 1;omega
theorem cW {t:Cd} (h:Card t) {i:Int} (h0:0≤i) (h1:i< 4):dM t.2.1 i=.ok [cO t i]:=tj h0 (by rw[h.four];exact h1) (by rw[h.four];decide)
theorem dP (i:Int):0≤i% 4∧i% 4< 4:=⟨Int.emod_nonneg _ (by decide),Int.emod_lt_of_pos _ (by decide)⟩
theorem tL {i:Int} (h: -1≤i∧i≤1):dM ([122,111,115]:Tx) (i+1)=.ok [km i]:=by
 have:i= -1∨i=0∨i=1:=by omega
 rcases this with rfl | rfl | rfl <;> rfl
def cI:Cd→Tx→List Pl
 | _,[]=>[]
 | t,c::r=>place (behind t c) c::cI (behind t c) r
def ends:Cd→Tx→Cd
 | t,[]=>t
 | t,c::r=>ends (behind t c) r
theorem lj (t:Cd) (x:Tx):(cI t x).length=x.length:=by
 induction x generalizing t with
 | nil=>rfl
 | cons c r ih=>simp[cI,ih]
theorem pS (x:Tx):∀(t:Cd) (c:Nat),ends t (x++ [c])=behind (ends t x) c:=by
 induction x with
 | nil=>intro t c;rfl
 | cons d r ih=>intro t c;simp[ends,ih]
theorem Card.ends {t:Cd} (h:Card t) (x:Tx):Card (ends t x):=by
 induction x generalizing t with
 | nil=>exact h
 | cons c r ih=>exact ih (h.behind c)
theorem ny {t:Cd} (h:Card t) {c:Nat} (hc:isTurn c) {out:List Pl} (ho:out.length< 100000):u6 gw dY [c] (t,out)=.ok (behind t c,out++ [place (behind t c) c]):=by
 unfold u6
 have hb:=h.behind c
 simp only[iI hc,Res.bind_ok',i4 hc,tL (sq _ _),cW hb hb.low hb.high,cW hb (dP _).1 (dP _).2]
 rw[fv ho]
 rfl
theorem iJ {t:Cd} (h:Card t) {x:Tx} (hx:cq x) (hl:x.length≤10000):lg t x=.ok (cI t x):=by
 unfold lg vj
 have key:∀(x:Tx) (t:Cd) (out:List Pl),Card t→cq x→out.length+x.length≤10000→bC (u6 gw dY) (bd x) (t,out)=.ok (ends t x,out++cI t x):=by
  intro x
  induction x with
  | nil=>intro t out _ _ _;simp[bd,bC,ends,cI]
  | cons c r ih =>
   intro t out h hx hl
   simp only[List.length_cons]at hl
   show bC _ ([c]::bd r) _=_
   unfold bC
   rw[ny h (hx c (by simp)) (by omega),Res.bind_ok',ih _ _ (h.behind c) (fun d hd=>hx d (by simp[hd])) (by simp;omega)]
   simp[ends,cI]
 rw[key x t [] h hx (by simpa using hl)]
 simp
def isCol (c:Nat):Prop:=97≤c∧c≤122
def isSl (c:Nat):Prop:=c=115∨c=122∨c=111
structure Mark (m:Pl):Prop where
 a:∃c,m.1=[c]∧(isCol c∨c=63)
 b:∃c,m.2.1=[c]∧(isCol c∨c=63)
 s:∃c,m.2.2=[c]∧(isSl c∨c=63)
structure Whole (m:Pl):Prop where
 a:∃c,m.1=[c]∧isCol c
 b:∃c,m.2.1=[c]∧isCol c
 s:∃c,m.2.2=[c]∧isSl c
theorem ko {t:Cd} (h:Card t) {i:Int} (h0:0≤i) (h1:i< 4):isCol (cO t i):=by
 unfold cO
 have:i.toNat< t.2.1.length:=by rw[h.four];omega
 simp only[List.getElem?_eq_getElem this,Option.getD_some]
 exact h.col _ (List.getElem_mem this)
theorem pT (i:Int):isSl (km i):=by unfold km isSl;split;exact .inl rfl;split;exact .inr (.inl rfl);exact .inr (.inr rfl)
theorem kq {t:Cd} (h:Card t) (c:Nat):Whole (place t c):=⟨⟨_,rfl,ko h h.low h.high⟩,⟨_,rfl,ko h (dP _).1 (dP _).2⟩,⟨_,rfl,pT _⟩⟩
theorem jk {t:Cd} (h:Card t) (x:Tx):∀m∈cI t x,Whole m:=by
 induction x generalizing t with
 | nil=>intro m hm;simp[cI]at hm
 | cons c r ih =>
  intro m hm
  rcases List.mem_cons.mp hm with rfl | hm
  ·exact kq (h.behind c) c
  ·exact ih (h.behind c) m hm
theorem kt {c:Nat} (h:isCol c):∃j d,isCol d∧fN ([97,98,99,100,101,102,103,104,105,106,107,108,109,110,111,112,113,114,115,116,117,118,119,120,121,122,97]:Tx) [c]=.ok j∧dM ([97,98,99,100,101,102,103,104,105,106,107,108,109,110,111,112,113,114,115,116,117,118,119,120,121,122,97]:Tx) (j+1)=.ok [d]:=by
 have key:∀k:Fin 26,(match fN ([97,98,99,100,101,102,103,104,105,106,107,108,109,110,111,112,113,114,115,116,117,118,119,120,121,122,97]:Tx) [97+k.1]with | .ok j=>(match dM ([97,98,99,100,101,102,103,104,105,106,107,108,109,110,111,112,113,114,115,116,117,118,119,120,121,122,97]:Tx) (j+1)with | .ok [d]=>decide (97≤d∧d≤122) | _=>false) | _=>false)=true:=by decide
 obtain⟨k,rfl⟩:∃k:Fin 26,c=97+k.1:=⟨⟨c- 97,by have:=h.1;have:=h.2;omega⟩,by have:=h.1;show c=97+(c- 97);omega⟩
 have:=key k
 split at this
 ·rename_i j e
  split at this
  ·rename_i d e2
   exact⟨j,d,by simpa [isCol] using this,e,e2⟩
  ·cases this
 ·cases this
theorem rF {c:Nat} (h:isSl c):∃j d,isSl d∧fN ([115,122,111]:Tx) [c]=.ok j∧dM ([122,111,115]:Tx) j=.ok [d]:=by
 rcases h with rfl | rfl | rfl
 ·exact⟨0,122,.inr (.inl rfl),rfl,rfl⟩
 ·exact⟨1,111,.inr (.inr rfl),rfl,rfl⟩
 ·exact⟨2,115,.inl rfl,rfl,rfl⟩
def rG (l:List Tx):Prop:=∃a b c,l=[[a],[b],[c]]∧isCol a∧isCol b∧isSl c
theorem pU (cell:Int) {p:Pl} (hp:Whole p) {d:Int} (h0:0≤d) (h1:d< 64) {out:List Pl} (ho:out.length< 1000):(u7 cell (p,d) out).Ok fun r=>∃m,Mark m∧r=out++ [m]:=by
 unfold u7
 obtain⟨⟨a,ea,ha⟩,⟨b,eb,hb⟩,⟨s,es,hs⟩⟩:=hp
 simp only[ea,eb,es]
 refine jU (Res.Ok.imp (P:=fun d'=>0≤d'∧d'< 64) (qe (fun _=>iE ⟨by omega,by omega⟩) fun _=>iE ⟨h0,h1⟩) fun d1 hd1=>?_)
 refine jU (Res.Ok.imp (P:=fun d'=>0≤d'∧d'< 64) (qe (fun _=>iE ⟨by omega,by omega⟩) fun _=>iE hd1) fun d2 hd2=>?_)
 have hm0:=Int.emod_nonneg d2 (show(3:Int)≠0 by decide)
 have hm1:=Int.emod_lt_of_pos d2 (show(0:Int)< 3 by decide)
 have step1:((if(decide ((56:Int)≤d2))then Res.ok (decide ((d2% 3)< (2:Int)))else Res.ok false).bind fun y90=>(if y90 then(((((ic [[a],[b],[s]] (d2% 3)).bind fun y101=>fN ([97,98,99,100,101,102,103,104,105,106,107,108,109,110,111,112,113,114,115,116,117,118,119,120,121,122,97]:Tx) y101).bind fun y102=>Res.ok (y102+(1:Int))).bind fun y103=>dM ([97,98,99,100,101,102,103,104,105,106,107,108,109,110,111,112,113,114,115,116,117,118,119,120,121,122,97]:Tx) y103).bind fun y107=>jH [[a],[b],[s]] (d2% 3) y107).bind fun y108=>Res.ok y108 else Res.ok [[a],[b],[s]]:Res (List Tx))).Ok rG:=by
  have dflt:rG [[a],[b],[s]]:=⟨a,b,s,rfl,ha,hb,hs⟩
  refine jU (qe (fun _=>iE ?_) fun _=>iE dflt)
  refine qe (fun h2=>?_) fun _=>iE dflt
  generalize d2% 3=r at*
  have:r=0∨r=1:=by omega
  rcases this with rfl | rfl
  ·obtain⟨j,d,hd,e1,e2⟩:=kt ha
   simp only[show ic [[a],[b],[s]] 0=Res.ok [a]from rfl,Res.bind_ok',e1,e2,show jH [[a],[b],[s]] 0 [d]=Res.ok [[d],[b],[s]]from rfl]
   exact iE ⟨d,b,s,rfl,hd,hb,hs⟩
  ·obtain⟨j,d,hd,e1,e2⟩:=kt hb
   simp only[show ic [[a],[b],[s]] 1=Res.ok [b]from rfl,Res.bind_ok',e1,e2,show jH [[a],[b],[s]] 1 [d]=Res.ok [[a],[d],[s]]from rfl]
   exact iE ⟨a,d,s,rfl,ha,hd,hs⟩
 refine jU (step1.imp fun l1 ht=>?_)
 obtain⟨a,b,s,rfl,ha,hb,hs⟩:=ht
 have step2:((if(decide ((56:Int)≤d2))then Res.ok (decide ((d2% 3)=(2:Int)))else Res.ok false).bind fun y120=>(if y120 then((((ic [[a],[b],[s]] (2:Int)).bind fun y127=>fN ([115,122,111]:Tx) y127).bind fun y128=>dM ([122,111,115]:Tx) y128).bind fun y132=>jH [[a],[b],[s]] (2:Int) y132).bind fun y133=>Res.ok y133 else Res.ok [[a],[b],[s]]:Res (List Tx))).Ok rG:=by
  have dflt:rG [[a],[b],[s]]:=⟨a,b,s,rfl,ha,hb,hs⟩
  refine jU (qe (fun _=>iE ?_) fun _=>iE dflt)
  refine qe (fun h2=>?_) fun _=>iE dflt
  obtain⟨j,d,hd,e1,e2⟩:=rF hs
  simp only[show ic [[a],[b],[s]] 2=Res.ok [s]from rfl,Res.bind_ok',e1,e2,show jH [[a],[b],[s]] 2 [d]=Res.ok [[a],[b],[d]]from rfl]
  exact iE ⟨a,b,d,rfl,ha,hb,hd⟩
 refine jU (step2.imp fun l2 ht=>?_)
 obtain⟨a,b,s,rfl,ha,hb,hs⟩:=ht
 have cell1:∀(x:Nat) (k:Int),0< k→k< 10→∃y,((((fZ d2 k).bind fun y158=>Res.ok (y158% 2)).bind fun y159=>Res.ok (decide (y159=(1:Int)))).bind fun y160=>if y160 then Res.ok [x]else Res.ok ([63]:Tx))=.ok [y]∧(y=x∨y=63):=fun x k k0 k1=>by
  rw[jQ k0 (by omega)]
  simp only[Res.bind_ok']
  by_cases h:d2/ k% 2=1
  ·rw[if_pos (by simpa using h)];exact⟨x,rfl,.inl rfl⟩
  ·rw[if_neg (by simpa using h)];exact⟨63,rfl,.inr rfl⟩
 obtain⟨x,ex,hx⟩:=cell1 a 1 (by decide) (by decide)
 obtain⟨y,ey,hy⟩:=cell1 b 2 (by decide) (by decide)
 obtain⟨z,ez,hz⟩:=cell1 s 4 (by decide) (by decide)
 have ec:dX ([[a],[b],[s]].zip [(1:Int),2,4]) (fun(a149:Tx×Int)=>(((fZ d2 a149.2).bind fun y158=>Res.ok (y158% 2)).bind fun y159=>Res.ok (decide (y159=(1:Int)))).bind fun y160=>if y160 then Res.ok a149.1 else Res.ok ([63]:Tx))=.ok [[x],[y],[z]]:=by
  unfold dX
  rw[bm (show([[a],[b],[s]].zip [(1:Int),2,4]).length≤cap from(by show 3≤100000;decide)),Res.bind_ok']
  show gN _ [([a],(1:Int)),([b],2),([s],4)]=_
  simp only[gN,ex,ey,ez,Res.bind_ok']
 simp only[ec,Res.bind_ok',sW,fv (show out.length< 100000 by omega)]
 refine⟨_,⟨⟨x,rfl,?_⟩,⟨y,rfl,?_⟩,⟨z,rfl,?_⟩⟩,rfl⟩
 ·rcases hx with rfl | rfl
  ·exact .inl ha
  ·exact .inr rfl
 ·rcases hy with rfl | rfl
  ·exact .inl hb
  ·exact .inr rfl
 ·rcases hz with rfl | rfl
  ·exact .inl hs
  ·exact .inr rfl
def pV (n:Nat) (l:List Pl):Prop:=l.length=n∧∀m∈l,Mark m
theorem jl {α β:Type} {xs:List α} {ys:List β} {p:α×β} (h:p∈xs.zip ys):p.1∈xs∧p.2∈ys:=⟨(List.of_mem_zip h).1,(List.of_mem_zip h).2⟩
theorem pW {ps:List Pl} (hp:∀p∈ps,Whole p) (hl:ps.length≤900) (cell:Int) (lies:Bool):(rj ps cell lies).Ok (pV ps.length):=by
 unfold rj vk
 have e0:∃b:Int,((gM (8:Int) (if lies then(1:Int)else 0)).bind fun y9=>Res.ok ((56:Int)+y9))=.ok b∧56≤b∧b≤64:=by
  cases lies
  ·exact⟨56,rfl,by decide,by decide⟩
  ·exact⟨64,rfl,by decide,by decide⟩
 obtain⟨b,eb,hb0,hb1⟩:=e0
 rw[eb,Res.bind_ok']
 obtain⟨ns,en,hn,hns⟩:=li (cell/ 5) ps.length b (by omega) (by omega) (by omega)
 rw[en,Res.bind_ok']
 obtain⟨r,er,hr⟩:=cn (f:=u7 cell) (fun pre r=>pV pre.length r) (ps.zip ns) [] ⟨rfl,by simp⟩ (by
  intro pre a post s e ⟨h1,h2⟩
  have ha:a∈ps.zip ns:=by rw[e];simp
  have hlen:pre.length< 900:=by have:=congrArg List.length e;simp[List.length_zip,hn]at this;omega
  obtain⟨r,er,m,hm,rfl⟩:=(pU cell (hp _ (jl ha).1) (hns _ (jl ha).2).1 (by have:=(hns _ (jl ha).2).2;omega) (out:=s) (by omega)).ex
  refine⟨_,er,by simp[h1],fun x hx=>?_⟩
  rcases List.mem_append.mp hx with z | z
  ·exact h2 x z
  ·rw[List.mem_singleton.mp z];exact hm)
 rw[er]
 refine⟨by rw[hr.1,List.length_zip,hn];omega,hr.2⟩
def mw (t:Cd):Cd:=(if t.1=[83]then [90]else [83],[cO t 0,cO t 3,cO t 2,cO t 1],(0- t.2.2)% 4)
def ll (c:Nat):Nat:=if c=102 then 98 else if c=98 then 102 else c
def my (t:Cd) (k:Int):Cd:=(t.1,[cO t ((0- k)% 4),cO t ((1- k)% 4),cO t ((2- k)% 4),cO t ((3- k)% 4)],(t.2.2+k)% 4)
theorem ku {t:Cd} (h:Card t):rk t=.ok (mw t):=by
 unfold rk vm
 have e1:((fN ([83,90]:Tx) t.1).bind fun y5=>dM ([90,83]:Tx) y5)=.ok (if t.1=[83]then [90]else [83]):=by
  rcases h.lay with e | e <;> rw[e] <;> rfl
 rw[e1]
 simp only[Res.bind_ok',cW h (show(0:Int)≤0 by decide) (by decide),cW h (show(0:Int)≤3 by decide) (by decide),cW h (show(0:Int)≤2 by decide) (by decide),cW h (show(0:Int)≤1 by decide) (by decide)]
 rfl
theorem pX {t:Cd} (h:Card t) {x:Tx} (e:∀c∈x,∃i:Int,0≤i∧i< 4∧c=cO t i):∀c∈x,97≤c∧c≤122:=fun c hc=>by
 obtain⟨i,h0,h1,rfl⟩:=e c hc
 unfold cO
 have:i.toNat< t.2.1.length:=by rw[h.four];omega
 simp only[List.getElem?_eq_getElem this,Option.getD_some]
 exact h.col _ (List.getElem_mem this)
theorem Card.flip {t:Cd} (h:Card t):Card (mw t):=by
 refine⟨?_,rfl,pX h fun c hc=>?_,(dP _).1,(dP _).2⟩
 ·unfold mw;split
  ·exact .inr rfl
  ·exact .inl rfl
 ·have:c=cO t 0∨c=cO t 3∨c=cO t 2∨c=cO t 1:=by simpa [mw] using hc
  rcases this with rfl | rfl | rfl | rfl
  ·exact⟨0,by decide,by decide,rfl⟩
  ·exact⟨3,by decide,by decide,rfl⟩
  ·exact⟨2,by decide,by decide,rfl⟩
  ·exact⟨1,by decide,by decide,rfl⟩
theorem Card.roll {t:Cd} (h:Card t) (k:Int):Card (my t k):=by
 refine⟨h.lay,rfl,pX h fun c hc=>?_,(dP _).1,(dP _).2⟩
 have:c=cO t ((0- k)% 4)∨c=cO t ((1- k)% 4)∨c=cO t ((2- k)% 4)∨c=cO t ((3- k)% 4):=by simpa [my] using hc
 rcases this with rfl | rfl | rfl | rfl <;> exact⟨_,(dP _).1,(dP _).2,rfl⟩
theorem rH {t:Cd} (h:Card t) (k:Int):rm t k=.ok (my t k):=by
 unfold rm vo
 rw[show dN (4:Int)=Res.ok [(0:Int),1,2,3]from rfl,Res.bind_ok']
 rw[eD (g:=fun i:Int=>[cO t ((i- k)% 4)]) (by decide) (fun i _=>cW h (dP _).1 (dP _).2)]
 rfl
theorem pY {c:Nat} (h:isTurn c):isTurn (ll c):=by
 unfold ll;rcases h with rfl | rfl | rfl
 ·exact .inr (.inl rfl)
 ·exact .inl rfl
 ·exact .inr (.inr rfl)
theorem rJ {x:Tx} (h:cq x) (hl:x.length≤10000):rl x=.ok (x.map ll):=by
 unfold rl vn
 rw[eD (g:=fun t:Tx=>[ll (t.headD 0)]) (by show(bd x).length≤100000;simp[bd];omega) (fun t ht=>by
  obtain⟨c,hc,rfl⟩:=cZ ht
  rcases h c hc with rfl | rfl | rfl <;> rfl),Res.bind_ok']
 have e:((bd x).map fun t:Tx=>[ll (t.headD 0)])=(x.map ll).map fun c=>[c]:=by simp[bd]
 rw[e,jR (by rw[lR];simp;omega),lR]
theorem lm {x:Tx} (h:cq x):cq (x.map ll):=fun c hc=>by
 obtain⟨d,hd,rfl⟩:=List.mem_map.mp hc;exact pY (h d hd)
theorem mz (i:Int) (l:List Int) (hl:l.length< 1000):∃l',u8 i l=.ok l'∧(∀x,x∈l'↔x∈l∨x=i)∧(l.Nodup→l'.Nodup)∧l'.length≤l.length+1:=by
 unfold u8
 by_cases h:i∈l
 ·refine⟨l,?_,fun x=>⟨.inl,fun z=>z.elim id fun e=>e▸h⟩,id,by omega⟩
  rw[if_neg (by simp[h])];rfl
 ·refine⟨l++ [i],?_,fun x=>by simp,fun hn=>?_,by simp⟩
  ·rw[if_pos (by simp[h]),fv (by omega)];rfl
  ·rw[List.nodup_append];exact⟨hn,by simp,fun a ha b hb=>by simp at hb;subst hb;intro e;subst e;exact h ha⟩
def ss (t:Cd) (x:Tx) (i:Int):Prop:=∃k,0< k∧k≤x.length∧(i=(ends t (x.take k)).2.2∨i=((ends t (x.take k)).2.2+2)% 4)
theorem rK {t:Cd} (h:Card t) {x:Tx} (hx:cq x) (hl:x.length≤900):∃l,rn t x=.ok l∧l.Pairwise (· ≤ ·)∧l.Nodup∧(∀i∈l,0≤i∧i< 4)∧∀i,i∈l↔ss t x i:=by
 unfold rn vp
 obtain⟨s,e,h1,h2,h3,h4⟩:=cn (f:=uQ gw) (fun pre (s:Cd×List Int)=>s.1=ends t (x.take pre.length)∧s.2.Nodup∧(∀i∈s.2,0≤i∧i< 4)∧∀i,i∈s.2↔∃k,0< k∧k≤pre.length∧(i=(ends t (x.take k)).2.2∨i=((ends t (x.take k)).2.2+2)% 4)) (bd x) (t,[])
  ⟨by simp[ends],by simp,by simp,fun i=>⟨fun z=>by simp at z,fun⟨k,a,b,_⟩=>by simp at b;omega⟩⟩ (by
  intro pre a post s e ⟨h1,h2,h3,h4⟩
  have ha:a∈bd x:=by rw[e];simp
  obtain⟨c,hc,rfl⟩:=cZ ha
  have hlen:pre.length< x.length:=by have:=congrArg List.length e;simp[bd]at this;omega
  have hget:x[pre.length]? =some c:=by
   have:=congrArg (fun l=>l[pre.length]?) e
   simp only[bd,List.getElem?_map,List.getElem?_append_right (Nat.le_refl _),Nat.sub_self,List.getElem?_cons_zero]at this
   cases z:x[pre.length]? with
   | none=>rw[z]at this;cases this
   | some d=>rw[z]at this;simp at this;rw[this]
  have htake:x.take (pre.length+1)=x.take pre.length++ [c]:=by
   rw[List.take_add_one,hget];rfl
  have small:s.2.length≤4:=by
   have hsub:s.2 ⊆ [(0:Int),1,2,3]:=fun i hi=>by
    have:=h3 i hi
    have:i=0∨i=1∨i=2∨i=3:=by omega
    simpa using this
   exact(List.Nodup.length_le_of_subset h2 hsub)
  unfold uQ
  rw[h1,iI (hx c hc),Res.bind_ok']
  have hB:Card (behind (ends t (x.take pre.length)) c):=(h.ends _).behind c
  generalize hbe:behind (ends t (x.take pre.length)) c=B at hB ⊢
  obtain⟨l1,e1,m1,n1,k1⟩:=mz B.2.2 s.2 (by omega)
  obtain⟨l2,e2,m2,n2,k2⟩:=mz ((B.2.2+2)% 4) l1 (by omega)
  have el:bC u8 [B.2.2,(B.2.2+2)% 4] s.2=.ok l2:=by simp only[bC,e1,e2,Res.bind_ok']
  rw[el]
  have hE:ends t (x.take (pre.length+1))=B:=by rw[htake,pS,hbe]
  refine⟨(B,l2),rfl,by simp[hE],n2 (n1 h2),fun i hi=>?_,fun i=>?_⟩
  ·rcases (m2 i).mp hi with z | z
   ·rcases (m1 i).mp z with z | z
    ·exact h3 i z
    ·rw[z];exact⟨hB.low,hB.high⟩
   ·rw[z];exact dP _
  ·rw[m2,m1,h4]
   constructor
   ·rintro ((⟨k,a,b,z⟩ | z) | z)
    ·exact⟨k,a,by simp;omega,z⟩
    ·exact⟨pre.length+1,by omega,by simp,.inl (by rw[hE];exact z)⟩
    ·exact⟨pre.length+1,by omega,by simp,.inr (by rw[hE];exact z)⟩
   ·rintro ⟨k,a,b,z⟩
    simp at b
    rcases Nat.lt_or_ge k (pre.length+1)with q | q
    ·exact .inl (.inl ⟨k,a,by omega,z⟩)
    ·have:k=pre.length+1:=by omega
     subst this
     rw[hE]at z
     rcases z with z | z
     ·exact .inl (.inr z)
     ·exact .inr z)
 rw[e,Res.bind_ok']
 have hsub:s.2 ⊆ [(0:Int),1,2,3]:=fun i hi=>by
  have:=h3 i hi
  have:i=0∨i=1∨i=2∨i=3:=by omega
  simpa using this
 have small:=(List.Nodup.length_le_of_subset h2 hsub)
 simp only[List.length_cons,List.length_nil]at small
 rw[oU (by omega)]
 have pm:=gb s.2
 refine⟨_,rfl,iw _,pm.nodup_iff.mpr h2,fun i hi=>h3 i (pm.mem_iff.mp hi),fun i=>?_⟩
 rw[pm.mem_iff,h4]
 unfold ss
 simp[bd]
theorem tM (d:Int) (h0:0≤d) (h1:d< 26):∃c,dM ([97,98,99,100,101,102,103,104,105,106,107,108,109,110,111,112,113,114,115,116,117,118,119,120,121,122]:Tx) d=.ok [c]∧97≤c∧c≤122:=by
 obtain⟨c,e,h⟩:=fw (x:=([97,98,99,100,101,102,103,104,105,106,107,108,109,110,111,112,113,114,115,116,117,118,119,120,121,122]:Tx)) (i:=d) h0 (by simp;omega) (by decide)
 have:∀c∈([97,98,99,100,101,102,103,104,105,106,107,108,109,110,111,112,113,114,115,116,117,118,119,120,121,122]:Tx),97≤c∧c≤122:=by decide
 exact⟨c,e,this c (List.mem_of_getElem? h)⟩
def rL (t:Cd) (i:Nat) (c:Nat):Cd:=(t.1,t.2.1.set i c,t.2.2)
theorem Card.dye {t:Cd} (h:Card t) (i:Nat) {c:Nat} (h0:97≤c) (h1:c≤122):Card (rL t i c):=⟨h.lay,by simp[rL,h.four],fun x hx=>by
 rcases List.mem_or_eq_of_mem_set hx with z | z
 ·exact h.col x z
 ·rw[z];exact⟨h0,h1⟩,h.low,h.high⟩
theorem rM {x:Tx} {i c:Nat} (h:i< x.length):x.take i++ [c]++x.drop (i+1)=x.set i c:=by
 rw[List.set_eq_take_append_cons_drop,if_pos h];simp
theorem tN {t:Cd} (h:Card t) {i:Nat} (hi:i< 4) (c:Nat):((((mW t.2.1 none (some (i:Int))).bind fun y83=>fM y83 [c]).bind fun y84=>(mW t.2.1 (some ((i:Int)+(1:Int))) none).bind fun y85=>fM y84 y85).bind fun y86=>Res.ok (t.1,y86,t.2.2))=.ok (rL t i c):=by
 have hl:t.2.1.length≤100000:=by rw[h.four];decide
 rw[lQ hl,jT,Res.bind_ok',eX (by simp;have:=h.four;omega),Res.bind_ok',show(i:Int)+1=((i+1:Nat):Int)from rfl,lQ hl,oW,Res.bind_ok',eX (by simp;have:=h.four;omega),Res.bind_ok',rM (by rw[h.four];exact hi)]
 rfl
theorem tO (cell:Int) (l:List Int) {t:Cd} (h:Card t) {i:Nat} (hi:i< 4):∃t',u9 cell l (i:Int) t=.ok t'∧Card t'∧(t'=t∨((i:Int)∉l∧∃c,t'=rL t i c)):=by
 unfold u9
 by_cases z:(i:Int)∈l
 ·rw[if_neg (by simp[z])];exact⟨t,rfl,h,.inl rfl⟩
 ·rw[if_pos (by simp[z]),gW (by omega) (by omega)]
  simp only[Res.bind_ok']
  obtain⟨c,e,h0,h1⟩:=tM ((cell/ 16+5*(i:Int))% 26) (Int.emod_nonneg _ (by decide)) (Int.emod_lt_of_pos _ (by decide))
  rw[e]
  simp only[Res.bind_ok']
  have:=tN h hi c
  rw[this]
  exact⟨_,rfl,h.dye i h0 h1,.inr ⟨z,c,rfl⟩⟩
theorem tP {t:Cd} (h:Card t) {x:Tx} (hx:cq x) (hl:x.length≤900) (cell:Int):(rp t x cell).Ok fun r=>Card r.1∧cq r.2∧r.2.length=x.length:=by
 unfold rp vq
 refine jU (Res.Ok.imp (P:=fun r:Cd×Tx=>Card r.1∧cq r.2∧r.2.length=x.length) (qe (fun _=>?_) fun _=>iE ⟨h,hx,rfl⟩) fun r ⟨h1,h2,h3⟩=>?_)
 ·rw[ku h,Res.bind_ok',rJ hx (by omega),Res.bind_ok']
  exact⟨h.flip,lm hx,by simp⟩
 ·rw[rH h1,Res.bind_ok']
  have hr:=h1.roll (cell/ 2% 4)
  generalize my r.1 (cell/ 2% 4)=R at hr ⊢
  refine jU (Res.Ok.imp (P:=Card) (qe (fun _=>?_) fun _=>iE hr) fun c hc=>iE ⟨hc,h2,h3⟩)
  obtain⟨l,el,_⟩:=rK hr h2 (by omega)
  rw[el,Res.bind_ok',show dN (4:Int)=Res.ok ((List.range 4).map fun(i:Nat)=>(i:Int))from rfl,Res.bind_ok']
  obtain⟨s,es,hs⟩:=cn (f:=u9 cell l) (fun pre s=>Card s) ((List.range 4).map fun(i:Nat)=>(i:Int)) R hr (by
   intro pre a post s e hs
   have ha:a∈(List.range 4).map fun(i:Nat)=>(i:Int):=by rw[e];simp
   obtain⟨i,hi,rfl⟩:=List.mem_map.mp ha
   obtain⟨t',e',h',_⟩:=tO cell l hs (List.mem_range.mp hi)
   exact⟨t',e',h'⟩)
  rw[es]
  exact hs
def standAt (t:Cd) (i:Int):Cd:=(t.1,t.2.1,(if t.1=[83]then t.2.2+i else t.2.2- i)% 4)
def fits (p m:Pl):Bool:=(decide (m.1=[63]) || decide (m.1=p.1)) && ((decide (m.2.1=[63]) || decide (m.2.1=p.2.1)) && (decide (m.2.2=[63]) || decide (m.2.2=p.2.2)))
theorem Card.standAt {t:Cd} (h:Card t) (i:Int):Card (standAt t i):=⟨h.lay,h.four,h.col,(dP _).1,(dP _).2⟩
theorem tQ {t:Cd} (h:Card t):fF t=.ok [cO t t.2.2]:=by
 unfold fF mq
 rw[show t.2.2% 4=t.2.2 from Int.emod_eq_of_lt h.low h.high,cW h h.low h.high]
theorem nz {t:Cd} (h:Card t):rB t=.ok [cO t ((t.2.2+2)% 4)]:=by
 unfold rB vF;rw[cW h (dP _).1 (dP _).2]
theorem gc {t:Cd} {c:Nat} (h:isTurn c):lh t [c]=.ok (tw t c):=by
 unfold lh vC
 have e:getD ([([102],1),([98],(-1)),([105],0)]:List (Tx×Int)) [c]=.ok (go c):=by rcases h with rfl | rfl | rfl <;> rfl
 rw[e,Res.bind_ok']
 by_cases z:t.1=[83]
 ·rw[if_pos (by simpa using z)];unfold tw;rw[if_pos z]
 ·rw[if_neg (by simpa using z)];unfold tw;rw[if_neg z]
theorem nA {i:Int} (h: -1≤i∧i≤1):getD ([(1,[115]),((-1),[122]),(0,[111])]:List (Int×Tx)) i=.ok [km i]:=by
 have:i= -1∨i=0∨i=1:=by omega
 rcases this with rfl | rfl | rfl <;> rfl
theorem rN {t:Cd} (h:Card t) {c:Nat} (hc:isTurn c):rC t [c]=.ok (place t c):=by
 unfold rC vG
 simp only[tQ h,nz h,gc hc,Res.bind_ok',nA (sq t c)]
 rfl
theorem ln (t:Cd) (i:Int):rA t i=.ok (standAt t i):=by
 unfold rA vE standAt
 by_cases z:t.1=[83]
 ·rw[if_pos (by simpa using z),if_pos z];rfl
 ·rw[if_neg (by simpa using z),if_neg z];rfl
theorem pZ (a b:Tx):qi a b=.ok (decide (b=[63]) || decide (b=a)):=by
 unfold qi vH
 by_cases z:b=[63]
 ·rw[if_pos (by simpa using z),decide_eq_true z];rfl
 ·rw[if_neg (by simpa using z),decide_eq_false z];rfl
theorem nB (p m:Pl):rD p m=.ok (fits p m):=by
 unfold rD vI
 rw[eD (g:=fun a1:Tx×Tx=>decide (a1.2=[63]) || decide (a1.2=a1.1)) (by show 3≤100000;decide) (fun x _=>pZ x.1 x.2),Res.bind_ok']
 congr 1
 simp[fits]
theorem nE {t:Cd} (h:Card t) (s:Int×Int) {c:Nat} (hc:isTurn c) (m:Pl):pK t s [c] m=.ok (fits (place (standAt t s.1) c) m):=by
 unfold pK vJ
 simp only[ln,Res.bind_ok',rN (h.standAt _) hc,nB]
def az (t:Cd) (s:Int×Int) (c:Nat):Int×Int:=(s.1+tw t c,if c=105 then s.2+1 else 0)
theorem q0 {t:Cd} (s:Int×Int) {c:Nat} (hc:isTurn c):qh t s [c]=.ok (az t s c):=by
 unfold qh vD az
 simp only[gc hc,Res.bind_ok']
 by_cases z:c=105
 ·rw[if_pos (by simp[z]),if_pos z];rfl
 ·rw[if_neg (by simp[z]),if_neg z];rfl
def dn (s:Int×Int) (loose bound:Int):Bool:=decide (bi s.1≤bound) && decide (s.2≤loose)
theorem iK (s:Int×Int) (loose bound:Int):k9 s loose bound=.ok (dn s loose bound):=by
 unfold k9 vB dn
 by_cases z:bi s.1≤bound
 ·rw[if_pos (by simpa using z),decide_eq_true z];rfl
 ·rw[if_neg (by simpa using z),decide_eq_false z];rfl
def dG (t:Cd) (loose bound:Int) (s:Int×Int) (c:Nat) (m:Pl):Bool:=dn (az t s c) loose bound && fits (place (standAt t (az t s c).1) c) m
def cC (t:Cd) (loose bound:Int):Int×Int→List (Nat×Pl)→Bool
 | _,[]=>true
 | s,(c,m)::r=>dG t loose bound s c m && cC t loose bound (az t s c) r
def gd (c:Nat):Bool:=decide (isTurn c)
theorem turnB_iff {c:Nat} :gd c=true↔isTurn c:=decide_eq_true_iff
def jm (x:Tx) (n:Nat):Bool:=decide (x.length=n) && x.all gd
theorem rO (p m:Pl):dA uR ([p.1,p.2.1,p.2.2].zip [m.1,m.2.1,m.2.2]) ()=.ok (if fits p m then .nx ()else .rt false):=by
 rw[iD (g:=fun a:Tx×Tx=>if decide (a.2=[63]) || decide (a.2=a.1)then none else some false) _ (fun a _=>by
  unfold uR
  by_cases z:a.2=[63]
  ·simp[z]
  ·by_cases y:a.2=a.1
   ·simp[z,y]
   ·simp[z,y])]
 congr 1
 unfold fits
 simp only[List.zip_cons_cons,List.zip_nil_right,List.findSome?_cons,List.findSome?_nil]
 cases decide (m.1=[63]) || decide (m.1=p.1) <;> cases decide (m.2.1=[63]) || decide (m.2.1=p.2.1) <;> cases decide (m.2.2=[63]) || decide (m.2.2=p.2.2) <;> rfl
theorem rP {t:Cd} (loose bound:Int) (s:Int×Int) (hs: -1000000< s.2∧s.2< 1000000) {c:Nat} (hc:isTurn c) (m:Pl):uc dY t loose bound ([c],place (standAt t (az t s c).1) c,m) s=.ok (if dG t loose bound s c m then .nx (az t s c)else .rt false):=by
 unfold uc
 simp only[i4 hc,Res.bind_ok',rO]
 rw[gW (by omega) (by omega)]
 simp only[Res.bind_ok']
 have e:(s.2+1)*(if decide (([c]:Tx)=[105])=true then(1:Int)else 0)=(az t s c).2:=by
  unfold az
  by_cases z:c=105
  ·simp[z]
  ·simp[z]
 rw[e]
 have e1:s.1+tw t c=(az t s c).1:=rfl
 rw[e1]
 unfold dG dn
 by_cases z:bound< bi (az t s c).1
 ·have:¬bi (az t s c).1≤bound:=by omega
  simp[z,this]
 ·have:bi (az t s c).1≤bound:=by omega
  by_cases y:loose< (az t s c).2
  ·have:¬(az t s c).2≤loose:=by omega
   simp[*]
  ·have:(az t s c).2≤loose:=by omega
   simp only[z,y,decide_false,Bool.false_eq_true,if_false,Res.bind_ok',decide_eq_true ‹bi (az t s c).1≤bound›,decide_eq_true ‹(az t s c).2≤loose›,Bool.and_self,Bool.true_and]
   cases fits (place (standAt t (az t s c).1) c) m <;> rfl
theorem jn (t:Cd) (i:Int) (c:Nat):behind (standAt t i) c=standAt t (i+tw t c):=by
 unfold behind standAt tw
 split
 ·simp only[Prod.mk.injEq,true_and];omega
 ·simp only[Prod.mk.injEq,true_and];omega
theorem tR {t:Cd} (h:Card t):standAt t 0=t:=by
 unfold standAt
 have:=h.low;have:=h.high
 rw[Int.add_zero,Int.sub_zero,ite_self,Int.emod_eq_of_lt h.low h.high]
theorem iL {t:Cd} (loose bound:Int):∀(x:Tx) (strip:List Pl),cq x→∀(s:Int×Int),0≤s.2→s.2+x.length< 100000→dA (uc dY t loose bound) ((bd x).zip ((cI (standAt t s.1) x).zip strip)) s=.ok (if cC t loose bound s (x.zip strip)then .nx (((x.zip strip).foldl (fun s p=>az t s p.1) s))else .rt false)
 | [],strip,_,s,_,_=>by simp[bd,dA,cC]
 | c::r,[],_,s,_,_=>by simp[bd,dA,cC]
 | c :: r, m :: ms, hx, s, h0, h1 => by
  have hc:=hx c (by simp)
  simp only[List.length_cons]at h1
  have e:(bd (c::r)).zip ((cI (standAt t s.1) (c::r)).zip (m::ms))=([c],place (standAt t (az t s c).1) c,m)::(bd r).zip ((cI (standAt t (az t s c).1) r).zip ms):=by
   simp only[cI,jn];rfl
  rw[e]
  unfold dA
  rw[rP loose bound s ⟨by omega,by omega⟩ hc m,Res.bind_ok']
  have b2:(az t s c).2=s.2+1∨(az t s c).2=0:=by unfold az;split <;> simp
  have ih:=iL (t:=t) loose bound r ms (fun d hd=>hx d (by simp[hd])) (az t s c) (by omega) (by omega)
  simp only[List.zip_cons_cons,cC,List.foldl_cons]
  cases z:dG t loose bound s c m with
  | false=>rfl
  | true=>simp only[if_true,oA,ih,Bool.true_and]
theorem nF {t:Cd} (h:Card t) (strip:List Pl) (loose bound:Int) {x:Tx} (hl:x.length≤10000):mm t strip loose bound x=.ok (jm x strip.length && cC t loose bound (0,0) (x.zip strip)):=by
 unfold mm vz
 rw[qL (by omega)]
 simp only[Res.bind_ok']
 by_cases z:x.length=strip.length
 ·rw[if_neg (by simp[z])]
  rw[iD (g:=fun t:Tx=>cond (gd (t.headD 0)) none (some false)) _ (fun t ht=>by
   obtain⟨c,hc,rfl⟩:=cZ ht
   unfold vw
   simp only[List.headD_cons]
   by_cases q:isTurn c
   ·rcases q with rfl | rfl | rfl <;> rfl
   ·rw[show gd c=false from decide_eq_false q]
    have q1:c≠102:=fun e=>q (.inl e)
    have q2:c≠98:=fun e=>q (.inr (.inl e))
    have q3:c≠105:=fun e=>q (.inr (.inr e))
    simp[q1,q2,q3]),Res.bind_ok']
  cases hf:(bd x).findSome? fun t:Tx=>cond (gd (t.headD 0)) none (some false)with
  | some r =>
   obtain⟨t',ht',e⟩:=List.exists_of_findSome?_eq_some hf
   obtain⟨c,hc,rfl⟩:=cZ ht'
   have q:gd c=false:=by
    cases z:gd c with
    | false=>rfl
    | true=>simp[z]at e
   have:r=false:=by simpa [q] using e.symm
   subst this
   have:jm x strip.length=false:=by
    unfold jm
    rw[Bool.and_eq_false_iff];right
    rw[List.all_eq_false];exact⟨c,hc,by simp[q]⟩
   simp[this]
  | none =>
   rw[List.findSome?_eq_none_iff]at hf
   have hx:cq x:=fun c hc=>by
    have:=hf [c] (by unfold bd;exact List.mem_map.mpr ⟨c,hc,rfl⟩)
    refine Classical.byContradiction fun q=>?_
    simp[show gd c=false from decide_eq_false q]at this
   have hr:jm x strip.length=true:=by
    unfold jm
    simp only[Bool.and_eq_true,decide_eq_true_eq,List.all_eq_true]
    exact⟨z,fun c hc=>turnB_iff.mpr (hx c hc)⟩
   simp only[iJ h hx hl,Res.bind_ok']
   have w:=iL (t:=t) loose bound x strip hx (0,0) (by decide) (by show(0:Int)+_< _;omega)
   rw[show standAt t ((0,0):Int×Int).1=t from tR h]at w
   rw[w,Res.bind_ok',hr,Bool.true_and]
   cases cC t loose bound (0,0) (x.zip strip) <;> rfl
 ·rw[if_pos (by simp;omega)]
  have:jm x strip.length=false:=by unfold jm;simp[z]
  simp[this]
theorem tS {t:Cd} {c:Nat} (h:isTurn c): -1≤tw t c∧tw t c≤1:=by
 unfold tw go
 rcases h with rfl | rfl | rfl <;> split <;> decide
def uV (t:Cd) (mk:Pl) (loose bound:Int) (s:Int×Int):List Nat:=[102,98,105].filter fun c=>dG t loose bound s c mk
theorem mem_onw {t:Cd} {mk:Pl} {loose bound:Int} {s:Int×Int} {c:Nat} :c∈uV t mk loose bound s↔isTurn c∧dG t loose bound s c mk=true:=by
 unfold uV
 rw[List.mem_filter]
 simp[isTurn]
theorem nG {t:Cd} (h:Card t) (mk:Pl) (loose bound:Int) (s:Int×Int):pL t mk loose bound s=.ok ((uV t mk loose bound s).map fun c=>([c],az t s c)):=by
 unfold pL vK uV
 rw[eD (g:=fun a:Tx=>(a,az t s (a.headD 0))) (by show 3≤100000;decide) (fun a ha=>by
  obtain⟨c,hc,rfl⟩:=cZ ha
  have ht:isTurn c:=by simpa [isTurn] using hc
  rw[q0 s ht];rfl),Res.bind_ok']
 rw[oV (g:=fun a:Tx×(Int×Int)=>if dG t loose bound s (a.1.headD 0) mk=true then some a else none) (by show 3≤100000;decide) (fun a ha=>by
  obtain⟨x,hx,rfl⟩:=List.mem_map.mp ha
  obtain⟨c,hc,rfl⟩:=cZ hx
  have ht:isTurn c:=by simpa [isTurn] using hc
  show((k9 (az t s c) loose bound).bind fun y=>if y then pK t (az t s c) [c] mk else Res.ok false).bind (fun y=>if y then Res.ok (some ([c],az t s c))else Res.ok none)=_
  rw[iK,Res.bind_ok',nE h _ ht]
  show _=Res.ok (if dG t loose bound s c mk=true then some ([c],az t s c)else none)
  unfold dG
  cases dn (az t s c) loose bound <;> cases fits (place (standAt t (az t s c).1) c) mk <;> rfl)]
 show Res.ok (List.filterMap _ [([102],az t s 102),([98],az t s 98),([105],az t s 105)])=_
 cases h1:dG t loose bound s 102 mk <;> cases h2:dG t loose bound s 98 mk <;> cases h3:dG t loose bound s 105 mk <;> simp[h1,h2,h3]
def dq (k:Nat) (p:Int×Int):Prop:= -(k:Int)≤p.1∧p.1≤k∧0≤p.2∧p.2≤k
theorem lq:∀(n:Nat) (l:List Nat),l.Nodup→(∀x∈l,x< n)→l.length≤n
 | 0, l, _, h => by
  cases l with
  | nil=>simp
  | cons a l=>exact absurd (h a (List.mem_cons_self ..)) (by omega)
 | n + 1, l, nd, h => by
  by_cases z:n∈l
  ·have:=lq n (l.erase n) (nd.erase n) fun x hx=>by
    have h1:=h x (List.mem_of_mem_erase hx)
    have h2:x≠n:=fun e=>by subst e;exact(List.Nodup.not_mem_erase nd) hx
    omega
   rw[List.length_erase_of_mem z]at this
   omega
  ·have:=lq n l nd fun x hx=>by
    have h1:=h x hx
    have h2:x≠n:=fun e=>z (e▸hx)
    omega
   omega
theorem mC {k:Nat} (hk:k≤4) {l:List (Int×Int)} (nd:l.Nodup) (h:∀p∈l,dq k p):l.length≤45:=by
 have nd2:(l.map fun p=>((p.1+4)*5+p.2).toNat).Nodup:=by
  rw[List.nodup_iff_pairwise_ne,List.pairwise_map]
  refine(List.nodup_iff_pairwise_ne.mp nd).imp_of_mem fun {a b} ha hb hne e=>hne ?_
  have h1:=h a ha
  have h2:=h b hb
  unfold dq at h1 h2
  exact Prod.ext (by omega) (by omega)
 have:=lq 45 _ nd2 fun x hx=>by
  obtain⟨p,hp,rfl⟩:=List.mem_map.mp hx
  have h1:=h p hp
  unfold dq at h1
  omega
 simpa using this
theorem rQ {k:Nat} (hk:k≤4) (ys:List (Tx×(Int×Int))) (s0:List (Int×Int)) (nd:s0.Nodup) (h0:∀p∈s0,dq k p) (hy:∀a∈ys,dq k a.2):
  ∃s,bC (fun(a:Tx×(Int×Int)) (s:List (Int×Int))=>l5 s a.2) ys s0=.ok s∧s.Nodup∧∀p,p∈s↔p∈s0∨∃a∈ys,p=a.2:=by
 obtain⟨s,e,h1,h2⟩:=cn (f:=fun(a:Tx×(Int×Int)) (s:List (Int×Int))=>l5 s a.2) (fun pre s=>s.Nodup∧∀p,p∈s↔p∈s0∨∃a∈pre,p=a.2) ys s0 ⟨nd,fun p=>by simp⟩ (by
  intro pre a post s e ⟨h1,h2⟩
  have hb:∀p∈s,dq k p:=fun p hp=>by
   rcases (h2 p).mp hp with z | ⟨b,hb,rfl⟩
   ·exact h0 p z
   ·exact hy b (by rw[e];simp[hb])
  have hl:=mC hk h1 hb
  refine⟨_,bm (by omega),?_⟩
  by_cases z:a.2∈s
  ·rw[if_pos z]
   refine⟨h1,fun p=>?_⟩
   rw[h2]
   constructor
   ·rintro (q | ⟨b,hb,rfl⟩)
    ·exact .inl q
    ·exact .inr ⟨b,by simp[hb],rfl⟩
   ·rintro (q | ⟨b,hb,rfl⟩)
    ·exact .inl q
    ·rcases List.mem_append.mp hb with hb | hb
     ·exact .inr ⟨b,hb,rfl⟩
     ·have:b=a:=by simpa using hb
      subst this
      exact(h2 _).mp z
  ·rw[if_neg z]
   refine⟨List.nodup_cons.mpr ⟨z,h1⟩,fun p=>?_⟩
   rw[List.mem_cons,h2]
   constructor
   ·rintro (rfl | q | ⟨b,hb,rfl⟩)
    ·exact .inr ⟨a,by simp,rfl⟩
    ·exact .inl q
    ·exact .inr ⟨b,by simp[hb],rfl⟩
   ·rintro (q | ⟨b,hb,rfl⟩)
    ·exact .inr (.inl q)
    ·rcases List.mem_append.mp hb with hb | hb
     ·exact .inr (.inr ⟨b,hb,rfl⟩)
     ·have:b=a:=by simpa using hb
      subst this
      exact .inl rfl)
 exact⟨s,e,h1,h2⟩
theorem i5 {t:Cd} {k:Nat} {s:Int×Int} (h:dq k s) {c:Nat} (hc:isTurn c):dq (k+1) (az t s c):=by
 have:=tS (t:=t) hc
 unfold dq at h ⊢
 unfold az
 dsimp only
 split <;> omega
theorem ls {t:Cd} (h:Card t) (mk:Pl) (loose bound:Int) {k:Nat} (hk:k< 4) (states:List (Int×Int)) (hs:∀p∈states,dq k p):
  (kE t mk loose bound states).Ok fun l=>(∀p∈l,dq (k+1) p)∧∀p,p∈l↔∃s∈states,∃c,isTurn c∧dG t loose bound s c mk=true∧p=az t s c:=by
 unfold kE vL
 obtain⟨s,e,h1,h2⟩:=cn (f:=fun(a:Int×Int) (s:List (Int×Int))=>(pL t mk loose bound a).bind fun y=>bC (fun(a:Tx×(Int×Int)) (s:List (Int×Int))=>l5 s a.2) y s)
  (fun pre s=>s.Nodup∧∀p,p∈s↔∃s∈pre,∃c,isTurn c∧dG t loose bound s c mk=true∧p=az t s c) states [] ⟨List.nodup_nil,fun p=>by simp⟩ (by
  intro pre a post s e ⟨h1,h2⟩
  have ha:dq k a:=hs a (by rw[e];simp)
  rw[nG h,Res.bind_ok']
  obtain⟨s',e',g1,g2⟩:=rQ (k:=k+1) (by omega) ((uV t mk loose bound a).map fun c=>([c],az t a c)) s h1 (fun p hp=>by
   obtain⟨q,hq,c,hc,_,rfl⟩:=(h2 p).mp hp
   exact i5 (hs q (by rw[e];simp[hq])) hc) (fun b hb=>by
   obtain⟨c,hc,rfl⟩:=List.mem_map.mp hb
   exact i5 ha (mem_onw.mp hc).1)
  refine⟨s',e',g1,fun p=>?_⟩
  rw[g2,h2]
  constructor
  ·rintro (⟨q,hq,z⟩ | ⟨b,hb,rfl⟩)
   ·exact⟨q,by simp[hq],z⟩
   ·obtain⟨c,hc,rfl⟩:=List.mem_map.mp hb
    exact⟨a,by simp,c,(mem_onw.mp hc).1,(mem_onw.mp hc).2,rfl⟩
  ·rintro ⟨q,hq,c,hc,hm,rfl⟩
   rcases List.mem_append.mp hq with hq | hq
   ·exact .inl ⟨q,hq,c,hc,hm,rfl⟩
   ·have:q=a:=by simpa using hq
    subst this
    exact .inr ⟨([c],az t q c),List.mem_map.mpr ⟨c,mem_onw.mpr ⟨hc,hm⟩,rfl⟩,rfl⟩)
 have hb:∀p∈s,dq (k+1) p:=fun p hp=>by
  obtain⟨q,hq,c,hc,_,rfl⟩:=(h2 p).mp hp
  exact i5 (hs q hq) hc
 have hl:=mC (by omega) h1 hb
 rw[show bC _ states []=Res.ok s from e,Res.bind_ok',show oZ s=.ok (dO s)from bm (by omega)]
 have mem:∀p,p∈dO s↔p∈s:=fun p=>(fz s).mem_iff
 exact⟨fun p hp=>hb p ((mem p).mp hp),fun p=>(mem p).trans (h2 p)⟩
def cR (t:Cd) (loose bound:Int) (s:Int×Int) (l:List Pl):Prop:=∃x:Tx,cq x∧x.length=l.length∧cC t loose bound s (x.zip l)=true
theorem nH {t:Cd} {loose bound:Int} {s:Int×Int} :cR t loose bound s []:=⟨[],fun c hc=>(by cases hc),rfl,rfl⟩
theorem leads_cons {t:Cd} {loose bound:Int} {s:Int×Int} {m:Pl} {l:List Pl} :cR t loose bound s (m::l)↔∃c,isTurn c∧dG t loose bound s c m=true∧cR t loose bound (az t s c) l:=by
 constructor
 ·rintro ⟨x,h1,h2,h3⟩
  cases x with
  | nil=>simp at h2
  | cons c x =>
   have h4:(dG t loose bound s c m && cC t loose bound (az t s c) (x.zip l))=true:=h3
   rw[Bool.and_eq_true]at h4
   exact⟨c,h1 c (List.mem_cons_self ..),h4.1,x,fun d hd=>h1 d (List.mem_cons_of_mem _ hd),by simpa using h2,h4.2⟩
 ·rintro ⟨c,h1,h2,x,h3,h4,h5⟩
  refine⟨c::x,fun d hd=>?_,by simp[h4],?_⟩
  ·rcases List.mem_cons.mp hd with rfl | hd
   ·exact h1
   ·exact h3 d hd
  ·show(dG t loose bound s c m && cC t loose bound (az t s c) (x.zip l))=true
   rw[h2,h5];rfl
theorem gy {α:Type} (pre:List α) (a:α):ic (pre++ [a]) (-(1:Int))=.ok a:=by
 have e:qd (pre++ [a]) (-1)=some a:=by
  unfold qd ixN
  rw[if_neg (by decide),if_pos (by simp;omega)]
  show(pre++ [a])[_]? =some a
  have:(-1+((pre++ [a]).length:Int)).toNat=pre.length:=by simp;omega
  rw[this]
  simp
 unfold ic
 rw[e]
 rfl
theorem lu (t:Cd) (loose bound:Int) (m:Pl) (pre:List (List (Int×Int))):so kE t loose bound m (pre++ [[]])=.ok (.rt (pre++ [[]])):=by
 unfold so
 rw[gy]
 rfl
theorem kw {t:Cd} {loose bound:Int} {m:Pl} {pre:List (List (Int×Int))} {a:Int×Int} {r l:List (Int×Int)} (hp:pre.length≤200) (e:kE t m loose bound (a::r)=.ok l):so kE t loose bound m (pre++ [a::r])=.ok (.nx (pre++ [a::r]++ [l])):=by
 unfold so
 rw[gy]
 simp only[Res.bind_ok']
 rw[if_neg (by simp),e,Res.bind_ok',fv (by simp;omega)]
 rfl
theorem ge {t:Cd} (h:Card t) (loose bound:Int):∀(strip:List Pl) (k:Nat) (pre:List (List (Int×Int))) (cur:List (Int×Int)),k+strip.length≤4→pre.length≤100+k→(∀p∈cur,dq k p)→
  (dA (so kE t loose bound) strip (pre++ [cur])).Ok fun r=>∃p' L,(r=.nx (p'++ [L])∨r=.rt (p'++ [L]))∧(L=[]↔¬∃s∈cur,cR t loose bound s strip)
 | [], k, pre, cur, hk, hp, hc => by
  refine⟨pre,cur,.inl rfl,?_⟩
  cases cur with
  | nil=>simp
  | cons a r=>simp only[List.cons_ne_nil,false_iff,Classical.not_not];exact⟨a,List.mem_cons_self ..,nH⟩
 | m :: strip, k, pre, cur, hk, hp, hc => by
  simp only[List.length_cons]at hk
  refine jU ?_
  cases cur with
  | nil=>rw[lu];exact⟨pre,[],.inr rfl,by simp⟩
  | cons a r =>
   obtain⟨l,el,h1,h2⟩:=(ls h m loose bound (by omega) (a::r) hc).ex
   rw[kw (by omega) el]
   have key:(∃s∈a::r,cR t loose bound s (m::strip))↔∃s∈l,cR t loose bound s strip:=by
    constructor
    ·rintro ⟨s,hs,hL⟩
     obtain⟨c,c1,c2,c3⟩:=leads_cons.mp hL
     exact⟨_,(h2 _).mpr ⟨s,hs,c,c1,c2,rfl⟩,c3⟩
    ·rintro ⟨s,hs,hL⟩
     obtain⟨q,hq,c,c1,c2,rfl⟩:=(h2 s).mp hs
     exact⟨q,hq,leads_cons.mpr ⟨c,c1,c2,hL⟩⟩
   rw[key]
   exact ge h loose bound strip (k+1) (pre++ [a::r]) l (by omega) (by simp;omega) h1
theorem iM {t:Cd} (h:Card t) (strip:List Pl) (hl:strip.length≤4) {loose bound:Int} (h0:0≤loose) (h1:0≤bound):(nw t strip loose bound).Ok fun r=>∃L,ic r (-(1:Int))=.ok L∧(L=[]↔¬cR t loose bound (0,0) strip):=by
 unfold nw vM
 have w:dn (0,0) loose bound=true:=by
  unfold dn bi
  simp;omega
 rw[iK,w]
 simp only[Res.bind_ok',if_true]
 refine jU ((ge h loose bound strip 0 [] [(0,0)] (by omega) (by simp) (fun p hp=>?_)).imp fun r ⟨p',L,hr,hL⟩=>?_)
 ·have:p=(0,0):=by simpa using hp
  subst this
  exact⟨by decide,by decide,by decide,by decide⟩
 ·have hL':L=[]↔¬cR t loose bound (0,0) strip:=by rw[hL];simp
  rcases hr with rfl | rfl
  ·exact⟨L,gy p' L,hL'⟩
  ·exact⟨L,gy p' L,hL'⟩
theorem kA {c:Int→Res Bool} {f:Int→Res Int} {P:Int→Prop} (hc:∀b,0≤b→∃r,c b=.ok r∧(r=true↔¬P b)) (hf:∀b,f b=.ok (b+1)):∀(m:Nat) (fuel:Nat) (b:Int),0≤b→m< fuel→(∃d,b≤d∧d≤b+m∧P d)→(eI c f fuel b).Ok fun d=>b≤d∧P d∧∀e,b≤e→e< d→¬P e
 | m,0,b,_,h,_=>absurd h (by omega)
 | m, fuel + 1, b, h0, hm, ⟨d, d1, d2, d3⟩ => by
  obtain⟨r,er,hr⟩:=hc b h0
  unfold eI
  rw[er,Res.bind_ok']
  cases r with
  | false=>exact⟨Int.le_refl _,Classical.not_not.mp fun z=>Bool.noConfusion (hr.mpr z),fun e h1 h2=>absurd h1 (by omega)⟩
  | true =>
   have np:=hr.mp rfl
   rw[if_pos rfl,hf,Res.bind_ok']
   have hd:d≠b:=fun z=>np (z▸d3)
   cases m with
   | zero=>exact absurd d2 (by omega)
   | succ m =>
    refine(kA hc hf m fuel (b+1) (by omega) (by omega) ⟨d,by omega,by omega,d3⟩).imp fun x ⟨h1,h2,h3⟩=>⟨by omega,h2,fun e h4 h5=>?_⟩
    by_cases z:e=b
    ·rw[z];exact np
    ·exact h3 e (by omega) h5
theorem q9 {t:Cd} (h:Card t) (strip:List Pl) (hl:strip.length≤4) {loose:Int} (h0:0≤loose):(qj t strip loose).Ok fun r=>(r=none∧¬cR t loose strip.length (0,0) strip)∨(cR t loose strip.length (0,0) strip∧∃d,r=some d∧0≤d∧cR t loose d (0,0) strip∧∀e,0≤e→e< d→¬cR t loose e (0,0) strip):=by
 unfold qj vP
 obtain⟨r,er,L,eL,hL⟩:=(iM h strip hl h0 (show(0:Int)≤strip.length by omega)).ex
 rw[er,Res.bind_ok',eL]
 simp only[Res.bind_ok']
 cases L with
 | nil =>
  exact .inl ⟨rfl,hL.mp rfl⟩
 | cons a q =>
  rw[if_neg (by simp)]
  have yes:cR t loose strip.length (0,0) strip:=Classical.byContradiction fun z=>List.cons_ne_nil _ _ (hL.mpr z)
  refine jU ((kA (P:=fun b=>cR t loose b (0,0) strip) (fun b hb=>?_) (fun b=>?_) strip.length cap 0 (by omega) (by show strip.length< 100000;omega) ⟨strip.length,by omega,by omega,yes⟩).imp fun d ⟨h1,h2,h3⟩=>?_)
  ·obtain⟨r',er',L',eL',hL'⟩:=(iM h strip hl h0 hb).ex
   unfold vN
   rw[er',Res.bind_ok',eL',Res.bind_ok']
   exact⟨_,rfl,by rw[List.isEmpty_iff];exact hL'⟩
  ·unfold vO;rfl
  ·exact .inr ⟨yes,d,rfl,h1,h2,h3⟩
theorem qa {s:List Int} (hs:s.length≤63) (most:Nat) (hm:most≤24):(qg s (most:Int)).Ok fun r=>Card r.1∧(∃n,n≤most∧pV n r.2.1)∧0≤r.2.2∧r.2.2< 4:=by
 unfold qg vt
 obtain⟨c0,e0⟩:=kg hs 0 (by decide)
 obtain⟨c1,e1⟩:=kg hs 1 (by decide)
 obtain⟨c2,e2⟩:=kg hs 2 (by decide)
 obtain⟨c3,e3⟩:=kg hs 3 (by decide)
 obtain⟨c4,e4⟩:=kg hs 4 (by decide)
 obtain⟨t,et,ht⟩:=mv c0
 rw[show jj s 0=.ok c0 from e0,show jj s 1=.ok c1 from e1,show jj s 2=.ok c2 from e2,show jj s 3=.ok c3 from e3,show jj s 4=.ok c4 from e4]
 simp only[Res.bind_ok',et]
 rw[gp (by omega),Res.bind_ok']
 have z0:=Int.emod_nonneg c2 (show(most:Int)+1≠0 by omega)
 have z1:=Int.emod_lt_of_pos c2 (show(0:Int)< (most:Int)+1 by omega)
 obtain⟨n,hn⟩:∃n:Nat,c2% ((most:Int)+1)=(n:Int):=⟨(c2% ((most:Int)+1)).toNat,by omega⟩
 rw[hn]at z0 z1 ⊢
 have hn':n≤most:=by omega
 clear hn z0 z1
 obtain⟨x,ex,hxl,hx⟩:=pR c1 n (by omega)
 rw[ex,Res.bind_ok',iJ ht hx (show x.length≤10000 by omega),Res.bind_ok']
 have hw:=jk ht x
 have hpl:=lj t x
 refine jU (Res.Ok.imp (pW hw (by omega) (c3/ 3) _) fun l hl=>?_)
 rw[hpl,hxl]at hl
 refine jU (Res.Ok.imp (P:=Card) (qe (fun _=>?_) fun _=>iE ht) fun t1 h1=>?_)
 ·exact jU (jU ((tP ht hx (by omega) _).imp fun r hr=>iE (iE hr.1)))
 ·refine jU (Res.Ok.imp (P:=Card) (qe (fun _=>?_) fun _=>iE h1) fun t2 h2=>?_)
  ·obtain⟨t',e',h'⟩:=mv (c4/ 4/ 6)
   rw[e'];exact h'
  ·exact⟨h2,⟨n,hn',hl⟩,(dP _).1,(dP _).2⟩
theorem tT {x:Tx} (hx:x.length≤10) {out:List Tx} (ho:out.length≤1000):ua x out=.ok (out++ [x++ [102],x++ [98],x++ [105]]):=by
 unfold ua
 rw[eX (by simp;omega),eX (by simp;omega),eX (by simp;omega)]
 simp only[Res.bind_ok']
 rw[qK (by simp;omega)]
 rfl
def qb (n:Nat) (l:List Tx):Prop:=l.length=3^n∧∀x,x∈l↔x.length=n∧cq x
theorem snoc_turns {x:Tx} {c:Nat} :cq (x++ [c])↔cq x∧isTurn c:=by
 unfold cq
 simp only[List.mem_append,List.mem_singleton]
 constructor
 ·exact fun h=>⟨fun d hd=>h d (.inl hd),h c (.inr rfl)⟩
 ·rintro ⟨h1,h2⟩ d (hd | rfl)
  ·exact h1 d hd
  ·exact h2
theorem tU {n:Nat} (hn:n< 4) {l:List Tx} (h:qb n l) (a:Int):(ub a l).Ok (qb (n+1)):=by
 unfold ub
 have p4:3^n≤27:=by have:=Nat.pow_le_pow_right (show 0< 3 by decide) (show n≤3 by omega);simpa using this
 obtain⟨s,e,h1,h2⟩:=cn (f:=ua) (fun pre s=>s.length=3*pre.length∧∀y,y∈s↔∃x∈pre,∃c,isTurn c∧y=x++ [c]) l [] ⟨rfl,fun y=>by simp⟩ (by
  intro pre x post s e ⟨h1,h2⟩
  have hx:x∈l:=by rw[e];simp
  have hl:l.length=pre.length+1+post.length:=by rw[e];simp;omega
  have:=h.1
  refine⟨_,tT (by have:=((h.2 x).mp hx).1;omega) (by omega),by simp;omega,fun y=>?_⟩
  rw[List.mem_append,h2]
  constructor
  ·rintro (⟨z,hz,c,hc,rfl⟩ | hy)
   ·exact⟨z,by simp[hz],c,hc,rfl⟩
   ·have:y=x++ [102]∨y=x++ [98]∨y=x++ [105]:=by simpa using hy
    rcases this with rfl | rfl | rfl
    ·exact⟨x,by simp,102,.inl rfl,rfl⟩
    ·exact⟨x,by simp,98,.inr (.inl rfl),rfl⟩
    ·exact⟨x,by simp,105,.inr (.inr rfl),rfl⟩
  ·rintro ⟨z,hz,c,hc,rfl⟩
   rcases List.mem_append.mp hz with hz | hz
   ·exact .inl ⟨z,hz,c,hc,rfl⟩
   ·have:z=x:=by simpa using hz
    subst this
    right
    rcases hc with rfl | rfl | rfl <;> simp)
 rw[e]
 refine⟨by rw[h1,h.1,Nat.pow_succ];omega,fun y=>?_⟩
 rw[h2]
 constructor
 ·rintro ⟨x,hx,c,hc,rfl⟩
  have:=(h.2 x).mp hx
  exact⟨by simp[this.1],snoc_turns.mpr ⟨this.2,hc⟩⟩
 ·rintro ⟨hy,ht⟩
  obtain⟨x,c,rfl⟩:∃x c,y=x++ [c]:=⟨y.dropLast,y.getLast (by intro z;subst z;simp at hy),(List.dropLast_concat_getLast _).symm⟩
  have:=snoc_turns.mp ht
  exact⟨x,(h.2 x).mpr ⟨by simpa using hy,this.1⟩,c,this.2,rfl⟩
theorem tV {n:Nat} (hn:n≤4):(rq (n:Int)).Ok (qb n):=by
 unfold rq vv
 rw[iC (by omega),Res.bind_ok']
 obtain⟨s,e,h1,h2⟩:=cn (f:=ub) (fun pre s=>qb pre.length s∧True) ((List.range n).map fun(i:Nat)=>(i:Int)) [[]] ⟨⟨rfl,fun x=>by
  constructor
  ·intro hx
   have:x=[]:=by simpa using hx
   subst this
   exact⟨rfl,fun c hc=>by cases hc⟩
  ·rintro ⟨hx,_⟩
   have:x=[]:=List.length_eq_zero_iff.mp hx
   subst this
   simp⟩,trivial⟩ (by
  intro pre a post s e ⟨h1,_⟩
  have:pre.length< n:=by have:=congrArg List.length e;simp at this;omega
  obtain⟨s',e',h'⟩:=(tU (by omega) h1 a).ex
  exact⟨s',e',by simpa using h',trivial⟩)
 rw[e]
 exact(by simpa using h1:qb n s)
def df (t:Cd):Int→Int→Tx→Int
 | _,best,[]=>best
 | now,best,c::r=>df t (now+tw t c) (if bi (now+tw t c)> best then bi (now+tw t c)else best) r
theorem rR {t:Cd} {x:Tx} (hx:cq x):mn t x=.ok (df t 0 0 x):=by
 unfold mn vA
 have key:∀(x:Tx),cq x→∀now best,∃z,bC (sn dY t) (bd x) (now,best)=.ok (z,df t now best x):=by
  intro x
  induction x with
  | nil=>intro _ now best;exact⟨now,rfl⟩
  | cons c x ih =>
   intro hx now best
   obtain⟨z,e⟩:=ih (fun d hd=>hx d (List.mem_cons_of_mem _ hd)) (now+tw t c) (if bi (now+tw t c)> best then bi (now+tw t c)else best)
   refine⟨z,?_⟩
   show(sn dY t [c] (now,best)).bind _=_
   unfold sn
   rw[i4 (hx c (List.mem_cons_self ..))]
   simp only[Res.bind_ok']
   have e2:sn dY t=fun a s=>((dY t a).bind fun y=>Res.ok (s.1+y)).bind fun y=>Res.ok (y,(if bi y> s.2 then bi y else s.2)):=by funext a s;unfold sn;rfl
   rw[e2]at e
   exact e
 obtain⟨z,e⟩:=key x hx 0 0
 rw[e]
 rfl
def kB (t:Cd) (b:Int):Int→Tx→Prop
 | _,[]=>True
 | now,c::r=>bi (now+tw t c)≤b∧kB t b (now+tw t c) r
theorem jo {t:Cd} {b:Int} :∀(x:Tx) (now best:Int),df t now best x≤b↔best≤b∧kB t b now x
 | [],now,best=>by unfold df kB;simp
 | c :: r, now, best => by
  unfold df kB
  rw[jo r]
  split <;> constructor <;> rintro ⟨h1,h2⟩
  ·exact⟨by omega,h1,h2⟩
  ·exact⟨h2.1,h2.2⟩
  ·exact⟨h1,by omega,h2⟩
  ·exact⟨h1,h2.2⟩
theorem dc {t:Cd} {loose n b:Int} (hb:b≤n):∀(x:Tx) (l:List Pl) (s:Int×Int),x.length=l.length→(cC t loose b s (x.zip l)=true↔cC t loose n s (x.zip l)=true∧kB t b s.1 x)
 | [],[],s,_=>by simp[cC,kB]
 | [],_::_,_,h=>by simp at h
 | _::_,[],_,h=>by simp at h
 | c :: x, m :: l, s, h => by
  have ih:=dc (t:=t) (loose:=loose) hb x l (az t s c) (by simpa using h)
  show(dG t loose b s c m && cC t loose b (az t s c) (x.zip l))=true↔(dG t loose n s c m && cC t loose n (az t s c) (x.zip l))=true∧(bi (s.1+tw t c)≤b∧kB t b (s.1+tw t c) x)
  rw[Bool.and_eq_true,Bool.and_eq_true,ih]
  unfold dG dn
  simp only[Bool.and_eq_true,decide_eq_true_eq]
  show((bi (s.1+tw t c)≤b∧_)∧_)∧_↔_
  constructor
  ·rintro ⟨⟨⟨h1,h2⟩,h3⟩,h4,h5⟩
   exact⟨⟨⟨⟨Int.le_trans h1 hb,h2⟩,h3⟩,h4⟩,h1,h5⟩
  ·rintro ⟨⟨⟨⟨h1,h2⟩,h3⟩,h4⟩,h5,h6⟩
   exact⟨⟨⟨h5,h2⟩,h3⟩,h4,h6⟩
theorem qc {t:Cd} :∀(x:Tx) (now best:Int),best≤df t now best x
 | [],_,_=>Int.le_refl _
 | c :: r, now, best => by
  unfold df
  have:=qc (t:=t) r (now+tw t c) (if bi (now+tw t c)> best then bi (now+tw t c)else best)
  split at this <;> split <;> omega
def rS (t:Cd) (loose:Int) (l:List Pl) (x:Tx):Prop:=cC t loose l.length (0,0) (x.zip l)=true
theorem nI {y:Cd×List Pl×Int} (hc:Card y.1) {x:Tx} (hx:cq x) (hl:x.length=y.2.1.length) (hl4:x.length≤4) (s:Option Int):dF mm mn y x s=.ok (if cC y.1 y.2.2 y.2.1.length (0,0) (x.zip y.2.1)=true then(if s.isNone=true∨df y.1 0 0 x< s.getD 0 then some (df y.1 0 0 x)else s)else s):=by
 unfold dF
 rw[nF hc y.2.1 y.2.2 _ (by omega),rR hx]
 have e:jm x y.2.1.length=true:=by
  unfold jm
  rw[Bool.and_eq_true,List.all_eq_true]
  exact⟨by simpa using hl,fun c hc=>turnB_iff.mpr (hx c hc)⟩
 rw[e,Bool.true_and]
 simp only[Res.bind_ok']
 cases cC y.1 y.2.2 y.2.1.length (0,0) (x.zip y.2.1)
 ·rfl
 ·cases s with
  | none=>rfl
  | some d =>
   show(((Res.ok (decide (df y.1 0 0 x< d))).bind fun y53=>(if y53 then Res.ok (some (df y.1 0 0 x))else Res.ok (some d):Res (Option Int))).bind fun s=>Res.ok s).bind (fun s=>Res.ok s)=_
   rw[if_pos rfl]
   by_cases z:df y.1 0 0 x< d
   ·rw[decide_eq_true z,if_pos (.inr z)];rfl
   ·rw[decide_eq_false z,if_neg (by simpa using z)];rfl
theorem tW (ns:List Int) (h:ns.length≤63):(pM ns).Ok (· =true):=by
 unfold pM mr
 refine jU ((show(qg ns (4:Int)).Ok _ from qa h 4 (by decide)).imp fun y ⟨hc,⟨n,hn,hm⟩,g0,g1⟩=>?_)
 have hl:y.2.1.length=n:=hm.1
 obtain⟨all,ea,a1,a2⟩:=(tV (n:=y.2.1.length) (by omega)).ex
 rw[ea,Res.bind_ok']
 obtain⟨s,es,hs⟩:=cn (f:=dF mm mn y) (fun pre s=>(s=none∧∀x∈pre,¬rS y.1 y.2.2 y.2.1 x)∨∃x∈pre,s=some (df y.1 0 0 x)∧rS y.1 y.2.2 y.2.1 x∧∀z∈pre,rS y.1 y.2.2 y.2.1 z→df y.1 0 0 x≤df y.1 0 0 z) all none (.inl ⟨rfl,fun x hx=>by cases hx⟩) (by
  intro pre x post s e hs
  have hx:=(a2 x).mp (by rw[e];simp)
  refine⟨_,nI hc hx.2 hx.1 (by omega) s,?_⟩
  by_cases z:cC y.1 y.2.2 y.2.1.length (0,0) (x.zip y.2.1)=true
  ·rw[if_pos z]
   rcases hs with⟨rfl,h2⟩ | ⟨w,hw,rfl,h2,h3⟩
   ·rw[if_pos (.inl rfl)]
    refine .inr ⟨x,by simp,rfl,z,fun v hv hd=>?_⟩
    rcases List.mem_append.mp hv with hv | hv
    ·exact absurd hd (h2 v hv)
    ·have:v=x:=by simpa using hv
     subst this;exact Int.le_refl _
   ·by_cases q:df y.1 0 0 x< df y.1 0 0 w
    ·rw[if_pos (.inr q)]
     refine .inr ⟨x,by simp,rfl,z,fun v hv hd=>?_⟩
     rcases List.mem_append.mp hv with hv | hv
     ·have:=h3 v hv hd;omega
     ·have:v=x:=by simpa using hv
      subst this;exact Int.le_refl _
    ·rw[if_neg (by simpa using q)]
     refine .inr ⟨w,by simp[hw],rfl,h2,fun v hv hd=>?_⟩
     rcases List.mem_append.mp hv with hv | hv
     ·exact h3 v hv hd
     ·have:v=x:=by simpa using hv
      subst this;omega
  ·rw[if_neg z]
   rcases hs with⟨rfl,h2⟩ | ⟨w,hw,rfl,h2,h3⟩
   ·refine .inl ⟨rfl,fun v hv=>?_⟩
    rcases List.mem_append.mp hv with hv | hv
    ·exact h2 v hv
    ·have:v=x:=by simpa using hv
     subst this;exact z
   ·refine .inr ⟨w,by simp[hw],rfl,h2,fun v hv hd=>?_⟩
    rcases List.mem_append.mp hv with hv | hv
    ·exact h3 v hv hd
    ·have:v=x:=by simpa using hv
     subst this;exact absurd hd z)
 rw[es,Res.bind_ok']
 obtain⟨r,er,hr⟩:=(q9 hc y.2.1 (by omega) g0).ex
 have rs:r=s:=by
  have lead:∀b,b≤(y.2.1.length:Int)→(cR y.1 y.2.2 b (0,0) y.2.1↔∃x∈all,rS y.1 y.2.2 y.2.1 x∧kB y.1 b 0 x):=fun b hb=>by
   constructor
   ·rintro ⟨x,x1,x2,x3⟩
    have:=(dc hb x y.2.1 (0,0) x2).mp x3
    exact⟨x,(a2 x).mpr ⟨x2,x1⟩,this.1,this.2⟩
   ·rintro ⟨x,hx,h1,h2⟩
    have:=(a2 x).mp hx
    exact⟨x,this.2,this.1,(dc hb x y.2.1 (0,0) this.1).mpr ⟨h1,h2⟩⟩
  rcases hr with⟨rfl,hno⟩ | ⟨hyes,d,rfl,d0,d1,d2⟩
  ·rcases hs with⟨rfl,_⟩ | ⟨w,hw,rfl,h2,_⟩
   ·rfl
   ·exact absurd ((lead _ (Int.le_refl _)).mpr ⟨w,hw,h2,((dc (Int.le_refl _) w y.2.1 (0,0) ((a2 w).mp hw).1).mp h2).2⟩) hno
  ·obtain⟨x,hx,x1,x2⟩:=(lead _ (Int.le_refl _)).mp hyes
   rcases hs with⟨rfl,hno⟩ | ⟨w,hw,rfl,h2,h3⟩
   ·exact absurd x1 (hno x hx)
   ·have w2:=((dc (Int.le_refl _) w y.2.1 (0,0) ((a2 w).mp hw).1).mp h2).2
    have nn:=qc (t:=y.1) w 0 0
    have wl:df y.1 0 0 w≤y.2.1.length:=(jo w 0 0).mpr ⟨by omega,w2⟩
    have Lw:cR y.1 y.2.2 (df y.1 0 0 w) (0,0) y.2.1:=(lead _ wl).mpr ⟨w,hw,h2,((jo w 0 0).mp (Int.le_refl _)).2⟩
    congr 1
    by_cases z:d< df y.1 0 0 w
    ·obtain⟨v,hv,v1,v2⟩:=(lead d (by omega)).mp d1
     have:=(jo (t:=y.1) v 0 0).mpr ⟨d0,v2⟩
     have:=h3 v hv v1
     omega
    ·by_cases z2:df y.1 0 0 w< d
     ·exact absurd Lw (d2 _ nn z2)
     ·omega
 rw[er]
 subst rs
 simp only[Res.bind_ok',tm]
 rfl
end Mi
namespace PySem.W.Fast
def tw140001813534094272:=()
def tw4321966507151631593:=()
def tw10698057553749749337:=()
def tw4507137529818533084:=()
def tw5344687154915797982:=()
def tw9495317472360511255:=()
def tw14842496431369740429:=()
def tw6858818405166986180:=()
def tw17318462890700432884:=()
def tw12297992134047619483:=()
def tw447263597446747957:=()
def tw9879335643197240621:=()
def tw15042883488752021643:=()
def tw8060666987683057360:=()
def tw13769103115541136327:=()
def tw1205274952441263945:=()
def tw4039707410889071942:=()
def tw12330612334027959195:=()
def tw11766667032028208565:=()
def tw9919008367099125623:=()
def tw87601786513091389:=()
def tw13055953723892786844:=()
def tw6953138203311097117:=()
def tw13114645530532618160:=()
def tw7164969610272591079:=()
def tw3300257896294614128:=()
def tw10519837036962490867:=()
def tw17483705464198625004:=()
def tw9536688357841153863:=()
def tw6128106870883400570:=()
def tw209982475168477708:=()
def tw16919654943277366748:=()
def tw8899516883271353254:=()
def tw15173544498738437827:=()
def tw15925456577456769635:=()
def tw6469784823511061222:=()
def tw17292613610259460706:=()
def tw12917704675397863716:=()
def tw16140922888777852060:=()
def tw17062427158221528723:=()
def tw3278676997906506929:=()
def tw6549852094080907030:=()
def tw861502493610598483:=()
def tw15254633091992210921:=()
def tw5449601097390414333:=()
def tw9615563845995560447:=()
def tw17214186515701724070:=()
def tw6356304189028158447:=()
def tw8002303944043701648:=()
def tw9592521066531166775:=()
def tw4077048163395320219:=()
def tw11823594873375168262:=()
def tw12459912946257978736:=()
def tw13812277999558781770:=()
def tw11738243743197964597:=()
def tw17338325484393633139:=()
def tw1950803216711332702:=()
def tw7424060955962978353:=()
def tw4971374062829452455:=()
def tw10624116801336726872:=()
def tw12727641955093265886:=()
def tw17963105932079019327:=()
def tw13757698761724263525:=()
def tw2261719852989239553:=()
def tw9456574344343218679:=()
def tw1495895850433845275:=()
def tw4699756791338806529:=()
def tw4171853373547519906:=()
def tw938635154573522699:=()
def tw14703100239697439463:=()
def tw2570914705882880060:=()
def tw8546443801280560121:=()
def tw14564479935002850509:=()
def tw10510056951384868246:=()
def tw15402603294489630176:=()
def tw4635989785427082552:=()
def tw11384182702204212275:=()
def tw6968137755033780318:=()
def tw2400638427578300857:=()
def tw3721919958574915784:=()
def tw6229817132586351632:=()
def tw2107523057676978006:=()
def tw16108870410212019532:=()
def tw3042748168174471775:=()
def tw3300454383303005205:=()
def tw7476452910721959123:=()
def tw11589282660436910429:=()
def tw12887044766017154078:=()
def tw4966944449522681724:=()
def tw9972681490609642005:=()
def tw8854275682344465072:=()
def tw3239113980409921550:=()
def tw8733291241859026926:=()
def tw14172470266813156586:=()
def tw4490611911172417597:=()
def tw16298917771340976007:=()
def tw6148498323302512570:=()
def tw10374632558016547081:=()
def tw13034982811429478159:=()
def tw4562827626845409882:=()
def tw643336161829623379:=()
def tw15401437161963490237:=()
def tw6522051377940421278:=()
def tw14760874974797668852:=()
def tw16409965706819354750:=()
def tw5832305185047221409:=()
def tw9796564346219866840:=()
def tw11564986514327137767:=()
def tw17464319187374939960:=()
def tw12772213712371865176:=()
def tw17518593693041627797:=()
def tw4884199854448574:=()
def tw10016166984437732892:=()
def tw5362036446546632119:=()
def tw2295934692909999376:=()
def tw14226173905949225808:=()
def tw14689541978594310382:=()
def tw12382822922155266910:=()
def tw7217548393331319763:=()
def tw5537553045615171315:=()
def tw9977182230042388008:=()
def tw11421057715548341654:=()
def tw11907897558876765624:=()
def tw2144661209622563809:=()
def tw2314633323536394700:=()
def tw140236481695663071:=()
def tw3382625519597670723:=()
def tw1708089923452030704:=()
def tw17187875760726034783:=()
def tw13444670453868202053:=()
def tw5498123283257192965:=()
def tw2692750590507578028:=()
def tw4953865588907285216:=()
def tw18146532975450069615:=()
def tw5438652380644606353:=()
def tw2135409205425526673:=()
def tw15227483606004533461:=()
def tw866717566613908145:=()
def tw16053306600634468012:=()
def tw5101696844757716304:=()
def tw14935467056822913822:=()
def tw3308634892276815127:=()
def tw14827714588952709054:=()
def tw16864618592142003386:=()
def tw16955839230299176341:=()
def tw2789304352393801511:=()
def tw7480016910919988345:=()
def tw8157277791214410489:=()
def tw1840220198017710270:=()
def tw15539815450414544023:=()
def tw896878414759379649:=()
def tw8047209995159408440:=()
def tw1000662321505670351:=()
def tw11266997524610791606:=()
def tw5994696166404524948:=()
def tw5459702643516471331:=()
def tw2483420100392427323:=()
def tw2950685276103557050:=()
def tw8739830900816887780:=()
def tw6798380500665416597:=()
def tw7322748291113730364:=()
def tw13946496683202179788:=()
def tw4999626830345055550:=()
def tw9561226457009474297:=()
def tw13622603851894308203:=()
def tw11161164713144168021:=()
def tw2080317491765294665:=()
def tw4804111812005502284:=()
def tw3215387988796971590:=()
def tw3985964047577975286:=()
def tw443766864951011646:=()
def tw10294118229990073760:=()
def tw14782755387869428366:=()
def tw4906484309439969231:=()
def tw13135312941875745310:=()
def tw10792498714594961201:=()
def tw14243238205550065757:=()
def tw17351735930882485243:=()
def tw2455152089536381482:=()
def tw13674586047789940208:=()
def tw8912161614967838395:=()
def tw4734895289157585001:=()
def tw523537741815420091:=()
def tw10295913840692754127:=()
def tw17760279517084355780:=()
def tw3919386906821981792:=()
def tw7774113678449685934:=()
def tw4684226298888400098:=()
def tw1972164579936704799:=()
def tw5217270863462422736:=()
def tw15127105006835628225:=()
def tw896239598344801917:=()
def tw7249309231779463276:=()
def tw8159993647027272844:=()
def tw1717767836212652739:=()
def tw3641951560692057861:=()
def tw13421457143807847188:=()
def tw8480184845173159842:=()
def tw13953587524928339648:=()
def tw12903330217458380548:=()
def tw15621415185263527259:=()
def tw2403389108928632939:=()
def tw10876078143196172821:=()
def tw8297923619242306668:=()
def tw15685335758407661847:=()
def tw16902440903046159558:=()
def tw11962351593759143498:=()
def tw3235425350174046738:=()
def tw4075453323654395381:=()
def tw4480162626587320490:=()
def tw12269216009862288129:=()
def tw16723463757517087524:=()
def tw3270257207059953099:=()
def tw8374155422468719031:=()
def tw16120054744476736488:=()
def tw7086961617601330827:=()
def tw8997383693586321770:=()
def tw10258873121960336067:=()
def tw8949853181751564097:=()
def tw9784134513789038367:=()
def tw8285278889055680438:=()
def tw6822071536725586909:=()
def tw14424681132571578402:=()
def tw17013487888433625170:=()
def tw8080008513338510535:=()
def tw11898673842065290130:=()
def tw8760152093665844161:=()
def tw2187251505897268136:=()
end PySem.W.Fast
section
open PySem PySem.W PyProof.Rows
set_option maxHeartbeats 0 in
open_top hd for PySem.Challenge.rw_wornband_k36_least_by_all_columns
end
namespace Wb
open PySem L2 Mi
theorem rV {K:PySem.W.Frag} :∀vs H Q E,mt K vs H Q E→cD (isScr K) (rs isB) pM vs H Q E:=fun vs H Q E ⟨a,ns,h1,h2,h3,h4⟩=>
 ⟨⟨H,H,.refl _⟩,ns,.ref a,rfl,h1,⟨a,rfl,h2⟩,fun _=>False,Res.Ok.e ((tW ns h3).imp fun r hr u W' _ hu=>by cases hr;cases hu;exact h4 _)⟩
theorem fin_mk {l:PySem.W.OpenLaw} {w:World} {K:PySem.W.Frag} {h:Heap} {mg:Str→Option Value} {fa:Addr} {Z1u:Addr} {Z7Z Z80:Option Addr} {Z81:Array (Option Value)} {Z82 Z83 Z84 Z85 Z4C Z86:Value} {Z3e:Addr} {Z9Q Z9R:Option Addr} {Z9S:Array (Option Value)} {Z9T Z9U Z9V Z9W Z66 Z9X:Value} {Z2y:Addr} {Z98 Z99:Option Addr} {Z9a:Array (Option Value)} {Z9b Z9c Z9d Z9e Z5a Z9f:Value} {Z1H:Addr} {Z76 Z77:Option Addr} {Z78:Array (Option Value)} {Z79 Z7a Z7b Z7c Z4t Z7d:Value} {Z2a:Addr} {Z87 Z88:Option Addr} {Z89:Array (Option Value)} {Z8a Z8b Z8c Z8d Z4D Z8e:Value} {Z1I:Addr} {Z7e Z7f:Option Addr} {Z7g:Array (Option Value)} {Z7h Z7i Z7j Z7k Z4u Z7l:Value} {Z3f:Addr} {Z9Y Z9Z:Option Addr} {Za0:Array (Option Value)} {Za1 Za2 Za3 Za4 Z67 Za5:Value} {Z1w:Addr} {Z6t Z6u:Option Addr} {Z6v:Array (Option Value)} {Z6w Z6x Z6y Z6z Z3N Z6A:Value} {Z1J:Addr} {Z7m Z7n:Option Addr} {Z7o:Array (Option Value)} {Z7p Z7q Z7r Z7s Z4v Z7t:Value} {Z1x:Addr} {Z6B Z6C:Option Addr} {Z6D:Array (Option Value)} {Z6E Z6F Z6G Z6H Z3O Z6I:Value} {Z1K:Addr} {Z7u Z7v:Option Addr} {Z7w:Array (Option Value)} {Z7x Z7y Z7z Z7A Z4w Z7B:Value} {Z1b:Addr} {Z5s Z5t:Option Addr} {Z5u:Array (Option Value)} {Z5v Z5w Z5x Z5y Z2O Z5z:Value} {Z2b:Addr} {Z8f Z8g:Option Addr} {Z8h:Array (Option Value)} {Z8i Z8j Z8k Z8l Z4E Z8m:Value} {Z2c:Addr} {Z8n Z8o:Option Addr} {Z8p:Array (Option Value)} {Z8q Z8r Z8s Z8t Z4F Z8u:Value} {Z2d:Addr} {Z8v Z8w:Option Addr} {Z8x:Array (Option Value)} {Z8y Z8z Z8A Z8B Z4G Z8C:Value} {Z2z:Addr} {Z9g Z9h:Option Addr} {Z9i:Array (Option Value)} {Z9j Z9k Z9l Z9m Z5b Z9n:Value} {Z1L:Addr} {Z7C Z7D:Option Addr} {Z7E:Array (Option Value)} {Z7F Z7G Z7H Z7I Z4x Z7J:Value} {Z2A:Addr} {Z9o Z9p:Option Addr} {Z9q:Array (Option Value)} {Z9r Z9s Z9t Z9u Z5c Z9v:Value} {Z2e:Addr} {Z8D Z8E:Option Addr} {Z8F:Array (Option Value)} {Z8G Z8H Z8I Z8J Z4H Z8K:Value} {Z2f:Addr} {Z8L Z8M:Option Addr} {Z8N:Array (Option Value)} {Z8O Z8P Z8Q Z8R Z4I Z8S:Value} {Z45:Addr} {Zaq Zar:Option Addr} {Zas:Array (Option Value)} {Zat Zau Zav Zaw Z6X Zax:Value} {Z2B:Addr} {Z9w Z9x:Option Addr} {Z9y:Array (Option Value)} {Z9z Z9A Z9B Z9C Z5d Z9D:Value} {Z1q:Addr} {Z68 Z69:Option Addr} {Z6a:Array (Option Value)} {Z6b Z6c Z6d Z6e Z3g Z6f:Value} {Z3h:Addr} {Za6 Za7:Option Addr} {Za8:Array (Option Value)} {Za9 Zaa Zab Zac Z6g Zad:Value} {f_top:Addr} {od_top an_top:Option Addr} {sl_top:Array (Option Value)} {oc_top kV_top dc_top pm_top cd_top ct_top:Value} {Z46:Addr} {Zay Zaz:Option Addr} {ZaA:Array (Option Value)} {ZaB ZaC ZaD ZaE Z6Y ZaF:Value} {Z1M:Addr} {Z7K Z7L:Option Addr} {Z7M:Array (Option Value)} {Z7N Z7O Z7P Z7Q Z4y Z7R:Value} {Z56:Addr} {Zbw Zbx:Option Addr} {Zby:Array (Option Value)} {Zbz ZbA ZbB ZbC Z8T ZbD:Value} {Z47:Addr} {ZaG ZaH:Option Addr} {ZaI:Array (Option Value)} {ZaJ ZaK ZaL ZaM Z6Z ZaN:Value} {Z48:Addr} {ZaO ZaP:Option Addr} {ZaQ:Array (Option Value)} {ZaR ZaS ZaT ZaU Z70 ZaV:Value} {Z49:Addr} {ZaW ZaX:Option Addr} {ZaY:Array (Option Value)} {ZaZ Zb0 Zb1 Zb2 Z71 Zb3:Value} {Z1c:Addr} {Z5A Z5B:Option Addr} {Z5C:Array (Option Value)} {Z5D Z5E Z5F Z5G Z2P Z5H:Value} {Z4a:Addr} {Zb4 Zb5:Option Addr} {Zb6:Array (Option Value)} {Zb7 Zb8 Zb9 Zba Z72 Zbb:Value} {Z57:Addr} {ZbE ZbF:Option Addr} {ZbG:Array (Option Value)} {ZbH ZbI ZbJ ZbK Z8U ZbL:Value} {f_law:Addr} {od_law an_law:Option Addr} {sl_law:Array (Option Value)} {oc_law kV_law dc_law pm_law cd_law ct_law:Value} {Z22:Tok} {Z1B:Addr} {ZbM:Nat} {x_SLANTS0 y_SLANTS0 x_SLANTS1 y_SLANTS1 x_SLANTS2 y_SLANTS2:Tok} {Z2G:Addr} {Zc0:Nat} {x_START0 x_START1:Tok} {Z21:Addr} {Zc1:Nat} {x_STEPS0 y_STEPS0 x_STEPS1 y_STEPS1 x_STEPS2 y_STEPS2:Tok} {Z6r:Tok} {Z7W:Tok} (X:K.In h) (G:h.Ns mainGlobals mg) (hfa:mg "law" =some (.ref fa))
  (Z2g:PySem.W.nsIn K mainGlobals "_law_same" =some (some (.ref Z1u)))
  (Z3s:K.lookup Z1u=some ⟨Z82,Z7Z,.func (PySem.W.fnOf "_law_same" "_law_same" (defArgs (tp 45)) (defBody (tp 45)) (defScope (tp 45)) .none Z83 Z84 Z85 Z80 Z4C Z86),Z81⟩)
  (Z3t:PySem.W.codeIn K Z4C "_law_same" =true)
  (Z1v:PySem.W.keepIn K (.ref Z1u)=true)
  (Z4J:PySem.W.nsIn K mainGlobals "_law_at" =some (some (.ref Z3e)))
  (Z4K:K.lookup Z3e=some ⟨Z9T,Z9Q,.func (PySem.W.fnOf "_law_at" "_law_at" (defArgs (tp 29)) (defBody (tp 29)) (defScope (tp 29)) .none Z9U Z9V Z9W Z9R Z66 Z9X),Z9S⟩)
  (Z4L:PySem.W.codeIn K Z66 "_law_at" =true)
  (Z3i:PySem.W.keepIn K (.ref Z3e)=true)
  (Z4b:PySem.W.nsIn K mainGlobals "_law_row" =some (some (.ref Z2y)))
  (Z4c:K.lookup Z2y=some ⟨Z9b,Z98,.func (PySem.W.fnOf "_law_row" "_law_row" (defArgs (tp 25)) (defBody (tp 25)) (defScope (tp 25)) .none Z9c Z9d Z9e Z99 Z5a Z9f),Z9a⟩)
  (Z4d:PySem.W.codeIn K Z5a "_law_row" =true)
  (Z2C:PySem.W.keepIn K (.ref Z2y)=true)
  (Z2Q:PySem.W.nsIn K mainGlobals "_law_holes" =some (some (.ref Z1H)))
  (Z2R:K.lookup Z1H=some ⟨Z79,Z76,.func (PySem.W.fnOf "_law_holes" "_law_holes" (defArgs (tp 26)) (defBody (tp 26)) (defScope (tp 26)) .none Z7a Z7b Z7c Z77 Z4t Z7d),Z78⟩)
  (Z2S:PySem.W.codeIn K Z4t "_law_holes" =true)
  (Z1N:PySem.W.keepIn K (.ref Z1H)=true)
  (Z3u:PySem.W.nsIn K mainGlobals "_law_card" =some (some (.ref Z2a)))
  (Z3v:K.lookup Z2a=some ⟨Z8a,Z87,.func (PySem.W.fnOf "_law_card" "_law_card" (defArgs (tp 27)) (defBody (tp 27)) (defScope (tp 27)) .none Z8b Z8c Z8d Z88 Z4D Z8e),Z89⟩)
  (Z3w:PySem.W.codeIn K Z4D "_law_card" =true)
  (Z2h:PySem.W.keepIn K (.ref Z2a)=true)
  (Z2T:PySem.W.nsIn K mainGlobals "_law_turns" =some (some (.ref Z1I)))
  (Z2U:K.lookup Z1I=some ⟨Z7h,Z7e,.func (PySem.W.fnOf "_law_turns" "_law_turns" (defArgs (tp 28)) (defBody (tp 28)) (defScope (tp 28)) .none Z7i Z7j Z7k Z7f Z4u Z7l),Z7g⟩)
  (Z2V:PySem.W.codeIn K Z4u "_law_turns" =true)
  (Z1O:PySem.W.keepIn K (.ref Z1I)=true)
  (Z4M:PySem.W.nsIn K mainGlobals "_law_go" =some (some (.ref Z3f)))
  (Z4N:K.lookup Z3f=some ⟨Za1,Z9Y,.func (PySem.W.fnOf "_law_go" "_law_go" (defArgs (tp 31)) (defBody (tp 31)) (defScope (tp 31)) .none Za2 Za3 Za4 Z9Z Z67 Za5),Za0⟩)
  (Z4O:PySem.W.codeIn K Z67 "_law_go" =true)
  (Z3j:PySem.W.keepIn K (.ref Z3f)=true)
  (Z2n:PySem.W.nsIn K mainGlobals "_law_behind" =some (some (.ref Z1w)))
  (Z2o:K.lookup Z1w=some ⟨Z6w,Z6t,.func (PySem.W.fnOf "_law_behind" "_law_behind" (defArgs (tp 32)) (defBody (tp 32)) (defScope (tp 32)) .none Z6x Z6y Z6z Z6u Z3N Z6A),Z6v⟩)
  (Z2p:PySem.W.codeIn K Z3N "_law_behind" =true)
  (Z1y:PySem.W.keepIn K (.ref Z1w)=true)
  (Z2W:PySem.W.nsIn K mainGlobals "_law_twist" =some (some (.ref Z1J)))
  (Z2X:K.lookup Z1J=some ⟨Z7p,Z7m,.func (PySem.W.fnOf "_law_twist" "_law_twist" (defArgs (tp 33)) (defBody (tp 33)) (defScope (tp 33)) .none Z7q Z7r Z7s Z7n Z4v Z7t),Z7o⟩)
  (Z2Y:PySem.W.codeIn K Z4v "_law_twist" =true)
  (Z1P:PySem.W.keepIn K (.ref Z1J)=true)
  (Z2q:PySem.W.nsIn K mainGlobals "_law_places" =some (some (.ref Z1x)))
  (Z2r:K.lookup Z1x=some ⟨Z6E,Z6B,.func (PySem.W.fnOf "_law_places" "_law_places" (defArgs (tp 34)) (defBody (tp 34)) (defScope (tp 34)) .none Z6F Z6G Z6H Z6C Z3O Z6I),Z6D⟩)
  (Z2s:PySem.W.codeIn K Z3O "_law_places" =true)
  (Z1z:PySem.W.keepIn K (.ref Z1x)=true)
  (Z2Z:PySem.W.nsIn K mainGlobals "_law_marks" =some (some (.ref Z1K)))
  (Z30:K.lookup Z1K=some ⟨Z7x,Z7u,.func (PySem.W.fnOf "_law_marks" "_law_marks" (defArgs (tp 35)) (defBody (tp 35)) (defScope (tp 35)) .none Z7y Z7z Z7A Z7v Z4w Z7B),Z7w⟩)
  (Z31:PySem.W.codeIn K Z4w "_law_marks" =true)
  (Z1Q:PySem.W.keepIn K (.ref Z1K)=true)
  (Z1R:PySem.W.nsIn K mainGlobals "_law_turnover" =some (some (.ref Z1b)))
  (Z1S:K.lookup Z1b=some ⟨Z5v,Z5s,.func (PySem.W.fnOf "_law_turnover" "_law_turnover" (defArgs (tp 36)) (defBody (tp 36)) (defScope (tp 36)) .none Z5w Z5x Z5y Z5t Z2O Z5z),Z5u⟩)
  (Z1T:PySem.W.codeIn K Z2O "_law_turnover" =true)
  (Z1d:PySem.W.keepIn K (.ref Z1b)=true)
  (Z3x:PySem.W.nsIn K mainGlobals "_law_back" =some (some (.ref Z2b)))
  (Z3y:K.lookup Z2b=some ⟨Z8i,Z8f,.func (PySem.W.fnOf "_law_back" "_law_back" (defArgs (tp 37)) (defBody (tp 37)) (defScope (tp 37)) .none Z8j Z8k Z8l Z8g Z4E Z8m),Z8h⟩)
  (Z3z:PySem.W.codeIn K Z4E "_law_back" =true)
  (Z2i:PySem.W.keepIn K (.ref Z2b)=true)
  (Z3A:PySem.W.nsIn K mainGlobals "_law_roll" =some (some (.ref Z2c)))
  (Z3B:K.lookup Z2c=some ⟨Z8q,Z8n,.func (PySem.W.fnOf "_law_roll" "_law_roll" (defArgs (tp 38)) (defBody (tp 38)) (defScope (tp 38)) .none Z8r Z8s Z8t Z8o Z4F Z8u),Z8p⟩)
  (Z3C:PySem.W.codeIn K Z4F "_law_roll" =true)
  (Z2j:PySem.W.keepIn K (.ref Z2c)=true)
  (Z3D:PySem.W.nsIn K mainGlobals "_law_seen" =some (some (.ref Z2d)))
  (Z3E:K.lookup Z2d=some ⟨Z8y,Z8v,.func (PySem.W.fnOf "_law_seen" "_law_seen" (defArgs (tp 39)) (defBody (tp 39)) (defScope (tp 39)) .none Z8z Z8A Z8B Z8w Z4G Z8C),Z8x⟩)
  (Z3F:PySem.W.codeIn K Z4G "_law_seen" =true)
  (Z2k:PySem.W.keepIn K (.ref Z2d)=true)
  (Z4e:PySem.W.nsIn K mainGlobals "_law_kin" =some (some (.ref Z2z)))
  (Z4f:K.lookup Z2z=some ⟨Z9j,Z9g,.func (PySem.W.fnOf "_law_kin" "_law_kin" (defArgs (tp 40)) (defBody (tp 40)) (defScope (tp 40)) .none Z9k Z9l Z9m Z9h Z5b Z9n),Z9i⟩)
  (Z4g:PySem.W.codeIn K Z5b "_law_kin" =true)
  (Z2D:PySem.W.keepIn K (.ref Z2z)=true)
  (Z32:PySem.W.nsIn K mainGlobals "_law_small" =some (some (.ref Z1L)))
  (Z33:K.lookup Z1L=some ⟨Z7F,Z7C,.func (PySem.W.fnOf "_law_small" "_law_small" (defArgs (tp 41)) (defBody (tp 41)) (defScope (tp 41)) .none Z7G Z7H Z7I Z7D Z4x Z7J),Z7E⟩)
  (Z34:PySem.W.codeIn K Z4x "_law_small" =true)
  (Z1U:PySem.W.keepIn K (.ref Z1L)=true)
  (Z4h:PySem.W.nsIn K mainGlobals "_law_all" =some (some (.ref Z2A)))
  (Z4i:K.lookup Z2A=some ⟨Z9r,Z9o,.func (PySem.W.fnOf "_law_all" "_law_all" (defArgs (tp 44)) (defBody (tp 44)) (defScope (tp 44)) .none Z9s Z9t Z9u Z9p Z5c Z9v),Z9q⟩)
  (Z4j:PySem.W.codeIn K Z5c "_law_all" =true)
  (Z2E:PySem.W.keepIn K (.ref Z2A)=true)
  (Z3G:PySem.W.nsIn K mainGlobals "_law_does" =some (some (.ref Z2e)))
  (Z3H:K.lookup Z2e=some ⟨Z8G,Z8D,.func (PySem.W.fnOf "_law_does" "_law_does" (defArgs (tp 42)) (defBody (tp 42)) (defScope (tp 42)) .none Z8H Z8I Z8J Z8E Z4H Z8K),Z8F⟩)
  (Z3I:PySem.W.codeIn K Z4H "_law_does" =true)
  (Z2l:PySem.W.keepIn K (.ref Z2e)=true)
  (Z3J:PySem.W.nsIn K mainGlobals "_law_peak" =some (some (.ref Z2f)))
  (Z3K:K.lookup Z2f=some ⟨Z8O,Z8L,.func (PySem.W.fnOf "_law_peak" "_law_peak" (defArgs (tp 43)) (defBody (tp 43)) (defScope (tp 43)) .none Z8P Z8Q Z8R Z8M Z4I Z8S),Z8N⟩)
  (Z3L:PySem.W.codeIn K Z4I "_law_peak" =true)
  (Z2m:PySem.W.keepIn K (.ref Z2f)=true)
  (Z5I:PySem.W.nsIn K mainGlobals "within" =some (some (.ref Z45)))
  (Z5J:K.lookup Z45=some ⟨Zat,Zaq,.func (PySem.W.fnOf "within" "within" (defArgs (tp 18)) (defBody (tp 18)) (defScope (tp 18)) .none Zau Zav Zaw Zar Z6X Zax),Zas⟩)
  (Z5K:PySem.W.codeIn K Z6X "within" =true)
  (Z4k:PySem.W.keepIn K (.ref Z45)=true)
  (Z4l:PySem.W.nsIn K mainGlobals "twisting" =some (some (.ref Z2B)))
  (Z4m:K.lookup Z2B=some ⟨Z9z,Z9w,.func (PySem.W.fnOf "twisting" "twisting" (defArgs (tp 6)) (defBody (tp 6)) (defScope (tp 6)) .none Z9A Z9B Z9C Z9x Z5d Z9D),Z9y⟩)
  (Z4n:PySem.W.codeIn K Z5d "twisting" =true)
  (Z2F:PySem.W.keepIn K (.ref Z2B)=true)
  (Z25:PySem.W.nsIn K mainGlobals "state_behind" =some (some (.ref Z1q)))
  (Z26:K.lookup Z1q=some ⟨Z6b,Z68,.func (PySem.W.fnOf "state_behind" "state_behind" (defArgs (tp 17)) (defBody (tp 17)) (defScope (tp 17)) .none Z6c Z6d Z6e Z69 Z3g Z6f),Z6a⟩)
  (Z27:PySem.W.codeIn K Z3g "state_behind" =true)
  (Z1r:PySem.W.keepIn K (.ref Z1q)=true)
  (Z4P:PySem.W.nsIn K mainGlobals "twisted" =some (some (.ref Z3h)))
  (Z4Q:K.lookup Z3h=some ⟨Za9,Za6,.func (PySem.W.fnOf "twisted" "twisted" (defArgs (tp 16)) (defBody (tp 16)) (defScope (tp 16)) .none Zaa Zab Zac Za7 Z6g Zad),Za8⟩)
  (Z4R:PySem.W.codeIn K Z6g "twisted" =true)
  (Z3k:PySem.W.keepIn K (.ref Z3h)=true)
  (a_top:PySem.W.nsIn K mainGlobals "top" =some (some (.ref f_top)))
  (l_top:K.lookup f_top=some ⟨oc_top,od_top,.func (PySem.W.fnOf "top" "top" (defArgs (tp 4)) (defBody (tp 4)) (defScope (tp 4)) .none kV_top dc_top pm_top an_top cd_top ct_top),sl_top⟩)
  (c_top:PySem.W.codeIn K cd_top "top" =true)
  (k_top:PySem.W.keepIn K (.ref f_top)=true)
  (Z5L:PySem.W.nsIn K mainGlobals "bottom" =some (some (.ref Z46)))
  (Z5M:K.lookup Z46=some ⟨ZaB,Zay,.func (PySem.W.fnOf "bottom" "bottom" (defArgs (tp 5)) (defBody (tp 5)) (defScope (tp 5)) .none ZaC ZaD ZaE Zaz Z6Y ZaF),ZaA⟩)
  (Z5N:PySem.W.codeIn K Z6Y "bottom" =true)
  (Z4o:PySem.W.keepIn K (.ref Z46)=true)
  (Z35:PySem.W.nsIn K mainGlobals "left_place" =some (some (.ref Z1M)))
  (Z36:K.lookup Z1M=some ⟨Z7N,Z7K,.func (PySem.W.fnOf "left_place" "left_place" (defArgs (tp 9)) (defBody (tp 9)) (defScope (tp 9)) .none Z7O Z7P Z7Q Z7L Z4y Z7R),Z7M⟩)
  (Z37:PySem.W.codeIn K Z4y "left_place" =true)
  (Z1V:PySem.W.keepIn K (.ref Z1M)=true)
  (Z6J:PySem.W.nsIn K mainGlobals "suits" =some (some (.ref Z56)))
  (Z6K:K.lookup Z56=some ⟨Zbz,Zbw,.func (PySem.W.fnOf "suits" "suits" (defArgs (tp 13)) (defBody (tp 13)) (defScope (tp 13)) .none ZbA ZbB ZbC Zbx Z8T ZbD),Zby⟩)
  (Z6L:PySem.W.codeIn K Z8T "suits" =true)
  (Z58:PySem.W.keepIn K (.ref Z56)=true)
  (Z5O:PySem.W.nsIn K mainGlobals "agrees" =some (some (.ref Z47)))
  (Z5P:K.lookup Z47=some ⟨ZaJ,ZaG,.func (PySem.W.fnOf "agrees" "agrees" (defArgs (tp 12)) (defBody (tp 12)) (defScope (tp 12)) .none ZaK ZaL ZaM ZaH Z6Z ZaN),ZaI⟩)
  (Z5Q:PySem.W.codeIn K Z6Z "agrees" =true)
  (Z4p:PySem.W.keepIn K (.ref Z47)=true)
  (Z5R:PySem.W.nsIn K mainGlobals "leaves" =some (some (.ref Z48)))
  (Z5S:K.lookup Z48=some ⟨ZaR,ZaO,.func (PySem.W.fnOf "leaves" "leaves" (defArgs (tp 19)) (defBody (tp 19)) (defScope (tp 19)) .none ZaS ZaT ZaU ZaP Z70 ZaV),ZaQ⟩)
  (Z5T:PySem.W.codeIn K Z70 "leaves" =true)
  (Z4q:PySem.W.keepIn K (.ref Z48)=true)
  (Z5U:PySem.W.nsIn K mainGlobals "onward" =some (some (.ref Z49)))
  (Z5V:K.lookup Z49=some ⟨ZaZ,ZaW,.func (PySem.W.fnOf "onward" "onward" (defArgs (tp 20)) (defBody (tp 20)) (defScope (tp 20)) .none Zb0 Zb1 Zb2 ZaX Z71 Zb3),ZaY⟩)
  (Z5W:PySem.W.codeIn K Z71 "onward" =true)
  (Z4r:PySem.W.keepIn K (.ref Z49)=true)
  (Z1W:PySem.W.nsIn K mainGlobals "states_behind" =some (some (.ref Z1c)))
  (Z1X:K.lookup Z1c=some ⟨Z5D,Z5A,.func (PySem.W.fnOf "states_behind" "states_behind" (defArgs (tp 22)) (defBody (tp 22)) (defScope (tp 22)) .none Z5E Z5F Z5G Z5B Z2P Z5H),Z5C⟩)
  (Z1Y:PySem.W.codeIn K Z2P "states_behind" =true)
  (Z1e:PySem.W.keepIn K (.ref Z1c)=true)
  (Z5X:PySem.W.nsIn K mainGlobals "search" =some (some (.ref Z4a)))
  (Z5Y:K.lookup Z4a=some ⟨Zb7,Zb4,.func (PySem.W.fnOf "search" "search" (defArgs (tp 21)) (defBody (tp 21)) (defScope (tp 21)) .none Zb8 Zb9 Zba Zb5 Z72 Zbb),Zb6⟩)
  (Z5Z:PySem.W.codeIn K Z72 "search" =true)
  (Z4s:PySem.W.keepIn K (.ref Z4a)=true)
  (Z6M:PySem.W.nsIn K mainGlobals "least" =some (some (.ref Z57)))
  (Z6N:K.lookup Z57=some ⟨ZbH,ZbE,.func (PySem.W.fnOf "least" "least" (defArgs (tp 23)) (defBody (tp 23)) (defScope (tp 23)) .none ZbI ZbJ ZbK ZbF Z8U ZbL),ZbG⟩)
  (Z6O:PySem.W.codeIn K Z8U "least" =true)
  (Z59:PySem.W.keepIn K (.ref Z57)=true)
  (a_law:PySem.W.nsIn K mainGlobals "law" =some (some (.ref f_law)))
  (l_law:K.lookup f_law=some ⟨oc_law,od_law,.func (PySem.W.fnOf "law" "law" (defArgs (tp 46)) (defBody (tp 46)) (defScope (tp 46)) .none kV_law dc_law pm_law an_law cd_law ct_law),sl_law⟩)
  (c_law:PySem.W.codeIn K cd_law "law" =true)
  (k_law:PySem.W.keepIn K (.ref f_law)=true)
  (z_abs:PySem.W.nsIn K mainGlobals "abs" =some none)
  (z_all:PySem.W.nsIn K mainGlobals "all" =some none)
  (z_bool:PySem.W.nsIn K mainGlobals "bool" =some none)
  (z_int:PySem.W.nsIn K mainGlobals "int" =some none)
  (z_isinstance:PySem.W.nsIn K mainGlobals "isinstance" =some none)
  (z_len:PySem.W.nsIn K mainGlobals "len" =some none)
  (z_list:PySem.W.nsIn K mainGlobals "list" =some none)
  (z_max:PySem.W.nsIn K mainGlobals "max" =some none)
  (z_range:PySem.W.nsIn K mainGlobals "range" =some none)
  (z_sorted:PySem.W.nsIn K mainGlobals "sorted" =some none)
  (z_str:PySem.W.nsIn K mainGlobals "str" =some none)
  (z_tuple:PySem.W.nsIn K mainGlobals "tuple" =some none)
  (z_zip:PySem.W.nsIn K mainGlobals "zip" =some none)
  (Z6P:PySem.W.nsIn K mainGlobals "HOLES" =some (some (.int 4 Z22)))
  (Z60:PySem.W.nsIn K mainGlobals "SLANTS" =some (some (.ref Z1B)))
  (Z61:K.lookup Z1B=some {cls:=.type "dict",data:=.dict #[⟨hashInt (1),.int (1) x_SLANTS0,.str (Str.ofString "s") y_SLANTS0⟩,⟨hashInt (-1),.int (-1) x_SLANTS1,.str (Str.ofString "z") y_SLANTS1⟩,⟨hashInt (0),.int (0) x_SLANTS2,.str (Str.ofString "o") y_SLANTS2⟩] ZbM})
  (Z62:(Z1B == sysModules)=false)
  (Z6Q:PySem.W.nsIn K mainGlobals "START" =some (some (.ref Z2G)))
  (Z6R:K.lookup Z2G=some {cls:=.type "tuple",data:=.seq #[.int (0) x_START0,.int (0) x_START1] Zc0})
  (Z6S:PySem.W.nsIn K mainGlobals "STEPS" =some (some (.ref Z21)))
  (Z6T:K.lookup Z21=some {cls:=.type "dict",data:=.dict #[⟨PySem.PyData.keyHash w.params (Str.ofString "f"),.str (Str.ofString "f") x_STEPS0,.int (1) y_STEPS0⟩,⟨PySem.PyData.keyHash w.params (Str.ofString "b"),.str (Str.ofString "b") x_STEPS1,.int (-1) y_STEPS1⟩,⟨PySem.PyData.keyHash w.params (Str.ofString "i"),.str (Str.ofString "i") x_STEPS2,.int (0) y_STEPS2⟩] Zc1})
  (Z6U:(Z21 == sysModules)=false)
  (Z6V:PySem.W.nsIn K mainGlobals "TURNS" =some (some (.str (Str.ofString "fbi") Z6r)))
  (Z8V:PySem.W.nsIn K mainGlobals "WORN" =some (some (.str (Str.ofString "?") Z7W)))
  :∃fd:FuncData,(∀(s:Shared) (v:Value),BindsTo s fd ⟨[v],[]⟩ [("_law_script",v)])∧∀base:Heap,K.In base→base.Ns mainGlobals mg→FnOk l.prog w K mg base CX0 27 fa fd ["_law_script"] (mt K):=by
 have e:=hfa.symm.trans (PySem.W.mg_of X G a_law)
 cases e
 have Z5e:=aQ (st:=tp 45) Z3s Z3t Z1v
 have Z5f:=Z5e.binds (ps:=["_law_found","_law_due"]) fun _ _ _ _ _ _ us hl=>match us,hl with | [_,_],_=>rfl
 have Z73:=aQ (st:=tp 29) Z4K Z4L Z3i
 have Zbc:=Z73.binds (ps:=["_law_script","_law_k"]) fun _ _ _ _ _ _ us hl=>match us,hl with | [_,_],_=>rfl
 have Z6h:=aQ (st:=tp 25) Z4c Z4d Z2C
 have Zae:=Z6h.binds (ps:=["_law_cell","_law_many","_law_base"]) fun _ _ _ _ _ _ us hl=>match us,hl with | [_,_,_],_=>rfl
 have Z4S:=aQ (st:=tp 26) Z2R Z2S Z1N
 have Z8W:=Z4S.binds (ps:=["_law_cell"]) fun _ _ _ _ _ _ us hl=>match us,hl with | [_],_=>rfl
 have Z5g:=aQ (st:=tp 27) Z3v Z3w Z2h
 have Z9E:=Z5g.binds (ps:=["_law_cell"]) fun _ _ _ _ _ _ us hl=>match us,hl with | [_],_=>rfl
 have Z4T:=aQ (st:=tp 28) Z2U Z2V Z1O
 have Z8X:=Z4T.binds (ps:=["_law_cell","_law_many"]) fun _ _ _ _ _ _ us hl=>match us,hl with | [_,_],_=>rfl
 have Z74:=aQ (st:=tp 31) Z4N Z4O Z3j
 have Zbd:=Z74.binds (ps:=["_law_turn"]) fun _ _ _ _ _ _ us hl=>match us,hl with | [_],_=>rfl
 have Z4z:=aQ (st:=tp 32) Z2o Z2p Z1y
 have Z7S:=Z4z.binds (ps:=["_law_card_here","_law_turn"]) fun _ _ _ _ _ _ us hl=>match us,hl with | [_,_],_=>rfl
 have Z4U:=aQ (st:=tp 33) Z2X Z2Y Z1P
 have Z8Y:=Z4U.binds (ps:=["_law_card_here","_law_turn"]) fun _ _ _ _ _ _ us hl=>match us,hl with | [_,_],_=>rfl
 have Z4A:=aQ (st:=tp 34) Z2r Z2s Z1z
 have Z7T:=Z4A.binds (ps:=["_law_card_here","_law_turns_here"]) fun _ _ _ _ _ _ us hl=>match us,hl with | [_,_],_=>rfl
 have Z4V:=aQ (st:=tp 35) Z30 Z31 Z1Q
 have Z8Z:=Z4V.binds (ps:=["_law_places_here","_law_cell","_law_lies"]) fun _ _ _ _ _ _ us hl=>match us,hl with | [_,_,_],_=>rfl
 have Z3l:=aQ (st:=tp 36) Z1S Z1T Z1d
 have Z6i:=Z3l.binds (ps:=["_law_card_here"]) fun _ _ _ _ _ _ us hl=>match us,hl with | [_],_=>rfl
 have Z5h:=aQ (st:=tp 37) Z3y Z3z Z2i
 have Z9F:=Z5h.binds (ps:=["_law_turns_here"]) fun _ _ _ _ _ _ us hl=>match us,hl with | [_],_=>rfl
 have Z5i:=aQ (st:=tp 38) Z3B Z3C Z2j
 have Z9G:=Z5i.binds (ps:=["_law_card_here","_law_many"]) fun _ _ _ _ _ _ us hl=>match us,hl with | [_,_],_=>rfl
 have Z5j:=aQ (st:=tp 39) Z3E Z3F Z2k
 have Z9H:=Z5j.binds (ps:=["_law_card_here","_law_turns_here"]) fun _ _ _ _ _ _ us hl=>match us,hl with | [_,_],_=>rfl
 have Z6j:=aQ (st:=tp 40) Z4f Z4g Z2D
 have Zaf:=Z6j.binds (ps:=["_law_card_here","_law_turns_here","_law_cell"]) fun _ _ _ _ _ _ us hl=>match us,hl with | [_,_,_],_=>rfl
 have Z4W:=aQ (st:=tp 41) Z33 Z34 Z1U
 have Z90:=Z4W.binds (ps:=["_law_script","_law_most"]) fun _ _ _ _ _ _ us hl=>match us,hl with | [_,_],_=>rfl
 have Z6k:=aQ (st:=tp 44) Z4i Z4j Z2E
 have Zag:=Z6k.binds (ps:=["_law_many"]) fun _ _ _ _ _ _ us hl=>match us,hl with | [_],_=>rfl
 have Z5k:=aQ (st:=tp 42) Z3H Z3I Z2l
 have Z9I:=Z5k.binds (ps:=["_law_card_here","_law_strip","_law_loose","_law_bound","_law_text"]) fun _ _ _ _ _ _ us hl=>match us,hl with | [_,_,_,_,_],_=>rfl
 have Z5l:=aQ (st:=tp 43) Z3K Z3L Z2m
 have Z9J:=Z5l.binds (ps:=["_law_card_here","_law_turns_here"]) fun _ _ _ _ _ _ us hl=>match us,hl with | [_,_],_=>rfl
 have Z91:=aQ (st:=tp 18) Z5J Z5K Z4k
 have ZbN:=Z91.binds (ps:=["state","loose","bound"]) fun _ _ _ _ _ _ us hl=>match us,hl with | [_,_,_],_=>rfl
 have Z6l:=aQ (st:=tp 6) Z4m Z4n Z2F
 have Zah:=Z6l.binds (ps:=["tablet","turn"]) fun _ _ _ _ _ _ us hl=>match us,hl with | [_,_],_=>rfl
 have Z3P:=aQ (st:=tp 17) Z26 Z27 Z1r
 have Z6W:=Z3P.binds (ps:=["tablet","state","turn"]) fun _ _ _ _ _ _ us hl=>match us,hl with | [_,_,_],_=>rfl
 have Z75:=aQ (st:=tp 16) Z4Q Z4R Z3k
 have Zbe:=Z75.binds (ps:=["tablet","twist"]) fun _ _ _ _ _ _ us hl=>match us,hl with | [_,_],_=>rfl
 have F_top:=aQ (st:=tp 4) l_top c_top k_top
 have b_top:=F_top.binds (ps:=["tablet"]) fun _ _ _ _ _ _ us hl=>match us,hl with | [_],_=>rfl
 have Z92:=aQ (st:=tp 5) Z5M Z5N Z4o
 have ZbO:=Z92.binds (ps:=["tablet"]) fun _ _ _ _ _ _ us hl=>match us,hl with | [_],_=>rfl
 have Z4X:=aQ (st:=tp 9) Z36 Z37 Z1V
 have Z93:=Z4X.binds (ps:=["tablet","turn"]) fun _ _ _ _ _ _ us hl=>match us,hl with | [_,_],_=>rfl
 have Z9L:=aQ (st:=tp 13) Z6K Z6L Z58
 have Zc2:=Z9L.binds (ps:=["sign","left"]) fun _ _ _ _ _ _ us hl=>match us,hl with | [_,_],_=>rfl
 have Z94:=aQ (st:=tp 12) Z5P Z5Q Z4p
 have ZbP:=Z94.binds (ps:=["place","mark"]) fun _ _ _ _ _ _ us hl=>match us,hl with | [_,_],_=>rfl
 have Z95:=aQ (st:=tp 19) Z5S Z5T Z4q
 have ZbQ:=Z95.binds (ps:=["tablet","state","turn","mark"]) fun _ _ _ _ _ _ us hl=>match us,hl with | [_,_,_,_],_=>rfl
 have Z96:=aQ (st:=tp 20) Z5V Z5W Z4r
 have ZbR:=Z96.binds (ps:=["tablet","mark","loose","bound","state"]) fun _ _ _ _ _ _ us hl=>match us,hl with | [_,_,_,_,_],_=>rfl
 have Z3m:=aQ (st:=tp 22) Z1X Z1Y Z1e
 have Z6m:=Z3m.binds (ps:=["tablet","mark","loose","bound","states"]) fun _ _ _ _ _ _ us hl=>match us,hl with | [_,_,_,_,_],_=>rfl
 have Z97:=aQ (st:=tp 21) Z5Y Z5Z Z4s
 have ZbS:=Z97.binds (ps:=["tablet","strip","loose","bound"]) fun _ _ _ _ _ _ us hl=>match us,hl with | [_,_,_,_],_=>rfl
 have Z9M:=aQ (st:=tp 23) Z6N Z6O Z59
 have Zc3:=Z9M.binds (ps:=["tablet","strip","loose"]) fun _ _ _ _ _ _ us hl=>match us,hl with | [_,_,_],_=>rfl
 have F_law:=aQ (st:=tp 46) l_law c_law k_law
 have b_law:=F_law.binds (ps:=["_law_script"]) fun _ _ _ _ _ _ us hl=>match us,hl with | [_],_=>rfl
 have h_abs:=PySem.W.mg_none_of X G z_abs
 have h_all:=PySem.W.mg_none_of X G z_all
 have h_bool:=PySem.W.mg_none_of X G z_bool
 have h_int:=PySem.W.mg_none_of X G z_int
 have h_isinstance:=PySem.W.mg_none_of X G z_isinstance
 have h_len:=PySem.W.mg_none_of X G z_len
 have h_list:=PySem.W.mg_none_of X G z_list
 have h_max:=PySem.W.mg_none_of X G z_max
 have h_range:=PySem.W.mg_none_of X G z_range
 have h_sorted:=PySem.W.mg_none_of X G z_sorted
 have h_str:=PySem.W.mg_none_of X G z_str
 have h_tuple:=PySem.W.mg_none_of X G z_tuple
 have h_zip:=PySem.W.mg_none_of X G z_zip
 have Z1p:=PySem.W.mg_of X G Z6P
 have Z5n:=PySem.W.mg_of X G Z60
 have Z5o:DictK K w Z1B [(Sum.inl (1),.str (Str.ofString "s")),(Sum.inl (-1),.str (Str.ofString "z")),(Sum.inl (0),.str (Str.ofString "o"))]:=⟨by decide,Z62,by decide +kernel,_,_,Z61,(.cons ⟨eM _ _,rfl,⟨_,rfl⟩⟩ (.cons ⟨eM _ _,rfl,⟨_,rfl⟩⟩ (.cons ⟨eM _ _,rfl,⟨_,rfl⟩⟩ .nil)))⟩
 have Z53:=PySem.W.mg_of X G Z6Q
 have Z54:∀H,SqT K H Z2G [.int (0),.int (0)]:=fun H=>.inr ⟨_,_,_,Z6R,⟨rfl,rfl⟩,rfl,(by show 2≤sizeLine;decide),(.cons ⟨_,rfl⟩ (.cons ⟨_,rfl⟩ .nil))⟩
 have Z6n:=PySem.W.mg_of X G Z6S
 have Z6o:DictK K w Z21 [(Sum.inr (Str.ofString "f"),.int (1)),(Sum.inr (Str.ofString "b"),.int (-1)),(Sum.inr (Str.ofString "i"),.int (0))]:=⟨by decide,Z6U,by decide +kernel,_,_,Z6T,(.cons ⟨eN _ _,rfl,⟨_,rfl⟩⟩ (.cons ⟨eN _ _,rfl,⟨_,rfl⟩⟩ (.cons ⟨eN _ _,rfl,⟨_,rfl⟩⟩ .nil)))⟩
 have Z6s:=PySem.W.mg_of X G Z6V
 have Z7X:=PySem.W.mg_of X G Z8V
 refine⟨PySem.W.fnOf "law" "law" (defArgs (tp 46)) (defBody (tp 46)) (defScope (tp 46)) .none kV_law dc_law pm_law an_law cd_law ct_law,fun s v=>.of_eq rfl,fun base KB _=>?_⟩
 have SA:∀n:Nat,Cal l.prog w K mg base "_law_same" ["_law_found","_law_due"] n (eY K n):=fun n=>by
  induction n with
  | zero=>exact⟨Z1u,_,rE,PySem.W.mg_of X G Z2g,Z1v,Z5f⟩
  | succ n ih=>exact⟨Z1u,_,pN Z5e h_len h_isinstance h_bool h_int h_str h_list h_tuple h_zip ih,PySem.W.mg_of X G Z2g,Z1v,Z5f⟩
 have Z0V:=SA 26
 have Z0Z:Cal l.prog w K mg base "_law_at" ["_law_script","_law_k"] (1) (bo (isScr K) isI (rs isI) jj):=⟨Z3e,_,wg Z73 h_len,PySem.W.mg_of X G Z4J,Z3i,Zbc⟩
 have Z0G:Cal l.prog w K mg base "_law_row" ["_law_cell","_law_many","_law_base"] (1) (da isI isI isI (ro isI) i6):=⟨Z2y,_,wj Z6h h_abs h_range,PySem.W.mg_of X G Z4b,Z2C,Zae⟩
 have Z2H:Cal l.prog w K mg base "_law_holes" ["_law_cell"] (2) (cD isI (rs isS) rg):=⟨Z1H,_,wk Z4S Z0G,PySem.W.mg_of X G Z2Q,Z1N,Z8W⟩
 have Z29:Cal l.prog w K mg base "_law_card" ["_law_cell"] (3) (cD isI (rs (isT3 K isS isS isI)) qf):=⟨Z2a,_,wm Z5g Z2H,PySem.W.mg_of X G Z3u,Z2h,Z9E⟩
 have Z2J:Cal l.prog w K mg base "_law_turns" ["_law_cell","_law_many"] (2) (bo isI isI (rs isS) rh):=⟨Z1I,_,wn Z4T Z0G,PySem.W.mg_of X G Z2T,Z1O,Z8X⟩
 have Z1f:Cal l.prog w K mg base "_law_go" ["_law_turn"] (1) (cD isS (rs isI) kD):=⟨Z3f,_,wo Z74,PySem.W.mg_of X G Z4M,Z3j,Zbd⟩
 have Z0O:Cal l.prog w K mg base "_law_behind" ["_law_card_here","_law_turn"] (2) (bo (isT3 K isS isS isI) isS (rs (isT3 K isS isS isI)) gw):=⟨Z1w,_,wq Z4z Z1f,PySem.W.mg_of X G Z2n,Z1y,Z7S⟩
 have Z0y:Cal l.prog w K mg base "_law_twist" ["_law_card_here","_law_turn"] (2) (bo (isT3 K isS isS isI) isS (rs isI) dY):=⟨Z1J,_,wr Z4U Z1f,PySem.W.mg_of X G Z2W,Z1P,Z8Y⟩
 have Z0P:Cal l.prog w K mg base "_law_places" ["_law_card_here","_law_turns_here"] (3) (bo (isT3 K isS isS isI) isS (ro (isT3 K isS isS isS)) lg):=⟨Z1x,_,wt Z4A Z0O Z0y,PySem.W.mg_of X G Z2q,Z1z,Z7T⟩
 have Z2K:Cal l.prog w K mg base "_law_marks" ["_law_places_here","_law_cell","_law_lies"] (2) (da (isL (isT3 K isS isS isS)) isI isB (ro (isT3 K isS isS isS)) rj):=⟨Z1K,_,wu Z4V Z0G h_int h_len h_tuple h_zip,PySem.W.mg_of X G Z2Z,Z1Q,Z8Z⟩
 have Z1E:Cal l.prog w K mg base "_law_turnover" ["_law_card_here"] (1) (cD (isT3 K isS isS isI) (rs (isT3 K isS isS isI)) rk):=⟨Z1b,_,wv Z3l,PySem.W.mg_of X G Z1R,Z1d,Z6i⟩
 have Z3n:Cal l.prog w K mg base "_law_back" ["_law_turns_here"] (1) (cD isS (rs isS) rl):=⟨Z2b,_,ww Z5h,PySem.W.mg_of X G Z3x,Z2i,Z9F⟩
 have Z3o:Cal l.prog w K mg base "_law_roll" ["_law_card_here","_law_many"] (1) (bo (isT3 K isS isS isI) isI (rs (isT3 K isS isS isI)) rm):=⟨Z2c,_,wx Z5i h_range,PySem.W.mg_of X G Z3A,Z2j,Z9G⟩
 have Z3p:Cal l.prog w K mg base "_law_seen" ["_law_card_here","_law_turns_here"] (3) (bo (isT3 K isS isS isI) isS (ro isI) rn):=⟨Z2d,_,wy Z5j Z0O h_sorted,PySem.W.mg_of X G Z3D,Z2k,Z9H⟩
 have Z42:Cal l.prog w K mg base "_law_kin" ["_law_card_here","_law_turns_here","_law_cell"] (4) (da (isT3 K isS isS isI) isS isI (rs (isT2 K (isT3 K isS isS isI) isS)) rp):=⟨Z2z,_,wz Z6j Z1E Z3n Z3o Z3p h_range,PySem.W.mg_of X G Z4e,Z2D,Zaf⟩
 have Z2N:Cal l.prog w K mg base "_law_small" ["_law_script","_law_most"] (5) (bo (isScr K) isI (rs (isT3 K (isT3 K isS isS isI) (isL (isT3 K isS isS isS)) isI)) qg):=⟨Z1L,_,wA Z4W Z29 Z0Z Z2J Z2K Z0P Z42,PySem.W.mg_of X G Z32,Z1U,Z90⟩
 have Z44:Cal l.prog w K mg base "_law_all" ["_law_many"] (1) (cD isI (rs (isL isS)) rq):=⟨Z2A,_,wB Z6k h_range,PySem.W.mg_of X G Z4h,Z2E,Zag⟩
 have Z3q:Cal l.prog w K mg base "_law_does" ["_law_card_here","_law_strip","_law_loose","_law_bound","_law_text"] (4) (gS (isT3 K isS isS isI) (isL (isT3 K isS isS isS)) isI isI isS (rs isB) mm):=⟨Z2e,_,wC Z5k Z0P Z0y h_abs h_int h_len h_zip,PySem.W.mg_of X G Z3G,Z2l,Z9I⟩
 have Z3r:Cal l.prog w K mg base "_law_peak" ["_law_card_here","_law_turns_here"] (3) (bo (isT3 K isS isS isI) isS (rs isI) mn):=⟨Z2f,_,wD Z5l Z0y h_abs h_max,PySem.W.mg_of X G Z3J,Z2m,Z9J⟩
 have Z24:Cal l.prog w K mg base "within" ["state","loose","bound"] (1) (da (isT2 K isI isI) isI isI (rs isB) k9):=⟨Z45,_,wE Z91 h_abs,PySem.W.mg_of X G Z5I,Z4k,ZbN⟩
 have Z1o:Cal l.prog w K mg base "twisting" ["tablet","turn"] (1) (bo (isT3 K isS isS isI) isS (rs isI) lh):=⟨Z2B,_,wF Z6l Z6n Z6o,PySem.W.mg_of X G Z4l,Z2F,Zah⟩
 have Z23:Cal l.prog w K mg base "state_behind" ["tablet","state","turn"] (2) (da (isT3 K isS isS isI) (isT2 K isI isI) isS (rs (isT2 K isI isI)) qh):=⟨Z1q,_,wG Z3P Z1o,PySem.W.mg_of X G Z25,Z1r,Z6W⟩
 have Z4B:Cal l.prog w K mg base "twisted" ["tablet","twist"] (1) (bo (isT3 K isS isS isI) isI (rs (isT3 K isS isS isI)) rA):=⟨Z3h,_,wH Z75 Z1p,PySem.W.mg_of X G Z4P,Z3k,Zbe⟩
 have C_top:Cal l.prog w K mg base "top" ["tablet"] (1) (cD (isT3 K isS isS isI) (rs isS) fF):=⟨f_top,_,uS F_top Z1p,PySem.W.mg_of X G a_top,k_top,b_top⟩
 have Z5m:Cal l.prog w K mg base "bottom" ["tablet"] (1) (cD (isT3 K isS isS isI) (rs isS) rB):=⟨Z46,_,wI Z92 Z1p,PySem.W.mg_of X G Z5L,Z4o,ZbO⟩
 have Z2M:Cal l.prog w K mg base "left_place" ["tablet","turn"] (2) (bo (isT3 K isS isS isI) isS (rs (isT3 K isS isS isS)) rC):=⟨Z1M,_,wJ Z4X C_top Z5m Z1o Z5n Z5o,PySem.W.mg_of X G Z35,Z1V,Z93⟩
 have Z6q:Cal l.prog w K mg base "suits" ["sign","left"] (1) (bo isS isS (rs isB) qi):=⟨Z56,_,wK Z9L Z7X,PySem.W.mg_of X G Z6J,Z58,Zc2⟩
 have Z5p:Cal l.prog w K mg base "agrees" ["place","mark"] (2) (bo (isT3 K isS isS isS) (isT3 K isS isS isS) (rs isB) rD):=⟨Z47,_,wL Z94 Z6q h_all h_zip,PySem.W.mg_of X G Z5O,Z4p,ZbP⟩
 have Z5q:Cal l.prog w K mg base "leaves" ["tablet","state","turn","mark"] (3) (jL (isT3 K isS isS isI) (isT2 K isI isI) isS (isT3 K isS isS isS) (rs isB) pK):=⟨Z48,_,wM Z95 Z5p Z2M Z4B,PySem.W.mg_of X G Z5R,Z4q,ZbQ⟩
 have Z5r:Cal l.prog w K mg base "onward" ["tablet","mark","loose","bound","state"] (4) (gS (isT3 K isS isS isI) (isT3 K isS isS isS) isI isI (isT2 K isI isI) (ro (isT2 K isS (isT2 K isI isI))) pL):=⟨Z49,_,wN Z96 Z23 Z24 Z5q Z6s,PySem.W.mg_of X G Z5U,Z4r,ZbR⟩
 have Z1G:Cal l.prog w K mg base "states_behind" ["tablet","mark","loose","bound","states"] (5) (gS (isT3 K isS isS isI) (isT3 K isS isS isS) isI isI (isL (isT2 K isI isI)) (ro (isT2 K isI isI)) kE):=⟨Z1c,_,wO Z3m Z5r h_sorted,PySem.W.mg_of X G Z1W,Z1e,Z6m⟩
 have Z43:Cal l.prog w K mg base "search" ["tablet","strip","loose","bound"] (6) (jL (isT3 K isS isS isI) (isL (isT3 K isS isS isS)) isI isI (ro (isL (isT2 K isI isI))) nw):=⟨Z4a,_,wP Z97 Z24 Z1G Z53 Z54,PySem.W.mg_of X G Z5X,Z4s,ZbS⟩
 have Z55:Cal l.prog w K mg base "least" ["tablet","strip","loose"] (7) (da (isT3 K isS isS isI) (isL (isT3 K isS isS isS)) isI (rs (isO isI)) qj):=⟨Z57,_,wQ Z9M Z43 h_len,PySem.W.mg_of X G Z6M,Z59,Zc3⟩
 exact FnOk.imp (uT F_law Z2N Z44 Z3q Z3r Z0V Z55 h_len h_list) rV
theorem walk {l:PySem.W.OpenLaw} {q:Program} {loose:List Str} {XP:(Str→Option Value)→Heap→Prop} {YP:World→Heap→Prop} {d:DefRec} {K:Params→PySem.W.Frag} (hn:l.most=some 63) (hdf:d.params.defaults=[]) (hY:∀(w:World) (h:Heap),YP w h→(K w.params).In h)
  (F:∀(w:World) (mg:Str→Option Value) (fa:Addr) (h:Heap),(K w.params).In h→h.Ns mainGlobals mg→mg d.name=some (.ref fa)→∃fd:FuncData,(∀(s:Shared) (u:Value),BindsTo s fd ⟨[u],[]⟩ [("_law_script",u)])∧∀base:Heap,(K w.params).In base→base.Ns mainGlobals mg→FnOk l.prog w (K w.params) mg base CX0 27 fa fd ["_law_script"] (mt (K w.params))):
  PySem.W.WalkO q loose XP YP l.row.toRowW d [] (fun f vs=>PySem.call f vs):=
 L2.walk_of (n:=63) (k:=27) (x:="_law_script") (CX:=fun _=>CX0) (sp:=fun w=>mt (K w.params)) hn (by decide) hdf ⟨rfl,by decide,by decide⟩ hY F (fun _ _ a ns hl _ hS=>⟨a,ns,rfl,hS,hl,fun _=>rfl⟩) fun _ _ _ _ _ z=>z
end Wb
open PySem PySem.W PyProof.Rows
set_option maxRecDepth 100000 in
set_option maxHeartbeats 0 in
theorem PySem.Challenge.cw_wornband_k36_least_by_all_columns_holds : PySem.Challenge.rw_wornband_k36_least_by_all_columns.Holds := by
 refine hd ?_
 k_fill
 refine Wb.walk (l:=PySem.Challenge.rw_wornband_k36_least_by_all_columns) rfl rfl (fun w h Y=>PySem.W.kIn_of Y) ?F
 case F=>
  intro w mg fa h KX G hmg
  refine' Wb.fin_mk KX G hmg ?Z2g ?Z3s ?Z3t ?Z1v ?Z4J ?Z4K ?Z4L ?Z3i ?Z4b ?Z4c ?Z4d ?Z2C ?Z2Q ?Z2R ?Z2S ?Z1N ?Z3u ?Z3v ?Z3w ?Z2h ?Z2T ?Z2U ?Z2V ?Z1O ?Z4M ?Z4N ?Z4O ?Z3j ?Z2n ?Z2o ?Z2p ?Z1y ?Z2W ?Z2X ?Z2Y ?Z1P ?Z2q ?Z2r ?Z2s ?Z1z ?Z2Z ?Z30 ?Z31 ?Z1Q ?Z1R ?Z1S ?Z1T ?Z1d ?Z3x ?Z3y ?Z3z ?Z2i ?Z3A ?Z3B ?Z3C ?Z2j ?Z3D ?Z3E ?Z3F ?Z2k ?Z4e ?Z4f ?Z4g ?Z2D ?Z32 ?Z33 ?Z34 ?Z1U ?Z4h ?Z4i ?Z4j ?Z2E ?Z3G ?Z3H ?Z3I ?Z2l ?Z3J ?Z3K ?Z3L ?Z2m ?Z5I ?Z5J ?Z5K ?Z4k ?Z4l ?Z4m ?Z4n ?Z2F ?Z25 ?Z26 ?Z27 ?Z1r ?Z4P ?Z4Q ?Z4R ?Z3k ?a_top ?l_top ?c_top ?k_top ?Z5L ?Z5M ?Z5N ?Z4o ?Z35 ?Z36 ?Z37 ?Z1V ?Z6J ?Z6K ?Z6L ?Z58 ?Z5O ?Z5P ?Z5Q ?Z4p ?Z5R ?Z5S ?Z5T ?Z4q ?Z5U ?Z5V ?Z5W ?Z4r ?Z1W ?Z1X ?Z1Y ?Z1e ?Z5X ?Z5Y ?Z5Z ?Z4s ?Z6M ?Z6N ?Z6O ?Z59 ?a_law ?l_law ?c_law ?k_law ?z_abs ?z_all ?z_bool ?z_int ?z_isinstance ?z_len ?z_list ?z_max ?z_range ?z_sorted ?z_str ?z_tuple ?z_zip ?Z6P ?Z60 ?Z61 ?Z62 ?Z6Q ?Z6R ?Z6S ?Z6T ?Z6U ?Z6V ?Z8V
  (case Z2g=>k_is)
  (case Z3s=>k_is)
  (case Z3t=>k_is)
  (case Z1v=>k_is)
  (case Z4J=>k_is)
  (case Z4K=>k_is)
  (case Z4L=>k_is)
  (case Z3i=>k_is)
  (case Z4b=>k_is)
  (case Z4c=>k_is)
  (case Z4d=>k_is)
  (case Z2C=>k_is)
  (case Z2Q=>k_is)
  (case Z2R=>k_is)
  (case Z2S=>k_is)
  (case Z1N=>k_is)
  (case Z3u=>k_is)
  (case Z3v=>k_is)
  (case Z3w=>k_is)
  (case Z2h=>k_is)
  (case Z2T=>k_is)
  (case Z2U=>k_is)
  (case Z2V=>k_is)
  (case Z1O=>k_is)
  (case Z4M=>k_is)
  (case Z4N=>k_is)
  (case Z4O=>k_is)
  (case Z3j=>k_is)
  (case Z2n=>k_is)
  (case Z2o=>k_is)
  (case Z2p=>k_is)
  (case Z1y=>k_is)
  (case Z2W=>k_is)
  (case Z2X=>k_is)
  (case Z2Y=>k_is)
  (case Z1P=>k_is)
  (case Z2q=>k_is)
  (case Z2r=>k_is)
  (case Z2s=>k_is)
  (case Z1z=>k_is)
  (case Z2Z=>k_is)
  (case Z30=>k_is)
  (case Z31=>k_is)
  (case Z1Q=>k_is)
  (case Z1R=>k_is)
  (case Z1S=>k_is)
  (case Z1T=>k_is)
  (case Z1d=>k_is)
  (case Z3x=>k_is)
  (case Z3y=>k_is)
  (case Z3z=>k_is)
  (case Z2i=>k_is)
  (case Z3A=>k_is)
  (case Z3B=>k_is)
  (case Z3C=>k_is)
  (case Z2j=>k_is)
  (case Z3D=>k_is)
  (case Z3E=>k_is)
  (case Z3F=>k_is)
  (case Z2k=>k_is)
  (case Z4e=>k_is)
  (case Z4f=>k_is)
  (case Z4g=>k_is)
  (case Z2D=>k_is)
  (case Z32=>k_is)
  (case Z33=>k_is)
  (case Z34=>k_is)
  (case Z1U=>k_is)
  (case Z4h=>k_is)
  (case Z4i=>k_is)
  (case Z4j=>k_is)
  (case Z2E=>k_is)
  (case Z3G=>k_is)
  (case Z3H=>k_is)
  (case Z3I=>k_is)
  (case Z2l=>k_is)
  (case Z3J=>k_is)
  (case Z3K=>k_is)
  (case Z3L=>k_is)
  (case Z2m=>k_is)
  (case Z5I=>k_is)
  (case Z5J=>k_is)
  (case Z5K=>k_is)
  (case Z4k=>k_is)
  (case Z4l=>k_is)
  (case Z4m=>k_is)
  (case Z4n=>k_is)
  (case Z2F=>k_is)
  (case Z25=>k_is)
  (case Z26=>k_is)
  (case Z27=>k_is)
  (case Z1r=>k_is)
  (case Z4P=>k_is)
  (case Z4Q=>k_is)
  (case Z4R=>k_is)
  (case Z3k=>k_is)
  (case a_top=>k_is)
  (case l_top=>k_is)
  (case c_top=>k_is)
  (case k_top=>k_is)
  (case Z5L=>k_is)
  (case Z5M=>k_is)
  (case Z5N=>k_is)
  (case Z4o=>k_is)
  (case Z35=>k_is)
  (case Z36=>k_is)
  (case Z37=>k_is)
  (case Z1V=>k_is)
  (case Z6J=>k_is)
  (case Z6K=>k_is)
  (case Z6L=>k_is)
  (case Z58=>k_is)
  (case Z5O=>k_is)
  (case Z5P=>k_is)
  (case Z5Q=>k_is)
  (case Z4p=>k_is)
  (case Z5R=>k_is)
  (case Z5S=>k_is)
  (case Z5T=>k_is)
  (case Z4q=>k_is)
  (case Z5U=>k_is)
  (case Z5V=>k_is)
  (case Z5W=>k_is)
  (case Z4r=>k_is)
  (case Z1W=>k_is)
  (case Z1X=>k_is)
  (case Z1Y=>k_is)
  (case Z1e=>k_is)
  (case Z5X=>k_is)
  (case Z5Y=>k_is)
  (case Z5Z=>k_is)
  (case Z4s=>k_is)
  (case Z6M=>k_is)
  (case Z6N=>k_is)
  (case Z6O=>k_is)
  (case Z59=>k_is)
  (case a_law=>k_is)
  (case l_law=>k_is)
  (case c_law=>k_is)
  (case k_law=>k_is)
  (case z_abs=>k_is)
  (case z_all=>k_is)
  (case z_bool=>k_is)
  (case z_int=>k_is)
  (case z_isinstance=>k_is)
  (case z_len=>k_is)
  (case z_list=>k_is)
  (case z_max=>k_is)
  (case z_range=>k_is)
  (case z_sorted=>k_is)
  (case z_str=>k_is)
  (case z_tuple=>k_is)
  (case z_zip=>k_is)
  (case Z6P=>k_is)
  (case Z60=>k_is)
  (case Z61=>k_is)
  (case Z62=>rfl)
  (case Z6Q=>k_is)
  (case Z6R=>k_is)
  (case Z6S=>k_is)
  (case Z6T=>k_is)
  (case Z6U=>rfl)
  (case Z6V=>k_is)
  (case Z8V=>k_is)
