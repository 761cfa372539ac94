import PyProof.Rows.All
import Wide.All
import OpenK.AllK
import Wide.FinOn
import PyProof.EqAt
import PyProof.EqKinds
import PyProof.TupleCall
import KE.KDictSum
import KE.KRevIter
import KE.KRevSl
import KE.KDictLaws
import PyProof.StrLawsFirst
import KE.LcSums
import PyProof.EnumMake
import PyProof.TupleIter
import PyProof.StationsW
import PyProof.Rows.Own
import PyProof.NsDelKeeps
import PyProof.RulesAs
import PyProof.ExcAttrAll.ValueError
import KE.KIsAll
import PyProof.ExcBaseAll.ValueError
import PyProof.Rows.FStr
import PyProof.FString
import PyProof.Rows.StrNews
import PyProof.StrLawsTight
import PyProof.StrLawsChain
import PyProof.ExcInit
import PyProof.ExcClass3
import PyProof.InstStoreFacts
import PySem.Challenge.RW_wornband_k26_fragment_deeds
set_option Elab.async false
set_option linter.all false
set_option maxRecDepth 100000
namespace L2
open PySem PySem.Spec PyProof.Rows
abbrev Key:=Sum Int Str
def qA:Key→Value→Bool
 | .inl k,v=>Value.isInt k v
 | .inr x,v=>Value.isStrOf x v
def tx (w:World):Key→Int
 | .inl k=>hashInt k
 | .inr x=>hashStr w x
theorem bA:∀{k:Key} {v:Value},qA k v=true→(∃i t,k=Sum.inl i∧v=Value.int i t)∨(∃x t,k=Sum.inr x∧v=Value.str x t)
 | .inl i, v, h => by
  obtain⟨t,e⟩:=Value.isInt_shape (k:=i) (v:=v) h
  exact .inl ⟨i,t,rfl,e⟩
 | .inr x, v, h => by
  obtain⟨t,e⟩:=Value.isStrOf_shape (x:=x) (v:=v) h
  exact .inr ⟨x,t,rfl,e⟩
theorem qP (a b:Int):decide ((Sum.inl a:Key)=Sum.inl b)=(a == b):=by
 by_cases e:a=b
 ·subst e;simp
 ·have h:¬(Sum.inl a:Key)=Sum.inl b:=fun q=>e (Sum.inl.inj q)
  rw[decide_eq_false h]
  exact(beq_eq_false_iff_ne.mpr e).symm
theorem qQ (a b:Str):decide ((Sum.inr a:Key)=Sum.inr b)=decide (a=b):=by
 by_cases e:a=b
 ·subst e;simp
 ·have h:¬(Sum.inr a:Key)=Sum.inr b:=fun q=>e (Sum.inr.inj q)
  rw[decide_eq_false h,decide_eq_false e]
theorem qR (a:Int) (b:Str):decide ((Sum.inl a:Key)=Sum.inr b)=false:=decide_eq_false (fun q=>nomatch q)
theorem qS (a:Str) (b:Int):decide ((Sum.inr a:Key)=Sum.inl b)=false:=decide_eq_false (fun q=>nomatch q)
def kl (prog:Program) (w:World):PySem.KeyKind prog w Key where
 is:=qA
 hash:=tx w
 inj:=fun v a b ha hb=>by
  rcases bA ha with⟨i,t,rfl,rfl⟩ | ⟨x,t,rfl,rfl⟩
  ·rcases bA hb with⟨j,u,rfl,e⟩ | ⟨y,u,rfl,e⟩
   ·injection e with e1 _;rw[e1]
   ·exact nomatch e
  ·rcases bA hb with⟨j,u,rfl,e⟩ | ⟨y,u,rfl,e⟩
   ·exact nomatch e
   ·injection e with e1 _;rw[e1]
 byValue:=fun k v h=>by
  rcases bA h with⟨i,t,rfl,rfl⟩ | ⟨x,t,rfl,rfl⟩ <;> rfl
 pyHash:=fun hv h=>by
  rcases bA hv with⟨i,t,rfl,rfl⟩ | ⟨x,t,rfl,rfl⟩
  ·exact wpAny_pyHash_int h
  ·exact wpAny_pyHash_str h
 eqBool:=fun hu hv h=>by
  rcases bA hu with⟨i,t,rfl,rfl⟩ | ⟨x,t,rfl,rfl⟩
  ·rcases bA hv with⟨j,u,rfl,rfl⟩ | ⟨y,u,rfl,rfl⟩
   ·rw[qP]at h;exact wpAny_eqBool_int h
   ·rw[qR]at h;exact SeqAt.EqAt.int_str i t y u _ _ _ _ h
  ·rcases bA hv with⟨j,u,rfl,rfl⟩ | ⟨y,u,rfl,rfl⟩
   ·rw[qS]at h;exact SeqAt.EqAt.str_int x t j u _ _ _ _ h
   ·rw[qQ]at h;exact wpAny_eqBool_str h
 «strs» :=fun k x t v h=>by
  rcases bA h with⟨i,u,rfl,e⟩ | ⟨y,u,rfl,e⟩
  ·exact nomatch e
  ·injection e with e1 _
   subst e1
   cases v <;> rfl
end L2
namespace L2
open PySem PySem.Spec PyProof.Rows
inductive V where
 | non | bl (b:Bool) | int (i:Int) | str (x:Str) | byt (b:Array UInt8) | flt (b:UInt64) | ref (a:Addr) | ty (n:String)
 deriving DecidableEq
def RelV:V→Value→Prop
 | .non,u=>u=Value.none
 | .bl b,u=>u=Value.bool b
 | .int i,u=>∃t,u=Value.int i t
 | .str x,u=>∃t,u=Value.str x t
 | .byt b,u=>∃t,u=Value.bytes b t
 | .flt b,u=>∃t,u=Value.float b t
 | .ref a,u=>u=Value.ref a
 | .ty n,u=>u=Value.type n
abbrev Vals:List V→List Value→Prop:=Paired RelV
theorem Vals.length {xs:List V} {us:List Value} (r:Vals xs us):xs.length=us.length:=Paired.length r
theorem Vals.get:∀{xs:List V} {us:List Value} {i:Nat} {x:V},Vals xs us→xs[i]? =some x→∃u,us[i]? =some u∧RelV x u
 | _,_,_,_,.nil,e=>by simp at e
 | _,_,0,_,.cons r _,e=>by simp at e;subst e;exact⟨_,rfl,r⟩
 | _, _, i + 1, x, .cons _ t, e => by
  obtain⟨u,h1,h2⟩:=Vals.get (i:=i) (x:=x) t (by simpa using e)
  exact⟨u,by simpa using h1,h2⟩
theorem Vals.set {x:V} {u:Value} (r:RelV x u):∀{xs:List V} {us:List Value} (i:Nat),Vals xs us→Vals (xs.set i x) (us.set i u)
 | _,_,_,.nil=>.nil
 | _,_,0,.cons _ t=>.cons r t
 | _,_,i+1,.cons q t=>.cons q (Vals.set r i t)
theorem Vals.append:∀{xs ys:List V} {us ws:List Value},Vals xs us→Vals ys ws→Vals (xs++ys) (us++ws)
 | _,_,_,_,.nil,s=>s
 | _,_,_,_,.cons r t,s=>.cons r (Vals.append t s)
def RelO:Option V→Option Value→Prop
 | some v,some u=>RelV v u
 | none,none=>True
 | _,_=>False
def KV {κ:Type} :List (κ×V)→List (κ×Value)→Prop:=Paired fun(p:κ×V) (q:κ×Value)=>p.1=q.1∧RelV p.2 q.2
def kV:Key→V
 | .inl i=>.int i
 | .inr x=>.str x
inductive HO where
 | lst (xs:List V)
 | tup (xs:List V)
 | dK (kvs:List (Key×V)) | dT (kvs:List (List Key×V))
 | set (S:Int→Bool) (n:Nat)
 | ins (C dx:Addr) (fs:List (Str×V))
 | own (x:Addr)
 | xd (fs:List (Str×V))
 | met (f x:Addr)
 | rng (lo hi:Int)
 | frz (o:Obj) (u:HO)
 | tbl (ps:Array Value)
 | ext (φ:Heap→Prop)
abbrev Hp:=Addr→Option HO
def bQ (H:Hp) (a:Addr) (o:HO):Hp:=fun b=>if b=a then some o else H b
theorem ax {H:Hp} {a:Addr} {o:HO} :bQ H a o a=some o:=by unfold bQ;rw[if_pos rfl]
theorem ay {H:Hp} {a b:Addr} {o:HO} (h:b≠a):bQ H a o b=H b:=by unfold bQ;rw[if_neg h]
theorem cb {H:Hp} {a b:Addr} {o:HO} (h:H a=some o) (h':H b=none):a≠b:=by
 intro e;subst e;rw[h]at h';cases h'
def IsTupD (h:Heap) (a:Addr) (items:Array Value):Prop:=∃o,h.get? a=some o∧(o.cls=.type "tuple" ∧o.dict=none)∧∃n,o.data=.seq items n
theorem IsTupD.tup {h:Heap} {a:Addr} {items:Array Value} (t:IsTupD h a items):IsTup h a items:=let ⟨o,e,c,n,d⟩:=t;⟨o,e,c.1,n,d⟩
theorem IsTupD.new (h:Heap) (items:Array Value):IsTupD (h.push {cls:=.type "tuple",data:=.seq items}) h.objs.size items:=⟨_,Heap.get?_push_size h rfl,⟨rfl,rfl⟩,0,rfl⟩
section
variable (P:Program) (w:World)
def ObjOk (H:Hp) (h:Heap) (a:Addr):HO→Prop
 | .lst xs=>xs.length≤sizeLine∧∃(its:List Value) (n:Nat),Vals xs its∧h.get? a=some {cls:=.type "list",data:=.seq its.toArray n}
 | .tup xs=>xs.length≤sizeLine∧∃its:List Value,Vals xs its∧IsTupD h a its.toArray
 | .dK kvs=>kvs.length≤sizeLine∧(a == sysModules)=false∧∃vs,KV kvs vs∧h.DictOf (kl P w) a vs
 | .dT kvs=>kvs.length≤sizeLine∧(a == sysModules)=false∧∃xs:List (List Key×Addr×Value),
   Paired (fun(p:List Key×V) (q:List Key×Addr×Value)=>p.1=q.1∧H q.2.1=some (.tup (p.1.map kV))∧RelV p.2 q.2.2) kvs xs∧
   ∃o es ep,h.get? a=some o∧o.ExactDict∧o.data=.dict es ep∧es.toList=xs.map (entryOfKey (tupleKind (kl P w)))∧(xs.map (·.1)).Nodup
 | .set S n=>h.SetOf (intKind P w) a S n
 | .ins C dx fs=>H dx=some (.own a)∧fs.length≤1000∧dx≠a∧h.get? a=some (PySem.W.instObj C dx)∧
   ∃mA,h.Ns1 dx mA∧(∀f,RelO (fs.lookup f) (mA f))∧PySem.Within mA (fs.map (·.1))
 | .own _=>∃o,h.get? a=some o
 | .xd fs=>∃mA,h.Ns1 a mA∧∀f,RelO (fs.lookup f) (mA f)
 | .rng lo hi=>∃t u v,h.get? a=some {cls:=.type "range",data:=.fields #[.int lo t,.int hi u,.int 1 v]}
 | .frz o u=>h.get? a=some o∧ObjOk H h a u
 | .tbl ps=>h.get? a=some {cls:=.none,data:=.fields ps}
 | .met f x=>h.get? a=some (PySem.W.methodObj (.ref f) (.ref x))
 | .ext φ=>φ h∧(∃o,h.get? a=some o)∧∀h1 h2:Heap,φ h1→(∀o,h1.get? a=some o→h2.get? a=some o)→φ h2
def HOk (H:Hp) (h:Heap):Prop:=∀a o,H a=some o→ObjOk P w H h a o
end
section
variable {P:Program} {w:World} {H H':Hp} {h h':Heap} {a:Addr} {o:HO}
theorem ObjOk.lt (x:ObjOk P w H h a o):a< h.objs.size:=by
 cases o with
 | lst xs=>obtain⟨_,_,_,_,e⟩:=x;exact Heap.lt_size e
 | tup xs=>obtain⟨_,_,_,p⟩:=x;exact p.tup.lt
 | dK kvs=>obtain⟨_,_,_,_,o,_,_,e,_⟩:=x;exact Heap.lt_size e
 | dT kvs=>obtain⟨_,_,_,_,o,_,_,e,_⟩:=x;exact Heap.lt_size e
 | set S n=>obtain⟨o,_,_,_,e,_⟩:=x;exact Heap.lt_size e
 | ins C dx fs=>obtain⟨_,_,_,e,_⟩:=x;exact Heap.lt_size e
 | own y=>obtain⟨_,e⟩:=x;exact Heap.lt_size e
 | xd fs=>obtain⟨_,⟨_,_,_,e,_⟩,_⟩:=x;exact Heap.lt_size e
 | rng lo hi=>obtain⟨_,_,_,e⟩:=x;exact Heap.lt_size e
 | frz ob u=>obtain⟨e,_⟩:=x;exact Heap.lt_size e
 | tbl ps=>exact Heap.lt_size (show h.get? a=some _ from x)
 | met f y=>exact Heap.lt_size (show h.get? a=some _ from x)
 | ext φ=>obtain⟨_,⟨_,e⟩,_⟩:=x;exact Heap.lt_size e
theorem Paired.mapP {α β:Type} {F G:α→β→Prop} :∀{l₁:List α} {l₂:List β},Paired F l₁ l₂→(∀a b,F a b→G a b)→Paired G l₁ l₂
 | _,_,.nil,_=>.nil
 | _,_,.cons r t,f=>.cons (f _ _ r) (Paired.mapP t f)
theorem ObjOk.stay (x:ObjOk P w H h a o) (k:∀b u,(b=a∨H b=some (.own a))→h.get? b=some u→h'.get? b=some u)
  (ho:∀b,H b=some (.own a)→H' b=some (.own a)) (ht:∀b xs,H b=some (.tup xs)→H' b=some (.tup xs)):ObjOk P w H' h' a o:=by
 induction o with
 | lst xs=>obtain⟨z,its,n,r,e⟩:=x;exact⟨z,its,n,r,k _ _ (.inl rfl) e⟩
 | tup xs=>obtain⟨z,its,r,ob,e,c⟩:=x;exact⟨z,its,r,ob,k _ _ (.inl rfl) e,c⟩
 | dK kvs=>obtain⟨z,y,vs,r,ob,es,ep,e,c⟩:=x;exact⟨z,y,vs,r,ob,es,ep,k _ _ (.inl rfl) e,c⟩
 | dT kvs =>
  obtain⟨z,y,xs,r,ob,es,ep,e,c⟩:=x
  exact⟨z,y,xs,Paired.mapP r fun p q z=>⟨z.1,ht _ _ z.2.1,z.2.2⟩,ob,es,ep,k _ _ (.inl rfl) e,c⟩
 | set S n=>obtain⟨ob,es,ep,t,e,c⟩:=x;exact⟨ob,es,ep,t,k _ _ (.inl rfl) e,c⟩
 | ins C dx fs =>
  obtain⟨d,z,ne,e,mA,⟨od,es,ep,e2,c⟩,r⟩:=x
  exact⟨ho _ d,z,ne,k _ _ (.inl rfl) e,mA,⟨od,es,ep,k _ _ (.inr d) e2,c⟩,r⟩
 | own y=>obtain⟨ob,e⟩:=x;exact⟨ob,k _ _ (.inl rfl) e⟩
 | xd fs=>obtain⟨mA,⟨od,es,ep,e,c⟩,r⟩:=x;exact⟨mA,⟨od,es,ep,k _ _ (.inl rfl) e,c⟩,r⟩
 | rng lo hi=>obtain⟨t,u,v,e⟩:=x;exact⟨t,u,v,k _ _ (.inl rfl) e⟩
 | frz ob u ih=>obtain⟨e,q⟩:=x;exact⟨k _ _ (.inl rfl) e,ih q⟩
 | tbl ps =>
  have e:h.get? a=some {cls:=.none,data:=.fields ps} :=x
  show h'.get? a=some {cls:=.none,data:=.fields ps}
  exact k a _ (.inl rfl) e
 | met f y =>
  have e:h.get? a=some (PySem.W.methodObj (.ref f) (.ref y)):=x
  show h'.get? a=some (PySem.W.methodObj (.ref f) (.ref y))
  exact k a _ (.inl rfl) e
 | ext φ=>obtain⟨p,⟨o,e⟩,st⟩:=x;exact⟨st _ _ p fun o q=>k _ _ (.inl rfl) q,⟨o,k _ _ (.inl rfl) e⟩,st⟩
theorem HOk.lt (x:HOk P w H h) (e:H a=some o):a< h.objs.size:=(x a o e).lt
theorem HOk.fresh (x:HOk P w H h) (e:h.objs.size≤a):H a=none:=by
 cases q:H a with
 | none=>rfl
 | some u=>exact absurd (Nat.lt_of_lt_of_le (x.lt q) e) (Nat.lt_irrefl _)
theorem HOk.kept (x:HOk P w H h) (k:∀b u,h.get? b=some u→h'.get? b=some u):HOk P w H h':=fun a o e=>
 (x a o e).stay (fun b u _ q=>k b u q) (fun _ q=>q) fun _ _ q=>q
theorem HOk.laid (x:HOk P w H h) (k:∀b u,h.get? b=some u→h'.get? b=some u) (hp:h.objs.size≤a) (new:ObjOk P w (bQ H a o) h' a o):HOk P w (bQ H a o) h':=fun b u e=>by
 have hn:=x.fresh hp
 by_cases hb:b=a
 ·subst hb;rw[ax]at e;cases e;exact new
 ·rw[ay hb]at e
  exact(x b u e).stay (fun c v _ q=>k c v q) (fun c q=>by rw[ay (cb q hn)];exact q) fun c xs q=>by rw[ay (cb q hn)];exact q
end
def Rd (H:Hp) (a:Addr) (u:HO):Prop:=H a=some u∨∃o,H a=some (.frz o u)
theorem Rd.ok {P:Program} {w:World} {H:Hp} {h:Heap} {a:Addr} {u:HO} (r:Rd H a u) (x:HOk P w H h):ObjOk P w H h a u:=by
 rcases r with r | ⟨o,r⟩
 ·exact x a u r
 ·obtain⟨_,q⟩:=x a _ r
  exact q
def sY:Option HO→Prop
 | some (.lst _)=>True
 | some (.dK _)=>True
 | some (.dT _)=>True
 | some (.set _ _)=>True
 | some (.ins _ _ _)=>True
 | some (.ext _)=>True
 | _=>False
section
variable {P:Program} {w:World} {H:Hp} {h h':Heap} {x e:Addr} {o':HO}
theorem HOk.write (ok:HOk P w H h) (mu:sY (H x)) (he:e=x∨H e=some (.own x)) (k:∀b u,b≠e→h.get? b=some u→h'.get? b=some u) (heo:∃u,h'.get? e=some u)
  (new:ObjOk P w (bQ H x o') h' x o'):HOk P w (bQ H x o') h':=fun b u q=>by
 have nown:∀c y,H c=some (.own y)→c≠x:=fun c y r z=>by subst z;rw[r]at mu;exact mu
 have ntup:∀c xs,H c=some (.tup xs)→c≠x:=fun c xs r z=>by subst z;rw[r]at mu;exact mu
 by_cases hb:b=x
 ·subst hb;rw[ax]at q;cases q;exact new
 ·rw[ay hb]at q
  by_cases hbe:b=e
  ·have q':H b=some (.own x):=by
    rcases he with z | z
    ·exact absurd (hbe.trans z) hb
    ·rw[hbe];exact z
   rw[q]at q';cases q'
   obtain⟨v,hv⟩:=heo
   exact⟨v,by rw[hbe];exact hv⟩
  ·refine(ok b u q).stay (fun c v hc r=>k c v ?_ r) (fun c r=>by rw[ay (nown c b r)];exact r) fun c xs r=>by rw[ay (ntup c xs r)];exact r
   rcases hc with rfl | hc
   ·exact hbe
   ·rintro rfl
    rcases he with z | z
    ·exact nown c b hc z
    ·rw[hc]at z;cases z;exact hb rfl
end
structure Un (fs ex:List Addr) (H H':Hp) (h h':Heap):Prop where
 keep:∀b o,h.get? b=some o→H b=none→b∉fs→b∉ex→h'.get? b=some o
 slot:∀b o,h.get? b=some o→H b=none→b∈fs→b∉ex→∃sl,h'.get? b=some {o with slots:=sl}
 free:∀b o,h.get? b=some o→H b=none→b∉ex→H' b=none
 there:∀b o,h.get? b=some o→b∉ex→∃o',h'.get? b=some o'
 tups:∀b xs,H b=some (.tup xs)→H' b=some (.tup xs)
 frzs:∀b o u,H b=some (.frz o u)→H' b=some (.frz o u)
 tbls:∀b ps,H b=some (.tbl ps)→∃more,H' b=some (.tbl (ps++more))
section
variable {fs fs' ex ex':List Addr} {H H1 H2:Hp} {h h1 h2 h':Heap} {a x e:Addr} {o:HO}
theorem Un.any (u:Un fs ex H H1 h h1) {b:Addr} {ob:Obj} (q:h.get? b=some ob) (n:H b=none) (hx:b∉ex):∃sl,h1.get? b=some {ob with slots:=sl} :=by
 by_cases hb:b∈fs
 ·exact u.slot b ob q n hb hx
 ·exact⟨ob.slots,u.keep b ob q n hb hx⟩
theorem Un.kept (k:∀b u,h.get? b=some u→h'.get? b=some u):Un fs ex H H h h':=
 ⟨fun b ob q _ _ _=>k b ob q,fun b ob q _ _ _=>⟨ob.slots,k b ob q⟩,fun _ _ _ n _=>n,fun b ob q _=>⟨ob,k b ob q⟩,fun _ _ q=>q,fun _ _ _ q=>q,fun _ ps q=>⟨#[],by rw[q];simp⟩⟩
theorem Un.refl:Un fs ex H H h h:=Un.kept fun _ _ q=>q
theorem Un.laid (k:∀b u,h.get? b=some u→h'.get? b=some u) (hp:h.objs.size≤a) (hn:H a=none):Un fs ex H (bQ H a o) h h' where
 keep:=fun b u q _ _ _=>k b u q
 slot:=fun b u q _ _ _=>⟨u.slots,k b u q⟩
 free:=fun b u q n _=>by rw[ay (Nat.ne_of_lt (Nat.lt_of_lt_of_le (Heap.lt_size q) hp))];exact n
 there:=fun b u q _=>⟨u,k b u q⟩
 tups:=fun b xs q=>by rw[ay (cb q hn)];exact q
 frzs:=fun b u xs q=>by rw[ay (cb q hn)];exact q
 tbls:=fun b ps q=>⟨#[],by rw[ay (cb q hn),q];simp⟩
theorem Un.write (mu:sY (H x)) (he:e=x∨H e=some (.own x)) (k:∀b u,b≠e→h.get? b=some u→h'.get? b=some u) (heo:∃u,h'.get? e=some u):Un fs ex H (bQ H x o) h h':=by
 have hx:∀b,H b=none→b≠x:=fun b n z=>by subst z;rw[n]at mu;exact mu
 have hb:∀b,H b=none→b≠e:=fun b n z=>by
  subst z
  rcases he with r | r
  ·exact hx b n r
  ·rw[n]at r;cases r
 have hm:∀b u,H b=some u→¬sY (some u)→b≠x:=fun b u q nm z=>by subst z;rw[q]at mu;exact nm mu
 refine⟨fun b u q n _ _=>k b u (hb b n) q,fun b u q n _ _=>⟨u.slots,k b u (hb b n) q⟩,fun b u q n _=>by rw[ay (hx b n)];exact n,fun b u q _=>?_,
  fun b xs q=>by rw[ay (hm b _ q fun z=>z)];exact q,fun b u xs q=>by rw[ay (hm b _ q fun z=>z)];exact q,fun b ps q=>⟨#[],by rw[ay (hm b _ q fun z=>z),q];simp⟩⟩
 by_cases hbe:b=e
 ·subst hbe;exact heo
 ·exact⟨u,k b u hbe q⟩
end
def jo (h:Heap) (H:Hp):List Addr:=(List.range h.objs.size).filter fun a=>(H a).isSome
def ii (h:Heap) (H:Hp):Heap:=PySem.W.hideAll h (jo h H)
theorem ls (h:Heap) (H:Hp):(ii h H).objs.size=h.objs.size:=PySem.W.hideAll_size _ _
theorem mC {h:Heap} {H:Hp} {b:Addr} {o:Obj} (e:h.get? b=some o) (n:H b=none):(ii h H).get? b=some o:=
 PySem.W.hideAll_get _ e fun hm=>by
  have q:(H b).isSome=true:=(List.mem_filter.mp hm).2
  rw[n]at q;simp at q
theorem p8 {h:Heap} {H:Hp} {b:Addr} {o:Obj} (e:(ii h H).get? b=some o):h.get? b=some o∧H b=none:=by
 have e':h.get? b=some o:=PySem.W.of_hideAll (jo h H) e
 refine⟨e',?_⟩
 cases q:H b with
 | none=>rfl
 | some x =>
  have hm:b∈jo h H:=List.mem_filter.mpr ⟨List.mem_range.mpr (Heap.lt_size e'),by simp[q]⟩
  have z:(ii h H).get? b=none:=PySem.W.hideAll_none (jo h H) hm
  rw[z]at e;cases e
end L2
namespace L2
open PySem PySem.Spec PyProof.Rows
structure Mod (K:PySem.W.Frag) (mg:Str→Option Value) (base:Heap):Prop where
 kin:K.In base
 glob:base.Ns mainGlobals mg
 blt:∃mb,base.Ns builtinsNs mb∧∀x:Str,x≠"__name__" →mb x=bootBuiltins x
 nolimit:base.NoLimit
structure Cx where
 prog:Program
 w:World
 K:PySem.W.Frag
 mg:Str→Option Value
 base:Heap
 A:Around
 N:List Str
 s₀:Shared
 H₀:Hp
 env:Env
 outer:List Env
 stack:List Env
 ex:List Addr
 fn:Str→Bool
 calm:Bool
 pn:List (Addr×Obj)
 xe:Value→Shared→Prop
def frs (l:List Env):List Addr:=l.filterMap (·.frame)
abbrev Cx.fs (X:Cx):List Addr:=frs X.outer
def Vis (sc:Scope) (x:Str):Prop:=sc.names.lookup x=some .local∨sc.names.lookup x=some .cell∨sc.names.lookup x=some .free
def s9 (sc:Scope) (x:Str):Prop:=sc.names.lookup x=some .local∨sc.names.lookup x=some .cell
def Look (env:Env) (h:Heap) (m:Str→Option Value) (x:Str) (u:Value):Prop:=
 (env.kindOf x=some .local∧m x=some u)∨((env.kindOf x=some .cell∨env.kindOf x=some .free)∧∃c,env.cells.lookup x=some c∧h.IsCell c (some u))
structure Cx.Ok (X:Cx):Prop where
 mod:Mod X.K X.mg X.base
 kind:X.env.scope.kind=.function
 glob:X.env.globals=mainGlobals
 blt:X.env.builtins=builtinsNs
 above:X.s₀.heap.objs.size≤X.env.locals
 inj:∀x y c,X.env.cells.lookup x=some c→X.env.cells.lookup y=some c→x=y
 has:∀x,(X.env.kindOf x=some .cell∨X.env.kindOf x=some .free)→∃c,X.env.cells.lookup x=some c
 cab:∀x c,X.fn x=true→X.env.cells.lookup x=some c→X.s₀.heap.objs.size≤c
 hd:X.calm=true→X.A.handled=none
 frames:X.A.frames=some X.stack
 stk:X.stack=X.outer∨(X.stack=X.env::X.outer∧X.env.frame=some X.env.locals)
 exf:∀b∈X.ex,b≠X.env.locals∧∀x c,X.env.cells.lookup x=some c→c≠b
 bs:∀b o,X.base.get? b=some o→X.s₀.heap.get? b=some o∧X.H₀ b=none
 bsz:X.base.objs.size≤X.s₀.heap.objs.size
 noex:∀b o,X.base.get? b=some o→b∉X.ex
 exfs:∀b∈X.ex,b∉X.fs
 funs:X.s₀.heap.FunFrames X.base X.outer
 frf:∀b∈X.fs,X.H₀ b=none
structure Inv (X:Cx) (pins:List (Addr×Obj)) (σ:List (Option V)) (H:Hp) (s:Shared):Prop where
 ok:X.Ok
 os:s.os=X.s₀.os
 bare:AllBare s.gens
 base:Un X.fs X.ex X.H₀ H X.s₀.heap s.heap
 loc:∃m,s.heap.Ns X.env.locals m∧∀(i:Nat) (x:Str) (v:V),X.N[i]? =some x→σ[i]? =some (some v)→Vis X.env.scope x→∃u,RelV v u∧Look X.env s.heap m x u
 cell:∀x c,X.env.cells.lookup x=some c→∃v,s.heap.IsCell c v
 free:H X.env.locals=none
 freeC:∀x c,X.env.cells.lookup x=some c→H c=none
 pin:∀p∈X.pn++pins,s.heap.get? p.1=some p.2∧H p.1=none∧p.1≠X.env.locals∧p.1∉X.fs∧∀v,p.2.data≠.cell v
 hok:HOk X.prog X.w H s.heap
 len:σ.length=X.N.length
section
variable {X:Cx} {pins:List (Addr×Obj)} {σ:List (Option V)} {H H':Hp} {s:Shared} {h':Heap}
theorem Cx.Ok.nofr (ok:X.Ok) {b:Addr} {o:Obj} (e:X.base.get? b=some o):b∉X.fs:=fun hb=>by
 have:=(ok.funs.mem hb).1
 rw[e]at this;cases this
theorem Inv.bs (I:Inv X pins σ H s):∀b o,X.base.get? b=some o→s.heap.get? b=some o∧H b=none:=fun b o e=>
 ⟨I.base.keep b o (I.ok.bs b o e).1 (I.ok.bs b o e).2 (I.ok.nofr e) (I.ok.noex b o e),I.base.free b o (I.ok.bs b o e).1 (I.ok.bs b o e).2 (I.ok.noex b o e)⟩
theorem Inv.bk (I:Inv X pins σ H s):∀b o,X.base.get? b=some o→s.heap.get? b=some o:=fun b o e=>(I.bs b o e).1
theorem Inv.mod (I:Inv X pins σ H s):Mod X.K X.mg X.base:=I.ok.mod
theorem Inv.kIn (I:Inv X pins σ H s):X.K.In s.heap:=I.ok.mod.kin.keeps I.bk
theorem Inv.lt (I:Inv X pins σ H s):X.env.locals< s.heap.objs.size:=let ⟨_,hn,_⟩:=I.loc;hn.lt
theorem Inv.sz (I:Inv X pins σ H s):X.s₀.heap.objs.size≤s.heap.objs.size:=Nat.le_trans I.ok.above (Nat.le_of_lt I.lt)
theorem Inv.nofs (I:Inv X pins σ H s) {a:Addr} (h:s.heap.objs.size≤a):a∉X.fs:=fun hb=>by
 obtain⟨_,o,ho,_⟩:=I.ok.funs.mem hb
 exact absurd (Nat.lt_of_lt_of_le (Heap.lt_size ho) (Nat.le_trans I.sz h)) (Nat.lt_irrefl _)
theorem Inv.cne (I:Inv X pins σ H s):∀x c,X.env.cells.lookup x=some c→c≠X.env.locals:=fun x c e z=>by
 obtain⟨v,o,ho,hd⟩:=I.cell x c e
 obtain⟨m,⟨o',es,ep,ho',hd',_⟩,_⟩:=I.loc
 rw[z,ho']at ho;cases ho;rw[hd']at hd;cases hd
theorem Inv.funs (I:Inv X pins σ H s):s.heap.FunFrames X.base X.outer:=by
 have all:∀(l:List Env),(∀b∈frs l,b∈X.fs)→X.s₀.heap.FunFrames X.base l→s.heap.FunFrames X.base l:=by
  intro l
  induction l with
  | nil=>intro _ _;trivial
  | cons env r ih =>
   intro hs hl
   obtain⟨hk,⟨L,o,hf,hn,ho,hd⟩,hr⟩:=hl
   have hL:L∈X.fs:=hs L (by unfold frs;rw[List.filterMap_cons,hf];exact List.mem_cons_self)
   obtain⟨sl,e⟩:=I.base.slot L o ho (I.ok.frf L hL) hL fun z=>I.ok.exfs L z hL
   exact⟨hk,⟨L,_,hf,hn,e,hd⟩,ih (fun b hb=>hs b (by unfold frs;rw[List.filterMap_cons,hf];exact List.mem_cons_of_mem _ hb)) hr⟩
 exact all X.outer (fun _ hb=>hb) I.ok.funs
theorem Inv.stack (I:Inv X pins σ H s):s.heap.FunFrames X.base X.stack:=by
 rcases I.ok.stk with e | ⟨e,hf⟩
 ·rw[e];exact I.funs
 ·rw[e]
  obtain⟨m,hn,_⟩:=I.loc
  refine .cons (by rw[I.ok.kind];decide) hf hn ?_ I.funs
  exact Heap.get?_none_of_le (Nat.le_trans I.ok.bsz I.ok.above)
theorem Inv.stkSub (I:Inv X pins σ H s):∀b∈frs X.stack,b∈X.env.locals::X.fs:=fun b hb=>by
 rcases I.ok.stk with e | ⟨e,hf⟩
 ·rw[e]at hb;exact List.mem_cons_of_mem _ hb
 ·rw[e]at hb
  unfold frs at hb
  rw[List.filterMap_cons,hf]at hb
  exact hb
theorem Inv.stkFree (I:Inv X pins σ H s):∀b∈frs X.stack,H b=none:=fun b hb=>by
 rcases List.mem_cons.mp (I.stkSub b hb)with e | hb
 ·rw[e];exact I.free
 ·obtain⟨_,o,ho,_⟩:=I.ok.funs.mem hb
  exact I.base.free b o ho (I.ok.frf b hb) fun z=>I.ok.exfs b z hb
theorem Inv.step {g':Array GenState} {t':Nat} {d':Drawn} {ch:List Addr} (I:Inv X pins σ H s)
  (hch:∀b∈ch,(b∈X.ex∨X.s₀.heap.objs.size≤b)∧b≠X.env.locals∧(∀x c,X.env.cells.lookup x=some c→c≠b)∧∀p∈X.pn++pins,p.1≠b)
  (keep:∀b o,b≠X.env.locals→b∉X.fs→b∉ch→s.heap.get? b=some o→H b=none→h'.get? b=some o)
  (slot:∀b o,b≠X.env.locals→b∈X.fs→b∉ch→s.heap.get? b=some o→H b=none→∃sl,h'.get? b=some {o with slots:=sl}) (free:∀b o,b∉ch→s.heap.get? b=some o→H b=none→H' b=none)
  (there:∀b o,b∉ch→s.heap.get? b=some o→∃o',h'.get? b=some o')
  (tups:∀b xs,H b=some (.tup xs)→H' b=some (.tup xs)) (frzs:∀b o u,H b=some (.frz o u)→H' b=some (.frz o u)) (tbls:∀b ps,H b=some (.tbl ps)→∃more,H' b=some (.tbl (ps++more)))
  (ns:∀m,s.heap.Ns X.env.locals m→h'.Ns X.env.locals m) (hok:HOk X.prog X.w H' h') (hg:AllBare g'):
  Inv X pins σ H' {s with heap:=h',gens:=g',drawn:=d',toks:=t'} :=by
 have neL:∀b o,X.s₀.heap.get? b=some o→b≠X.env.locals:=fun b o e=>Nat.ne_of_lt (Nat.lt_of_lt_of_le (Heap.lt_size e) I.ok.above)
 have neC:∀b o,X.s₀.heap.get? b=some o→b∉X.ex→b∉ch:=fun b o e hx hb=>by
  rcases (hch b hb).1 with z | z
  ·exact hx z
  ·exact absurd (Nat.lt_of_lt_of_le (Heap.lt_size e) z) (Nat.lt_irrefl _)
 have cellK:∀x c,X.env.cells.lookup x=some c→∀v,s.heap.IsCell c v→h'.IsCell c v:=fun x c e v ⟨o,ho,hd⟩=>by
  have nch:c∉ch:=fun z=>(hch c z).2.2.1 x c e rfl
  by_cases hc:c∈X.fs
  ·obtain⟨sl,q⟩:=slot c o (I.cne x c e) hc nch ho (I.freeC x c e)
   exact⟨_,q,hd⟩
  ·exact⟨o,keep c o (I.cne x c e) hc nch ho (I.freeC x c e),hd⟩
 refine⟨I.ok,I.os,hg,⟨fun b o e n hb hx=>?_,fun b o e n hb hx=>?_,fun b o e n hx=>?_,fun b o e hx=>?_,fun b xs e=>tups b xs (I.base.tups b xs e),fun b o xs e=>frzs b o xs (I.base.frzs b o xs e),fun b ps e=>?_⟩,?_,fun x c e=>?_,?_,fun x c e=>?_,fun p hp=>?_,hok,I.len⟩
 ·exact keep b o (neL b o e) hb (neC b o e hx) (I.base.keep b o e n hb hx) (I.base.free b o e n hx)
 ·obtain⟨sl,e1⟩:=I.base.slot b o e n hb hx
  obtain⟨sl',e2⟩:=slot b _ (neL b o e) hb (neC b o e hx) e1 (I.base.free b o e n hx)
  exact⟨sl',e2⟩
 ·obtain⟨o',e1⟩:=I.base.there b o e hx
  exact free b o' (neC b o e hx) e1 (I.base.free b o e n hx)
 ·obtain⟨o',e1⟩:=I.base.there b o e hx
  exact there b o' (neC b o e hx) e1
 ·obtain⟨m1,e1⟩:=I.base.tbls b ps e
  obtain⟨m2,e2⟩:=tbls b _ e1
  exact⟨m1++m2,by rw[e2,Array.append_assoc]⟩
 ·obtain⟨m,hn,hl⟩:=I.loc
  refine⟨m,ns m hn,fun i x v e1 e2 e3=>?_⟩
  obtain⟨u,r,l⟩:=hl i x v e1 e2 e3
  refine⟨u,r,?_⟩
  rcases l with l | ⟨k,c,e,z⟩
  ·exact .inl l
  ·exact .inr ⟨k,c,e,cellK x c e _ z⟩
 ·obtain⟨v,z⟩:=I.cell x c e
  exact⟨v,cellK x c e v z⟩
 ·obtain⟨m,⟨o,_,_,ho,_⟩,_⟩:=I.loc
  exact free _ o (fun z=>(hch _ z).2.1 rfl) ho I.free
 ·obtain⟨v,o,ho,hd⟩:=I.cell x c e
  exact free c o (fun z=>(hch c z).2.2.1 x c e rfl) ho (I.freeC x c e)
 ·obtain⟨e,n,ne,nf,d⟩:=I.pin p hp
  have nch:p.1∉ch:=fun z=>(hch p.1 z).2.2.2 p hp rfl
  exact⟨keep p.1 p.2 ne nf nch e n,free p.1 p.2 nch e n,ne,nf,d⟩
theorem Inv.un {t':Nat} (I:Inv X pins σ H s) (u:Un X.fs [] H H' s.heap h') (hok:HOk X.prog X.w H' h'):Inv X pins σ H' {s with heap:=h',toks:=t'} :=by
 obtain⟨m,⟨o,es,ep,ho,r⟩,_⟩:=id I.loc
 obtain⟨sl,hL⟩:=u.any ho I.free (by simp)
 exact I.step (g':=s.gens) (d':=s.drawn) (ch:=[]) (fun _ z=>nomatch z) (fun b o _ hb _ e n=>u.keep b o e n hb (by simp)) (fun b o _ hb _ e n=>u.slot b o e n hb (by simp)) (fun b o _ e n=>u.free b o e n (by simp)) (fun b o _ e=>u.there b o e (by simp)) u.tups u.frzs u.tbls (fun m' hm=>by
  obtain⟨o',es',ep',ho',r'⟩:=hm
  rw[ho]at ho';cases ho'
  exact⟨_,es',ep',hL,r'⟩) hok I.bare
theorem Inv.call {g':Array GenState} {t':Nat} {d':Drawn} {ch:List Addr} (I:Inv X pins σ H s) (u:Un (frs X.stack) ch H H' s.heap h') (hok:HOk X.prog X.w H' h') (hg:AllBare g')
  (hch:∀b∈ch,(b∈X.ex∨X.s₀.heap.objs.size≤b)∧b≠X.env.locals∧(∀x c,X.env.cells.lookup x=some c→c≠b)∧∀p∈X.pn++pins,p.1≠b):
  Inv X pins σ H' {s with heap:=h',gens:=g',drawn:=d',toks:=t'} :=by
 obtain⟨m,⟨o,es,ep,ho,r⟩,_⟩:=id I.loc
 obtain⟨sl,hL⟩:=u.any ho I.free fun z=>(hch _ z).2.1 rfl
 exact I.step (ch:=ch) hch (fun b o hL hb hc e n=>u.keep b o e n (fun z=>(List.mem_cons.mp (I.stkSub b z)).elim hL hb) hc) (fun b o _ _ hc e n=>u.any e n hc) (fun b o hc e n=>u.free b o e n hc) (fun b o hc e=>u.there b o e hc) u.tups u.frzs u.tbls (fun m' hm=>by
  obtain⟨o',es',ep',ho',r'⟩:=hm
  rw[ho]at ho';cases ho'
  exact⟨_,es',ep',hL,r'⟩) hok hg
theorem Inv.turned {t':Nat} {it:Addr} (I:Inv X pins σ H s) (k:∀b o,b≠it→s.heap.get? b=some o→h'.get? b=some o) (hn:H it=none) (hL:it≠X.env.locals)
  (h1:it∈X.ex∨X.s₀.heap.objs.size≤it) (h2:∀x c,X.env.cells.lookup x=some c→c≠it) (h3:∀p∈X.pn++pins,p.1≠it):Inv X pins σ H {s with heap:=h',toks:=t'} :=by
 have nit:∀b u,H b=some u→b≠it:=fun b u e z=>by rw[z,hn]at e;cases e
 refine I.step (g':=s.gens) (d':=s.drawn) (ch:=[it]) (fun b hb=>?_) (fun b o _ _ hc e _=>k b o (fun z=>hc (by simp[z])) e) (fun b o _ _ hc e _=>⟨o.slots,k b o (fun z=>hc (by simp[z])) e⟩) (fun _ _ _ _ n=>n)
  (fun b o hc e=>⟨o,k b o (fun z=>hc (by simp[z])) e⟩) (fun _ _ e=>e) (fun _ _ _ e=>e) (fun b ps e=>⟨#[],by rw[e];simp⟩) (fun m hm=>?_) (fun b u e=>?_) I.bare
 ·have e:b=it:=by simpa using hb
  subst e
  exact⟨h1,hL,h2,h3⟩
 ·obtain⟨o,es,ep,ho,r⟩:=hm
  exact⟨o,es,ep,k _ o (Ne.symm hL) ho,r⟩
 ·refine(I.hok b u e).stay (fun c v hc q=>k c v ?_ q) (fun _ q=>q) fun _ _ q=>q
  rcases hc with z | z
  ·rw[z];exact nit b u e
  ·exact nit c _ z
theorem Inv.tok (I:Inv X pins σ H s) (t:Nat):Inv X pins σ H {s with toks:=t} :=I.un (h':=s.heap) (t':=t) Un.refl I.hok
theorem Inv.kept {t':Nat} (I:Inv X pins σ H s) (k:∀b u,s.heap.get? b=some u→h'.get? b=some u):Inv X pins σ H {s with heap:=h',toks:=t'} :=I.un (Un.kept k) (I.hok.kept k)
theorem Inv.laid {a:Addr} {o:HO} {t':Nat} (I:Inv X pins σ H s) (k:∀b u,s.heap.get? b=some u→h'.get? b=some u) (hp:s.heap.objs.size≤a) (new:ObjOk X.prog X.w (bQ H a o) h' a o):
  Inv X pins σ (bQ H a o) {s with heap:=h',toks:=t'} :=I.un (Un.laid k hp (I.hok.fresh hp)) (I.hok.laid k hp new)
theorem Inv.write {x e:Addr} {o:HO} {t':Nat} (I:Inv X pins σ H s) (mu:sY (H x)) (he:e=x∨H e=some (.own x)) (k:∀b u,b≠e→s.heap.get? b=some u→h'.get? b=some u) (heo:∃u,h'.get? e=some u)
  (new:ObjOk X.prog X.w (bQ H x o) h' x o):Inv X pins σ (bQ H x o) {s with heap:=h',toks:=t'} :=I.un (Un.write mu he k heo) (I.hok.write mu he k heo new)
theorem Inv.weak {σ':List (Option V)} (I:Inv X pins σ H s) (hl:σ'.length=σ.length) (w:∀(i:Nat) v,σ'[i]? =some (some v)→σ[i]? =some (some v)):Inv X pins σ' H s:=
 ⟨I.ok,I.os,I.bare,I.base,let ⟨m,hn,hl'⟩:=I.loc;⟨m,hn,fun i x v e1 e2 e3=>hl' i x v e1 (w i v e2) e3⟩,I.cell,I.free,I.freeC,I.pin,I.hok,hl.trans I.len⟩
theorem Inv.pins_of {pins':List (Addr×Obj)} (I:Inv X pins σ H s) (h:∀p∈pins',s.heap.get? p.1=some p.2∧H p.1=none∧p.1≠X.env.locals∧p.1∉X.fs∧∀v,p.2.data≠.cell v):Inv X pins' σ H s:=
 ⟨I.ok,I.os,I.bare,I.base,I.loc,I.cell,I.free,I.freeC,fun p hp=>(List.mem_append.mp hp).elim (fun z=>I.pin p (List.mem_append_left _ z)) (h p),I.hok,I.len⟩
theorem fW {N:List Str} (hN:N.Nodup) {i j:Nat} {x:Str} (a:N[i]? =some x) (b:N[j]? =some x):i=j:=by
 obtain⟨h1,e1⟩:=List.getElem?_eq_some_iff.mp a
 obtain⟨h2,e2⟩:=List.getElem?_eq_some_iff.mp b
 exact(List.getElem_inj hN).mp (e1.trans e2.symm)
theorem gR {M:Model} {A:Around} {E:Value→Shared→Prop} {i:Nat} {x:Str} {v:V} {u:Value} {Q:Unit→Shared→Prop} (I:Inv X pins σ H s) (hN:X.N.Nodup) (hi:X.N[i]? =some x) (hx:s9 X.env.scope x) (r:RelV v u)
  (h:∀s',Inv X pins (σ.set i (some v)) H s'→(∃a,Heap.SameBut a s.heap s'.heap∧(a=X.env.locals∨X.env.cells.lookup x=some a))→Q () s') (hf:X.fn x=true∨X.env.scope.names.lookup x=some .local:=by first | exact .inl rfl | exact .inr rfl | assumption):wpAny M A (storeName X.env x u) Q E s:=by
 obtain⟨m,hn,hl⟩:=id I.loc
 have hcls:(X.env.scope.kind == .class || (X.env.scope.kind == .module && X.env.locals != X.env.globals))=false:=by rw[I.ok.kind];rfl
 have hiσ:i< σ.length:=by rw[I.len];exact(List.getElem?_eq_some_iff.mp hi).1
 have cne:=I.cne
 have tracked:∀{a:Addr} {h':Heap},(∃o,s.heap.get? a=some o∧H a=none)→Heap.SameBut a s.heap h'→HOk X.prog X.w H h':=fun {a h'} ha hs b ob e=>by
  obtain⟨_,_,hfree⟩:=ha
  refine(I.hok b ob e).stay (fun c w' hc q=>(hs.2 c ?_).trans q) (fun _ q=>q) fun _ _ q=>q
  rintro rfl
  rcases hc with rfl | hc
  ·rw[hfree]at e;cases e
  ·rw[hfree]at hc;cases hc
 rcases hx with hk | hk
 ·refine wpAny_storeName_local hk hn (fun h' hn' hs=>?_) hcls
  obtain⟨oL,_,_,hoL,_⟩:=id hn
  refine h _ ⟨I.ok,I.os,I.bare,⟨fun b o e n hb hx=>?_,fun b o e n hb hx=>?_,I.base.free,fun b o e hx=>?_,I.base.tups,I.base.frzs,I.base.tbls⟩,⟨_,hn',fun j y v' e1 e2 e3=>?_⟩,fun y c e=>?_,I.free,I.freeC,fun p hp=>?_,tracked ⟨oL,hoL,I.free⟩ hs,by simpa using I.len⟩ ⟨_,hs,.inl rfl⟩
  ·exact(hs.2 b (Nat.ne_of_lt (Nat.lt_of_lt_of_le (Heap.lt_size e) I.ok.above))).trans (I.base.keep b o e n hb hx)
  ·obtain⟨sl,e1⟩:=I.base.slot b o e n hb hx
   exact⟨sl,(hs.2 b (Nat.ne_of_lt (Nat.lt_of_lt_of_le (Heap.lt_size e) I.ok.above))).trans e1⟩
  ·obtain⟨o',e1⟩:=I.base.there b o e hx
   exact⟨o',(hs.2 b (Nat.ne_of_lt (Nat.lt_of_lt_of_le (Heap.lt_size e) I.ok.above))).trans e1⟩
  ·by_cases hj:j=i
   ·subst hj
    rw[hi]at e1;cases e1
    rw[List.getElem?_set_self hiσ]at e2
    cases e2
    exact⟨u,r,.inl ⟨hk,by simp⟩⟩
   ·rw[List.getElem?_set_ne (Ne.symm hj)]at e2
    obtain⟨u',r',q⟩:=hl j y v' e1 e2 e3
    refine⟨u',r',?_⟩
    rcases q with⟨k,e⟩ | ⟨k,c,e,z⟩
    ·refine .inl ⟨k,?_⟩
     have:y≠x:=fun e=>hj (fW hN e1 (e▸hi))
     simp[this,e]
    ·exact .inr ⟨k,c,e,z.sameBut hs (cne y c e)⟩
  ·obtain⟨w',z⟩:=I.cell y c e
   exact⟨w',z.sameBut hs (cne y c e)⟩
  ·obtain⟨e,n,ne,nf,d⟩:=I.pin p hp
   exact⟨(hs.2 p.1 ne).trans e,n,ne,nf,d⟩
 ·have hfn:X.fn x=true:=by
   rcases hf with z | z
   ·exact z
   ·rw[z]at hk;cases hk
  obtain⟨c,hc⟩:=I.ok.has x (.inl hk)
  obtain⟨w',z⟩:=I.cell x c hc
  refine wpAny_storeName_cell I.ok.kind hk hc z (fun h' hc' hs=>?_)
  obtain⟨oc,hoc,hocd⟩:=id z
  refine h {s with heap:=h'} ⟨I.ok,I.os,I.bare,⟨fun b o e n hb hx=>?_,fun b o e n hb hx=>?_,I.base.free,fun b o e hx=>?_,I.base.tups,I.base.frzs,I.base.tbls⟩,⟨m,hn.sameBut hs (Ne.symm (cne x c hc)),fun j y v' e1 e2 e3=>?_⟩,fun y c' e=>?_,I.free,I.freeC,fun p hp=>?_,tracked ⟨oc,hoc,I.freeC x c hc⟩ hs,by simpa using I.len⟩ ⟨c,hs,.inr hc⟩
  ·exact(hs.2 b (Nat.ne_of_lt (Nat.lt_of_lt_of_le (Heap.lt_size e) (I.ok.cab x c hfn hc)))).trans (I.base.keep b o e n hb hx)
  ·obtain⟨sl,e1⟩:=I.base.slot b o e n hb hx
   exact⟨sl,(hs.2 b (Nat.ne_of_lt (Nat.lt_of_lt_of_le (Heap.lt_size e) (I.ok.cab x c hfn hc)))).trans e1⟩
  ·obtain⟨o',e1⟩:=I.base.there b o e hx
   exact⟨o',(hs.2 b (Nat.ne_of_lt (Nat.lt_of_lt_of_le (Heap.lt_size e) (I.ok.cab x c hfn hc)))).trans e1⟩
  ·by_cases hj:j=i
   ·subst hj
    rw[hi]at e1;cases e1
    rw[List.getElem?_set_self hiσ]at e2
    cases e2
    exact⟨u,r,.inr ⟨.inl hk,c,hc,hc'⟩⟩
   ·rw[List.getElem?_set_ne (Ne.symm hj)]at e2
    obtain⟨u',r',q⟩:=hl j y v' e1 e2 e3
    refine⟨u',r',?_⟩
    rcases q with q | ⟨k,c',e,z'⟩
    ·exact .inl q
    ·refine .inr ⟨k,c',e,z'.sameBut hs ?_⟩
     rintro rfl
     exact hj (fW hN e1 (I.ok.inj _ _ _ e hc▸hi))
  ·by_cases hcc:c'=c
   ·subst hcc;exact⟨_,hc'⟩
   ·obtain⟨w2,z2⟩:=I.cell y c' e
    exact⟨w2,z2.sameBut hs hcc⟩
  ·obtain⟨e,n,ne,nf,d⟩:=I.pin p hp
   refine⟨(hs.2 p.1 ?_).trans e,n,ne,nf,d⟩
   intro q
   rw[q,hoc]at e
   have q':oc=p.2:=Option.some.inj e
   exact d w' (by rw[←q'];exact hocd)
theorem fX {M:Model} {A:Around} {E:Value→Shared→Prop} {i:Nat} {x:Str} {v:V} {u:Value} {Q:Unit→Shared→Prop} (I:Inv X pins σ H s) (hN:X.N.Nodup) (hi:X.N[i]? =some x) (hx:s9 X.env.scope x) (r:RelV v u)
  (h:∀s',Inv X pins (σ.set i (some v)) H s'→Q () s') (hf:X.fn x=true∨X.env.scope.names.lookup x=some .local:=by first | exact .inl rfl | exact .inr rfl | assumption):wpAny M A (storeName X.env x u) Q E s:=
 gR I hN hi hx r (fun s' I' _=>h s' I') hf
theorem Inv.call' {s':Shared} {ch:List Addr} (I:Inv X pins σ H s) (ho:s'.os=s.os) (u:Un (frs X.stack) ch H H' s.heap s'.heap) (hok:HOk X.prog X.w H' s'.heap) (hg:AllBare s'.gens)
  (hch:∀b∈ch,(b∈X.ex∨X.s₀.heap.objs.size≤b)∧b≠X.env.locals∧(∀x c,X.env.cells.lookup x=some c→c≠b)∧∀p∈X.pn++pins,p.1≠b):Inv X pins σ H' s':=by
 obtain⟨h',g',d',t',o'⟩:=s'
 have e:o'=s.os:=ho
 subst e
 exact I.call (g':=g') (t':=t') (d':=d') u hok hg hch
end
abbrev XK:=Value→Option Addr→Hp→Prop
abbrev St:=List (Option V)
abbrev VK:=V→Hp→Prop
abbrev TE:=St→Hp→VK→Prop
abbrev TT:=St→Hp→(Bool→Hp→Prop)→Prop
abbrev TA:=St→Hp→(List V→Hp→Prop)→Prop
structure Ends where
 nx:St→Hp→Prop
 rt:VK
 bk:St→Hp→Prop:=fun _ _=>False
 ct:St→Hp→Prop:=fun _ _=>False
abbrev TS:=Ends→St→Hp→Prop
def EP (X:Cx) (pins:List (Addr×Obj)) (σ:St) (Q:VK) (u:Value) (s':Shared):Prop:=∃v H',Inv X pins σ H' s'∧RelV v u∧Q v H'
def TP (X:Cx) (pins:List (Addr×Obj)) (σ:St) (Q:Bool→Hp→Prop) (b:Bool) (s':Shared):Prop:=∃H',Inv X pins σ H' s'∧Q b H'
def AP (X:Cx) (pins:List (Addr×Obj)) (σ:St) (Q:List V→Hp→Prop) (us:List Value) (s':Shared):Prop:=∃vs H',Inv X pins σ H' s'∧Vals vs us∧Q vs H'
def SP (X:Cx) (pins:List (Addr×Obj)) (D:Ends) (f:Flow) (s':Shared):Prop:=
 match f with
 | .next=>∃σ' H',Inv X pins σ' H' s'∧D.nx σ' H'
 | .brk=>∃σ' H',Inv X pins σ' H' s'∧D.bk σ' H'
 | .cont=>∃σ' H',Inv X pins σ' H' s'∧D.ct σ' H'
 | .ret u=>∃v σ' H',Inv X pins σ' H' s'∧RelV v u∧D.rt v H'
def PE (X:Cx) (e:Expr) (t:TE):Prop:=
 ∀(pins:List (Addr×Obj)) (s:Shared) (σ:St) (H:Hp) (Q:VK),Inv X pins σ H s→t σ H Q→wpAny (model X.prog X.w) X.A (eval e X.env) (EP X pins σ Q) X.xe s
def PT (X:Cx) (e:Expr) (t:TT):Prop:=
 ∀(pins:List (Addr×Obj)) (s:Shared) (σ:St) (H:Hp) (Q:Bool→Hp→Prop),Inv X pins σ H s→t σ H Q→wpAny (model X.prog X.w) X.A (isTrue e X.env (eval e X.env)) (TP X pins σ Q) X.xe s
def PW (X:Cx) (e:Expr) (t:TT):Prop:=
 ∀(whole:Sem Value) (pins:List (Addr×Obj)) (s:Shared) (σ:St) (H:Hp) (Q:Bool→Hp→Prop),Inv X pins σ H s→t σ H Q→wpAny (model X.prog X.w) X.A (isTrue e X.env whole) (TP X pins σ Q) X.xe s
theorem PW.pt {X:Cx} {e:Expr} {t:TT} (h:PW X e t):PT X e t:=h _
def PA (X:Cx) (es:List Expr) (t:TA):Prop:=
 ∀(pos:Pos) (pins:List (Addr×Obj)) (s:Shared) (σ:St) (H:Hp) (Q:List V→Hp→Prop),Inv X pins σ H s→t σ H Q→wpAny (model X.prog X.w) X.A (spliced (backTo pos (starEach es X.env))) (AP X pins σ Q) X.xe s
def PS (X:Cx) (st:Stmt) (t:TS):Prop:=
 ∀(pins:List (Addr×Obj)) (s:Shared) (σ:St) (H:Hp) (D:Ends),Inv X pins σ H s→t D σ H→wpAny (model X.prog X.w) X.A (exec st X.env) (SP X pins D) X.xe s
def PSs (X:Cx) (st:List Stmt) (t:TS):Prop:=
 ∀(pins:List (Addr×Obj)) (s:Shared) (σ:St) (H:Hp) (D:Ends),Inv X pins σ H s→t D σ H→wpAny (model X.prog X.w) X.A (execs st X.env) (SP X pins D) X.xe s
theorem bv {α:Type} {t:Sem α} {Q Q':α→Shared→Prop} {M:Model} {A:Around} {E:Value→Shared→Prop} {s:Shared} (h:wpAny M A t Q E s) (hQ:∀a s,Q a s→Q' a s):wpAny M A t Q' E s:=wpAny_mono h hQ fun _ _ x=>x
end L2
namespace L2
open PySem PySem.Spec PyProof.Rows
section
variable {X:Cx}
def aZ (i:Nat):TE:=fun σ H Q=>∃v,σ[i]? =some (some v)∧Q v H
def tC (v:V):TE:=fun _ H Q=>Q v H
theorem qT {i:Nat} {x:Str} {pos:Pos} (hN:X.N[i]? =some x) (hv:Vis X.env.scope x) (hd:(x == ("__debug__" :Str))=false:=by decide) (hcd:(x == ("__classdict__" :Str))=false:=by decide):PE X (.Name x pos) (aZ i):=by
 intro pins s σ H Q I h
 obtain⟨v,e,h⟩:=h
 obtain⟨m,hn,hl⟩:=I.loc
 obtain⟨u,r,l⟩:=hl i x v hN e hv
 have fin:EP X pins σ Q u s:=⟨v,H,I,r,h⟩
 rcases l with⟨hk,hm⟩ | ⟨hk,c,hc,hcell⟩
 ·exact wpAny_Name (wpAny_loadName_local I.ok.kind hk hn hm fin) hd
 ·rcases hk with hk | hk
  ·exact wpAny_Name (wpAny_loadName_cell I.ok.kind hk hc hcell fin) hd
  ·exact wpAny_Name (wpAny_loadName_free I.ok.kind hk hc hcell fin hcd) hd
theorem ac {i j pos} :PE X (.Constant (.int i) j pos) (tC (.int i)):=fun _ _ _ H _ I h=>wpAny_Constant_int ⟨.int i,H,I.tok _,⟨_,rfl⟩,h⟩
theorem de {b j pos} :PE X (.Constant (.bool b) j pos) (tC (.bl b)):=fun _ _ _ H _ I h=>Constant_bool ⟨.bl b,H,I,rfl,h⟩
theorem qU {j pos} :PE X (.Constant .none j pos) (tC .non):=fun _ _ _ H _ I h=>Constant_none ⟨.non,H,I,rfl,h⟩
theorem aj {x j pos} :PE X (.Constant (.str x) j pos) (tC (.str x)):=fun _ _ _ H _ I h=>Calls.Constant_str ⟨.str x,H,I.tok _,⟨_,rfl⟩,h⟩
def Gl (X:Cx) (x:Str):Prop:=X.env.kindOf x=some .globalImplicit
theorem ed {E:Value→Shared→Prop} {pins:List (Addr×Obj)} {s:Shared} {σ:St} {H:Hp} {x:Str} {u:Value} {pos:Pos} {Q:Value→Shared→Prop} (I:Inv X pins σ H s) (hg:Gl X x) (hm:X.mg x=some u) (h:Q u s)
  (hd:(x == ("__debug__" :Str))=false:=by decide):wpAny (model X.prog X.w) X.A (eval (.Name x pos) X.env) Q E s:=
 Calls.Name_function_global I.ok.kind hg (Calls.loadGlobal_global (by rw[I.ok.glob];exact I.mod.glob.keeps I.bk) hm h) hd
theorem fY {E:Value→Shared→Prop} {pins:List (Addr×Obj)} {s:Shared} {σ:St} {H:Hp} {x:Str} {u:Value} {pos:Pos} {Q:Value→Shared→Prop} (I:Inv X pins σ H s) (hg:Gl X x) (hm:X.mg x=none) (hv:bootBuiltins x=some u) (h:Q u s)
  (hn:x≠"__name__" :=by decide) (hd:(x == ("__debug__" :Str))=false:=by decide):wpAny (model X.prog X.w) X.A (eval (.Name x pos) X.env) Q E s:=by
 obtain⟨mb,h1,h2⟩:=I.mod.blt
 exact Calls.Name_function_global I.ok.kind hg (Calls.loadGlobal_builtin (by rw[I.ok.glob];exact I.mod.glob.keeps I.bk) hm (by rw[I.ok.blt];exact h1.keeps I.bk) ((h2 x hn).trans hv) h) hd
theorem bd {x:Str} {v:V} {u:Value} {pos:Pos} (hg:Gl X x) (hm:X.mg x=some u) (r:RelV v u) (hd:(x == ("__debug__" :Str))=false:=by decide):PE X (.Name x pos) (tC v):=
 fun _ _ _ H _ I h=>ed I hg hm ⟨v,H,I,r,h⟩ hd
theorem cy {x:Str} {v:V} {u:Value} {pos:Pos} (hg:Gl X x) (hm:X.mg x=none) (hv:bootBuiltins x=some u) (r:RelV v u) (hn:x≠"__name__" :=by decide) (hd:(x == ("__debug__" :Str))=false:=by decide):PE X (.Name x pos) (tC v):=
 fun _ _ _ H _ I h=>fY I hg hm hv ⟨v,H,I,r,h⟩ hn hd
variable {a b:Expr} {ta tb:TE} {pos:Pos}
def tB (t:TE):TT:=fun σ H Q=>t σ H fun x H1=>∃c,x=.bl c∧Q c H1
theorem cw {e:Expr} {t:TE} (h:PE X e t) (he:∀whole,isTrue e X.env whole=(do let v ←whole;standAt e.pos;holding [v] (truthy v)):=by intro _;rfl):PT X e (tB t):=by
 intro pins s σ H Q I hw
 refine isTrue_plain (bv (h pins s σ H _ I hw) fun v s1 ⟨x,H1,I1,r1,q1⟩=>?_) (he _)
 obtain⟨d,rfl,q⟩:=q1
 cases r1
 exact wpAny_truthy_bool ⟨H1,I1,q⟩
variable {tA tB':TT} {rest:List Expr}
def bU (t u:TT):TT:=fun σ H Q=>t σ H fun c H1=>if c=true then u σ H1 Q else Q false H1
def dJ (t u:TT):TT:=fun σ H Q=>t σ H fun c H1=>if c=true then Q true H1 else u σ H1 Q
def bM (t:TT):TT:=fun σ H Q=>t σ H fun c H1=>Q (!c) H1
theorem eS (ha:PT X a tA):PW X (.BoolOp .And [a] pos) tA:=by
 intro wh pins s σ H Q I h
 refine isTrue_and (bv (ha pins s σ H Q I h) fun c s1 e=>?_)
 cases c with
 | true=>exact isTrue_and_nil e
 | false=>exact e
theorem fZ (ha:PT X a tA):PW X (.BoolOp .Or [a] pos) tA:=by
 intro wh pins s σ H Q I h
 refine isTrue_or (bv (ha pins s σ H Q I h) fun c s1 e=>?_)
 cases c with
 | false=>exact isTrue_or_nil e
 | true=>exact e
theorem fh (ha:PT X a tA) (hb:PW X (.BoolOp .And (b::rest) pos) tB'):PW X (.BoolOp .And (a::b::rest) pos) (bU tA tB'):=by
 intro wh pins s σ H Q I h
 refine isTrue_and (bv (ha pins s σ H _ I h) fun c s1 ⟨H1,I1,q1⟩=>?_)
 cases c with
 | true=>exact hb wh pins s1 σ H1 Q I1 q1
 | false=>exact⟨H1,I1,q1⟩
theorem fD (ha:PT X a tA) (hb:PW X (.BoolOp .Or (b::rest) pos) tB'):PW X (.BoolOp .Or (a::b::rest) pos) (dJ tA tB'):=by
 intro wh pins s σ H Q I h
 refine isTrue_or (bv (ha pins s σ H _ I h) fun c s1 ⟨H1,I1,q1⟩=>?_)
 cases c with
 | true=>exact⟨H1,I1,q1⟩
 | false=>exact hb wh pins s1 σ H1 Q I1 q1
theorem du (ha:PT X a tA):PT X (.UnaryOp .Not a pos) (bM tA):=by
 intro pins s σ H Q I h
 exact isTrue_not (ha pins s σ H (fun c H1=>Q (!c) H1) I h)
def bf (ta tb:TE):TE:=fun σ H Q=>ta σ H fun x H1=>∃c,x=.bl c∧if c=true then tb σ H1 Q else Q (.bl false) H1
def bV (ta tb:TE):TE:=fun σ H Q=>ta σ H fun x H1=>∃c,x=.bl c∧if c=true then Q (.bl true) H1 else tb σ H1 Q
def bg (ta:TE):TE:=fun σ H Q=>ta σ H fun x H1=>∃c,x=.bl c∧Q (.bl (!c)) H1
theorem dO {op} {t:TE} (h:PE X a t):PE X (.BoolOp op [a] pos) t:=fun pins s σ H Q I hw=>BoolOp_one (h pins s σ H Q I hw)
theorem dP (ha:PE X a ta) (hb:PE X (.BoolOp .And (b::rest) pos) tb):PE X (.BoolOp .And (a::b::rest) pos) (bf ta tb):=by
 intro pins s σ H Q I h
 refine BoolOp_and (bv (ha pins s σ H _ I h) fun v s1 ⟨x,H1,I1,r1,q1⟩=>?_)
 obtain⟨c,rfl,q1⟩:=q1
 cases r1
 refine wpAny_truthy_bool ?_
 cases c with
 | true=>exact hb pins s1 σ H1 Q I1 q1
 | false=>exact⟨.bl false,H1,I1,rfl,q1⟩
theorem qB (ha:PE X a ta) (hb:PE X (.BoolOp .Or (b::rest) pos) tb):PE X (.BoolOp .Or (a::b::rest) pos) (bV ta tb):=by
 intro pins s σ H Q I h
 refine BoolOp_or (bv (ha pins s σ H _ I h) fun v s1 ⟨x,H1,I1,r1,q1⟩=>?_)
 obtain⟨c,rfl,q1⟩:=q1
 cases r1
 refine wpAny_truthy_bool ?_
 cases c with
 | false=>exact hb pins s1 σ H1 Q I1 q1
 | true=>exact⟨.bl true,H1,I1,rfl,q1⟩
theorem jp (ha:PE X a ta):PE X (.UnaryOp .Not a pos) (bg ta):=by
 intro pins s σ H Q I h
 refine UnaryOp_ (bv (ha pins s σ H _ I h) fun v s1 ⟨x,H1,I1,r1,q1⟩=>?_)
 obtain⟨c,rfl,q1⟩:=q1
 cases r1
 exact not_of (wpAny_truthy_bool ⟨.bl (!c),H1,I1,rfl,q1⟩)
def dL (t:TT) (ta tb:TE):TE:=fun σ H Q=>t σ H fun c H1=>if c=true then ta σ H1 Q else tb σ H1 Q
theorem mD {c:Expr} (hc:PT X c tA) (ha:PE X a ta) (hb:PE X b tb):PE X (.IfExp c a b pos) (dL tA ta tb):=by
 intro pins s σ H Q I h
 refine wpAny_IfExp (bv (hc pins s σ H _ I h) fun d s1 ⟨H1,I1,q1⟩=>?_)
 cases d with
 | true=>exact ha pins s1 σ H1 Q I1 q1
 | false=>exact hb pins s1 σ H1 Q I1 q1
end
end L2
namespace L2
open PySem PySem.Spec PyProof.Rows
def SqL (K:PySem.W.Frag) (H:Hp) (a:Addr) (xs:List V):Prop:=
 Rd H a (.lst xs)∨
  ∃(o:Obj) (its:Array Value) (n:Nat),K.lookup a=some o∧o.cls=.type "list" ∧o.dict=none∧o.data=.seq its n∧its.size≤sizeLine∧Vals xs its.toList
def SqT (K:PySem.W.Frag) (H:Hp) (a:Addr) (xs:List V):Prop:=
 Rd H a (.tup xs)∨
  ∃(o:Obj) (its:Array Value) (n:Nat),K.lookup a=some o∧(o.cls=.type "tuple" ∧o.dict=none)∧o.data=.seq its n∧its.size≤sizeLine∧Vals xs its.toList
def tz:Value→Option V
 | .none=>some .non
 | .bool b=>some (.bl b)
 | .int i _=>some (.int i)
 | .str x _=>some (.str x)
 | .bytes b _=>some (.byt b)
 | .float b _=>some (.flt b)
 | .ref a=>some (.ref a)
 | .type n=>some (.ty n)
 | _=>none
theorem RelV.abs {x:V} {u:Value} (r:RelV x u):tz u=some x:=by
 cases x with
 | non=>cases r;rfl
 | bl _=>cases r;rfl
 | int _=>obtain⟨t,rfl⟩:=r;rfl
 | str _=>obtain⟨t,rfl⟩:=r;rfl
 | byt _=>obtain⟨t,rfl⟩:=r;rfl
 | flt _=>obtain⟨t,rfl⟩:=r;rfl
 | ref _=>cases r;rfl
 | ty _=>cases r;rfl
theorem RelV.inj {x y:V} {u:Value} (r:RelV x u) (q:RelV y u):x=y:=Option.some.inj (r.abs.symm.trans q.abs)
theorem Vals.inj:∀{xs ys:List V} {us:List Value},Vals xs us→Vals ys us→xs=ys
 | _,_,_,.nil,.nil=>rfl
 | _,_,_,.cons r t,.cons r' t'=>by rw[r.inj r',Vals.inj t t']
section
variable {X:Cx} {pins:List (Addr×Obj)} {σ:St} {H:Hp} {s:Shared} {a:Addr} {xs ys:List V}
theorem SqL.of {K:PySem.W.Frag} (h:H a=some (.lst xs)):SqL K H a xs:=.inl (.inl h)
theorem SqT.of {K:PySem.W.Frag} (h:H a=some (.tup xs)):SqT K H a xs:=.inl (.inl h)
theorem Inv.list (I:Inv X pins σ H s) (h:SqL X.K H a xs):∃its:List Value,Vals xs its∧PlainL s.heap a its.toArray∧xs.length≤sizeLine:=by
 rcases h with h | ⟨o,its,n,hk,hc,hd,hs,hz,r⟩
 ·obtain⟨z,its,n,r,e⟩:=h.ok I.hok
  exact⟨its,r,⟨_,n,e,rfl,rfl,rfl⟩,z⟩
 ·refine⟨its.toList,r,⟨o,n,I.kIn a o hk,hc,hd,by simpa using hs⟩,?_⟩
  have e:=r.length
  simp only[Array.length_toList]at e
  omega
theorem Inv.tuple (I:Inv X pins σ H s) (h:SqT X.K H a xs):∃its:List Value,Vals xs its∧IsTup s.heap a its.toArray∧xs.length≤sizeLine:=by
 rcases h with h | ⟨o,its,n,hk,hc,hs,hz,r⟩
 ·obtain⟨z,its,r,p⟩:=h.ok I.hok
  exact⟨its,r,p.tup,z⟩
 ·refine⟨its.toList,r,⟨o,I.kIn a o hk,hc.1,n,by simpa using hs⟩,?_⟩
  have e:=r.length
  simp only[Array.length_toList]at e
  omega
theorem Inv.list_inj (I:Inv X pins σ H s) (h:SqL X.K H a xs) (h':SqL X.K H a ys):xs=ys:=by
 obtain⟨its,r,⟨o,n,e,_,_,d⟩,_⟩:=I.list h
 obtain⟨its',r',⟨o',n',e',_,_,d'⟩,_⟩:=I.list h'
 rw[e]at e';cases e'
 rw[d]at d'
 injection d' with d1 _
 have:its=its':=by simpa using congrArg Array.toList d1
 subst this
 exact r.inj r'
theorem Inv.tuple_inj (I:Inv X pins σ H s) (h:SqT X.K H a xs) (h':SqT X.K H a ys):xs=ys:=by
 obtain⟨its,r,⟨o,e,_,n,d⟩,_⟩:=I.tuple h
 obtain⟨its',r',⟨o',e',_,n',d'⟩,_⟩:=I.tuple h'
 rw[e]at e';cases e'
 rw[d]at d'
 injection d' with d1 _
 have:its=its':=by simpa using congrArg Array.toList d1
 subst this
 exact r.inj r'
end
abbrev Cx.wish (X:Cx) (E:Value→Shared→Prop):Cx:={X with xe:=E}
abbrev Cx.nox (X:Cx):Cx:=X.wish fun _ _=>False
theorem Cx.Ok.wish {X:Cx} (ok:X.Ok) (E:Value→Shared→Prop):(X.wish E).Ok:=
 ⟨ok.mod,ok.kind,ok.glob,ok.blt,ok.above,ok.inj,ok.has,ok.cab,ok.hd,ok.frames,ok.stk,ok.exf,ok.bs,ok.bsz,ok.noex,ok.exfs,ok.funs,ok.frf⟩
theorem Cx.Ok.unwish {X:Cx} {E:Value→Shared→Prop} (ok:(X.wish E).Ok):X.Ok:=
 ⟨ok.mod,ok.kind,ok.glob,ok.blt,ok.above,ok.inj,ok.has,ok.cab,ok.hd,ok.frames,ok.stk,ok.exf,ok.bs,ok.bsz,ok.noex,ok.exfs,ok.funs,ok.frf⟩
section
variable {X:Cx} {pins:List (Addr×Obj)} {σ:St} {H:Hp} {s:Shared} {E:Value→Shared→Prop}
theorem Inv.wish (I:Inv X pins σ H s) (E:Value→Shared→Prop):Inv (X.wish E) pins σ H s:=⟨I.ok.wish E,I.os,I.bare,I.base,I.loc,I.cell,I.free,I.freeC,I.pin,I.hok,I.len⟩
theorem Inv.unwish (I:Inv (X.wish E) pins σ H s):Inv X pins σ H s:=⟨I.ok.unwish,I.os,I.bare,I.base,I.loc,I.cell,I.free,I.freeC,I.pin,I.hok,I.len⟩
theorem SP.unwish {D:Ends} {f:Flow} {s':Shared} (h:SP (X.wish E) pins D f s'):SP X pins D f s':=by
 cases f with
 | next=>obtain⟨σ',H',I,q⟩:=h;exact⟨σ',H',I.unwish,q⟩
 | brk=>obtain⟨σ',H',I,q⟩:=h;exact⟨σ',H',I.unwish,q⟩
 | cont=>obtain⟨σ',H',I,q⟩:=h;exact⟨σ',H',I.unwish,q⟩
 | ret u=>obtain⟨v,σ',H',I,r,q⟩:=h;exact⟨v,σ',H',I.unwish,r,q⟩
theorem PSs.nox {st:List Stmt} {t:TS} (h:PSs X.nox st t):PSs X st t:=fun pins s σ H D I hw=>
 wpAny_mono (h pins s σ H D (I.wish _) hw) (fun _ _ q=>q.unwish) fun _ _ z=>False.elim z
end
section
variable {X:Cx} {st:Stmt} {rest:List Stmt} {t u:TS} {e:Expr} {te:TE} {pos:Pos}
def aE:TS:=fun D σ H=>D.nx σ H
def cZ (t u:TS):TS:=fun D σ H=>t {D with nx:=u D} σ H
theorem aR:PSs X [] aE:=fun _ _ σ H _ I h=>wpAny_execs_nil ⟨σ,H,I,h⟩
theorem ad (h1:PS X st t) (h2:PSs X rest u):PSs X (st::rest) (cZ t u):=by
 intro pins s σ H D I h
 refine wpAny_execs_cons (bv (h1 pins s σ H {D with nx:=u D} I h) fun f s1 q=>?_)
 cases f with
 | next =>
  obtain⟨σ',H',I',q⟩:=q
  exact h2 pins s1 σ' H' D I' q
 | ret v=>exact q
 | brk=>exact q
 | cont=>exact q
theorem ai (h1:PS X st t):PSs X [st] t:=by
 intro pins s σ H D I h
 refine wpAny_execs_cons (bv (h1 pins s σ H D I h) fun f s1 q=>?_)
 cases f with
 | next=>exact wpAny_execs_nil q
 | ret v=>exact q
 | brk=>exact q
 | cont=>exact q
theorem Inv.quiet {pins:List (Addr×Obj)} {σ:St} {H:Hp} {s:Shared} (I:Inv X pins σ H s):interactive X.env=false:=by simp[interactive,I.ok.kind]
def aT (te:TE):TS:=fun D σ H=>te σ H fun _ H1=>D.nx σ H1
theorem dv (he:PE X e te) (hs:swapsWith e none pos.line X.env=pure false:=by rfl):PS X (.Expr e pos) (aT te):=by
 intro pins s σ H D I h
 exact wpAny_Expr_any (bv (he pins s σ H _ I h) fun v s1 ⟨x,H1,I1,r1,q1⟩=>⟨σ,H1,I1,q1⟩) I.quiet hs
def bC (te:TE):TS:=fun D σ H=>te σ H D.rt
theorem aU (he:PE X e te):PS X (.Return (some e) pos) (bC te):=by
 intro pins s σ H D I h
 exact wpAny_Return_some (bv (he pins s σ H _ I h) fun v s1 ⟨x,H1,I1,r1,q1⟩=>⟨x,σ,H1,I1,r1,q1⟩)
def eT (c:TT) (t u:TS):TS:=fun D σ H=>c σ H fun b H1=>if b=true then t D σ H1 else u D σ H1
theorem bt {c:Expr} {a b:List Stmt} {tc:TT} (hc:PT X c tc) (ha:PSs X a t) (hb:PSs X b u):PS X (.If c a b pos) (eT tc t u):=by
 intro pins s σ H D I h
 refine wpAny_If (bv (hc pins s σ H _ I h) fun d s1 ⟨H1,I1,q1⟩=>?_)
 cases d with
 | true=>exact ha pins s1 σ H1 D I1 q1
 | false=>exact hb pins s1 σ H1 D I1 q1
end
abbrev TG:=V→St→Hp→(St→Hp→Prop)→Prop
abbrev p9:=List V→St→Hp→(St→Hp→Prop)→Prop
def PG (X:Cx) (target:Expr) (t:TG):Prop:=
 ∀ (pins : List (Addr × Obj)) (s : Shared) (σ : St) (H : Hp) (v : V) (u : Value) (Q : St → Hp → Prop), Inv X pins σ H s → RelV v u → t v σ H Q →
  wpAny (model X.prog X.w) X.A (assign target X.env u) (fun _ s'=>∃σ' H',Inv X pins σ' H' s'∧Q σ' H') X.xe s
def rP (X:Cx) (ts:List Expr) (t:p9):Prop:=
 ∀ (pins : List (Addr × Obj)) (s : Shared) (σ : St) (H : Hp) (vs : List V) (us : List Value) (Q : St → Hp → Prop), Inv X pins σ H s → Vals vs us → t vs σ H Q →
  wpAny (model X.prog X.w) X.A (assignInOrder ((assignEach ts X.env).map (·.2)) us) (fun _ s'=>∃σ' H',Inv X pins σ' H' s'∧Q σ' H') X.xe s
abbrev qV:=V→V→V→Hp→(Hp→Prop)→Prop
def se (X:Cx) (t:qV):Prop:=
 ∀ (pins : List (Addr × Obj)) (s : Shared) (σ : St) (H : Hp) (o i v : V) (ov iv u : Value) (Q : Hp → Prop), Inv X pins σ H s → RelV o ov → RelV i iv → RelV v u → t o i v H Q →
  wpAny (model X.prog X.w) X.A (setItem ov iv u) (fun _ s'=>∃H',Inv X pins σ H' s'∧Q H') X.xe s
section
variable {X:Cx} {pos:Pos}
def aQ (i:Nat):TG:=fun v σ H Q=>Q (σ.set i (some v)) H
theorem b6 {i:Nat} {x:Str} (hN:X.N.Nodup) (hi:X.N[i]? =some x) (hx:s9 X.env.scope x) (hf:X.fn x=true∨X.env.scope.names.lookup x=some .local:=by first | exact .inl rfl | exact .inr rfl | assumption):PG X (.Name x pos) (aQ i):=by
 intro pins s σ H v u Q I r h
 exact wpAny_assign_Name (fX I hN hi hx r (fun s' I'=>⟨_,H,I',h⟩) hf)
def bW:p9:=fun vs σ H Q=>vs=[]∧Q σ H
def bc (t:TG) (u:p9):p9:=fun vs σ H Q=>∃v r,vs=v::r∧t v σ H fun σ' H'=>u r σ' H' Q
theorem km:rP X [] bW:=by
 intro pins s σ H vs us Q I r h
 obtain⟨e,h⟩:=h
 subst e
 cases r
 exact assignInOrder_nil ⟨σ,H,I,h⟩
theorem eU {e:Expr} {es:List Expr} {t:TG} {u:p9} (h1:PG X e t) (h2:rP X es u)
  (hs:(assignEach (e::es) X.env).map (·.2)=assign e X.env::(assignEach es X.env).map (·.2):=by rfl):rP X (e::es) (bc t u):=by
 intro pins s σ H vs us Q I r h
 obtain⟨v,vr,e1,h⟩:=h
 subst e1
 cases r with
 | cons r rr =>
  rw[hs]
  refine assignInOrder_cons (bv (h1 pins s σ H _ _ _ I r h) fun _ s1 ⟨σ1,H1,I1,q1⟩=>?_)
  exact h2 pins s1 σ1 H1 _ _ Q I1 rr q1
def bN (K:PySem.W.Frag) (n:Nat) (t:p9):TG:=fun v σ H Q=>∃a xs,v=.ref a∧SqT K H a xs∧xs.length=n∧t xs σ H Q
theorem qW {es:List Expr} {k:Nat} {t:p9} {n:Nat} (hc:X.calm=true) (h:rP X es t)
  (hn:(assignEach es X.env).length=n:=by rfl) (hst:(assignEach es X.env).findIdx? (·.1)=none:=by rfl):PG X (.Tuple es k pos) (bN X.K n t):=by
 intro pins s σ H v u Q I r hw
 obtain⟨a,xs,e1,hq,hl,hw⟩:=hw
 subst e1
 cases r
 obtain⟨its,rv,ht,hz⟩:=I.tuple hq
 refine assign_Tuple_tuple (I.ok.hd hc) ht (by simp[hn,←hl,rv.length]) hst fun h' hx=>?_
 have I1:Inv X pins σ H {s with heap:=h'} :=I.kept (t':=s.toks) fun b o e=>hx b o (Nat.ne_of_lt (Heap.lt_size e)) e
 exact h pins _ σ H xs _ Q I1 (by simpa using rv) hw
def mE (to ti:TE) (t:qV):TG:=fun v σ H Q=>to σ H fun o H1=>ti σ H1 fun i H2=>t o i v H2 fun H3=>Q σ H3
theorem ij {o i:Expr} {to ti:TE} {t:qV} (ho:PE X o to) (hi:PE X i ti) (hs:se X t)
  (ha:∀v,assign (.Subscript o i pos) X.env v=(do
   let ov ←holding [v] (eval o X.env)
   let iv ←holding [v,ov] (eval i X.env)
   standAt pos
   holding [v,ov,iv] (setItem ov iv v)
   release [v,ov,iv] []):=by intro _;rfl):PG X (.Subscript o i pos) (mE to ti t):=by
 intro pins s σ H v u Q I r h
 rw[ha]
 refine wpAny_bind (wpAny_holding (bv (ho pins s σ H _ I h) fun ov s1 ⟨x,H1,I1,r1,q1⟩=>?_))
 refine wpAny_bind (wpAny_holding (bv (hi pins s1 σ H1 _ I1 q1) fun iv s2 ⟨y,H2,I2,r2,q2⟩=>?_))
 refine wpAny_bind (wpAny_standAt (wpAny_bind (wpAny_holding (bv (hs pins s2 σ H2 x y v ov iv u _ I2 r1 r2 r q2) fun _ s3 ⟨H3,I3,q3⟩=>?_))))
 exact wpAny_release ⟨σ,H3,I3,q3⟩
def bn (te:TE) (g:TG):TS:=fun D σ H=>te σ H fun x H1=>g x σ H1 D.nx
theorem ik {tg e:Expr} {te:TE} {g:TG} (he:PE X e te) (hg:PG X tg g) (hs:swapsWithSole [tg] e pos.line X.env=pure false:=by rfl) (hw:swappedStores [tg] e X.env=pure none:=by rfl)
  (h1:(assignEach [tg] X.env).map (·.2)=[assign tg X.env]:=by rfl):PS X (.Assign [tg] e pos) (bn te g):=by
 intro pins s σ H D I h
 refine wpAny_Assign_stores (bv (he pins s σ H _ I h) fun v s1 ⟨x,H1,I1,r1,q1⟩=>?_) hs hw
 rw[h1]
 exact bv (hg pins s1 σ H1 x v _ I1 r1 q1) fun _ s2 q=>q
theorem aG {i:Nat} {x:Str} {e:Expr} {te:TE} {pos':Pos} (hN:X.N.Nodup) (hi:X.N[i]? =some x) (hx:s9 X.env.scope x) (he:PE X e te) (hs:swapsWith e (some (.Name x pos')) pos.line X.env=pure false:=by rfl) (hf:X.fn x=true∨X.env.scope.names.lookup x=some .local:=by first | exact .inl rfl | exact .inr rfl | assumption):
  PS X (.Assign [.Name x pos'] e pos) (bn te (aQ i)):=by
 intro pins s σ H D I h
 refine wpAny_Assign_Name (bv (he pins s σ H _ I h) fun v s1 ⟨y,H1,I1,r1,q1⟩=>?_) hs
 exact fX I1 hN hi hx r1 (fun s2 I2=>⟨_,H1,I2,q1⟩) hf
end
structure It where
 go:Nat→Hp→Prop
 yld:Nat→Hp→V→Hp→Prop
 stop:Nat→Hp→Prop
def FpOk (X:Cx) (pins:List (Addr×Obj)) (H:Hp) (b:Addr):Prop:=
 H b=none∧b≠X.env.locals∧b∉X.fs∧(b∈X.ex∨X.s₀.heap.objs.size≤b)∧(∀x c,X.env.cells.lookup x=some c→c≠b)∧∀p∈X.pn++pins,p.1≠b
theorem Inv.fpOk {X:Cx} {pins:List (Addr×Obj)} {σ:St} {H H':Hp} {s:Shared} {b:Addr} (I:Inv X pins σ H s) (hb:s.heap.objs.size≤b) (hn:H' b=none):FpOk X pins H' b:=by
 refine⟨hn,Nat.ne_of_gt (Nat.lt_of_lt_of_le I.lt hb),I.nofs hb,.inr (Nat.le_trans I.sz hb),fun x c e z=>?_,fun p hp z=>?_⟩
 ·obtain⟨v,q⟩:=I.cell x c e
  exact absurd (Nat.lt_of_lt_of_le q.lt (by rw[z];exact hb)) (Nat.lt_irrefl _)
 ·exact absurd (Nat.lt_of_lt_of_le (Heap.lt_size (I.pin p hp).1) (by rw[z];exact hb)) (Nat.lt_irrefl _)
structure Turn (P:Program) (w:World) (K:PySem.W.Frag) (tg:Expr) (J:It) (fp:List Addr) (it:Addr) (tn:Nat→Heap→Prop):Prop where
 mem:it∈fp
 obj:∀i h,tn i h→∀b∈fp,∃o,h.get? b=some o∧∀v,o.data≠.cell v
 keep:∀i h h',tn i h→(∀b∈fp,∀o,h.get? b=some o→h'.get? b=some o)→tn i h'
 item:∀(X:Cx),X.prog=P→X.w=w→X.K=K→X.calm=true→∀(i:Nat) (pins:List (Addr×Obj)) (s:Shared) (σ:St) (H:Hp) (E:Value→Shared→Prop),Inv X pins σ H s→(∀b∈fp,FpOk X pins H b)→tn i s.heap→J.go i H→
  wpAny (model P w) X.A (pyNext (.ref it)) (fun r s1=>∃u,r=some u∧
   wpAny (model P w) X.A (letOwnedTupleGo tg (.ref it) u) (fun _ s2=>∃x H',Inv X pins σ H' s2∧RelV x u∧J.yld i H x H'∧tn (i+1) s2.heap∧∀b∈fp,H' b=none) E s1) E s
 done:∀(X:Cx),X.prog=P→X.w=w→X.K=K→X.calm=true→∀(i:Nat) (pins:List (Addr×Obj)) (s:Shared) (σ:St) (H:Hp) (E:Value→Shared→Prop),Inv X pins σ H s→(∀b∈fp,FpOk X pins H b)→tn i s.heap→J.stop i H→
  wpAny (model P w) X.A (pyNext (.ref it)) (fun r s1=>r=none∧Inv X pins σ H s1) E s
 self:∀(A:Around) (i:Nat) (s:Shared) (Q:Value→Shared→Prop) (E:Value→Shared→Prop),tn i s.heap→Q (.ref it) s→wpAny (model P w) A (pyIter (.ref it)) Q E s
abbrev TI:=St→Hp→(It→Hp→Prop)→Prop
def tM (X:Cx) (pins:List (Addr×Obj)) (σ:St) (tg:Expr) (R:It→Hp→Prop) (itv:Value) (s2:Shared):Prop:=
 ∃(it:Addr) (fp:List Addr) (tn:Nat→Heap→Prop) (J:It) (H':Hp),itv=.ref it∧Inv X pins σ H' s2∧Turn X.prog X.w X.K tg J fp it tn∧tn 0 s2.heap∧(∀b∈fp,FpOk X pins H' b)∧R J H'
def PI (X:Cx) (tg iter:Expr) (wi:TI):Prop:=
 ∀ (pins : List (Addr × Obj)) (s : Shared) (σ : St) (H : Hp) (R : It → Hp → Prop), Inv X pins σ H s → wi σ H R →
  wpAny (model X.prog X.w) X.A (eval iter X.env) (fun v s1=>wpAny (model X.prog X.w) X.A (pyIter v) (tM X pins σ tg R) X.xe s1) X.xe s
theorem kt {M:Model} {A:Around} {E:Value→Shared→Prop} {s:Shared} {tg:Expr} {it:Addr} {u:Value} {o:Obj} {n:String} {vs:Array Value} {Q:Unit→Shared→Prop} (ho:s.heap.get? it=some o) (hc:o.cls=.type n) (hd:o.data=.fields vs)
    (hn: ["enumerate","zip","dict_itemiterator","dict_reverseitemiterator","odict_iterator","itertools.zip_longest","itertools.pairwise"].contains n=false) (hQ:Q () s):wpAny M A (letOwnedTupleGo tg (.ref it) u) Q E s:=by
  unfold letOwnedTupleGo
  cases tg <;> first
    | exact wpAny_pure hQ
    | (cases u <;> first
        | exact wpAny_pure hQ
        | (refine wpAny_bind (wpAny_load ho ?_)
           rw[hc,hd]
           show wpAny M A (if(["enumerate","zip","dict_itemiterator","dict_reverseitemiterator","odict_iterator","itertools.zip_longest","itertools.pairwise"].contains n && vs[0]? == some (rawInt _))=true then _ else _) Q E s
           rw[if_neg (by intro h;rw[hn,Bool.false_and]at h;cases h)]
           exact wpAny_pure hQ))
def tD (K:PySem.W.Frag) (a:Addr):It:=
 ⟨fun i H=>∃xs x,SqL K H a xs∧xs[i]? =some x,fun i H x H'=>H'=H∧∀xs,SqL K H a xs→xs[i]? =some x,fun i H=>∃xs,SqL K H a xs∧xs.length≤i⟩
def tN (K:PySem.W.Frag) (a:Addr):It:=
 ⟨fun i H=>∃xs x,SqT K H a xs∧xs[i]? =some x,fun i H x H'=>H'=H∧∀xs,SqT K H a xs→xs[i]? =some x,fun i H=>∃xs,SqT K H a xs∧xs.length≤i⟩
def tE (lo:Int) (n:Nat):It:=⟨fun i _=>i< n,fun i H x H'=>H'=H∧x=.int (lo+i),fun i _=>n≤i⟩
theorem ee {P:Program} {w:World} {K:PySem.W.Frag} {tg:Expr} (a it:Addr):Turn P w K tg (tD K a) [it] it (fun i h=>h.IsListIter it a i) where
 mem:=by simp
 obj:=fun i h st b hb=>by
  have e:b=it:=by simpa using hb
  subst e
  obtain⟨o,e,c,d⟩:=st
  exact⟨o,e,fun v z=>by rw[d]at z;cases z⟩
 keep:=fun i h h' st k=>st.at fun o e=>k it (by simp) o e
 item:=by
  intro X hP hw hK hc i pins s σ H E I hf st hg
  subst hP hw hK
  obtain⟨xs,x,hq,hx⟩:=hg
  obtain⟨its,rv,p,hz⟩:=I.list hq
  obtain⟨u,hu,ru⟩:=rv.get hx
  obtain⟨f0,f1,f2,f3,f4,f5⟩:=hf it (by simp)
  refine wpAny_pyNext_list_item st p.isList (x:=u) (by simpa using hu) fun h' st' sb=>?_
  have I1:Inv X pins σ H {s with heap:=h'} :=I.turned (t':=s.toks) (fun b o hb e=>(sb.2 b hb).trans e) f0 f1 f3 f4 f5
  obtain⟨o,e,c,d⟩:=id st'
  exact⟨u,rfl,kt (s:={s with heap:=h'}) e c d (by decide) ⟨x,H,I1,ru,⟨rfl,fun ys hy=>by rw[I.list_inj hy hq];exact hx⟩,st',fun b hb=>(hf b hb).1⟩⟩
 done:=by
  intro X hP hw hK hc i pins s σ H E I hf st hg
  subst hP hw hK
  obtain⟨xs,hq,hx⟩:=hg
  obtain⟨its,rv,p,hz⟩:=I.list hq
  obtain⟨f0,f1,f2,f3,f4,f5⟩:=hf it (by simp)
  have hl:=rv.length
  exact wpAny_pyNext_list_end (I.ok.hd hc) st p.isList (by simp;omega) fun h' eb=>⟨rfl,I.turned (t':=s.toks) (fun b o hb e=>eb b o hb e) f0 f1 f3 f4 f5⟩
 self:=fun _ _ _ _ _ st h=>wpAny_pyIter_listiter st h
theorem jq {P:Program} {w:World} {K:PySem.W.Frag} {tg:Expr} (a it:Addr):Turn P w K tg (tN K a) [it] it (fun i h=>h.IsTupleIter it a i) where
 mem:=by simp
 obj:=fun i h st b hb=>by
  have e:b=it:=by simpa using hb
  subst e
  obtain⟨o,e,c,d⟩:=st
  exact⟨o,e,fun v z=>by rw[d]at z;cases z⟩
 keep:=fun i h h' st k=>st.at fun o e=>k it (by simp) o e
 item:=by
  intro X hP hw hK hc i pins s σ H E I hf st hg
  subst hP hw hK
  obtain⟨xs,x,hq,hx⟩:=hg
  obtain⟨its,rv,p,hz⟩:=I.tuple hq
  obtain⟨u,hu,ru⟩:=rv.get hx
  obtain⟨f0,f1,f2,f3,f4,f5⟩:=hf it (by simp)
  refine wpAny_pyNext_tuple_item st (show s.heap.IsTuple a its.toArray from p) (x:=u) (by simpa using hu) fun h' st' sb=>?_
  have I1:Inv X pins σ H {s with heap:=h'} :=I.turned (t':=s.toks) (fun b o hb e=>(sb.2 b hb).trans e) f0 f1 f3 f4 f5
  obtain⟨o,e,c,d⟩:=id st'
  exact⟨u,rfl,kt (s:={s with heap:=h'}) e c d (by decide) ⟨x,H,I1,ru,⟨rfl,fun ys hy=>by rw[I.tuple_inj hy hq];exact hx⟩,st',fun b hb=>(hf b hb).1⟩⟩
 done:=by
  intro X hP hw hK hc i pins s σ H E I hf st hg
  subst hP hw hK
  obtain⟨xs,hq,hx⟩:=hg
  obtain⟨its,rv,p,hz⟩:=I.tuple hq
  obtain⟨f0,f1,f2,f3,f4,f5⟩:=hf it (by simp)
  have hl:=rv.length
  exact wpAny_pyNext_tuple_end (I.ok.hd hc) st (show s.heap.IsTuple a its.toArray from p) (by simp;omega) fun h' eb=>⟨rfl,I.turned (t':=s.toks) (fun b o hb e=>eb b o hb e) f0 f1 f3 f4 f5⟩
 self:=fun _ _ _ _ _ st h=>wpAny_pyIter_tupleiter st h
theorem jr {P:Program} {w:World} {K:PySem.W.Frag} {tg:Expr} (it:Addr) (lo:Int) (n:Nat):Turn P w K tg (tE lo n) [it] it (fun i h=>IsRangeIter h it (lo+(i:Nat)*1) ((n:Int)- (i:Nat)) 1) where
 mem:=by simp
 obj:=fun i h st b hb=>by
  have e:b=it:=by simpa using hb
  subst e
  exact⟨_,st,fun v z=>by
   have z':Data.fields _=Data.cell v:=z
   cases z'⟩
 keep:=fun i h h' st k=>k it (by simp) _ st
 item:=by
  intro X hP hw hK hc i pins s σ H E I hf st hg
  subst hP hw hK
  obtain⟨f0,f1,f2,f3,f4,f5⟩:=hf it (by simp)
  have W:=Walks.range (prog:=X.prog) (w:=X.w) (I.ok.hd hc) it lo 1 n
  refine W.item i s _ _ hg st fun v h' tk hv st' kk=>?_
  obtain⟨t,rfl⟩:=hv
  have I1:Inv X pins σ H {s with heap:=h',toks:=tk} :=I.turned (fun b o hb e=>kk b o (by simpa using hb) e) f0 f1 f3 f4 f5
  refine⟨_,rfl,kt (s:={s with heap:=h',toks:=tk}) (n:="range_iterator") st' rfl rfl (by decide) ⟨.int (lo+i),H,I1,⟨t,?_⟩,⟨rfl,rfl⟩,st',fun b hb=>(hf b hb).1⟩⟩
  rw[Int.mul_one]
 done:=by
  intro X hP hw hK hc i pins s σ H E I hf st hg
  subst hP hw hK
  obtain⟨f0,f1,f2,f3,f4,f5⟩:=hf it (by simp)
  exact wpAny_pyNext_range_end (I.ok.hd hc) st (by have:n≤i:=hg;omega) fun h' eb=>⟨rfl,I.turned (t':=s.toks) (fun b o hb e=>eb b o hb e) f0 f1 f3 f4 f5⟩
 self:=fun _ _ _ _ _ st h=>wpAny_pyIter_rangeiter st h
end L2
namespace L2
open PySem PySem.Spec PyProof.Rows
section
variable {X:Cx} {tg:Expr}
def g6 (K:PySem.W.Frag) (tl:TE):TI:=fun σ H R=>tl σ H fun x H1=>∃a,x=.ref a∧(∃xs,SqL K H1 a xs)∧R (tD K a) H1
def qX (K:PySem.W.Frag) (tl:TE):TI:=fun σ H R=>tl σ H fun x H1=>∃a,x=.ref a∧(∃xs,SqT K H1 a xs)∧R (tN K a) H1
theorem pc {l:Expr} {tl:TE} (hl:PE X l tl):PI X tg l (g6 X.K tl):=by
 intro pins s σ H R I h
 refine bv (hl pins s σ H _ I h) fun v s1 ⟨x,H1,I1,r1,q1⟩=>?_
 obtain⟨a,e,⟨xs,hq⟩,q⟩:=q1
 subst e
 cases r1
 obtain⟨its,rv,p,hz⟩:=I1.list hq
 refine wpAny_pyIter_list p.isList ?_
 refine⟨s1.heap.objs.size,[s1.heap.objs.size],_,_,H1,rfl,I1.kept (t':=s1.toks) fun b o e=>Heap.get?_push_of_some _ e,ee a _,⟨_,Heap.get?_push_size _ rfl,rfl,rfl⟩,fun b hb=>?_,q⟩
 have e:b=s1.heap.objs.size:=by simpa using hb
 subst e
 exact I1.fpOk (Nat.le_refl _) (I1.hok.fresh (Nat.le_refl _))
theorem qY {l:Expr} {tl:TE} (hl:PE X l tl):PI X tg l (qX X.K tl):=by
 intro pins s σ H R I h
 refine bv (hl pins s σ H _ I h) fun v s1 ⟨x,H1,I1,r1,q1⟩=>?_
 obtain⟨a,e,⟨xs,hq⟩,q⟩:=q1
 subst e
 cases r1
 obtain⟨its,rv,p,hz⟩:=I1.tuple hq
 refine wpAny_pyIter_tuple (show s1.heap.IsTuple a its.toArray from p) ?_
 refine⟨s1.heap.objs.size,[s1.heap.objs.size],_,_,H1,rfl,I1.kept (t':=s1.toks) fun b o e=>Heap.get?_push_of_some _ e,jq a _,⟨_,Heap.get?_push_size _ rfl,rfl,rfl⟩,fun b hb=>?_,q⟩
 have e:b=s1.heap.objs.size:=by simpa using hb
 subst e
 exact I1.fpOk (Nat.le_refl _) (I1.hok.fresh (Nat.le_refl _))
theorem mF {pins:List (Addr×Obj)} {σ:St} {H:Hp} {s:Shared} {R:It→Hp→Prop} {E:Value→Shared→Prop} {lo hi:Int} {t u v:Tok} {tk:Nat} (I:Inv X pins σ H s) (h1: -(2^62)≤lo) (h2:lo< 2^62) (h3: -(2^62)≤hi) (h4:hi< 2^62)
  (q:R (tE lo (hi- lo).toNat) H):wpAny (model X.prog X.w) X.A (pyIter (.ref s.heap.objs.size)) (tM X pins σ tg R) E {s with heap:=s.heap.push {cls:=.type "range",data:=.fields #[.int lo t,.int hi u,.int 1 v]},toks:=tk} :=by
 refine wpAny_pyIter_range (IsRange.new ..) (small_one h1 h2 h3 h4) ?_
 have I1:Inv X pins σ H {s with heap:=s.heap.push {cls:=.type "range",data:=.fields #[.int lo t,.int hi u,.int 1 v]},toks:=tk} :=I.kept fun b o e=>Heap.get?_push_of_some _ e
 refine⟨(s.heap.push {cls:=.type "range",data:=.fields #[.int lo t,.int hi u,.int 1 v]}).objs.size,[(s.heap.push {cls:=.type "range",data:=.fields #[.int lo t,.int hi u,.int 1 v]}).objs.size],_,_,H,rfl,
  I1.kept (t':=tk) fun b o e=>Heap.get?_push_of_some _ e,jr _ lo (hi- lo).toNat,?_,fun b hb=>?_,q⟩
 ·have e1:lo+((0:Nat):Int)*1=lo:=by simp
  have e2:(((hi- lo).toNat:Nat):Int)- ((0:Nat):Int)=Builtin.Range.rangeSize lo hi 1:=by rw[rangeSize_one];split <;> omega
  show IsRangeIter _ _ (lo+((0:Nat):Int)*1) ((((hi- lo).toNat:Nat):Int)- ((0:Nat):Int)) 1
  rw[e1,e2]
  exact Heap.get?_push_size _ rfl
 ·have e:b=(s.heap.push {cls:=.type "range",data:=.fields #[.int lo t,.int hi u,.int 1 v]}).objs.size:=by simpa using hb
  subst e
  exact I1.fpOk (Nat.le_refl _) (I1.hok.fresh (Nat.le_refl _))
def qC (ta:TA):TI:=fun σ H R=>ta σ H fun vs H1=>∃j:Int,vs=[.int j]∧ -(2^62)≤j∧j< 2^62∧R (tE 0 j.toNat) H1
theorem cB {a:Expr} {ta:TA} {p pos:Pos} (hg:Gl X "range") (hm:X.mg "range" =none) (ha:PA X [a] ta) (hs:starEach [a] X.env=[(false,eval a X.env)]:=by rfl):PI X tg (.Call (.Name "range" p) [a] [] pos) (qC ta):=by
 intro pins s σ H R I h
 refine Call_ (fY I hg hm boot_range (PyProof.Rows.callWith_type1 (bv (ha pos pins s σ H _ I h) fun us s1 ⟨vs,H1,I1,r1,q1⟩=>?_) hs rfl))
 obtain⟨j,e,q1,q2,q⟩:=q1
 subst e
 cases r1 with
 | cons r rr =>
  cases rr
  obtain⟨t,rfl⟩:=r
  exact call_range_1 (mF I1 (by omega) (by omega) q1 q2 (by simpa using q))
def iR (wi:TI) (g:TG) (tb:TS):TS:=fun D σ H=>wi σ H fun J H1=>∃W:Nat→Nat→St→Hp→Prop,(∃m,W 0 m σ H1)∧∀i m σ H,W i m σ H→
 (J.stop i H∧D.nx σ H)∨(J.go i H∧∃N:St→Hp→Prop,(∀σ' H',N σ' H'→∃m',m'< m∧W (i+1) m' σ' H')∧∀x H',J.yld i H x H'→g x σ H' fun σ2 H2=>tb {D with nx:=N,ct:=N,bk:=D.nx} σ2 H2)
def eG (fp:List Addr) (h:Heap):List (Addr×Obj):=fp.filterMap fun b=>(h.get? b).map fun o=>(b,o)
theorem cK {fp:List Addr} {h:Heap} {b:Addr} {o:Obj} (hb:b∈fp) (e:h.get? b=some o):(b,o)∈eG fp h:=List.mem_filterMap.mpr ⟨b,hb,by rw[e];rfl⟩
theorem lu {fp:List Addr} {h:Heap} {p:Addr×Obj} (hp:p∈eG fp h):p.1∈fp∧h.get? p.1=some p.2:=by
 obtain⟨b,hb,e⟩:=List.mem_filterMap.mp hp
 cases q:h.get? b with
 | none=>rw[q]at e;cases e
 | some o =>
  rw[q]at e
  have e':(b,o)=p:=Option.some.inj e
  subst e'
  exact⟨hb,q⟩
theorem Inv.pinned {pins:List (Addr×Obj)} {σ:St} {H:Hp} {s:Shared} {fp:List Addr} (I:Inv X pins σ H s) (hf:∀b∈fp,FpOk X pins H b) (ho:∀b∈fp,∃o,s.heap.get? b=some o∧∀v,o.data≠.cell v):Inv X (pins++eG fp s.heap) σ H s:=
 I.pins_of fun p hp=>(List.mem_append.mp hp).elim (fun z=>I.pin p (List.mem_append_right _ z)) fun z=>by
  obtain⟨hb,e⟩:=lu z
  obtain⟨f0,f1,f2,_⟩:=hf p.1 hb
  obtain⟨o,e',d⟩:=ho p.1 hb
  rw[e]at e';cases e'
  exact⟨e,f0,f1,f2,d⟩
theorem Inv.unpinned {pins pl:List (Addr×Obj)} {σ:St} {H:Hp} {s:Shared} (I:Inv X (pins++pl) σ H s):Inv X pins σ H s:=I.pins_of fun p hp=>I.pin p (List.mem_append_right _ (List.mem_append_left _ hp))
theorem eH {iter:Expr} {body:List Stmt} {wi:TI} {g:TG} {tb:TS} {pos:Pos} (hp:PassesOwn (model X.prog X.w) X.A X.env X.xe) (hc:X.calm=true) (hi:PI X tg iter wi) (hg:PG X tg g) (hb:PSs X body tb)
  (hs:∀x,foldedSetIterable iter X.env x=pure x:=by intro _;rfl):PS X (.For tg iter body [] pos) (iR wi g tb):=by
 intro pins s σ H D I h
 refine wpAny_For (bv (hi pins s σ H _ I h) fun v s1 h1=>bv h1 fun itv s2 h2=>?_) hs
 obtain⟨it,fp,tn,J,H2,e,I2,T,st2,f2,W,⟨m0,w0⟩,turn⟩:=h2
 subst e
 have stat:∀{H':Hp},(∀b∈fp,H' b=none)→∀b∈fp,FpOk X pins H' b:=fun hn b hb=>⟨hn b hb,(f2 b hb).2⟩
 refine codeAny_forLoop_any (fun n s'=>∃i σ' H',Inv X pins σ' H' s'∧tn i s'.heap∧(∀b∈fp,H' b=none)∧W i n σ' H') ?_ m0 ⟨0,σ,H2,I2,st2,fun b hb=>(f2 b hb).1,w0⟩
 rintro n s3 ⟨i,σ3,H3,I3,st3,fr3,w3⟩
 rcases turn i n σ3 H3 w3 with⟨stop,qn⟩ | ⟨go,N,hN,step⟩
 ·refine wpAny_passesOwn hp (bv (T.done X rfl rfl rfl hc i pins s3 σ3 H3 X.xe I3 (stat fr3) st3 stop) fun r s4 ⟨hr,I4⟩=>?_)
  subst hr
  exact wpAny_execs_nil ⟨σ3,H3,I4,qn⟩
 ·refine wpAny_passesOwn hp (bv (T.item X rfl rfl rfl hc i pins s3 σ3 H3 X.xe I3 (stat fr3) st3 go) fun r s4 ⟨u,hr,h4⟩=>?_)
  subst hr
  refine wpAny_passesOwn hp (bv h4 fun _ s5 ⟨x,H5,I5,r5,y5,st5,fr5⟩=>?_)
  have I5':=I5.pinned (stat fr5) (T.obj _ _ st5)
  refine wpAny_passesOwn hp (bv (hg _ s5 σ3 H5 x u _ I5' r5 (step x H5 y5)) fun _ s6 ⟨σ6,H6,I6,q6⟩=>?_)
  refine wpAny_passesOwn hp (bv (hb _ s6 σ6 H6 _ I6 q6) fun f s7 q7=>?_)
  have again:∀{σ7:St} {H7:Hp},Inv X (pins++eG fp s5.heap) σ7 H7 s7→N σ7 H7→∃m,m< n∧∃i σ' H',Inv X pins σ' H' s7∧tn i s7.heap∧(∀b∈fp,H' b=none)∧W i m σ' H':=fun {σ7 H7} I7 n7=>by
   obtain⟨m',hm,w7⟩:=hN σ7 H7 n7
   refine⟨m',hm,i+1,σ7,H7,I7.unpinned,T.keep _ _ _ st5 fun b hb o e=>(I7.pin (b,o) (List.mem_append_right _ (List.mem_append_right _ (cK hb e)))).1,fun b hb=>?_,w7⟩
   obtain⟨o,e,d⟩:=T.obj _ _ st5 b hb
   exact(I7.pin (b,o) (List.mem_append_right _ (List.mem_append_right _ (cK hb e)))).2.1
  cases f with
  | next=>obtain⟨σ7,H7,I7,n7⟩:=q7;exact again I7 n7
  | cont=>obtain⟨σ7,H7,I7,n7⟩:=q7;exact again I7 n7
  | brk=>obtain⟨σ7,H7,I7,q7⟩:=q7;exact⟨σ7,H7,I7.unpinned,q7⟩
  | ret v=>obtain⟨x7,σ7,H7,I7,r7,q7⟩:=q7;exact⟨x7,σ7,H7,I7.unpinned,r7,q7⟩
end
end L2
namespace L2
open PySem PySem.Spec PyProof.Rows
abbrev R2:=V→V→Hp→VK→Prop
def OpR (X:Cx) (f:Value→Value→Sem Value) (r:R2):Prop:=
 ∀ (pins : List (Addr × Obj)) (s : Shared) (σ : St) (H : Hp) (x y : V) (v u : Value) (Q : VK), Inv X pins σ H s → RelV x v → RelV y u → r x y H Q →
  wpAny (model X.prog X.w) X.A (f v u) (EP X pins σ Q) X.xe s
def df (X:Cx) (f:Value) (r:List V→Hp→VK→Prop):Prop:=
 ∀ (pins : List (Addr × Obj)) (s : Shared) (σ : St) (H : Hp) (xs : List V) (us : List Value) (Q : VK), Inv X pins σ H s → Vals xs us → r xs H Q →
  wpAny (model X.prog X.w) X.A (call f us) (EP X pins σ Q) X.xe s
def cC (r:R2) (ta tb:TE):TE:=fun σ H Q=>ta σ H fun x H1=>tb σ H1 fun y H2=>r x y H2 Q
def rI (C:Int→Int→Prop) (g:Int→Int→V):R2:=fun x y H Q=>∃i j,x=.int i∧y=.int j∧C i j∧Q (g i j) H
def dg (g:Int→Int→V):R2:=fun x y H Q=>∃i j,x=.int i∧y=.int j∧Q (g i j) H
section
variable {X:Cx} {a b c:Expr} {ta tb tc:TE} {pos:Pos}
theorem qZ (ha:PE X a ta) (hb:PE X b tb) {pins:List (Addr×Obj)} {s:Shared} {σ:St} {H:Hp} {R:V→V→Hp→Prop} (I:Inv X pins σ H s)
  (h:ta σ H fun x H1=>tb σ H1 fun y H2=>R x y H2) {Q:Value→Shared→Prop} {f:Value→Value→Sem Value}
  (hf:∀v u s2 x y H2,Inv X pins σ H2 s2→RelV x v→RelV y u→R x y H2→wpAny (model X.prog X.w) X.A (f v u) Q X.xe s2):
  wpAny (model X.prog X.w) X.A (eval a X.env) (fun v s₁=>wpAny (model X.prog X.w) X.A (eval b X.env) (fun u s₂=>wpAny (model X.prog X.w) X.A (f v u) Q X.xe s₂) X.xe s₁) X.xe s:=by
 refine bv (ha pins s σ H _ I h) fun v s1 ⟨x,H1,I1,r1,q1⟩=>?_
 refine bv (hb pins s1 σ H1 _ I1 q1) fun u s2 ⟨y,H2,I2,r2,q2⟩=>?_
 exact hf v u s2 x y H2 I2 r1 r2 q2
theorem aD {op:Operator} {r:R2} (ho:OpR X (binaryOp op) r) (ha:PE X a ta) (hb:PE X b tb):PE X (.BinOp a op b pos) (cC r ta tb):=by
 intro pins s σ H Q I h
 exact wpAny_BinOp (qZ ha hb I h fun v u s2 x y H2 I2 rx ry q=>ho pins s2 σ H2 x y v u Q I2 rx ry q)
theorem sZ {f:Value→Value→Sem Value} {C:Int→Int→Prop} {g:Int→Int→Int}
  (rule:∀(i j:Int) (t u:Tok) (s:Shared) (Q:Value→Shared→Prop) (E:Value→Shared→Prop),C i j→Q (.int (g i j) s.toks) {s with toks:=s.toks+1}→wpAny (model X.prog X.w) X.A (f (.int i t) (.int j u)) Q E s):
  OpR X f (rI C fun i j=>.int (g i j)):=by
 intro pins s σ H x y v u Q I rx ry h
 obtain⟨i,j,rfl,rfl,hc,q⟩:=h
 obtain⟨t,rfl⟩:=rx
 obtain⟨t',rfl⟩:=ry
 exact rule i j t t' s _ _ hc ⟨.int (g i j),H,I.tok _,⟨_,rfl⟩,q⟩
theorem sf {f:Value→Value→Sem Value} {g:Int→Int→Int}
  (rule:∀(i j:Int) (t u:Tok) (s:Shared) (Q:Value→Shared→Prop) (E:Value→Shared→Prop),Q (.int (g i j) s.toks) {s with toks:=s.toks+1}→wpAny (model X.prog X.w) X.A (f (.int i t) (.int j u)) Q E s):
  OpR X f (dg fun i j=>.int (g i j)):=by
 intro pins s σ H x y v u Q I rx ry h
 obtain⟨i,j,rfl,rfl,q⟩:=h
 obtain⟨t,rfl⟩:=rx
 obtain⟨t',rfl⟩:=ry
 exact rule i j t t' s _ _ ⟨.int (g i j),H,I.tok _,⟨_,rfl⟩,q⟩
theorem r0 {f:Value→Value→Sem Value} {g:Int→Int→Bool}
  (rule:∀(i j:Int) (t u:Tok) (s:Shared) (Q:Value→Shared→Prop) (E:Value→Shared→Prop),Q (.bool (g i j)) s→wpAny (model X.prog X.w) X.A (f (.int i t) (.int j u)) Q E s):
  OpR X f (dg fun i j=>.bl (g i j)):=by
 intro pins s σ H x y v u Q I rx ry h
 obtain⟨i,j,rfl,rfl,q⟩:=h
 obtain⟨t,rfl⟩:=rx
 obtain⟨t',rfl⟩:=ry
 exact rule i j t t' s _ _ ⟨.bl (g i j),H,I,rfl,q⟩
def si (i j:Int):Prop:=0< j∧j< 1073741824
def sj (i j:Int):Prop:=0≤j∧j≤1000000∧i.natAbs< 2^64
def CMul (i j:Int):Prop:=(-(2^64)< i∧i< 2^64)∨(-(2^64)< j∧j< 2^64)
theorem CMul.ok {i j:Int} (h:CMul i j):IntMulOk i j:=by
 rcases h with⟨h1,h2⟩ | ⟨h1,h2⟩
 ·exact .of_left (intBits_le_64 h1 h2)
 ·exact .of_right (intBits_le_64 h1 h2)
theorem dQ:OpR X (binaryOp .Add) (dg fun i j=>.int (i+j)):=sf fun _ _ _ _ _ _ _ q=>add_int q
theorem g9:OpR X (binaryOp .Sub) (dg fun i j=>.int (i- j)):=sf fun _ _ _ _ _ _ _ q=>sub_int q
theorem il:OpR X (binaryOp .Mult) (rI CMul fun i j=>.int (i*j)):=sZ fun _ _ _ _ _ _ _ hc q=>mul_int q hc.ok
theorem dw:OpR X (binaryOp .FloorDiv) (rI si fun i j=>.int (i/ j)):=sZ fun i j _ _ _ _ _ hc q=>by
 have h1:(0:Int)< j:=hc.1
 have h2:j< 1073741824:=hc.2
 exact floordiv_int (by omega) (by rw[Int.fdiv_eq_ediv_of_nonneg i (by omega)];exact q) (.inl (PyProof.noPylong_small (by omega)))
theorem bi:OpR X (binaryOp .Mod) (rI (fun _ j=>0< j) fun i j=>.int (i% j)):=sZ fun i j _ _ _ _ _ hc q=>by
 have h1:(0:Int)< j:=hc
 exact mod_int' (by omega) (by rw[Int.fmod_eq_emod_of_nonneg i (by omega)];exact q)
theorem js:OpR X (binaryOp .Pow) (rI sj fun i j=>.int (i^j.toNat)):=sZ fun _ _ _ _ _ _ _ hc q=>pow_int_small hc.1 hc.2.1 hc.2.2 q
end
def bX:V→V→Bool
 | .non,.non=>true | .non,.int _=>true | .int _,.non=>true | .non,.bl _=>true | .bl _,.non=>true | .non,.str _=>true | .str _,.non=>true
 | .int _,.int _=>true | .bl _,.bl _=>true | .str _,.str _=>true | .byt _,.byt _=>true
 | .int _,.str _=>true | .str _,.int _=>true | .bl _,.str _=>true | .str _,.bl _=>true
 | _,_=>false
def dG:R2:=fun x y H Q=>bX x y=true∧Q (.bl (decide (x=y))) H
def dM:R2:=fun x y H Q=>bX x y=true∧Q (.bl (!decide (x=y))) H
theorem ku {i j:Int} :decide (V.int i=V.int j)=(i == j):=by
 rw[Bool.eq_iff_iff]
 simp
theorem mG {i j:Bool} :decide (V.bl i=V.bl j)=(i == j):=by
 rw[Bool.eq_iff_iff]
 simp
theorem kz {i j:Str} :decide (V.str i=V.str j)=(i == j):=by
 rw[Bool.eq_iff_iff]
 simp
theorem kA {i j:Array UInt8} :decide (V.byt i=V.byt j)=(i.toList == j.toList):=by
 rw[Bool.eq_iff_iff]
 cases i
 cases j
 simp
section
variable {X:Cx} {a b c:Expr} {ta tb tc:TE} {pos:Pos}
theorem aH {pins:List (Addr×Obj)} {σ:St} {H:Hp} {s:Shared} {Q:VK} {k k':Bool} (I:Inv X pins σ H s) (q:Q (.bl k) H) (e:k=k'):EP X pins σ Q (.bool k') s:=by
 subst e
 exact⟨.bl k,H,I,rfl,q⟩
theorem cv:OpR X (compareOp .Eq) dG:=by
 intro pins s σ H x y v u Q I rx ry h
 obtain⟨hs,q⟩:=h
 cases x with
 | non =>
  cases rx
  cases y with
  | non=>cases ry;exact PySem.EqNone.eq_none_none (aH I q (by simp))
  | bl j=>cases ry;exact PySem.EqNone.eq_none_bool (aH I q (by simp))
  | int j=>obtain⟨t',rfl⟩:=ry;exact PySem.EqNone.eq_none_int (aH I q (by simp))
  | str j=>obtain⟨t',rfl⟩:=ry;exact PySem.EqNone.eq_none_str (aH I q (by simp))
  | _=>exact absurd (show false=true from hs) Bool.false_ne_true
 | bl i =>
  cases rx
  cases y with
  | non=>cases ry;exact PySem.EqNone.eq_bool_none (aH I q (by simp))
  | bl j=>cases ry;exact eq_bool (aH I q mG)
  | str j=>obtain⟨t',rfl⟩:=ry;exact PySem.EqMixed.eq_bool_str (aH I q (by simp))
  | _=>exact absurd (show false=true from hs) Bool.false_ne_true
 | int i =>
  obtain⟨t,rfl⟩:=rx
  cases y with
  | non=>cases ry;exact PySem.EqNone.eq_int_none (aH I q (by simp))
  | int j=>obtain⟨t',rfl⟩:=ry;exact eq_int (aH I q ku)
  | str j=>obtain⟨t',rfl⟩:=ry;exact PySem.EqMixed.eq_int_str (aH I q (by simp))
  | _=>exact absurd (show false=true from hs) Bool.false_ne_true
 | str i =>
  obtain⟨t,rfl⟩:=rx
  cases y with
  | non=>cases ry;exact PySem.EqNone.eq_str_none (aH I q (by simp))
  | bl j=>cases ry;exact PySem.EqMixed.eq_str_bool (aH I q (by simp))
  | int j=>obtain⟨t',rfl⟩:=ry;exact PySem.EqMixed.eq_str_int (aH I q (by simp))
  | str j=>obtain⟨t',rfl⟩:=ry;exact eq_str (aH I q kz)
  | _=>exact absurd (show false=true from hs) Bool.false_ne_true
 | byt i =>
  obtain⟨t,rfl⟩:=rx
  cases y with
  | byt j=>obtain⟨t',rfl⟩:=ry;exact PySem.W.eq_bytes (aH I q kA)
  | _=>exact absurd (show false=true from hs) Bool.false_ne_true
 | _=>cases y <;> exact absurd (show false=true from hs) Bool.false_ne_true
theorem iS:OpR X (compareOp .NotEq) dM:=by
 intro pins s σ H x y v u Q I rx ry h
 obtain⟨hs,q⟩:=h
 cases x with
 | non =>
  cases rx
  cases y with
  | non=>cases ry;exact PySem.EqNone.ne_none_none (aH I q (by simp))
  | bl j=>cases ry;exact PySem.EqNone.ne_none_bool (aH I q (by simp))
  | int j=>obtain⟨t',rfl⟩:=ry;exact PySem.EqNone.ne_none_int (aH I q (by simp))
  | str j=>obtain⟨t',rfl⟩:=ry;exact PySem.EqNone.ne_none_str (aH I q (by simp))
  | _=>exact absurd (show false=true from hs) Bool.false_ne_true
 | bl i =>
  cases rx
  cases y with
  | non=>cases ry;exact PySem.EqNone.ne_bool_none (aH I q (by simp))
  | bl j=>cases ry;exact ne_bool (aH I q (congrArg not mG))
  | str j=>obtain⟨t',rfl⟩:=ry;exact PySem.EqMixed.ne_bool_str (aH I q (by simp))
  | _=>exact absurd (show false=true from hs) Bool.false_ne_true
 | int i =>
  obtain⟨t,rfl⟩:=rx
  cases y with
  | non=>cases ry;exact PySem.EqNone.ne_int_none (aH I q (by simp))
  | int j=>obtain⟨t',rfl⟩:=ry;exact ne_int (aH I q (congrArg not ku))
  | str j=>obtain⟨t',rfl⟩:=ry;exact PySem.EqMixed.ne_int_str (aH I q (by simp))
  | _=>exact absurd (show false=true from hs) Bool.false_ne_true
 | str i =>
  obtain⟨t,rfl⟩:=rx
  cases y with
  | non=>cases ry;exact PySem.EqNone.ne_str_none (aH I q (by simp))
  | bl j=>cases ry;exact PySem.EqMixed.ne_str_bool (aH I q (by simp))
  | int j=>obtain⟨t',rfl⟩:=ry;exact PySem.EqMixed.ne_str_int (aH I q (by simp))
  | str j=>obtain⟨t',rfl⟩:=ry;exact ne_str (aH I q (congrArg not kz))
  | _=>exact absurd (show false=true from hs) Bool.false_ne_true
 | byt i =>
  obtain⟨t,rfl⟩:=rx
  cases y with
  | byt j=>obtain⟨t',rfl⟩:=ry;exact PySem.W.ne_bytes (aH I q (congrArg not kA))
  | _=>exact absurd (show false=true from hs) Bool.false_ne_true
 | _=>cases y <;> exact absurd (show false=true from hs) Bool.false_ne_true
theorem iT:OpR X (compareOp .Lt) (dg fun i j=>.bl (decide (i< j))):=r0 fun _ _ _ _ _ _ _ q=>lt_int q
theorem sk:OpR X (compareOp .Gt) (dg fun i j=>.bl (decide (j< i))):=r0 fun _ _ _ _ _ _ _ q=>gt_int q
theorem iU:OpR X (compareOp .GtE) (dg fun i j=>.bl (decide (j≤i))):=r0 fun _ _ _ _ _ _ _ q=>ge_int q
theorem lw:OpR X (compareOp .In) (fun x y H Q=>∃i j,x=.str i∧y=.str j∧Q (.bl (!(Builtin.Str.occurrences j i 0 j.length 1).isEmpty)) H):=by
 intro pins s σ H x y v u Q I rx ry h
 obtain⟨i,j,rfl,rfl,q⟩:=h
 obtain⟨t,rfl⟩:=rx
 obtain⟨t',rfl⟩:=ry
 exact in_str (aH I q rfl)
theorem op_isN:OpR X (compareOp .Is) (fun x y H Q=>y=.non∧Q (.bl (decide (x=.non))) H):=by
 intro pins s σ H x y v u Q I rx ry h
 obtain⟨rfl,q⟩:=h
 cases ry
 refine is_none_gen (aH I q ?_)
 cases x <;> first
  | (cases rx;rfl)
  | (obtain⟨t,rfl⟩:=rx;rfl)
theorem OpR.or {f:Value→Value→Sem Value} {r r':R2} (h:OpR X f r) (h':OpR X f r'):OpR X f (fun x y H Q=>r x y H Q∨r' x y H Q):=by
 intro pins s σ H x y v u Q I rx ry q
 rcases q with q | q
 ·exact h pins s σ H x y v u Q I rx ry q
 ·exact h' pins s σ H x y v u Q I rx ry q
theorem aI (b:Expr) {op:CmpOp} (h:op≠.In:=by decide) (h2:op≠.NotIn:=by decide):behindInMarks op b=false:=by
 have e1:(op == CmpOp.In)=false:=by cases op <;> first | rfl | exact absurd rfl h
 have e2:(op == CmpOp.NotIn)=false:=by cases op <;> first | rfl | exact absurd rfl h2
 cases b <;> simp[behindInMarks,e1,e2]
theorem cz {op:CmpOp} {r:R2} (ho:OpR X (compareOp op) r) (ha:PE X a ta) (hb:PE X b tb) (hm:behindInMarks op b=false):PE X (.Compare a [op] [b] pos) (cC r ta tb):=by
 intro pins s σ H Q I h
 exact wpAny_Compare1 (qZ ha hb I h fun v u s2 x y H2 I2 rx ry q=>ho pins s2 σ H2 x y v u Q I2 rx ry q) hm
def bh (t:TE):TT:=fun σ H Q=>t σ H fun x H'=>∃k,x=.bl k∧Q k H'
theorem aL {op:CmpOp} {r:R2} (ho:OpR X (compareOp op) r) (ha:PE X a ta) (hb:PE X b tb) (hm:behindInMarks op b=false):PT X (.Compare a [op] [b] pos) (bh (cC r ta tb)):=by
 intro pins s σ H Q I h
 refine wpAny_isTrue_Compare1 (bv (ha pins s σ H _ I h) fun v s1 ⟨x,H1,I1,r1,q1⟩=>bv (hb pins s1 σ H1 _ I1 q1) fun u s2 ⟨y,H2,I2,r2,q2⟩=>
  bv (ho pins s2 σ H2 x y v u _ I2 r1 r2 q2) fun c s3 ⟨z,H3,I3,r3,k,e,q3⟩=>?_) hm
 subst e
 cases r3
 exact wpAny_truthy_bool ⟨H3,I3,q3⟩
def mH (r r':R2) (ta tb tc:TE):TE:=fun σ H Q=>ta σ H fun x H1=>tb σ H1 fun y H2=>r x y H2 fun z H3=>∃k,z=.bl k∧
 (if k=true then tc σ H3 fun w' H4=>r' y w' H4 Q else Q (.bl false) H3)
theorem mI {op op':CmpOp} {r r':R2} (ho:OpR X (compareOp op) r) (ho':OpR X (compareOp op') r') (ha:PE X a ta) (hb:PE X b tb) (hc:PE X c tc)
  (hm:lastMarks [op,op'] [b,c]=false:=by with_unfolding_all rfl):PE X (.Compare a [op,op'] [b,c] pos) (mH r r' ta tb tc):=by
 intro pins s σ H Q I h
 refine Compare_chain (bv (ha pins s σ H _ I h) fun v s1 ⟨x,H1,I1,r1,q1⟩=>chain_link (bv (hb pins s1 σ H1 _ I1 q1) fun u s2 ⟨y,H2,I2,r2,q2⟩=>
  bv (ho pins s2 σ H2 x y v u _ I2 r1 r2 q2) fun d s3 ⟨z,H3,I3,r3,k,e,q3⟩=>?_)) hm
 subst e
 cases r3
 refine wpAny_truthy_bool ?_
 cases k with
 | false=>exact ite_ff ⟨.bl false,H3,I3,rfl,q3⟩
 | true=>exact ite_tt (chain_last (bv (hc pins s3 σ H3 _ I3 q3) fun w' s4 ⟨z',H4,I4,r4,q4⟩=>ho' pins s4 σ H4 y z' u w' Q I4 r2 r4 q4))
theorem gb:(sizeLine:Nat)< 2^63:=by rw[sizeLine_eq];decide
theorem fE {x:V} {us:List Value} (r:Vals [x] us):∃u,us=[u]∧RelV x u:=by
 cases r with
 | cons r1 r2=>cases r2;exact⟨_,rfl,r1⟩
theorem kC {x y:V} {us:List Value} (r:Vals [x,y] us):∃u w',us=[u,w']∧RelV x u∧RelV y w':=by
 cases r with
 | cons r1 r2 =>
  cases r2 with
  | cons r3 r4=>cases r4;exact⟨_,_,rfl,r1,r3⟩
theorem mJ:df X (.builtin "abs") (fun xs H Q=>∃i,xs=[.int i]∧Q (.int (if i< 0 then -i else i)) H):=by
 intro pins s σ H xs us Q I r h
 obtain⟨i,rfl,q⟩:=h
 obtain⟨u,rfl,t,rfl⟩:=fE r
 exact call_abs_int fun u tk=>⟨.int (if i< 0 then -i else i),H,I.tok _,⟨_,rfl⟩,q⟩
theorem lx (hc:X.calm=true):df X (.builtin "max") (fun xs H Q=>∃i j,xs=[.int i,.int j]∧Q (.int (if j> i then j else i)) H):=by
 intro pins s σ H xs us Q I r h
 obtain⟨i,j,rfl,q⟩:=h
 obtain⟨u,w',rfl,⟨t,rfl⟩,⟨t',rfl⟩⟩:=kC r
 refine max_two_ints (I.ok.hd hc) fun h' tk k=>⟨_,H,I.kept k,?_,q⟩
 by_cases hj:j> i
 ·rw[if_pos hj,if_pos hj];exact⟨_,rfl⟩
 ·rw[if_neg hj,if_neg hj];exact⟨_,rfl⟩
def iV (K:PySem.W.Frag) (x:V) (H:Hp) (n:Nat):Prop:=
 match x with
 | .str y=>y.length≤sizeLine∧n=y.length
 | .byt y=>y.size≤sizeLine∧n=y.size
 | .ref p=>(∃xs,SqL K H p xs∧n=xs.length)∨∃xs,SqT K H p xs∧n=xs.length
 | _=>False
theorem mK:df X (.builtin "len") (fun xs H Q=>∃x n,xs=[x]∧iV X.K x H n∧Q (.int n) H):=by
 intro pins s σ H xs us Q I r h
 obtain⟨x,n,rfl,e,q⟩:=h
 obtain⟨u,rfl,rx⟩:=fE r
 have hl:=gb
 have hs:sizeLine=16777216:=sizeLine_eq
 cases x with
 | str y =>
  obtain⟨t,rfl⟩:=rx
  obtain⟨hy,e'⟩:y.length≤sizeLine∧n=y.length:=e
  subst e'
  exact len_str (by omega) ⟨.int _,H,I.tok _,⟨_,rfl⟩,q⟩
 | byt y =>
  obtain⟨t,rfl⟩:=rx
  obtain⟨hy,e'⟩:y.size≤sizeLine∧n=y.size:=e
  subst e'
  exact PySem.W.len_bytes (by omega) ⟨.int _,H,I.tok _,⟨_,rfl⟩,q⟩
 | ref p =>
  cases rx
  have e':(∃xs,SqL X.K H p xs∧n=xs.length)∨∃xs,SqT X.K H p xs∧n=xs.length:=e
  rcases e' with⟨xs,hx,e'⟩ | ⟨xs,hx,e'⟩
  ·subst e'
   obtain⟨its,r',pl,hz⟩:=I.list hx
   have hlen:=r'.length
   exact Calls.call_len_list pl.isList (by simp only[List.size_toArray];omega) ⟨.int xs.length,H,I.tok _,⟨_,by simp only[List.size_toArray];rw[hlen]⟩,q⟩
  ·subst e'
   obtain⟨its,r',pl,hz⟩:=I.tuple hx
   have hlen:=r'.length
   exact len_tuple pl (by simp only[List.size_toArray];omega) ⟨.int xs.length,H,I.tok _,⟨_,by simp only[List.size_toArray];rw[hlen]⟩,q⟩
 | _=>exact(show False from e).elim
end
end L2
namespace L2
open PySem PySem.Spec PyProof.Rows
structure ObjM (h:Heap) (x dx C:Addr) (mA:Str→Option Value):Prop where
 obj:h.get? x=some (PySem.W.instObj C dx)
 ns:h.Ns1 dx mA
 ne:dx≠x
theorem ly {h:Heap} {dx:Addr} {mA:Str→Option Value} (n:h.Ns1 dx mA):∃od,h.get? dx=some od∧∀name,PySem.W.lookIn name od=some (mA name):=by
 obtain⟨o,es,ep,ho,hd,hk,_,hm⟩:=n
 refine⟨o,ho,fun name=>?_⟩
 have e:=hm name
 unfold nsFind findBy at e
 rw[←Array.find?_toList]at e
 unfold PySem.W.lookIn
 rw[hd]
 dsimp only
 split
 ·rename_i y q
  rw[q]at e
  exact congrArg some e
 ·rename_i q
  rw[q]at e
  have a:es.toList.any (·.refKey)=false:=by
   rw[List.any_eq_false]
   intro y hy
   obtain⟨z,t,hkey⟩:=hk y (Array.mem_toList_iff.mp hy)
   simp[DictEntry.refKey,hkey]
  have a':¬es.toList.any (·.refKey)=true:=by rw[a];exact Bool.false_ne_true
  rw[if_neg a']
  exact congrArg some e
theorem ObjM.look {h:Heap} {x dx C:Addr} {mA:Str→Option Value} (I:ObjM h x dx C mA):∃od,PySem.W.InstAt h x (PySem.W.instObj C dx) C (some od)∧∀name,PySem.W.lookIn name od=some (mA name):=
 let ⟨od,ho,hl⟩:=ly I.ns
 ⟨od,⟨I.obj,rfl,rfl,ho⟩,hl⟩
section
variable {prog:Program} {w:World} {A:Around} {E:Value→Shared→Prop} {s:Shared} {K:PySem.W.Frag} {x dx C f:Addr} {mA:Str→Option Value} {name:Str} {v:Value}
theorem pe {expr:Bool} {Q:Value→Shared→Prop} (X:K.In s.heap) (I:ObjM s.heap x dx C mA) (hg:PySem.W.plainGet K C name=true) (hh:PySem.W.hasDictIn K C=true)
  (ha:PySem.W.findIn K (.ref C) name=some none) (hv:mA name=some v) (hv':PySem.W.handedIn v=true) (h:Q v {s with toks:=s.toks+1}):
  wpAny (model prog w) A (getAttr (.ref x) name expr) Q E s:=by
 obtain⟨od,J,hl⟩:=I.look
 exact PySem.W.get_value X J (PySem.W.plainGet_of hg).1 (PySem.W.findObj_own hh ha rfl (by rw[hl,hv])) hv' h
theorem mL {pl:Sem Bool} {Q:Value×List Value→Shared→Prop} (X:K.In s.heap) (I:ObjM s.heap x dx C mA) (hg:PySem.W.plainGet K C name=true)
  (hf:PySem.W.findIn K (.ref C) name=some (some (.ref f))) (ht:PySem.W.isFn K (.ref f)=true) (hv:mA name=none) (h:Q (.ref f,[.ref x]) s):
  wpAny (model prog w) A (getMethod (.ref x) name pl) Q E s:=by
 obtain⟨od,J,hl⟩:=I.look
 exact PySem.W.method_fn X J (PySem.W.plainGet_of hg).1 (PySem.W.plainGet_of hg).2 hf (beq_iff_eq.mp ht) (by show(PySem.W.lookIn name od).map (·.isSome)=some false;rw[hl,hv];rfl) h
theorem pf {ns:List Str} {Q:Unit→Shared→Prop} (X:K.In s.heap) (I:ObjM s.heap x dx C mA)
  (hs:PySem.W.findIn K (.ref C) "__setattr__" =some (some (.builtin "object.__setattr__"))) (hp:PySem.W.plainOver K C=true) (ht:PySem.W.takerIn K C name=some none) (hh:PySem.W.hasDictIn K C=true)
  (hw:PySem.Within mA ns) (hsz:ns.length≤sizeLine)
  (h:∀h',ObjM h' x dx C (fun y=>if y=name then some v else mA y)→Heap.SameBut dx s.heap h'→Q () {s with heap:=h',toks:=s.toks+2}):
  wpAny (model prog w) A (setAttr (.ref x) name v) Q E s:=by
 obtain⟨od,J,hl⟩:=I.look
 refine PySem.W.set_plain X J hs (PySem.W.osa_open (s:={s with toks:=s.toks+1}) (r:=none) X J hp ht fun b=>?_)
 obtain⟨cd,hc,hd'⟩:=PySem.W.any_some hh
 have hx:s.heap.get? x=some ⟨.ref C,some dx,.plain, #[]⟩:=I.obj
 refine wpAny_bind (wpAny_pure (wpAny_bind (wpAny_bind (wpAny_loadPart hx (wpAny_bind (PySem.W.Looks.here (s:={s with toks:=s.toks+1}) (PySem.W.looks_clsIn X hc) ?_))))))
 rw[hd']
 refine wpAny_pure (a:=some dx) (wpAny_bind (wpAny_pure (wpAny_bind ?_)))
 refine wpAny_nsSet1 (s:={s with toks:=s.toks+1}) I.ns fun h' hn2 hs2=>?_
 obtain⟨oD,esD,epD,hoD,hdD,hcD⟩:=hn2.count (PySem.Within.cons name v hw)
 refine wpAny_bind (wpAny_lookBehind hoD (by rw[hdD];exact pastItsLine_dict (Nat.le_trans hcD (by rw[List.length_cons];omega))) ?_)
 exact wpAny_pure (h _ ⟨(hs2.2 _ (Ne.symm I.ne)).trans I.obj,hn2,I.ne⟩ hs2)
theorem mM {R:Result→Shared→Prop} {vs:List Value} {kw:List (Str×Value)} (X:K.In s.heap) (hm:PySem.W.makesIn K C=true)
  (hi:PySem.W.findIn K (.ref C) "__init__" =some (some (.ref f))) (hf:PySem.W.typeIn K (.ref f)=some (.type "function"))
  (h:codeAny (model prog w) (A.under (.builtin "type.__call__" ⟨.ref C::vs,kw⟩)) (.call (.ref f) ⟨.ref (s.heap.objs.size+1)::vs,kw⟩) (PySem.W.InitBack (s.heap.objs.size+1) R)
   {s with heap:=(s.heap.push PySem.W.emptyDict).push (PySem.W.instObj C s.heap.objs.size)}):
  codeAny (model prog w) A (.call (.ref C) ⟨vs,kw⟩) R s:=by
 obtain⟨hh,g,d,t,os⟩:=s
 exact PySem.W.make_core (PySem.W.makes_of X hm) (PySem.W.looks_findIn X hi) (fun self=>PySem.W.bind_fn X self hf) (.inl rfl) h
end
def et (f:Str) (v:V):List (Str×V)→List (Str×V)
 | []=>[(f,v)]
 | (g,x)::r=>if g=f then(g,v)::r else(g,x)::et f v r
theorem fF (f g:Str) (v:V):∀fs:List (Str×V),(et f v fs).lookup g=if g=f then some v else fs.lookup g
 | [] => by
  show List.lookup g [(f,v)]=_
  by_cases h:g=f
  ·have hb:(g == f)=true:=beq_iff_eq.mpr h
   simp only[List.lookup,hb,if_pos h]
  ·have hb:(g == f)=false:=beq_eq_false_iff_ne.mpr h
   simp only[List.lookup,hb,if_neg h]
 | (k, x) :: r => by
  have ih:=fF f g v r
  rw[show et f v ((k,x)::r)=(if k=f then(k,v)::r else(k,x)::et f v r)from rfl]
  by_cases hk:k=f
  ·rw[if_pos hk]
   by_cases h:g=k
   ·have hb:(g == k)=true:=beq_iff_eq.mpr h
    simp only[List.lookup,hb,if_pos (h.trans hk)]
   ·have hb:(g == k)=false:=beq_eq_false_iff_ne.mpr h
    simp only[List.lookup,hb,if_neg (fun e:g=f=>h (e.trans hk.symm))]
  ·rw[if_neg hk]
   by_cases h:g=k
   ·have hb:(g == k)=true:=beq_iff_eq.mpr h
    simp only[List.lookup,hb,if_neg (fun e:g=f=>hk (h.symm.trans e))]
   ·have hb:(g == k)=false:=beq_eq_false_iff_ne.mpr h
    simp only[List.lookup,hb]
    exact ih
theorem fi (f:Str) (v:V):∀fs:List (Str×V),f∈(et f v fs).map (·.1)∧∀g,g∈fs.map (·.1)→g∈(et f v fs).map (·.1)
 | []=>⟨by simp[et],fun g h=>by simp at h⟩
 | (k, x) :: r => by
  obtain⟨i1,i2⟩:=fi f v r
  rw[show et f v ((k,x)::r)=(if k=f then(k,v)::r else(k,x)::et f v r)from rfl]
  by_cases hk:k=f
  ·rw[if_pos hk]
   subst hk
   exact⟨by simp,fun g h=>by simpa using h⟩
  ·rw[if_neg hk]
   refine⟨?_,fun g h=>?_⟩
   ·rw[List.map_cons]
    exact List.mem_cons_of_mem _ i1
   ·rw[List.map_cons]at h ⊢
    rcases List.mem_cons.mp h with e | e
    ·exact List.mem_cons.mpr (.inl e)
    ·exact List.mem_cons_of_mem _ (i2 g e)
theorem fG (f:Str) (v:V):∀fs:List (Str×V),(et f v fs).length≤fs.length+1
 | []=>by simp[et]
 | (k, x) :: r => by
  have ih:=fG f v r
  rw[show et f v ((k,x)::r)=(if k=f then(k,v)::r else(k,x)::et f v r)from rfl]
  by_cases hk:k=f
  ·rw[if_pos hk,List.length_cons,List.length_cons];omega
  ·rw[if_neg hk,List.length_cons,List.length_cons];omega
theorem RelO.some_of {v:V} {o:Option Value} (r:RelO (some v) o):∃u,o=some u∧RelV v u:=by
 cases o with
 | none=>exact(show False from r).elim
 | some u=>exact⟨u,rfl,r⟩
theorem RelO.none_of {o:Option Value} (r:RelO none o):o=none:=by
 cases o with
 | none=>rfl
 | some u=>exact(show False from r).elim
theorem lA {v:V} {u:Value} (r:RelV v u):PySem.W.handedIn u=true:=by
 cases v with
 | non=>cases (show u=Value.none from r);rfl
 | bl b=>cases (show u=Value.bool b from r);rfl
 | int i=>obtain⟨t,e⟩:=(show ∃t,u=Value.int i t from r);cases e;rfl
 | str x=>obtain⟨t,e⟩:=(show ∃t,u=Value.str x t from r);cases e;rfl
 | byt b=>obtain⟨t,e⟩:=(show ∃t,u=Value.bytes b t from r);cases e;rfl
 | flt b=>obtain⟨t,e⟩:=(show ∃t,u=Value.float b t from r);cases e;rfl
 | ref a=>cases (show u=Value.ref a from r);rfl
 | ty n=>cases (show u=Value.type n from r);rfl
section
variable {P:Program} {w:World} {H H':Hp} {h h':Heap} {a C dx:Addr} {fs fs':List (Str×V)}
theorem fQ (hok:HOk P w H h) (e:H a=some (.ins C dx fs)):∃mA,ObjM h a dx C mA∧(∀f,RelO (fs.lookup f) (mA f))∧PySem.Within mA (fs.map (·.1))∧fs.length≤1000∧H dx=some (.own a):=by
 obtain⟨d,z,ne,ob,mA,n,r,q⟩:=(show ObjOk P w H h a (.ins C dx fs)from hok a _ e)
 exact⟨mA,⟨ob,n,ne⟩,r,q,z,d⟩
end
structure Cls (K:PySem.W.Frag) (C:Addr):Prop where
 pg:PySem.W.plainGet K C Str.empty=true
 hd:PySem.W.hasDictIn K C=true
 po:PySem.W.plainOver K C=true
 sa:PySem.W.findIn K (.ref C) "__setattr__" =some (some (.builtin "object.__setattr__"))
theorem Cls.get {K:PySem.W.Frag} {C:Addr} (c:Cls K C) (f:Str):PySem.W.plainGet K C f=true:=c.pg
def NoAttr (K:PySem.W.Frag) (C:Addr) (f:Str):Prop:=PySem.W.findIn K (.ref C) f=some none
theorem NoAttr.taker {K:PySem.W.Frag} {C:Addr} {f:Str} (n:NoAttr K C f):PySem.W.takerIn K C f=some none:=by
 unfold PySem.W.takerIn
 rw[show PySem.W.findIn K (.ref C) f=some none from n]
 rfl
structure Meth (K:PySem.W.Frag) (C:Addr) (m:Str) (f:Addr):Prop where
 at_:PySem.W.findIn K (.ref C) m=some (some (.ref f))
 fn:PySem.W.isFn K (.ref f)=true
 kp:PySem.W.keepIn K (.ref f)=true
section
variable {X:Cx} {pins:List (Addr×Obj)} {σ:St} {H:Hp} {s:Shared} {a C dx:Addr} {fs:List (Str×V)} {f:Str} {v:V} {A:Around} {E:Value→Shared→Prop}
theorem jt {b:Bool} {Q:Value→Shared→Prop} (I:Inv X pins σ H s) (e:H a=some (.ins C dx fs)) (c:Cls X.K C) (n:NoAttr X.K C f) (l:fs.lookup f=some v)
  (h:∀u s',Inv X pins σ H s'→RelV v u→Q u s'):wpAny (model X.prog X.w) A (getAttr (.ref a) f b) Q E s:=by
 obtain⟨mA,O,r,_,_,_⟩:=fQ I.hok e
 obtain⟨u,hu,ru⟩:=RelO.some_of (v:=v) (o:=mA f) (by rw[←l];exact r f)
 exact pe I.kIn O (c.get f) c.hd n hu (lA ru) (h u _ (I.tok _) ru)
theorem gc {m:Str} {g:Addr} {pl:Sem Bool} {Q:Value×List Value→Shared→Prop} (I:Inv X pins σ H s) (e:H a=some (.ins C dx fs)) (c:Cls X.K C) (k:Meth X.K C m g) (l:fs.lookup m=none)
  (h:Q (.ref g,[.ref a]) s):wpAny (model X.prog X.w) A (getMethod (.ref a) m pl) Q E s:=by
 obtain⟨mA,O,r,_,_,_⟩:=fQ I.hok e
 have hn:mA m=none:=RelO.none_of (by rw[←l];exact r m)
 exact mL I.kIn O (c.get m) k.at_ k.fn hn h
theorem ju {y:V} {u:Value} {Q:Unit→Shared→Prop} (I:Inv X pins σ H s) (e:H a=some (.ins C dx fs)) (c:Cls X.K C) (n:NoAttr X.K C f) (hl:fs.length< 1000) (ry:RelV y u)
  (h:∀s',Inv X pins σ (bQ H a (.ins C dx (et f y fs))) s'→Q () s'):wpAny (model X.prog X.w) A (setAttr (.ref a) f u) Q E s:=by
 obtain⟨mA,O,r,wi,_,ho⟩:=fQ I.hok e
 have hz:(fs.map (·.1)).length≤sizeLine:=by rw[List.length_map,sizeLine_eq];omega
 refine pf I.kIn O c.sa c.po n.taker c.hd wi hz fun h' O' sb=>h _ ?_
 have hd:∃o,h'.get? dx=some o:=let ⟨o,_,_,e',_⟩:=O'.ns;⟨o,e'⟩
 refine I.write (x:=a) (e:=dx) (by rw[e];exact True.intro) (.inr ho) (fun b q hb z=>(sb.2 b hb).trans z) hd ?_
 refine⟨by rw[ay O.ne];exact ho,?_,O.ne,O'.obj,_,O'.ns,fun g=>?_,fun g hg=>?_⟩
 ·have:=fG f y fs;omega
 ·show RelO ((et f y fs).lookup g) (if g=f then some u else mA g)
  rw[fF]
  by_cases q:g=f
  ·rw[if_pos q,if_pos q];exact ry
  ·rw[if_neg q,if_neg q];exact r g
 ·by_cases q:g=f
  ·rw[q];exact(fi f y fs).1
  ·refine(fi f y fs).2 g (wi g fun z=>hg ?_)
   show(if g=f then some u else mA g)=none
   rw[if_neg q];exact z
theorem Inv.made (I:Inv X pins σ H s):Inv X pins σ (bQ (bQ H s.heap.objs.size (.own (s.heap.objs.size+1))) (s.heap.objs.size+1) (.ins C s.heap.objs.size []))
  {s with heap:=(s.heap.push PySem.W.emptyDict).push (PySem.W.instObj C s.heap.objs.size)} :=by
 have e1:(s.heap.push PySem.W.emptyDict).get? s.heap.objs.size=some PySem.W.emptyDict:=Heap.get?_push_size s.heap rfl
 have e2:((s.heap.push PySem.W.emptyDict).push (PySem.W.instObj C s.heap.objs.size)).get? (s.heap.objs.size+1)=some (PySem.W.instObj C s.heap.objs.size):=by
  have:=Heap.get?_push_size (s.heap.push PySem.W.emptyDict) (o:=PySem.W.instObj C s.heap.objs.size) rfl
  rwa [Heap.size_push]at this
 have e3:(s.heap.push PySem.W.emptyDict).Ns s.heap.objs.size (fun _=>none):=⟨PySem.W.emptyDict, #[],_,e1,rfl,(fun e he=>absurd he (by simp)),fun _=>rfl⟩
 have I1:=I.laid (a:=s.heap.objs.size) (o:=.own (s.heap.objs.size+1)) (h':=s.heap.push PySem.W.emptyDict) (t':=s.toks) (fun b u q=>Heap.get?_push_of_some _ q) (Nat.le_refl _) ⟨_,e1⟩
 refine I1.laid (a:=s.heap.objs.size+1) (o:=.ins C s.heap.objs.size []) (t':=s.toks) (fun b u q=>Heap.get?_push_of_some _ q) (Nat.le_of_eq (Heap.size_push _ _)) ?_
 have ne:s.heap.objs.size≠s.heap.objs.size+1:=Nat.ne_of_lt (Nat.lt_succ_self _)
 refine⟨by rw[ay ne,ax],Nat.zero_le _,ne,e2,fun _=>none,(Heap.Ns1.of_empty e3).at fun o q=>Heap.get?_push_of_some _ q,fun _=>True.intro,fun y hy=>absurd rfl hy⟩
theorem ph {prog:Program} {w:World} {env:Env} {e:Expr} {f:Str} {pos:Pos} {s:Shared} {Q:Value→Shared→Prop} (hb:attributeBase e f env (eval e env)=eval e env)
  (h:wpAny (model prog w) A (eval e env) (fun o s₁=>wpAny (model prog w) A (getAttr o f true) Q E s₁) E s):wpAny (model prog w) A (eval (.Attribute e f pos) env) Q E s:=
 Attribute_any_ h (by rw[arm_eval_Attribute,hb])
end
def pi (K:PySem.W.Frag) (ta:TE) (f:Str):TE:=fun σ H Q=>ta σ H fun x H1=>∃a C dx fs v,x=.ref a∧H1 a=some (.ins C dx fs)∧Cls K C∧NoAttr K C f∧fs.lookup f=some v∧Q v H1
def sm (K:PySem.W.Frag) (ta tv:TE) (f:Str):TS:=fun D σ H=>tv σ H fun y H1=>ta σ H1 fun x H2=>∃a C dx fs,x=.ref a∧H2 a=some (.ins C dx fs)∧Cls K C∧NoAttr K C f∧fs.length< 1000∧
 D.nx σ (bQ H2 a (.ins C dx (et f y fs)))
section
variable {X:Cx} {o e value:Expr} {f:Str} {pos pos' tpos:Pos} {ta tv:TE}
theorem eI (he:PE X e ta) (hb:attributeBase e f X.env (eval e X.env)=eval e X.env):PE X (.Attribute e f pos) (pi X.K ta f):=by
 intro pins s σ H Q I h
 refine ph hb (bv (he pins s σ H _ I h) fun u s1 ⟨x,H1,I1,rx,a,C,dx,fs,v,ex,ea,c,n,l,q⟩=>?_)
 subst ex
 obtain rfl:u=Value.ref a:=rx
 exact jt I1 ea c n l fun u' s2 I2 ru=>⟨v,H1,I2,ru,q⟩
theorem r6 (ha:PE X o ta) (hv:PE X value tv) (hs:swapsWith value (some (.Attribute o f pos')) pos.line X.env=pure false):PS X (.Assign [.Attribute o f pos'] value pos) (sm X.K ta tv f):=by
 intro pins s σ H D I h
 refine plainObj_wpAny_Assign_Attribute (bv (hv pins s σ H _ I h) fun u s1 ⟨y,H1,I1,ry,q⟩=>bv (ha pins s1 σ H1 _ I1 q) fun ov s2 ⟨x,H2,I2,rx,a,C,dx,fs,ex,ea,c,n,l,q2⟩=>?_) hs
 subst ex
 obtain rfl:ov=Value.ref a:=rx
 exact ju I2 ea c n l ry fun s3 I3=>⟨σ,_,I3,q2⟩
end
section
variable {X:Cx} {pins:List (Addr×Obj)} {σ:St} {H:Hp} {s:Shared} {A:Around} {E:Value→Shared→Prop} {Q:Value→Shared→Prop} {c:Value} {b:Bool}
inductive TyOf (K:PySem.W.Frag) (H:Hp):V→Value→Prop where
 | non:TyOf K H .non (.type "NoneType")
 | bl (x:Bool):TyOf K H (.bl x) (.type "bool")
 | int (i:Int):TyOf K H (.int i) (.type "int")
 | str (x:Str):TyOf K H (.str x) (.type "str")
 | flt (x:UInt64):TyOf K H (.flt x) (.type "float")
 | lst {a:Addr} {xs:List V} (e:H a=some (.lst xs)):TyOf K H (.ref a) (.type "list")
 | frz {a:Addr} {o:Obj} {xs:List V} (e:H a=some (.frz o (.lst xs))):TyOf K H (.ref a) (.type "list")
 | tup {a:Addr} {xs:List V} (e:SqT K H a xs):TyOf K H (.ref a) (.type "tuple")
 | dK {a:Addr} {kvs:List (Key×V)} (e:H a=some (.dK kvs)):TyOf K H (.ref a) (.type "dict")
 | dT {a:Addr} {kvs:List (List Key×V)} (e:H a=some (.dT kvs)):TyOf K H (.ref a) (.type "dict")
 | ins {a C dx:Addr} {fs:List (Str×V)} (e:H a=some (.ins C dx fs)) (cl:Cls K C) (ha:PySem.W.findIn K (.ref C) "__class__" =some (some (.builtin "object.__class__")))
   (hn:PySem.W.specialIn K (.builtin "object.__class__") "__get__" =some (some (.builtin "getset_descriptor.__get__"))) (htk:PySem.W.takesIn K (.builtin "object.__class__")=some true)
   (hm:PySem.W.mroIn K C (.type "object")=some true):TyOf K H (.ref a) (.ref C)
theorem lB {x:V} {u t:Value} (I:Inv X pins σ H s) (rx:RelV x u) (ty:TyOf X.K H x t) (e:PySem.W.kitOne X.K t c=some b) (h:∀tk,Q (.bool b) {s with toks:=tk}):
  wpAny (model X.prog X.w) A (call (.builtin "isinstance") [u,c]) Q E s:=by
 cases ty with
 | non=>cases (show u=Value.none from rx);exact PySem.W.kia_one PySem.W.kitx_none I.kIn True.intro e (fun z=>nomatch z) h
 | bl y=>cases (show u=Value.bool y from rx);exact PySem.W.kia_one PySem.W.kitx_bool I.kIn True.intro e (fun z=>nomatch z) h
 | int i=>obtain⟨t,q⟩:=(show ∃t,u=Value.int i t from rx);cases q;exact PySem.W.kia_one PySem.W.kitx_int I.kIn True.intro e (fun z=>nomatch z) h
 | str y=>obtain⟨t,q⟩:=(show ∃t,u=Value.str y t from rx);cases q;exact PySem.W.kia_one PySem.W.kitx_str I.kIn True.intro e (fun z=>nomatch z) h
 | flt y=>obtain⟨t,q⟩:=(show ∃t,u=Value.float y t from rx);cases q;exact PySem.W.kia_one PySem.W.kitx_float I.kIn True.intro e (fun z=>nomatch z) h
 | @lst a xs ea =>
  cases (show u=Value.ref a from rx)
  obtain⟨_,_,n,_,h1⟩:=(show ObjOk X.prog X.w H s.heap a (.lst xs)from I.hok a _ ea)
  exact PySem.W.kia_one PySem.W.kitx_list I.kIn ⟨_,h1,rfl⟩ e (fun z=>nomatch z) h
 | @frz a ob xs ea =>
  cases (show u=Value.ref a from rx)
  obtain⟨_,_,_,n,_,h1⟩:=(show ObjOk X.prog X.w H s.heap a (.frz ob (.lst xs))from I.hok a _ ea)
  exact PySem.W.kia_one PySem.W.kitx_list I.kIn ⟨_,h1,rfl⟩ e (fun z=>nomatch z) h
 | @tup a xs ea =>
  cases (show u=Value.ref a from rx)
  obtain⟨_,_,p,_⟩:=I.tuple ea
  obtain⟨o,h1,h2,_⟩:=p
  exact PySem.W.kia_one PySem.W.kitx_tuple I.kIn ⟨o,h1,h2⟩ e (fun z=>nomatch z) h
 | @dK a kvs ea =>
  cases (show u=Value.ref a from rx)
  obtain⟨_,_,vs,_,p⟩:=(show ObjOk X.prog X.w H s.heap a (.dK kvs)from I.hok a _ ea)
  obtain⟨o,es,ep,h1,h2,_⟩:=p
  exact PySem.W.kia_one PySem.W.kitx_dict I.kIn ⟨o,h1,h2.1⟩ e (fun z=>nomatch z) h
 | @dT a kvs ea =>
  cases (show u=Value.ref a from rx)
  obtain⟨_,_,xs,_,o,es,ep,h1,h2,_⟩:=(show ObjOk X.prog X.w H s.heap a (.dT kvs)from I.hok a _ ea)
  exact PySem.W.kia_one PySem.W.kitx_dict I.kIn ⟨o,h1,h2.1⟩ e (fun z=>nomatch z) h
 | @ins a C dx fs ea cl ha hn htk hm =>
  cases (show u=Value.ref a from rx)
  obtain⟨mA,O,_⟩:=fQ I.hok ea
  obtain⟨od,J,_⟩:=O.look
  exact PySem.W.kia_one (PySem.W.kitx_own (cl.get _) cl.hd ha hn htk hm) I.kIn J e (fun z=>nomatch z) h
end
end L2
namespace L2
open PySem PySem.Spec PyProof.Rows
structure Room (k:Nat) (A:Around):Prop where
 hd:A.handled=none
 dp:A.depth+3*k+5< recursionLimit
 un:A.units+16*k+200< cLine
theorem Room.mono {j k:Nat} {A:Around} (r:Room k A) (h:j≤k):Room j A:=⟨r.hd,by have:=r.dp;omega,by have:=r.un;omega⟩
theorem Room.deeper {k:Nat} {A:Around} (r:Room (k+1) A) (env:Env):Room k (A.deeper env):=
 ⟨r.hd,by have:=r.dp;show A.depth+1+3*k+5< _;omega,by have:=r.un;show A.units+3+16*k+200< _;omega⟩
theorem jv {A:Around} {C:Addr} {us:List Value} {kw:List (Str×Value)} :(A.under (.builtin "type.__call__" ⟨.ref C::us,kw⟩)).depth=A.depth+1:=by
 first | rfl | simp[Around.under,Code.weight,Code.isCreation,Code.isGuard,Code.isCaller,Code.frames,Code.isFrame,guardIds]
theorem jw {A:Around} {C:Addr} {us:List Value} {kw:List (Str×Value)} :(A.under (.builtin "type.__call__" ⟨.ref C::us,kw⟩)).units=A.units+1:=by
 first | rfl | simp[Around.under,Code.cUnits,Code.frames,Code.isFrame]
theorem Room.make {k:Nat} {A:Around} (r:Room (k+1) A) (C:Addr) (us:List Value) (kw:List (Str×Value)):Room k (A.under (.builtin "type.__call__" ⟨.ref C::us,kw⟩)):=
 ⟨r.hd,by have:=r.dp;rw[jv];omega,by have:=r.un;rw[jw];omega⟩
theorem Room.depth {k:Nat} {A:Around} (r:Room k A):A.depth< recursionLimit:=by have:=r.dp;omega
def aJ:TA:=fun _ H Q=>Q [] H
def af (ta:TE) (tr:TA):TA:=fun σ H Q=>ta σ H fun x H1=>tr σ H1 fun xs H2=>Q (x::xs) H2
section
variable {X:Cx} {e:Expr} {es:List Expr} {te:TE} {t:TA} {pos:Pos}
theorem a9:PA X [] aJ:=fun _ _ _ _ H Q I h=>Calls.spliced_nil ⟨[],H,I,.nil,h⟩
theorem a7 (ha:PE X e te) (hr:PA X es t) (hs:starEach (e::es) X.env=(false,eval e X.env)::starEach es X.env:=by rfl):PA X (e::es) (af te t):=by
 intro pos pins s σ H Q I h
 rw[hs]
 show wpAny _ _ (spliced ((false,eval e X.env)::backTo pos (starEach es X.env))) _ _ s
 refine Calls.spliced_cons (bv (ha pins s σ H _ I h) fun u s1 ⟨x,H1,I1,r1,q1⟩=>?_)
 exact bv (hr pos pins s1 σ H1 _ I1 q1) fun us s2 ⟨xs,H2,I2,r2,q2⟩=>⟨x::xs,H2,I2,.cons r1 r2,q2⟩
def bE (t:TA):TE:=fun σ H Q=>t σ H fun xs H1=>xs.length≤sizeLine∧∀p,H1 p=none→Q (.ref p) (bQ H1 p (.tup xs))
def bR (t:TA):TE:=fun σ H Q=>t σ H fun xs H1=>xs.length≤sizeLine∧∀p,H1 p=none→Q (.ref p) (bQ H1 p (.lst xs))
theorem bo {x1} (h:PA X es t):PE X (.Tuple es x1 pos) (bE t):=by
 intro pins s σ H Q I hq
 refine wpAny_Tuple_spliced (bv (h pos pins s σ H _ I hq) fun us s1 ⟨xs,H1,I1,r,z,q⟩=>⟨by rw[←r.length];exact z,?_⟩)
 have hf:H1 s1.heap.objs.size=none:=I1.hok.fresh (Nat.le_refl _)
 refine⟨.ref s1.heap.objs.size,bQ H1 s1.heap.objs.size (.tup xs),I1.laid (t':=s1.toks) (fun b u e=>Heap.get?_push_of_some _ e) (Nat.le_refl _) ?_,rfl,q _ hf⟩
 exact⟨z,us,r,⟨_,Heap.get?_push_size _ rfl,⟨rfl,rfl⟩,_,rfl⟩⟩
theorem bY (h:PA X es t):PE X (.List es pos) (bR t):=by
 intro pins s σ H Q I hq
 refine wpAny_List_spliced (bv (h pos pins s σ H _ I hq) fun us s1 ⟨xs,H1,I1,r,z,q⟩=>⟨by rw[←r.length];exact z,?_⟩)
 have hf:H1 s1.heap.objs.size=none:=I1.hok.fresh (Nat.le_refl _)
 refine⟨.ref s1.heap.objs.size,bQ H1 s1.heap.objs.size (.lst xs),I1.laid (t':=s1.toks) (fun b u e=>Heap.get?_push_of_some _ e) (Nat.le_refl _) ?_,rfl,q _ hf⟩
 exact⟨z,us,0,r,Heap.get?_push_size _ rfl⟩
end
abbrev Sp:=List V→Hp→VK→XK→Prop
abbrev CXT:=List Env→Hp→Shared→XK→Value→Shared→Prop
structure Env0 (P:Program) (w:World) (K:PySem.W.Frag) (mg:Str→Option Value) (base:Heap) (A:Around) (outer:List Env) (s:Shared) (H:Hp):Prop where
 frames:A.frames=some outer
 mod:Mod K mg base
 bs:∀b o,base.get? b=some o→s.heap.get? b=some o∧H b=none
 bsz:base.objs.size≤s.heap.objs.size
 funs:s.heap.FunFrames base outer
 frf:∀b∈frs outer,H b=none
 hok:HOk P w H s.heap
 bare:AllBare s.gens
def CE (outer:List Env) (P:Program) (w:World) (H:Hp) (s:Shared) (Q:VK) (u:Value) (s':Shared):Prop:=
 ∃v H',s'.os=s.os∧AllBare s'.gens∧Un (frs outer) [] H H' s.heap s'.heap∧HOk P w H' s'.heap∧RelV v u∧Q v H'
def CR (CX:CXT) (outer:List Env) (P:Program) (w:World) (H:Hp) (s:Shared) (Q:VK) (E:XK) (r:Result) (s':Shared):Prop:=
 match r with
 | .ok (.ret u)=>CE outer P w H s Q u s'
 | .ok _=>False
 | .error e=>CX outer H s E e s'
structure FnOk (P:Program) (w:World) (K:PySem.W.Frag) (mg:Str→Option Value) (base:Heap) (CX:CXT) (k:Nat) (f:Addr) (fd:FuncData) (ps:List Str) (sp:Sp):Prop where
 len:∀vs H Q E,sp vs H Q E→vs.length=ps.length
 run:∀(A:Around) (outer:List Env) (s:Shared) (H:Hp) (args:Args) (us:List Value) (vs:List V) (Q:VK) (E:XK),Room k A→Env0 P w K mg base A outer s H→BindsTo s fd args (ps.zip us)→Vals vs us→sp vs H Q E→
  codeAny (model P w) A (.call (.ref f) args) (CR CX outer P w H s Q E) s
theorem FnOk.imp {P:Program} {w:World} {K:PySem.W.Frag} {mg:Str→Option Value} {base:Heap} {CX:CXT} {k:Nat} {f:Addr} {fd:FuncData} {ps:List Str} {sp sp':Sp} (F:FnOk P w K mg base CX k f fd ps sp)
  (h:∀vs H Q E,sp' vs H Q E→sp vs H Q E):FnOk P w K mg base CX k f fd ps sp':=
 ⟨fun vs H Q E q=>F.len vs H Q E (h _ _ _ _ q),fun A outer s H args us vs Q E hr he hb hv hs=>F.run A outer s H args us vs Q E hr he hb hv (h _ _ _ _ hs)⟩
theorem Env0.make {P:Program} {w:World} {K:PySem.W.Frag} {mg:Str→Option Value} {base:Heap} {A:Around} {outer:List Env} {s:Shared} {H:Hp} (e:Env0 P w K mg base A outer s H) (C:Addr) (us:List Value) (kw:List (Str×Value)):
  Env0 P w K mg base (A.under (.builtin "type.__call__" ⟨.ref C::us,kw⟩)) outer s H:=⟨by first | exact e.frames | (simpa [Around.under,Code.envs,Code.isFrame,pushEnvs] using e.frames),e.mod,e.bs,e.bsz,e.funs,e.frf,e.hok,e.bare⟩
section
variable {X:Cx} {pins:List (Addr×Obj)} {σ:St} {H:Hp} {s s':Shared}
theorem Inv.env0 (I:Inv X pins σ H s):Env0 X.prog X.w X.K X.mg X.base X.A X.stack s H:=
 ⟨I.ok.frames,I.ok.mod,I.bs,Nat.le_trans I.ok.bsz I.sz,I.stack,I.stkFree,I.hok,I.bare⟩
theorem Inv.after {Q:VK} {u:Value} (I:Inv X pins σ H s) (h:CE X.stack X.prog X.w H s Q u s'):EP X pins σ Q u s':=by
 obtain⟨v,H',os,bare,un,hok,r,q⟩:=h
 obtain⟨hh,g,d,t,os'⟩:=s'
 obtain rfl:os'=s.os:=os
 exact⟨v,H',I.call (h':=hh) (g':=g) (d':=d) (t':=t) (ch:=[]) un hok bare (fun b z=>absurd z (by simp)),r,q⟩
end
def aM (sp:Sp) (dvs:List V) (E:XK) (t:TA):TE:=fun σ H Q=>t σ H fun vs H1=>sp (vs++dvs) H1 Q E
def dH (C:Addr) (m:Str) (sp:Sp) (dvs:List V) (E:XK) (ta:TE) (t:TA):TE:=fun σ H Q=>ta σ H fun x H1=>∃a dx fs,x=.ref a∧H1 a=some (.ins C dx fs)∧fs.lookup m=none∧
 t σ H1 fun vs H2=>sp (x::(vs++dvs)) H2 Q E
def mO (C:Addr) (sp:Sp) (dvs:List V) (E:XK) (t:TA):TE:=fun σ H Q=>t σ H fun vs H1=>∀x dx,H1 x=none→H1 dx=none→dx≠x→
 sp (.ref x::(vs++dvs)) (bQ (bQ H1 dx (.own x)) x (.ins C dx [])) (fun v H2=>v=.non∧Q (.ref x) H2) E
def Binds (K:PySem.W.Frag) (fd:FuncData) (ps:List Str) (ds:List Value):Prop:=
 ∀(s:Shared) (us:List Value),K.In s.heap→(us++ds).length=ps.length→BindsTo s fd ⟨us,[]⟩ (ps.zip (us++ds))
theorem Binds.all {K:PySem.W.Frag} {fd:FuncData} {ps:List Str} (h:∀us:List Value,us.length=ps.length→bindArgs fd ⟨us,[]⟩=pure (ps.zip us)):Binds K fd ps []:=fun s us _ hl=>by
 rw[List.append_nil]at hl ⊢
 exact .of_eq (h us hl)
def dk (CX:CXT) (X:Cx) (E:XK):Prop:=∀(pins:List (Addr×Obj)) (σ:St) (H:Hp) (s:Shared) (e:Value) (s':Shared),Inv X pins σ H s→CX X.stack H s E e s'→X.xe e s'
section
variable {X:Cx} {CX:CXT} {k:Nat} {f C:Addr} {fd:FuncData} {ps:List Str} {sp:Sp} {dvs:List V} {ds:List Value} {E:XK} {x m:Str} {p pos apos:Pos} {e o:Expr} {es:List Expr} {ta:TE} {t:TA}
theorem jy {pins:List (Addr×Obj)} {σ:St} {H:Hp} {s:Shared} {Q:VK} {us:List Value} {vs:List V} (F:FnOk X.prog X.w X.K X.mg X.base CX k f fd ps sp) (hr:Room k X.A) (hb:Binds X.K fd ps ds) (hd:Vals dvs ds) (hx:dk CX X E)
  (I:Inv X pins σ H s) (r:Vals vs us) (h:sp (vs++dvs) H Q E):wpAny (model X.prog X.w) X.A (call (.ref f) us) (EP X pins σ Q) X.xe s:=by
 have r2:Vals (vs++dvs) (us++ds):=r.append hd
 have hl:(us++ds).length=ps.length:=by rw[←r2.length];exact F.len _ _ _ _ h
 refine wpAny_call (codeAny_mono (F.run X.A X.stack s H ⟨us,[]⟩ (us++ds) (vs++dvs) Q E hr I.env0 (hb s us I.kIn hl) r2 h) fun r s' hq=>?_)
 cases r with
 | error e=>exact hx pins σ H s e s' I hq
 | ok fl =>
  cases fl with
  | ret u=>exact I.after hq
  | next=>exact False.elim hq
  | brk=>exact False.elim hq
  | cont=>exact False.elim hq
theorem pj (F:FnOk X.prog X.w X.K X.mg X.base CX k f fd ps sp) (hr:Room k X.A) (hg:Gl X x) (hm:X.mg x=some (.ref f)) (hk:PySem.W.keepIn X.K (.ref f)=true) (hb:Binds X.K fd ps ds) (hd:Vals dvs ds) (hx:dk CX X E)
  (ha:PA X (e::es) t) (hdb:(x == ("__debug__" :Str))=false:=by decide) (he:starEach (e::es) X.env=(false,eval e X.env)::starEach es X.env:=by rfl) (hpl:(backTo pos (starEach es X.env)).any (·.1)=false:=by rfl):
  PE X (.Call (.Name x p) (e::es) [] pos) (aM sp dvs E t):=by
 intro pins s σ H Q I h
 refine wpAny_Call_Name_kw (ed I hg hm ?_ hdb)
 refine PySem.W.callWith_K (h₀:=X.base) I.ok.mod.kin hk (bv (ha pos pins s σ H _ I h) fun us s1 ⟨vs,H1,I1,r,q⟩=>⟨I1.kIn,?_⟩) he hpl
 exact jy F hr hb hd hx I1 r q
theorem kD {pl:Sem Bool} (he:PE X o ta) (c:Cls X.K C) (hm:Meth X.K C m f) (F:FnOk X.prog X.w X.K X.mg X.base CX k f fd ps sp) (hr:Room k X.A) (hb:Binds X.K fd ps ds) (hd:Vals dvs ds) (hx:dk CX X E) (ha:PA X (e::es) t)
  (hst:starEach (e::es) X.env=(false,eval e X.env)::starEach es X.env:=by rfl) (hpl:(backTo pos (starEach es X.env)).any (·.1)=false:=by rfl)
  (ht:eval (.Call (.Attribute o m apos) (e::es) [] pos) X.env=(do
   let ov ←eval o X.env
   standAt apos.atName
   let (f,first) ←holding [ov] (getMethod ov m pl)
   callWith pos f first (backTo pos (starEach (e::es) X.env)) (backToKw pos (keywordEach [] X.env))):=by rfl):
  PE X (.Call (.Attribute o m apos) (e::es) [] pos) (dH C m sp dvs E ta t):=by
 intro pins s σ H Q I h
 refine PySem.W.methodCall_KW (pl:=pl) (bv (he pins s σ H _ I h) fun u s1 ⟨x,H1,I1,rx,a,dx,fs,ex,ea,l,q⟩=>?_) ht
 subst ex
 obtain rfl:u=Value.ref a:=rx
 refine gc I1 ea c hm l ?_
 refine PySem.W.callWith_K (first:=[.ref a]) (h₀:=X.base) I.ok.mod.kin hm.kp (bv (ha pos pins s1 σ H1 _ I1 q) fun us s2 ⟨vs,H2,I2,r,q2⟩=>⟨I2.kIn,?_⟩) hst hpl
 exact jy (us:=.ref a::us) (vs:=.ref a::vs) F hr hb hd hx I2 (.cons rfl r) q2
theorem mP {pl:Sem Bool} (he:PE X o ta) (c:Cls X.K C) (hm:Meth X.K C m f) (F:FnOk X.prog X.w X.K X.mg X.base CX k f fd ps sp) (hr:Room k X.A) (hb:Binds X.K fd ps ds) (hd:Vals dvs ds) (hx:dk CX X E)
  (ht:eval (.Call (.Attribute o m apos) [] [] pos) X.env=(do
   let ov ←eval o X.env
   standAt apos.atName
   let (f,first) ←holding [ov] (getMethod ov m pl)
   callWith pos f first (backTo pos (starEach [] X.env)) (backToKw pos (keywordEach [] X.env))):=by rfl):
  PE X (.Call (.Attribute o m apos) [] [] pos) (dH C m sp dvs E ta aJ):=by
 intro pins s σ H Q I h
 refine PySem.W.methodCall_KW (pl:=pl) (bv (he pins s σ H _ I h) fun u s1 ⟨x,H1,I1,rx,a,dx,fs,ex,ea,l,q⟩=>?_) ht
 subst ex
 obtain rfl:u=Value.ref a:=rx
 refine gc I1 ea c hm l ?_
 exact PySem.W.callWith_K0 (first:=[.ref a]) I1.kIn hm.kp (jy (us:=[.ref a]) (vs:=[.ref a]) F hr hb hd hx I1 (.cons rfl .nil) q)
structure Mk (K:PySem.W.Frag) (C f:Addr):Prop where
 makes:PySem.W.makesIn K C=true
 init:PySem.W.findIn K (.ref C) "__init__" =some (some (.ref f))
 fn:PySem.W.isFn K (.ref f)=true
 kp:PySem.W.keepIn K (.ref C)=true
theorem mQ {pins:List (Addr×Obj)} {σ:St} {H:Hp} {s:Shared} {Q:VK} {us:List Value} {vs:List V} (M:Mk X.K C f) (F:FnOk X.prog X.w X.K X.mg X.base CX k f fd ps sp) (hr:Room (k+1) X.A) (hb:Binds X.K fd ps ds) (hd:Vals dvs ds)
  (hx:dk CX X E) (I:Inv X pins σ H s) (r:Vals vs us)
  (h:∀x dx,H x=none→H dx=none→dx≠x→sp (.ref x::(vs++dvs)) (bQ (bQ H dx (.own x)) x (.ins C dx [])) (fun v H2=>v=.non∧Q (.ref x) H2) E):
  wpAny (model X.prog X.w) X.A (call (.ref C) us) (EP X pins σ Q) X.xe s:=by
 have hq:=h (s.heap.objs.size+1) s.heap.objs.size (I.hok.fresh (Nat.le_succ _)) (I.hok.fresh (Nat.le_refl _)) (Nat.ne_of_lt (Nat.lt_succ_self _))
 have I2:=Inv.made (C:=C) I
 have r2:Vals (V.ref (s.heap.objs.size+1)::(vs++dvs)) (Value.ref (s.heap.objs.size+1)::(us++ds)):=.cons rfl (r.append hd)
 have hl:(Value.ref (s.heap.objs.size+1)::us++ds).length=ps.length:=by
  have e:=r2.length
  rw[F.len _ _ _ _ hq]at e
  exact e.symm
 refine wpAny_call (mM (f:=f) I.kIn M.makes M.init (beq_iff_eq.mp M.fn) (codeAny_mono (F.run _ X.stack _ _ ⟨Value.ref (s.heap.objs.size+1)::us,[]⟩ (Value.ref (s.heap.objs.size+1)::(us++ds)) _ _ E (hr.make C us [])
  (I2.env0.make C us []) (hb _ (Value.ref (s.heap.objs.size+1)::us) I2.kIn hl) r2 hq) fun r s' hq'=>?_))
 cases r with
 | error e=>exact hx pins σ _ _ e s' I2 hq'
 | ok fl =>
  cases fl with
  | ret u =>
   obtain⟨v,H',I3,rv,ev,q3⟩:=I2.after hq'
   subst ev
   exact⟨rv,⟨V.ref (s.heap.objs.size+1),H',I3,rfl,q3⟩⟩
  | next=>exact False.elim hq'
  | brk=>exact False.elim hq'
  | cont=>exact False.elim hq'
theorem pp (M:Mk X.K C f) (F:FnOk X.prog X.w X.K X.mg X.base CX k f fd ps sp) (hr:Room (k+1) X.A) (hg:Gl X x) (hm:X.mg x=some (.ref C)) (hb:Binds X.K fd ps ds) (hd:Vals dvs ds) (hx:dk CX X E)
  (ha:PA X (e::es) t) (hdb:(x == ("__debug__" :Str))=false:=by decide) (he:starEach (e::es) X.env=(false,eval e X.env)::starEach es X.env:=by rfl) (hpl:(backTo pos (starEach es X.env)).any (·.1)=false:=by rfl):
  PE X (.Call (.Name x p) (e::es) [] pos) (mO C sp dvs E t):=by
 intro pins s σ H Q I h
 refine wpAny_Call_Name_kw (ed I hg hm ?_ hdb)
 refine PySem.W.callWith_K (h₀:=X.base) I.ok.mod.kin M.kp (bv (ha pos pins s σ H _ I h) fun us s1 ⟨vs,H1,I1,r,q⟩=>⟨I1.kIn,?_⟩) he hpl
 exact mQ M F hr hb hd hx I1 r q
end
structure FnScope (N P:List Str) (sc:Scope):Prop where
 kind:sc.kind=.function
 co:sc.isCoroutine=false
 gen:sc.isGenerator=false
 nd:N.Nodup
 pre:N.take P.length=P
 par:∀x∈P,sc.names.lookup x=some .local∨sc.names.lookup x=some .cell
 nofree:∀y∈sc.names,y.2≠.free
theorem gU {kindOf:Str→Option NameKind} {x:Str} :∀{binds:List (Str×Value)} {m:Str→Option Value},(∀v,(x,v)∉binds)→bindL kindOf binds m x=m x
 | [],_,_=>rfl
 | (n, v) :: r, m, h => by
  unfold bindL
  rw[gU fun w hw=>h w (List.mem_cons_of_mem _ hw)]
  split
  ·have:x≠n:=by rintro rfl;exact h v List.mem_cons_self
   simp[this]
  ·rfl
theorem gV {kindOf:Str→Option NameKind} {x:Str} :∀{binds:List (Str×Value)} {m:Str→Option Value},(∀v,(x,v)∉binds)→bindC kindOf binds m x=m x
 | [],_,_=>rfl
 | (n, v) :: r, m, h => by
  unfold bindC
  rw[gV fun w hw=>h w (List.mem_cons_of_mem _ hw)]
  split
  ·rfl
  ·have:x≠n:=by rintro rfl;exact h v List.mem_cons_self
   simp[this]
theorem gW {kindOf:Str→Option NameKind} {x:Str} {v:Value} :∀{P:List Str} {vs:List Value} {i:Nat} {m:Str→Option Value},P.Nodup→P[i]? =some x→vs[i]? =some v→kindOf x=some .local→
  bindL kindOf (P.zip vs) m x=some v
 | [],_,_,_,_,h,_,_=>by simp at h
 | _::_,[],_,_,_,_,h,_=>by simp at h
 | p :: P, w :: vs, 0, m, nd, h1, h2, hk => by
  simp at h1 h2;subst h1;subst h2
  show bindL kindOf ((p,w)::P.zip vs) m p=_
  unfold bindL
  rw[gU fun v hv=>(List.nodup_cons.mp nd).1 (List.of_mem_zip hv).1,if_pos hk]
  simp
 | p :: P, w :: vs, i + 1, m, nd, h1, h2, hk => by
  show bindL kindOf ((p,w)::P.zip vs) m x=_
  unfold bindL
  exact gW (i:=i) (List.nodup_cons.mp nd).2 (by simpa using h1) (by simpa using h2) hk
theorem gX {kindOf:Str→Option NameKind} {x:Str} {v:Value} :∀{P:List Str} {vs:List Value} {i:Nat} {m:Str→Option Value},P.Nodup→P[i]? =some x→vs[i]? =some v→kindOf x≠some .local→
  bindC kindOf (P.zip vs) m x=some v
 | [],_,_,_,_,h,_,_=>by simp at h
 | _::_,[],_,_,_,_,h,_=>by simp at h
 | p :: P, w :: vs, 0, m, nd, h1, h2, hk => by
  simp at h1 h2;subst h1;subst h2
  show bindC kindOf ((p,w)::P.zip vs) m p=_
  unfold bindC
  rw[gV fun v hv=>(List.nodup_cons.mp nd).1 (List.of_mem_zip hv).1,if_neg hk]
  simp
 | p :: P, w :: vs, i + 1, m, nd, h1, h2, hk => by
  show bindC kindOf ((p,w)::P.zip vs) m x=_
  unfold bindC
  exact gX (i:=i) (List.nodup_cons.mp nd).2 (by simpa using h1) (by simpa using h2) hk
def start (N:List Str) (vs:List V):St:=vs.map some++List.replicate (N.length- vs.length) none
def gf (CX:CXT) (P:Program) (w:World) (K:PySem.W.Frag) (mg:Str→Option Value) (base:Heap) (N:List Str) (qual:Str) (scope:Scope) (f:Addr) (cd:Value) (A:Around) (outer:List Env) (s:Shared) (H:Hp) (E:XK):Cx where
 prog:=P
 w:=w
 K:=K
 mg:=mg
 base:=base
 A:=A.deeper (envOfC qual scope s.heap.objs.size f cd)
 N:=N
 s₀:=s
 H₀:=H
 env:=envOfC qual scope s.heap.objs.size f cd
 outer:=outer
 stack:=envOfC qual scope s.heap.objs.size f cd::outer
 ex:=[]
 calm:=true
 fn:=fun _=>true
 pn:=[]
 xe:=fun e s'=>wpAny (model P w) (A.deeper (envOfC qual scope s.heap.objs.size f cd)) (leaving (envOfC qual scope s.heap.objs.size f cd) e) (fun _ s''=>CX outer H s E e s'') (fun e' s''=>CX outer H s E e' s'') s'
theorem iW {sc:Scope} {n:Nat} {x:Str} (h:sc.names.lookup x=some .cell):∃c,(cellsFrom n sc.names []).lookup x=some c:=by
 have q:=PySem.W.cellsFrom_some sc.names n [] (.inl h)
 exact Option.isSome_iff_exists.mp q
theorem gY {CX:CXT} {P:Program} {w:World} {K:PySem.W.Frag} {mg:Str→Option Value} {base:Heap} {N ps:List Str} {qual:Str} {scope:Scope} {f:Addr} {cd:Value} {A:Around} {outer:List Env} {s s1:Shared} {H:Hp} {E:XK} {us:List Value} {vs:List V}
  (S:FnScope N ps scope) (hd:A.handled=none) (e0:Env0 P w K mg base A outer s H) (hl:vs.length=ps.length) (r:Vals vs us)
  (x:InCallC s s.heap.objs.size (bindL (envOfC qual scope s.heap.objs.size f cd).kindOf (ps.zip us) fun _=>none) (cellsFrom (s.heap.objs.size+1) scope.names []) (bindC (envOfC qual scope s.heap.objs.size f cd).kindOf (ps.zip us) fun _=>none) s1):
  Inv (gf CX P w K mg base N qual scope f cd A outer s H E) [] (start N vs) H s1:=by
 have hpl:ps.length≤N.length:=by have:=congrArg List.length S.pre;rw[List.length_take]at this;omega
 obtain⟨h1,tk,rfl,hk⟩:=x.done
 have noA:∀b:Addr,b∉(gf CX P w K mg base N qual scope f cd A outer s H E).ex:=fun b z=>absurd (show b∈([]:List Addr)from z) (by simp)
 refine⟨⟨e0.mod,S.kind,rfl,rfl,Nat.le_refl _,fun y z c h1 h2=>?_,fun y hy=>?_,fun y c _ h=>?_,fun _=>hd,Around.frames_deeper e0.frames,.inr ⟨rfl,rfl⟩,fun b z=>absurd z (noA b),e0.bs,e0.bsz,fun b _ _=>noA b,fun b z=>absurd z (noA b),e0.funs,e0.frf⟩,
  rfl,e0.bare,Un.kept hk,⟨_,x.toInCall.ns,fun i y v h1 h2 h3=>?_⟩,fun y c h=>⟨_,x.cell y c h⟩,e0.hok.fresh (Nat.le_refl _),fun y c h=>?_,fun p hp=>absurd (show p∈([]:List (Addr×Obj))from hp) (by simp),e0.hok.kept hk,?_⟩
 ·exact name_of_addr x.apart (PySem.mem_of_lookup h1) (PySem.mem_of_lookup h2)
 ·have hy:scope.names.lookup y=some .cell∨scope.names.lookup y=some .free:=hy
  rcases hy with hy | hy
  ·exact iW hy
  ·exact absurd rfl (S.nofree _ (PySem.mem_of_lookup hy))
 ·exact Nat.le_of_lt (x.above y c (PySem.mem_of_lookup h))
 ·have hi:i< vs.length:=by
   unfold start at h2
   by_cases hi:i< vs.length
   ·exact hi
   ·rw[List.getElem?_append_right (by simpa using hi)]at h2
    rw[List.getElem?_replicate]at h2
    split at h2 <;> cases h2
  have ha:vs[i]? =some v:=by
   unfold start at h2
   rw[List.getElem?_append_left (by simpa using hi),List.getElem?_map]at h2
   cases e:vs[i]? with
   | none=>rw[e]at h2;cases h2
   | some a=>rw[e]at h2;cases h2;rfl
  obtain⟨u,hu,rv⟩:=r.get ha
  have hp:ps[i]? =some y:=by
   rw[←S.pre,List.getElem?_take_of_lt (by omega)];exact h1
  have ndP:ps.Nodup:=by rw[←S.pre];exact S.nd.sublist (List.take_sublist _ _)
  refine⟨u,rv,?_⟩
  rcases S.par y (List.mem_of_getElem? hp)with k | k
  ·exact .inl ⟨k,gW ndP hp hu k⟩
  ·obtain⟨c,e⟩:=iW (n:=s.heap.objs.size+1) k
   refine .inr ⟨.inl k,c,e,?_⟩
   have q:=x.cell y c e
   rw[gX ndP hp hu (by show scope.names.lookup y≠_;rw[k];decide)]at q
   exact q
 ·exact e0.hok.fresh (Nat.le_of_lt (x.above y c (PySem.mem_of_lookup h)))
 ·unfold start
  show _=N.length
  rw[List.length_append,List.length_map,List.length_replicate]
  omega
theorem qD {CX:CXT} {P:Program} {w:World} {K:PySem.W.Frag} {mg:Str→Option Value} {base:Heap} {k:Nat} {f:Addr} {name qual:Str} {params:Arguments} {body:List Stmt} {scope:Scope} {dV kV doc pm cdv ct oc:Value} {an od:Option Addr}
  {osl:Array (Option Value)} {N ps:List Str} {sp:Sp} (lk:K.lookup f=some ⟨oc,od,.func (PySem.W.fnOf name qual params body scope dV kV doc pm an cdv ct),osl⟩) (hcd:PySem.W.codeIn K cdv qual=true) (S:FnScope N ps scope)
  (len:∀vs H Q E,sp vs H Q E→vs.length=ps.length)
  (hbody:∀(A:Around) (outer:List Env) (s:Shared) (H:Hp) (vs:List V) (Q:VK) (E:XK),Room k (A.deeper (envOfC qual scope s.heap.objs.size f cdv))→sp vs H Q E→
   ∃t,PSs (gf CX P w K mg base N qual scope f cdv A outer s H E) body t∧t {nx:=fun _ H'=>Q .non H',rt:=Q} (start N vs) H):
  FnOk P w K mg base CX (k+1) f (PySem.W.fnOf name qual params body scope dV kV doc pm an cdv ct) ps sp:=by
 refine⟨len,fun A outer s H args us vs Q E hr e0 hb r hsp=>?_⟩
 have hl:=len _ _ _ _ hsp
 have KX:K.In s.heap:=e0.mod.kin.keeps fun b o e=>(e0.bs b o e).1
 have lim:s.heap.NoLimit:=e0.mod.nolimit.keeps fun b o e=>(e0.bs b o e).1
 have hkind:∀y∈ps.zip us,scope.names.lookup y.1=some .local∨(scope.names.lookup y.1=some .cell∧((cellsFrom (s.heap.objs.size+1) scope.names []).lookup y.1).isSome=true):=fun⟨n,v⟩ hy=>by
  rcases S.par n (List.of_mem_zip hy).1 with q | q
  ·exact .inl q
  ·exact .inr ⟨q,PySem.W.cellsFrom_some _ _ _ (.inl q)⟩
 refine codeAny_call_function hr.depth (KX _ _ lk) rfl S.co S.gen rfl (PySem.W.codeRec_of KX hcd) (hb _ _ _ _ ?_)
 refine wpAny_newFunctionEnv_cells S.kind hkind fun env he s1 x=>?_
 subst he
 refine⟨lim.keeps x.toInCall.keep,codeAny_func ?_⟩
 obtain⟨t,ht,hq⟩:=hbody A outer s H vs Q E (hr.deeper _) hsp
 have I:Inv (gf CX P w K mg base N qual scope f cdv A outer s H E) [] (start N vs) H s1:=gY S hr.hd e0 hl r x
 refine wpAny_mono (ht [] s1 (start N vs) H _ I hq) (fun fl s' hs=>?_) fun e s' hs=>hs
 have fin:∀{σ':St} {H':Hp} {v:V} {u:Value},Inv (gf CX P w K mg base N qual scope f cdv A outer s H E) [] σ' H' s'→RelV v u→Q v H'→CE outer P w H s Q u s':=
  fun {σ' H' v u} J rv q=>⟨v,H',J.os,J.bare,J.base,J.hok,rv,q⟩
 cases fl with
 | ret u =>
  obtain⟨v,σ',H',J,rv,q⟩:=hs
  exact fin J rv q
 | next =>
  obtain⟨σ',H',J,q⟩:=hs
  exact fin (v:=V.non) (u:=Value.none) J rfl q
 | brk =>
  obtain⟨_,_,_,q⟩:=hs
  exact False.elim q
 | cont =>
  obtain⟨_,_,_,q⟩:=hs
  exact False.elim q
end L2
namespace L2
open PySem PySem.Spec PyProof.Rows
section
variable {X:Cx} {x:Str} {p pos:Pos} {e:Expr} {es:List Expr} {t:TA} {id T:String} {r:List V→Hp→VK→Prop}
def cW (r:List V→Hp→VK→Prop) (t:TA):TE:=fun σ H Q=>t σ H fun vs H1=>r vs H1 Q
theorem aq (hc:df X (.builtin id) r) (hg:Gl X x) (hm:X.mg x=none) (hv:bootBuiltins x=some (.builtin id)) (ha:PA X (e::es) t) (hn:x≠"__name__" :=by decide) (hdb:(x == ("__debug__" :Str))=false:=by decide)
  (he:starEach (e::es) X.env=(false,eval e X.env)::starEach es X.env:=by rfl) (hpl:(backTo pos (starEach es X.env)).any (·.1)=false:=by rfl):PE X (.Call (.Name x p) (e::es) [] pos) (cW r t):=by
 intro pins s σ H Q I h
 refine wpAny_Call_Name_kw (fY I hg hm hv ?_ hn hdb)
 exact PyProof.Rows.callWith_builtin1 (bv (ha pos pins s σ H _ I h) fun us s1 ⟨vs,H1,I1,r1,q1⟩=>hc pins s1 σ H1 vs us Q I1 r1 q1) he hpl
theorem ef (hc:df X (.type T) r) (hg:Gl X x) (hm:X.mg x=none) (hv:bootBuiltins x=some (.type T)) (ha:PA X (e::es) t) (hn:x≠"__name__" :=by decide) (hdb:(x == ("__debug__" :Str))=false:=by decide)
  (he:starEach (e::es) X.env=(false,eval e X.env)::starEach es X.env:=by rfl) (hpl:(backTo pos (starEach es X.env)).any (·.1)=false:=by rfl):PE X (.Call (.Name x p) (e::es) [] pos) (cW r t):=by
 intro pins s σ H Q I h
 refine wpAny_Call_Name_kw (fY I hg hm hv ?_ hn hdb)
 exact PyProof.Rows.callWith_type1 (bv (ha pos pins s σ H _ I h) fun us s1 ⟨vs,H1,I1,r1,q1⟩=>hc pins s1 σ H1 vs us Q I1 r1 q1) he hpl
end
end L2
namespace HT
open PySem PyProof.Rows
section
open PySem.SeqAt
open PySem.AutoSeq1 (wpAny_loadPart')
open PySem.MeetsSeq PySem.MeetsSeq2 PySem.MeetsSeq3
end
end HT
namespace L2
open PySem PySem.Spec PyProof.Rows
theorem jz {ns:List Int} :∀{us:List Value},Vals (ns.map V.int) us→IntsAre us ns:=by
 induction ns with
 | nil=>intro us r;rw[List.map_nil]at r;cases r;exact .nil
 | cons n ns ih =>
  intro us r
  rw[List.map_cons]at r
  cases r with
  | cons r1 r2 =>
   obtain⟨t,e⟩:=r1
   subst e
   exact .cons n t (ih r2)
end L2
namespace L2
open PySem PySem.Spec PyProof.Rows
def ixN (n:Nat) (i:Int):Option Nat:=if 0≤i then(if i< n then some i.toNat else none)else if -(n:Int)≤i then some (i+n).toNat else none
def atI {α:Type} (xs:List α) (i:Int):Option α:=(ixN xs.length i).bind fun j=>xs[j]?
theorem kE {n:Nat} {i:Int} {j:Nat} (h:ixN n i=some j):seqIndex? i n=some j∧j< n∧ -(n:Int)≤i∧i< n:=by
 unfold ixN at h
 by_cases h0:0≤i
 ·rw[if_pos h0]at h
  by_cases h1:i< n
  ·rw[if_pos h1]at h
   have e:i.toNat=j:=Option.some.inj h
   exact⟨by rw[seqIndex_of h0 h1,e],by omega,by omega,h1⟩
  ·rw[if_neg h1]at h;cases h
 ·rw[if_neg h0]at h
  by_cases h1: -(n:Int)≤i
  ·rw[if_pos h1]at h
   have e:(i+n).toNat=j:=Option.some.inj h
   exact⟨by rw[seqIndex_neg (by omega) h1,e],by omega,h1,by omega⟩
  ·rw[if_neg h1]at h;cases h
theorem im {α:Type} {xs:List α} {i:Int} {v:α} (h:atI xs i=some v):∃j,seqIndex? i xs.length=some j∧xs[j]? =some v∧j< xs.length∧ -(xs.length:Int)≤i∧i< xs.length:=by
 unfold atI at h
 cases e:ixN xs.length i with
 | none=>rw[e]at h;cases h
 | some j =>
  rw[e]at h
  obtain⟨h1,h2,h3,h4⟩:=kE e
  exact⟨j,h1,h,h2,h3,h4⟩
def pq (b:Expr):Prop:=∀o i,subscripted b false o i=operate [o,i] (getItem o i)
def rQ (X:Cx) (r:R2):Prop:=
 ∀ (value slice : Expr) (pins : List (Addr × Obj)) (s : Shared) (σ : St) (H : Hp) (x y : V) (v u : Value) (Q : VK), Inv X pins σ H s → RelV x v → RelV y u → r x y H Q →
  subscripted slice false v u=operate [v,u] (getItem v u)→wpAny (model X.prog X.w) X.A (subscriptTail value slice v u) (EP X pins σ Q) X.xe s
def r9 (X:Cx) (id:String) (r:V→List V→Hp→VK→Prop):Prop:=
 ∀ (pins : List (Addr × Obj)) (s : Shared) (σ : St) (H : Hp) (x : V) (xs : List V) (v : Value) (us : List Value) (Q : VK), Inv X pins σ H s → RelV x v → Vals xs us → r x xs H Q →
  wpAny (model X.prog X.w) X.A (call (.builtin id) (v::us)) (EP X pins σ Q) X.xe s
section
variable {X:Cx} {a b:Expr} {ta tb:TE} {pos:Pos}
theorem aw {r:R2} (hr:rQ X r) (ha:PE X a ta) (hb:PE X b tb) (hs:pq b):PE X (.Subscript a b pos) (cC r ta tb):=by
 intro pins s σ H Q I h
 exact Subscript_ (qZ ha hb I h fun v u s2 x y H2 I2 rx ry q=>hr a b pins s2 σ H2 x y v u Q I2 rx ry q (hs _ _))
def bH (K:PySem.W.Frag):R2:=fun x y H Q=>∃p xs i v,x=.ref p∧y=.int i∧SqL K H p xs∧atI xs i=some v∧Q v H
def bS (K:PySem.W.Frag):R2:=fun x y H Q=>∃p xs i v,x=.ref p∧y=.int i∧SqT K H p xs∧atI xs i=some v∧Q v H
def bZ:R2:=fun x y H Q=>∃z i c,x=.str z∧y=.int i∧z.length≤sizeLine∧atI z.cps.toList i=some c∧Q (.str ⟨#[c]⟩) H
theorem pr:rQ X (bH X.K):=by
 intro value slice pins s σ H x y v u Q I rx ry h hs
 obtain⟨p,xs,i,z,rfl,rfl,hq,he,q⟩:=h
 cases rx
 obtain⟨t,rfl⟩:=ry
 obtain⟨its,r,pl,hz⟩:=I.list hq
 obtain⟨j,h1,h2,h3,h4,h5⟩:=im he
 obtain⟨w,ew,rw'⟩:=r.get h2
 have hl:=r.length
 have hn:=gb
 have fin:EP X pins σ Q w s:=⟨z,H,I,rw',q⟩
 by_cases h0:0≤i
 ·have hj:i.toNat=j:=by
   rw[seqIndex_of h0 h5]at h1
   exact Option.some.inj h1
  exact item_listR pl.isList h0 (by omega) (by rw[hj];simpa using ew) fin hs
 ·have hj:(i+(its.toArray.size:Int)).toNat=j:=by
   rw[seqIndex_neg (by omega) h4]at h1
   rw[List.size_toArray,←hl]
   exact Option.some.inj h1
  exact subscriptTail_builtinR (x:=w) pl.isList.typeIs slot_list_getitem.lookup
   (wpAny_getItem_list_neg (Q:=fun r s'=>r=w∧EP X pins σ Q r s') pl.isList (by omega) (by rw[List.size_toArray] <;> omega) (by omega) (by rw[hj];simpa using ew) ⟨rfl,fin⟩) hs
theorem rc:rQ X (bS X.K):=by
 intro value slice pins s σ H x y v u Q I rx ry h hs
 obtain⟨p,xs,i,z,rfl,rfl,hq,he,q⟩:=h
 cases rx
 obtain⟨t,rfl⟩:=ry
 obtain⟨its,r,pl,hz⟩:=I.tuple hq
 obtain⟨j,h1,h2,h3,h4,h5⟩:=im he
 obtain⟨w,ew,rw'⟩:=r.get h2
 have hl:=r.length
 have hn:=gb
 have fin:EP X pins σ Q w s:=⟨z,H,I,rw',q⟩
 exact subscriptTail_builtinR (x:=w) pl.typeIs slot_tuple_getitem.lookup
  (getItem_tuple (j:=j) (Q:=fun r s'=>r=w∧EP X pins σ Q r s') pl (by omega) (by omega) (by rw[List.size_toArray,←hl];exact h1) (by simpa using ew) ⟨rfl,fin⟩) hs
theorem mR:rQ X bZ:=by
 intro value slice pins s σ H x y v u Q I rx ry h hs
 obtain⟨z,i,c,rfl,rfl,hz,he,q⟩:=h
 obtain⟨t,rfl⟩:=rx
 obtain⟨t',rfl⟩:=ry
 obtain⟨j,h1,h2,h3,h4,h5⟩:=im he
 have hl:z.cps.toList.length=z.length:=by simp[Str.length]
 rw[hl]at h1 h4 h5
 have hn:=gb
 exact tail_any (typeIs_str s z t) slot_str_getitem.lookup (getItem_str (c:=c) (by
  have e1:decide (i< -(2^63:Int))=false:=decide_eq_false (by omega)
  have e2:decide (i≥2^63)=false:=decide_eq_false (by omega)
  rw[e1,e2,Bool.or_false]) (by rw[h1];simpa using h2) ⟨.str ⟨#[c]⟩,H,I.tok _,⟨_,rfl⟩,q⟩) hs
theorem jA (its:List Value) (n j:Nat) (u:Value):Obj.mapSeq (·.setIfInBounds j u) {cls:=.type "list",data:=.seq its.toArray n} ={cls:=.type "list",data:=.seq (its.set j u).toArray n} :=by
 simp[Obj.mapSeq]
theorem Inv.lst {pins:List (Addr×Obj)} {σ:St} {H:Hp} {s:Shared} {p:Addr} {xs:List V} (I:Inv X pins σ H s) (h:H p=some (.lst xs)):
  ∃(its:List Value) (n:Nat),Vals xs its∧s.heap.get? p=some {cls:=.type "list",data:=.seq its.toArray n}∧xs.length≤sizeLine:=by
 obtain⟨z,its,n,r,e⟩:=I.hok p _ h
 exact⟨its,n,r,e,z⟩
theorem Inv.lstUpd {pins:List (Addr×Obj)} {σ:St} {H:Hp} {s:Shared} {p:Addr} {xs ys:List V} {its its':List Value} {n n':Nat} {f:Obj→Obj} (I:Inv X pins σ H s) (h:H p=some (.lst xs))
  (ho:s.heap.get? p=some {cls:=.type "list",data:=.seq its.toArray n}) (hf:f {cls:=.type "list",data:=.seq its.toArray n} ={cls:=.type "list",data:=.seq its'.toArray n'}) (r:Vals ys its') (hz:ys.length≤sizeLine) (t:Nat):
  Inv X pins σ (bQ H p (.lst ys)) {s with heap:=s.heap.update p f,toks:=t} :=by
 have e:(s.heap.update p f).get? p=some {cls:=.type "list",data:=.seq its'.toArray n'} :=by
  rw[Heap.get?_update_self f ho (by rw[hf] <;> rfl),hf]
 refine I.write (x:=p) (e:=p) (by rw[h];trivial) (.inl rfl) (fun b u hb q=>(Heap.get?_update_other _ _ (Ne.symm hb)).trans q) ⟨_,e⟩ ?_
 exact⟨hz,its',n',r,e⟩
def iX:V→V→V→Hp→(Hp→Prop)→Prop:=fun o i v H Q=>∃p xs k j,o=.ref p∧i=.int k∧H p=some (.lst xs)∧ixN xs.length k=some j∧Q (bQ H p (.lst (xs.set j v)))
theorem eV:se X iX:=by
 intro pins s σ H o i v ov iv u Q I ro ri rv h
 obtain⟨p,xs,k,j,rfl,rfl,hp,hj,q⟩:=h
 cases ro
 obtain⟨t,rfl⟩:=ri
 obtain⟨its,n,r,ho,hz⟩:=I.lst hp
 obtain⟨h1,h2,h3,h4⟩:=kE hj
 have hl:=r.length
 have hn:=gb
 have I':Inv X pins σ (bQ H p (.lst (xs.set j v))) {s with heap:=s.heap.update p (Obj.mapSeq (·.setIfInBounds j u))} :=
  I.lstUpd hp ho (jA its n j u) (r.set rv j) (by rw[List.length_set];exact hz) s.toks
 by_cases h0:0≤k
 ·have hk:k.toNat=j:=by
   rw[seqIndex_of h0 h4]at h1
   exact Option.some.inj h1
  exact PySem.W.ki_setAt ho h0 (by omega) (by rw[List.size_toArray,←hl];exact h4) (by rw[hk];exact⟨_,I',q⟩)
 ·have hk:(k+(its.toArray.size:Int)).toNat=j:=by
   rw[seqIndex_neg (by omega) h3]at h1
   rw[List.size_toArray,←hl]
   exact Option.some.inj h1
  exact PySem.W.ki_setBack ho (by omega) (by rw[List.size_toArray,←hl];exact h3) (by omega) (by rw[hk];exact⟨_,I',q⟩)
def flatV:V→Bool
 | .non=>true
 | .bl _=>true
 | .int _=>true
 | .str _=>true
 | _=>false
def eqV:V→V→Bool
 | .non,.non=>true
 | .bl a,.bl b=>a == b
 | .bl a,.int b=>(if a then 1 else 0) == b
 | .int a,.bl b=>a == (if b then 1 else 0)
 | .int a,.int b=>a == b
 | .str a,.str b=>a == b
 | _,_=>false
theorem rd {A:Around} {s:Shared} {y x:V} {u v:Value} (ry:RelV y u) (rx:RelV x v) (fy:flatV y=true) (fx:flatV x=true):SeqAt.EqAt A s u v (eqV y x):=by
 cases y with
 | non =>
  cases ry
  cases x with
  | non=>cases rx;exact SeqAt.EqAt.same _
  | bl b=>cases rx;exact SeqAt.EqAt.none_bool b
  | int b=>obtain⟨t,rfl⟩:=rx;exact SeqAt.EqAt.none_int b t
  | str b=>obtain⟨t,rfl⟩:=rx;exact SeqAt.EqAt.none_str b t
  | _=>exact absurd (show false=true from fx) Bool.false_ne_true
 | bl a =>
  cases ry
  cases x with
  | non=>cases rx;exact SeqAt.EqAt.bool_none a
  | bl b=>cases rx;exact SeqAt.EqAt.bool_bool a b
  | int b=>obtain⟨t,rfl⟩:=rx;exact SeqAt.EqAt.bool_int a b t
  | str b=>obtain⟨t,rfl⟩:=rx;exact SeqAt.EqAt.bool_str a b t
  | _=>exact absurd (show false=true from fx) Bool.false_ne_true
 | int a =>
  obtain⟨t',rfl⟩:=ry
  cases x with
  | non=>cases rx;exact SeqAt.EqAt.int_none a t'
  | bl b=>cases rx;exact SeqAt.EqAt.int_bool a t' b
  | int b=>obtain⟨t,rfl⟩:=rx;exact SeqAt.EqAt.int_int a t' b t
  | str b=>obtain⟨t,rfl⟩:=rx;exact SeqAt.EqAt.int_str a t' b t
  | _=>exact absurd (show false=true from fx) Bool.false_ne_true
 | str a =>
  obtain⟨t',rfl⟩:=ry
  cases x with
  | non=>cases rx;exact SeqAt.EqAt.str_none a t'
  | bl b=>cases rx;exact SeqAt.EqAt.str_bool a t' b
  | int b=>obtain⟨t,rfl⟩:=rx;exact SeqAt.EqAt.str_int a t' b t
  | str b=>obtain⟨t,rfl⟩:=rx;exact SeqAt.EqAt.str_str a t' b t
  | _=>exact absurd (show false=true from fx) Bool.false_ne_true
 | _=>exact absurd (show false=true from fy) Bool.false_ne_true
def jB (x:V) (u:Value):Bool:=match u with
 | .none=>eqV .non x
 | .bool b=>eqV (.bl b) x
 | .int i _=>eqV (.int i) x
 | .str z _=>eqV (.str z) x
 | _=>false
theorem mS {x y:V} {u:Value} (r:RelV y u) (f:flatV y=true):jB x u=eqV y x:=by
 cases y with
 | non=>cases r;rfl
 | bl b=>cases r;rfl
 | int i=>obtain⟨t,rfl⟩:=r;rfl
 | str z=>obtain⟨t,rfl⟩:=r;rfl
 | _=>exact absurd (show false=true from f) Bool.false_ne_true
theorem eW {x:V} :∀{xs:List V} {us:List Value},Vals xs us→xs.all flatV=true→us.any (jB x)=xs.any fun y=>eqV y x
 | _,_,.nil,_=>rfl
 | y :: xs, u :: us, .cons r t, f => by
  rw[List.all_cons,Bool.and_eq_true]at f
  rw[List.any_cons,List.any_cons,mS r f.1,eW t f.2]
theorem dR {A:Around} {s:Shared} {x:V} {v:Value} (rx:RelV x v) (fx:flatV x=true):∀{xs:List V} {us:List Value},Vals xs us→xs.all flatV=true→∀u∈us,SeqAt.EqAt A s u v (jB x u)
 | _,_,.nil,_=>fun u hu=>by cases hu
 | y :: xs, u :: us, .cons r t, f => fun u' hu => by
  rw[List.all_cons,Bool.and_eq_true]at f
  rcases List.mem_cons.mp hu with rfl | hu
  ·rw[mS r f.1];exact rd r rx f.1 fx
  ·exact dR rx fx t f.2 u' hu
def so (x:V) (xs:List V):Bool:=xs.any fun y=>eqV y x
def dl (K:PySem.W.Frag) (neg:Bool):R2:=fun x y H Q=>∃p xs,y=.ref p∧(SqL K H p xs∨SqT K H p xs)∧flatV x=true∧xs.all flatV=true∧Q (.bl (if neg then !so x xs else so x xs)) H
theorem lC:OpR X (compareOp .In) (dl X.K false):=by
 intro pins s σ H x y v u Q I rx ry h
 obtain⟨p,xs,rfl,hq,fx,fs,q⟩:=h
 cases ry
 rcases hq with hq | hq
 ·obtain⟨its,r,pl,hz⟩:=I.list hq
  refine SeqAt.in_listAt (jB x) pl.isList (fun w hw=>dR rx fx r fs w (by simpa using hw)) ⟨.bl _,H,I,rfl,?_⟩
  rw[show its.toArray.any (jB x)=its.any (jB x) by simp,eW r fs]
  exact q
 ·obtain⟨its,r,pl,hz⟩:=I.tuple hq
  refine SeqAt.in_tupleAt (jB x) pl (fun w hw=>dR rx fx r fs w (by simpa using hw)) ⟨.bl _,H,I,rfl,?_⟩
  rw[show its.toArray.any (jB x)=its.any (jB x) by simp,eW r fs]
  exact q
theorem io:OpR X (compareOp .NotIn) (dl X.K true):=by
 intro pins s σ H x y v u Q I rx ry h
 obtain⟨p,xs,rfl,hq,fx,fs,q⟩:=h
 cases ry
 rcases hq with hq | hq
 ·obtain⟨its,r,pl,hz⟩:=I.list hq
  refine SeqAt.notIn_listAt (jB x) pl.isList (fun w hw=>dR rx fx r fs w (by simpa using hw)) ⟨.bl _,H,I,rfl,?_⟩
  rw[show its.toArray.any (jB x)=its.any (jB x) by simp,eW r fs]
  exact q
 ·obtain⟨its,r,pl,hz⟩:=I.tuple hq
  refine SeqAt.notIn_tupleAt (jB x) pl (fun w hw=>dR rx fx r fs w (by simpa using hw)) ⟨.bl _,H,I,rfl,?_⟩
  rw[show its.toArray.any (jB x)=its.any (jB x) by simp,eW r fs]
  exact q
theorem ip:df X (.type "list") (fun xs H Q=>∃p ys,xs=[.ref p]∧(SqL X.K H p ys∨SqT X.K H p ys)∧∀l,H l=none→Q (.ref l) (bQ H l (.lst ys))):=by
 intro pins s σ H xs us Q I r h
 obtain⟨p,ys,rfl,hq,q⟩:=h
 obtain⟨u,rfl,rx⟩:=fE r
 cases rx
 have fin:∀(its:List Value),Vals ys its→ys.length≤sizeLine→∀(h':Heap) (c':Nat),(∀b o',s.heap.get? b=some o'→h'.get? b=some o')→
   h'.get? s.heap.objs.size=some {cls:=.type "list",dict:=none,data:=.seq its.toArray c',slots:= #[]}→EP X pins σ Q (.ref s.heap.objs.size) {s with heap:=h'} :=fun its r' hz h' c' kp e=>
  ⟨.ref s.heap.objs.size,_,I.laid (t':=s.toks) kp (Nat.le_refl _) (show ObjOk X.prog X.w _ h' _ (.lst ys)from⟨hz,its,c',r',e⟩),rfl,q _ (I.hok.fresh (Nat.le_refl _))⟩
 rcases hq with hq | hq
 ·obtain⟨its,r',pl,hz⟩:=I.list hq
  have hlen:=r'.length
  obtain⟨o,ho,hc,n,hd⟩:=pl.isList
  exact call_list_seq p (.inl rfl) ho hc hd (fun h' c' kp e=>fin its r' hz h' c' kp e) (by simp only[List.size_toArray] <;> omega)
 ·obtain⟨its,r',pl,hz⟩:=I.tuple hq
  have hlen:=r'.length
  obtain⟨o,ho,hc,n,hd⟩:=pl
  exact call_list_seq p (.inr rfl) ho hc hd (fun h' c' kp e=>fin its r' hz h' c' kp e) (by simp only[List.size_toArray] <;> omega)
theorem gI:df X (.type "tuple") (fun xs H Q=>∃p ys,xs=[.ref p]∧((SqL X.K H p ys∧∀l,H l=none→Q (.ref l) (bQ H l (.tup ys)))∨(SqT X.K H p ys∧Q (.ref p) H))):=by
 intro pins s σ H xs us Q I r h
 obtain⟨p,ys,rfl,h⟩:=h
 obtain⟨u,rfl,rx⟩:=fE r
 cases rx
 rcases h with⟨hq,q⟩ | ⟨hq,q⟩
 ·obtain⟨its,r',pl,hz⟩:=I.list hq
  have hlen:=r'.length
  refine call_tuple_list pl.isList (fun h' kp=>?_) (by simp only[List.size_toArray] <;> omega)
  have I1:Inv X pins σ H {s with heap:=h'} :=I.kept (t':=s.toks) kp
  have I2:Inv X pins σ (bQ H h'.objs.size (.tup ys)) {s with heap:=h'.push {cls:=.type "tuple",data:=.seq its.toArray}} :=
   I1.laid (t':=s.toks) (fun b o e=>Heap.get?_push_of_some _ e) (Nat.le_refl _) (show ObjOk X.prog X.w _ _ _ (.tup ys)from⟨hz,its,r',IsTupD.new _ _⟩)
  exact⟨.ref h'.objs.size,_,I2,rfl,q _ (I1.hok.fresh (Nat.le_refl _))⟩
 ·obtain⟨its,r',pl,hz⟩:=I.tuple hq
  exact call_tuple_same pl ⟨.ref p,H,I,rfl,q⟩
def tF (K:PySem.W.Frag) (T:String) (x:V) (H:Hp):Prop:=match x with
 | .str _=>T="str"
 | .int _=>T="int"
 | .ref p=>(T="list" ∧∃xs,SqL K H p xs)∨(T="tuple" ∧((∃o,K.lookup p=some o∧o.cls=.type "tuple" ∧o.dict=none)∨∃xs,SqT K H p xs))∨
   (T="dict" ∧((∃kvs,H p=some (.dK kvs))∨∃kvs,H p=some (.dT kvs)))∨(T="set" ∧∃S n,H p=some (.set S n))
 | _=>False
theorem mT {pins:List (Addr×Obj)} {σ:St} {H:Hp} {s:Shared} {T:String} {x:V} {v:Value} (I:Inv X pins σ H s) (r:RelV x v) (ty:tF X.K T x H):
  s.TypeIs v T∧∀a,v=.ref a→∃ob,s.heap.get? a=some ob∧ob.dict=none:=by
 cases x with
 | str z =>
  obtain⟨t,rfl⟩:=r
  cases (show T="str" from ty)
  exact⟨typeIs_str s z t,fun _ e=>nomatch e⟩
 | int i =>
  obtain⟨t,rfl⟩:=r
  cases (show T="int" from ty)
  exact⟨typeIs_int s i t,fun _ e=>nomatch e⟩
 | ref p =>
  cases r
  rcases ty with⟨rfl,xs,hq⟩ | ⟨rfl,⟨o,hk,hc,hd⟩ | ⟨xs,hq⟩⟩ | ⟨rfl,hk⟩ | ⟨rfl,S,n,hk⟩
  ·obtain⟨its,_,pl,_⟩:=I.list hq
   refine⟨pl.isList.typeIs,fun a e=>?_⟩
   cases e
   obtain⟨o,n,e,c,hd,_⟩:=pl
   exact⟨o,e,hd⟩
  ·refine⟨⟨o,I.kIn p o hk,hc⟩,fun a e=>?_⟩
   cases e
   exact⟨o,I.kIn _ o hk,hd⟩
  ·obtain⟨o,e1,c1,d1⟩:∃o,s.heap.get? p=some o∧o.cls=.type "tuple" ∧o.dict=none:=by
    rcases hq with hq | ⟨o,its,n,hk,hc,_⟩
    ·obtain⟨_,_,_,o,e1,⟨c1,d1⟩,_⟩:=hq.ok I.hok
     exact⟨o,e1,c1,d1⟩
    ·exact⟨o,I.kIn p o hk,hc.1,hc.2⟩
   refine⟨⟨o,e1,c1⟩,fun a e=>?_⟩
   cases e
   exact⟨o,e1,d1⟩
  ·have z:∃o,s.heap.get? p=some o∧o.ExactDict:=by
    rcases hk with⟨kvs,hk⟩ | ⟨kvs,hk⟩
    ·obtain⟨_,_,_,_,o,_,_,e,ex,_⟩:=I.hok p _ hk
     exact⟨o,e,ex⟩
    ·obtain⟨_,_,_,_,o,_,_,e,ex,_⟩:=I.hok p _ hk
     exact⟨o,e,ex⟩
   obtain⟨o,e,ex⟩:=z
   refine⟨⟨o,e,ex.1⟩,fun a e2=>?_⟩
   cases e2
   exact⟨o,e,ex.2.1⟩
  ·obtain⟨o,_,_,_,e,ex,_⟩:=I.hok p _ hk
   refine⟨⟨o,e,ex.1⟩,fun a e2=>?_⟩
   cases e2
   exact⟨o,e,ex.2.1⟩
 | _=>exact False.elim ty
def bF (K:PySem.W.Frag) (T:String) (r:V→List V→Hp→VK→Prop) (to:TE):TE:=fun σ H Q=>to σ H fun x H1=>tF K T x H1∧r x [] H1 Q
def dc (K:PySem.W.Frag) (T:String) (r:V→List V→Hp→VK→Prop) (to:TE) (t:TA):TE:=fun σ H Q=>to σ H fun x H1=>tF K T x H1∧t σ H1 fun xs H2=>r x xs H2 Q
variable {o e:Expr} {es:List Expr} {to:TE} {t:TA} {name:Str} {apos cpos:Pos} {T id:String} {r:V→List V→Hp→VK→Prop}
theorem re (pa:PlainAttrs T) (slot:Slot T name id) (hty:typeOf (.builtin id)=pure (.type "method_descriptor")) (hm:r9 X id r) (ho:PE X o to)
  (hbase:attributeBase o name X.env (eval o X.env)=eval o X.env:=by rfl) (hline:(apos.endLine == cpos.line)=true:=by rfl):PE X (.Call (.Attribute o name apos) [] [] cpos) (bF X.K T r to):=by
 intro pins s σ H Q I h
 refine wpAny_Call_method0_late hbase hline (bv (ho pins s σ H _ I h) fun v s1 ⟨x,H1,I1,r1,ty,q1⟩=>?_)
 obtain⟨h1,h2⟩:=mT I1 r1 ty
 exact⟨T,id,pa,slot,hty,h1,h2,Calls.callWith_builtin rfl (PySem.evalArgs_none (hm pins s1 σ H1 x [] v [] Q I1 r1 .nil q1))⟩
theorem sr (pa:PlainAttrs T) (slot:Slot T name id) (hty:typeOf (.builtin id)=pure (.type "method_descriptor")) (hm:r9 X id r) (ho:PE X o to) (ha:PA X (e::es) t)
  (hbase:attributeBase o name X.env (eval o X.env)=eval o X.env:=by rfl)
  (hfew:((backTo cpos (starEach (e::es) X.env)).all (fun x=> !x.1) && (backToKw cpos (keywordEach [] X.env)).all (fun x=>x.1.isSome)
   && decide ((e::es).length+([]:List Keyword).length+(if([]:List Keyword).isEmpty then 0 else 1)< 30))=true:=by rfl)
  (hline:(apos.endLine == cpos.line)=true:=by rfl) (hs:starEach (e::es) X.env=(false,eval e X.env)::starEach es X.env:=by rfl) (hplain:(backTo cpos (starEach es X.env)).any (·.1)=false:=by rfl):
  PE X (.Call (.Attribute o name apos) (e::es) [] cpos) (dc X.K T r to t):=by
 intro pins s σ H Q I h
 refine wpAny_Call_method_late hbase hfew hline rfl (bv (ho pins s σ H _ I h) fun v s1 ⟨x,H1,I1,r1,ty,q1⟩=>?_)
 obtain⟨h1,h2⟩:=mT I1 r1 ty
 refine⟨T,id,pa,slot,hty,h1,h2,?_⟩
 have hA:=ha cpos pins s1 σ H1 _ I1 q1
 rw[hs]at hA ⊢
 refine Calls.callWith_builtin (by show(false || (backTo cpos (starEach es X.env)).any (·.1))=false;rw[hplain] <;> rfl) (Calls.evalArgs_plain ?_)
 exact bv hA fun us s2 ⟨vs,H2,I2,r2,q2⟩=>hm pins s2 σ H2 x vs v us Q I2 r1 r2 q2
end
end L2
namespace L2
open PySem PySem.Spec PyProof.Rows
def tO (X:Cx) (id:String) (r:V→List V→Hp→VK→Prop):Prop:=
 ∀ (pins : List (Addr × Obj)) (s : Shared) (σ : St) (H : Hp) (x : V) (xs : List V) (v : Value) (us : List Value) (Q : VK), Inv X pins σ H s → RelV x v → Vals xs us → r x xs H Q →
  wpAny (model X.prog X.w) X.A (call (.builtin id) (v::us)) (EP X pins σ Q) X.xe s
theorem Vals.one:∀{x:V} {us:List Value},Vals [x] us→∃u,us=[u]∧RelV x u
 | _,_,.cons r .nil=>⟨_,rfl,r⟩
theorem Vals.zero:∀{us:List Value},Vals [] us→us=[]
 | _,.nil=>rfl
theorem Vals.rep {xs:List V} {us:List Value} (h:Vals xs us):∀k:Nat,Vals (List.replicate k xs).flatten (List.replicate k us).flatten
 | 0=>.nil
 | k + 1 => by
  rw[List.replicate_succ,List.replicate_succ,List.flatten_cons,List.flatten_cons]
  exact Vals.append h (Vals.rep h k)
theorem gZ (its:List Value):∀(k:Nat) (acc:List Value),
  List.foldl (fun x1 x2=>x1++x2) acc.toArray (List.replicate k its.toArray)=(acc++(List.replicate k its).flatten).toArray
 | 0,acc=>by simp
 | k + 1, acc => by
  have e:acc.toArray++its.toArray=(acc++its).toArray:=by simp
  have e2:(acc++its)++(List.replicate k its).flatten=acc++(List.replicate (k+1) its).flatten:=by
   rw[List.replicate_succ,List.flatten_cons,List.append_assoc]
  rw[←e2,←gZ its k (acc++its),←e,List.replicate_succ,List.foldl_cons]
section
variable {X:Cx} {pins:List (Addr×Obj)} {σ:St} {H:Hp} {s:Shared} {l b:Addr} {xs ys zs:List V}
theorem Inv.lset {its its':List Value} {n:Nat} {f:Array Value→Array Value} {t':Nat} (I:Inv X pins σ H s) (hH:H l=some (.lst xs))
  (e:s.heap.get? l=some {cls:=.type "list",data:=.seq its.toArray n}) (hf:f its.toArray=its'.toArray) (hv:Vals ys its') (hz:ys.length≤sizeLine):
  Inv X pins σ (bQ H l (.lst ys)) {s with heap:=s.heap.update l (Obj.mapSeq f),toks:=t'} :=by
 have q:=PySem.IsL.update e f
 rw[hf]at q
 refine I.write (x:=l) (e:=l) (by rw[hH];exact trivial) (.inl rfl) (fun b' u hb hu=>(Heap.get?_update_other s.heap (Obj.mapSeq f) (Ne.symm hb)).trans hu) ⟨_,q⟩ ?_
 exact⟨hz,its',_,hv,q⟩
theorem Inv.lnew {its:List Value} {t':Nat} (I:Inv X pins σ H s) (hv:Vals ys its) (hz:ys.length≤sizeLine):
  Inv X pins σ (bQ H s.heap.objs.size (.lst ys)) {s with heap:=s.heap.push {cls:=.type "list",data:=.seq its.toArray},toks:=t'} :=
 I.laid (fun _ _ q=>Heap.get?_push_of_some _ q) (Nat.le_refl _) ⟨hz,its,0,hv,Heap.get?_push_size _ rfl⟩
theorem Inv.fresh (I:Inv X pins σ H s):H s.heap.objs.size=none:=I.hok.fresh (Nat.le_refl _)
theorem Inv.lstM (I:Inv X pins σ H s) (hH:H l=some (.lst xs)):xs.length≤sizeLine∧∃(its:List Value) (n:Nat),Vals xs its∧xs.length=its.length∧s.heap.get? l=some {cls:=.type "list",data:=.seq its.toArray n} :=by
 obtain⟨z,its,n,r,e⟩:=I.hok l _ hH
 exact⟨z,its,n,r,r.length,e⟩
theorem mU {n:Nat} (h:n≤sizeLine):Builtin.List.listTooLong n=false:=by
 unfold Builtin.List.listTooLong
 exact decide_eq_false (by omega)
end
section
variable {X:Cx}
def av:V→List V→Hp→VK→Prop:=fun x vs H Q=>∃l xs y,x=.ref l∧vs=[y]∧H l=some (.lst xs)∧xs.length< sizeLine∧Q .non (bQ H l (.lst (xs++ [y])))
theorem hG:tO X "list.append" av:=by
 intro pins s σ H x vs v us Q I rx rv h
 obtain⟨l,xs,y,rfl,rfl,hH,hz,q⟩:=h
 cases rx
 obtain⟨u,rfl,ru⟩:=rv.one
 obtain⟨z,its,n,r,hl,e⟩:=I.lstM hH
 refine call_meets F.slot_list_append ⟨_,e,rfl⟩ F.entry_list_append (F.args_list_append_2 _ _) (PySem.list_append l its.toArray n u (by rw[List.size_toArray];omega)) ⟨e,?_⟩
 refine⟨.non,_,I.lset (its':=its++ [u]) hH e (by simp) (r.append (.cons ru .nil)) ?_,rfl,q⟩
 rw[List.length_append,List.length_singleton]
 omega
def aK:V→List V→Hp→VK→Prop:=fun x vs H Q=>∃l xs,x=.ref l∧vs=[]∧H l=some (.lst xs)∧Q .non (bQ H l (.lst []))
theorem iY:tO X "list.clear" aK:=by
 intro pins s σ H x vs v us Q I rx rv h
 obtain⟨l,xs,rfl,rfl,hH,q⟩:=h
 cases rx
 have hus:=rv.zero
 subst hus
 obtain⟨z,its,n,r,hl,e⟩:=I.lstM hH
 refine call_meets F.slot_list_clear ⟨_,e,rfl⟩ F.entry_list_clear (F.args_list_clear_1 _) (AutoSeq1.list_clear_list_0 l its.toArray n (by rw[List.size_toArray];omega)) ⟨e,?_⟩
 exact⟨.non,_,I.lset (its':=[]) (ys:=[]) hH e rfl .nil (Nat.zero_le _),rfl,q⟩
def c0:R2:=fun x y H Q=>∃l b xs zs,x=.ref l∧y=.ref b∧H l=some (.lst xs)∧H b=some (.lst zs)∧xs.length+zs.length≤sizeLine∧∀p,H p=none→Q (.ref p) (bQ H p (.lst (xs++zs)))
theorem eJ:OpR X (binaryOp .Add) c0:=by
 intro pins s σ H x y v u Q I rx ry h
 obtain⟨l,b,xs,zs,rfl,rfl,hH,hB,hz,q⟩:=h
 cases rx
 cases ry
 obtain⟨z,its,n,r,hl,e⟩:=I.lstM hH
 obtain⟨z2,its2,n2,r2,hl2,e2⟩:=I.lstM hB
 refine PySem.P.add_list e e2 ?_ (by rw[List.size_toArray,List.size_toArray];omega)
 have ea:its.toArray++its2.toArray=(its++its2).toArray:=by simp
 rw[ea]
 exact⟨.ref _,_,I.lnew (t':=s.toks) (r.append r2) (by rw[List.length_append];omega),rfl,q _ I.fresh⟩
def ss:R2:=fun x y H Q=>∃l k xs,x=.ref l∧y=.int k∧H l=some (.lst xs)∧ -(2^63)≤k∧k< 2^63∧xs.length*k.toNat≤sizeLine∧
 ∀p,H p=none→Q (.ref p) (bQ H p (.lst (List.replicate k.toNat xs).flatten))
theorem pu {α:Type} (xs:List α) (k:Nat):(List.replicate k xs).flatten.length=k*xs.length:=by
 induction k with
 | zero=>simp
 | succ k ih=>rw[List.replicate_succ,List.flatten_cons,List.length_append,ih,Nat.succ_mul,Nat.add_comm]
theorem rf:OpR X (binaryOp .Mult) ss:=by
 intro pins s σ H x y v u Q I rx ry h
 obtain⟨l,k,xs,rfl,rfl,hH,h1,h2,hz,q⟩:=h
 cases rx
 obtain⟨t,rfl⟩:=ry
 obtain⟨z,its,n,r,hl,e⟩:=I.lstM hH
 have hlen:its.toArray.size*k.toNat≤sizeLine:=by rw[List.size_toArray,←hl];exact hz
 have hcap:¬its.toArray.size*k.toNat> (2^63- 1)/ 8:=by
  have:(sizeLine:Nat)≤(2^63- 1)/ 8:=by decide
  omega
 have hfit:¬(!Builtin.List.listFitsIndex k)=true:=by
  rw[fitsIndex_both h1 h2]
  exact Bool.false_ne_true
 have hlong:¬Builtin.List.listTooLong (its.toArray.size*k.toNat)=true:=by
  rw[mU hlen]
  exact Bool.false_ne_true
 have hnew:List.foldl (fun x1 x2=>x1++x2) #[] (List.replicate (if its.toArray.isEmpty=true then 0 else k.toNat) its.toArray)=(List.replicate k.toNat its).flatten.toArray:=by
  have f0:∀m:Nat,List.foldl (fun x1 x2=>x1++x2) #[] (List.replicate m its.toArray)=(List.replicate m its).flatten.toArray:=fun m=>by
   have:=gZ its m []
   rw[List.nil_append]at this
   exact this
  rw[f0]
  cases its with
  | nil=>simp
  | cons a r'=>rw[if_neg (by simp)]
 refine wpAny_binaryOp_repeat_ref (T:="list") (U:="int") (by decide) ⟨_,e,rfl⟩ (fun s'=>typeIs_int s' k t) noFill_list_mul F.fills_int_mul F.slot_int_rmul repeat_list F.slot_int_index.lookup
  (call_meets F.slot_int_rmul (typeIs_int s k t) F.entry_int_rmul (F.args_int_rmul_2 _ _) (int___rmul___int_list k t l its.toArray n)
   ⟨e,rfl,⟨_,e,rfl⟩,call_meets F.slot_list_mul ⟨_,e,rfl⟩ F.entry_list_mul (F.args_list_mul_2 _ _) (AutoListH.list___mul___list_int_3 l its.toArray n k t hfit hcap hlong) ⟨e,?_⟩⟩)
 rw[hnew]
 exact⟨.ref _,_,I.lnew (t':=s.toks) (r.rep k.toNat) (by rw[pu,Nat.mul_comm];exact hz),rfl,q _ I.fresh⟩
end
end L2
namespace L2
open PySem PySem.Spec PyProof.Rows
end L2
namespace Att
open PySem PySem.W PySem.Calls PyProof.Rows
theorem fK {P:Params} {h:Heap} :∀(ns:List Int) (vs:List Value),WellAll P h vs (ns.map WData.int)→IntsAre vs ns:=by
 intro ns
 induction ns with
 | nil =>
  intro vs w
  rw[List.map_nil]at w
  cases w
  exact .nil
 | cons n ns ih =>
  intro vs w
  rw[List.map_cons]at w
  cases w with
  | cons a b =>
   cases a
   exact .cons _ _ (ih _ b)
theorem lD {l:OpenLaw} {n:Nat} (hn:l.most=some n) {P:Params} {h:Heap} {args:List WData} {vals:List Value}
  (hpre:l.row.toRowW.claim.pre args=true) (hwl:WellAll P h vals args):
  ∃a vs ns,vals=[Value.ref a]∧args=[WData.list (ns.map WData.int)]∧h.get? a=some {cls:=.type "list",data:=.seq vs.toArray}∧IntsAre vs ns∧ns.length≤n:=by
 have hsh:WShape.hasAll [] args [.list .int]=true:=(pre_splitW hpre).1
 have hc:l.pre.holds [] {args:=args} =true:=(pre_splitW hpre).2
 obtain⟨d,r,rfl,h1,h2⟩:=hasAllW_cons hsh
 obtain rfl:=hasAllW_nil h2
 obtain⟨xs,rfl,h3⟩:=hasW_list h1
 obtain⟨ns,rfl⟩:=items_int h3
 have hlen:ns.length≤n:=by
  unfold OpenLaw.pre at hc
  have h4:(WTm.not (.lt (.lit (.int (n:Int))) (.len (.arg 0)))).holds [] {args:=[.list (ns.map .int)]} =true:=by
   have h4:=(holds_andW hc).1
   rw[hn]at h4
   exact h4
  have h5:=condW_of h4 (w_not (w_lt w_lit (w_len_list (w_arg rfl))))
  rw[List.length_map]at h5
  refine Nat.le_of_not_lt fun q=>?_
  have q':(n:Int)< ((ns.length:Nat):Int):=by omega
  first
   | (rw[decide_eq_true q']at h5;exact absurd h5 (by decide))
   | (simp at h5;omega)
 cases hwl with
 | cons w1 w2 =>
  cases w2
  cases w1 with
  | list ho hall=>exact⟨_,_,ns,rfl,rfl,ho,fK ns _ hall,hlen⟩
theorem lE (l:OpenLaw) (args:List WData):l.row.toRowW.claim.post args (.bool true) args=true:=
 postW_of (r:=l.row.toRowW) (X:=(true == true))
  (show WShape.has [] (.bool true) .bool=true by first | rfl | decide | simp[WShape.has,WShape.arms,WShape.armsAll])
  (show(WTm.eq .res (.lit (.bool true))).value [] {args:=args,res:=some (.bool true),after:=args} =some (.bool (true == true))from w_eq_bool (w_res rfl) w_lit) rfl
theorem attach_call {l:OpenLaw} {n:Nat} {q:Program} {loose:List Str} {XP:(Str→Option Value)→Heap→Prop} {YP:World→Heap→Prop} {d:DefRec}
  (hn:l.most=some n) (hdf:d.params.defaults=[])
  (call:∀(w:World) (s₀ s₁:Shared) (mg mb:Str→Option Value) (fa:Addr) (o:Obj) (pm cd doc:Value) (a:Addr) (vs:List Value) (ns:List Int),
   Ground q loose [] XP w s₀ mg mb s₁.heap→YP w s₁.heap→
   s₁.heap.get? fa=some o→o.data=.func (docDef d.name d.params d.body d.scope pm cd doc)→s₁.heap.CodeRec cd d.name→mg d.name=some (.ref fa)→
   s₁.heap.get? a=some {cls:=.type "list",data:=.seq vs.toArray}→IntsAre vs ns→ns.length≤n→s₁.gens= #[]→
   codeAny (model l.prog w) callerA (.call (.ref fa) ⟨[.ref a],[]⟩) (fun r s'=>r=.ok (.ret (.bool true))∧OldK s₁.heap s'.heap∧s'.os=s₁.os∧AllBare s'.gens) s₁):
  WalkO q loose XP YP l.row.toRowW d [] (fun f vs=>PySem.call f vs):=by
 intro w s₀ s₁ mg mb G Y fa o pm cd doc dV kV ho hd hcd hD hmg hg args vals as hpre hlay hrd hwl hlo
 obtain rfl:dV=.none:=Dflts.none hD hdf
 obtain rfl:kV=.none:=Dflts.noKw hD
 obtain⟨a,vs,ns,rfl,rfl,hobj,hints,hlen⟩:=lD hn hpre hwl
 refine enter_call (codeAny_mono (call w s₀ s₁ mg mb fa o pm cd doc a vs ns G Y ho (fd_plain hd) hcd hmg hobj hints hlen hg) fun r s' hq=>?_)
 obtain⟨rfl,h2,h3,h4⟩:=hq
 exact⟨.inl ⟨.bool true,.bool true,[],rfl,fun _=>rfl,.bool true,lE l _,fun _=>⟨List.Pairwise.nil,fun _ hm=>(nomatch hm)⟩⟩,h2,h3,h4⟩
end Att
namespace L2
open PySem PySem.Spec PyProof.Rows
theorem hJ:∀{vs:List Value} {ns:List Int},IntsAre vs ns→Vals (ns.map V.int) vs
 | _,_,.nil=>.nil
 | _,_,.cons n t h=>.cons ⟨t,rfl⟩ (hJ h)
def rg (H:Hp):Prop:=∀b,H b=none∨∃o xs,H b=some (.frz o (.lst xs))
theorem mV {P:Program} {w:World} {K:PySem.W.Frag} {mg mb:Str→Option Value} {CX:CXT} {k:Nat} {fa a:Addr} {fd:FuncData} {x:Str} {sp:Sp} {s₁:Shared} {vs:List Value} {ns:List Int}
  (KX:K.In s₁.heap) (hns:s₁.heap.Ns mainGlobals mg) (hb:s₁.heap.Ns builtinsNs mb) (hbb:∀x:Str,x≠"__name__" →mb x=bootBuiltins x) (hlim:s₁.heap.NoLimit) (hg:s₁.gens= #[])
  (ha:s₁.heap.get? a=some {cls:=.type "list",data:=.seq vs.toArray}) (hi:IntsAre vs ns) (hl:ns.length≤sizeLine) (hr:Room k callerA)
  (F:∀base:Heap,K.In base→base.Ns mainGlobals mg→FnOk P w K mg base CX k fa fd [x] sp) (hbind:∀(s:Shared) (u:Value),BindsTo s fd ⟨[u],[]⟩ [(x,u)])
  (hsp:∀H:Hp,rg H→SqL K H a (ns.map V.int)→sp [.ref a] H (fun v _=>v=.bl true) fun _ _ _=>False)
  (hCX:∀H e s',CX [] H s₁ (fun _ _ _=>False) e s'→False):
  codeAny (model P w) callerA (.call (.ref fa) ⟨[.ref a],[]⟩) (fun r s'=>r=.ok (.ret (.bool true))∧OldK s₁.heap s'.heap∧s'.os=s₁.os∧AllBare s'.gens) s₁:=by
 have rv:=hJ hi
 have lenV:=hi.length
 have core:∀H:Hp,rg H→SqL K H a (ns.map V.int)→HOk P w H s₁.heap→(∀b,H b≠none→b=a)→(H a≠none→K.lookup a=none)→
   codeAny (model P w) callerA (.call (.ref fa) ⟨[.ref a],[]⟩) (fun r s'=>r=.ok (.ret (.bool true))∧OldK s₁.heap s'.heap∧s'.os=s₁.os∧AllBare s'.gens) s₁:=by
  intro H hO hS hok hA hK
  have base_of:∀{b:Addr} {o:Obj},s₁.heap.get? b=some o→H b=none→(ii s₁.heap H).get? b=some o:=fun e n=>mC e n
  have noA:∀{b:Addr} {o:Obj} {es:Array DictEntry} {ep:Nat},s₁.heap.get? b=some o→o.data=.dict es ep→H b=none:=fun {b o es ep} e d=>by
   cases q:H b with
   | none=>rfl
   | some u =>
    have e':b=a:=hA b (by rw[q];simp)
    subst e'
    rw[ha]at e;cases e
    have d':Data.seq vs.toArray _=Data.dict es ep:=d
    cases d'
  have nsK:∀{b:Addr} {m:Str→Option Value},s₁.heap.Ns b m→(ii s₁.heap H).Ns b m:=fun {b m} ⟨o,es,ep,e,d,r⟩=>⟨o,es,ep,base_of e (noA e d),d,r⟩
  have hKb:K.In (ii s₁.heap H):=fun b o e=>base_of (KX b o e) (by
   cases q:H b with
   | none=>rfl
   | some u =>
    have e':b=a:=hA b (by rw[q];simp)
    subst e'
    rw[hK (by rw[q];simp)]at e;cases e)
  have hM:Mod K mg (ii s₁.heap H):=⟨hKb,nsK hns,⟨mb,nsK hb,hbb⟩,let ⟨mc,h1,h2⟩:=hlim;⟨mc,nsK h1,h2⟩⟩
  have e0:Env0 P w K mg (ii s₁.heap H) callerA [] s₁ H:=⟨rfl,hM,fun b o e=>p8 e,Nat.le_of_eq (ls _ _),trivial,fun b hb=>absurd (show b∈([]:List Addr)from hb) (by simp),hok,.of_eq hg⟩
  refine codeAny_mono ((F _ hKb (nsK hns)).run callerA [] s₁ H ⟨[.ref a],[]⟩ [.ref a] [.ref a] _ _ hr e0 (hbind s₁ (.ref a)) (.cons rfl .nil) (hsp H hO hS)) fun r s' h=>?_
  cases r with
  | error e=>exact(hCX H e s' h).elim
  | ok fl =>
   cases fl with
   | next=>exact False.elim h
   | brk=>exact False.elim h
   | cont=>exact False.elim h
   | ret u =>
    obtain⟨v,H',os,bare,un,hok',r',q⟩:=h
    have q':v=.bl true:=q
    subst q'
    obtain rfl:u=Value.bool true:=r'
    refine⟨rfl,OldK.of_keep fun b o e=>?_,os,bare⟩
    cases q:H b with
    | none=>exact un.keep b o e q (by intro z;exact absurd (show b∈([]:List Addr)from z) (by simp)) (by simp)
    | some u =>
     rcases hO b with z | ⟨ob,xs,z⟩
     ·rw[q]at z;cases z
     ·have z2:=un.frzs b ob _ z
      obtain⟨e1,_⟩:=hok b _ z
      obtain⟨e2,_⟩:=hok' b _ z2
      rw[e]at e1;cases e1
      exact e2
 cases hk:K.lookup a with
 | some o =>
  have e:=KX a o hk
  rw[ha]at e
  cases e
  refine core (fun _=>none) (fun _=>.inl rfl) (.inr ⟨_,vs.toArray,_,hk,rfl,rfl,rfl,by rw[List.size_toArray,lenV];exact hl,by simpa using rv⟩) (fun b u z=>by have z':(none:Option HO)=some u:=z;cases z') (fun b z=>absurd rfl z) fun z=>absurd rfl z
 | none =>
  refine core (fun b=>if b=a then some (.frz {cls:=.type "list",data:=.seq vs.toArray} (.lst (ns.map V.int)))else none) (fun b=>?_) (.inl (.inr ⟨{cls:=.type "list",data:=.seq vs.toArray},if_pos rfl⟩)) (fun b u z=>?_) (fun b z=>?_) fun _=>hk
  ·by_cases hb:b=a
   ·exact .inr ⟨_,_,if_pos hb⟩
   ·exact .inl (if_neg hb)
  ·by_cases hb:b=a
   ·have z':=(if_pos hb).symm.trans z
    cases z'
    subst hb
    exact⟨ha,by rw[List.length_map];exact hl,vs,_,rv,ha⟩
   ·have z':=(if_neg hb).symm.trans z
    cases z'
  ·by_cases hb:b=a
   ·exact hb
   ·exact absurd (if_neg hb) z
end L2
namespace L2
open PySem PySem.Spec PyProof.Rows
theorem walk_of {l:PySem.W.OpenLaw} {n k:Nat} {q:Program} {loose:List Str} {XP:(Str→Option Value)→Heap→Prop} {YP:World→Heap→Prop} {d:DefRec} {K:Params→PySem.W.Frag} {CX:World→CXT} {sp:World→Sp} {x:Str}
  (hn:l.most=some n) (hn2:n≤sizeLine) (hdf:d.params.defaults=[]) (hr:Room k callerA)
  (hY:∀(w:World) (h:Heap),YP w h→(K w.params).In h)
  (F:∀(w:World) (mg:Str→Option Value) (fa:Addr) (h:Heap),(K w.params).In h→h.Ns mainGlobals mg→mg d.name=some (.ref fa)→
   ∃ fd : FuncData, (∀ (s : Shared) (u : Value), BindsTo s fd ⟨[u], []⟩ [(x, u)]) ∧
    ∀base:Heap,(K w.params).In base→base.Ns mainGlobals mg→FnOk l.prog w (K w.params) mg base (CX w) k fa fd [x] (sp w))
  (hsp:∀(w:World) (H:Hp) (a:Addr) (ns:List Int),ns.length≤n→rg H→SqL (K w.params) H a (ns.map V.int)→sp w [.ref a] H (fun v _=>v=.bl true) fun _ _ _=>False)
  (hCX:∀(w:World) (H:Hp) (s:Shared) (e:Value) (s':Shared),CX w [] H s (fun _ _ _=>False) e s'→False):
  PySem.W.WalkO q loose XP YP l.row.toRowW d [] (fun f vs=>PySem.call f vs):=by
 refine Att.attach_call hn hdf fun w s₀ s₁ mg mb fa o pm cd doc a vs ns G Y ho hd hcd hmg hobj hints hlen hg=>?_
 have KX:=hY w _ Y
 obtain⟨fd,hb,hF⟩:=F w mg fa _ KX G.T.g hmg
 exact mV KX G.T.g G.T.b G.T.builtins G.T.nolimit hg hobj hints (Nat.le_trans hlen hn2) hr hF hb (fun H hO hS=>hsp w H a ns hlen hO hS) fun H e s'=>hCX w H s₁ e s'
end L2
namespace L2
open PySem PySem.Spec PyProof.Rows
def defArgs (s:Stmt):Arguments:=match s with
 | .FunctionDef _ a _ _ _ _ _ _ _ _=>a
 | _=>{posonlyargs:=[],args:=[],vararg:=none,kwonlyargs:=[],kw_defaults:=[],kwarg:=none,defaults:=[]}
def defBody (s:Stmt):List Stmt:=match s with
 | .FunctionDef _ _ b _ _ _ _ _ _ _=>b
 | _=>[]
def defScope (s:Stmt):Scope:=match s with
 | .FunctionDef _ _ _ _ _ _ sc _ _ _=>sc
 | _=>{kind:=.function,names:=[],isGenerator:=false,isCoroutine:=false}
abbrev CX0:CXT:=fun _ _ _ _ _ _=>False
abbrev E0:XK:=fun _ _ _=>False
theorem kF {X:Cx} :dk CX0 X E0:=fun _ _ _ _ _ _ _ h=>h.elim
structure Fun (K:PySem.W.Frag) (x qual:Str) (st:Stmt) (f:Addr) (fd:FuncData):Prop where
 ex:∃(oc:Value) (od:Option Addr) (kV doc pm:Value) (an:Option Addr) (cdv ct:Value) (osl:Array (Option Value)),
  fd=PySem.W.fnOf x qual (defArgs st) (defBody st) (defScope st) .none kV doc pm an cdv ct∧K.lookup f=some ⟨oc,od,.func fd,osl⟩∧PySem.W.codeIn K cdv qual=true
 kp:PySem.W.keepIn K (.ref f)=true
section
variable {P:Program} {w:World} {K:PySem.W.Frag} {mg:Str→Option Value} {base:Heap}
theorem Fun.ok {x qual:Str} {st:Stmt} {f:Addr} {fd:FuncData} {N ps:List Str} {k:Nat} {sp:Sp} (F:Fun K x qual st f fd) (S:FnScope N ps (defScope st)) (len:∀vs H Q E,sp vs H Q E→vs.length=ps.length)
  (hbody:∀(cdv:Value) (A:Around) (outer:List Env) (s:Shared) (H:Hp) (vs:List V) (Q:VK) (E:XK),Room k (A.deeper (envOfC qual (defScope st) s.heap.objs.size f cdv))→sp vs H Q E→
   ∃t,PSs (gf CX0 P w K mg base N qual (defScope st) f cdv A outer s H E).nox (defBody st) t∧t {nx:=fun _ H'=>Q .non H',rt:=Q} (start N vs) H):FnOk P w K mg base CX0 (k+1) f fd ps sp:=by
 obtain⟨oc,od,kV,doc,pm,an,cdv,ct,osl,rfl,lk,hcd⟩:=F.ex
 refine qD lk hcd S len fun A outer s H vs Q E hr hsp=>?_
 obtain⟨t,h,q⟩:=hbody cdv A outer s H vs Q E hr hsp
 exact⟨t,h.nox,q⟩
theorem Fun.binds {x qual:Str} {st:Stmt} {f:Addr} {fd:FuncData} {ps:List Str} (F:Fun K x qual st f fd)
  (h:∀(kV doc pm:Value) (an:Option Addr) (cdv ct:Value) (us:List Value),us.length=ps.length→bindArgs (PySem.W.fnOf x qual (defArgs st) (defBody st) (defScope st) .none kV doc pm an cdv ct) ⟨us,[]⟩=pure (ps.zip us)):Binds K fd ps []:=by
 obtain⟨oc,od,kV,doc,pm,an,cdv,ct,osl,rfl,lk,hcd⟩:=F.ex
 exact .all (h kV doc pm an cdv ct)
theorem bO {x qual:Str} {st:Stmt} {f:Addr} {oc:Value} {od an:Option Addr} {osl:Array (Option Value)} {kV doc pm cdv ct:Value} (l:K.lookup f=some ⟨oc,od,.func (PySem.W.fnOf x qual (defArgs st) (defBody st) (defScope st) .none kV doc pm an cdv ct),osl⟩)
  (c:PySem.W.codeIn K cdv qual=true) (k:PySem.W.keepIn K (.ref f)=true):Fun K x qual st f (PySem.W.fnOf x qual (defArgs st) (defBody st) (defScope st) .none kV doc pm an cdv ct):=⟨⟨oc,od,kV,doc,pm,an,cdv,ct,osl,rfl,l,c⟩,k⟩
end
section
variable {X:Cx}
theorem pv (i:Nat) {x:Str} {pos:Pos} (hN:X.N[i]? =some x:=by rfl) (hv:Vis X.env.scope x:=by first | exact Or.inl rfl | exact Or.inr (Or.inl rfl) | exact Or.inr (Or.inr rfl)) (hd:(x == ("__debug__" :Str))=false:=by decide)
  (hcd:(x == ("__classdict__" :Str))=false:=by decide):PE X (.Name x pos) (aZ i):=qT hN hv hd hcd
end
def Same (H H':Hp):Prop:=∀b o,H b=some o→H' b=some o
theorem Same.refl (H:Hp):Same H H:=fun _ _ h=>h
theorem Same.trans {H H1 H2:Hp} (a:Same H H1) (b:Same H1 H2):Same H H2:=fun c o h=>b c o (a c o h)
theorem Same.seq {K:PySem.W.Frag} {H H':Hp} {a:Addr} {xs:List V} (e:Same H H') (h:SqL K H a xs):SqL K H' a xs:=by
 rcases h with(h | ⟨o,h⟩) | h
 ·exact .inl (.inl (e _ _ h))
 ·exact .inl (.inr ⟨o,e _ _ h⟩)
 ·exact .inr h
end L2
set_option maxHeartbeats 4000000
namespace L2
open PySem PySem.Spec PyProof.Rows
abbrev sOf (l:List Nat):Str:=⟨l.toArray⟩
theorem cN (l:List Nat):(sOf l).length=l.length:=by simp[Str.length,sOf]
theorem eg (l:List Nat):(sOf l).cps.toList=l:=by simp[sOf]
theorem eK (a b:List Nat):sOf a++sOf b=sOf (a++b):=by
 apply PySem.Str.ext'
 rw[PySem.Str.cps_append]
 simp[sOf]
theorem iq {a b:List Nat} (h:sOf a=sOf b):a=b:=by
 have:=congrArg (fun x=>x.cps.toList) h
 simpa [sOf] using this
theorem rh (x:Str):x=sOf x.cps.toList:=by cases x;simp[sOf]
section
variable {X:Cx}
theorem gh:OpR X (compareOp .Is) (fun x y H Q=>∃c,y=.bl c∧Q (.bl (decide (x=.bl c))) H):=by
 intro pins s σ H x y v u Q I rx ry h
 obtain⟨c,rfl,q⟩:=h
 cases ry
 cases x with
 | bl b=>cases rx;exact is_bool (aH I q (by cases b <;> cases c <;> simp))
 | non=>cases rx;exact wpAny_pure (aH I q (by simp))
 | int i=>obtain⟨t,rfl⟩:=rx;exact wpAny_pure (aH I q (by simp))
 | str i=>obtain⟨t,rfl⟩:=rx;exact wpAny_pure (aH I q (by simp))
 | byt i=>obtain⟨t,rfl⟩:=rx;exact wpAny_pure (aH I q (by simp))
 | flt i=>obtain⟨t,rfl⟩:=rx;exact wpAny_pure (aH I q (by simp))
 | ref a=>cases rx;exact wpAny_pure (aH I q (by simp))
 | ty a=>cases rx;exact wpAny_pure (aH I q (by simp))
theorem hR:OpR X (compareOp .LtE) (fun x y H Q=>∃i j,x=.str i∧y=.str j∧Q (.bl (!decide (j.cps.toList< i.cps.toList))) H):=by
 intro pins s σ H x y v u Q I rx ry h
 obtain⟨i,j,rfl,rfl,q⟩:=h
 obtain⟨t,rfl⟩:=rx
 obtain⟨t',rfl⟩:=ry
 exact PySem.P.le_str (aH I q rfl)
end
end L2
namespace L2
open PySem PySem.Spec PyProof.Rows
section
variable {X:Cx}
theorem iZ:df X (.builtin "isinstance") (fun xs H Q=>∃x T t b,xs=[x,.ty T]∧TyOf X.K H x t∧PySem.W.kitOne X.K t (.type T)=some b∧Q (.bl b) H):=by
 intro pins s σ H xs us Q I r h
 obtain⟨x,T,t,b,rfl,ty,e,q⟩:=h
 obtain⟨u,w',rfl,rx,rT⟩:=kC r
 obtain rfl:w'=.type T:=rT
 exact lB I rx ty e fun tk=>⟨.bl b,H,I.tok _,rfl,q⟩
end
end L2
namespace L2
open PySem PySem.Spec PyProof.Rows
def bB (env:Env):List (Str×NameKind)→List (Str×Addr)→List (Str×Addr)
 | [],acc=>acc
 | (n,k)::r,acc=>bB env r (if(k == .free)=true then(n,(env.cells.lookup n).getD 0)::acc else acc)
theorem cO {scope:Scope} {env:Env} (h:∀x∈scope.names,x.2=.free→∃c,env.cells.lookup x.1=some c):closureFor scope env=pure (bB env scope.names []):=by
 simp only[closureFor]
 have key:∀(names:List (Str×NameKind)) (acc:List (Str×Addr)),(∀x∈names,x.2=.free→∃c,env.cells.lookup x.1=some c)→
   (forIn names acc fun(x:Str×NameKind) (cs:List (Str×Addr))=>if(x.2 == .free)=true then(do let a ←cellOf env x.1;pure (ForInStep.yield ((x.1,a)::cs)))else pure (ForInStep.yield cs))=(pure (bB env names acc):Sem _):=by
  intro names
  induction names with
  | nil=>intro acc _;rfl
  | cons x r ih =>
   intro acc hx
   obtain⟨n,k⟩:=x
   rw[List.forIn_cons]
   have hr:∀y∈r,y.2=.free→∃c,env.cells.lookup y.1=some c:=fun y hy=>hx y (List.mem_cons_of_mem _ hy)
   unfold bB
   by_cases hk:(k == NameKind.free)=true
   ·obtain⟨c,hc⟩:=hx (n,k) List.mem_cons_self (by simpa using hk)
    have hc:env.cells.lookup n=some c:=hc
    simp only[hk,if_true]
    unfold cellOf
    simp only[hc,Option.getD_some]
    exact ih _ hr
   ·simp only[hk,if_false]
    exact ih _ hr
 have:=key scope.names [] h
 rw[this]
 rfl
theorem dU {env:Env} {x:Str} {c:Addr} :∀(names:List (Str×NameKind)) (acc:List (Str×Addr)),(∀y∈names,y.2=.free→∃c,env.cells.lookup y.1=some c)→(bB env names acc).lookup x=some c→
  ((x,NameKind.free)∈names∧env.cells.lookup x=some c)∨acc.lookup x=some c
 | [],_,_,h=>.inr h
 | (n, k) :: r, acc, hx, h => by
  unfold bB at h
  rcases dU r _ (fun y hy=>hx y (List.mem_cons_of_mem _ hy)) h with⟨q1,q2⟩ | q
  ·exact .inl ⟨List.mem_cons_of_mem _ q1,q2⟩
  ·by_cases hk:(k == NameKind.free)=true
   ·rw[if_pos hk]at q
    have hk':k=.free:=by simpa using hk
    subst hk'
    rw[List.lookup_cons]at q
    cases hb:x == n with
    | true =>
     rw[hb]at q
     have e:x=n:=beq_iff_eq.mp hb
     subst e
     obtain⟨c',hc⟩:=hx (x,.free) List.mem_cons_self rfl
     have hc:env.cells.lookup x=some c':=hc
     rw[hc]at q
     simp at q
     subst q
     exact .inl ⟨List.mem_cons_self,hc⟩
    | false=>rw[hb]at q;exact .inr q
   ·rw[if_neg hk]at q;exact .inr q
theorem fH {env:Env} {x:Str} {c:Addr} :∀(names:List (Str×NameKind)) (acc:List (Str×Addr)),acc.lookup x=some c→env.cells.lookup x=some c→(bB env names acc).lookup x=some c
 | [],_,h,_=>h
 | (n, k) :: r, acc, h, he => by
  unfold bB
  refine fH r _ ?_ he
  by_cases hk:(k == NameKind.free)=true
  ·rw[if_pos hk,List.lookup_cons]
   cases hb:x == n with
   | true =>
    have e:x=n:=beq_iff_eq.mp hb
    subst e
    simp[he]
   | false=>exact h
  ·rw[if_neg hk];exact h
theorem fI {env:Env} {x:Str} {c:Addr} :∀(names:List (Str×NameKind)) (acc:List (Str×Addr)),(x,NameKind.free)∈names→env.cells.lookup x=some c→(bB env names acc).lookup x=some c
 | (n, k) :: r, acc, h, he => by
  unfold bB
  rcases List.mem_cons.mp h with e | h
  ·cases e
   exact fH r _ (by simp[he]) he
  ·exact fI r _ h he
theorem bT:∀(names:List (Str×NameKind)) (n:Nat) (acc:List (Str×Addr)),cellsFrom n names acc=cellsFrom n names []++acc
 | [],_,_=>rfl
 | (x, k) :: r, n, acc => by
  unfold cellsFrom
  split
  ·rw[bT r _ ((x,n)::acc),bT r _ [(x,n)],List.append_assoc];rfl
  ·exact bT r n acc
theorem cU:∀(names:List (Str×NameKind)) (n:Nat) {x:Str} {c:Addr},(x,c)∈cellsFrom n names []→(x,NameKind.cell)∈names
 | [],_,_,_,h=>by cases h
 | (y, k) :: r, n, x, c, h => by
  unfold cellsFrom at h
  split at h
  ·rename_i hk
   rw[bT]at h
   rcases List.mem_append.mp h with h | h
   ·exact List.mem_cons_of_mem _ (cU r _ h)
   ·have e:(x,c)=(y,n):=by simpa using h
    cases e
    have hk':k=.cell:=by simpa using hk
    subst hk'
    exact List.mem_cons_self
  ·exact List.mem_cons_of_mem _ (cU r _ h)
theorem eL {M:Model} {A:Around} {E:Value→Shared→Prop} {s:Shared} {scope:Scope} {env:Env} {cl:List (Str×Addr)} {Q:Env→Shared→Prop}
  (hQ:Q (newEnv scope s.heap.objs.size env.globals (cellsFrom (s.heap.objs.size+1) scope.names cl) env.qual none .none (some env) builtinsNs) {s with heap:=pushCells (s.heap.push {cls:=.type "dict",data:=.dict #[]}) scope.names}):
  wpAny M A (newFunctionEnv scope env.globals cl [] env.qual none .none (some env)) Q E s:=by
 simp only[newFunctionEnv,Option.isSome_some,if_true]
 refine wpAny_bind (wpAny_alloc ?_)
 refine wpAny_bind (wpAny_layCells _ (fun name kind cells=>by cases hkc:kind == NameKind.cell <;> simp[hkc]) _ _ _ _ ?_)
 rw[show({s with heap:=s.heap.push {cls:=.type "dict",data:=.dict #[]}} :Shared).heap.objs.size=s.heap.objs.size+1 from Heap.size_push ..]
 simp only[List.forIn_nil]
 exact wpAny_bind (wpAny_pure (wpAny_pure hQ))
section
variable {prog:Program} {w:World} {A:Around} {R:Result→Shared→Prop} {s:Shared}
theorem eX {elt target iter:Expr} {ifs:List Expr} {scope:Scope} {pos:Pos} {it acc:Value} {env:Env} (I:Nat→Shared→Prop)
  (turn:∀n s,I n s→wpAny (model prog w) A (pyNext it) (fun r s₁=>match r with
   | none=>R (.ok .next) s₁
   | some v=>wpAny (model prog w) A (letOwnedTupleGo target it v) (fun _ s₁'=>wpAny (model prog w) A (assign target env v) (fun _ s₂=>
     wpAny (model prog w) A (forIn ifs true fun c r=>if r=true then do let ok ←isTrue c env (eval c env);pure (ForInStep.yield ok)else pure (ForInStep.yield r)) (fun ok s₃=>
      if ok=true then wpAny (model prog w) A (eval elt env) (fun x s₄=>
       wpAny (model prog w) A (call (.builtin "list.append") [acc,x]) (fun _ s₅=>∃m,m< n∧I m s₅) (fun _ _=>False) s₄) (fun _ _=>False) s₃
      else ∃m,m< n∧I m s₃) (fun _ _=>False) s₂) (fun _ _=>False) s₁') (fun _ _=>False) s₁) (fun _ _=>False) s)
  (n:Nat) (h:I n s):codeAny (model prog w) A (.compLoop (.ListComp elt [⟨target,iter,ifs,0⟩] scope pos) 0 it acc env) R s:=by
 refine codeAny_loop rfl I (fun n s hI=>?_) n h
 show wpAny _ A ((compTurn (.ListComp elt [⟨target,iter,ifs,0⟩] scope pos) 0 it acc env).onRaise (fun x=>do noteFrame x env;theTreesLotGoes x)) _ _ s
 refine wpAny_noted ?_
 rw[compTurn_list]
 refine wpAny_bind (wpAny_standAt (wpAny_bind (wpAny_mono (turn n s hI) (fun r s₁ h₁=>?_) fun _ _ h'=>h'.elim)))
 cases r with
 | none=>exact wpAny_pure h₁
 | some v =>
  refine wpAny_bind (wpAny_mono h₁ (fun _ s₁' h₁'=>?_) fun _ _ h'=>h'.elim)
  refine wpAny_bind (wpAny_mono h₁' (fun _ s₂ h₂=>wpAny_bind (wpAny_mono h₂ (fun ok s₃ h₃=>?_) fun _ _ h'=>h'.elim)) fun _ _ h'=>h'.elim)
  cases ok with
  | true =>
   rw[if_pos rfl]at h₃
   exact wpAny_bind (wpAny_bind (wpAny_mono h₃ (fun x s₄ h₄=>wpAny_bind (wpAny_mono h₄ (fun _ s₅ h₅=>wpAny_pure (wpAny_pure ⟨rfl,h₅⟩)) fun _ _ h'=>h'.elim)) fun _ _ h'=>h'.elim))
  | false =>
   rw[if_neg Bool.false_ne_true]at h₃
   exact wpAny_pure ⟨rfl,h₃⟩
end
def mW (scope:Scope) (x:Str):Bool:=scope.names.lookup x == some .local || scope.names.lookup x == some .cell
def ah (X:Cx) (scope:Scope) (N:List Str) (s:Shared) (H:Hp) (C:Addr) (fp:List Addr):Cx:=
 {X with N:=N,s₀:=s,H₀:=H,env:=compEnvC scope (cellsFrom (C+1) scope.names (bB X.env scope.names [])) C X.env,outer:=X.stack,ex:=fp,fn:=mW scope,pn:=[],xe:=fun _ _=>False}
def aW (cap:List (Option Nat)) (σ:St):St:=cap.map fun o=>o.bind fun j=>(σ[j]?).bind id
structure CompScope (X:Cx) (scope:Scope) (N:List Str) (cap:List (Option Nat)):Prop where
 kind:scope.kind=.function
 nd:N.Nodup
 len:cap.length=N.length
 uniq:(scope.names.map (·.1)).Nodup
 free:∀x∈scope.names,x.2=.free→(X.env.kindOf x.1=some .cell∨X.env.kindOf x.1=some .free)
 cap:∀(k:Nat) (x:Str) (j:Nat),N[k]? =some x→cap[k]? =some (some j)→X.N[j]? =some x∧(x,NameKind.free)∈scope.names
theorem cn {α:Type} :∀{l:List (Str×α)} {x:Str} {k:α},(l.map (·.1)).Nodup→(x,k)∈l→l.lookup x=some k
 | (y, j) :: r, x, k, nd, h => by
  obtain⟨n1,n2⟩:=List.nodup_cons.mp (show(y::r.map (·.1)).Nodup from nd)
  rw[List.lookup_cons]
  rcases List.mem_cons.mp h with e | h
  ·cases e;simp
  ·have:(x == y)=false:=beq_eq_false_iff_ne.mpr fun e=>n1 (e▸List.mem_map.mpr ⟨(x,k),h,rfl⟩)
   rw[this]
   exact cn n2 h
theorem d0 {env:Env} :∀{names:List (Str×NameKind)} {x:Str},(names.map fun(p:Str×NameKind)=>if(p.2 == NameKind.free && env.scope.kind == .function && env.kindOf p.1 == some .cell)=true then(p.1,NameKind.cell)else(p.1,p.2)).lookup x=
  (names.lookup x).map fun k=>if(k == NameKind.free && env.scope.kind == .function && env.kindOf x == some .cell)=true then .cell else k
 | [],_=>rfl
 | (n, k) :: r, x => by
  rw[List.map_cons]
  have ih:= @d0 env r x
  by_cases hx:x=n
  ·subst hx
   by_cases hc:(k == NameKind.free && env.scope.kind == .function && env.kindOf x == some .cell)=true
   ·simp only[hc,if_true,List.lookup_cons,beq_self_eq_true,Option.map_some]
   ·rw[if_neg hc,List.lookup_cons,List.lookup_cons,beq_self_eq_true];simp only[Option.map_some];rw[if_neg hc]
  ·have hb:(x == n)=false:=beq_eq_false_iff_ne.mpr hx
   by_cases hc:(k == NameKind.free && env.scope.kind == .function && env.kindOf n == some .cell)=true
   ·simp only[hc,if_true,List.lookup_cons,hb];exact ih
   ·rw[if_neg hc,List.lookup_cons,List.lookup_cons,hb];exact ih
end L2
namespace L2
open PySem PySem.Spec PyProof.Rows
def kG (X:Cx) (ifs:List Expr) (t:TT):Prop:=
 ∀ (pins : List (Addr × Obj)) (s : Shared) (σ : St) (H : Hp) (Q : Bool → Hp → Prop), Inv X pins σ H s → t σ H Q →
  wpAny (model X.prog X.w) X.A (forIn ifs true fun c r=>if r=true then do let ok ←isTrue c X.env (eval c X.env);pure (ForInStep.yield ok)else pure (ForInStep.yield r)) (TP X pins σ Q) X.xe s
def pw:TT:=fun _ H Q=>Q true H
theorem cq {X:Cx} :kG X [] pw:=fun _ _ _ H _ I h=>wpAny_tests_nil ⟨H,I,h⟩
theorem kH {X:Cx} {c:Expr} {t:TT} (h:PT X c t):kG X [c] t:=fun pins s σ H Q I hq=>wpAny_tests_one (h pins s σ H Q I hq)
def Keep:St→St→Prop
 | [],_=>True
 | none::a,_::b=>Keep a b
 | some v::a,some u::b=>v=u∧Keep a b
 | _,_=>False
theorem Keep.get:∀{a b:St} {j:Nat} {v:V},Keep a b→a[j]? =some (some v)→b[j]? =some (some v)
 | [],_,_,_,_,h=>by simp at h
 | none::a,_::b,0,_,_,h=>by simp at h
 | none::a,_::b,j+1,v,k,h=>Keep.get (j:=j) (a:=a) (b:=b) k h
 | some w :: a, some u :: b, 0, v, k, h => by
  have e:w=u:=k.1
  subst e
  exact h
 | some w::a,some u::b,j+1,v,k,h=>Keep.get (j:=j) (a:=a) (b:=b) k.2 h
 | none::_,[],_,_,k,_=>k.elim
 | some _::_,[],_,_,k,_=>k.elim
 | some _::_,none::_,_,_,k,_=>k.elim
def su (cap:List (Option Nat)) (g:TG) (tf:TT) (te:TE) (σ:St) (H1:Hp) (Q:VK) (J:It):Prop:=∃W:Nat→Nat→List V→Hp→Prop,(∃m,W 0 m [] H1)∧∀i m ys H,W i m ys H→ys.length< sizeLine∧
  ((J.stop i H∧∀D,H D=none→Q (.ref D) (bQ H D (.lst ys)))∨
   (J.go i H∧∃N:List V→Hp→Prop,(∀ys' H',N ys' H'→∃m',m'< m∧W (i+1) m' ys' H')∧∀x H',J.yld i H x H'→g x (aW cap σ) H' fun σ2 H2=>Keep (aW cap σ) σ2∧tf σ2 H2 fun b H3=>if b=true then te σ2 H3 fun y H4=>N (ys++ [y]) H4 else N ys H3))
def hU (cap:List (Option Nat)) (wi:TI) (g:TG) (tf:TT) (te:TE):TE:=fun σ H Q=>wi σ H fun J H1=>su cap g tf te σ H1 Q J
theorem cf {X:Cx} {scope:Scope} {C:Addr} {x:Str} {c:Addr} (frc:∀x∈scope.names,x.2=.free→∃c,X.env.cells.lookup x.1=some c)
  (h:(cellsFrom (C+1) scope.names (bB X.env scope.names [])).lookup x=some c):(x,c)∈cellsFrom (C+1) scope.names []∨((x,NameKind.free)∈scope.names∧X.env.cells.lookup x=some c):=by
 rw[bT,List.lookup_append]at h
 cases e:(cellsFrom (C+1) scope.names []).lookup x with
 | some d =>
  rw[e]at h
  have h:some d=some c:=h
  cases h
  exact .inl (PySem.mem_of_lookup e)
 | none =>
  rw[e]at h
  have h:(bB X.env scope.names []).lookup x=some c:=h
  rcases dU _ _ frc h with q | q
  ·exact .inr q
  ·cases q
theorem j0 {X:Cx} {scope:Scope} {C:Addr} {x:Str} {c:Addr} (uq:(scope.names.map (·.1)).Nodup) (hx:(x,NameKind.free)∈scope.names) (hc:X.env.cells.lookup x=some c):
  (cellsFrom (C+1) scope.names (bB X.env scope.names [])).lookup x=some c:=by
 rw[bT,List.lookup_append]
 cases e:(cellsFrom (C+1) scope.names []).lookup x with
 | some d =>
  have h1:=cn uq (cU _ _ (PySem.mem_of_lookup e))
  have h2:=cn uq hx
  rw[h1]at h2;cases h2
 | none=>exact fI _ _ hx hc
section
variable {X:Cx} {scope:Scope} {N:List Str} {cap:List (Option Nat)} {pins:List (Addr×Obj)} {σ:St} {H:Hp} {s:Shared} {C:Addr} {fp:List Addr}
theorem lF {h4:Heap} (S:CompScope X scope N cap) (I:Inv X pins σ H s) (hC:s.heap.objs.size≤C) (ck:CellsOk h4 (C+1) (cellsFrom (C+1) scope.names []))
  (hf:∀b∈fp,FpOk X pins H b) (hlt:∀b∈fp,b< C):(ah X scope N s H C fp).Ok:=by
 have frc:∀x∈scope.names,x.2=.free→∃c,X.env.cells.lookup x.1=some c:=fun x hx hk=>I.ok.has x.1 (S.free x hx hk)
 have old:∀x c,X.env.cells.lookup x=some c→c< C:=fun x c e=>by
  obtain⟨v,q⟩:=I.cell x c e
  exact Nat.lt_of_lt_of_le q.lt hC
 have own:∀x c,(x,c)∈cellsFrom (C+1) scope.names []→C< c:=fun x c e=>(ck.empty x c e).2
 refine⟨I.ok.mod,S.kind,I.ok.glob,I.ok.blt,hC,fun x y c h1 h2=>?_,fun x hx=>?_,fun x c hfn h=>?_,I.ok.hd,I.ok.frames,.inl rfl,fun b hb=>⟨Nat.ne_of_lt (hlt b hb),fun x c h=>?_⟩,I.bs,Nat.le_trans I.ok.bsz I.sz,fun b o e hb=>?_,fun b hb z=>?_,I.stack,I.stkFree⟩
 ·rcases cf frc h1 with a | ⟨a1,a2⟩ <;> rcases cf frc h2 with b | ⟨b1,b2⟩
  ·exact name_of_addr ck.apart a b
  ·exact absurd (Nat.lt_trans (own x c a) (old y c b2)) (Nat.lt_irrefl _)
  ·exact absurd (Nat.lt_trans (own y c b) (old x c a2)) (Nat.lt_irrefl _)
  ·exact I.ok.inj x y c a2 b2
 ·have hx:(relabel scope X.env).names.lookup x=some .cell∨(relabel scope X.env).names.lookup x=some .free:=hx
  have e:(relabel scope X.env).names.lookup x=_:=d0 (env:=X.env) (names:=scope.names) (x:=x)
  rw[e]at hx
  cases q:scope.names.lookup x with
  | none=>rw[q]at hx;rcases hx with z | z <;> cases z
  | some k =>
   have hm:=PySem.mem_of_lookup q
   by_cases hk:k=.free
   ·subst hk
    obtain⟨c,hc⟩:=frc _ hm rfl
    exact⟨c,j0 S.uniq hm hc⟩
   ·have hk':(k == NameKind.free)=false:=by simpa using hk
    rw[q]at hx
    simp only[Option.map_some,hk',Bool.false_and,Bool.false_eq_true,if_false]at hx
    have hkc:k=.cell:=by
     rcases hx with z | z
     ·exact Option.some.inj z
     ·exact absurd (Option.some.inj z) hk
    subst hkc
    exact Option.isSome_iff_exists.mp (PySem.W.cellsFrom_some scope.names (C+1) _ (.inl q))
 ·rcases cf frc h with a | ⟨a1,a2⟩
  ·exact Nat.le_trans hC (Nat.le_of_lt (own x c a))
  ·have q:=cn S.uniq a1
   have z:mW scope x=true:=hfn
   unfold mW at z
   rw[q]at z
   exact absurd z (by decide)
 ·rcases cf frc h with a | ⟨a1,a2⟩
  ·exact Nat.ne_of_gt (Nat.lt_trans (hlt b hb) (own x c a))
  ·exact(hf b hb).2.2.2.2.1 x c a2
 ·rcases (hf b hb).2.2.2.1 with z | z
  ·exact I.ok.noex b o e z
  ·exact absurd (Nat.lt_of_lt_of_le (Nat.lt_of_lt_of_le (Heap.lt_size e) I.ok.bsz) z) (Nat.lt_irrefl _)
 ·rcases List.mem_cons.mp (I.stkSub b z)with q | q
  ·exact(hf b hb).2.1 q
  ·exact(hf b hb).2.2.1 q
theorem eM {s4:Shared} (S:CompScope X scope N cap) (I:Inv X pins σ H s) (hC:s.heap.objs.size≤C) (ck:CellsOk s4.heap (C+1) (cellsFrom (C+1) scope.names []))
  (hf:∀b∈fp,FpOk X pins H b) (hlt:∀b∈fp,b< C) (h4:∃h' tk,s4={s with heap:=h',toks:=tk}) (hn:s4.heap.Ns C fun _=>none) (hk:∀b o,s.heap.get? b=some o→s4.heap.get? b=some o):
  Inv (ah X scope N s H C fp) [] (aW cap σ) H s4:=by
 have frc:∀x∈scope.names,x.2=.free→∃c,X.env.cells.lookup x.1=some c:=fun x hx hk=>I.ok.has x.1 (S.free x hx hk)
 obtain⟨h',tk,rfl⟩:=h4
 refine⟨lF S I hC ck hf hlt,rfl,I.bare,Un.kept hk,⟨_,hn,fun i x v e1 e2 e3=>?_⟩,fun x c h=>?_,I.hok.fresh hC,fun x c h=>?_,fun p hp=>absurd (show p∈([]:List (Addr×Obj))from hp) (by simp),I.hok.kept hk,?_⟩
 ·have e1:N[i]? =some x:=e1
  unfold aW at e2
  rw[List.getElem?_map]at e2
  cases q:cap[i]? with
  | none=>rw[q]at e2;cases e2
  | some o =>
   cases o with
   | none=>rw[q]at e2;cases e2
   | some j =>
    rw[q]at e2
    obtain⟨hj,hm⟩:=S.cap i x j e1 q
    have e2:σ[j]?.bind id=some v:=Option.some.inj e2
    have e2':σ[j]? =some (some v):=by
     cases z:σ[j]? with
     | none=>rw[z]at e2;cases e2
     | some o=>rw[z]at e2;exact congrArg some e2
    have kd:=S.free _ hm rfl
    obtain⟨m,_,hl⟩:=I.loc
    obtain⟨u,r,lk⟩:=hl j x v hj e2' (by rcases kd with z | z;exact .inr (.inl z);exact .inr (.inr z))
    refine⟨u,r,.inr ?_⟩
    rcases lk with⟨z,_⟩ | ⟨_,c,hc,hcell⟩
    ·rcases kd with q | q <;> · rw[show X.env.kindOf x=_ from q]at z;cases z
    ·refine⟨?_,c,j0 S.uniq hm hc,hcell.keeps hk⟩
     have e:(relabel scope X.env).names.lookup x=_:=d0 (env:=X.env) (names:=scope.names) (x:=x)
     rw[cn S.uniq hm]at e
     simp only[Option.map_some]at e
     show(relabel scope X.env).names.lookup x=some .cell∨(relabel scope X.env).names.lookup x=some .free
     rw[e]
     split
     ·exact .inl rfl
     ·exact .inr rfl
 ·rcases cf frc h with a | ⟨a1,a2⟩
  ·exact⟨_,(ck.empty x c a).1⟩
  ·obtain⟨v,q⟩:=I.cell x c a2
   exact⟨v,q.keeps hk⟩
 ·rcases cf frc h with a | ⟨a1,a2⟩
  ·exact I.hok.fresh (Nat.le_trans hC (Nat.le_of_lt (ck.empty x c a).2))
  ·exact I.freeC x c a2
 ·show(aW cap σ).length=N.length
  unfold aW
  rw[List.length_map,S.len]
end
end L2
namespace L2
open PySem PySem.Spec PyProof.Rows
abbrev cI (its:List Value) (k:Nat):Obj:={cls:=.type "list",data:=.seq its.toArray k}
section
variable {X:Cx} {scope:Scope} {N:List Str} {cap:List (Option Nat)} {tg iter elt:Expr} {ifs:List Expr} {pos:Pos} {wi:TI} {g:TG} {tf:TT} {te:TE}
theorem hW (S:CompScope X scope N cap) (hc:X.calm=true)
  (hg:∀s H C fp,PG (ah X scope N s H C fp) tg g) (hf:∀s H C fp,kG (ah X scope N s H C fp) ifs tf) (he:∀s H C fp,PE (ah X scope N s H C fp) elt te)
  {pins:List (Addr×Obj)} {σ:St} {H2:Hp} {s2:Shared} {it:Addr} {fp:List Addr} {tn:Nat→Heap→Prop} {J:It} {Qv:VK} {E:Value→Shared→Prop} {RR:Value→Addr→Result→Shared→Prop}
  (I2:Inv X pins σ H2 s2) (T:Turn X.prog X.w X.K tg J fp it tn) (st2:tn 0 s2.heap) (f2:∀b∈fp,FpOk X pins H2 b) {W:Nat→Nat→List V→Hp→Prop} (w0:∃m,W 0 m [] H2)
  (turn:∀i m ys H,W i m ys H→ys.length< sizeLine∧((J.stop i H∧∀D,H D=none→Qv (.ref D) (bQ H D (.lst ys)))∨
   (J.go i H∧∃N:List V→Hp→Prop,(∀ys' H',N ys' H'→∃m',m'< m∧W (i+1) m' ys' H')∧∀x H',J.yld i H x H'→g x (aW cap σ) H' fun σ2 H2=>Keep (aW cap σ) σ2∧tf σ2 H2 fun b H3=>if b=true then te σ2 H3 fun y H4=>N (ys++ [y]) H4 else N ys H3)))
  (fin:∀(D C:Addr) (σ':St) (H':Hp) (s':Shared) (its:List Value) (k:Nat) (ys:List V),s2.heap.objs.size≤D→s2.heap.objs.size≤C→D≠C→Inv (ah X scope N s2 H2 C fp) [(D,cI its k)] σ' H' s'→Vals ys its→ys.length≤sizeLine→
   Qv (.ref D) (bQ H' D (.lst ys))→RR (.ref D) C (.ok .next) s'):
  wpAny (model X.prog X.w) X.A (newList []) (fun acc s₃=>wpAny (model X.prog X.w) X.A (newFunctionEnv scope X.env.globals (bB X.env scope.names []) [] X.env.qual none .none (some X.env)) (fun cenv s₄=>
   codeAny (model X.prog X.w) X.A (.compStart (.ListComp elt [⟨tg,iter,ifs,0⟩] scope pos) 0 (.ref it) acc {cenv with scope:=relabel scope X.env}) (RR acc cenv.locals) s₄) E s₃) E s2:=by
 refine wpAny_newObj_type (eL ?_)
 generalize hD:s2.heap.objs.size=D
 generalize hH3:s2.heap.push {cls:=.type "list",dict:=none,data:=.seq ([]:List Value).toArray} =h3
 have hz3:h3.objs.size=D+1:=by rw[←hH3,Heap.size_push,hD]
 dsimp only
 have eC:({s2 with heap:=h3} :Shared).heap.objs.size=D+1:=hz3
 rw[show h3.objs.size=D+1 from hz3]
 generalize hH4:pushCells (h3.push {cls:=.type "dict",data:=.dict #[]}) scope.names=h4
 have hz3':(h3.push {cls:=.type "dict",data:=.dict #[]}).objs.size=D+1+1:=by rw[Heap.size_push,hz3]
 have ck:CellsOk h4 (D+1+1) (cellsFrom (D+1+1) scope.names []):=by
  have:=cellsFrom_ok scope.names (h3.push {cls:=.type "dict",data:=.dict #[]}) (D+1+1) [] ⟨fun _ _ hm=>(nomatch hm),List.Pairwise.nil⟩ (by rw[hz3'];exact Nat.le_refl _)
  rw[hz3',hH4]at this
  exact this
 have k23:∀b o,s2.heap.get? b=some o→h3.get? b=some o:=fun b o e=>by rw[←hH3];exact Heap.get?_push_of_some _ e
 have k34:∀b o,h3.get? b=some o→h4.get? b=some o:=fun b o e=>by rw[←hH4];exact pushCells_keeps _ _ b o (Heap.get?_push_of_some _ e)
 have hD4:h4.get? D=some (cI [] 0):=k34 _ _ (by rw[←hH3,←hD];exact Heap.get?_push_size _ rfl)
 have hn4:h4.Ns (D+1) fun _=>none:=by
  rw[←hH4,←hz3]
  exact(Heap.Ns.new h3 (.type "dict")).keeps (pushCells_keeps _ _)
 have fpD:∀b∈fp,b< D:=fun b hb=>by
  obtain⟨o,e,_⟩:=T.obj _ _ st2 b hb
  rw[←hD];exact Heap.lt_size e
 have hlt:∀b∈fp,b< D+1:=fun b hb=>Nat.lt_succ_of_lt (fpD b hb)
 have hDC:s2.heap.objs.size≤D+1:=by rw[hD];exact Nat.le_succ _
 have hDs:s2.heap.objs.size≤D:=by rw[hD];exact Nat.le_refl _
 have IC:Inv (ah X scope N s2 H2 (D+1) fp) [] (aW cap σ) H2 {s2 with heap:=h4} :=
  eM S I2 hDC ck f2 hlt ⟨_,_,rfl⟩ hn4 fun b o e=>k34 b o (k23 b o e)
 have okC:=IC.ok
 have nfs:∀{b:Addr},s2.heap.objs.size≤b→b∉frs X.stack:=fun {b} hb hm=>by
  obtain⟨_,o,ho,_⟩:=I2.stack.mem hm
  exact absurd (Nat.lt_of_lt_of_le (Heap.lt_size ho) hb) (Nat.lt_irrefl _)
 have frc:∀x∈scope.names,x.2=.free→∃c,X.env.cells.lookup x.1=some c:=fun x hx hk=>I2.ok.has x.1 (S.free x hx hk)
 have cellsD:∀x c,(ah X scope N s2 H2 (D+1) fp).env.cells.lookup x=some c→c≠D:=fun x c e=>by
  rcases cf frc e with a | ⟨_,a⟩
  ·have q:D+1+1≤c:=(ck.empty x c a).2
   exact Nat.ne_of_gt (Nat.lt_of_lt_of_le (Nat.lt_of_lt_of_le (Nat.lt_succ_self D) (Nat.le_succ _)) q)
  ·obtain⟨v,q⟩:=I2.cell x c a
   have:=q.lt
   rw[hD]at this
   exact Nat.ne_of_lt this
 have fpO:∀{H':Hp} {its:List Value} {k:Nat},(∀b∈fp,H' b=none)→∀b∈fp,FpOk (ah X scope N s2 H2 (D+1) fp) [(D,cI its k)] H' b:=fun {H' its k} hn b hb=>
  ⟨hn b hb,Nat.ne_of_lt (hlt b hb),okC.exfs b hb,.inl hb,(okC.exf b hb).2,fun p hp=>by
   have e:p=(D,cI its k):=by simpa [ah] using hp
   subst e
   exact Nat.ne_of_gt (fpD b hb)⟩
 have pinD:∀{σ':St} {H':Hp} {s':Shared} {its:List Value} {k:Nat},Inv (ah X scope N s2 H2 (D+1) fp) [] σ' H' s'→s'.heap.get? D=some (cI its k)→H' D=none→Inv (ah X scope N s2 H2 (D+1) fp) [(D,cI its k)] σ' H' s':=fun {σ' H' s' its k} J e n=>
  J.pins_of fun p hp=>by
   have e':p=(D,cI its k):=by simpa using hp
   subst e'
   exact⟨e,n,Nat.ne_of_lt (Nat.lt_succ_self _),nfs hDs,fun v z=>by
    have z':Data.seq its.toArray k=Data.cell v:=z
    cases z'⟩
 have loop:codeAny (model X.prog X.w) X.A (.compLoop (.ListComp elt [⟨tg,iter,ifs,0⟩] scope pos) 0 (.ref it) (.ref D) (ah X scope N s2 H2 (D+1) fp).env) (RR (.ref D) (D+1)) {s2 with heap:=h4} :=by
  obtain⟨m0,w0⟩:=w0
  refine eX (fun n s'=>∃i ys its k σ' H',Inv (ah X scope N s2 H2 (D+1) fp) [(D,cI its k)] σ' H' s'∧tn i s'.heap∧(∀b∈fp,H' b=none)∧Vals ys its∧(∀(j:Nat) (v:V),(aW cap σ)[j]? =some (some v)→σ'[j]? =some (some v))∧W i n ys H') ?_ m0
   ⟨0,[],[],0,aW cap σ,H2,pinD IC hD4 (I2.hok.fresh hDs),T.keep _ _ _ st2 fun b hb o e=>k34 b o (k23 b o e),fun b hb=>(f2 b hb).1,.nil,fun _ _ e=>e,w0⟩
  rintro n s3 ⟨i,ys,its,k,σ3,H3,I3,st3,fr3,rv,kp,w3⟩
  obtain⟨hyl,tr⟩:=turn i n ys H3 w3
  have pin3:=I3.pin (D,cI its k) (List.mem_append_right _ List.mem_cons_self)
  rcases tr with⟨stop,qn⟩ | ⟨go,NN,hNN,step⟩
  ·refine bv (T.done (ah X scope N s2 H2 (D+1) fp) rfl rfl rfl hc i _ s3 σ3 H3 _ I3 (fpO fr3) st3 stop) fun r s4 ⟨hr,I4⟩=>?_
   subst hr
   exact fin D (D+1) σ3 H3 s4 its k ys hDs hDC (Nat.ne_of_lt (Nat.lt_succ_self _)) I4 rv (Nat.le_of_lt hyl) (qn D pin3.2.1)
  ·have I3':Inv (ah X scope N s2 H2 (D+1) fp) [(D,cI its k)] (aW cap σ) H3 s3:=I3.weak (by rw[I3.len,IC.len]) kp
   refine bv (T.item (ah X scope N s2 H2 (D+1) fp) rfl rfl rfl hc i _ s3 _ H3 _ I3' (fpO fr3) st3 go) fun r s4 ⟨u,hr,h4⟩=>?_
   subst hr
   refine bv h4 fun _ s5 ⟨x,H5,I5,r5,y5,st5,fr5⟩=>?_
   have I5':=I5.pinned (fpO fr5) (T.obj _ _ st5)
   refine bv (hg _ _ _ _ _ s5 _ H5 x u _ I5' r5 (step x H5 y5)) fun _ s6 ⟨σ6,H6,I6,kp6,q6⟩=>?_
   refine bv (hf _ _ _ _ _ s6 σ6 H6 _ I6 q6) fun ok s7 ⟨H7,I7,q7⟩=>?_
   have back:∀{s8:Shared} {H8:Hp},Inv (ah X scope N s2 H2 (D+1) fp) ([(D,cI its k)]++eG fp s5.heap) σ6 H8 s8→tn (i+1) s8.heap∧(∀b∈fp,H8 b=none)∧s8.heap.get? D=some (cI its k)∧H8 D=none:=fun {s8 H8} I8=>by
    have at_:∀b∈fp,∀o,s5.heap.get? b=some o→s8.heap.get? b=some o∧H8 b=none:=fun b hb o e=>by
     have z:=I8.pin (b,o) (List.mem_append_right _ (List.mem_append_right _ (cK hb e)))
     exact⟨z.1,z.2.1⟩
    have pd:=I8.pin (D,cI its k) (List.mem_append_right _ (List.mem_append_left _ List.mem_cons_self))
    refine⟨T.keep _ _ _ st5 fun b hb o e=>(at_ b hb o e).1,fun b hb=>?_,pd.1,pd.2.1⟩
    obtain⟨o,e,d⟩:=T.obj _ _ st5 b hb
    exact(at_ b hb o e).2
   cases ok with
   | false =>
    rw[if_neg Bool.false_ne_true]at q7 ⊢
    obtain⟨m',hm,w'⟩:=hNN _ _ q7
    obtain⟨t7,f7,d7,n7⟩:=back I7
    exact⟨m',hm,i+1,ys,its,k,σ6,H7,I7.unpinned,t7,f7,rv,fun j v e=>Keep.get kp6 e,w'⟩
   | true =>
    rw[if_pos rfl]at q7 ⊢
    refine bv (he _ _ _ _ _ s7 σ6 H7 _ I7 q7) fun y8 s8 ⟨y,H8,I8,r8,q8⟩=>?_
    obtain⟨m',hm,w'⟩:=hNN _ _ q8
    obtain⟨t8,f8,d8,n8⟩:=back I8
    refine append_at (D:=D) (its:=its.toArray) (n:=k) d8 (fun h' hs' hD'=>?_) (by rw[List.size_toArray,←rv.length];exact Nat.le_of_lt hyl)
    have J0:Inv (ah X scope N s2 H2 (D+1) fp) [] σ6 H8 s8:=I8.pins_of fun p hp=>by cases hp
    have J1:Inv (ah X scope N s2 H2 (D+1) fp) [] σ6 H8 {s8 with heap:=h'} :=J0.turned (it:=D) (t':=s8.toks) (fun b o hb e=>(hs'.2 b hb).trans e) n8 (Nat.ne_of_lt (Nat.lt_succ_self _)) (.inr hDs) cellsD fun p hp=>by
     have:p∈([]:List (Addr×Obj)):=hp
     cases this
    refine⟨m',hm,i+1,ys++ [y],its++ [y8],k+1,σ6,H8,pinD J1 (by simpa using hD') n8,T.keep _ _ _ t8 fun b hb o e=>(hs'.2 b (Nat.ne_of_lt (fpD b hb))).trans e,f8,rv.append (.cons r8 .nil),fun j v e=>Keep.get kp6 e,w'⟩
 exact codeAny_compStart_list loop (wpAny_mono (T.self _ 0 _ _ _ (T.keep _ _ _ st2 fun b hb o e=>k34 b o (k23 b o e)) loop) (fun _ _ h=>h) fun _ _ h=>h)
end
end L2
namespace L2
open PySem PySem.Spec PyProof.Rows
section
variable {X:Cx} {scope:Scope} {N:List Str} {cap:List (Option Nat)} {tg iter elt:Expr} {ifs:List Expr} {pos:Pos} {wi:TI} {g:TG} {tf:TT} {te:TE}
theorem gi {pins:List (Addr×Obj)} {σ σ':St} {H2 H':Hp} {s2 s':Shared} {fp:List Addr} {D C:Addr} {its:List Value} {k:Nat} {ys:List V} {h':Heap} (I2:Inv X pins σ H2 s2) (f2:∀b∈fp,FpOk X pins H2 b)
  (hD:s2.heap.objs.size≤D) (hC:s2.heap.objs.size≤C) (hDC:D≠C) (I':Inv (ah X scope N s2 H2 C fp) [(D,cI its k)] σ' H' s') (rv:Vals ys its) (hl:ys.length≤sizeLine) (hs:Heap.SameBut C s'.heap h'):
  Inv X pins σ (bQ H' D (.lst ys)) {s' with heap:=h'} :=by
 have pd:=I'.pin (D,cI its k) (List.mem_append_right _ List.mem_cons_self)
 have nD:H' D=none:=pd.2.1
 have nC:H' C=none:=I'.free
 have lt2:∀b o,s2.heap.get? b=some o→b≠D∧b≠C:=fun b o e=>⟨Nat.ne_of_lt (Nat.lt_of_lt_of_le (Heap.lt_size e) hD),Nat.ne_of_lt (Nat.lt_of_lt_of_le (Heap.lt_size e) hC)⟩
 have hk:∀b o,b≠C→s'.heap.get? b=some o→h'.get? b=some o:=fun b o hb e=>(hs.2 b hb).trans e
 have B:Un (frs X.stack) fp H2 H' s2.heap s'.heap:=I'.base
 have tr:∀b u,H' b=some u→b≠D∧b≠C:=fun b u e=>⟨fun z=>(by rw[z,nD]at e;cases e),fun z=>(by rw[z,nC]at e;cases e)⟩
 refine I2.call' (ch:=fp) I'.os ⟨fun b o e n hb hx=>?_,fun b o e n hb hx=>?_,fun b o e n hx=>?_,fun b o e hx=>?_,fun b xs e=>?_,fun b o u e=>?_,fun b ps e=>?_⟩ (fun b u e=>?_) I'.bare fun b hb=>⟨(f2 b hb).2.2.2.1,(f2 b hb).2.1,(f2 b hb).2.2.2.2.1,(f2 b hb).2.2.2.2.2⟩
 ·exact hk b o (lt2 b o e).2 (B.keep b o e n hb hx)
 ·obtain⟨sl,q⟩:=B.slot b o e n hb hx
  exact⟨sl,hk b _ (lt2 b o e).2 q⟩
 ·rw[ay (lt2 b o e).1];exact B.free b o e n hx
 ·obtain⟨o',q⟩:=B.there b o e hx
  exact⟨o',hk b _ (lt2 b o e).2 q⟩
 ·rw[ay (tr b _ (B.tups b xs e)).1];exact B.tups b xs e
 ·rw[ay (tr b _ (B.frzs b o u e)).1];exact B.frzs b o u e
 ·obtain⟨more,q⟩:=B.tbls b ps e
  exact⟨more,by rw[ay (tr b _ q).1];exact q⟩
 ·by_cases hb:b=D
  ·subst hb
   rw[ax]at e;cases e
   exact⟨hl,its,k,rv,hk _ _ hDC pd.1⟩
  ·rw[ay hb]at e
   refine(I'.hok b u e).stay (fun c w' hc q=>hk c w' ?_ q) (fun c q=>by rw[ay (tr c _ q).1];exact q) fun c xs q=>by rw[ay (tr c _ q).1];exact q
   rcases hc with z | z
   ·rw[z];exact(tr b u e).2
   ·exact(tr c _ z).2
theorem dy (S:CompScope X scope N cap):∀x∈scope.names,x.2=.local→scope.names.lookup x.1=some .local:=fun x hx hl=>cn S.uniq (by rw[←hl];exact hx)
theorem dh (S:CompScope X scope N cap) (hc:X.calm=true) (hi:PI X tg iter wi)
  (hg:∀s H C fp,PG (ah X scope N s H C fp) tg g) (hf:∀s H C fp,kG (ah X scope N s H C fp) ifs tf) (he:∀s H C fp,PE (ah X scope N s H C fp) elt te)
  (hs:∀x,foldedSetIterable iter X.env x=pure x:=by intro _;rfl):PE X (.ListComp elt [⟨tg,iter,ifs,0⟩] scope pos) (hU cap wi g tf te):=by
 intro pins s σ H Q I h
 rw[eval_ListComp]
 have frc:∀x∈scope.names,x.2=.free→∃c,X.env.cells.lookup x.1=some c:=fun x hx hk=>I.ok.has x.1 (S.free x hx hk)
 refine wpAny_comprehension_free (use:=none) rfl hs (cO frc) S.kind (dy S) (bv (hi pins s σ H _ I h) fun v s1 h1=>bv h1 fun itv s2 h2=>?_)
 obtain⟨it,fp,tn,J,H2,rfl,I2,T,st2,f2,W,w0,turn⟩:=h2
 refine hW (RR:=fun acc C=>compPost (model X.prog X.w) X.A X.xe none (EP X pins σ Q) acc C) S hc hg hf he I2 T st2 f2 w0 turn fun D C σ' H' s' its k ys hD hC hDC I' rv hl q=>?_
 obtain⟨m,hn,_⟩:=I'.loc
 exact⟨m,hn,fun h' hs'=>⟨.ref D,_,gi I2 f2 hD hC hDC I' rv hl hs',rfl,q⟩⟩
end
end L2
namespace L2
open PySem PySem.Spec PyProof.Rows
section
variable {X:Cx} {scope:Scope} {N:List Str} {cap:List (Option Nat)} {tg iter elt:Expr} {ifs:List Expr} {pos spos py:Pos} {wi:TI} {g:TG} {tf:TT} {te:TE} {i:Nat} {y:Str}
theorem eN (hN:X.N.Nodup) (hi':X.N[i]? =some y) (hy:s9 X.env.scope y) (S:CompScope X scope N cap) (hc:X.calm=true) (hi:PI X tg iter wi)
  (hg:∀s H C fp,PG (ah X scope N s H C fp) tg g) (hf:∀s H C fp,kG (ah X scope N s H C fp) ifs tf) (he:∀s H C fp,PE (ah X scope N s H C fp) elt te)
  (hsw:swapsWith (.ListComp elt [⟨tg,iter,ifs,0⟩] scope pos) (some (.Name y py)) spos.line X.env=pure true:=by rfl)
  (hs:∀x,foldedSetIterable iter X.env x=pure x:=by intro _;rfl) (hfn:X.fn y=true∨X.env.scope.names.lookup y=some .local:=by first | exact .inl rfl | exact .inr rfl | assumption):
  PS X (.Assign [.Name y py] (.ListComp elt [⟨tg,iter,ifs,0⟩] scope pos) spos) (bn (hU cap wi g tf te) (aQ i)):=by
 intro pins s σ H D I h
 rw[exec_Assign_Name_used _ _ _ _ hsw]
 refine wpAny_bind (wpAny_standAt (wpAny_bind ?_))
 show wpAny _ X.A (do let _ ←comprehension (.ListComp elt [⟨tg,iter,ifs,0⟩] scope pos) scope X.env _ (newList []) false (eval iter X.env) (some (assign (.Name y py) X.env))) _ _ s
 have frc:∀x∈scope.names,x.2=.free→∃c,X.env.cells.lookup x.1=some c:=fun x hx hk=>I.ok.has x.1 (S.free x hx hk)
 refine wpAny_bind (wpAny_mono (wpAny_comprehension_free (use:=some (assign (.Name y py) X.env)) (Q:=fun _ s'=>SP X pins D .next s') rfl hs (cO frc) S.kind (dy S) (bv (hi pins s σ H _ I h) fun v s1 h1=>bv h1 fun itv s2 h2=>?_)) (fun _ s' hq=>wpAny_pure (wpAny_pure hq)) fun _ _ e=>e)
 obtain⟨it,fp,tn,J,H2,rfl,I2,T,st2,f2,W,w0,turn⟩:=h2
 refine hW (Qv:=fun x H1=>aQ i x σ H1 D.nx) (RR:=fun acc C=>compPost (model X.prog X.w) X.A X.xe (some (assign (.Name y py) X.env)) (fun _ s'=>SP X pins D .next s') acc C) S hc hg hf he I2 T st2 f2 w0 turn fun d C σ' H' s' its k ys hD hC hDC I' rv hl q=>?_
 obtain⟨m,hn,_⟩:=I'.loc
 have I3:Inv X pins σ (bQ H' d (.lst ys)) s':=gi (h':=s'.heap) I2 f2 hD hC hDC I' rv hl (.refl ..)
 have nC:(bQ H' d (.lst ys)) C=none:=by rw[ay (Ne.symm hDC)];exact I'.free
 have cL:C≠X.env.locals:=fun z=>absurd (Nat.lt_of_lt_of_le I2.lt hC) (by rw[z];exact Nat.lt_irrefl _)
 have cc:∀x c,X.env.cells.lookup x=some c→c≠C:=fun x c e z=>by
  obtain⟨v,q⟩:=I2.cell x c e
  exact absurd (Nat.lt_of_lt_of_le q.lt hC) (by rw[z];exact Nat.lt_irrefl _)
 show wpAny _ X.A (assign (.Name y py) X.env (.ref d)) _ _ _
 refine wpAny_assign_Name (gR (v:=.ref d) I3 hN hi' hy rfl (fun s4 I4 ⟨a,sb,ha⟩=>?_) hfn)
 have aC:C≠a:=by
  rcases ha with z | z
  ·rw[z];exact cL
  ·exact Ne.symm (cc _ _ z)
 refine⟨m,hn.sameBut sb aC,fun h' hs'=>?_⟩
 exact⟨_,_,I4.turned (it:=C) (t':=s4.toks) (fun b o hb e=>(hs'.2 b hb).trans e) nC cL (.inr (Nat.le_trans I2.sz hC)) cc (fun p hp z=>absurd (Nat.lt_of_lt_of_le (Heap.lt_size (I2.pin p hp).1) hC) (by rw[z];exact Nat.lt_irrefl _)),q⟩
end
inductive Src where
 | lst (a:Addr) | tup (a:Addr) | str (l:List Nat)
def Src.has (K:PySem.W.Frag) (H:Hp):Src→List V→Prop
 | .lst a,xs=>SqL K H a xs
 | .tup a,xs=>SqT K H a xs
 | .str l,xs=>xs=l.map fun c=>V.str (sOf [c])
def Src.at (it:Addr) (i:Nat) (h:Heap):Src→Prop
 | .lst a=>h.IsListIter it a i
 | .tup a=>h.IsTupleIter it a i
 | .str l=>∃t,h.IsStrIter it "str_ascii_iterator" (sOf l) t i∨h.IsStrIter it "str_iterator" (sOf l) t i
def Src.val:Src→V
 | .lst a=>.ref a
 | .tup a=>.ref a
 | .str l=>.str (sOf l)
section
variable {P:Program} {w:World} {A:Around} {E:Value→Shared→Prop} {s:Shared}
theorem ir {j a:Addr} {k:Nat} {us:Array Value} {x:Value} {Q:Value→Shared→Prop} (g:s.heap.IsTupleIter j a k) (ga:s.heap.IsTuple a us) (gx:us[k]? =some x)
  (q:∀h',h'.IsTupleIter j a (k+1)→Heap.SameBut j s.heap h'→Q x {s with heap:=h'}):wpAny (model P w) A (Builtin.SmallTypes.nextOf (.ref j)) Q E s:=by
 obtain⟨ob,e1,e2,e3⟩:=id g;obtain⟨ot,f1,_,nn,f3⟩:=ga
 unfold Builtin.SmallTypes.nextOf
 refine wpAny_bind (wpAny_callSpecial?_slot (name:=Str.ofString "__next__") g.typeIs PySem.F.slot_tuple_iterator_next (wpAny_call_entry PySem.F.slot_tuple_iterator_next g.typeIs PySem.F.entry_tuple_iterator_next ?_ (PySem.F.args_tuple_iterator_next_1 _)))
 show wpAny (model P w) _ (field (.ref j) 0 >>= _) _ _ s
 refine wpAny_bind (wpAny_field e1 e3 (x:=.ref a) rfl ?_)
 show wpAny (model P w) _ (if(Value.ref a == Value.none)=true then _ else _) _ _ s
 rw[if_neg (show ¬((Value.ref a == Value.none)=true)from Bool.false_ne_true)]
 show wpAny (model P w) _ (field (.ref j) 1 >>= _) _ _ s
 refine wpAny_bind (wpAny_field e1 e3 (x:=.int k 0) rfl ?_)
 show wpAny (model P w) _ (seqItems? (.ref a) >>= _) _ _ s
 refine wpAny_bind (wpAny_seqItems f1 f3 ?_)
 simp only[Int.toNat_natCast,gx]
 refine wpAny_bind (wpAny_setField e1 e3 (by simp) (wpAny_pure ⟨x,rfl,wpAny_pure (q _ ⟨_,Heap.get?_update_self _ e1 (Obj.isFreed_of_fields (Obj.data_mapFields e3 _)),(Obj.cls_mapFields ..).trans e2,(by rw[Obj.data_mapFields e3];simp[rawInt])⟩ (Heap.SameBut.update ..))⟩))
theorem j3 {j a:Addr} {k:Nat} {us:Array Value} {Q:Value→Shared→Prop} (hh:A.handled=none) (g:s.heap.IsTupleIter j a k) (ga:s.heap.IsTuple a us) (gx:us[k]? =none)
  (q:∀h' e,Heap.ExtBut j s.heap h'→(∃o,h'.get? e=some o∧o.cls=.type "StopIteration")→E (.ref e) {s with heap:=h'}):wpAny (model P w) A (Builtin.SmallTypes.nextOf (.ref j)) Q E s:=by
 obtain⟨ob,e1,e2,e3⟩:=id g;obtain⟨ot,f1,_,nn,f3⟩:=ga
 unfold Builtin.SmallTypes.nextOf
 refine wpAny_bind (wpAny_callSpecial?_slot (name:=Str.ofString "__next__") g.typeIs PySem.F.slot_tuple_iterator_next (wpAny_call_entry PySem.F.slot_tuple_iterator_next g.typeIs PySem.F.entry_tuple_iterator_next ?_ (PySem.F.args_tuple_iterator_next_1 _)))
 show wpAny (model P w) _ (field (.ref j) 0 >>= _) _ _ s
 refine wpAny_bind (wpAny_field e1 e3 (x:=.ref a) rfl ?_)
 show wpAny (model P w) _ (if(Value.ref a == Value.none)=true then _ else _) _ _ s
 rw[if_neg (show ¬((Value.ref a == Value.none)=true)from Bool.false_ne_true)]
 show wpAny (model P w) _ (field (.ref j) 1 >>= _) _ _ s
 refine wpAny_bind (wpAny_field e1 e3 (x:=.int k 0) rfl ?_)
 show wpAny (model P w) _ (seqItems? (.ref a) >>= _) _ _ s
 refine wpAny_bind (wpAny_seqItems f1 f3 ?_)
 simp only[Int.toNat_natCast,gx]
 refine wpAny_bind (wpAny_rule (wpAny_bind (wpAny_setField e1 e3 (by simp) ?_)))
 show wpAny (model P w) _ (newExc (.type "StopIteration") [] >>= _) _ _ _
 refine wpAny_bind ?_;simp only[newExc,newTuple]
 refine wpAny_bind (wpAny_newObj_type (wpAny_bind (m:=firstArgMember _ _) (wpAny_of_eq (a:=Value.none) (by first | rfl | (simp only[firstArgMember];rfl)) (wpAny_newObj_type ?_ (by size_fits)))) (by size_fits))
 simp only[raiseNew];refine wpAny_bind (wpAny_handled ?_)
 first | rw[show A.in1.handled=none from hh] | rw[hh]
 exact wpAny_bind (wpAny_pure (wpAny_throw (q _ _ (((Heap.SameBut.update ..).extBut.push _).push _) ⟨_,Heap.get?_push_size _ rfl,rfl⟩)))
theorem mX (hh:A.handled=none) (j a:Addr) (ne:a≠j) (us:Array Value):Draws P w A j [j,a] us.size (fun k v=>us[k]? =some v) (fun k h=>h.IsTupleIter j a k∧h.IsTuple a us) where
 live:=fun _ _ st=>by obtain⟨⟨o,e,_⟩,_⟩:=st;exact⟨o,e⟩
 frame:=fun _ _ _ st hk=>⟨st.1.at fun o e=>hk j (by simp) o e,by obtain⟨o,e,r⟩:=st.2;exact⟨o,hk a (by simp) o e,r⟩⟩
 item:=fun k s Q E hk st q=>ir st.1 st.2 (x:=us[k]) (by simp[hk]) fun h' g' sb=>q _ h' s.toks (by simp[hk]) ⟨g',by obtain⟨o,e,r⟩:=st.2;exact⟨o,(sb.2 a ne).trans e,r⟩⟩ sb
 done:=fun s Q E st q=>j3 hh st.1 st.2 (by simp) q
theorem Src.draws {X:Cx} {pins:List (Addr×Obj)} {σ:St} {H:Hp} {s0:Shared} {c:Src} {xs:List V} {it:Addr} {i:Nat} (hh:A.handled=none) (I:Inv X pins σ H s0) (hs:c.has X.K H xs) (ht:c.at it i s0.heap) (hit:H it=none):
  ∃ (fp : List Addr) (Pt : Nat → Value → Prop) (St : Nat → Heap → Prop), Draws X.prog X.w A it fp xs.length Pt St ∧ St i s0.heap ∧ (∀ k v, Pt k v → ∃ x, xs[k]? = some x ∧ RelV x v) ∧ (∀ k h, St k h → c.at it k h) ∧ it ∈ fp ∧
   ∀b∈fp,b=it∨H b≠none∨∃o,X.base.get? b=some o:=by
 cases c with
 | lst a =>
  obtain⟨its,rv,p,hz⟩:=I.list hs
  have ne:a≠it:=fun z=>by
   obtain⟨o,e,c1,_⟩:=(show s0.heap.IsListIter it a i from ht)
   obtain⟨o2,e2,c2,_⟩:=p.isList
   rw[z,e]at e2;cases e2;rw[c1]at c2;exact absurd c2 (by decide)
  have dr:=Draws.list (prog:=X.prog) (w:=X.w) hh it a ne its.toArray
  rw[List.size_toArray,←rv.length]at dr
  refine⟨_,_,_,dr,⟨ht,p.isList⟩,fun k v e=>?_,fun k h st=>st.1,by simp,fun b hb=>?_⟩
  ·have e:its[k]? =some v:=by simpa using e
   have hk:k< xs.length:=by rw[rv.length];exact(List.getElem?_eq_some_iff.mp e).1
   obtain⟨u,hu,ru⟩:=rv.get (i:=k) (x:=xs[k]) (by simp[hk])
   rw[e]at hu;cases hu
   exact⟨_,by simp[hk],ru⟩
  ·rcases List.mem_cons.mp hb with z | z
   ·exact .inl z
   ·have z:b=a:=by simpa using z
    subst z
    rcases (show SqL X.K H b xs from hs)with(z | ⟨o,z⟩) | ⟨o,_,_,z,_⟩
    ·exact .inr (.inl (by rw[z];simp))
    ·exact .inr (.inl (by rw[z];simp))
    ·exact .inr (.inr ⟨_,I.mod.kin _ _ z⟩)
 | tup a =>
  obtain⟨its,rv,p,hz⟩:=I.tuple hs
  have p:s0.heap.IsTuple a its.toArray:=p
  have ne:a≠it:=fun z=>by
   obtain⟨o,e,c1,_⟩:=(show s0.heap.IsTupleIter it a i from ht)
   obtain⟨o2,e2,c2,_⟩:=id p
   rw[z,e]at e2;cases e2;rw[c1]at c2;exact absurd c2 (by decide)
  have dr:=mX (P:=X.prog) (w:=X.w) hh it a ne its.toArray
  rw[List.size_toArray,←rv.length]at dr
  refine⟨_,_,_,dr,⟨ht,p⟩,fun k v e=>?_,fun k h st=>st.1,by simp,fun b hb=>?_⟩
  ·have e:its[k]? =some v:=by simpa using e
   have hk:k< xs.length:=by rw[rv.length];exact(List.getElem?_eq_some_iff.mp e).1
   obtain⟨u,hu,ru⟩:=rv.get (i:=k) (x:=xs[k]) (by simp[hk])
   rw[e]at hu;cases hu
   exact⟨_,by simp[hk],ru⟩
  ·rcases List.mem_cons.mp hb with z | z
   ·exact .inl z
   ·have z:b=a:=by simpa using z
    subst z
    rcases (show SqT X.K H b xs from hs)with(z | ⟨o,z⟩) | ⟨o,_,_,z,_⟩
    ·exact .inr (.inl (by rw[z];simp))
    ·exact .inr (.inl (by rw[z];simp))
    ·exact .inr (.inr ⟨_,I.mod.kin _ _ z⟩)
 | str l =>
  have hs:xs=l.map fun c=>V.str (sOf [c]):=hs
  obtain⟨t,ht⟩:=(show ∃t,s0.heap.IsStrIter it "str_ascii_iterator" (sOf l) t i∨s0.heap.IsStrIter it "str_iterator" (sOf l) t i from ht)
  have hn:(sOf l).cps.size=xs.length:=by rw[hs];simp[sOf]
  have sg:∀(k:Nat) (v:Value),(∃c u,(sOf l).cps[k]? =some c∧v=.str ⟨#[c]⟩ u)→∃x,xs[k]? =some x∧RelV x v:=fun k v ⟨c,u,e,ev⟩=>by
   have e:l[k]? =some c:=by simpa [sOf] using e
   exact⟨.str (sOf [c]),by rw[hs];simp[e],⟨u,ev⟩⟩
  rcases ht with ht | ht
  ·exact⟨_,_,_,hn▸Draws.strAscii hh it (sOf l) t,ht,sg,fun k h st=>⟨t,.inl st⟩,by simp,fun b hb=>.inl (by simpa using hb)⟩
  ·exact⟨_,_,_,hn▸Draws.strWide hh it (sOf l) t,ht,sg,fun k h st=>⟨t,.inr st⟩,by simp,fun b hb=>.inl (by simpa using hb)⟩
end
end L2
namespace L2
open PySem PySem.Spec PyProof.Rows
def gj (v:Value) (h:Heap) (o:Obj):Prop:=∀(prog:Program) (w:World) (A:Around) (E:Value→Shared→Prop) (Q:Value→Shared→Prop) (s:Shared),s.heap=h→Q (.ref h.objs.size) {s with heap:=h.push o}→wpAny (model prog w) A (pyIter v) Q E s
def sv (h:Heap) (o1 o2:Obj):Heap:=((h.push o1).push o2).push {cls:=.type "tuple",data:=.seq #[.ref h.objs.size,.ref (h.push o1).objs.size]}
def sw (h:Heap) (o1 o2:Obj):Heap:=(sv h o1 o2).push {cls:=.type "tuple",data:=.seq #[.none,.none]}
def rR (h:Heap) (o1 o2:Obj):Heap:=(sw h o1 o2).push {cls:=.type "zip",data:=.fields #[.none,.bool false,.bool false,.ref ((h.push o1).push o2).objs.size,.ref (sv h o1 o2).objs.size]}
theorem iu (v1 v2:Value) (o1 o2:Obj):Meets (Builtin.«zip.__new__» ⟨[.type "zip",v1,v2],[]⟩) (fun _ R s=>gj v1 s.heap o1∧gj v2 (s.heap.push o1) o2∧R (.ok (.ret (.ref (sw s.heap o1 o2).objs.size))) {s with heap:=rR s.heap o1 o2}):=
 .of_wp fun prog w A R s h=>by
  obtain⟨hp,g,d,tk,os⟩:=s;obtain⟨i1,i2,h⟩:=h
  have hsub:=sub_zip
  have j1:=fun(A:Around) (E:Value→Shared→Prop) (Q:Value→Shared→Prop) (q:Q _ _)=>i1 prog w A E Q ⟨hp,g,d,tk,os⟩ rfl q
  have j2:=fun(A:Around) (E:Value→Shared→Prop) (Q:Value→Shared→Prop) (q:Q _ _)=>i2 prog w A E Q ⟨hp.push o1,g,d,tk,os⟩ rfl q
  wp_walk using j1 _ _ _,j2 _ _ _
  exact⟨_,rfl,h⟩
theorem lG {P:Program} {w:World} {A:Around} {E:Value→Shared→Prop} {s:Shared} {v1 v2:Value} {o1 o2:Obj} {Q:Value→Shared→Prop} (i1:gj v1 s.heap o1) (i2:gj v2 (s.heap.push o1) o2)
  (f1:o1.isFreed=false) (f2:o2.isFreed=false)
  (q:∀h',IsZip h' (s.heap.objs.size+4) (s.heap.objs.size+2) (s.heap.objs.size+3) .none→IsPair h' (s.heap.objs.size+2) (.ref s.heap.objs.size) (.ref (s.heap.objs.size+1))→IsPair h' (s.heap.objs.size+3) .none .none→
   h'.get? s.heap.objs.size=some o1→h'.get? (s.heap.objs.size+1)=some o2→(∀c o,s.heap.get? c=some o→h'.get? c=some o)→Q (.ref (s.heap.objs.size+4)) {s with heap:=h'}):
  wpAny (model P w) A (call (.type "zip") [v1,v2]) Q E s:=by
 refine callType_new PySem.F.called_zip (by decide) (PySem.F.typeCall_zip_2 _ _) (PySem.F.newCall_zip_2 _ _) (fun obj=>PySem.F.args_object_init_3 obj _ _) PySem.F.entry_zip_new (iu v1 v2 o1 o2) ⟨i1,i2,?_⟩
 have z1:(s.heap.push o1).objs.size=s.heap.objs.size+1:=Heap.size_push ..
 have z2:((s.heap.push o1).push o2).objs.size=s.heap.objs.size+2:=by rw[Heap.size_push,z1]
 have z3:(sv s.heap o1 o2).objs.size=s.heap.objs.size+3:=by unfold sv;rw[Heap.size_push,z2]
 have z4:(sw s.heap o1 o2).objs.size=s.heap.objs.size+4:=by unfold sw;rw[Heap.size_push,z3]
 have g5:(rR s.heap o1 o2).get? (sw s.heap o1 o2).objs.size=some _:=Heap.get?_push_size _ rfl
 have g4:(rR s.heap o1 o2).get? (sv s.heap o1 o2).objs.size=some _:=Heap.get?_push_of_some _ (Heap.get?_push_size _ rfl)
 have g3:(rR s.heap o1 o2).get? ((s.heap.push o1).push o2).objs.size=some _:=Heap.get?_push_of_some _ (Heap.get?_push_of_some _ (Heap.get?_push_size _ rfl))
 have g2:(rR s.heap o1 o2).get? (s.heap.push o1).objs.size=some o2:=Heap.get?_push_of_some _ (Heap.get?_push_of_some _ (Heap.get?_push_of_some _ (Heap.get?_push_size _ f2)))
 have g1:(rR s.heap o1 o2).get? s.heap.objs.size=some o1:=Heap.get?_push_of_some _ (Heap.get?_push_of_some _ (Heap.get?_push_of_some _ (Heap.get?_push_of_some _ (Heap.get?_push_size _ f1))))
 show _∧_
 rw[z2,z3,z4]at g5
 rw[z1,z2]at g3
 rw[z3]at g4
 rw[z1]at g2
 rw[z4]
 exact⟨⟨_,g5,rfl⟩,q _ g5 g3 g4 g1 g2 fun c o x=>Heap.get?_push_of_some _ (Heap.get?_push_of_some _ (Heap.get?_push_of_some _ (Heap.get?_push_of_some _ (Heap.get?_push_of_some _ x))))⟩
theorem Src.iter {X:Cx} {pins:List (Addr×Obj)} {σ:St} {H:Hp} {s:Shared} {c:Src} {xs:List V} {v:Value} {h:Heap} (I:Inv X pins σ H s) (hs:c.has X.K H xs) (rv:RelV c.val v) (k:∀b o,s.heap.get? b=some o→h.get? b=some o):
  ∃o,gj v h o∧o.isFreed=false∧(∀h':Heap,h'.get? h.objs.size=some o→c.at h.objs.size 0 h'):=by
 cases c with
 | lst a =>
  obtain⟨its,r,p,hz⟩:=I.list hs
  cases (show v=.ref a from rv)
  obtain⟨o,e,r2⟩:=p.isList
  refine⟨{cls:=.type "list_iterator",data:=.fields #[.ref a,.int 0 0]},fun prog w A E Q s' e' q=>?_,rfl,fun h' e'=>⟨_,e',rfl,rfl⟩⟩
  subst e'
  exact wpAny_pyIter_list ⟨o,k a o e,r2⟩ q
 | tup a =>
  obtain⟨its,r,p,hz⟩:=I.tuple hs
  cases (show v=.ref a from rv)
  obtain⟨o,e,r2⟩:=p
  refine⟨{cls:=.type "tuple_iterator",data:=.fields #[.ref a,.int 0 0]},fun prog w A E Q s' e' q=>?_,rfl,fun h' e'=>⟨_,e',rfl,rfl⟩⟩
  subst e'
  exact wpAny_pyIter_tuple ⟨o,k a o e,r2⟩ q
 | str l =>
  obtain⟨t,rfl⟩:=(show ∃t,v=.str (sOf l) t from rv)
  cases ha:(sOf l).cps.all (· <128)
  ·exact⟨{cls:=.type "str_iterator",data:=.fields #[.str (sOf l) t,.int 0 0]},fun prog w A E Q s' e' q=>by subst e';exact wpAny_pyIter_wide ha q,rfl,fun h' e'=>⟨t,.inr ⟨_,e',rfl,rfl⟩⟩⟩
  ·exact⟨{cls:=.type "str_ascii_iterator",data:=.fields #[.str (sOf l) t,.int 0 0]},fun prog w A E Q s' e' q=>by subst e';exact wpAny_pyIter_ascii ha q,rfl,fun h' e'=>⟨t,.inl ⟨_,e',rfl,rfl⟩⟩⟩
end L2
namespace L2
open PySem PySem.Spec PyProof.Rows
section
variable {P:Program} {w:World} {A:Around} {E:Value→Shared→Prop} {s:Shared} {z TI TO i1 i2:Addr} {fp1 fp2:List Addr} {n1 n2 k:Nat} {P1 P2:Nat→Value→Prop} {S1 S2:Nat→Heap→Prop} {a b:Value}
structure ZApart (z TI TO i1 i2:Addr) (fp1 fp2:List Addr):Prop where
 c1:TI≠z
 c2:TO≠z
 c3:i1≠z
 c4:i2≠z
 c5:TI≠TO
 c6:TI≠i1
 c7:TI≠i2
 c8:TO≠i1
 c9:TO≠i2
 d1:z∉fp1∧TO∉fp1∧i2∉fp1
 d2:z∉fp2∧TO∉fp2∧i1∉fp2
theorem bI {n:Nat} {it:Addr} {fp:List Addr} {Pt:Nat→Value→Prop} {S:Nat→Heap→Prop} (D:Draws P w A it fp n Pt S) {j:Nat} {h h':Heap} {c:Addr} (st:S j h) (sb:Heap.SameBut c h h') (hc:c∉fp):S j h':=
 D.frame _ _ _ st fun b hb o e=>(sb.2 b fun q=>hc (q▸hb)).trans e
theorem lH {Q:Option Value→Shared→Prop} (D1:Draws P w A.in1 i1 fp1 n1 P1 S1) (D2:Draws P w A.in1 i2 fp2 n2 P2 S2) (Z:ZApart z TI TO i1 i2 fp1 fp2) (h1:k< n1) (h2:k< n2) (hz:IsZip s.heap z TI TO .none)
  (hI:IsPair s.heap TI (.ref i1) (.ref i2)) (hO:IsPair s.heap TO a b) (t1:S1 k s.heap) (t2:S2 k s.heap)
  (q:∀x y h' tk T,P1 k x→P2 k y→T=s.heap.objs.size→IsZip h' z TI TO (rawInt T)→IsPair h' TO x y→S1 (k+1) h'→S2 (k+1) h'→IsPair h' T x y→
   (∀c o,c≠z→c≠TO→c≠i1→c≠i2→s.heap.get? c=some o→h'.get? c=some o)→Q (some (.ref T)) {s with heap:=h',toks:=tk}):
  wpAny (model P w) A (pyNext (.ref z)) Q E s:=by
 have hT:s.TypeIs (.ref z) "zip" :=⟨_,hz,rfl⟩
 unfold pyNext
 refine wpAny_bind (wpAny_attempt (wpAny_callSpecial?_slot (name:=Str.ofString "__next__") hT PySem.F.slot_zip_next (wpAny_call_entry PySem.F.slot_zip_next hT PySem.F.entry_zip_next ?_ (PySem.F.args_zip_next_1 _))))
 obtain⟨hp,gg,dd,tk0,os⟩:=s
 show wpAny (model P w) _ (field (.ref z) 2 >>= _) _ _ _
 refine wpAny_bind (wpAny_field hz rfl (x:=.bool false) rfl ?_)
 show wpAny (model P w) _ (field (.ref z) 3 >>= _) _ _ _
 refine wpAny_bind (wpAny_field hz rfl (x:=.ref TI) rfl (wpAny_bind (wpAny_seqItems hI rfl ?_)))
 show wpAny (model P w) _ (Builtin.SmallTypes.ownedTupleIsFree (.ref z) >>= _) _ _ _
 refine wpAny_bind ?_;unfold Builtin.SmallTypes.ownedTupleIsFree
 refine wpAny_bind (wpAny_field hz rfl (x:=.none) rfl (wpAny_pure ?_));simp only[if_true]
 refine wpAny_bind (wpAny_rule (wpAny_bind (wpAny_field hz rfl (x:=.ref TO) rfl (wpAny_bind (wpAny_setField_rec hz (by simp) fun g1 y1 b1=>?_)))))
 replace y1:IsZip g1 z TI TO .ellipsis:=y1
 replace b1:Heap.SameBut z hp g1:=b1
 refine wpAny_bind ?_;simp only[List.zipIdx_cons,List.zipIdx_nil,List.forIn_cons,List.forIn_nil]
 refine wpAny_bind (wpAny_bind (wpAny_onRaise ?_))
 show wpAny (model P w) _ (Builtin.SmallTypes.nextOf (.ref i1) >>= _) _ _ _
 refine wpAny_bind (D1.item k _ _ _ h1 (bI D1 t1 b1 Z.d1.1) fun x g2 tk2 px u1 b2=>wpAny_pure ?_)
 replace b2:Heap.SameBut i1 g1 g2:=b2
 have O2:IsPair g2 TO a b:=b2.extBut _ _ Z.c8 (b1.extBut _ _ Z.c2 hO)
 refine wpAny_bind (wpAny_seqItems O2 rfl (wpAny_bind (wpAny_updateSeq_pair O2 fun g3 O3 b3=>?_)))
 replace O3:IsPair g3 TO x b:=O3
 replace b3:Heap.SameBut TO g2 g3:=b3
 refine wpAny_bind (wpAny_letGo (wpAny_pure (wpAny_bind (wpAny_bind (wpAny_onRaise ?_)))))
 show wpAny (model P w) _ (Builtin.SmallTypes.nextOf (.ref i2) >>= _) _ _ _
 refine wpAny_bind (D2.item k _ _ _ h2 (bI D2 (bI D2 (bI D2 t2 b1 Z.d2.1) b2 Z.d2.2.2) b3 Z.d2.2.1) fun y g4 tk4 py u2 b4=>wpAny_pure ?_)
 replace b4:Heap.SameBut i2 g3 g4:=b4
 have O4:IsPair g4 TO x b:=b4.extBut _ _ Z.c9 O3
 refine wpAny_bind (wpAny_seqItems O4 rfl (wpAny_bind (wpAny_updateSeq_pair O4 fun g5 O5 b5=>?_)))
 replace O5:IsPair g5 TO x y:=O5
 replace b5:Heap.SameBut TO g4 g5:=b5
 refine wpAny_bind (wpAny_letGo (wpAny_pure (wpAny_pure (wpAny_bind (wpAny_seqItems O5 rfl (wpAny_bind (wpAny_newTuple ?_)))))))
 have sz:g5.objs.size=hp.objs.size:=by rw[b5.1,b4.1,b3.1,b2.1,b1.1]
 have y5:IsZip g5 z TI TO .ellipsis:=b5.extBut _ _ Z.c2.symm (b4.extBut _ _ Z.c4.symm (b3.extBut _ _ Z.c2.symm (b2.extBut _ _ Z.c3.symm y1)))
 have k5:∀c o,c≠z→c≠TO→c≠i1→c≠i2→hp.get? c=some o→g5.get? c=some o:=fun c o e1 e2 e3 e4 e=>b5.extBut _ _ e2 (b4.extBut _ _ e4 (b3.extBut _ _ e2 (b2.extBut _ _ e3 (b1.extBut _ _ e1 e))))
 have v1:S1 (k+1) g5:=bI D1 (bI D1 (bI D1 u1 b3 Z.d1.2.1) b4 Z.d1.2.2) b5 Z.d1.2.1
 have v2:S2 (k+1) g5:=bI D2 u2 b5 Z.d2.2.1
 have lz:z< g5.objs.size:=Heap.lt_size y5
 show wpAny (model P w) _ (Builtin.SmallTypes.ownedTupleHandOut (.ref z) (.ref g5.objs.size) >>= _) _ _ _
 refine wpAny_bind ?_;unfold Builtin.SmallTypes.ownedTupleHandOut
 have y6:IsZip (g5.push {cls:=.type "tuple",data:=.seq #[x,y]}) z TI TO .ellipsis:=Heap.get?_push_of_some _ y5
 refine wpAny_bind (wpAny_setField_rec y6 (by simp) fun g7 y7 b7=>?_)
 replace y7:IsZip g7 z TI TO (rawInt g5.objs.size):=y7
 replace b7:Heap.SameBut z (g5.push {cls:=.type "tuple",data:=.seq #[x,y]}) g7:=b7
 refine wpAny_setField_rec y7 (by simp) fun g8 y8 b8=>?_
 replace y8:IsZip g8 z TI TO (rawInt g5.objs.size):=y8
 replace b8:Heap.SameBut z g7 g8:=b8
 have up:∀c o,c≠z→g5.get? c=some o→g8.get? c=some o:=fun c o e1 e=>b8.extBut _ _ e1 (b7.extBut _ _ e1 (Heap.get?_push_of_some _ e))
 have T8:IsPair g8 g5.objs.size x y:=b8.extBut _ _ (Nat.ne_of_gt lz) (b7.extBut _ _ (Nat.ne_of_gt lz) (Heap.get?_push_size _ rfl))
 refine wpAny_pure ⟨_,rfl,wpAny_pure (q x y g8 _ g5.objs.size px py sz y8 (up _ _ Z.c2 O5) (D1.frame _ _ _ v1 fun b hb o e=>up b o (fun q=>Z.d1.1 (q▸hb)) e) (D2.frame _ _ _ v2 fun b hb o e=>up b o (fun q=>Z.d2.1 (q▸hb)) e) T8 fun c o e1 e2 e3 e4 e=>up c o e1 (k5 c o e1 e2 e3 e4 e))⟩
theorem mY {Q:Option Value→Shared→Prop} (hh:A.handled=none) (D1:Draws P w A.in1 i1 fp1 n1 P1 S1) (D2:Draws P w A.in1 i2 fp2 n2 P2 S2) (Z:ZApart z TI TO i1 i2 fp1 fp2) (hk:k=n1∨(k< n1∧k=n2)) (hz:IsZip s.heap z TI TO .none)
  (hI:IsPair s.heap TI (.ref i1) (.ref i2)) (hO:IsPair s.heap TO a b) (t1:S1 k s.heap) (t2:S2 k s.heap)
  (q:∀h' tk,(∀c o,c≠z→c≠TO→c≠i1→c≠i2→s.heap.get? c=some o→h'.get? c=some o)→Q none {s with heap:=h',toks:=tk}):
  wpAny (model P w) A (pyNext (.ref z)) Q E s:=by
 have hT:s.TypeIs (.ref z) "zip" :=⟨_,hz,rfl⟩
 unfold pyNext
 refine wpAny_bind (wpAny_attempt (wpAny_callSpecial?_slot (name:=Str.ofString "__next__") hT PySem.F.slot_zip_next (wpAny_call_entry PySem.F.slot_zip_next hT PySem.F.entry_zip_next ?_ (PySem.F.args_zip_next_1 _))))
 obtain⟨hp,gg,dd,tk0,os⟩:=s
 show wpAny (model P w) _ (field (.ref z) 2 >>= _) _ _ _
 refine wpAny_bind (wpAny_field hz rfl (x:=.bool false) rfl ?_)
 show wpAny (model P w) _ (field (.ref z) 3 >>= _) _ _ _
 refine wpAny_bind (wpAny_field hz rfl (x:=.ref TI) rfl (wpAny_bind (wpAny_seqItems hI rfl ?_)))
 show wpAny (model P w) _ (Builtin.SmallTypes.ownedTupleIsFree (.ref z) >>= _) _ _ _
 refine wpAny_bind ?_;unfold Builtin.SmallTypes.ownedTupleIsFree
 refine wpAny_bind (wpAny_field hz rfl (x:=.none) rfl (wpAny_pure ?_));simp only[if_true]
 refine wpAny_bind (wpAny_rule (wpAny_bind (wpAny_field hz rfl (x:=.ref TO) rfl (wpAny_bind (wpAny_setField_rec hz (by simp) fun g1 y1 b1=>?_)))))
 replace y1:IsZip g1 z TI TO .ellipsis:=y1
 replace b1:Heap.SameBut z hp g1:=b1
 refine wpAny_bind ?_;simp only[List.zipIdx_cons,List.zipIdx_nil,List.forIn_cons,List.forIn_nil]
 refine wpAny_bind (wpAny_bind (wpAny_onRaise ?_))
 show wpAny (model P w) _ (Builtin.SmallTypes.nextOf (.ref i1) >>= _) _ _ _
 rcases hk with hk | ⟨hk1,hk2⟩
 ·subst hk
  refine wpAny_bind (D1.done _ _ _ (bI D1 t1 b1 Z.d1.1) fun g2 e b2 he=>?_)
  obtain⟨oe,hoe,hce⟩:=he
  replace b2:Heap.ExtBut i1 g1 g2:=b2
  have y2:IsZip g2 z TI TO .ellipsis:=b2 _ _ Z.c3.symm y1
  have ez:e≠z:=fun x=>by subst x;rw[y2]at hoe;cases hoe;simp at hce
  refine wpAny_setField_rec y2 (by simp) fun g3 _ b3=>?_
  exact wpAny_bind (wpAny_isInstance (T:="StopIteration") (b:=true) ⟨oe,b3.extBut _ _ ez hoe,hce⟩ isSubtype_stop (wpAny_pure (q g3 _ fun c o e1 _ e3 _ x=>b3.extBut _ _ e1 (b2 _ _ e3 (b1.extBut _ _ e1 x)))))
 ·subst hk2
  refine wpAny_bind (D1.item k _ _ _ hk1 (bI D1 t1 b1 Z.d1.1) fun x g2 tk2 px u1 b2=>wpAny_pure ?_)
  replace b2:Heap.SameBut i1 g1 g2:=b2
  have O2:IsPair g2 TO a b:=b2.extBut _ _ Z.c8 (b1.extBut _ _ Z.c2 hO)
  refine wpAny_bind (wpAny_seqItems O2 rfl (wpAny_bind (wpAny_updateSeq_pair O2 fun g3 O3 b3=>?_)))
  replace b3:Heap.SameBut TO g2 g3:=b3
  refine wpAny_bind (wpAny_letGo (wpAny_pure (wpAny_bind (wpAny_bind (wpAny_onRaise ?_)))))
  show wpAny (model P w) _ (Builtin.SmallTypes.nextOf (.ref i2) >>= _) _ _ _
  refine wpAny_bind (D2.done _ _ _ (bI D2 (bI D2 (bI D2 t2 b1 Z.d2.1) b2 Z.d2.2.2) b3 Z.d2.2.1) fun g4 e b4 he=>?_)
  obtain⟨oe,hoe,hce⟩:=he
  replace b4:Heap.ExtBut i2 g3 g4:=b4
  have y4:IsZip g4 z TI TO .ellipsis:=b4 _ _ Z.c4.symm (b3.extBut _ _ Z.c2.symm (b2.extBut _ _ Z.c3.symm y1))
  have ez:e≠z:=fun x=>by subst x;rw[y4]at hoe;cases hoe;simp at hce
  refine wpAny_setField_rec y4 (by simp) fun g5 _ b5=>?_
  exact wpAny_bind (wpAny_isInstance (T:="StopIteration") (b:=true) ⟨oe,b5.extBut _ _ ez hoe,hce⟩ isSubtype_stop (wpAny_pure (q g5 _ fun c o e1 e2 e3 e4 x=>b5.extBut _ _ e1 (b4 _ _ e4 (b3.extBut _ _ e2 (b2.extBut _ _ e3 (b1.extBut _ _ e1 x)))))))
end
end L2
namespace L2
open PySem PySem.Spec PyProof.Rows
def sx (K:PySem.W.Frag) (c1 c2:Src):It:=
  ⟨fun i H=>∃xs ys x y,c1.has K H xs∧c2.has K H ys∧xs[i]? =some x∧ys[i]? =some y,
   fun i H v H'=>∃p x y,H p=none∧v=.ref p∧(∀xs,c1.has K H xs→xs[i]? =some x)∧(∀ys,c2.has K H ys→ys[i]? =some y)∧H'=bQ H p (.tup [x,y]),
   fun i H=>∃xs ys,c1.has K H xs∧c2.has K H ys∧(i=xs.length∨(i< xs.length∧i=ys.length))⟩
theorem Src.inj {X:Cx} {pins:List (Addr×Obj)} {σ:St} {H:Hp} {s:Shared} {c:Src} {xs ys:List V} (I:Inv X pins σ H s) (h1:c.has X.K H xs) (h2:c.has X.K H ys):xs=ys:=by
 cases c with
 | lst a=>exact I.list_inj h1 h2
 | tup a=>exact I.tuple_inj h1 h2
 | str l=>exact Eq.trans h1 (Eq.symm h2)
theorem Src.at_keep {c:Src} {it:Addr} {i:Nat} {h h':Heap} (st:c.at it i h) (k:∀o,h.get? it=some o→h'.get? it=some o):c.at it i h':=by
 cases c with
 | lst a=>obtain⟨o,e,r⟩:=st;exact⟨o,k o e,r⟩
 | tup a=>obtain⟨o,e,r⟩:=st;exact⟨o,k o e,r⟩
 | str l =>
  obtain⟨t,st⟩:=st
  rcases st with⟨o,e,r⟩ | ⟨o,e,r⟩
  ·exact⟨t,.inl ⟨o,k o e,r⟩⟩
  ·exact⟨t,.inr ⟨o,k o e,r⟩⟩
theorem Src.at_obj {c:Src} {it:Addr} {i:Nat} {h:Heap} (st:c.at it i h):∃o,h.get? it=some o∧∃vs,o.data=.fields vs:=by
 cases c with
 | lst a=>obtain⟨o,e,_,r⟩:=st;exact⟨o,e,_,r⟩
 | tup a=>obtain⟨o,e,_,r⟩:=st;exact⟨o,e,_,r⟩
 | str l =>
  obtain⟨t,st⟩:=st
  rcases st with⟨o,e,_,r⟩ | ⟨o,e,_,r⟩
  ·exact⟨o,e,_,r⟩
  ·exact⟨o,e,_,r⟩
def u7 (c1 c2:Src) (z TI TO i1 i2:Addr) (i:Nat) (h:Heap):Prop:=IsZip h z TI TO .none∧IsPair h TI (.ref i1) (.ref i2)∧(∃a b,IsPair h TO a b)∧c1.at i1 i h∧c2.at i2 i h
structure ZIds (z TI TO i1 i2:Addr):Prop where
 c1:TI≠z
 c2:TO≠z
 c3:i1≠z
 c4:i2≠z
 c5:TI≠TO
 c6:TI≠i1
 c7:TI≠i2
 c8:TO≠i1
 c9:TO≠i2
 c10:i1≠i2
theorem mZ {X:Cx} {pins:List (Addr×Obj)} {σ:St} {H:Hp} {s:Shared} {z TI TO i1 i2:Addr} {fp1 fp2:List Addr} (I:Inv X pins σ H s) (Z:ZIds z TI TO i1 i2) (hf:∀b∈[z,TI,TO,i1,i2],FpOk X pins H b)
  (g1:∀b∈fp1,b=i1∨H b≠none∨∃o,X.base.get? b=some o) (g2:∀b∈fp2,b=i2∨H b≠none∨∃o,X.base.get? b=some o):ZApart z TI TO i1 i2 fp1 fp2:=by
 have no:∀b∈[z,TI,TO,i1,i2],¬(H b≠none∨∃o,X.base.get? b=some o):=fun b hb q=>by
  rcases q with q | ⟨o,q⟩
  ·exact q (hf b hb).1
  ·rcases (hf b hb).2.2.2.1 with y | y
   ·exact I.ok.noex b o q y
   ·exact absurd (Nat.lt_of_lt_of_le (Nat.lt_of_lt_of_le (Heap.lt_size q) I.ok.bsz) y) (Nat.lt_irrefl _)
 refine⟨Z.c1,Z.c2,Z.c3,Z.c4,Z.c5,Z.c6,Z.c7,Z.c8,Z.c9,⟨fun m=>?_,fun m=>?_,fun m=>?_⟩,⟨fun m=>?_,fun m=>?_,fun m=>?_⟩⟩
 ·exact(g1 _ m).elim (fun e=>Z.c3 e.symm) (no z (by simp))
 ·exact(g1 _ m).elim (fun e=>Z.c8 e) (no TO (by simp))
 ·exact(g1 _ m).elim (fun e=>Z.c10 e.symm) (no i2 (by simp))
 ·exact(g2 _ m).elim (fun e=>Z.c4 e.symm) (no z (by simp))
 ·exact(g2 _ m).elim (fun e=>Z.c9 e) (no TO (by simp))
 ·exact(g2 _ m).elim (fun e=>Z.c10 e) (no i1 (by simp))
theorem n0 {P:Program} {w:World} {K:PySem.W.Frag} {elts:List Expr} {kk:Nat} {tp:Pos} (c1 c2:Src) (z TI TO i1 i2:Addr) (Z:ZIds z TI TO i1 i2):
  Turn P w K (.Tuple elts kk tp) (sx K c1 c2) [z,TI,TO,i1,i2] z (u7 c1 c2 z TI TO i1 i2) where
 mem:=by simp
 obj:=fun i h st b hb=>by
  obtain⟨hz,hI,⟨a,b',hO⟩,t1,t2⟩:=st
  obtain⟨o1,e1,v1,d1⟩:=Src.at_obj t1
  obtain⟨o2,e2,v2,d2⟩:=Src.at_obj t2
  simp only[List.mem_cons,List.not_mem_nil,or_false]at hb
  rcases hb with rfl | rfl | rfl | rfl | rfl
  ·exact⟨_,hz,fun v q=>by cases (show Data.fields _=Data.cell v from q)⟩
  ·exact⟨_,hI,fun v q=>by cases (show Data.seq _ _=Data.cell v from q)⟩
  ·exact⟨_,hO,fun v q=>by cases (show Data.seq _ _=Data.cell v from q)⟩
  ·exact⟨_,e1,fun v q=>by rw[d1]at q;cases q⟩
  ·exact⟨_,e2,fun v q=>by rw[d2]at q;cases q⟩
 keep:=fun i h h' st k=>by
  obtain⟨hz,hI,⟨a,b',hO⟩,t1,t2⟩:=st
  exact⟨k z (by simp) _ hz,k TI (by simp) _ hI,⟨a,b',k TO (by simp) _ hO⟩,Src.at_keep t1 (k i1 (by simp)),Src.at_keep t2 (k i2 (by simp))⟩
 item:=by
  intro X hP hw hK hc i pins s σ H E I hf st hg
  subst hP hw hK
  obtain⟨xs,ys,x,y,hx,hy,ex,ey⟩:=hg
  obtain⟨hz,hI,⟨a,b',hO⟩,t1,t2⟩:=st
  have hh:X.A.in1.handled=none:=I.ok.hd hc
  obtain⟨fp1,P1,S1,D1,u1,r1,a1,_,g1⟩:=Src.draws (A:=X.A.in1) hh I hx t1 (hf i1 (by simp)).1
  obtain⟨fp2,P2,S2,D2,u2,r2,a2,_,g2⟩:=Src.draws (A:=X.A.in1) hh I hy t2 (hf i2 (by simp)).1
  have ZA:=mZ I Z hf g1 g2
  refine lH D1 D2 ZA (List.getElem?_eq_some_iff.mp ex).1 (List.getElem?_eq_some_iff.mp ey).1 hz hI hO u1 u2 fun vx vy h' tk T px py hT hz' hO' w1 w2 hTp kp=>?_
  obtain⟨x',ex',rx⟩:=r1 i vx px
  obtain⟨y',ey',ry⟩:=r2 i vy py
  rw[ex]at ex';cases ex'
  rw[ey]at ey';cases ey'
  have nT:H T=none:=by rw[hT];exact I.hok.fresh (Nat.le_refl _)
  refine⟨_,rfl,wpAny_letOwnedTupleGo_zip hz' fun h2 hz2 sb=>?_⟩
  have lt:∀{c o},s.heap.get? c=some o→c≠T:=fun e=>by rw[hT];exact Nat.ne_of_lt (Heap.lt_size e)
  have up:∀c o,c≠z→h'.get? c=some o→h2.get? c=some o:=fun c o hc e=>(sb.2 c hc).trans e
  have kp2:∀b o,b∉[z,TO,i1,i2]→s.heap.get? b=some o→h2.get? b=some o:=fun b o hb e=>by
   simp only[List.mem_cons,List.not_mem_nil,or_false,not_or]at hb
   exact up b o hb.1 (kp b o hb.1 hb.2.1 hb.2.2.1 hb.2.2.2 e)
  have ch:∀b∈[z,TO,i1,i2],b∈[z,TI,TO,i1,i2]:=fun b hb=>by
   simp only[List.mem_cons,List.not_mem_nil,or_false]at hb ⊢
   rcases hb with h | h | h | h <;> simp[h]
  have jo:∀b u,H b=some u→b∉[z,TO,i1,i2]∧b≠T:=fun b u e=>⟨fun hb=>(by rw[(hf b (ch b hb)).1]at e;cases e),fun q=>(by rw[q,nT]at e;cases e)⟩
  have I2:Inv X pins σ (bQ H T (.tup [x,y])) {s with heap:=h2,gens:=s.gens,drawn:=s.drawn,toks:=tk} :=by
   refine I.step (g':=s.gens) (d':=s.drawn) (t':=tk) (ch:=[z,TO,i1,i2]) (fun b hb=>⟨(hf b (ch b hb)).2.2.2.1,(hf b (ch b hb)).2.1,(hf b (ch b hb)).2.2.2.2.1,(hf b (ch b hb)).2.2.2.2.2⟩) (fun b o _ _ hb e _=>kp2 b o hb e) (fun b o _ _ hb e _=>⟨o.slots,kp2 b o hb e⟩)
    (fun b o hb e n=>by rw[ay (lt e)];exact n) (fun b o hb e=>⟨o,kp2 b o hb e⟩) (fun b xs e=>by rw[ay (jo b _ e).2];exact e) (fun b o u e=>by rw[ay (jo b _ e).2];exact e) (fun b ps e=>⟨#[],by rw[ay (jo b _ e).2,e];simp⟩) (fun m hm=>?_) (fun b u e=>?_) I.bare
   ·obtain⟨o,es,ep,ho,r⟩:=hm
    exact⟨o,es,ep,kp2 _ o (fun hb=>(hf _ (ch _ hb)).2.1 rfl) ho,r⟩
   ·by_cases hb:b=T
    ·subst hb
     rw[ax]at e;cases e
     refine⟨(by show 2≤sizeLine;rw[sizeLine_eq];decide),[vx,vy],.cons rx (.cons ry .nil),⟨_,up _ _ ?_ hTp,⟨rfl,rfl⟩,_,rfl⟩⟩
     exact fun q=>lt hz q.symm
    ·rw[ay hb]at e
     refine(I.hok b u e).stay (fun c v hc q=>kp2 c v ?_ q) (fun c q=>by rw[ay (jo c _ q).2];exact q) fun c xs q=>by rw[ay (jo c _ q).2];exact q
     rcases hc with q | q
     ·rw[q];exact(jo b u e).1
     ·exact(jo c _ q).1
  refine⟨.ref T,_,I2,rfl,⟨T,x,y,nT,rfl,fun xs' h=>by rw[Src.inj I h hx];exact ex,fun ys' h=>by rw[Src.inj I h hy];exact ey,rfl⟩,⟨hz2,up _ _ Z.c1 (kp _ _ Z.c1 Z.c5 Z.c6 Z.c7 hI),⟨_,_,up _ _ Z.c2 hO'⟩,Src.at_keep (a1 _ _ w1) fun o e=>up _ o Z.c3 e,Src.at_keep (a2 _ _ w2) fun o e=>up _ o Z.c4 e⟩,fun b hb=>?_⟩
  have hbT:b≠T:=by
   obtain⟨o,e⟩:∃o,s.heap.get? b=some o:=by
    obtain⟨o1,e1,_⟩:=Src.at_obj t1
    obtain⟨o2,e2,_⟩:=Src.at_obj t2
    simp only[List.mem_cons,List.not_mem_nil,or_false]at hb
    rcases hb with rfl | rfl | rfl | rfl | rfl
    ·exact⟨_,hz⟩
    ·exact⟨_,hI⟩
    ·exact⟨_,hO⟩
    ·exact⟨_,e1⟩
    ·exact⟨_,e2⟩
   exact lt e
  rw[ay hbT]
  exact(hf b hb).1
 done:=by
  intro X hP hw hK hc i pins s σ H E I hf st hg
  subst hP hw hK
  obtain⟨xs,ys,hx,hy,hend⟩:=hg
  obtain⟨hz,hI,⟨a,b',hO⟩,t1,t2⟩:=st
  have hh:X.A.in1.handled=none:=I.ok.hd hc
  obtain⟨fp1,P1,S1,D1,u1,r1,a1,_,g1⟩:=Src.draws (A:=X.A.in1) hh I hx t1 (hf i1 (by simp)).1
  obtain⟨fp2,P2,S2,D2,u2,r2,a2,_,g2⟩:=Src.draws (A:=X.A.in1) hh I hy t2 (hf i2 (by simp)).1
  have ZA:=mZ I Z hf g1 g2
  have ch:∀b∈[z,TO,i1,i2],b∈[z,TI,TO,i1,i2]:=fun b hb=>by
   simp only[List.mem_cons,List.not_mem_nil,or_false]at hb ⊢
   rcases hb with h | h | h | h <;> simp[h]
  refine mY hh D1 D2 ZA hend hz hI hO u1 u2 fun h2 tk kp=>⟨rfl,?_⟩
  have kp2:∀b o,b∉[z,TO,i1,i2]→s.heap.get? b=some o→h2.get? b=some o:=fun b o hb e=>by
   simp only[List.mem_cons,List.not_mem_nil,or_false,not_or]at hb
   exact kp b o hb.1 hb.2.1 hb.2.2.1 hb.2.2.2 e
  refine I.step (g':=s.gens) (d':=s.drawn) (t':=tk) (ch:=[z,TO,i1,i2]) (fun b hb=>⟨(hf b (ch b hb)).2.2.2.1,(hf b (ch b hb)).2.1,(hf b (ch b hb)).2.2.2.2.1,(hf b (ch b hb)).2.2.2.2.2⟩) (fun b o _ _ hb e _=>kp2 b o hb e) (fun b o _ _ hb e _=>⟨o.slots,kp2 b o hb e⟩)
   (fun b o hb e n=>n) (fun b o hb e=>⟨o,kp2 b o hb e⟩) (fun b xs e=>e) (fun b o u e=>e) (fun b ps e=>⟨#[],by rw[e];simp⟩) (fun m hm=>?_) (fun b u e=>?_) I.bare
  ·obtain⟨o,es,ep,ho,r⟩:=hm
   exact⟨o,es,ep,kp2 _ o (fun hb=>(hf _ (ch _ hb)).2.1 rfl) ho,r⟩
  ·have jo:∀b u,H b=some u→b∉[z,TO,i1,i2]:=fun b u e hb=>by rw[(hf b (ch b hb)).1]at e;cases e
   refine(I.hok b u e).stay (fun c v hc q=>kp2 c v ?_ q) (fun c q=>q) fun c xs q=>q
   rcases hc with q | q
   ·rw[q];exact jo b u e
   ·exact jo c _ q
 self:=fun _ _ _ _ _ st h=>wpAny_pyIter_zip st.1 h
theorem p4 (n a b:Nat) (h:a≠b): @Ne Nat (n+a) (n+b):=fun e=>h (Nat.add_left_cancel e)
def sy (K:PySem.W.Frag) (t:TA):TI:=fun σ H R=>t σ H fun vs H1=>∃c1 c2 xs ys,vs=[c1.val,c2.val]∧c1.has K H1 xs∧c2.has K H1 ys∧R (sx K c1 c2) H1
theorem rj {X:Cx} {a b:Expr} {ta:TA} {p pos tp:Pos} {elts:List Expr} {kk:Nat} (hg:Gl X "zip") (hm:X.mg "zip" =none) (ha:PA X [a,b] ta)
  (hs:starEach [a,b] X.env=[(false,eval a X.env),(false,eval b X.env)]:=by rfl) (hs2:starEach [b] X.env=[(false,eval b X.env)]:=by rfl):PI X (.Tuple elts kk tp) (.Call (.Name "zip" p) [a,b] [] pos) (sy X.K ta):=by
 intro pins s σ H R I h
 refine Call_ (fY I hg hm boot_zip (PyProof.Rows.callWith_type1 (bv (ha pos pins s σ H _ I h) fun us s1 ⟨vs,H1,I1,r1,q1⟩=>?_) (by rw[hs,hs2]) (by rw[hs2];rfl)))
 obtain⟨c1,c2,xs,ys,e,h1,h2,q⟩:=q1
 subst e
 obtain⟨v1,v2,rfl,ra,rb⟩:=kC r1
 obtain⟨o1,i1,f1,n1⟩:=Src.iter I1 h1 ra fun _ _ e=>e
 obtain⟨o2,i2,f2,n2⟩:=Src.iter (h:=s1.heap.push o1) I1 h2 rb fun _ _ e=>Heap.get?_push_of_some _ e
 have z1:(s1.heap.push o1).objs.size=s1.heap.objs.size+1:=Heap.size_push ..
 rw[z1]at n2
 refine lG i1 i2 f1 f2 fun h' hz hI hO e1 e2 kp=>?_
 refine wpAny_pyIter_zip hz ?_
 have zi:∀n:Nat,ZIds (n+4) (n+2) (n+3) n (n+1):=fun n=>⟨(p4 n 2 4 (by decide)),(p4 n 3 4 (by decide)),(p4 n 0 4 (by decide)),(p4 n 1 4 (by decide)),(p4 n 2 3 (by decide)),(p4 n 2 0 (by decide)),(p4 n 2 1 (by decide)),(p4 n 3 0 (by decide)),(p4 n 3 1 (by decide)),(p4 n 0 1 (by decide))⟩
 refine⟨s1.heap.objs.size+4,[s1.heap.objs.size+4,s1.heap.objs.size+2,s1.heap.objs.size+3,s1.heap.objs.size,s1.heap.objs.size+1],_,_,H1,rfl,I1.kept (t':=s1.toks) kp,n0 c1 c2 _ _ _ _ _ (zi s1.heap.objs.size),⟨hz,hI,⟨_,_,hO⟩,n1 h' e1,n2 h' e2⟩,fun b hb=>?_,q⟩
 have hb':s1.heap.objs.size≤b:=by
  simp only[List.mem_cons,List.not_mem_nil,or_false]at hb
  rcases hb with z | z | z | z | z <;> rw[z]
  ·exact Nat.le_add_right _ 4
  ·exact Nat.le_add_right _ 2
  ·exact Nat.le_add_right _ 3
  ·exact Nat.le_refl _
  ·exact Nat.le_add_right _ 1
 exact I1.fpOk hb' (I1.hok.fresh hb')
theorem pz {K:PySem.W.Frag} {c1 c2:Src} {xs ys:List V} {g:TG} {tb:TS} {D:Ends} {σ:St} {H:Hp} (Pv:Nat→St→Hp→Prop) (h0:Pv 0 σ H) (hl:∀i σ H,Pv i σ H→c1.has K H xs∧c2.has K H ys) (hn:xs.length=ys.length)
  (hs:∀i x y p σ H,xs[i]? =some x→ys[i]? =some y→H p=none→Pv i σ H→g (.ref p) σ (bQ H p (.tup [x,y])) fun σ2 H2=>tb {D with nx:=Pv (i+1),ct:=Pv (i+1),bk:=D.nx} σ2 H2) (hd:∀σ H,Pv xs.length σ H→D.nx σ H):
  ∃ W : Nat → Nat → St → Hp → Prop, (∃ m, W 0 m σ H) ∧ ∀ i m σ H, W i m σ H →
   ((sx K c1 c2).stop i H∧D.nx σ H)∨((sx K c1 c2).go i H∧∃N:St→Hp→Prop,(∀σ' H',N σ' H'→∃m',m'< m∧W (i+1) m' σ' H')∧∀x H',(sx K c1 c2).yld i H x H'→g x σ H' fun σ2 H2=>tb {D with nx:=N,ct:=N,bk:=D.nx} σ2 H2):=by
 refine⟨fun i m σ H=>m=xs.length- i∧i≤xs.length∧Pv i σ H,⟨xs.length,by simp,Nat.zero_le _,h0⟩,?_⟩
 rintro i m σ H ⟨rfl,hi,p⟩
 obtain⟨q1,q2⟩:=hl i σ H p
 by_cases hlt:i< xs.length
 ·refine .inr ⟨⟨xs,ys,xs[i],ys[i],q1,q2,by simp[hlt],by simp[←hn,hlt]⟩,Pv (i+1),fun σ' H' p'=>⟨xs.length- (i+1),by omega,rfl,hlt,p'⟩,fun v H' ⟨a,x,y,na,ev,ex,ey,eh⟩=>?_⟩
  subst ev eh
  exact hs i x y a σ H (ex xs q1) (ey ys q2) na p
 ·have e:i=xs.length:=by omega
  subst e
  exact .inl ⟨⟨xs,ys,q1,q2,.inl rfl⟩,hd σ H p⟩
end L2
namespace L2
open PySem PySem.Spec PyProof.Rows
structure Cal (P:Program) (w:World) (K:PySem.W.Frag) (mg:Str→Option Value) (base:Heap) (x:Str) (ps:List Str) (k:Nat) (sp:Sp):Prop where
 ex:∃(f:Addr) (fd:FuncData),FnOk P w K mg base CX0 k f fd ps sp∧mg x=some (.ref f)∧PySem.W.keepIn K (.ref f)=true∧Binds K fd ps []
theorem bw {X:Cx} {x:Str} {ps:List Str} {k:Nat} {sp:Sp} {p pos:Pos} {e:Expr} {es:List Expr} {t:TA} (C:Cal X.prog X.w X.K X.mg X.base x ps k sp) (hr:Room k X.A) (hg:Gl X x) (ha:PA X (e::es) t)
  (hdb:(x == ("__debug__" :Str))=false:=by decide) (he:starEach (e::es) X.env=(false,eval e X.env)::starEach es X.env:=by rfl) (hpl:(backTo pos (starEach es X.env)).any (·.1)=false:=by rfl):
  PE X (.Call (.Name x p) (e::es) [] pos) (aM sp [] E0 t):=by
 obtain⟨f,fd,F,hm,hk,hb⟩:=C.ex
 exact pj F hr hg hm hk hb .nil kF ha hdb he hpl
theorem fj {X:Cx} {scope:Scope} {N:List Str} {cap:List (Option Nat)} (kind:scope.kind=.function) (nd:N.Nodup) (len:cap.length=N.length) (uniq:(scope.names.map (·.1)).Nodup)
  (fr:(scope.names.all fun x=>x.2 != .free || (X.env.kindOf x.1 == some .cell || X.env.kindOf x.1 == some .free))=true)
  (cp:((N.zip cap).all fun p=>match p.2 with | none=>true | some j=>X.N[j]? == some p.1 && scope.names.contains (p.1,NameKind.free))=true):CompScope X scope N cap:=by
 refine⟨kind,nd,len,uniq,fun x hx hk=>?_,fun k x j h1 h2=>?_⟩
 ·have:=List.all_eq_true.mp fr x hx
  rw[hk]at this
  simpa using this
 ·have hm:(x,some j)∈N.zip cap:=by
   rw[List.mem_iff_getElem?]
   exact⟨k,by rw[List.getElem?_zip_eq_some];exact⟨h1,h2⟩⟩
  have:=List.all_eq_true.mp cp _ hm
  simpa using this
def flat:V→Bool
 | .non=>true
 | .bl _=>true
 | .int _=>true
 | .str _=>true
 | _=>false
theorem cR {H:Hp} {p:Addr} {o:HO} (h:H p=none):Same H (bQ H p o):=fun b u e=>by rw[ay (cb e h)];exact e
end L2
namespace L2
open PySem PySem.Spec PyProof.Rows
theorem bL (x:String) (l:List Nat) (h:(Str.ofString x).cps.toList=l):Str.ofString x=sOf l:=by rw[rh (Str.ofString x),h]
end L2
namespace L2
open PySem PySem.Spec PyProof.Rows
section
variable {X:Cx} {K:PySem.W.Frag} {w:World}
theorem aO (h:X.K=K):rQ X (bS K):=h▸rc
theorem au (h:X.K=K):rQ X (bH K):=h▸pr
theorem cD (h:X.K=K):df X (.builtin "len") (fun xs H Q=>∃x n,xs=[x]∧iV K x H n∧Q (.int n) H):=h▸mK
theorem ba (h:X.K=K):df X (.builtin "isinstance") (fun xs H Q=>∃x T t b,xs=[x,.ty T]∧TyOf K H x t∧PySem.W.kitOne K t (.type T)=some b∧Q (.bl b) H):=h▸iZ
theorem pA (h:X.K=K) {pos:Pos} {es:List Expr} {k:Nat} {t:p9} {n:Nat} (hc:X.calm=true) (hg:rP X es t) (hn:(assignEach es X.env).length=n:=by rfl) (hst:(assignEach es X.env).findIdx? (·.1)=none:=by rfl):PG X (.Tuple es k pos) (bN K n t):=h▸qW hc hg hn hst
theorem cg (h:X.K=K) {tg l:Expr} {tl:TE} (hl:PE X l tl):PI X tg l (g6 K tl):=h▸pc hl
theorem pC (h:X.K=K) {a b:Expr} {ta:TA} {p pos tp:Pos} {elts:List Expr} {kk:Nat} (hg:Gl X "zip") (hm:X.mg "zip" =none) (ha:PA X [a,b] ta)
  (hs:starEach [a,b] X.env=[(false,eval a X.env),(false,eval b X.env)]:=by rfl) (hs2:starEach [b] X.env=[(false,eval b X.env)]:=by rfl):PI X (.Tuple elts kk tp) (.Call (.Name "zip" p) [a,b] [] pos) (sy K ta):=h▸rj hg hm ha hs hs2
theorem iw (h:X.K=K) {o e:Expr} {es:List Expr} {to:TE} {t:TA} {name:Str} {apos cpos:Pos} {T id:String} {r:V→List V→Hp→VK→Prop} (pa:PlainAttrs T) (slot:Slot T name id) (hty:typeOf (.builtin id)=pure (.type "method_descriptor")) (hm:r9 X id r) (ho:PE X o to) (ha:PA X (e::es) t)
  (hbase:attributeBase o name X.env (eval o X.env)=eval o X.env:=by rfl)
  (hfew:((backTo cpos (starEach (e::es) X.env)).all (fun x=> !x.1) && (backToKw cpos (keywordEach [] X.env)).all (fun x=>x.1.isSome) && decide ((e::es).length+([]:List Keyword).length+(if([]:List Keyword).isEmpty then 0 else 1)< 30))=true:=by rfl)
  (hline:(apos.endLine == cpos.line)=true:=by rfl) (hs:starEach (e::es) X.env=(false,eval e X.env)::starEach es X.env:=by rfl) (hplain:(backTo cpos (starEach es X.env)).any (·.1)=false:=by rfl):
  PE X (.Call (.Attribute o name apos) (e::es) [] cpos) (dc K T r to t):=h▸sr pa slot hty hm ho ha hbase hfew hline hs hplain
end
end L2
namespace L2
open PySem PySem.Spec PyProof.Rows
end L2
namespace L2
open PySem PySem.Spec PyProof.Rows
end L2
namespace Wb
open PySem L2
abbrev Rp (α:Type):=Hp→α→V→Prop
class Mono {α:Type} (R:Rp α):Prop where
 mono:∀{H H':Hp} {m:α} {v:V},Same H H'→R H m v→R H' m v
def LR {α:Type} (R:Rp α) (H:Hp) (ms:List α) (vs:List V):Prop:=vs.length=ms.length∧∀(i:Nat) (v:V) (m:α),vs[i]? =some v→ms[i]? =some m→R H m v
theorem LR.nil {α:Type} {R:Rp α} {H:Hp} :LR R H [] []:=⟨rfl,fun i v m e=>by simp at e⟩
theorem LR.same {α:Type} {R:Rp α} [Mono R] {H H':Hp} {ms:List α} {vs:List V} (h:LR R H ms vs) (e:Same H H'):LR R H' ms vs:=⟨h.1,fun i v m a b=>Mono.mono e (h.2 i v m a b)⟩
theorem LR.snoc {α:Type} {R:Rp α} {H:Hp} {ms:List α} {vs:List V} {m:α} {v:V} (h:LR R H ms vs) (r:R H m v):LR R H (ms++ [m]) (vs++ [v]):=by
 refine⟨by simp[h.1],fun i v' m' a b=>?_⟩
 by_cases hi:i< vs.length
 ·rw[List.getElem?_append_left hi]at a
  rw[List.getElem?_append_left (by rw[←h.1];exact hi)]at b
  exact h.2 i v' m' a b
 ·rw[List.getElem?_append_right (by omega)]at a
  rw[List.getElem?_append_right (by rw[←h.1];omega)]at b
  rw[←h.1]at b
  cases e:i- vs.length with
  | zero=>rw[e]at a b;simp at a b;subst a b;exact r
  | succ n=>rw[e]at a;simp at a
theorem LR.get {α:Type} {R:Rp α} {H:Hp} {ms:List α} {vs:List V} {i:Nat} {m:α} (h:LR R H ms vs) (e:ms[i]? =some m):∃v,vs[i]? =some v∧R H m v:=by
 have hi:i< vs.length:=by rw[h.1];exact(List.getElem?_eq_some_iff.mp e).1
 exact⟨vs[i],by simp[hi],h.2 i _ m (by simp[hi]) e⟩
theorem LR.got {α:Type} {R:Rp α} {H:Hp} {ms:List α} {vs:List V} {i:Nat} {v:V} (h:LR R H ms vs) (e:vs[i]? =some v):∃m,ms[i]? =some m∧R H m v:=by
 have hi:i< ms.length:=by rw[←h.1];exact(List.getElem?_eq_some_iff.mp e).1
 exact⟨ms[i],by simp[hi],h.2 i v _ e (by simp[hi])⟩
def isL {α:Type} (R:Rp α):Rp (List α):=fun H ms v=>∃p vs,v=.ref p∧H p=some (.lst vs)∧LR R H ms vs
instance zkeep1 {α:Type} {R:Rp α} [Mono R]:Mono (isL R):=⟨fun e ⟨p,vs,h1,h2,h3⟩=>⟨p,vs,h1,e _ _ h2,h3.same e⟩⟩
def isS:Rp (List Nat):=fun _ l v=>v=.str (sOf l)
instance zkeep2:Mono isS:=⟨fun _ h=>h⟩
def isI:Rp Int:=fun _ l v=>v=.int l
instance zkeep4:Mono isI:=⟨fun _ h=>h⟩
end Wb
namespace L2
open PySem PySem.Spec PyProof.Rows
section
variable {X:Cx} {K:PySem.W.Frag} {w:World}
theorem eE (h:X.K=K):df X (.type "list") (fun xs H Q=>∃p ys,xs=[.ref p]∧(SqL K H p ys∨SqT K H p ys)∧∀l,H l=none→Q (.ref l) (bQ H l (.lst ys))):=h▸ip
theorem kI (h:X.K=K) {o:Expr} {to:TE} {name:Str} {apos cpos:Pos} {T id:String} {r:V→List V→Hp→VK→Prop} (pa:PlainAttrs T) (slot:Slot T name id) (hty:typeOf (.builtin id)=pure (.type "method_descriptor")) (hm:r9 X id r) (ho:PE X o to)
  (hbase:attributeBase o name X.env (eval o X.env)=eval o X.env:=by rfl) (hline:(apos.endLine == cpos.line)=true:=by rfl):PE X (.Call (.Attribute o name apos) [] [] cpos) (bF K T r to):=h▸re pa slot hty hm ho hbase hline
end
end L2
namespace Wb
open PySem L2
theorem none_of {H H':Hp} {p:Addr} (e:Same H H') (h:H' p=none):H p=none:=by
 cases z:H p with
 | none=>rfl
 | some x=>have:=e _ _ z;rw[h]at this;cases this
theorem lI {H H3:Hp} {p:Addr} {o:HO} (e:Same H H3) (h:H p=none):Same H (bQ H3 p o):=fun a u z=>by
 rw[ay (cb z h)];exact e _ _ z
end Wb
namespace L2
open PySem PySem.Spec PyProof.Rows
section
variable {X:Cx} {K:PySem.W.Frag} {w:World}
theorem lJ (hc:X.calm=true) (h:X.K=K):df X (.builtin "sum") (fun xs H Q=>∃(p:Addr) (ns:List Int),xs=[.ref p]∧SqL K H p (ns.map V.int)∧Q (.int ns.sum) H):=by
 subst h
 intro pins s σ H xs us Q I r h
 obtain⟨p,ns,rfl,hq,q⟩:=h
 obtain⟨u,rfl,rx⟩:=fE r
 cases rx
 obtain⟨its,r',pl,hz⟩:=I.list hq
 have hi:=jz r'
 obtain⟨xs,hx⟩:=hi.allInts.items
 have hl':s.heap.IsList p (intItems xs):=hx▸pl.isList
 refine sum_intListG (I.ok.hd hc) hl' fun h' tk t' hk=>?_
 have e1:ns=xs.toList.map (·.1):=by
  rw[←nums_intItems,←hx]
  exact(show numsOf its.toArray.toList=ns from hi.numsOf).symm
 have e2:preSum (numAt xs) xs.size=ns.sum:=by
  rw[preSum_eq,List.take_of_length_le (by simp),e1]
 rw[e2]
 exact⟨.int ns.sum,H,I.kept hk,⟨_,rfl⟩,q⟩
end
end L2
namespace L2
open PySem PySem.Spec PyProof.Rows
section
variable {X:Cx} {K:PySem.W.Frag} {w:World}
theorem gJ (h:X.K=K):OpR X (compareOp .NotIn) (dl K true):=h▸io
theorem jC (h:X.K=K):OpR X (compareOp .In) (dl K false):=h▸lC
end
end L2
namespace L2
end L2
namespace L2
open PySem PySem.Spec PyProof.Rows
end L2
namespace L2
open PySem PySem.Spec PyProof.Rows
end L2
namespace Wb
open PySem L2
end Wb
namespace L2
open PySem PySem.Spec PyProof.Rows Wb
end L2
namespace L2
open PySem PySem.Spec PyProof.Rows
end L2
namespace L2
open PySem PySem.Spec PyProof.Rows
end L2
namespace L2
open PySem PySem.Spec PyProof.Rows
end L2
namespace Mi
inductive Res (α:Type) where
 | ok (a:α) | err (j:Nat) | stuck
namespace Res
variable {α β:Type}
def Ok (m:Res α) (P:α→Prop):Prop:=match m with | .ok a=>P a | _=>False
def bind (m:Res α) (f:α→Res β):Res β:=match m with | .ok a=>f a | .err j=>.err j | .stuck=>.stuck
theorem bind_ok {m:Res α} {f:α→Res β} {P:β→Prop} (h:m.Ok fun a=>(f a).Ok P):(m.bind f).Ok P:=by cases m <;> exact h
theorem Ok.imp {m:Res α} {P Q:α→Prop} (h:m.Ok P) (k:∀a,P a→Q a):m.Ok Q:=by cases m <;> first | exact k _ h | exact h
theorem Ok.ex {m:Res α} {P:α→Prop} (h:m.Ok P):∃a,m=.ok a∧P a:=by
 cases m with
 | ok a=>exact⟨a,rfl,h⟩
 | err j=>exact h.elim
 | stuck=>exact h.elim
def OkE (m:Res α) (Er:Nat→Prop) (P:α→Prop):Prop:=match m with | .ok a=>P a | .err j=>Er j | .stuck=>False
theorem okE_bind {m:Res α} {f:α→Res β} {Er:Nat→Prop} {P:β→Prop} (h:(m.bind f).OkE Er P):m.OkE Er fun a=>(f a).OkE Er P:=by cases m <;> exact h
theorem OkE.imp {m:Res α} {Er:Nat→Prop} {P Q:α→Prop} (h:m.OkE Er P) (k:∀a,P a→Q a):m.OkE Er Q:=by cases m <;> first | exact k _ h | exact h
theorem Ok.e {m:Res α} {Er:Nat→Prop} {P:α→Prop} (h:m.Ok P):m.OkE Er P:=by
 cases m with
 | ok a=>exact h
 | err j=>exact h.elim
 | stuck=>exact h.elim
def tryR (m:Res α):Res (α ⊕ Nat):=match m with | .ok a=>.ok (.inl a) | .err j=>.ok (.inr j) | .stuck=>.stuck
theorem tryR_OkE {m:Res α} {Er:Nat→Prop} {P:α ⊕ Nat→Prop} (h:(tryR m).OkE Er P):m.OkE (fun j=>P (.inr j)) fun a=>P (.inl a):=by cases m <;> exact h
@[simp] theorem bind_ok' (a:α) (f:α→Res β):(Res.ok a).bind f=f a:=rfl
end Res
abbrev cap:Nat:=100000
def dN (b:Prop) [Decidable b] {α:Type} (a:α):Res α:=if b then .ok a else .stuck
theorem bG {b:Prop} [Decidable b] {α:Type} {a:α} (h:b):dN b a=.ok a:=if_pos h
theorem b0 {b:Prop} [Decidable b] {α:Type} {a:α} {Er:Nat→Prop} {P:α→Prop} (h:(dN b a).OkE Er P):b∧P a:=by
 unfold dN at h
 by_cases hb:b
 ·rw[if_pos hb]at h;exact⟨hb,h⟩
 ·rw[if_neg hb]at h;exact h.elim
def d4 {α:Type} :Option α→Res α
 | some a=>.ok a
 | none=>.stuck
theorem cE {α:Type} {o:Option α} {Er:Nat→Prop} {P:α→Prop} (h:(d4 o).OkE Er P):∃a,o=some a∧P a:=by
 cases o with
 | none=>exact h.elim
 | some a=>exact⟨a,rfl,h⟩
abbrev Tx:=List Nat
def cJ (i:Int):Int:=if i< 0 then -i else i
def jD (i j:Int):Res Int:=dN ((-(2^64)< i∧i< 2^64)∨(-(2^64)< j∧j< 2^64)) (i*j)
def kJ (i j:Int):Res Int:=dN (0< j∧j< 1073741824) (i/ j)
def iy (i j:Int):Res Int:=dN (0< j) (i% j)
def ixN (n:Nat) (i:Int):Option Nat:=if 0≤i then(if i< n then some i.toNat else none)else if -(n:Int)≤i then some (i+n).toNat else none
def n3 {α:Type} (xs:List α) (i:Int):Option α:=(ixN xs.length i).bind fun j=>xs[j]?
theorem kK {α:Type} {xs:List α} {j:Nat} {v:α} (h:xs[j]? =some v):n3 xs (j:Int)=some v:=by
 have hl:j< xs.length:=(List.getElem?_eq_some_iff.mp h).1
 unfold n3 ixN
 rw[if_pos (by omega),if_pos (by omega),Int.toNat_natCast]
 exact h
theorem n5 {α:Type} {xs:List α} {i:Int} (h0:0≤i) (h1:i< xs.length):∃h:i.toNat< xs.length,n3 xs i=some xs[i.toNat]:=by
 have h2:i.toNat< xs.length:=by omega
 refine⟨h2,?_⟩
 have:=kK (xs:=xs) (j:=i.toNat) (v:=xs[i.toNat]) (by simp[h2])
 rw[Int.toNat_of_nonneg h0]at this
 exact this
def cP {α:Type} (xs:List α) (i:Int):Res α:=d4 (n3 xs i)
def sA (x:Tx) (i:Int):Res Tx:=(dN (x.length≤cap) x).bind fun x=>(d4 (n3 x i)).bind fun c=>.ok [c]
theorem n6 {α:Type} {xs:List α} {j:Nat} {v:α} (h:xs[j]? =some v):cP xs (j:Int)=.ok v:=by unfold cP;rw[kK h];rfl
def fL (a b:Tx):Res Tx:=dN (a.length+b.length≤cap) (a++b)
def tG {α:Type} (a b:List α):Res (List α):=dN (a.length+b.length≤cap) (a++b)
def dm {α:Type} (a:List α) (x:α):Res (List α):=dN (a.length< cap) (a++ [x])
def n9 (x:Tx):Res Int:=dN (x.length≤cap) (x.length:Int)
def fk {α:Type} (xs:List α) (i:Int) (x:α):Res (List α):=(d4 (ixN xs.length i)).bind fun j=>.ok (xs.set j x)
def eY {α β:Type} (f:α→Res β):List α→Res (List β)
 | []=>.ok []
 | a::r=>(f a).bind fun b=>(eY f r).bind fun bs=>.ok (b::bs)
def bD {α β:Type} (xs:List α) (f:α→Res β):Res (List β):=(dN (xs.length≤cap) xs).bind fun xs=>eY f xs
def gk {α β:Type} (f:α→Res (Option β)):List α→Res (List β)
 | []=>.ok []
 | a::r=>(f a).bind fun b=>(gk f r).bind fun bs=>.ok (match b with | some b=>b::bs | none=>bs)
def nb {α β:Type} (xs:List α) (f:α→Res (Option β)):Res (List β):=(dN (xs.length≤cap) xs).bind fun xs=>gk f xs
def br {α S:Type} (f:α→S→Res S):List α→S→Res S
 | [],s=>.ok s
 | a::r,s=>(f a s).bind fun s=>br f r s
inductive Fl (γ S:Type) where
 | nx (s:S) | bk (s:S) | rt (r:γ)
def sB {S γ:Type} (k:S→Res (Fl γ S)):Fl γ S→Res (Fl γ S)
 | .nx s=>k s
 | .bk s=>.ok (.nx s)
 | .rt x=>.ok (.rt x)
def eO {α S γ:Type} (f:α→S→Res (Fl γ S)):List α→S→Res (Fl γ S)
 | [],s=>.ok (.nx s)
 | a::r,s=>(f a s).bind (sB (eO f r))
def gl (n:Int):List Int:=(List.range n.toNat).map fun(i:Nat)=>(i:Int)
def cF (n:Int):Res (List Int):=dN (-(2^62)≤n∧n< 2^62) (gl n)
def tP (x y:Tx):Res Bool:=match x with
 | [c]=>.ok (y.contains c)
 | _=>.stuck
def my {α:Type} [DecidableEq α] (a b:α):Res Bool:=if a=b then .ok true else .stuck
def lK {α:Type} :List α→Res (α×α×α)
 | [a,b,c]=>.ok (a,b,c)
 | _=>.stuck
theorem kL {α β:Type} {f:α→Res β} {g:α→β} :∀{xs:List α},(∀x∈xs,f x=.ok (g x))→eY f xs=.ok (xs.map g)
 | [],_=>rfl
 | a :: r, h => by
  unfold eY
  rw[h a (List.mem_cons_self ..),Res.bind_ok',kL fun x hx=>h x (List.mem_cons_of_mem _ hx)]
  rfl
end Mi
namespace Mi
end Mi
namespace Wb
open PySem L2 Mi
variable {Er:Nat→Prop}
structure Wd where
 G:Hp
 H:Hp
 ok:Same G H
structure Ext (W W':Wd):Prop where
 g:Same W.G W'.G
 h:Same W.H W'.H
 k:∀p,W.H p≠none→W'.G p=W.G p
theorem Ext.refl (W:Wd):Ext W W:=⟨.refl _,.refl _,fun _ _=>rfl⟩
theorem Ext.trans {W W1 W2:Wd} (a:Ext W W1) (b:Ext W1 W2):Ext W W2:=⟨a.g.trans b.g,a.h.trans b.h,fun p hp=>by
 obtain⟨o,ho⟩:=Option.ne_none_iff_exists'.mp hp
 rw[b.k p (by rw[a.h p o ho];exact fun z=>nomatch z),a.k p hp]⟩
theorem Same.upd2 {G H:Hp} (h:Same G H) (p:Addr) (o:HO):Same (bQ G p o) (bQ H p o):=fun a u e=>by
 by_cases z:a=p
 ·subst z;rw[ax]at e ⊢;exact e
 ·rw[ay z]at e ⊢;exact h _ _ e
def Wd.new (W:Wd) (p:Addr) (o:HO):Wd:=⟨bQ W.G p o,bQ W.H p o,Same.upd2 W.ok p o⟩
theorem Wd.gnone (W:Wd) {p:Addr} (h:W.H p=none):W.G p=none:=none_of W.ok h
theorem Ext.new {W:Wd} {p:Addr} (o:HO) (h:W.H p=none):Ext W (W.new p o):=⟨cR (W.gnone h),cR h,fun q hq=>ay fun z=>hq (z▸h)⟩
def Wd.mut (W:Wd) (p:Addr) (o:HO) (h:W.G p=none):Wd:=⟨W.G,bQ W.H p o,lI W.ok h⟩
theorem Ext.own {W:Wd} {p:Addr} (o:HO) (h:W.H p=none):Ext W (W.mut p o (W.gnone h)):=⟨.refl _,cR h,fun _ _=>rfl⟩
def Wd.frz (W:Wd) (p:Addr) (o:HO) (h:W.H p=some o):Wd:=⟨bQ W.G p o,W.H,fun a u e=>by
 by_cases z:a=p
 ·subst z;rw[ax]at e;cases e;exact h
 ·rw[ay z]at e;exact W.ok _ _ e⟩
theorem Ext.mut {W0 W:Wd} {p:Addr} {o:HO} (e:Ext W0 W) (hp:W0.H p=none) (h:W.G p=none):Ext W0 (W.mut p o h):=
 ⟨e.g,fun a u z=>by show bQ W.H p o a=_;rw[ay (cb z hp)];exact e.h _ _ z,e.k⟩
theorem Ext.frz {W0 W:Wd} {p:Addr} {o:HO} (e:Ext W0 W) (hp:W0.H p=none) (h:W.H p=some o) (hg:W.G p=none):Ext W0 (W.frz p o h):=
 ⟨e.g.trans (cR hg),e.h,fun q hq=>by show bQ W.G p o q=_;rw[ay (fun z=>hq (by rw[z];exact hp))];exact e.k q hq⟩
abbrev Rw (α:Type):=Wd→α→V→Prop
class MonoW {α:Type} (R:Rw α):Prop where
 mono:∀{W W':Wd} {a:α} {v:V},Ext W W'→R W a v→R W' a v
def sh {α:Type} (R:Rp α):Rw α:=fun W a v=>R W.G a v
instance zkeep8 {α:Type} {R:Rp α} [Mono R]:MonoW (sh R):=⟨fun e h=>Mono.mono (R:=R) e.g h⟩
def pk {α:Type} (R:Rp α):Rw (List α):=fun W xs v=>∃p vs,v=.ref p∧W.H p=some (.lst vs)∧LR R W.G xs vs
instance zkeep9 {α:Type} {R:Rp α} [Mono R]:MonoW (pk R):=⟨fun e ⟨p,vs,a,b,c⟩=>⟨p,vs,a,e.h _ _ b,c.same e.g⟩⟩
theorem pk.of {α:Type} {R:Rp α} {W:Wd} {xs:List α} {v:V} (h:isL R W.G xs v):pk R W xs v:=by
 obtain⟨p,vs,a,b,c⟩:=h
 exact⟨p,vs,a,W.ok _ _ b,c⟩
structure Ow {α:Type} (R:Rp α) (W:Wd) (p:Addr) (xs:List α):Prop where
 g:W.G p=none
 h:∃vs,W.H p=some (.lst vs)∧LR R W.G xs vs
theorem Ow.mono {α:Type} {R:Rp α} [Mono R] {W W':Wd} {p:Addr} {xs:List α} (o:Ow R W p xs) (e:Ext W W'):Ow R W' p xs:=by
 obtain⟨vs,a,b⟩:=o.h
 exact⟨by rw[e.k p (by rw[a];exact fun z=>nomatch z)];exact o.g,vs,e.h _ _ a,b.same e.g⟩
theorem Ow.pk {α:Type} {R:Rp α} {W:Wd} {p:Addr} {xs:List α} (o:Ow R W p xs):pk R W xs (.ref p):=by
 obtain⟨vs,a,b⟩:=o.h
 exact⟨p,vs,rfl,a,b⟩
theorem Ow.frz {α:Type} {R:Rp α} [Mono R] {W0 W:Wd} {p:Addr} {xs:List α} (o:Ow R W p xs) (e:Ext W0 W) (hp:W0.H p=none):
  ∃W',W'.H=W.H∧Ext W0 W'∧Same W.G W'.G∧isL R W'.G xs (.ref p)∧∀q,q≠p→W'.G q=W.G q:=by
 obtain⟨vs,a,b⟩:=o.h
 exact⟨W.frz p _ a,rfl,e.frz hp a o.g,cR o.g,⟨p,vs,rfl,ax,b.same (cR o.g)⟩,fun q hq=>ay hq⟩
def EV (Er:Nat→Prop) {α:Type} (t:TE) (σ:St) (W:Wd) (R:Rw α) (m:Res α):Prop:=∀W1,Ext W W1→∀Q:VK,m.OkE Er (fun a=>∀v W2,Ext W1 W2→R W2 a v→Q v W2.H)→t σ W1.H Q
def EVo (Er:Nat→Prop) {α:Type} (t:TE) (σ:St) (W:Wd) (R:Rp α) (m:Res (List α)):Prop:=∀W1,Ext W W1→∀Q:VK,m.OkE Er (fun xs=>∀p W2,Ext W1 W2→W1.H p=none→Ow R W2 p xs→Q (.ref p) W2.H)→t σ W1.H Q
def TV (Er:Nat→Prop) (t:TT) (σ:St) (W:Wd) (m:Res Bool):Prop:=∀W1,Ext W W1→∀Q:Bool→Hp→Prop,m.OkE Er (fun b=>∀W2,Ext W1 W2→Q b W2.H)→t σ W1.H Q
section
variable {α β γ:Type} {t ta tb:TE} {σ:St} {W W0 W':Wd} {K:PySem.W.Frag}
theorem EV.imp {R R':Rw α} {m:Res α} (h:EV Er t σ W R m) (f:∀W a v,R W a v→R' W a v):EV Er t σ W R' m:=fun W1 e1 Q k=>h W1 e1 Q (k.imp fun a ka v W2 e2 r=>ka v W2 e2 (f _ _ _ r))
theorem EVo.ev {R:Rp α} [Mono R] {m:Res (List α)} (h:EVo Er t σ W R m):EV Er t σ W (sh (isL R)) m:=fun W1 e1 Q k=>h W1 e1 Q (k.imp fun xs kx p W2 e2 hp o=>by
 obtain⟨W3,hH,e3,_,r,_⟩:=o.frz e2 hp
 rw[←hH]
 exact kx (.ref p) W3 e3 r)
theorem EVo.pk {R:Rp α} [Mono R] {m:Res (List α)} (h:EVo Er t σ W R m):EV Er t σ W (pk R) m:=fun W1 e1 Q k=>h W1 e1 Q (k.imp fun xs kx p W2 e2 hp o=>kx (.ref p) W2 e2 o.pk)
theorem EV.pk {R:Rp α} {m:Res (List α)} (h:EV Er t σ W (sh (isL R)) m):EV Er t σ W (pk R) m:=h.imp fun _ _ _ r=>pk.of r
theorem a8 {R:Rw α} [MonoW R] {i:Nat} {v:V} {a:α} (r:R W a v) (h:σ[i]? =some (some v):=by rfl):EV Er (aZ i) σ W R (.ok a):=fun W1 e1 Q k=>⟨v,h,k v W1 (.refl _) (MonoW.mono e1 r)⟩
def isB:Rp Bool:=fun _ b v=>v=.bl b
instance zkeep10:Mono isB:=⟨fun _ h=>h⟩
def isN:Rp Unit:=fun _ _ v=>v=.non
theorem ae {i:Int} :EV Er (tC (.int i)) σ W (sh isI) (.ok i):=fun W1 _ Q k=>k _ W1 (.refl _) rfl
theorem ag {x:Str} {l:Tx} (h:x=sOf l):EV Er (tC (.str x)) σ W (sh isS) (.ok l):=fun W1 _ Q k=>k _ W1 (.refl _) (by rw[h];rfl)
theorem gm {b:Bool} :EV Er (tC (.bl b)) σ W (sh isB) (.ok b):=fun W1 _ Q k=>k _ W1 (.refl _) rfl
theorem jE {r:R2} {Ra:Rw α} [MonoW Ra] {Rb:Rw β} {R:Rw γ} {ma:Res α} {mb:Res β} {f:α→β→Res γ} (ha:EV Er ta σ W Ra ma) (hb:EV Er tb σ W Rb mb)
  (h:∀W a b x y Q,Ra W a x→Rb W b y→(f a b).OkE Er (fun c=>∀v W2,Ext W W2→R W2 c v→Q v W2.H)→r x y W.H Q):EV Er (cC r ta tb) σ W R (ma.bind fun a=>mb.bind fun b=>f a b):=fun W1 e1 Q k=>by
 refine ha W1 e1 _ ((Res.okE_bind k).imp fun a ka x W2 e2 hx=>?_)
 refine hb W2 (e1.trans e2) _ ((Res.okE_bind ka).imp fun b kb y W3 e3 hy=>?_)
 exact h W3 a b x y Q (MonoW.mono e3 hx) hy (kb.imp fun c kc v W4 e4 hv=>kc v W4 ((e2.trans e3).trans e4) hv)
section
variable {ma mb:Res Int}
theorem cM {g:Int→Int→Int} (ha:EV Er ta σ W (sh isI) ma) (hb:EV Er tb σ W (sh isI) mb):EV Er (cC (dg fun i j=>.int (g i j)) ta tb) σ W (sh isI) (ma.bind fun a=>mb.bind fun b=>.ok (g a b)):=
 jE ha hb fun W a b x y Q hx hy k=>by cases hx;cases hy;exact⟨a,b,rfl,rfl,k _ W (.refl _) rfl⟩
theorem ng {C:Int→Int→Prop} {g:Int→Int→Int} {f:Int→Int→Res Int} (hf:∀a b P,(f a b).OkE Er P→C a b∧P (g a b)) (ha:EV Er ta σ W (sh isI) ma) (hb:EV Er tb σ W (sh isI) mb):
  EV Er (cC (rI C fun i j=>.int (g i j)) ta tb) σ W (sh isI) (ma.bind fun a=>mb.bind fun b=>f a b):=
 jE ha hb fun W a b x y Q hx hy k=>by cases hx;cases hy;exact⟨a,b,rfl,rfl,(hf a b _ k).1,(hf a b _ k).2 _ W (.refl _) rfl⟩
theorem nh (ha:EV Er ta σ W (sh isI) ma) (hb:EV Er tb σ W (sh isI) mb):EV Er (cC (rI CMul fun i j=>.int (i*j)) ta tb) σ W (sh isI) (ma.bind fun a=>mb.bind fun b=>jD a b):=ng (fun a b P h=>by unfold jD at h;obtain⟨h1,h2⟩:=b0 h;exact⟨h1,h2⟩) ha hb
theorem pD (ha:EV Er ta σ W (sh isI) ma) (hb:EV Er tb σ W (sh isI) mb):EV Er (cC (rI si fun i j=>.int (i/ j)) ta tb) σ W (sh isI) (ma.bind fun a=>mb.bind fun b=>kJ a b):=ng (fun a b P h=>by unfold kJ at h;obtain⟨h1,h2⟩:=b0 h;exact⟨h1,h2⟩) ha hb
theorem iz (ha:EV Er ta σ W (sh isI) ma) (hb:EV Er tb σ W (sh isI) mb):EV Er (cC (rI (fun _ j=>0< j) fun i j=>.int (i% j)) ta tb) σ W (sh isI) (ma.bind fun a=>mb.bind fun b=>iy a b):=ng (fun a b P h=>by unfold iy at h;obtain⟨h1,h2⟩:=b0 h;exact⟨h1,h2⟩) ha hb
theorem aX {C:Int→Int→Prop} {g:Int→Int→Int} {n:Int} (hn:∀a,C a n) (ha:EV Er ta σ W (sh isI) ma):EV Er (cC (rI C fun i j=>.int (g i j)) ta (tC (.int n))) σ W (sh isI) (ma.bind fun a=>.ok (g a n)):=
 fun W1 e1 Q k=>ha W1 e1 _ ((Res.okE_bind k).imp fun a ka x W2 e2 hx=>by cases hx;exact⟨a,n,rfl,rfl,hn a,ka _ W2 e2 rfl⟩)
end
end
end Wb
namespace Wb
open PySem L2 Mi
variable {Er:Nat→Prop}
section
variable {α β γ δ:Type} {t ta tb tc:TE} {σ:St} {W W0 W':Wd} {K:PySem.W.Frag}
theorem gq {n:Nat} (h:n≤cap):n≤sizeLine:=by rw[sizeLine_eq];unfold cap at h;omega
section
variable {ma mb:Res Int}
theorem d5 {g:Int→Int→Bool} (ha:EV Er ta σ W (sh isI) ma) (hb:EV Er tb σ W (sh isI) mb):EV Er (cC (dg fun i j=>.bl (g i j)) ta tb) σ W (sh isB) (ma.bind fun a=>mb.bind fun b=>.ok (g a b)):=
 jE ha hb fun W a b x y Q hx hy k=>by cases hx;cases hy;exact⟨a,b,rfl,rfl,k _ W (.refl _) rfl⟩
end
theorem dI {a b:Int} :decide (V.int a=V.int b)=decide (a=b):=by rw[Bool.eq_iff_iff];simp
theorem dS {a b:Tx} :decide (V.str (sOf a)=V.str (sOf b))=decide (a=b):=by
 rw[Bool.eq_iff_iff,decide_eq_true_eq,decide_eq_true_eq]
 exact⟨fun h=>iq (V.str.inj h),fun h=>by rw[h]⟩
theorem dz {ma mb:Res Int} (ha:EV Er ta σ W (sh isI) ma) (hb:EV Er tb σ W (sh isI) mb):EV Er (cC dG ta tb) σ W (sh isB) (ma.bind fun a=>mb.bind fun b=>.ok (decide (a=b))):=
 jE ha hb fun W a b x y Q hx hy k=>by cases hx;cases hy;exact⟨rfl,by rw[dI];exact k _ W (.refl _) rfl⟩
theorem dA {ma mb:Res Tx} (ha:EV Er ta σ W (sh isS) ma) (hb:EV Er tb σ W (sh isS) mb):EV Er (cC dG ta tb) σ W (sh isB) (ma.bind fun a=>mb.bind fun b=>.ok (decide (a=b))):=
 jE ha hb fun W a b x y Q hx hy k=>by cases hx;cases hy;exact⟨rfl,by rw[dS];exact k _ W (.refl _) rfl⟩
theorem iA {ma mb:Res Tx} (ha:EV Er ta σ W (sh isS) ma) (hb:EV Er tb σ W (sh isS) mb):EV Er (cC dM ta tb) σ W (sh isB) (ma.bind fun a=>mb.bind fun b=>.ok (!decide (a=b))):=
 jE ha hb fun W a b x y Q hx hy k=>by cases hx;cases hy;exact⟨rfl,by rw[dS];exact k _ W (.refl _) rfl⟩
theorem aS {m:Res Bool} (h:EV Er t σ W (sh isB) m):TV Er (bh t) σ W m:=fun W1 e1 Q k=>h W1 e1 _ (k.imp fun b kb v W2 e2 hv=>⟨b,hv,kb W2 e2⟩)
theorem j4 {m:Res Bool} (h:EV Er t σ W (sh isB) m):TV Er (tB t) σ W m:=fun W1 e1 Q k=>h W1 e1 _ (k.imp fun b kb v W2 e2 hv=>⟨b,hv,kb W2 e2⟩)
theorem gu {t:TT} {m:Res Bool} (h:TV Er t σ W m):TV Er (bM t) σ W (m.bind fun b=>.ok (!b)):=fun W1 e1 Q k=>h W1 e1 _ ((Res.okE_bind k).imp fun b kb W2 e2=>kb W2 e2)
theorem iC {t u:TT} {m n:Res Bool} (h:TV Er t σ W m) (g:TV Er u σ W n):TV Er (bU t u) σ W (m.bind fun b=>if b then n else .ok false):=fun W1 e1 Q k=>h W1 e1 _ ((Res.okE_bind k).imp fun b kb W2 e2=>by
 cases b with
 | true=>exact g W2 (e1.trans e2) _ (kb.imp fun c kc W3 e3=>kc W3 (e2.trans e3))
 | false=>exact kb W2 e2)
theorem hX {t u:TT} {m n:Res Bool} (h:TV Er t σ W m) (g:TV Er u σ W n):TV Er (dJ t u) σ W (m.bind fun b=>if b then .ok true else n):=fun W1 e1 Q k=>h W1 e1 _ ((Res.okE_bind k).imp fun b kb W2 e2=>by
 cases b with
 | true=>exact kb W2 e2
 | false=>exact g W2 (e1.trans e2) _ (kb.imp fun c kc W3 e3=>kc W3 (e2.trans e3)))
theorem iD {m n:Res Bool} (h:EV Er ta σ W (sh isB) m) (g:EV Er tb σ W (sh isB) n):EV Er (bf ta tb) σ W (sh isB) (m.bind fun b=>if b then n else .ok false):=fun W1 e1 Q k=>h W1 e1 _ ((Res.okE_bind k).imp fun b kb v W2 e2 hv=>⟨b,hv,by
 cases b with
 | true=>exact g W2 (e1.trans e2) _ (kb.imp fun c kc v W3 e3 hv=>kc v W3 (e2.trans e3) hv)
 | false=>exact kb _ W2 e2 rfl⟩)
theorem qE {m n:Res Bool} (h:EV Er ta σ W (sh isB) m) (g:EV Er tb σ W (sh isB) n):EV Er (bV ta tb) σ W (sh isB) (m.bind fun b=>if b then .ok true else n):=fun W1 e1 Q k=>h W1 e1 _ ((Res.okE_bind k).imp fun b kb v W2 e2 hv=>⟨b,hv,by
 cases b with
 | true=>exact kb _ W2 e2 rfl
 | false=>exact g W2 (e1.trans e2) _ (kb.imp fun c kc v W3 e3 hv=>kc v W3 (e2.trans e3) hv)⟩)
theorem ni {m:Res Bool} (h:EV Er ta σ W (sh isB) m):EV Er (bg ta) σ W (sh isB) (m.bind fun b=>.ok (!b)):=fun W1 e1 Q k=>h W1 e1 _ ((Res.okE_bind k).imp fun b kb v W2 e2 hv=>⟨b,hv,kb _ W2 e2 rfl⟩)
theorem sC {R:Rw α} {c:TT} {mc:Res Bool} {m n:Res α} (hc:TV Er c σ W mc) (h:EV Er ta σ W R m) (g:EV Er tb σ W R n):EV Er (dL c ta tb) σ W R (mc.bind fun b=>if b then m else n):=fun W1 e1 Q k=>hc W1 e1 _ ((Res.okE_bind k).imp fun b kb W2 e2=>by
 cases b with
 | true=>exact h W2 (e1.trans e2) _ (kb.imp fun c kc v W3 e3 hv=>kc v W3 (e2.trans e3) hv)
 | false=>exact g W2 (e1.trans e2) _ (kb.imp fun c kc v W3 e3 hv=>kc v W3 (e2.trans e3) hv))
theorem nq {ma:Res Tx} {mb:Res Int} (ha:EV Er ta σ W (sh isS) ma) (hb:EV Er tb σ W (sh isI) mb):EV Er (cC bZ ta tb) σ W (sh isS) (ma.bind fun a=>mb.bind fun b=>sA a b):=
 jE ha hb fun W a b x y Q hx hy k=>by
  cases hx;cases hy
  obtain⟨h1,h2⟩:=b0 (Res.okE_bind k)
  obtain⟨c,h3,h4⟩:=cE (Res.okE_bind h2)
  exact⟨_,b,c,rfl,rfl,by rw[cN];exact gq h1,by rw[eg];exact h3,h4 _ W (.refl _) rfl⟩
theorem rk {ma mb:Res Tx} (ha:EV Er ta σ W (sh isS) ma) (hb:EV Er tb σ W (sh isS) mb):EV Er (cC (fun x y H Q=>∃i j,x=.str i∧y=.str j∧Q (.bl (!(Builtin.Str.occurrences j i 0 j.length 1).isEmpty)) H) ta tb) σ W (sh isB) (ma.bind fun a=>mb.bind fun b=>tP a b):=
 jE ha hb fun W a b x y Q hx hy k=>by
  cases hx;cases hy
  match a,k with
  | [c], k =>
   refine⟨_,_,rfl,rfl,?_⟩
   have e:(!(Builtin.Str.occurrences (sOf b) (sOf [c]) 0 (sOf b).length 1).isEmpty)=b.contains c:=by
    have:=StrLaws.found_one (sOf b) c
    rw[eg]at this
    rw[this,Bool.eq_iff_iff];simp
   rw[e];exact k _ W (.refl _) rfl
theorem Same.tup {H H':Hp} {a:Addr} {xs:List V} (e:Same H H') (h:SqT K H a xs):SqT K H' a xs:=by
 rcases h with(h | ⟨o,h⟩) | h
 ·exact .inl (.inl (e _ _ h))
 ·exact .inl (.inr ⟨o,e _ _ h⟩)
 ·exact .inr h
def isT2 (K:PySem.W.Frag) (R1:Rp α) (R2:Rp β):Rp (α×β):=fun H a v=>∃p x y,v=.ref p∧SqT K H p [x,y]∧R1 H a.1 x∧R2 H a.2 y
def isT3 (K:PySem.W.Frag) (R1:Rp α) (R2:Rp β) (R3:Rp γ):Rp (α×β×γ):=fun H a v=>∃p x y z,v=.ref p∧SqT K H p [x,y,z]∧R1 H a.1 x∧R2 H a.2.1 y∧R3 H a.2.2 z
def sD (K:PySem.W.Frag) (R1:Rp α) (R2:Rp β) (R3:Rp γ) (R4:Rp δ):Rp (α×β×γ×δ):=fun H a v=>∃p x y z u,v=.ref p∧SqT K H p [x,y,z,u]∧R1 H a.1 x∧R2 H a.2.1 y∧R3 H a.2.2.1 z∧R4 H a.2.2.2 u
instance zkeep14 {R1:Rp α} {R2:Rp β} [Mono R1] [Mono R2]:Mono (isT2 K R1 R2):=⟨fun e ⟨p,x,y,h0,h,h1,h2⟩=>⟨p,x,y,h0,Same.tup e h,Mono.mono e h1,Mono.mono e h2⟩⟩
instance zkeep15 {R1:Rp α} {R2:Rp β} {R3:Rp γ} [Mono R1] [Mono R2] [Mono R3]:Mono (isT3 K R1 R2 R3):=⟨fun e ⟨p,x,y,z,h0,h,h1,h2,h3⟩=>⟨p,x,y,z,h0,Same.tup e h,Mono.mono e h1,Mono.mono e h2,Mono.mono e h3⟩⟩
theorem bq {R1:Rp α} {R2:Rp β} [Mono R1] [Mono R2] {ma:Res α} {mb:Res β} (ha:EV Er ta σ W (sh R1) ma) (hb:EV Er tb σ W (sh R2) mb):EV Er (bE (af ta (af tb aJ))) σ W (sh (isT2 K R1 R2)) (ma.bind fun a=>mb.bind fun b=>.ok (a,b)):=fun W1 e1 Q k=>
 ha W1 e1 _ ((Res.okE_bind k).imp fun a ka x W2 e2 hx=>hb W2 (e1.trans e2) _ ((Res.okE_bind ka).imp fun b kb y W3 e3 hy=>⟨(by show 2≤sizeLine;decide),fun p hp=>
  kb (.ref p) (W3.new p (.tup [x,y])) ((e2.trans e3).trans (.new _ hp)) ⟨p,x,y,rfl,SqT.of ax,Mono.mono (Ext.new _ hp).g (Mono.mono (R:=R1) e3.g hx),Mono.mono (R:=R2) (Ext.new _ hp).g hy⟩⟩))
theorem iE {R1:Rp α} {R2:Rp β} {R3:Rp γ} [Mono R1] [Mono R2] [Mono R3] {ma:Res α} {mb:Res β} {mc:Res γ} (ha:EV Er ta σ W (sh R1) ma) (hb:EV Er tb σ W (sh R2) mb) (hc:EV Er tc σ W (sh R3) mc):
  EV Er (bE (af ta (af tb (af tc aJ)))) σ W (sh (isT3 K R1 R2 R3)) (ma.bind fun a=>mb.bind fun b=>mc.bind fun c=>.ok (a,b,c)):=fun W1 e1 Q k=>
 ha W1 e1 _ ((Res.okE_bind k).imp fun a ka x W2 e2 hx=>hb W2 (e1.trans e2) _ ((Res.okE_bind ka).imp fun b kb y W3 e3 hy=>hc W3 ((e1.trans e2).trans e3) _ ((Res.okE_bind kb).imp fun c kc z W4 e4 hz=>⟨(by show 3≤sizeLine;decide),fun p hp=>
  kc (.ref p) (W4.new p (.tup [x,y,z])) (((e2.trans e3).trans e4).trans (.new _ hp)) ⟨p,x,y,z,rfl,SqT.of ax,Mono.mono (Ext.new _ hp).g (Mono.mono (R:=R1) (e3.trans e4).g hx),Mono.mono (R:=R2) (Ext.new _ hp).g (Mono.mono (R:=R2) e4.g hy),Mono.mono (R:=R3) (Ext.new _ hp).g hz⟩⟩)))
theorem iF {R:Rp α} {H:Hp} {as:List α} {xs:List V} (h:LR R H as xs) {i:Int} {a:α} (e:n3 as i=some a):∃x,L2.atI xs i=some x∧R H a x:=by
 unfold n3 at e
 unfold L2.atI
 rw[h.1]
 cases z:Mi.ixN as.length i with
 | none=>rw[z]at e;cases e
 | some j =>
  rw[z]at e
  obtain⟨x,h1,h2⟩:=h.get (i:=j) e
  exact⟨x,by show(L2.ixN as.length i).bind _=_;rw[show L2.ixN as.length i=Mi.ixN as.length i from rfl,z];exact h1,h2⟩
theorem bu {R:Rp α} [Mono R] {ma:Res (List α)} {mb:Res Int} (ha:EV Er ta σ W (pk R) ma) (hb:EV Er tb σ W (sh isI) mb):EV Er (cC (bH K) ta tb) σ W (sh R) (ma.bind fun a=>mb.bind fun b=>cP a b):=
 jE ha hb fun W a b x y Q hx hy k=>by
  cases hy
  obtain⟨p,vs,rfl,h,h1⟩:=hx
  obtain⟨c,h4,h5⟩:=cE k
  obtain⟨z,h6,h7⟩:=iF h1 h4
  exact⟨p,_,b,z,rfl,rfl,SqL.of h,h6,h5 _ W (.refl _) h7⟩
theorem pE {R:Rp α} :EVo Er (bR aJ) σ W R (.ok []):=fun W1 e1 Q k=>⟨by decide,fun p hp=>k p (W1.mut p (.lst []) (W1.gnone hp)) (.own _ hp) hp ⟨W1.gnone hp,[],ax,.nil⟩⟩
def AV (Er:Nat→Prop) (t:TA) (σ:St) (W:Wd) (R:Rp α) (n:Nat) (m:Res (List α)):Prop:=∀W1,Ext W W1→∀Q:List V→Hp→Prop,m.OkE Er (fun as=>∀vs W2,Ext W1 W2→vs.length=n→LR R W2.G as vs→Q vs W2.H)→t σ W1.H Q
theorem ci {R:Rp α} :AV Er aJ σ W R 0 (.ok []):=fun W1 _ Q k=>k [] W1 (.refl _) rfl .nil
theorem LR.cons {R:Rp α} {H:Hp} {a:α} {v:V} {as:List α} {vs:List V} (h:R H a v) (r:LR R H as vs):LR R H (a::as) (v::vs):=⟨by simp[r.1],fun i x m e1 e2=>by
 cases i with
 | zero=>cases e1;cases e2;exact h
 | succ j=>exact r.2 j x m e1 e2⟩
theorem al {R:Rp α} [Mono R] {n:Nat} {ts:TA} {m:Res α} {ms:Res (List α)} (h:EV Er t σ W (sh R) m) (g:AV Er ts σ W R n ms):AV Er (af t ts) σ W R (n+1) (m.bind fun a=>ms.bind fun as=>.ok (a::as)):=fun W1 e1 Q k=>
 h W1 e1 _ ((Res.okE_bind k).imp fun a ka v W2 e2 hv=>g W2 (e1.trans e2) _ ((Res.okE_bind ka).imp fun as kas vs W3 e3 hn hvs=>kas (v::vs) W3 (e2.trans e3) (by simp[hn]) (.cons (Mono.mono (R:=R) e3.g hv) hvs)))
theorem cj {R:Rp α} [Mono R] {n:Nat} {ts:TA} {ms:Res (List α)} (g:AV Er ts σ W R n ms) (hn:n≤cap:=by decide):EVo Er (bR ts) σ W R ms:=fun W1 e1 Q k=>
 g W1 e1 _ (k.imp fun as ka vs W2 e2 hv hvs=>⟨by rw[hv];exact gq hn,fun p hp=>ka p (W2.mut p (.lst vs) (W2.gnone hp)) (e2.trans (.own _ hp)) (none_of e2.h hp) ⟨W2.gnone hp,vs,ax,hvs⟩⟩)
theorem dC {R:Rp α} [Mono R] {ma mb:Res (List α)} (ha:EV Er ta σ W (pk R) ma) (hb:EV Er tb σ W (pk R) mb):EVo Er (cC c0 ta tb) σ W R (ma.bind fun a=>mb.bind fun b=>tG a b):=fun W1 e1 Q k=>
 ha W1 e1 _ ((Res.okE_bind k).imp fun a ka x W2 e2 hx=>hb W2 (e1.trans e2) _ ((Res.okE_bind ka).imp fun b kb y W3 e3 hy=>by
  obtain⟨p,vs,rfl,h1,h2⟩:=MonoW.mono e3 hx
  obtain⟨q,us,rfl,h3,h4⟩:=hy
  obtain⟨h5,h6⟩:=b0 kb
  refine⟨p,q,vs,us,rfl,rfl,h1,h3,by rw[h2.1,h4.1];exact gq h5,fun r hr=>h6 r (W3.mut r (.lst (vs++us)) (W3.gnone hr)) ((e2.trans e3).trans (.own _ hr)) (none_of (e2.trans e3).h hr) ⟨W3.gnone hr,_,ax,?_⟩⟩
  exact⟨by rw[List.length_append,List.length_append,h2.1,h4.1],fun i v m q1 q2=>by
   by_cases hi:i< vs.length
   ·rw[List.getElem?_append_left hi]at q1
    rw[List.getElem?_append_left (by rw[←h2.1];exact hi)]at q2
    exact h2.2 i v m q1 q2
   ·rw[List.getElem?_append_right (by omega)]at q1
    rw[List.getElem?_append_right (by rw[←h2.1];omega)]at q2
    rw[←h2.1]at q2
    exact h4.2 _ v m q1 q2⟩))
theorem rl {ma:Res Int} (ha:EV Er ta σ W (sh isI) ma):EV Er (cW (fun xs H Q=>∃i,xs=[.int i]∧Q (.int (if i< 0 then -i else i)) H) (af ta aJ)) σ W (sh isI) (ma.bind fun a=>.ok (cJ a)):=fun W1 e1 Q k=>
 ha W1 e1 _ ((Res.okE_bind k).imp fun a ka x W2 e2 hx=>by cases hx;exact⟨a,rfl,ka _ W2 e2 rfl⟩)
theorem kM {R:Rp α} {ma:Res (List α)} (ha:EV Er ta σ W (pk R) ma):EV Er (cW (fun xs H Q=>∃x n,xs=[x]∧iV K x H n∧Q (.int n) H) (af ta aJ)) σ W (sh isI) (ma.bind fun a=>.ok (a.length:Int)):=fun W1 e1 Q k=>
 ha W1 e1 _ ((Res.okE_bind k).imp fun a ka x W2 e2 hx=>by
  obtain⟨p,vs,rfl,h1,h2⟩:=hx
  exact⟨_,a.length,rfl,.inl ⟨vs,SqL.of h1,h2.1.symm⟩,ka _ W2 e2 rfl⟩)
theorem pF {ma:Res Tx} (ha:EV Er ta σ W (sh isS) ma):EV Er (cW (fun xs H Q=>∃x n,xs=[x]∧iV K x H n∧Q (.int n) H) (af ta aJ)) σ W (sh isI) (ma.bind fun a=>n9 a):=fun W1 e1 Q k=>
 ha W1 e1 _ ((Res.okE_bind k).imp fun a ka x W2 e2 hx=>by
  cases hx
  obtain⟨h1,h2⟩:=b0 ka
  exact⟨_,a.length,rfl,⟨by rw[cN];exact gq h1,by rw[cN]⟩,h2 _ W2 e2 rfl⟩)
end
end Wb
namespace Wb
open PySem L2 Mi
variable {Er:Nat→Prop}
abbrev Rt (β:Type):=Wd→β→VK→Prop
def rs {β:Type} (R:Rp β):Rt β:=fun W r Q=>∀u W',Ext W W'→R W'.G r u→Q u W'.H
def ro {β:Type} (R:Rp β):Rt (List β):=fun W r Q=>∀p W',Ext W W'→W.H p=none→Ow R W' p r→Q (.ref p) W'.H
section
variable {α β γ δ ε ζ:Type}
def eP (R1:Rp α) (rt:Rt β) (m:α→Res β):Sp:=fun vs H Q _=>∃(W:Wd) (a:α) (v:V),W.H=H∧vs=[v]∧R1 W.G a v∧∃Er:Nat→Prop,(m a).OkE Er fun r=>rt W r Q
def gv (R1:Rp α) (R2:Rp γ) (rt:Rt β) (m:α→γ→Res β):Sp:=fun vs H Q _=>∃(W:Wd) (a:α) (b:γ) (v u:V),W.H=H∧vs=[v,u]∧R1 W.G a v∧R2 W.G b u∧∃Er:Nat→Prop,(m a b).OkE Er fun r=>rt W r Q
def eZ (R1:Rp α) (R2:Rp γ) (R3:Rp δ) (rt:Rt β) (m:α→γ→δ→Res β):Sp:=fun vs H Q _=>∃(W:Wd) (a:α) (b:γ) (c:δ) (v u w:V),W.H=H∧vs=[v,u,w]∧R1 W.G a v∧R2 W.G b u∧R3 W.G c w∧∃Er:Nat→Prop,(m a b c).OkE Er fun r=>rt W r Q
variable {t t1 t2 t3 t4 t5:TE} {σ:St} {W W0 W':Wd} {K:PySem.W.Frag}
section
variable {R1:Rp α} {R2:Rp γ} {R3:Rp δ} {R4:Rp ε} {R5:Rp ζ} [Mono R1] [Mono R2] [Mono R3] [Mono R4] [Mono R5] {m1:Res α} {m2:Res γ} {m3:Res δ} {m4:Res ε} {m5:Res ζ} {E:XK}
theorem nr {R:Rp β} {m:α→Res β} (h1:EV Er t1 σ W (sh R1) m1):EV Er (aM (eP R1 (rs R) m) [] E (af t1 aJ)) σ W (sh R) (m1.bind fun a=>m a):=fun W1 e1 Q k=>
 h1 W1 e1 _ ((Res.okE_bind k).imp fun a ka v W2 e2 hv=>⟨W2,a,v,rfl,rfl,hv,Er,ka.imp fun r kr u W' e hu=>kr u W' (e2.trans e) hu⟩)
theorem d6 {R:Rp β} {m:α→γ→Res β} (h1:EV Er t1 σ W (sh R1) m1) (h2:EV Er t2 σ W (sh R2) m2):EV Er (aM (gv R1 R2 (rs R) m) [] E (af t1 (af t2 aJ))) σ W (sh R) (m1.bind fun a=>m2.bind fun b=>m a b):=fun W1 e1 Q k=>
 h1 W1 e1 _ ((Res.okE_bind k).imp fun a ka v W2 e2 hv=>h2 W2 (e1.trans e2) _ ((Res.okE_bind ka).imp fun b kb u W3 e3 hu=>⟨W3,a,b,v,u,rfl,rfl,MonoW.mono (R:=sh R1) e3 hv,hu,Er,kb.imp fun r kr u W' e hu=>kr u W' ((e2.trans e3).trans e) hu⟩))
theorem f6 {R:Rp β} {m:α→γ→δ→Res β} (h1:EV Er t1 σ W (sh R1) m1) (h2:EV Er t2 σ W (sh R2) m2) (h3:EV Er t3 σ W (sh R3) m3):EV Er (aM (eZ R1 R2 R3 (rs R) m) [] E (af t1 (af t2 (af t3 aJ)))) σ W (sh R) (m1.bind fun a=>m2.bind fun b=>m3.bind fun c=>m a b c):=fun W1 e1 Q k=>
 h1 W1 e1 _ ((Res.okE_bind k).imp fun a ka v W2 e2 hv=>h2 W2 (e1.trans e2) _ ((Res.okE_bind ka).imp fun b kb u W3 e3 hu=>h3 W3 ((e1.trans e2).trans e3) _ ((Res.okE_bind kb).imp fun c kc w W4 e4 hw=>
  ⟨W4,a,b,c,v,u,w,rfl,rfl,MonoW.mono (R:=sh R1) (e3.trans e4) hv,MonoW.mono (R:=sh R2) e4 hu,hw,Er,kc.imp fun r kr u W' e hu=>kr u W' (((e2.trans e3).trans e4).trans e) hu⟩)))
theorem lL {R:Rp β} {m:α→γ→δ→Res (List β)} (h1:EV Er t1 σ W (sh R1) m1) (h2:EV Er t2 σ W (sh R2) m2) (h3:EV Er t3 σ W (sh R3) m3):EVo Er (aM (eZ R1 R2 R3 (ro R) m) [] E (af t1 (af t2 (af t3 aJ)))) σ W R (m1.bind fun a=>m2.bind fun b=>m3.bind fun c=>m a b c):=fun W1 e1 Q k=>
 h1 W1 e1 _ ((Res.okE_bind k).imp fun a ka v W2 e2 hv=>h2 W2 (e1.trans e2) _ ((Res.okE_bind ka).imp fun b kb u W3 e3 hu=>h3 W3 ((e1.trans e2).trans e3) _ ((Res.okE_bind kb).imp fun c kc w W4 e4 hw=>
  ⟨W4,a,b,c,v,u,w,rfl,rfl,MonoW.mono (R:=sh R1) (e3.trans e4) hv,MonoW.mono (R:=sh R2) e4 hu,hw,Er,kc.imp fun r kr p W' e hp o=>kr p W' (((e2.trans e3).trans e4).trans e) (none_of ((e2.trans e3).trans e4).h hp) o⟩)))
end
def Yl (J:It) (W:Wd) (R:Rp α) (xs:List α):Prop:=∀W1:Wd,Same W.G W1.G→(∀(i:Nat) (a:α),xs[i]? =some a→J.go i W1.H∧∀x H',J.yld i W1.H x H'→∃W2:Wd,W2.H=H'∧Ext W1 W2∧R W2.G a x)∧J.stop xs.length W1.H
def IV (Er:Nat→Prop) (wi:TI) (σ:St) (W:Wd) (R:Rp α) (m:Res (List α)):Prop:=∀W1,Ext W W1→∀P:It→Hp→Prop,m.OkE Er (fun xs=>∀J W2,Ext W1 W2→Yl J W2 R xs→P J W2.H)→wi σ W1.H P
theorem cG {R:Rp α} [Mono R] {m:Res (List α)} (h:EV Er t σ W (sh (isL R)) m):IV Er (g6 K t) σ W R m:=fun W1 e1 P k=>
 h W1 e1 _ (k.imp fun xs kx v W2 e2 hv => by
  obtain⟨p,vs,rfl,h1,h2⟩:=hv
  refine⟨p,rfl,⟨vs,SqL.of (W2.ok _ _ h1)⟩,kx _ W2 e2 fun W3 e3=>⟨fun i a ha=>?_,vs,SqL.of (W3.ok _ _ (e3 _ _ h1)),by rw[h2.1];exact Nat.le_refl _⟩⟩
  obtain⟨x,hx,hr⟩:=h2.get ha
  refine⟨⟨vs,x,SqL.of (W3.ok _ _ (e3 _ _ h1)),hx⟩,fun y H' ⟨z1,z2⟩=>⟨W3,z1.symm,.refl _,?_⟩⟩
  have:=z2 vs (SqL.of (W3.ok _ _ (e3 _ _ h1)))
  rw[hx]at this
  cases this
  exact Mono.mono e3 hr)
theorem cS {m:Res Int} (h:EV Er t σ W (sh isI) m):IV Er (qC (af t aJ)) σ W isI (m.bind fun n=>cF n):=fun W1 e1 P k=>
 h W1 e1 _ ((Res.okE_bind k).imp fun n kn v W2 e2 hv => by
  cases hv
  obtain⟨hb,kn⟩:=b0 kn
  refine⟨n,rfl,hb.1,hb.2,kn _ W2 e2 fun W3 e3=>⟨fun i a ha=>?_,by show n.toNat≤(gl n).length;simp[gl]⟩⟩
  unfold gl at ha
  rw[List.getElem?_map]at ha
  have hi:i< n.toNat:=by
   refine Classical.byContradiction fun z=>?_
   rw[List.getElem?_eq_none_iff.mpr (by simp;omega)]at ha;cases ha
  rw[List.getElem?_range hi]at ha
  cases ha
  exact⟨hi,fun y H' ⟨z1,z2⟩=>⟨W3,z1.symm,.refl _,by rw[z2];show V.int (0+(i:Int))=.int (i:Int);rw[Int.zero_add]⟩⟩)
theorem i0 {f:α→Res β} {xs:List α} {i:Nat} {a:α} (h:xs[i]? =some a):eY f (xs.drop i)=(f a).bind fun b=>(eY f (xs.drop (i+1))).bind fun bs=>.ok (b::bs):=by
 obtain⟨hi,e⟩:=List.getElem?_eq_some_iff.mp h
 rw[List.drop_eq_getElem_cons hi,e]
 rfl
theorem jF {f:α→Res (Option β)} {xs:List α} {i:Nat} {a:α} (h:xs[i]? =some a):gk f (xs.drop i)=(f a).bind fun b=>(gk f (xs.drop (i+1))).bind fun bs=>.ok (match b with | some b=>b::bs | none=>bs):=by
 obtain⟨hi,e⟩:=List.getElem?_eq_some_iff.mp h
 rw[List.drop_eq_getElem_cons hi,e]
 rfl
theorem dD {cap:List (Option Nat)} {wi:TI} {g:TG} {te:TE} {R:Rp α} {R':Rp β} [Mono R'] {m:Res (List α)} {f:α→Res β} (hi:IV Er wi σ W R m)
  (hb:∀(W1:Wd) (a:α) (v:V),Ext W W1→R W1.G a v→∀Q:VK,(f a).OkE Er (fun b=>∀u W2,Ext W1 W2→R' W2.G b u→Q u W2.H)→g v (aW cap σ) W1.H fun σ2 H2=>Keep (aW cap σ) σ2∧te σ2 H2 Q):
  EVo Er (hU cap wi g pw te) σ W R' (m.bind fun xs=>bD xs f):=fun W1 e1 Q k=>by
 refine hi W1 e1 _ ((Res.okE_bind k).imp fun xs kx J W2 e2 hy=>?_)
 obtain⟨hl,kx⟩:=b0 (Res.okE_bind kx)
 refine⟨fun i n ys H=>n=xs.length- i∧i≤xs.length∧ys.length≤i∧∃(W3:Wd) (bs:List β),W3.H=H∧Ext W2 W3∧LR R' W3.G bs ys∧(eY f (xs.drop i)).OkE Er (fun r=>∀p W4,Ext W1 W4→W1.H p=none→Ow R' W4 p (bs++r)→Q (.ref p) W4.H),⟨xs.length,by simp,by simp,by simp,W2,[],rfl,.refl _,.nil,?_⟩,?_⟩
 ·simpa using kx
 ·rintro i n ys H ⟨rfl,hi1,hyl,W3,bs,rfl,e3,lr,q⟩
  refine⟨by rw[sizeLine_eq];unfold Mi.cap at hl;omega,?_⟩
  by_cases hlt:i< xs.length
  ·obtain⟨a,ha⟩:∃a,xs[i]? =some a:=⟨xs[i],by simp[hlt]⟩
   obtain⟨h1,h2⟩:=(hy W3 e3.g).1 i a ha
   refine .inr ⟨h1,fun ys' H'=>ys'.length≤i+1∧∃(W3:Wd) (bs:List β),W3.H=H'∧Ext W2 W3∧LR R' W3.G bs ys'∧(eY f (xs.drop (i+1))).OkE Er (fun r=>∀p W4,Ext W1 W4→W1.H p=none→Ow R' W4 p (bs++r)→Q (.ref p) W4.H),fun ys' H' ⟨z1,z2⟩=>⟨xs.length- (i+1),by omega,rfl,hlt,z1,z2⟩,fun x H' hx=>?_⟩
   obtain⟨W4,rfl,e4,rx⟩:=h2 x H' hx
   rw[i0 ha]at q
   have:=hb W4 a x (e1.trans ((e2.trans e3).trans e4)) rx (fun y H4=>(ys++ [y]).length≤i+1∧∃(W3:Wd) (bs:List β),W3.H=H4∧Ext W2 W3∧LR R' W3.G bs (ys++ [y])∧(eY f (xs.drop (i+1))).OkE Er (fun r=>∀p W4,Ext W1 W4→W1.H p=none→Ow R' W4 p (bs++r)→Q (.ref p) W4.H))
    ((Res.okE_bind q).imp fun b kb u W5 e5 hu=>⟨by simp;exact hyl,W5,bs++ [b],rfl,(e3.trans e4).trans e5,(lr.same (e4.trans e5).g).snoc hu,(Res.okE_bind kb).imp fun r kr=>by rw[List.append_assoc];exact kr⟩)
   exact this
  ·have e:i=xs.length:=by omega
   subst e
   rw[List.drop_length]at q
   refine .inl ⟨(hy W3 e3.g).2,fun D hD=>?_⟩
   have e13:=e2.trans e3
   have:=q D (W3.mut D (.lst ys) (W3.gnone hD)) (e13.trans (.own _ hD)) (none_of e13.h hD) ⟨W3.gnone hD,ys,ax,by rw[List.append_nil];exact lr⟩
   exact this
theorem nt {cap:List (Option Nat)} {wi:TI} {g:TG} {tf:TT} {te:TE} {R:Rp α} {R':Rp β} [Mono R'] {m:Res (List α)} {f:α→Res (Option β)} (hi:IV Er wi σ W R m)
    (hb:∀(W1:Wd) (a:α) (v:V),Ext W W1→R W1.G a v→∀Q:Option V→Hp→Prop,(f a).OkE Er (fun b=>∀u W2,Ext W1 W2→(match b,u with | some b,some u=>R' W2.G b u | none,none=>True | _,_=>False)→Q u W2.H)→g v (aW cap σ) W1.H fun σ2 H2=>Keep (aW cap σ) σ2∧tf σ2 H2 fun b H3=>if b=true then te σ2 H3 (fun y H4=>Q (some y) H4)else Q none H3):
    EVo Er (hU cap wi g tf te) σ W R' (m.bind fun xs=>nb xs f):=fun W1 e1 Q k=>by
  refine hi W1 e1 _ ((Res.okE_bind k).imp fun xs kx J W2 e2 hy=>?_)
  obtain⟨hl,kx⟩:=b0 (Res.okE_bind kx)
  refine⟨fun i n ys H=>n=xs.length- i∧i≤xs.length∧ys.length≤i∧∃(W3:Wd) (bs:List β),W3.H=H∧Ext W2 W3∧LR R' W3.G bs ys∧(gk f (xs.drop i)).OkE Er (fun r=>∀p W4,Ext W1 W4→W1.H p=none→Ow R' W4 p (bs++r)→Q (.ref p) W4.H),⟨xs.length,by simp,by simp,by simp,W2,[],rfl,.refl _,.nil,?_⟩,?_⟩
  · simpa using kx
  · rintro i n ys H ⟨rfl,hi1,hyl,W3,bs,rfl,e3,lr,q⟩
    refine⟨by rw[sizeLine_eq];unfold Mi.cap at hl;omega,?_⟩
    by_cases hlt:i< xs.length
    · obtain⟨a,ha⟩:∃a,xs[i]? =some a:=⟨xs[i],by simp[hlt]⟩
      obtain⟨h1,h2⟩:=(hy W3 e3.g).1 i a ha
      refine .inr ⟨h1,fun ys' H'=>ys'.length≤i+1∧∃(W3:Wd) (bs:List β),W3.H=H'∧Ext W2 W3∧LR R' W3.G bs ys'∧(gk f (xs.drop (i+1))).OkE Er (fun r=>∀p W4,Ext W1 W4→W1.H p=none→Ow R' W4 p (bs++r)→Q (.ref p) W4.H),fun ys' H' ⟨z1,z2⟩=>⟨xs.length- (i+1),by omega,rfl,hlt,z1,z2⟩,fun x H' hx=>?_⟩
      obtain⟨W4,rfl,e4,rx⟩:=h2 x H' hx
      rw[jF ha]at q
      have:=hb W4 a x (e1.trans ((e2.trans e3).trans e4)) rx (fun y H4=>(match y with | some y=>ys++ [y] | none=>ys).length≤i+1∧∃(W3:Wd) (bs:List β),W3.H=H4∧Ext W2 W3∧LR R' W3.G bs (match y with | some y=>ys++ [y] | none=>ys)∧(gk f (xs.drop (i+1))).OkE Er (fun r=>∀p W4,Ext W1 W4→W1.H p=none→Ow R' W4 p (bs++r)→Q (.ref p) W4.H))
        ((Res.okE_bind q).imp fun b kb u W5 e5 hu=>by
          match b,u,hu,kb with
          | some b,some u,hu,kb=>exact⟨by simp;exact hyl,W5,bs++ [b],rfl,(e3.trans e4).trans e5,(lr.same (e4.trans e5).g).snoc hu,(Res.okE_bind kb).imp fun r kr=>by rw[List.append_assoc];exact kr⟩
          | none,none,hu,kb=>exact⟨by show ys.length≤i+1;omega,W5,bs,rfl,(e3.trans e4).trans e5,lr.same (e4.trans e5).g,(Res.okE_bind kb).imp fun r kr=>kr⟩)
      exact this
    · have e:i=xs.length:=by omega
      subst e
      rw[List.drop_length]at q
      refine .inl ⟨(hy W3 e3.g).2,fun D hD=>?_⟩
      have e13:=e2.trans e3
      have:=q D (W3.mut D (.lst ys) (W3.gnone hD)) (e13.trans (.own _ hD)) (none_of e13.h hD) ⟨W3.gnone hD,ys,ax,by rw[List.append_nil];exact lr⟩
      exact this
end
end Wb
namespace Wb
open PySem L2 Mi
variable {Er:Nat→Prop}
section
variable {α β γ δ:Type} {t u:TS} {te ti:TE} {g:TG} {D:Ends} {σ:St} {W W0 W':Wd} {K:PySem.W.Frag} {i j k n:Nat} {P:St→Hp→Prop} {H:Hp} {v:V}
theorem gn {σ':St} (h:P σ' H) (hσ:σ.set i (some v)=σ':=by rfl):aQ i v σ H P:=by subst hσ;exact h
theorem tH {σ':V→V→St} {R1:Rp α} {R2:Rp β} {ab:α×β} (h:isT2 K R1 R2 W.G ab v) (q:∀x y,R1 W.G ab.1 x→R2 W.G ab.2 y→P (σ' x y) W.H) (hσ:∀x y,(σ.set i (some x)).set j (some y)=σ' x y:=by intro _ _;rfl):bN K 2 (bc (aQ i) (bc (aQ j) bW)) v σ W.H P:=by
 obtain⟨p,x,y,h0,h,h1,h2⟩:=h
 exact⟨p,_,h0,Same.tup W.ok h,rfl,x,_,rfl,y,_,rfl,rfl,by have:=q x y h1 h2;rw[←hσ]at this;exact this⟩
theorem dE {σ':V→St} {R:Rw α} {m:Res α} (h:EV Er te σ W R m) (q:m.OkE Er fun a=>∀v W',Ext W W'→R W' a v→D.nx (σ' v) W'.H) (hσ:∀v,σ.set i (some v)=σ' v:=by intro _;rfl):bn te (aQ i) D σ W.H:=h W (.refl _) _ (q.imp fun a k v W' e r=>by have:=k v W' e r;rw[←hσ]at this;exact this)
theorem pG {σ':Addr→St} {R:Rp α} {m:Res (List α)} (h:EVo Er te σ W R m) (q:m.OkE Er fun a=>∀p W',Ext W W'→W.H p=none→Ow R W' p a→D.nx (σ' p) W'.H) (hσ:∀p,σ.set i (some (.ref p))=σ' p:=by intro _;rfl):bn te (aQ i) D σ W.H:=h W (.refl _) _ (q.imp fun a k p W' e hp r=>by have:=k p W' e hp r;rw[←hσ]at this;exact this)
theorem bP {R:Rw α} {m:Res α} (h:EV Er te σ W R m) (q:m.OkE Er fun a=>∀v W',Ext W W'→R W' a v→D.rt v W'.H):bC te D σ W.H:=h W (.refl _) _ q
theorem kN {R:Rp α} {m:Res (List α)} (h:EVo Er te σ W R m) (q:m.OkE Er fun a=>∀p W',Ext W W'→W.H p=none→Ow R W' p a→D.rt (.ref p) W'.H):bC te D σ W.H:=h W (.refl _) _ q
theorem qF {c:TT} {m:Res Bool} (h:TV Er c σ W m) (q:m.OkE Er fun b=>∀W',Ext W W'→if b=true then t D σ W'.H else u D σ W'.H):eT c t u D σ W.H:=h W (.refl _) _ q
theorem jG {S:Type} {c:TT} {m:Res Bool} {mA mB:Res S} {P:S→Prop} (Iv:S→Wd→St→Prop) (h:TV Er c σ W m) (q:(m.bind fun b=>if b then mA else mB).OkE Er P)
  (hA:∀W' (N:St→Hp→Prop),Ext W W'→(∀s W1 σ1,Same W.G W1.G→Iv s W1 σ1→P s→N σ1 W1.H)→mA.OkE Er P→t {D with nx:=N} σ W'.H)
  (hB:∀W' (N:St→Hp→Prop),Ext W W'→(∀s W1 σ1,Same W.G W1.G→Iv s W1 σ1→P s→N σ1 W1.H)→mB.OkE Er P→u {D with nx:=N} σ W'.H)
  (hd:∀s W1 σ1,Same W.G W1.G→Iv s W1 σ1→P s→D.nx σ1 W1.H):eT c t u D σ W.H:=h W (.refl _) _ ((Res.okE_bind q).imp fun b kb W' e=>by
 cases b with
 | true=>exact hA W' D.nx e hd kb
 | false=>exact hB W' D.nx e hd kb)
structure Mu (W W':Wd) (p:Addr):Prop where
 g:Same W.G W'.G
 e:∀W0:Wd,Ext W0 W→W0.H p=none→Ext W0 W'
 h:∀q,q≠p→W.H q≠none→W'.H q=W.H q∧W'.G q=W.G q
theorem Mu.of {W1:Wd} {p:Addr} {o:HO} (e1:Ext W W1) (hg:W1.G p=none):Mu W (W1.mut p o hg) p:=⟨e1.g,fun W0 e0 hp=>(e0.trans e1).mut hp hg,fun q hq hn=>by
 obtain⟨o',ho⟩:=Option.ne_none_iff_exists'.mp hn
 exact⟨by show bQ W1.H p o q=_;rw[ay hq,e1.h _ _ ho,ho],e1.k q hn⟩⟩
theorem nu {R:Rp α} [Mono R] {p:Addr} {xs:List α} {m:Res α} (o:Ow R W p xs) (h:EV Er te σ W (sh R) m) (q:(m.bind fun a=>dm xs a).OkE Er fun ys=>∀W',Mu W W' p→Ow R W' p ys→D.nx σ W'.H) (hi:σ[i]? =some (some (.ref p)):=by rfl):aT (dc K "list" av (aZ i) (af te aJ)) D σ W.H:=by
 obtain⟨vs,h1,h2⟩:=o.h
 refine⟨.ref p,hi,.inl ⟨rfl,vs,SqL.of h1⟩,h W (.refl _) _ ((Res.okE_bind q).imp fun a ka v W2 e2 hv=>?_)⟩
 obtain⟨h3,h4⟩:=b0 ka
 have hg:=(o.mono e2).g
 refine⟨p,vs,v,rfl,rfl,e2.h _ _ h1,by rw[h2.1,sizeLine_eq];unfold Mi.cap at h3;omega,h4 (W2.mut p (.lst (vs++ [v])) hg) (.of e2 hg) ⟨hg,_,ax,(h2.same e2.g).snoc hv⟩⟩
theorem LR.set {R:Rp α} {H:Hp} {as:List α} {vs:List V} {a:α} {v:V} (h:LR R H as vs) (r:R H a v) (j:Nat):LR R H (as.set j a) (vs.set j v):=⟨by simp[h.1],fun i x m e1 e2=>by
 rw[List.getElem?_set]at e1 e2
 by_cases z:j=i
 ·rw[if_pos z]at e1 e2
  split at e1
  ·split at e2
   ·cases e1;cases e2;exact r
   ·cases e2
  ·cases e1
 ·rw[if_neg z]at e1 e2
  exact h.2 i x m e1 e2⟩
def nv {S:Type} (W:Wd) (Iv:S→Wd→St→Prop) (P:S→Prop):St→Hp→Prop:=fun σ' H'=>∃s' W',W'.H=H'∧Same W.G W'.G∧Iv s' W' σ'∧P s'
theorem i3 {S:Type} {f:α→S→Res S} {xs:List α} {i:Nat} {a:α} {s:S} (h:xs[i]? =some a):br f (xs.drop i) s=(f a s).bind fun s=>br f (xs.drop (i+1)) s:=by
 obtain⟨hi,e⟩:=List.getElem?_eq_some_iff.mp h
 rw[List.drop_eq_getElem_cons hi,e]
 rfl
theorem ny {S:Type} {wi:TI} {tb:TS} {R:Rp α} {m:Res (List α)} {f:α→S→Res S} {s0:S} {P:S→Prop} (Iv:S→Wd→St→Prop) (hi:IV Er wi σ W R m) (q:(m.bind fun xs=>br f xs s0).OkE Er P)
  (h0:∀W1,Ext W W1→Iv s0 W1 σ)
  (hs:∀Wb W1 W2 a v s σ1 P',Same W.G W1.G→Same Wb.G W1.G→Iv s W1 σ1→Ext W1 W2→R W2.G a v→(f a s).OkE Er P'→g v σ1 W2.H fun σ2 H2=>tb {D with nx:=nv Wb Iv P',ct:=nv Wb Iv P',bk:=D.nx} σ2 H2)
  (hd:∀s W1 σ1,Same W.G W1.G→Iv s W1 σ1→P s→D.nx σ1 W1.H):iR wi g tb D σ W.H:=by
 refine hi W (.refl _) _ ((Res.okE_bind q).imp fun xs kx J W1 e1 hy=>?_)
 refine⟨fun i n σ' H'=>n=xs.length- i∧i≤xs.length∧∃s' W',W'.H=H'∧Same W1.G W'.G∧Iv s' W' σ'∧(br f (xs.drop i) s').OkE Er P,⟨xs.length,by simp,by simp,s0,W1,rfl,.refl _,h0 W1 e1,by simpa using kx⟩,?_⟩
 rintro i n σ1 H1 ⟨rfl,hi1,s,W2,rfl,e2,iv,k⟩
 by_cases hlt:i< xs.length
 ·obtain⟨a,ha⟩:∃a,xs[i]? =some a:=⟨xs[i],by simp[hlt]⟩
  obtain⟨h1,h2⟩:=(hy W2 e2).1 i a ha
  refine .inr ⟨h1,nv W1 Iv fun s'=>(br f (xs.drop (i+1)) s').OkE Er P,fun σ' H' ⟨s',W',z1,z2,z3,z4⟩=>⟨xs.length- (i+1),by omega,rfl,hlt,s',W',z1,z2,z3,z4⟩,fun x H' hx=>?_⟩
  obtain⟨W3,rfl,e3,rx⟩:=h2 x H' hx
  rw[i3 ha]at k
  exact hs W1 W2 W3 a x s σ1 (fun s'=>(br f (xs.drop (i+1)) s').OkE Er P) (e1.g.trans e2) e2 iv e3 rx (Res.okE_bind k)
 ·have e:i=xs.length:=by omega
  subst e
  rw[List.drop_length]at k
  exact .inl ⟨(hy W2 e2).2,hd s W2 σ1 (e1.g.trans e2) iv k⟩
theorem lM {S:Type} {f:α→S→Res (Fl γ S)} {xs:List α} {i:Nat} {a:α} {s:S} (h:xs[i]? =some a):eO f (xs.drop i) s=(f a s).bind (sB (eO f (xs.drop (i+1)))):=by
 obtain⟨hi,e⟩:=List.getElem?_eq_some_iff.mp h
 rw[List.drop_eq_getElem_cons hi,e]
 rfl
theorem pH {S:Type} {wi:TI} {tb:TS} {R:Rp α} {m:Res (List α)} {f:α→S→Res (Fl γ S)} {s0:S} {P:Fl γ S→Prop} (Iv:S→Wd→St→Prop) (hi:IV Er wi σ W R m) (q:(m.bind fun xs=>eO f xs s0).OkE Er P)
  (h0:∀W1,Ext W W1→Iv s0 W1 σ)
  (hs:∀Wb W1 W2 a v s σ1 P',Same W.G W1.G→Same Wb.G W1.G→Iv s W1 σ1→Ext W1 W2→R W2.G a v→(∀r,P' (.rt r)→P (.rt r))→(f a s).OkE Er P'→g v σ1 W2.H fun σ2 H2=>tb {D with nx:=nv Wb Iv fun s'=>P' (.nx s'),ct:=nv Wb Iv fun s'=>P' (.nx s'),bk:=D.nx} σ2 H2)
  (hd:∀s W1 σ1,Same W.G W1.G→Iv s W1 σ1→P (.nx s)→D.nx σ1 W1.H):iR wi g tb D σ W.H:=by
 refine hi W (.refl _) _ ((Res.okE_bind q).imp fun xs kx J W1 e1 hy=>?_)
 refine⟨fun i n σ' H'=>n=xs.length- i∧i≤xs.length∧∃s' W',W'.H=H'∧Same W1.G W'.G∧Iv s' W' σ'∧(eO f (xs.drop i) s').OkE Er P,⟨xs.length,by simp,by simp,s0,W1,rfl,.refl _,h0 W1 e1,by simpa using kx⟩,?_⟩
 rintro i n σ1 H1 ⟨rfl,hi1,s,W2,rfl,e2,iv,k⟩
 by_cases hlt:i< xs.length
 ·obtain⟨a,ha⟩:∃a,xs[i]? =some a:=⟨xs[i],by simp[hlt]⟩
  obtain⟨h1,h2⟩:=(hy W2 e2).1 i a ha
  refine .inr ⟨h1,nv W1 Iv fun s'=>(eO f (xs.drop (i+1)) s').OkE Er P,fun σ' H' ⟨s',W',z1,z2,z3,z4⟩=>⟨xs.length- (i+1),by omega,rfl,hlt,s',W',z1,z2,z3,z4⟩,fun x H' hx=>?_⟩
  obtain⟨W3,rfl,e3,rx⟩:=h2 x H' hx
  rw[lM ha]at k
  exact hs W1 W2 W3 a x s σ1 (fun fl=>match fl with | .nx s'=>(eO f (xs.drop (i+1)) s').OkE Er P | .bk s'=>P (.nx s') | .rt r=>P (.rt r)) (e1.g.trans e2) e2 iv e3 rx (fun r h=>h) ((Res.okE_bind k).imp fun fl h=>by cases fl <;> exact h)
 ·have e:i=xs.length:=by omega
  subst e
  rw[List.drop_length]at k
  exact .inl ⟨(hy W2 e2).2,hd s W2 σ1 (e1.g.trans e2) iv k⟩
section
variable {r:TS}
theorem aF {σ':V→St} {R:Rw α} {m:Res α} (h:EV Er te σ W R m) (q:m.OkE Er fun a=>∀v W',Ext W W'→R W' a v→r D (σ' v) W'.H) (hσ:∀v,σ.set i (some v)=σ' v:=by intro _;rfl):cZ (bn te (aQ i)) r D σ W.H:=dE (D:={D with nx:=r D}) h q hσ
theorem lN {σ':Addr→St} {R:Rp α} {m:Res (List α)} (h:EVo Er te σ W R m) (q:m.OkE Er fun a=>∀p W',Ext W W'→W.H p=none→Ow R W' p a→r D (σ' p) W'.H) (hσ:∀p,σ.set i (some (.ref p))=σ' p:=by intro _;rfl):cZ (bn te (aQ i)) r D σ W.H:=pG (D:={D with nx:=r D}) h q hσ
theorem cH {c:TT} {m:Res Bool} (h:TV Er c σ W m) (q:m.OkE Er fun b=>∀W',Ext W W'→if b=true then t {D with nx:=r D} σ W'.H else u {D with nx:=r D} σ W'.H):cZ (eT c t u) r D σ W.H:=h W (.refl _) _ q
theorem d9 {S:Type} {c:TT} {m:Res Bool} {mA mB:Res S} {P:S→Prop} (Iv:S→Wd→St→Prop) (h:TV Er c σ W m) (q:(m.bind fun b=>if b then mA else mB).OkE Er P)
  (hA:∀W' (N:St→Hp→Prop),Ext W W'→(∀s W1 σ1,Same W.G W1.G→Iv s W1 σ1→P s→N σ1 W1.H)→mA.OkE Er P→t {D with nx:=N} σ W'.H)
  (hB:∀W' (N:St→Hp→Prop),Ext W W'→(∀s W1 σ1,Same W.G W1.G→Iv s W1 σ1→P s→N σ1 W1.H)→mB.OkE Er P→u {D with nx:=N} σ W'.H)
  (hd:∀s W1 σ1,Same W.G W1.G→Iv s W1 σ1→P s→r D σ1 W1.H):cZ (eT c t u) r D σ W.H:=jG (D:={D with nx:=r D}) Iv h q hA hB hd
theorem nz {R:Rp α} [Mono R] {p:Addr} {xs:List α} {m:Res α} (o:Ow R W p xs) (h:EV Er te σ W (sh R) m) (q:(m.bind fun a=>dm xs a).OkE Er fun ys=>∀W',Mu W W' p→Ow R W' p ys→r D σ W'.H) (hi:σ[i]? =some (some (.ref p)):=by rfl):cZ (aT (dc K "list" av (aZ i) (af te aJ))) r D σ W.H:=nu (D:={D with nx:=r D}) o h q hi
theorem j5 {S:Type} {wi:TI} {tb:TS} {R:Rp α} {m:Res (List α)} {f:α→S→Res S} {s0:S} {P:S→Prop} (Iv:S→Wd→St→Prop) (hi:IV Er wi σ W R m) (q:(m.bind fun xs=>br f xs s0).OkE Er P)
  (h0:∀W1,Ext W W1→Iv s0 W1 σ)
  (hs:∀Wb W1 W2 a v s σ1 P',Same W.G W1.G→Same Wb.G W1.G→Iv s W1 σ1→Ext W1 W2→R W2.G a v→(f a s).OkE Er P'→g v σ1 W2.H fun σ2 H2=>tb {D with nx:=nv Wb Iv P',ct:=nv Wb Iv P',bk:=r D} σ2 H2)
  (hd:∀s W1 σ1,Same W.G W1.G→Iv s W1 σ1→P s→r D σ1 W1.H):cZ (iR wi g tb) r D σ W.H:=ny (D:={D with nx:=r D}) Iv hi q h0 hs hd
theorem i4 {S:Type} {wi:TI} {tb:TS} {R:Rp α} {m:Res (List α)} {f:α→S→Res (Fl γ S)} {s0:S} {P:Fl γ S→Prop} (Iv:S→Wd→St→Prop) (hi:IV Er wi σ W R m) (q:(m.bind fun xs=>eO f xs s0).OkE Er P)
  (h0:∀W1,Ext W W1→Iv s0 W1 σ)
  (hs:∀Wb W1 W2 a v s σ1 P',Same W.G W1.G→Same Wb.G W1.G→Iv s W1 σ1→Ext W1 W2→R W2.G a v→(∀r,P' (.rt r)→P (.rt r))→(f a s).OkE Er P'→g v σ1 W2.H fun σ2 H2=>tb {D with nx:=nv Wb Iv fun s'=>P' (.nx s'),ct:=nv Wb Iv fun s'=>P' (.nx s'),bk:=r D} σ2 H2)
  (hd:∀s W1 σ1,Same W.G W1.G→Iv s W1 σ1→P (.nx s)→r D σ1 W1.H):cZ (iR wi g tb) r D σ W.H:=pH (D:={D with nx:=r D}) Iv hi q h0 hs hd
end
theorem gw {S:Type} {Wb W:Wd} {Iv:S→Wd→St→Prop} {P:S→Prop} (s:S) (hs:Same Wb.G W.G) (iv:Iv s W σ) (hq:P s):nv Wb Iv P σ W.H:=⟨s,W,rfl,hs,iv,hq⟩
end
end Wb
namespace L2
open PySem PySem.Spec PyProof.Rows
end L2
namespace Wb
open PySem L2 Mi
variable {Er:Nat→Prop}
section
variable {α β γ δ:Type} {t ta tb tc:TE} {σ:St} {W W0 W':Wd} {K:PySem.W.Frag} {w:World}
theorem iG {a n r:Int} (hc:0≤n∧n≤1000000∧a.natAbs< 2^64) (hr:a^n.toNat=r):EV Er (cC (rI sj fun i j=>.int (i^j.toNat)) (tC (.int a)) (tC (.int n))) σ W (sh isI) (.ok r):=fun W1 e1 Q k=>⟨a,n,rfl,rfl,hc,by show Q (.int (a^n.toNat)) W1.H;rw[hr];exact k _ W1 (.refl _) rfl⟩
def isScr (K:PySem.W.Frag):Rp (List Int):=fun H ns v=>∃a,v=.ref a∧SqL K H a (ns.map V.int)
instance zkeep17:Mono (isScr K):=⟨fun e ⟨a,h1,h2⟩=>⟨a,h1,e.seq h2⟩⟩
theorem i5 {ma:Res (List Int)} (ha:EV Er ta σ W (sh (isScr K)) ma):EV Er (cW (fun xs H Q=>∃x n,xs=[x]∧iV K x H n∧Q (.int n) H) (af ta aJ)) σ W (sh isI) (ma.bind fun a=>.ok (a.length:Int)):=fun W1 e1 Q k=>
 ha W1 e1 _ ((Res.okE_bind k).imp fun a ka x W2 e2 hx=>by
  obtain⟨p,rfl,h1⟩:=hx
  exact⟨_,a.length,rfl,.inl ⟨_,W2.ok.seq h1,by simp⟩,ka _ W2 e2 rfl⟩)
theorem nA {ma:Res (List Int)} {mb:Res Int} (ha:EV Er ta σ W (sh (isScr K)) ma) (hb:EV Er tb σ W (sh isI) mb):EV Er (cC (bH K) ta tb) σ W (sh isI) (ma.bind fun a=>mb.bind fun b=>cP a b):=
 jE ha hb fun W a b x y Q hx hy k=>by
  cases hy
  obtain⟨p,rfl,h1⟩:=hx
  obtain⟨c,h4,h5⟩:=cE k
  have lr:LR isI W.G a (a.map V.int):=⟨by simp,fun i v m e1 e2=>by rw[List.getElem?_map,e2]at e1;cases e1;rfl⟩
  obtain⟨z,h6,h7⟩:=iF lr h4
  exact⟨p,_,b,z,rfl,rfl,W.ok.seq h1,h6,h5 _ W (.refl _) h7⟩
theorem rm {R:Rp α} {W1 W2:Wd} {xs:List α} {vs:List V} {Q:VK} (h:LR R W2.G xs vs) (e:Ext W1 W2) (k:∀p W2,Ext W1 W2→W1.H p=none→Ow R W2 p xs→Q (.ref p) W2.H) (r:Addr) (hr:W2.H r=none):Q (.ref r) (bQ W2.H r (.lst vs)):=
 k r (W2.mut r (.lst vs) (W2.gnone hr)) (e.trans (.own _ hr)) (none_of e.h hr) ⟨W2.gnone hr,vs,ax,h⟩
theorem nE {R:Rp α} {ma:Res (List α)} (ha:EV Er ta σ W (pk R) ma):EVo Er (cW (fun xs H Q=>∃p ys,xs=[.ref p]∧(SqL K H p ys∨SqT K H p ys)∧∀l,H l=none→Q (.ref l) (bQ H l (.lst ys))) (af ta aJ)) σ W R ma:=fun W1 e1 Q k=>
 ha W1 e1 _ (k.imp fun a ka x W2 e2 hx=>by
  obtain⟨p,vs,rfl,h1,h2⟩:=hx
  exact⟨p,vs,rfl,.inl (SqL.of h1),fun l hl=>rm h2 e2 ka l hl⟩)
theorem LR.ints {H:Hp} {ns:List Int} {vs:List V} (h:LR isI H ns vs):vs=ns.map V.int:=by
 refine List.ext_getElem? fun i=>?_
 rw[List.getElem?_map]
 cases e:ns[i]? with
 | none=>rw[List.getElem?_eq_none_iff]at e;rw[List.getElem?_eq_none_iff.mpr (by rw[h.1];exact e)];rfl
 | some m=>obtain⟨v,a,b⟩:=h.get e;rw[a];cases b;rfl
theorem rn {ma:Res (List Int)} (ha:EV Er ta σ W (pk isI) ma):EV Er (cW (fun xs H Q=>∃(p:Addr) (ns:List Int),xs=[.ref p]∧SqL K H p (ns.map V.int)∧Q (.int ns.sum) H) (af ta aJ)) σ W (sh isI) (ma.bind fun a=>.ok a.sum):=fun W1 e1 Q k=>
 ha W1 e1 _ ((Res.okE_bind k).imp fun a ka x W2 e2 hx=>by
  obtain⟨p,vs,rfl,h1,h2⟩:=hx
  exact⟨p,a,rfl,SqL.of (by rw[h1,h2.ints]),ka _ W2 e2 rfl⟩)
theorem pI {ma mb:Res Int} (ha:EV Er ta σ W (sh isI) ma) (hb:EV Er tb σ W (sh isI) mb):EV Er (cW (fun xs H Q=>∃i j,xs=[.int i,.int j]∧Q (.int (if j> i then j else i)) H) (af ta (af tb aJ))) σ W (sh isI) (ma.bind fun a=>mb.bind fun b=>.ok (if b> a then b else a)):=fun W1 e1 Q k=>
 ha W1 e1 _ ((Res.okE_bind k).imp fun a ka x W2 e2 hx=>hb W2 (e1.trans e2) _ ((Res.okE_bind ka).imp fun b kb y W3 e3 hy=>by cases hx;cases hy;exact⟨a,b,rfl,kb _ W3 (e2.trans e3) rfl⟩))
theorem j6 {R:Rp α} [Mono R] {ma:Res (List α)} (ha:EV Er ta σ W (pk R) ma):EV Er (cW (fun xs H Q=>∃p ys,xs=[.ref p]∧((SqL K H p ys∧∀l,H l=none→Q (.ref l) (bQ H l (.tup ys)))∨(SqT K H p ys∧Q (.ref p) H))) (af ta aJ)) σ W (sh (isT3 K R R R)) (ma.bind fun a=>lK a):=fun W1 e1 Q k=>
 ha W1 e1 _ ((Res.okE_bind k).imp fun a ka x W2 e2 hx=>by
  obtain⟨p,vs,rfl,h1,h2⟩:=hx
  match a,ka,h2 with
  | [a, b, c], ka, h2 =>
   match vs,h2.1,h2,h1 with
   | [x, y, z], _, h2, h1 =>
    refine⟨p,_,rfl,.inl ⟨SqL.of h1,fun l hl=>ka (.ref l) (W2.new l (.tup [x,y,z])) (e2.trans (.new _ hl)) ⟨l,x,y,z,rfl,SqT.of ax,?_,?_,?_⟩⟩⟩
    ·exact Mono.mono (Ext.new _ hl).g (h2.2 0 x a rfl rfl)
    ·exact Mono.mono (Ext.new _ hl).g (h2.2 1 y b rfl rfl)
    ·exact Mono.mono (Ext.new _ hl).g (h2.2 2 z c rfl rfl))
def EqK (K:PySem.W.Frag) (H:Hp):Nat→V→V→Prop
  | 0,v,u=>v=u∧flat v=true
  | n + 1, v, u => (v = u ∧ flat v = true) ∨ ∃ p q xs ys, v = .ref p ∧ u = .ref q ∧ ((H p = some (.lst xs) ∧ H q = some (.lst ys)) ∨ (SqT K H p xs ∧ SqT K H q ys)) ∧ xs.length = ys.length ∧
      ∀(i:Nat) (x y:V),xs[i]? =some x→ys[i]? =some y→EqK K H n x y
theorem EqK.same {H H':Hp} (e:Same H H'):∀{n:Nat} {v u:V},EqK K H n v u→EqK K H' n v u
 | 0,_,_,h=>h
 | n + 1, _, _, h => by
  rcases h with h | ⟨p,q,xs,ys,h1,h2,h3,h4,h5⟩
  ·exact .inl h
  ·refine .inr ⟨p,q,xs,ys,h1,h2,?_,h4,fun i x y e1 e2=>EqK.same e (h5 i x y e1 e2)⟩
   rcases h3 with⟨a,b⟩ | ⟨a,b⟩
   ·exact .inl ⟨e _ _ a,e _ _ b⟩
   ·exact .inr ⟨Same.tup e a,Same.tup e b⟩
theorem EqK.flat {H:Hp} {n:Nat} {v:V} (h:L2.flat v=true):EqK K H n v v:=by cases n with | zero=>exact⟨rfl,h⟩ | succ n=>exact .inl ⟨rfl,h⟩
class EqR (K:PySem.W.Frag) {α:Type} (R:Rp α) (n:outParam Nat):Prop where
 eq:∀H a v u m,n≤m→R H a v→R H a u→EqK K H m v u
instance zkeep18:EqR K isI 0:=⟨fun H a v u m _ h1 h2=>by cases h1;cases h2;exact .flat rfl⟩
instance zkeep19:EqR K isS 0:=⟨fun H a v u m _ h1 h2=>by cases h1;cases h2;exact .flat rfl⟩
instance zkeep23 {R:Rp α} {n:Nat} [EqR K R n]:EqR K (isL R) (n+1):=⟨fun H a v u m hm ⟨p,vs,h1,h2,h3⟩ ⟨q,us,g1,g2,g3⟩=>by
 cases m with
 | zero=>omega
 | succ m =>
  refine .inr ⟨p,q,vs,us,h1,g1,.inl ⟨h2,g2⟩,by rw[h3.1,g3.1],fun i x y e1 e2=>?_⟩
  obtain⟨b,hb,rb⟩:=h3.got e1
  exact EqR.eq H b x y m (by omega) rb (g3.2 i y b e2 hb)⟩
instance zkeep25 {R1:Rp α} {R2:Rp β} {R3:Rp γ} {n k l:Nat} [EqR K R1 n] [EqR K R2 k] [EqR K R3 l]:EqR K (isT3 K R1 R2 R3) (max n (max k l)+1):=⟨fun H a v u m hm ⟨p,x,y,z,h0,h,h1,h2,h3⟩ ⟨q,x',y',z',g0,g,g1,g2,g3⟩=>by
 cases m with
 | zero=>omega
 | succ m =>
  refine .inr ⟨p,q,_,_,h0,g0,.inr ⟨h,g⟩,rfl,fun i w w' e1 e2=>?_⟩
  match i,e1,e2 with
  | 0,e1,e2=>cases e1;cases e2;exact EqR.eq H _ _ _ m (by omega) h1 g1
  | 1,e1,e2=>cases e1;cases e2;exact EqR.eq H _ _ _ m (by omega) h2 g2
  | 2,e1,e2=>cases e1;cases e2;exact EqR.eq H _ _ _ m (by omega) h3 g3⟩
end
end Wb
namespace L2
open PySem PySem.Spec PyProof.Rows
section
variable {X:Cx} {K:PySem.W.Frag} {w:World} {o e:Expr} {to:TE} {t:TA} {apos cpos:Pos}
abbrev u8 (X:Cx) (cpos:Pos) (e:Expr):Prop:=((backTo cpos (starEach [e] X.env)).all (fun x=> !x.1) && (backToKw cpos (keywordEach [] X.env)).all (fun x=>x.1.isSome) && decide ([e].length+([]:List Keyword).length+(if([]:List Keyword).isEmpty then 0 else 1)< 30))=true
theorem dW (h:X.K=K):df X (.type "tuple") (fun xs H Q=>∃p ys,xs=[.ref p]∧((SqL K H p ys∧∀l,H l=none→Q (.ref l) (bQ H l (.tup ys)))∨(SqT K H p ys∧Q (.ref p) H))):=h▸gI
theorem eQ (h:X.K=K) (ho:PE X o to) (ha:PA X [e] t) (hbase:attributeBase o "append" X.env (eval o X.env)=eval o X.env:=by rfl) (hfew:u8 X cpos e:=by rfl) (hline:(apos.endLine == cpos.line)=true:=by rfl) (hs:starEach [e] X.env=(false,eval e X.env)::starEach [] X.env:=by rfl) (hplain:(backTo cpos (starEach [] X.env)).any (·.1)=false:=by rfl):
  PE X (.Call (.Attribute o "append" apos) [e] [] cpos) (dc K "list" av to t):=iw (K:=K) h PySem.F.plainAttrs_list PySem.F.slot_list_append PySem.F.type_list_append hG ho ha hbase hfew hline hs hplain
end
end L2
namespace Wb
open PySem L2 Mi
variable {Er:Nat→Prop}
section
variable {α β γ δ:Type} {t t1 t2 t3 ta tb tc:TE} {σ:St} {W W0 W':Wd} {K:PySem.W.Frag} {w:World}
theorem gy {R1:Rp α} {R2:Rp β} {R3:Rp γ} {d:Addr} {x y z:V} {a:α} {b:β} {c:γ} (T:∀H,SqT K H d [x,y,z]) (h1:∀H,R1 H a x) (h2:∀H,R2 H b y) (h3:∀H,R3 H c z):EV Er (tC (.ref d)) σ W (sh (isT3 K R1 R2 R3)) (.ok (a,b,c)):=fun W1 _ Q k=>k _ W1 (.refl _) ⟨d,x,y,z,rfl,T _,h1 _,h2 _,h3 _⟩
theorem gS (x:String) (l:Tx) (h:(Str.ofString x).cps.toList=l):∀H,isS H l (.str (Str.ofString x)):=fun _=>by rw[bL x l h];rfl
end
end Wb
namespace Mi
theorem fR {a b:Int} (h:0< b):iy a b=.ok (a% b):=bG h
theorem nG {a b:Int} (h1:0< b) (h2:b< 1073741824):kJ a b=.ok (a/ b):=bG ⟨h1,h2⟩
theorem nH {a b:Int} (h1: -18446744073709551616< a) (h2:a< 18446744073709551616):jD a b=.ok (a*b):=bG (.inl ⟨h1,h2⟩)
theorem nI {a b:Int} (h1: -18446744073709551616< b) (h2:b< 18446744073709551616):jD a b=.ok (a*b):=bG (.inr ⟨h1,h2⟩)
theorem iH {α:Type} {xs:List α} {x:α} (h:xs.length< 100000):dm xs x=.ok (xs++ [x]):=bG h
theorem fS {a b:Tx} (h:a.length+b.length≤100000):fL a b=.ok (a++b):=bG h
theorem kO {a:Tx} (h:a.length≤100000):n9 a=.ok (a.length:Int):=bG h
theorem ei {n:Nat} (h:n≤100000):cF (n:Int)=.ok ((List.range n).map fun(i:Nat)=>(i:Int)):=by
 unfold cF;rw[bG ⟨by omega,by omega⟩];simp[gl]
theorem dF {α:Type} {xs:List α} {i:Int} (h0:0≤i) (h1:i< xs.length):∃x,cP xs i=.ok x∧xs[i.toNat]? =some x:=by
 obtain⟨h,e⟩:=n5 h0 h1
 exact⟨xs[i.toNat],by unfold cP;rw[e];rfl,by simp[h]⟩
theorem kP {x:Tx} {i:Int} (h0:0≤i) (h1:i< x.length) (h2:x.length≤100000):∃c,sA x i=.ok [c]∧x[i.toNat]? =some c:=by
 obtain⟨h,e⟩:=n5 h0 h1
 refine⟨x[i.toNat],?_,by simp[h]⟩
 unfold sA;rw[bG h2];show(d4 (n3 x i)).bind _=_;rw[e];rfl
theorem pJ {α:Type} {xs:List α} {i:Int} {x:α} (h0:0≤i) (h1:i< xs.length):fk xs i x=.ok (xs.set i.toNat x):=by
 unfold fk ixN;rw[if_pos h0,if_pos h1];rfl
theorem gz {α:Type} [DecidableEq α] {a b:α} (h:a=b):my a b=.ok true:=if_pos h
theorem nJ {α S:Type} {f:α→S→Res S} (I:List α→S→Prop) (xs:List α) (s0:S) (h0:I [] s0) (step:∀pre a post s,xs=pre++a::post→I pre s→∃s',f a s=.ok s'∧I (pre++ [a]) s'):
  ∃s,br f xs s0=.ok s∧I xs s:=by
 have key:∀(post pre:List α) (s:S),xs=pre++post→I pre s→∃s',br f post s=.ok s'∧I xs s':=by
  intro post
  induction post with
  | nil=>intro pre s e h;rw[List.append_nil]at e;subst e;exact⟨s,rfl,h⟩
  | cons a r ih =>
   intro pre s e h
   obtain⟨s1,e1,h1⟩:=step pre a r s e h
   obtain⟨s2,e2,h2⟩:=ih (pre++ [a]) s1 (by rw[e];simp) h1
   exact⟨s2,by unfold br;rw[e1];exact e2,h2⟩
 exact key xs [] s0 rfl h0
theorem j8 {α S γ:Type} {f:α→S→Res (Fl γ S)} (I:List α→S→Prop) (xs:List α) (s0:S) (h0:I [] s0) (step:∀pre a post s,xs=pre++a::post→I pre s→∃s',f a s=.ok (.nx s')∧I (pre++ [a]) s'):
  ∃s,eO f xs s0=.ok (.nx s)∧I xs s:=by
 have key:∀(post pre:List α) (s:S),xs=pre++post→I pre s→∃s',eO f post s=.ok (.nx s')∧I xs s':=by
  intro post
  induction post with
  | nil=>intro pre s e h;rw[List.append_nil]at e;subst e;exact⟨s,rfl,h⟩
  | cons a r ih =>
   intro pre s e h
   obtain⟨s1,e1,h1⟩:=step pre a r s e h
   obtain⟨s2,e2,h2⟩:=ih (pre++ [a]) s1 (by rw[e];simp) h1
   exact⟨s2,by unfold eO;rw[e1];exact e2,h2⟩
 exact key xs [] s0 rfl h0
theorem nK {α β:Type} {f:α→Res β} {P:α→β→Prop} {xs:List α} (hl:xs.length≤100000) (h:∀x∈xs,∃y,f x=.ok y∧P x y):∃ys,bD xs f=.ok ys∧ys.length=xs.length∧∀(i:Nat) x y,xs[i]? =some x→ys[i]? =some y→P x y:=by
 unfold bD
 rw[bG hl,Res.bind_ok']
 clear hl
 induction xs with
 | nil=>exact⟨[],rfl,rfl,fun i x y e=>by simp at e⟩
 | cons a r ih =>
  obtain⟨b,e,hb⟩:=h a (List.mem_cons_self ..)
  obtain⟨bs,e2,hl2,h2⟩:=ih fun x hx=>h x (List.mem_cons_of_mem _ hx)
  refine⟨b::bs,by unfold eY;rw[e,Res.bind_ok',e2];rfl,by simp[hl2],fun i x y e3 e4=>?_⟩
  cases i with
  | zero=>cases e3;cases e4;exact hb
  | succ j=>exact h2 j x y e3 e4
theorem pK (a:Int):0≤cJ a:=by unfold cJ;split <;> omega
section
variable {α β:Type} {P:α→Prop} {Q:β→Prop}
theorem u9 {m:Res α} {f:α→Res β} (h:m.Ok fun a=>(f a).Ok Q):(m.bind f).Ok Q:=Res.bind_ok h
theorem rp {c:Prop} [Decidable c] {A B:Res α} (h1:c→A.Ok P) (h2:¬c→B.Ok P):(if decide c=true then A else B).Ok P:=by
 by_cases h:c
 ·rw[decide_eq_true h];exact h1 h
 ·rw[decide_eq_false h];exact h2 h
end
end Mi
namespace L2
open PySem PySem.Spec PyProof.Rows Wb
end L2
namespace L2
open PySem PySem.Spec PyProof.Rows
end L2
namespace Wb
open PySem L2 Mi
variable {Er:Nat→Prop}
end Wb
namespace Mi
inductive Dat where
 | n | b (x:Bool) | i (x:Int) | s (x:Tx) | t (xs:List Dat) | l (xs:List Dat)
noncomputable instance zkeep38:DecidableEq Dat:=fun _ _=>Classical.propDecidable _
def Dat.le:Nat→Dat→Prop
 | 0,d=>match d with | .t _=>False | .l _=>False | _=>True
 | k+1,d=>match d with | .t xs=>∀x∈xs,Dat.le k x | .l xs=>∀x∈xs,Dat.le k x | _=>True
open Classical in
noncomputable def nL (a b:Dat):Res Bool:=if a=b∧a.le 24 then .ok true else .stuck
theorem rq {a b:Dat} (h:a=b) (hl:a.le 24):nL a b=.ok true:=if_pos ⟨h,hl⟩
def cX (d:Dat) (i:Int):Res Dat:=match d with | .t xs=>d4 (n3 xs i) | _=>.stuck
def lO (d:Dat):Res Int:=match d with | .t xs=>.ok (xs.length:Int) | .l xs=>.ok (xs.length:Int) | .s x=>n9 x | _=>.stuck
def jn:Dat→Option Int | .i x=>some x | _=>none
def iQ:Dat→Option Tx | .s x=>some x | _=>none
theorem ua {α:Type} {a:α} {Er:Nat→Prop} {P:α→Prop} (h:P a):(Res.ok a).OkE Er P:=h
def nM (a b:Tx):Bool:= !decide (b< a)
end Mi
namespace PySem
open Sem (wp)
open AutoSeq1 (wpAny_loadPart')
end PySem
namespace L2
open PySem PySem.Spec PyProof.Rows
end L2
namespace L2
end L2
namespace Wb
open PySem L2 Mi
variable {Er:Nat→Prop}
inductive isU (K:PySem.W.Frag) (H:Hp):Dat→V→Prop where
 | n:isU K H .n .non
 | b {x:Bool} :isU K H (.b x) (.bl x)
 | i {x:Int} :isU K H (.i x) (.int x)
 | s {x:Tx} :isU K H (.s x) (.str (sOf x))
 | t {p:Addr} {xs:List Dat} {vs:List V} (h:SqT K H p vs) (hl:vs.length=xs.length) (r:∀(j:Nat) x v,xs[j]? =some x→vs[j]? =some v→isU K H x v):isU K H (.t xs) (.ref p)
 | l {p:Addr} {xs:List Dat} {vs:List V} (h:H p=some (.lst vs)) (hl:vs.length=xs.length) (r:∀(j:Nat) x v,xs[j]? =some x→vs[j]? =some v→isU K H x v):isU K H (.l xs) (.ref p)
section
variable {α β γ δ:Type} {t t1 t2 t3 t4 ta tb tc td:TE} {σ:St} {W W0 W':Wd} {K:PySem.W.Frag} {w:World}
theorem isU.same {H H':Hp} {d:Dat} {v:V} (e:Same H H') (h:isU K H d v):isU K H' d v:=by
 induction h with
 | n=>exact .n
 | b=>exact .b
 | i=>exact .i
 | s=>exact .s
 | t h hl r ih=>exact .t (Same.tup e h) hl ih
 | l h hl r ih=>exact .l (e _ _ h) hl ih
instance zkeep39:Mono (isU K):=⟨fun e h=>isU.same e h⟩
theorem isU.eqk {H:Hp} :∀(n:Nat) (d:Dat) (v u:V),d.le n→isU K H d v→isU K H d u→EqK K H n v u:=by
 intro n
 induction n with
 | zero =>
  intro d v u hd h1 h2
  cases h1 with
  | n=>cases h2;exact .flat rfl
  | b=>cases h2;exact .flat rfl
  | i=>cases h2;exact .flat rfl
  | s=>cases h2;exact .flat rfl
  | t h hl r=>exact hd.elim
  | l h hl r=>exact hd.elim
 | succ n ih =>
  intro d v u hd h1 h2
  cases h1 with
  | n=>cases h2;exact .flat rfl
  | b=>cases h2;exact .flat rfl
  | i=>cases h2;exact .flat rfl
  | s=>cases h2;exact .flat rfl
  | @t p xs vs h hl r =>
   cases h2 with
   | @t q _ us h' hl' r' =>
    refine .inr ⟨p,q,vs,us,rfl,rfl,.inr ⟨h,h'⟩,by rw[hl,hl'],fun i x y e1 e2=>?_⟩
    have hi:i< xs.length:=by rw[←hl];exact(List.getElem?_eq_some_iff.mp e1).1
    have e3:xs[i]? =some xs[i]:=List.getElem?_eq_getElem hi
    exact ih xs[i] x y (hd _ (List.getElem_mem hi)) (r i _ x e3 e1) (r' i _ y e3 e2)
  | @l p xs vs h hl r =>
   cases h2 with
   | @l q _ us h' hl' r' =>
    refine .inr ⟨p,q,vs,us,rfl,rfl,.inl ⟨h,h'⟩,by rw[hl,hl'],fun i x y e1 e2=>?_⟩
    have hi:i< xs.length:=by rw[←hl];exact(List.getElem?_eq_some_iff.mp e1).1
    have e3:xs[i]? =some xs[i]:=List.getElem?_eq_getElem hi
    exact ih xs[i] x y (hd _ (List.getElem_mem hi)) (r i _ x e3 e1) (r' i _ y e3 e2)
def iI (K:PySem.W.Frag) (R:Rp α) (u:α→Dat):Prop:=∀H a v,R H a v→isU K H (u a) v
theorem kQ:iI K isI .i:=fun _ _ _ h=>by cases h;exact .i
theorem dn:iI K isS .s:=fun _ _ _ h=>by cases h;exact .s
theorem qG {R:Rp α} {u:α→Dat} (h:iI K R u):iI K (isL R) (fun xs=>.l (xs.map u)):=fun H xs v ⟨p,vs,h0,h1,h2⟩=>by
 subst h0
 refine .l h1 (by rw[List.length_map,h2.1]) fun j x v e1 e2=>?_
 rw[List.getElem?_map]at e1
 obtain⟨a,ha,rfl⟩:=Option.map_eq_some_iff.mp e1
 exact h _ _ _ (h2.2 j v a e2 ha)
theorem kR {R1:Rp α} {R2:Rp β} {u1:α→Dat} {u2:β→Dat} (h1:iI K R1 u1) (h2:iI K R2 u2):iI K (isT2 K R1 R2) (fun x=>.t [u1 x.1,u2 x.2]):=fun H a v ⟨p,x,y,h0,h,r1,r2⟩=>by
 subst h0
 refine .t h rfl fun j d v e1 e2=>?_
 match j,e1,e2 with
 | 0,e1,e2=>cases e1;cases e2;exact h1 _ _ _ r1
 | 1,e1,e2=>cases e1;cases e2;exact h2 _ _ _ r2
theorem fm {R:Rp α} {u:α→Dat} {m:Res α} (h:iI K R u) (e:EV Er t σ W (sh R) m):EV Er t σ W (sh (isU K)) (m.bind fun a=>.ok (u a)):=fun W1 e1 Q k=>
 e W1 e1 _ ((Res.okE_bind k).imp fun a ka v W2 e2 hv=>ka v W2 e2 (h _ _ _ hv))
def tI (K:PySem.W.Frag) (R:Rp α) (f:Dat→Option α):Prop:=∀H d v a,isU K H d v→f d=some a→R H a v
theorem di:tI K isI jn:=fun _ _ _ _ h e=>by cases h <;> cases e;rfl
theorem cV:tI K isS iQ:=fun _ _ _ _ h e=>by cases h <;> cases e;rfl
theorem b9 {R:Rp α} {f:Dat→Option α} {m:Res Dat} (h:tI K R f) (e:EV Er t σ W (sh (isU K)) m):EV Er t σ W (sh R) (m.bind fun d=>d4 (f d)):=fun W1 e1 Q k=>
 e W1 e1 _ ((Res.okE_bind k).imp fun d kd v W2 e2 hv => by
  obtain⟨a,h1,h2⟩:=cE kd
  exact h2 v W2 e2 (h _ _ _ _ hv h1))
theorem aY {ma:Res Dat} {mb:Res Int} (ha:EV Er ta σ W (sh (isU K)) ma) (hb:EV Er tb σ W (sh isI) mb):EV Er (cC (bS K) ta tb) σ W (sh (isU K)) (ma.bind fun a=>mb.bind fun b=>cX a b):=
 jE ha hb fun W a b x y Q hx hy k=>by
  cases hy
  unfold cX at k
  cases hx with
  | @t p xs vs h hl r =>
   obtain⟨c,h4,h5⟩:=cE k
   obtain⟨z,h6,h7⟩:=iF (R:=isU K) (H:=W.G) (as:=xs) (xs:=vs) ⟨hl,fun i v m e1 e2=>r i m v e2 e1⟩ h4
   exact⟨p,_,b,z,rfl,rfl,Same.tup W.ok h,h6,h5 _ W (.refl _) h7⟩
  | _=>exact k.elim
theorem pL {ma:Res Dat} (ha:EV Er ta σ W (sh (isU K)) ma):EV Er (cW (fun xs H Q=>∃x n,xs=[x]∧iV K x H n∧Q (.int n) H) (af ta aJ)) σ W (sh isI) (ma.bind fun a=>lO a):=fun W1 e1 Q k=>
 ha W1 e1 _ ((Res.okE_bind k).imp fun a ka x W2 e2 hx=>by
  unfold lO at ka
  cases hx with
  | @t p xs vs h hl r=>exact⟨_,xs.length,rfl,.inr ⟨vs,Same.tup W2.ok h,hl.symm⟩,ka _ W2 e2 rfl⟩
  | @l p xs vs h hl r=>exact⟨_,xs.length,rfl,.inl ⟨vs,SqL.of (W2.ok _ _ h),hl.symm⟩,ka _ W2 e2 rfl⟩
  | @s x =>
   obtain⟨h1,h2⟩:=b0 ka
   exact⟨_,x.length,rfl,⟨by rw[cN];exact gq h1,by rw[cN]⟩,h2 _ W2 e2 rfl⟩
  | _=>exact ka.elim)
def cQ (K:PySem.W.Frag):Nat→Sp
 | 0=>fun _ _ _ _=>False
 | n+1=>fun vs H Q _=>∃v u,vs=[v,u]∧((EqK K H n v u∧∀H',Same H H'→Q (.bl true) H')∨∃x y,v=.str x∧u=.str y∧Q (.bl (decide (V.str x=V.str y))) H)
theorem dq [DecidableEq α] {R:Rp α} [Mono R] {n N:Nat} [EqR K R n] {E:XK} {ma mb:Res α} (hn:n< N) (ha:EV Er ta σ W (sh R) ma) (hb:EV Er tb σ W (sh R) mb):EV Er (aM (cQ K N) [] E (af ta (af tb aJ))) σ W (sh isB) (ma.bind fun a=>mb.bind fun b=>my a b):=fun W1 e1 Q k=>
 ha W1 e1 _ ((Res.okE_bind k).imp fun a ka x W2 e2 hx=>hb W2 (e1.trans e2) _ ((Res.okE_bind ka).imp fun b kb y W3 e3 hy=>by
  unfold my at kb
  by_cases z:a=b
  ·rw[if_pos z]at kb
   subst z
   cases N with
   | zero=>omega
   | succ N =>
    refine⟨x,y,rfl,.inl ⟨EqR.eq W3.H a x y N (by omega) (Mono.mono W3.ok (Mono.mono (R:=R) e3.g hx)) (Mono.mono W3.ok hy),fun H' hs=>?_⟩⟩
    exact kb (.bl true) ⟨W3.G,H',W3.ok.trans hs⟩ ⟨e2.g.trans e3.g,(e2.h.trans e3.h).trans hs,fun p hp=>(e2.trans e3).k p hp⟩ rfl
  ·rw[if_neg z]at kb;exact kb.elim))
theorem nN {N:Nat} {E:XK} {ma mb:Res Dat} (hn:24< N) (ha:EV Er ta σ W (sh (isU K)) ma) (hb:EV Er tb σ W (sh (isU K)) mb):EV Er (aM (cQ K N) [] E (af ta (af tb aJ))) σ W (sh isB) (ma.bind fun a=>mb.bind fun b=>nL a b):=fun W1 e1 Q k=>
  ha W1 e1 _ ((Res.okE_bind k).imp fun a ka x W2 e2 hx=>hb W2 (e1.trans e2) _ ((Res.okE_bind ka).imp fun b kb y W3 e3 hy=>by
    unfold nL at kb
    by_cases z:a=b∧a.le 24
    · rw[if_pos z]at kb
      obtain⟨z,hz⟩:=z
      subst z
      cases N with
      | zero=>omega
      | succ N =>
        have up:∀(m n:Nat) (d:Dat),n≤m→d.le n→d.le m:=by
          intro m
          induction m with
          | zero => intro n d h1 h2; have : n = 0 := by omega
                    subst this;exact h2
          | succ m ih =>
            intro n d h1 h2
            cases n with
            | zero => cases d with
              | t xs=>exact h2.elim
              | l xs=>exact h2.elim
              | _=>trivial
            | succ n => cases d with
              | t xs=>exact fun x hx=>ih n x (by omega) (h2 x hx)
              | l xs=>exact fun x hx=>ih n x (by omega) (h2 x hx)
              | _=>trivial
        refine⟨x,y,rfl,.inl ⟨isU.eqk N a x y (up N 24 a (by omega) hz) (isU.same W3.ok (isU.same e3.g hx)) (isU.same W3.ok hy),fun H' hs=>?_⟩⟩
        exact kb (.bl true) ⟨W3.G,H',W3.ok.trans hs⟩ ⟨e2.g.trans e3.g,(e2.h.trans e3.h).trans hs,fun p hp=>(e2.trans e3).k p hp⟩ rfl
    · rw[if_neg z]at kb;exact kb.elim))
theorem pM {R1:Rp α} {R2:Rp β} {R3:Rp γ} {R4:Rp δ} [Mono R1] [Mono R2] [Mono R3] [Mono R4] {ma:Res α} {mb:Res β} {mc:Res γ} {md:Res δ} (ha:EV Er ta σ W (sh R1) ma) (hb:EV Er tb σ W (sh R2) mb) (hc:EV Er tc σ W (sh R3) mc) (hd:EV Er td σ W (sh R4) md):
  EV Er (bE (af ta (af tb (af tc (af td aJ))))) σ W (sh (sD K R1 R2 R3 R4)) (ma.bind fun a=>mb.bind fun b=>mc.bind fun c=>md.bind fun d=>.ok (a,b,c,d)):=fun W1 e1 Q k=>
 ha W1 e1 _ ((Res.okE_bind k).imp fun a ka x W2 e2 hx=>hb W2 (e1.trans e2) _ ((Res.okE_bind ka).imp fun b kb y W3 e3 hy=>hc W3 ((e1.trans e2).trans e3) _ ((Res.okE_bind kb).imp fun c kc z W4 e4 hz=>hd W4 (((e1.trans e2).trans e3).trans e4) _ ((Res.okE_bind kc).imp fun d kd u W5 e5 hu=>⟨(by show 4≤sizeLine;decide),fun p hp=>
  kd (.ref p) (W5.new p (.tup [x,y,z,u])) ((((e2.trans e3).trans e4).trans e5).trans (.new _ hp)) ⟨p,x,y,z,u,rfl,SqT.of ax,Mono.mono (Ext.new _ hp).g (Mono.mono (R:=R1) ((e3.trans e4).trans e5).g hx),Mono.mono (R:=R2) (Ext.new _ hp).g (Mono.mono (R:=R2) (e4.trans e5).g hy),Mono.mono (R:=R3) (Ext.new _ hp).g (Mono.mono (R:=R3) e5.g hz),Mono.mono (R:=R4) (Ext.new _ hp).g hu⟩⟩))))
theorem lP {ma mb mc:Res Tx} (ha:EV Er ta σ W (sh isS) ma) (hb:EV Er tb σ W (sh isS) mb) (hc:EV Er tc σ W (sh isS) mc):EV Er (mH (fun x y H Q=>∃i j,x=.str i∧y=.str j∧Q (.bl (!decide (j.cps.toList< i.cps.toList))) H) (fun x y H Q=>∃i j,x=.str i∧y=.str j∧Q (.bl (!decide (j.cps.toList< i.cps.toList))) H) ta tb tc) σ W (sh isB) (ma.bind fun a=>mb.bind fun b=>if nM a b then(mc.bind fun c=>.ok (nM b c))else .ok false):=fun W1 e1 Q k=>
 ha W1 e1 _ ((Res.okE_bind k).imp fun a ka x W2 e2 hx=>hb W2 (e1.trans e2) _ ((Res.okE_bind ka).imp fun b kb y W3 e3 hy=>by
  cases hx;cases hy
  refine⟨_,_,rfl,rfl,nM a b,by unfold nM;rw[eg,eg],?_⟩
  by_cases z:nM a b=true
  ·rw[if_pos z]at kb ⊢
   exact hc W3 ((e1.trans e2).trans e3) _ ((Res.okE_bind kb).imp fun c kc u W4 e4 hu=>by
    cases hu
    refine⟨_,_,rfl,rfl,?_⟩
    have:=kc (.bl (nM b c)) W4 ((e2.trans e3).trans e4) rfl
    unfold nM at this
    rw[eg,eg]
    exact this)
  ·rw[if_neg z]at kb ⊢
   exact kb _ W3 (e2.trans e3) rfl))
end
end Wb
namespace Mi
def kindN:List Tx:=[[66,97,100,84,97,98,108,101,116],[66,97,100,82,111,119],[66,97,100,84,101,120,116],[66,97,100,77,97,114,107],[84,111,111,76,111,110,103],[84,111,111,84,105,103,104,116],[83,112,111,111,108,68,114,121],[78,111,84,97,98,108,101,116],[78,111,116,104,105,110,103,76,101,102,116],[85,110,108,105,107,101],[83,101,101,110,84,104,114,101,97,100],[78,111,83,117,99,104,87,97,121],[66,97,114,114,101,100]]
def j9 (s:Tx) (j:Nat):Dat:=.t [.s s,.l [.s (kindN.getD j [])]]
def jH (i:Int):Tx:=(toString i).toList.map Char.toNat
def nO (i:Int):Res Tx:=dN (i.natAbs.log2< 1920) (jH i)
def jI (x:Tx):Res Tx:=dN (x.length≤cap) x
end Mi
namespace L2
open PySem PySem.Spec PyProof.Rows
def XV (x:Addr):Option Addr→Value
 | none=>.ref x
 | some d=>.int (Int.ofNat d) 0
theorem lQ {f:Array Value→Array Value} {o:Obj} :(Obj.mapFields f o).dict=o.dict:=by
 unfold Obj.mapFields
 split <;> rfl
structure Fly (h:Heap) (H:Hp) (lim:Heap) (e C:Addr) (od:Option Addr):Prop where
 he:H e=none
 hl:lim.get? e=none
 ob:∃(oe:Obj) (vs:Array Value),h.get? e=some oe∧(oe.cls=.ref C∧oe.dict=od)∧oe.data=.fields vs∧vs[2]? =some .none∧
  (vs[1]? =some .none∨∃(T:Addr) (oT:Obj) (ts:Array Value),vs[1]? =some (.ref T)∧T≠e∧H T=none∧lim.get? T=none∧h.get? T=some oT∧oT.data=.fields ts∧ts[3]? =some .none)
structure Gone (fs:List Addr) (H:Hp) (lim:Heap) (e:Addr) (h h':Heap):Prop where
 keep:∀b o,h.get? b=some o→b∉fs→b≠e→(H b≠none∨lim.get? b≠none)→h'.get? b=some o
 slot:∀b o,h.get? b=some o→b∈fs→∃sl,h'.get? b=some {o with slots:=sl}
 there:∀b o,h.get? b=some o→∃o',h'.get? b=some o'
theorem Gone.trans {fs:List Addr} {H:Hp} {lim:Heap} {e:Addr} {h h1 h2:Heap} (a:Gone fs H lim e h h1) (b:Gone fs H lim e h1 h2):Gone fs H lim e h h2:=
 ⟨fun c o q n m k=>b.keep c o (a.keep c o q n m k) n m k,fun c o q n=>by
  obtain⟨sl,z⟩:=a.slot c o q n
  obtain⟨sl',z'⟩:=b.slot c _ z n
  exact⟨sl',z'⟩,fun c o q=>by
  obtain⟨o',z⟩:=a.there c o q
  exact b.there c o' z⟩
section
variable {M:Model} {A:Around} {E:Value→Shared→Prop} {s:Shared} {base lim:Heap} {H:Hp} {env:Env} {outer:List Env} {L e C:Addr} {od:Option Addr}
abbrev t9 (head:Value) (L:Addr) (pl:List Value):Obj:={cls:=.type "traceback",dict:=none,data:=.fields ([head,.ref L,.none,rawInt L,.none]++(if pl.isEmpty then List.replicate 6 Value.none else pl)).toArray}
theorem kS {head:Value} {hn:Bool} {oe:Obj} {vs:Array Value} {Q:Unit→Shared→Prop} (hfr:A.frames=some (env::outer)) (hfn:s.heap.FunFrames base (env::outer)) (hf:env.frame=some L)
  (he:s.heap.get? e=some oe) (hd:oe.data=.fields vs) (hc:oe.cls=.ref C∧oe.dict=od) (h2:vs[2]? =some .none) (hH:H e=none) (hlm:lim.get? e=none)
  (hfree:∀b,s.heap.objs.size≤b→H b=none∧lim.get? b=none)
  (h:∀h',Gone (frs (env::outer)) H lim e s.heap h'→Fly h' H lim e C od→Q () {s with heap:=h'}):
  wpAny M A (do let a ←frameOf env;let pl ←entryPlaceOf L hn;let b ←EntryCells.newEntry head a .none (rawInt L) .none pl;setField (.ref e) 1 b) (fun _ s'=>wpAny M A (setFlight (.ref e) none) Q E s') E s:=by
 have hsz:1< vs.size:=by have:=(Array.getElem?_eq_some_iff.mp h2).1;omega
 have nfr:e∉(env::outer).filterMap (·.frame):=fun hm=>by
  obtain⟨_,o,ho,hnf⟩:=hfn.mem hm
  rw[he]at ho
  exact hnf vs (by rw[←Option.some.inj ho];exact hd)
 refine wpAny_bind (wpAny_frameOf_fun hfr hfn hf fun h1 hs1=>?_)
 refine wpAny_bind (wpAny_entryPlaceOf fun pl hpl=>?_)
 unfold EntryCells.newEntry newFields
 refine wpAny_bind (wpAny_newObj_type ?_ (hpl.sizeOk5 _ _ _ _ _))
 have g1:h1.get? e=some oe:=(hs1.2.1 e nfr).trans he
 have g2:(h1.push (t9 head L pl)).get? e=some oe:=Heap.get?_push_of_some _ g1
 refine wpAny_setField g2 hd hsz ?_
 have ne:h1.objs.size≠e:=Nat.ne_of_gt (Heap.lt_size g1)
 have d3:=Obj.data_mapFields hd (·.setIfInBounds 1 (Value.ref h1.objs.size))
 have g3:=Heap.get?_update_self (Obj.mapFields (·.setIfInBounds 1 (Value.ref h1.objs.size))) g2 (Obj.isFreed_of_fields d3)
 have gT:=(Heap.get?_update_other (h1.push (t9 head L pl)) (Obj.mapFields (·.setIfInBounds 1 (Value.ref h1.objs.size))) (Ne.symm ne)).trans (Heap.get?_push_size h1 rfl)
 unfold setFlight
 refine wpAny_bind (wpAny_field g3 d3 (x:=.ref h1.objs.size) (by simp[hsz]) ?_)
 rw[if_pos (show(Value.ref h1.objs.size != Value.none)=true from by simp)]
 refine wpAny_setField gT rfl (by simp only[List.size_toArray,List.length_append,List.length_cons,List.length_nil] <;> omega) ?_
 have keep1:∀b o,b≠e→h1.get? b=some o→(((h1.push (t9 head L pl)).update e (Obj.mapFields (·.setIfInBounds 1 (Value.ref h1.objs.size)))).update h1.objs.size (Obj.mapFields (·.setIfInBounds 3 ((none:Option Addr).elim Value.none fun f=>rawInt f)))).get? b=some o:=fun b o hb hq=>by
  rw[Heap.get?_update_other _ _ (Nat.ne_of_gt (Heap.lt_size hq)),Heap.get?_update_other _ _ (Ne.symm hb)]
  exact Heap.get?_push_of_some _ hq
 have ge:(((h1.push (t9 head L pl)).update e (Obj.mapFields (·.setIfInBounds 1 (Value.ref h1.objs.size)))).update h1.objs.size (Obj.mapFields (·.setIfInBounds 3 ((none:Option Addr).elim Value.none fun f=>rawInt f)))).get? e=some (Obj.mapFields (·.setIfInBounds 1 (Value.ref h1.objs.size)) oe):=by
  rw[Heap.get?_update_other _ _ ne];exact g3
 have big:s.heap.objs.size≤h1.objs.size:=hs1.1▸Nat.le_refl _
 refine h _ ⟨fun b o q n m _=>keep1 b o m ((hs1.2.1 b n).trans q),fun b o q n=>?_,fun b o q=>?_⟩ ⟨hH,hlm,_,_,ge,⟨by rw[Obj.cls_mapFields];exact hc.1,by rw[lQ];exact hc.2⟩,d3,by rw[Array.getElem?_setIfInBounds_ne (by decide)];exact h2,.inr ⟨h1.objs.size,_,_,by simp[hsz],ne,(hfree _ big).1,(hfree _ big).2,Heap.get?_update_self _ gT (Obj.isFreed_of_fields (Obj.data_mapFields rfl _)),Obj.data_mapFields rfl _,?_⟩⟩
 ·obtain⟨sl,z⟩:=hs1.2.2 b o q
  exact⟨sl,keep1 b _ (fun y=>nfr (y▸n)) z⟩
 ·by_cases y:b=e
  ·rw[y];exact⟨_,ge⟩
  ·obtain⟨sl,z⟩:=hs1.2.2 b o q
   exact⟨_,keep1 b _ y z⟩
 ·first | (simp;done) | (rcases hpl with rfl | ⟨_,_,_,_,_,_,_,rfl⟩ <;> simp)
theorem kT {Q:Unit→Shared→Prop} (hfr:A.frames=some (env::outer)) (hfn:s.heap.FunFrames base (env::outer)) (hf:env.frame=some L) (x:Fly s.heap H lim e C od)
  (hfree:∀b,s.heap.objs.size≤b→H b=none∧lim.get? b=none)
  (h:∀h',Gone (frs (env::outer)) H lim e s.heap h'→Fly h' H lim e C od→Q () {s with heap:=h'}):wpAny M A (noteFrame (.ref e) env) (fun _ s'=>wpAny M A (setFlight (.ref e) none) Q E s') E s:=by
 obtain⟨hH,hlm,oe,vs,he,hc,hd,h2,h1⟩:=x
 unfold noteFrame
 simp only[hf]
 rcases h1 with h1 | ⟨T,oT,ts,h1,hTe,hT0,hTl,hT,hdT,h3⟩
 ·refine wpAny_bind (wpAny_field he hd h1 ?_)
  rw[if_neg (by decide)]
  exact kS hfr hfn hf he hd hc h2 hH hlm hfree h
 ·refine wpAny_bind (wpAny_field he hd h1 ?_)
  rw[if_pos (show(Value.ref T != Value.none)=true from by simp)]
  refine wpAny_bind (wpAny_field hT hdT h3 ?_)
  rw[if_neg (show ¬((Value.none == rawInt L)=true)from by simp[rawInt])]
  refine wpAny_bind (wpAny_setField hT hdT (Array.getElem?_eq_some_iff.mp h3).1 ?_)
  have other:∀b,b≠T→(s.heap.update T (Obj.mapFields (·.setIfInBounds 3 Value.none))).get? b=s.heap.get? b:=fun b hb=>Heap.get?_update_other _ _ (Ne.symm hb)
  have nT:∀b o,s.heap.get? b=some o→(∀vs,o.data≠.fields vs)→b≠T:=fun b o q hn z=>by
   rw[z,hT]at q
   exact hn ts (by rw[←Option.some.inj q];exact hdT)
  have g0:Gone (frs (env::outer)) H lim e s.heap (s.heap.update T (Obj.mapFields (·.setIfInBounds 3 Value.none))):=⟨fun b o q n m k=>(other b fun z=>by
    rw[z,hT0,hTl]at k
    rcases k with k | k <;> exact k rfl).trans q,fun b o q n=>⟨o.slots,(other b (by
    obtain⟨_,o',ho,hnf⟩:=hfn.mem n
    exact nT b o' ho hnf)).trans q⟩,fun b o q=>by
    by_cases z:b=T
    ·rw[z];exact⟨_,Heap.get?_update_self _ hT (Obj.isFreed_of_fields (Obj.data_mapFields hdT _))⟩
    ·exact⟨o,(other b z).trans q⟩⟩
  have sz:(s.heap.update T (Obj.mapFields (·.setIfInBounds 3 Value.none))).objs.size=s.heap.objs.size:=Heap.size_update ..
  refine kS (s:={s with heap:=s.heap.update T (Obj.mapFields (·.setIfInBounds 3 Value.none))}) hfr (hfn.of_keeps fun b o q hn=>⟨o,(other b (nT b o q hn)).trans q,rfl⟩) hf ((other e (Ne.symm hTe)).trans he) hd hc h2 hH hlm (fun b hb=>hfree b (by rw[←sz];exact hb)) fun h' g1 f1=>h h' (g0.trans g1) f1
theorem lR {Q:Unit→Shared→Prop} (hfr:A.frames=some (env::outer)) (hfn:s.heap.FunFrames base (env::outer)) (hf:env.frame=some L) (x:Fly s.heap H lim e C od)
  (hfree:∀b,s.heap.objs.size≤b→H b=none∧lim.get? b=none)
  (h:∀h',Gone (frs (env::outer)) H lim e s.heap h'→Fly h' H lim e C od→Q () {s with heap:=h'}):wpAny M A (leaving env (.ref e)) Q E s:=by
 unfold leaving
 exact wpAny_bind (kT hfr hfn hf x hfree h)
theorem nP {Q:Unit→Shared→Prop} (hfn:s.heap.FunFrames base (env::outer)) (x:Fly s.heap H lim e C od)
  (h:∀h',Gone (frs (env::outer)) H lim e s.heap h'→Fly h' H lim e C od→Q () {s with heap:=h'}):wpAny M A (setFlight (.ref e) none) Q E s:=by
 obtain⟨hH,hlm,oe,vs,he,hc,hd,h2,h1⟩:=x
 unfold setFlight
 rcases h1 with h1 | ⟨T,oT,ts,h1,hTe,hT0,hTl,hT,hdT,h3⟩
 ·refine wpAny_bind (wpAny_field he hd h1 ?_)
  rw[if_neg (by decide)]
  exact wpAny_pure (h s.heap ⟨fun b o q _ _ _=>q,fun b o q _=>⟨o.slots,q⟩,fun b o q=>⟨o,q⟩⟩ ⟨hH,hlm,oe,vs,he,hc,hd,h2,.inl h1⟩)
 ·refine wpAny_bind (wpAny_field he hd h1 ?_)
  rw[if_pos (show(Value.ref T != Value.none)=true from by simp)]
  refine wpAny_setField hT hdT (Array.getElem?_eq_some_iff.mp h3).1 ?_
  have other:∀b,b≠T→(s.heap.update T (Obj.mapFields (·.setIfInBounds 3 ((none:Option Addr).elim Value.none fun f=>rawInt f)))).get? b=s.heap.get? b:=fun b hb=>Heap.get?_update_other _ _ (Ne.symm hb)
  have gT:=Heap.get?_update_self (Obj.mapFields (·.setIfInBounds 3 ((none:Option Addr).elim Value.none fun f=>rawInt f))) hT (Obj.isFreed_of_fields (Obj.data_mapFields hdT _))
  refine h _ ⟨fun b o q n m k=>(other b fun z=>by
    rw[z,hT0,hTl]at k
    rcases k with k | k <;> exact k rfl).trans q,fun b o q n=>⟨o.slots,(other b (by
    obtain⟨_,o',ho,hnf⟩:=hfn.mem n
    intro z
    rw[z,hT]at ho
    exact hnf ts (by rw[←Option.some.inj ho];exact hdT))).trans q⟩,fun b o q=>by
    by_cases z:b=T
    ·rw[z];exact⟨_,gT⟩
    ·exact⟨o,(other b z).trans q⟩⟩ ⟨hH,hlm,oe,vs,(other e (Ne.symm hTe)).trans he,hc,hd,h2,.inr ⟨T,_,_,h1,hTe,hT0,hTl,gT,Obj.data_mapFields hdT _,?_⟩⟩
  have:=(Array.getElem?_eq_some_iff.mp h3).1
  simp[this]
end
end L2
namespace L2
open PySem PySem.Spec PyProof.Rows
def i6 (P:Program) (w:World):CXT:=fun outer H s E e s'=>∃(x C:Addr) (H':Hp) (od:Option Addr),e=.ref x∧Fly s'.heap H' s.heap x C od∧s'.os=s.os∧AllBare s'.gens∧Un (frs outer) [] H H' s.heap s'.heap∧HOk P w H' s'.heap∧E (XV x od) (some C) H'
theorem Fly.lim {h l1 l2:Heap} {H:Hp} {e C:Addr} {od:Option Addr} (f:Fly h H l1 e C od) (k:∀b,l1.get? b=none→l2.get? b=none):Fly h H l2 e C od:=by
 obtain⟨a,b,oe,vs,h1,h2,h3,h4,h5⟩:=f
 refine⟨a,k _ b,oe,vs,h1,h2,h3,h4,h5.imp id fun⟨T,oT,ts,q1,q2,q3,q4,q5⟩=>⟨T,oT,ts,q1,q2,q3,k _ q4,q5⟩⟩
section
variable {P:Program} {w:World} {K:PySem.W.Frag} {mg:Str→Option Value} {base:Heap} {N:List Str} {qual:Str} {scope:Scope} {f:Addr} {cd:Value} {A:Around} {outer:List Env} {s0 s:Shared} {H0 H:Hp} {E:XK} {pins:List (Addr×Obj)} {σ:St} {e C:Addr} {od:Option Addr}
abbrev kU (P:Program) (w:World) (K:PySem.W.Frag) (mg:Str→Option Value) (base:Heap) (N:List Str) (qual:Str) (scope:Scope) (f:Addr) (cd:Value) (A:Around) (outer:List Env) (s0:Shared) (H0:Hp) (E:XK):Cx:=gf (i6 P w) P w K mg base N qual scope f cd A outer s0 H0 E
theorem qH (I:Inv (kU P w K mg base N qual scope f cd A outer s0 H0 E) pins σ H s) (x:Fly s.heap H s0.heap e C od) (q:E (XV e od) (some C) H):(kU P w K mg base N qual scope f cd A outer s0 H0 E).xe (.ref e) s:=by
 have hsz:s0.heap.objs.size≤s.heap.objs.size:=I.sz
 have hfree:∀b,s.heap.objs.size≤b→H b=none∧s0.heap.get? b=none:=fun b hb=>⟨I.hok.fresh hb,Heap.get?_none_of_le (Nat.le_trans hsz hb)⟩
 refine lR (base:=base) (env:=envOfC qual scope s0.heap.objs.size f cd) (outer:=outer) (L:=s0.heap.objs.size) (H:=H) (lim:=s0.heap) I.ok.frames I.stack rfl x hfree fun h' g fl=>?_
 have stk:∀b,b∈frs (envOfC qual scope s0.heap.objs.size f cd::outer)→H b=none:=I.stkFree
 have low:∀b o,s0.heap.get? b=some o→b∉frs outer→b∉frs (envOfC qual scope s0.heap.objs.size f cd::outer):=fun b o q n m=>by
  have:b=s0.heap.objs.size∨b∈frs outer:=List.mem_cons.mp (show b∈s0.heap.objs.size::frs outer from m)
  rcases this with z | z
  ·have:=Heap.lt_size q;rw[z]at this;exact Nat.lt_irrefl _ this
  ·exact n z
 have sub:∀b,b∈frs outer→b∈frs (envOfC qual scope s0.heap.objs.size f cd::outer):=fun b m=>by
  show b∈s0.heap.objs.size::frs outer
  exact List.mem_cons_of_mem _ m
 have ne0:∀b o,s0.heap.get? b=some o→b≠e:=fun b o q z=>by rw[z,x.hl]at q;cases q
 have U:=I.base
 refine⟨e,C,H,od,rfl,fl,I.os,I.bare,⟨fun b o q1 n hb hx=>g.keep b o (U.keep b o q1 n hb hx) (low b o q1 hb) (ne0 b o q1) (.inr (by rw[q1];exact fun z=>nomatch z)),fun b o q1 n hb hx=>?_,U.free,fun b o q1 hx=>?_,U.tups,U.frzs,U.tbls⟩,fun b u hb=>?_,q⟩
 ·obtain⟨sl,z⟩:=U.slot b o q1 n hb hx
  obtain⟨sl',z'⟩:=g.slot b _ z (sub b hb)
  exact⟨sl',z'⟩
 ·obtain⟨o',z⟩:=U.there b o q1 hx
  exact g.there b o' z
 ·refine(I.hok b u hb).stay (fun c v hc q1=>?_) (fun _ q1=>q1) fun _ _ q1=>q1
  have hn:H c≠none:=by
   rcases hc with z | z
   ·rw[z,hb];exact fun z=>nomatch z
   ·rw[z];exact fun z=>nomatch z
  exact g.keep c v q1 (fun m=>hn (stk c m)) (fun z=>hn (by rw[z];exact x.he)) (.inl hn)
theorem kW:dk (i6 P w) (kU P w K mg base N qual scope f cd A outer s0 H0 E) E:=fun pins σ H s e s' I ⟨x,C,H',od,he,fl,os,bare,un,hok,q⟩=>by
 subst he
 have I':=I.call' os un hok bare fun b z=>absurd z (by simp)
 refine qH I' (fl.lim fun b hb=>?_) q
 cases z:s0.heap.get? b with
 | none=>rfl
 | some o =>
  obtain⟨o',z'⟩:=I.base.there b o z (by simp[gf])
  rw[hb]at z';cases z'
end
end L2
namespace L2
open PySem PySem.Spec PyProof.Rows
theorem ObjOk.ex {P:Program} {w:World} {H:Hp} {h:Heap} {a:Addr} :∀{o:HO},ObjOk P w H h a o→∃ob,h.get? a=some ob:=by
 intro o
 induction o with
 | lst xs=>intro x;obtain⟨_,its,n,r,e⟩:=x;exact⟨_,e⟩
 | tup xs=>intro x;obtain⟨_,its,r,ob,e,c⟩:=x;exact⟨_,e⟩
 | dK kvs=>intro x;obtain⟨_,_,vs,r,ob,es,ep,e,c⟩:=x;exact⟨_,e⟩
 | dT kvs=>intro x;obtain⟨_,_,xs,r,ob,es,ep,e,c⟩:=x;exact⟨_,e⟩
 | set S n=>intro x;obtain⟨o,e,_⟩:=Heap.SetOf.objOf x;exact⟨_,e⟩
 | ins C dx fs=>intro x;obtain⟨_,_,_,e,_⟩:=x;exact⟨_,e⟩
 | own y=>intro x;exact x
 | xd fs=>intro x;obtain⟨mA,hn,_⟩:=x;obtain⟨o,es,ep,e,_⟩:=hn;exact⟨_,e⟩
 | rng lo hi=>intro x;obtain⟨t,u,v,e⟩:=x;exact⟨_,e⟩
 | frz o u=>intro x;exact⟨_,x.1⟩
 | tbl ps=>intro x;exact⟨_,x⟩
 | met f y=>intro x;exact⟨_,x⟩
 | ext φ=>intro x;exact x.2.1
def Ecl (h:Heap) (C:Addr):Prop:=∃nm q N bs bm hdct sn sub ab col dd k0 k1 k2 k3 k5 newId mN B initId bmB,h.get? C=some (excClassObj nm q C N bs bm hdct sn sub ab col dd k0 k1 k2 k3 k5 newId)∧h.Ns N mN∧mN "__init__" =none∧OwnTail h bmB bm∧ExcBaseFacts B newId initId bmB
def nQ (E:XK) (C:Addr) (t:TA):TS:=fun _ σ H=>t σ H fun vs H1=>vs.length≤sizeLine∧∀x,H1 x=none→E (.ref x) (some C) H1
section
variable {P:Program} {w:World} {K:PySem.W.Frag} {mg:Str→Option Value} {base:Heap} {N:List Str} {qual:Str} {scope:Scope} {f:Addr} {cd:Value} {A:Around} {outer:List Env} {s0:Shared} {H0:Hp} {E:XK} {C:Addr}
theorem f9 {x:Str} {np cpos pos:Pos} {e:Expr} {es:List Expr} {t:TA} (cl:Ecl base C) (hg:Gl (kU P w K mg base N qual scope f cd A outer s0 H0 E) x) (hm:mg x=some (.ref C)) (ha:PA (kU P w K mg base N qual scope f cd A outer s0 H0 E) (e::es) t)
  (hdb:(x == ("__debug__" :Str))=false:=by decide) (he:starEach (e::es) (kU P w K mg base N qual scope f cd A outer s0 H0 E).env=(false,eval e (kU P w K mg base N qual scope f cd A outer s0 H0 E).env)::starEach es (kU P w K mg base N qual scope f cd A outer s0 H0 E).env:=by rfl) (hpl:(backTo cpos (starEach es (kU P w K mg base N qual scope f cd A outer s0 H0 E).env)).any (·.1)=false:=by rfl):
  PS (kU P w K mg base N qual scope f cd A outer s0 H0 E) (.Raise (some (.Call (.Name x np) (e::es) [] cpos)) none pos) (nQ E C t):=by
 intro pins s σ H D I h
 obtain⟨nm,q,Nn,bs,bm,hdct,sn,sub,ab,col,dd,k0,k1,k2,k3,k5,newId,mN,B,initId,bmB,hC,hN,hni,T,F⟩:=cl
 refine wpAny_Raise_call_subT (C:=C) (nm:=nm) (q:=q) (N:=Nn) (bs:=bs) (bm:=bm) (hdct:=hdct) (sn:=sn) (sub:=sub) (ab:=ab) (col:=col) (dd:=dd) (k0:=k0) (k1:=k1) (k2:=k2) (k3:=k3) (k5:=k5) F (mN:=mN) (T.hasType F.hasBase) (I.ok.hd rfl) (by rw[he];show(false || (backTo cpos (starEach es _)).any (·.1))=false;rw[hpl];rfl) hni (ed I hg hm ⟨rfl,?_⟩ hdb)
 rw[he]
 refine Calls.evalArgs_plain ?_
 show wpAny _ _ (spliced (backTo cpos ((false,eval e (kU P w K mg base N qual scope f cd A outer s0 H0 E).env)::starEach es (kU P w K mg base N qual scope f cd A outer s0 H0 E).env))) _ _ _
 rw[←he]
 refine bv (ha cpos pins s σ H _ I h) fun us s1 ⟨vs,H1,I1,r,hz,q1⟩=>⟨rfl,by rw[←r.length];exact hz,I1.bk _ _ hC,hN.keeps I1.bk,T.keeps I1.bk,fun h' y hy=>?_⟩
 obtain⟨t0,h1,h2,h3⟩:=hy.there
 have I2:Inv (kU P w K mg base N qual scope f cd A outer s0 H0 E) pins σ H1 {s1 with heap:=h'} :=I1.kept (t':=s1.toks) hy.keeps
 have n1:H1 y=none:=by
  cases z:H1 y with
  | none=>rfl
  | some o=>obtain⟨ob,hb⟩:=(I1.hok y o z).ex;rw[hy.new]at hb;cases hb
 have n2:s0.heap.get? y=none:=by
  cases z:s0.heap.get? y with
  | none=>rfl
  | some o=>obtain⟨ob,hb⟩:=I1.base.there y o z (by simp[gf]);rw[hy.new]at hb;cases hb
 exact qH (od:=none) I2 ⟨n1,n2,_,_,h1,⟨rfl,rfl⟩,rfl,rfl,.inl rfl⟩ (q1 y n1)
end
end L2
namespace L2
open PySem PySem.Spec PyProof.Rows
def Xcl (h:Heap) (C:Addr) (bm:List Value):Prop:=∃nm q N bs hdct sn sub ab col dd k0 k1 k2 k3 k5 newId,h.get? C=some (excClassObj nm q C N bs bm hdct sn sub ab col dd k0 k1 k2 k3 k5 newId)∧bm.contains (.type "BaseException")=true
theorem Xcl.keeps {h h':Heap} {C:Addr} {bm:List Value} (x:Xcl h C bm) (k:∀b o,h.get? b=some o→h'.get? b=some o):Xcl h' C bm:=by
 obtain⟨nm,q,N,bs,hdct,sn,sub,ab,col,dd,k0,k1,k2,k3,k5,newId,e,hb⟩:=x
 exact⟨nm,q,N,bs,hdct,sn,sub,ab,col,dd,k0,k1,k2,k3,k5,newId,k _ _ e,hb⟩
section
variable {M:Model} {A:Around} {E:Value→Shared→Prop}
theorem gK {s:Shared} {e C D:Addr} {bmC bmD:List Value} {oe:Obj} {Q:Bool→Shared→Prop} (hC:Xcl s.heap C bmC) (hD:Xcl s.heap D bmD) (he:s.heap.get? e=some oe) (hcls:oe.cls=.ref C) (hq:Q ((Value.ref C::bmC).contains (.ref D)) s):wpAny M A (excMatches (.ref e) (.ref D)) Q E s:=by
 obtain⟨h,g,d,t,os⟩:=s
 obtain⟨nm,q,N,bs,hdct,sn,sub,ab,col,dd,k0,k1,k2,k3,k5,newId,hC,hbase⟩:=hC
 obtain⟨nm',q',N',bs',hdct',sn',sub',ab',col',dd',k0',k1',k2',k3',k5',newId',hD,hbase'⟩:=hD
 have hcB:(Value.ref D::bmD).contains (.type "BaseException")=true:=by rw[List.contains_cons,hbase',Bool.or_true]
 have f:=tc_notTuple
 generalize hb:(Value.ref C::bmC).contains (.ref D)=b at hq
 unfold excMatches
 repeat (first | (with_reducible refine wpAny_loadPart_at he ?_;rw[hcls]) | with_reducible refine wpAny_loadPart_at hD ?_ | (with_reducible refine wpAny_isSubtype_exc hD ?_;rw[hcB]) | (with_reducible refine wpAny_isSubtype_exc hC ?_;rw[hb]) | wp_step)
 first | exact hq | (cases b <;> (wp_walk;exact hq))
end
end L2
namespace L2
open PySem PySem.Spec PyProof.Rows
structure Big (X:Cx) (pins:List (Addr×Obj)) (lim:Heap):Prop where
 old:∀b o,X.s₀.heap.get? b=some o→b∉X.ex→lim.get? b≠none
 loc:lim.get? X.env.locals≠none
 cell:∀x c,X.env.cells.lookup x=some c→lim.get? c≠none
 pin:∀p∈X.pn++pins,lim.get? p.1≠none
def Own (X:Cx):Prop:=X.stack=X.env::X.outer∧X.env.frame=some X.env.locals
section
variable {X:Cx} {pins:List (Addr×Obj)} {σ:St} {H:Hp} {s:Shared} {lim h':Heap} {e C:Addr} {od:Option Addr} {oe:Obj}
theorem Own.frs (o:Own X):frs X.stack=X.env.locals::X.fs:=by
 rw[o.1];unfold L2.frs;rw[List.filterMap_cons,o.2];rfl
theorem Inv.bigX (I:Inv X pins σ H s):Big X pins s.heap:=by
 refine⟨fun b o q n=>?_,?_,fun x c q=>?_,fun p hp=>?_⟩
 ·obtain⟨o',z⟩:=I.base.there b o q n
  rw[z];exact fun z=>nomatch z
 ·obtain⟨m,⟨o,es,ep,ho,_⟩,_⟩:=I.loc
  rw[ho];exact fun z=>nomatch z
 ·obtain⟨v,o,ho,_⟩:=I.cell x c q
  rw[ho];exact fun z=>nomatch z
 ·rw[(I.pin p hp).1];exact fun z=>nomatch z
theorem Inv.gone (I:Inv X pins σ H s) (w:Own X) (x:Fly s.heap H lim e C od) (B:Big X pins lim) (g:Gone (frs X.stack) H lim e s.heap h'):Inv X pins σ H {s with heap:=h'} :=by
 have hf:=w.frs
 have ne:∀b,lim.get? b≠none→b≠e:=fun b hb z=>hb (by rw[z];exact x.hl)
 have low:∀b o,X.s₀.heap.get? b=some o→b∉X.fs→b∉frs X.stack:=fun b o q n m=>by
  rw[hf]at m
  rcases List.mem_cons.mp m with z | z
  ·have:=Heap.lt_size q;rw[z]at this;exact absurd (Nat.lt_of_lt_of_le this I.ok.above) (Nat.lt_irrefl _)
  ·exact n z
 have cellK:∀y c,X.env.cells.lookup y=some c→∀v,s.heap.IsCell c v→h'.IsCell c v:=fun y c q v ⟨o,ho,hd⟩=>by
  by_cases m:c∈frs X.stack
  ·obtain⟨sl,z⟩:=g.slot c o ho m
   exact⟨_,z,hd⟩
  ·exact⟨o,g.keep c o ho m (ne c (B.cell y c q)) (.inr (B.cell y c q)),hd⟩
 refine⟨I.ok,I.os,I.bare,⟨fun b o q n hb hx=>?_,fun b o q n hb hx=>?_,I.base.free,fun b o q hx=>?_,I.base.tups,I.base.frzs,I.base.tbls⟩,?_,fun y c q=>?_,I.free,I.freeC,fun p hp=>?_,fun b u hb=>?_,I.len⟩
 ·exact g.keep b o (I.base.keep b o q n hb hx) (low b o q hb) (ne b (B.old b o q hx)) (.inr (B.old b o q hx))
 ·obtain⟨sl,z⟩:=I.base.slot b o q n hb hx
  obtain⟨sl',z'⟩:=g.slot b _ z (by rw[hf];exact List.mem_cons_of_mem _ hb)
  exact⟨sl',z'⟩
 ·obtain⟨o',z⟩:=I.base.there b o q hx
  exact g.there b o' z
 ·obtain⟨m,⟨o,es,ep,ho,hd,hk,hm⟩,hl⟩:=I.loc
  obtain⟨sl,z⟩:=g.slot _ o ho (by rw[hf];exact List.mem_cons_self ..)
  refine⟨m,⟨_,es,ep,z,hd,hk,hm⟩,fun i y v q1 q2 q3=>?_⟩
  obtain⟨u,r,l⟩:=hl i y v q1 q2 q3
  refine⟨u,r,?_⟩
  rcases l with l | ⟨k,c,q,z⟩
  ·exact .inl l
  ·exact .inr ⟨k,c,q,cellK y c q _ z⟩
 ·obtain⟨v,z⟩:=I.cell y c q
  exact⟨v,cellK y c q v z⟩
 ·obtain⟨q,n,nl,nf,d⟩:=I.pin p hp
  exact⟨g.keep p.1 p.2 q (fun m=>by
   rw[hf]at m
   rcases List.mem_cons.mp m with z | z
   ·exact nl z
   ·exact nf z) (ne _ (B.pin p hp)) (.inr (B.pin p hp)),n,nl,nf,d⟩
 ·refine(I.hok b u hb).stay (fun c v hc q1=>?_) (fun _ q1=>q1) fun _ _ q1=>q1
  have hn:H c≠none:=by
   rcases hc with z | z
   ·rw[z,hb];exact fun z=>nomatch z
   ·rw[z];exact fun z=>nomatch z
  exact g.keep c v q1 (fun m=>hn (I.stkFree c m)) (fun z=>hn (by rw[z];exact x.he)) (.inl hn)
abbrev Cx.held (X:Cx) (e:Addr) (oe:Obj):Cx:={X with A:=X.A.mark (some (.ref e)),calm:=false,pn:=(e,oe)::X.pn,xe:=fun _ _=>False}
theorem Inv.held (I:Inv X pins σ H s) (q:s.heap.get? e=some oe) (n:H e=none) (nl:e≠X.env.locals) (nf:e∉X.fs) (d:∀v,oe.data≠.cell v):Inv (X.held e oe) pins σ H s:=
 ⟨⟨I.ok.mod,I.ok.kind,I.ok.glob,I.ok.blt,I.ok.above,I.ok.inj,I.ok.has,I.ok.cab,fun z=>(nomatch z),I.ok.frames,I.ok.stk,I.ok.exf,I.ok.bs,I.ok.bsz,I.ok.noex,I.ok.exfs,I.ok.funs,I.ok.frf⟩,I.os,I.bare,I.base,I.loc,I.cell,I.free,I.freeC,fun p hp=>by
  rcases List.mem_cons.mp hp with z | z
  ·subst z;exact⟨q,n,nl,nf,d⟩
  ·exact I.pin p z,I.hok,I.len⟩
theorem Inv.unheld (ok:X.Ok) (I:Inv (X.held e oe) pins σ H s):Inv X pins σ H s:=⟨ok,I.os,I.bare,I.base,I.loc,I.cell,I.free,I.freeC,fun p hp=>I.pin p (List.mem_cons_of_mem _ hp),I.hok,I.len⟩
abbrev Cx.pinsX (X:Cx) (ps:List (Addr×Obj)):Cx:={X with pn:=X.pn++ps}
theorem Inv.pinnedX (I:Inv X pins σ H s):Inv (X.pinsX pins) [] σ H s:=⟨⟨I.ok.mod,I.ok.kind,I.ok.glob,I.ok.blt,I.ok.above,I.ok.inj,I.ok.has,I.ok.cab,I.ok.hd,I.ok.frames,I.ok.stk,I.ok.exf,I.ok.bs,I.ok.bsz,I.ok.noex,I.ok.exfs,I.ok.funs,I.ok.frf⟩,I.os,I.bare,I.base,I.loc,I.cell,I.free,I.freeC,fun p hp=>I.pin p (by simpa using hp),I.hok,I.len⟩
theorem Inv.unpinnedX {pins':List (Addr×Obj)} (ok:X.Ok) (I:Inv (X.pinsX pins) pins' σ H s):Inv X pins σ H s:=⟨ok,I.os,I.bare,I.base,I.loc,I.cell,I.free,I.freeC,fun p hp=>I.pin p (List.mem_append_left _ hp),I.hok,I.len⟩
def nR (X:Cx) (E:XK) (v:Value) (s:Shared):Prop:=∃(pins:List (Addr×Obj)) (σ:St) (H:Hp) (x C:Addr) (lim:Heap) (od:Option Addr),v=.ref x∧Inv X pins σ H s∧Fly s.heap H lim x C od∧Big X pins lim∧(∀b,s.heap.objs.size≤b→lim.get? b=none)∧E (XV x od) (some C) H
theorem qI {E:XK} :dk (i6 X.prog X.w) (X.wish (nR X E)) E:=fun pins σ H s v s' I ⟨x,C,H',od,hv,fl,os,bare,un,hok,q⟩=>by
 subst hv
 have I0:Inv X pins σ H s:=I.unwish
 have I':Inv X pins σ H' s':=I0.call' os un hok bare fun b z=>absurd z (by simp)
 refine⟨pins,σ,H',x,C,s.heap,od,rfl,I',fl,I0.bigX,fun b hb=>?_,q⟩
 cases z:s.heap.get? b with
 | none=>rfl
 | some o =>
  obtain⟨o',z'⟩:=un.there b o z (by simp)
  exact absurd (Nat.lt_of_lt_of_le (Heap.lt_size z') hb) (Nat.lt_irrefl _)
end
end L2
namespace L2
open PySem PySem.Spec PyProof.Rows
section
variable {X:Cx} {pins:List (Addr×Obj)} {σ:St} {H:Hp} {s:Shared} {lim h':Heap} {e C:Addr} {oe:Obj} {M:Model} {A:Around} {E:Value→Shared→Prop}
theorem fT {i:Nat} {x:Str} {pos:Pos} {Q:Unit→Shared→Prop} (I:Inv X pins σ H s) (hN:X.N.Nodup) (hi:X.N[i]? =some x) (hk:X.env.scope.names.lookup x=some .local)
  (h:∀s',Inv X pins (σ.set i none) H s'→Q () s'):wpAny M A (do bindName X.env x .none;unbindBehindTheSuite X.env x pos) Q E s:=by
 obtain⟨m,hn,hl⟩:=id I.loc
 have hcls:(X.env.scope.kind == .class || (X.env.scope.kind == .module && X.env.locals != X.env.globals))=false:=by rw[I.ok.kind];rfl
 have hiσ:i< σ.length:=by rw[I.len];exact(List.getElem?_eq_some_iff.mp hi).1
 have cne:=I.cne
 obtain⟨oL,_,_,hoL,_⟩:=id hn
 refine wpAny_nameGoes_keeps hk hn hcls fun h' v hn' hs=>?_
 have tracked:HOk X.prog X.w H h':=fun b ob q=>by
  refine(I.hok b ob q).stay (fun c w' hc q'=>(hs.2 c ?_).trans q') (fun _ q=>q) fun _ _ q=>q
  rintro rfl
  rcases hc with rfl | hc
  ·rw[I.free]at q;cases q
  ·rw[I.free]at hc;cases hc
 refine h _ ⟨I.ok,I.os,I.bare,⟨fun b o q n hb hx=>?_,fun b o q n hb hx=>?_,I.base.free,fun b o q hx=>?_,I.base.tups,I.base.frzs,I.base.tbls⟩,⟨_,hn',fun j y v' e1 e2 e3=>?_⟩,fun y c q=>?_,I.free,I.freeC,fun p hp=>?_,tracked,by simpa using I.len⟩
 ·exact(hs.2 b (Nat.ne_of_lt (Nat.lt_of_lt_of_le (Heap.lt_size q) I.ok.above))).trans (I.base.keep b o q n hb hx)
 ·obtain⟨sl,q1⟩:=I.base.slot b o q n hb hx
  exact⟨sl,(hs.2 b (Nat.ne_of_lt (Nat.lt_of_lt_of_le (Heap.lt_size q) I.ok.above))).trans q1⟩
 ·obtain⟨o',q1⟩:=I.base.there b o q hx
  exact⟨o',(hs.2 b (Nat.ne_of_lt (Nat.lt_of_lt_of_le (Heap.lt_size q) I.ok.above))).trans q1⟩
 ·by_cases hj:j=i
  ·subst hj
   rw[List.getElem?_set_self hiσ]at e2
   cases e2
  ·rw[List.getElem?_set_ne (Ne.symm hj)]at e2
   obtain⟨u',r',q⟩:=hl j y v' e1 e2 e3
   refine⟨u',r',?_⟩
   rcases q with⟨k,q⟩ | ⟨k,c,q,z⟩
   ·refine .inl ⟨k,?_⟩
    have:y≠x:=fun z=>hj (fW hN e1 (z▸hi))
    simp[this,q]
   ·exact .inr ⟨k,c,q,z.sameBut hs (cne y c q)⟩
 ·obtain⟨w',z⟩:=I.cell y c q
  exact⟨w',z.sameBut hs (cne y c q)⟩
 ·obtain⟨q,n,ne,nf,d⟩:=I.pin p hp
  exact⟨(hs.2 p.1 ne).trans q,n,ne,nf,d⟩
end
def Held (oe:Obj) (C:Addr) (od:Option Addr):Prop:=(oe.cls=.ref C∧oe.dict=od)∧∃vs:Array Value,oe.data=.fields vs∧vs[2]? =some .none
def sE (E:XK) (i:Nat) (tb:TS) (ts:Addr→Addr→Option Addr→Obj→TS):TS:=fun D σ H=>tb D σ H∧∀(x C:Addr) (od:Option Addr) (oe:Obj) (σ':St) (H':Hp),E (XV x od) (some C) H'→H' x=none→Held oe C od→σ'.length=σ.length→ts x C od oe {nx:=fun σ'' H''=>D.nx (σ''.set i none) H'',rt:=D.rt,bk:=fun σ'' H''=>D.bk (σ''.set i none) H'',ct:=fun σ'' H''=>D.ct (σ''.set i none) H''} (σ'.set i (some (.ref x))) H'
section
variable {X:Cx} {E:XK} {D:Addr} {bmD:List Value} {body suite:List Stmt} {b₀:Stmt} {xn n:Str} {i:Nat} {np pos pos':Pos} {tb:TS} {ts:Addr→Addr→Option Addr→Obj→TS}
theorem rz (w:Own X) (hb:∀ps,PSs ((X.pinsX ps).wish (nR (X.pinsX ps) E)) body tb) (hg:Gl X xn) (hm:X.mg xn=some (.ref D)) (hD:Xcl X.base D bmD)
  (hcl:∀v C H,E v (some C) H→∃bmC,Xcl X.base C bmC∧(Value.ref C::bmC).contains (.ref D)=true)
  (hN:X.N.Nodup) (hi:X.N[i]? =some n) (hk:X.env.scope.names.lookup n=some .local) (hsu:∀x C od oe,Held oe C od→PSs (X.held x oe) (b₀::suite) (ts x C od oe))
  (hdb:(xn == ("__debug__" :Str))=false:=by decide):
  PS X (.Try body [.ExceptHandler (some (.Name xn np)) (some n) (b₀::suite) pos] [] [] pos') (sE E i tb ts):=by
 intro pins s σ H Dn I h
 refine wpAny_Try_except (wpAny_mono (hb pins [] s σ H Dn (I.pinnedX.wish _) h.1) (fun f s1 q=>?_) fun v s1 q=>?_)
 ·cases f with
  | next =>
   obtain⟨σ1,H1,J,z⟩:=q
   exact wpAny_execs_nil ⟨σ1,H1,J.unwish.unpinnedX I.ok,z⟩
  | brk=>obtain⟨σ1,H1,J,z⟩:=q;exact⟨σ1,H1,J.unwish.unpinnedX I.ok,z⟩
  | cont=>obtain⟨σ1,H1,J,z⟩:=q;exact⟨σ1,H1,J.unwish.unpinnedX I.ok,z⟩
  | ret u=>obtain⟨v,σ1,H1,J,r,z⟩:=q;exact⟨v,σ1,H1,J.unwish.unpinnedX I.ok,r,z⟩
 ·obtain⟨pins1,σ1,H1,x,C,lim,od,rfl,J0,fl,B0,hsz,hE⟩:=q
  have J:Inv X pins σ1 H1 s1:=J0.unpinnedX I.ok
  have B:Big X pins lim:=⟨B0.old,B0.loc,B0.cell,fun p hp=>B0.pin p (List.mem_append_left _ hp)⟩
  have hfr:X.A.frames=some (X.env::X.outer):=w.1▸I.ok.frames
  refine kT (base:=X.base) (H:=H1) (lim:=lim) (C:=C) hfr (w.1▸J.stack) w.2 fl (fun b hb=>⟨J.hok.fresh hb,hsz b hb⟩) fun h2 g2 fl2=>?_
  have J2:Inv X pins σ1 H1 {s1 with heap:=h2} :=J.gone w fl B (by rw[w.1];exact g2)
  obtain⟨bmC,hC,hup⟩:=hcl _ _ _ hE
  have nl:x≠X.env.locals:=fun z=>B.loc (by rw[←z];exact fl.hl)
  have nf:x∉X.fs:=fun z=>by
   obtain⟨_,o,ho,_⟩:=I.ok.funs.mem z
   exact B.old x o ho (fun y=>I.ok.exfs x y z) fl.hl
  have held:∀{s':Shared},Inv X pins σ1 H1 s'→Fly s'.heap H1 lim x C od→∃oe,Held oe C od∧s'.heap.get? x=some oe∧Inv (X.held x oe) pins σ1 H1 s':=fun {s'} J' f'=>by
   obtain⟨_,_,oe,vs,h1,h2,h3,h4,_⟩:=id f'
   exact⟨oe,⟨h2,vs,h3,h4⟩,h1,J'.held h1 f'.he nl nf fun v z=>by rw[h3]at z;cases z⟩
  obtain⟨oe2,hh2,ge2,K2⟩:=held J2 fl2
  refine wpAny_handleBy_cons (codeAny_handlers_test ?_) (by intro q;cases q)
  refine ed K2 hg hm ?_ hdb
  refine gK (C:=C) (D:=D) (bmC:=bmC) (bmD:=bmD) (hC.keeps J2.bk) (hD.keeps J2.bk) ge2 hh2.1.1 ?_
  rw[hup]
  refine codeAny_handlers_suite_as ?_
  refine nP (base:=X.base) (env:=X.env) (outer:=X.outer) (H:=H1) (lim:=lim) (C:=C) (w.1▸J2.stack) fl2 fun h3 g3 fl3=>?_
  have J3:Inv X pins σ1 H1 {s1 with heap:=h3} :=J2.gone w fl2 B (by rw[w.1];exact g3)
  obtain⟨oe,hh,ge,K3⟩:=held J3 fl3
  refine fX (X:=X.held x oe) (i:=i) (v:=.ref x) K3 hN hi (.inl hk) rfl (fun s4 K4=>?_) (.inr hk)
  refine wpAny_mono (hsu x C od oe hh pins s4 _ H1 _ K4 (h.2 x C od oe σ1 H1 hE fl.he hh (by rw[J.len,I.len]))) (fun f s5 q=>?_) fun _ _ z=>z.elim
  show wpAny _ _ (do bindName X.env n .none;unbindBehindTheSuite X.env n pos) _ _ _
  cases f with
  | next=>obtain⟨σ5,H5,K5,z⟩:=q;exact fT (K5.unheld I.ok) hN hi hk fun s6 K6=>⟨_,H5,K6,z⟩
  | brk=>obtain⟨σ5,H5,K5,z⟩:=q;exact fT (K5.unheld I.ok) hN hi hk fun s6 K6=>⟨_,H5,K6,z⟩
  | cont=>obtain⟨σ5,H5,K5,z⟩:=q;exact fT (K5.unheld I.ok) hN hi hk fun s6 K6=>⟨_,H5,K6,z⟩
  | ret u=>obtain⟨v,σ5,H5,K5,r,z⟩:=q;exact fT (K5.unheld I.ok) hN hi hk fun s6 K6=>⟨v,_,H5,K6,r,z⟩
end
end L2
namespace L2
open PySem PySem.Spec PyProof.Rows
theorem gL:plainId "proto.unchain" =true:=by decide +kernel
theorem gM:entryFor table "proto.unchain" =some Builtin.«proto.unchain» :=entryFor_of_fast (by kernel_rfl)
def Hdl (A:Around) (h:Heap):Prop:=∃(x C:Addr) (od:Option Addr) (oe:Obj),A.handled=some (.ref x)∧h.get? x=some oe∧Held oe C od
theorem Hdl.keeps {A:Around} {h h':Heap} (x:Hdl A h) (k:∀b o C,h.get? b=some o→o.cls=.ref C→h'.get? b=some o):Hdl A h':=by
 obtain⟨a,C,od,oe,h1,h2,h3⟩:=x
 exact⟨a,C,od,oe,h1,k a oe C h2 h3.1.1,h3⟩
section
variable {prog:Program} {w:World} {A:Around} {E:Value→Shared→Prop} {s:Shared}
theorem gN {α:Type} {a:Addr} {oa:Obj} {vs:Array Value} {T:String} {Q:α→Shared→Prop} (hh:Hdl A s.heap) (ha:s.heap.get? a=some oa) (hc:oa.cls=.type T) (hd:oa.data=.fields vs) (h2:2< vs.size)
  (h:∀h',h'.get? a=some (Obj.mapFields (·.setIfInBounds 2 (A.handled.getD .none)) oa)→Heap.SameBut a s.heap h'→E (.ref a) {s with heap:=h'}):wpAny (model prog w) A (raiseNew (.ref a):Sem α) Q E s:=by
 obtain⟨x,C,od,oe,e1,e2,⟨e3,_⟩,us,e4,e5⟩:=hh
 have ne:x≠a:=fun z=>by
  rw[z,ha]at e2;rw[Option.some.inj e2,e3]at hc;cases hc
 unfold raiseNew
 refine wpAny_bind (wpAny_handled ?_)
 rw[e1]
 show wpAny _ _ (if(Value.ref x != Value.ref a)=true then _ else _) _ _ _
 rw[if_pos (bne_iff_ne.mpr fun z=>ne (Value.ref.inj z))]
 refine wpAny_bind (wpAny_holding (wpAny_runValue (codeAny_builtin gM ?_)))
 rw[Around.under_plainId gL _]
 unfold Builtin.«proto.unchain»
 refine wpAny_bind (wpAny_field e2 e4 e5 ?_)
 rw[if_pos (by decide)]
 refine wpAny_bind (wpAny_pure ?_)
 refine wpAny_pure ?_
 refine wpAny_bind (wpAny_setField ha hd h2 (wpAny_throw ?_))
 refine h _ ?_ (Heap.SameBut.update ..)
 rw[e1]
 exact Heap.get?_update_self _ ha (Obj.isFreed_of_fields (Obj.data_mapFields hd _))
theorem i7 {α:Type} {Q:α→Shared→Prop} (hh:Hdl A s.heap)
  (h:∀a h',({s with heap:=h'} :Shared).TypeIs (.ref a) "StopIteration" →s.heap.get? a=none→(∀b o,s.heap.get? b=some o→h'.get? b=some o)→E (.ref a) {s with heap:=h'}):
  wpAny (model prog w) A (do let e ←newExc (.type "StopIteration") [];raiseNew e:Sem α) Q E s:=by
 refine wpAny_bind ?_
 simp only[newExc,newTuple]
 refine wpAny_bind (wpAny_newObj_type ?_ (by size_fits))
 refine wpAny_bind (m:=firstArgMember _ _) (wpAny_of_eq (a:=Value.none) (by first | rfl | (simp only[firstArgMember];rfl)) ?_)
 refine wpAny_newObj_type ?_ (by size_fits)
 generalize hg:s.heap.push _=h1
 have k1:∀b o,s.heap.get? b=some o→h1.get? b=some o:=fun b o q=>by rw[←hg];exact Heap.get?_push_of_some _ q
 have z1:s.heap.objs.size≤h1.objs.size:=by rw[←hg,Heap.size_push];exact Nat.le_succ _
 refine gN (T:="StopIteration") (hh.keeps fun b o C q _=>Heap.get?_push_of_some _ (k1 b o q)) (Heap.get?_push_size _ rfl) rfl rfl (by simp[ownMembersOf]) fun h' e1 hs=>?_
 refine h _ _ ⟨_,e1,by rw[Obj.cls_mapFields]⟩ (Heap.get?_none_of_le z1) fun b o q=>(hs.2 b fun z=>?_).trans (Heap.get?_push_of_some _ (k1 b o q))
 exact absurd (Heap.lt_size (k1 b o q)) (by rw[z];exact Nat.lt_irrefl _)
theorem gO {it l:Addr} {i:Nat} {items:Array Value} {Q:Option Value→Shared→Prop} (hh:Hdl A s.heap) (hit:s.heap.IsListIter it l i) (hl:s.heap.IsList l items) (hx:items[i]? =none)
  (hQ:∀h',Heap.ExtBut it s.heap h'→Q none {s with heap:=h'}):wpAny (model prog w) A (pyNext (.ref it)) Q E s:=by
 obtain⟨o,ho,hc,hd⟩:=id hit
 obtain⟨ol,hol,_,nl,hdl⟩:=hl
 unfold pyNext
 refine wpAny_bind (wpAny_attempt (wpAny_callSpecial?_slot (name:=Str.ofString "__next__") hit.typeIs slot_listiter_next (wpAny_call_entry slot_listiter_next hit.typeIs entry_listiter_next ?_ (args_listiter_next _))))
 show wpAny _ _ (field (.ref it) 0 >>= _) _ _ s
 refine wpAny_bind (wpAny_field ho hd (x:=.ref l) rfl ?_)
 show wpAny _ _ (if(Value.ref l == Value.none)=true then _ else _) _ _ s
 rw[if_neg (show ¬((Value.ref l == Value.none)=true)from Bool.false_ne_true)]
 show wpAny _ _ (field (.ref it) 1 >>= _) _ _ s
 refine wpAny_bind (wpAny_field ho hd (x:=.int i 0) rfl ?_)
 show wpAny _ _ (seqItems? (.ref l) >>= _) _ _ s
 refine wpAny_bind (wpAny_seqItems hol hdl ?_)
 simp only[Int.toNat_natCast,hx]
 refine wpAny_bind (wpAny_rule (wpAny_bind (wpAny_setField ho hd (by simp) ?_)))
 refine i7 (A:=A.in1) ?_ fun a h' tp nw hk=>?_
 ·exact Hdl.keeps (A:=A.in1) hh fun b ob C q z=>(Heap.get?_update_other _ _ fun y=>by
   rw[←y,ho]at q;rw[←Option.some.inj q,hc]at z;cases z).trans q
 ·refine wpAny_bind (wpAny_isInstance (T:="StopIteration") (b:=true) tp isSubtype_stop ?_)
  exact wpAny_pure (hQ _ fun b ob hb q=>hk b ob ((Heap.get?_update_other _ _ (Ne.symm hb)).trans q))
theorem gA {it l:Addr} {i:Nat} {items:Array Value} {Q:Option Value→Shared→Prop} (hh:Hdl A s.heap) (hit:IsTupIter s.heap it l i) (hl:IsTup s.heap l items) (hx:items[i]? =none)
  (hQ:∀h',Heap.ExtBut it s.heap h'→Q none {s with heap:=h'}):wpAny (model prog w) A (pyNext (.ref it)) Q E s:=by
 obtain⟨o,ho,hc,hd⟩:=id hit
 obtain⟨ol,hol,_,nl,hdl⟩:=hl
 unfold pyNext
 refine wpAny_bind (wpAny_attempt (wpAny_callSpecial?_slot (name:=Str.ofString "__next__") hit.typeIs slot_tupleiter_next (wpAny_call_entry slot_tupleiter_next hit.typeIs entry_tupleiter_next ?_ (args_tupleiter_next _))))
 show wpAny _ _ (field (.ref it) 0 >>= _) _ _ s
 refine wpAny_bind (wpAny_field ho hd (x:=.ref l) rfl ?_)
 show wpAny _ _ (if(Value.ref l == Value.none)=true then _ else _) _ _ s
 rw[if_neg (show ¬((Value.ref l == Value.none)=true)from Bool.false_ne_true)]
 show wpAny _ _ (field (.ref it) 1 >>= _) _ _ s
 refine wpAny_bind (wpAny_field ho hd (x:=.int i 0) rfl ?_)
 show wpAny _ _ (seqItems? (.ref l) >>= _) _ _ s
 refine wpAny_bind (wpAny_seqItems hol hdl ?_)
 simp only[Int.toNat_natCast,hx]
 refine wpAny_bind (wpAny_rule (wpAny_bind (wpAny_setField ho hd (by simp) ?_)))
 refine i7 (A:=A.in1) ?_ fun a h' tp nw hk=>?_
 ·exact Hdl.keeps (A:=A.in1) hh fun b ob C q z=>(Heap.get?_update_other _ _ fun y=>by
   rw[←y,ho]at q;rw[←Option.some.inj q,hc]at z;cases z).trans q
 ·refine wpAny_bind (wpAny_isInstance (T:="StopIteration") (b:=true) tp isSubtype_stop ?_)
  exact wpAny_pure (hQ _ fun b ob hb q=>hk b ob ((Heap.get?_update_other _ _ (Ne.symm hb)).trans q))
theorem ja {t:Addr} {items:Array Value} {Q:List Value→Shared→Prop} (hh:Hdl A s.heap) (ht:IsTup s.heap t items)
  (hQ:∀h',Heap.ExtBut s.heap.objs.size s.heap h'→Q items.toList {s with heap:=h'}):wpAny (model prog w) A (unpackItems (.ref t) items.size none) Q E s:=by
 have hlt:t≠s.heap.objs.size:=by obtain⟨o,ho,_⟩:=ht;exact Nat.ne_of_lt (Heap.lt_size ho)
 unfold unpackItems
 refine wpAny_bind ?_
 unfold notIterableAtAll
 refine wpAny_bind (wpAny_specialOf ht.typeIs slot_tuple_iter.lookup (wpAny_pure ?_))
 simp only[Bool.false_eq_true,if_false]
 refine wpAny_bind (wpAny_holding (iter_tuple ht ?_))
 refine wpAny_bind (wpAny_holding (draw_tuple hlt items.size 0 _ _ ⟨_,Heap.get?_push_size _ rfl,rfl,rfl⟩ (ht.push _) (by omega) fun h1 hit1 hs1=>?_))
 rw[show List.take items.size (List.drop 0 items.toList)=items.toList by rw[List.drop_zero];exact List.take_of_length_le (by simp),if_neg (by simp)]
 have kp:∀b o,s.heap.get? b=some o→h1.get? b=some o:=fun b o q=>(hs1.2 b (Nat.ne_of_lt (Heap.lt_size q))).trans (Heap.get?_push_of_some _ q)
 refine wpAny_bind (wpAny_holding (gA (hh.keeps fun b o C q _=>kp b o q) hit1 ((ht.push _).extBut hs1.extBut hlt) (by simp) fun h2 he2=>?_))
 simp only[Option.isSome_none,Bool.false_eq_true,if_false]
 exact wpAny_pure (hQ h2 fun b o hb q=>he2 b o hb (kp b o q))
theorem fb {env:Env} {elts:List Expr} {x1} {pos:Pos} {t:Addr} {items:Array Value} {Q:Unit→Shared→Prop} (hh:Hdl A s.heap) (ht:IsTup s.heap t items)
  (hn:(assignEach elts env).length=items.size) (hstar:(assignEach elts env).findIdx? (·.1)=none)
  (h:∀h',Heap.ExtBut s.heap.objs.size s.heap h'→wpAny (model prog w) A (assignInOrder ((assignEach elts env).map (·.2)) items.toList) Q E {s with heap:=h'}):
  wpAny (model prog w) A (assign (.Tuple elts x1 pos) env (.ref t)) Q E s:=by
 rw[assign_Tuple]
 refine wpAny_bind (wpAny_standAt ?_)
 unfold unpack
 rw[hn,hstar]
 exact wpAny_bind (wpAny_holding (ja hh ht h))
end
end L2
namespace L2
open PySem PySem.Spec PyProof.Rows
def HdX (X:Cx):Prop:=∃(x C:Addr) (od:Option Addr) (oe:Obj),X.A.handled=some (.ref x)∧Held oe C od∧X.s₀.heap.get? x=some oe∧X.H₀ x=none∧x∉X.fs∧x∉X.ex
section
variable {X:Cx} {pins:List (Addr×Obj)} {σ:St} {H:Hp} {s:Shared}
theorem Inv.hdl (I:Inv X pins σ H s) (x:HdX X):Hdl X.A s.heap:=by
 obtain⟨a,C,od,oe,h1,h2,h3,h4,h5,h6⟩:=x
 exact⟨a,C,od,oe,h1,I.base.keep a oe h3 h4 h5 h6,h2⟩
theorem HdX.comp {scope:Scope} {N:List Str} {C:Addr} {fp:List Addr} (x:HdX X) (I:Inv X pins σ H s) (f:∀b∈fp,FpOk X pins H b):HdX (ah X scope N s H C fp):=by
 obtain⟨a,C',od,oe,h1,h2,h3,h4,h5,h6⟩:=x
 refine⟨a,C',od,oe,h1,h2,I.base.keep a oe h3 h4 h5 h6,I.base.free a oe h3 h4 h6,fun m=>?_,fun m=>?_⟩
 ·rcases List.mem_cons.mp (I.stkSub a m)with z | z
  ·have:=Heap.lt_size h3
   rw[z]at this
   exact absurd (Nat.lt_of_lt_of_le this I.ok.above) (Nat.lt_irrefl _)
  ·exact h5 z
 ·rcases (f a m).2.2.2.1 with z | z
  ·exact h6 z
  ·exact absurd (Nat.lt_of_lt_of_le (Heap.lt_size h3) z) (Nat.lt_irrefl _)
end
structure TurnH (P:Program) (w:World) (K:PySem.W.Frag) (A:Around) (tg:Expr) (J:It) (fp:List Addr) (it:Addr) (tn:Nat→Heap→Prop):Prop where
 obj:∀i h,tn i h→∀b∈fp,∃o,h.get? b=some o∧∀v,o.data≠.cell v
 keep:∀i h h',tn i h→(∀b∈fp,∀o,h.get? b=some o→h'.get? b=some o)→tn i h'
 item:∀(X:Cx),X.prog=P→X.w=w→X.K=K→X.A=A→HdX X→∀(i:Nat) (pins:List (Addr×Obj)) (s:Shared) (σ:St) (H:Hp) (E:Value→Shared→Prop),Inv X pins σ H s→(∀b∈fp,FpOk X pins H b)→tn i s.heap→J.go i H→
  wpAny (model P w) X.A (pyNext (.ref it)) (fun r s1=>∃u,r=some u∧
   wpAny (model P w) X.A (letOwnedTupleGo tg (.ref it) u) (fun _ s2=>∃x H',Inv X pins σ H' s2∧RelV x u∧J.yld i H x H'∧tn (i+1) s2.heap∧∀b∈fp,H' b=none) E s1) E s
 done:∀(X:Cx),X.prog=P→X.w=w→X.K=K→X.A=A→HdX X→∀(i:Nat) (pins:List (Addr×Obj)) (s:Shared) (σ:St) (H:Hp) (E:Value→Shared→Prop),Inv X pins σ H s→(∀b∈fp,FpOk X pins H b)→tn i s.heap→J.stop i H→
  wpAny (model P w) X.A (pyNext (.ref it)) (fun r s1=>r=none∧Inv X pins σ H s1) E s
 self:∀(A:Around) (i:Nat) (s:Shared) (Q:Value→Shared→Prop) (E:Value→Shared→Prop),tn i s.heap→Q (.ref it) s→wpAny (model P w) A (pyIter (.ref it)) Q E s
theorem jJ {P:Program} {w:World} {K:PySem.W.Frag} {A:Around} {tg:Expr} (a it:Addr):TurnH P w K A tg (tD K a) [it] it (fun i h=>h.IsListIter it a i) where
 obj:=(ee (P:=P) (w:=w) (K:=K) (tg:=tg) a it).obj
 keep:=(ee (P:=P) (w:=w) (K:=K) (tg:=tg) a it).keep
 self:=(ee (P:=P) (w:=w) (K:=K) (tg:=tg) a it).self
 item:=by
  intro X hP hw hK hA hx i pins s σ H E I hf st hg
  subst hP hw hK hA
  obtain⟨xs,x,hq,hx⟩:=hg
  obtain⟨its,rv,p,hz⟩:=I.list hq
  obtain⟨u,hu,ru⟩:=rv.get hx
  obtain⟨f0,f1,f2,f3,f4,f5⟩:=hf it (by simp)
  refine wpAny_pyNext_list_item st p.isList (x:=u) (by simpa using hu) fun h' st' sb=>?_
  have I1:Inv X pins σ H {s with heap:=h'} :=I.turned (t':=s.toks) (fun b o hb e=>(sb.2 b hb).trans e) f0 f1 f3 f4 f5
  obtain⟨o,e,c,d⟩:=id st'
  exact⟨u,rfl,kt (s:={s with heap:=h'}) e c d (by decide) ⟨x,H,I1,ru,⟨rfl,fun ys hy=>by rw[I.list_inj hy hq];exact hx⟩,st',fun b hb=>(hf b hb).1⟩⟩
 done:=by
  intro X hP hw hK hA hx i pins s σ H E I hf st hg
  subst hP hw hK hA
  obtain⟨xs,hq,hl'⟩:=hg
  obtain⟨its,rv,p,hz⟩:=I.list hq
  obtain⟨f0,f1,f2,f3,f4,f5⟩:=hf it (by simp)
  have hl:=rv.length
  exact gO (I.hdl hx) st p.isList (by simp;omega) fun h' eb=>⟨rfl,I.turned (t':=s.toks) (fun b o hb e=>eb b o hb e) f0 f1 f3 f4 f5⟩
def tQ (X:Cx) (tg iter:Expr) (wi:TI):Prop:=
 ∀ (pins : List (Addr × Obj)) (s : Shared) (σ : St) (H : Hp) (R : It → Hp → Prop), Inv X pins σ H s → wi σ H R →
  wpAny (model X.prog X.w) X.A (eval iter X.env) (fun v s1=>wpAny (model X.prog X.w) X.A (pyIter v) (fun itv s2=>∃(it:Addr) (fp:List Addr) (tn:Nat→Heap→Prop) (J:It) (H':Hp),itv=.ref it∧Inv X pins σ H' s2∧TurnH X.prog X.w X.K X.A tg J fp it tn∧tn 0 s2.heap∧(∀b∈fp,FpOk X pins H' b)∧R J H') X.xe s1) X.xe s
section
variable {X:Cx} {tg:Expr} {K:PySem.W.Frag}
theorem nS {l:Expr} {tl:TE} (hK:X.K=K) (hl:PE X l tl):tQ X tg l (g6 K tl):=by
 subst hK
 intro pins s σ H R I h
 refine bv (hl pins s σ H _ I h) fun v s1 ⟨x,H1,I1,r1,q1⟩=>?_
 obtain⟨a,e,⟨xs,hq⟩,q⟩:=q1
 subst e
 cases r1
 obtain⟨its,rv,p,hz⟩:=I1.list hq
 refine wpAny_pyIter_list p.isList ?_
 refine⟨s1.heap.objs.size,[s1.heap.objs.size],_,_,H1,rfl,I1.kept (t':=s1.toks) fun b o e=>Heap.get?_push_of_some _ e,jJ a _,⟨_,Heap.get?_push_size _ rfl,rfl,rfl⟩,fun b hb=>?_,q⟩
 have e:b=s1.heap.objs.size:=by simpa using hb
 subst e
 exact I1.fpOk (Nat.le_refl _) (I1.hok.fresh (Nat.le_refl _))
theorem pN {pos:Pos} {es:List Expr} {k:Nat} {t:p9} {n:Nat} (hK:X.K=K) (hx:HdX X) (h:rP X es t)
  (hn:(assignEach es X.env).length=n:=by rfl) (hst:(assignEach es X.env).findIdx? (·.1)=none:=by rfl):PG X (.Tuple es k pos) (bN K n t):=by
 subst hK
 intro pins s σ H v u Q I r hw
 obtain⟨a,xs,e1,hq,hl,hw⟩:=hw
 subst e1
 cases r
 obtain⟨its,rv,ht,hz⟩:=I.tuple hq
 refine fb (I.hdl hx) ht (by simp[hn,←hl,rv.length]) hst fun h' hx=>?_
 have I1:Inv X pins σ H {s with heap:=h'} :=I.kept (t':=s.toks) fun b o e=>hx b o (Nat.ne_of_lt (Heap.lt_size e)) e
 exact h pins _ σ H xs _ Q I1 (by simpa using rv) hw
end
section
variable {X:Cx} {scope:Scope} {N:List Str} {cap:List (Option Nat)} {tg iter elt:Expr} {ifs:List Expr} {pos:Pos} {wi:TI} {g:TG} {tf:TT} {te:TE}
theorem jK (S:CompScope X scope N cap) (hx:HdX X)
  (hg:∀s H C fp,HdX (ah X scope N s H C fp)→PG (ah X scope N s H C fp) tg g) (hf:∀s H C fp,kG (ah X scope N s H C fp) ifs tf) (he:∀s H C fp,PE (ah X scope N s H C fp) elt te)
  {pins:List (Addr×Obj)} {σ:St} {H2:Hp} {s2:Shared} {it:Addr} {fp:List Addr} {tn:Nat→Heap→Prop} {J:It} {Qv:VK} {E:Value→Shared→Prop} {RR:Value→Addr→Result→Shared→Prop}
  (I2:Inv X pins σ H2 s2) (T:TurnH X.prog X.w X.K X.A tg J fp it tn) (st2:tn 0 s2.heap) (f2:∀b∈fp,FpOk X pins H2 b) {W:Nat→Nat→List V→Hp→Prop} (w0:∃m,W 0 m [] H2)
  (turn:∀i m ys H,W i m ys H→ys.length< sizeLine∧((J.stop i H∧∀D,H D=none→Qv (.ref D) (bQ H D (.lst ys)))∨
   (J.go i H∧∃N:List V→Hp→Prop,(∀ys' H',N ys' H'→∃m',m'< m∧W (i+1) m' ys' H')∧∀x H',J.yld i H x H'→g x (aW cap σ) H' fun σ2 H2=>Keep (aW cap σ) σ2∧tf σ2 H2 fun b H3=>if b=true then te σ2 H3 fun y H4=>N (ys++ [y]) H4 else N ys H3)))
  (fin:∀(D C:Addr) (σ':St) (H':Hp) (s':Shared) (its:List Value) (k:Nat) (ys:List V),s2.heap.objs.size≤D→s2.heap.objs.size≤C→D≠C→Inv (ah X scope N s2 H2 C fp) [(D,cI its k)] σ' H' s'→Vals ys its→ys.length≤sizeLine→
   Qv (.ref D) (bQ H' D (.lst ys))→RR (.ref D) C (.ok .next) s'):
  wpAny (model X.prog X.w) X.A (newList []) (fun acc s₃=>wpAny (model X.prog X.w) X.A (newFunctionEnv scope X.env.globals (bB X.env scope.names []) [] X.env.qual none .none (some X.env)) (fun cenv s₄=>
   codeAny (model X.prog X.w) X.A (.compStart (.ListComp elt [⟨tg,iter,ifs,0⟩] scope pos) 0 (.ref it) acc {cenv with scope:=relabel scope X.env}) (RR acc cenv.locals) s₄) E s₃) E s2:=by
 have frz:HdX X:=hx
 refine wpAny_newObj_type (eL ?_)
 generalize hD:s2.heap.objs.size=D
 generalize hH3:s2.heap.push {cls:=.type "list",dict:=none,data:=.seq ([]:List Value).toArray} =h3
 have hz3:h3.objs.size=D+1:=by rw[←hH3,Heap.size_push,hD]
 dsimp only
 have eC:({s2 with heap:=h3} :Shared).heap.objs.size=D+1:=hz3
 rw[show h3.objs.size=D+1 from hz3]
 generalize hH4:pushCells (h3.push {cls:=.type "dict",data:=.dict #[]}) scope.names=h4
 have hz3':(h3.push {cls:=.type "dict",data:=.dict #[]}).objs.size=D+1+1:=by rw[Heap.size_push,hz3]
 have ck:CellsOk h4 (D+1+1) (cellsFrom (D+1+1) scope.names []):=by
  have:=cellsFrom_ok scope.names (h3.push {cls:=.type "dict",data:=.dict #[]}) (D+1+1) [] ⟨fun _ _ hm=>(nomatch hm),List.Pairwise.nil⟩ (by rw[hz3'];exact Nat.le_refl _)
  rw[hz3',hH4]at this
  exact this
 have k23:∀b o,s2.heap.get? b=some o→h3.get? b=some o:=fun b o e=>by rw[←hH3];exact Heap.get?_push_of_some _ e
 have k34:∀b o,h3.get? b=some o→h4.get? b=some o:=fun b o e=>by rw[←hH4];exact pushCells_keeps _ _ b o (Heap.get?_push_of_some _ e)
 have hD4:h4.get? D=some (cI [] 0):=k34 _ _ (by rw[←hH3,←hD];exact Heap.get?_push_size _ rfl)
 have hn4:h4.Ns (D+1) fun _=>none:=by
  rw[←hH4,←hz3]
  exact(Heap.Ns.new h3 (.type "dict")).keeps (pushCells_keeps _ _)
 have fpD:∀b∈fp,b< D:=fun b hb=>by
  obtain⟨o,e,_⟩:=T.obj _ _ st2 b hb
  rw[←hD];exact Heap.lt_size e
 have hlt:∀b∈fp,b< D+1:=fun b hb=>Nat.lt_succ_of_lt (fpD b hb)
 have hDC:s2.heap.objs.size≤D+1:=by rw[hD];exact Nat.le_succ _
 have hDs:s2.heap.objs.size≤D:=by rw[hD];exact Nat.le_refl _
 have IC:Inv (ah X scope N s2 H2 (D+1) fp) [] (aW cap σ) H2 {s2 with heap:=h4} :=
  eM S I2 hDC ck f2 hlt ⟨_,_,rfl⟩ hn4 fun b o e=>k34 b o (k23 b o e)
 have okC:=IC.ok
 have nfs:∀{b:Addr},s2.heap.objs.size≤b→b∉frs X.stack:=fun {b} hb hm=>by
  obtain⟨_,o,ho,_⟩:=I2.stack.mem hm
  exact absurd (Nat.lt_of_lt_of_le (Heap.lt_size ho) hb) (Nat.lt_irrefl _)
 have frc:∀x∈scope.names,x.2=.free→∃c,X.env.cells.lookup x.1=some c:=fun x hx hk=>I2.ok.has x.1 (S.free x hx hk)
 have cellsD:∀x c,(ah X scope N s2 H2 (D+1) fp).env.cells.lookup x=some c→c≠D:=fun x c e=>by
  rcases cf frc e with a | ⟨_,a⟩
  ·have q:D+1+1≤c:=(ck.empty x c a).2
   exact Nat.ne_of_gt (Nat.lt_of_lt_of_le (Nat.lt_of_lt_of_le (Nat.lt_succ_self D) (Nat.le_succ _)) q)
  ·obtain⟨v,q⟩:=I2.cell x c a
   have:=q.lt
   rw[hD]at this
   exact Nat.ne_of_lt this
 have fpO:∀{H':Hp} {its:List Value} {k:Nat},(∀b∈fp,H' b=none)→∀b∈fp,FpOk (ah X scope N s2 H2 (D+1) fp) [(D,cI its k)] H' b:=fun {H' its k} hn b hb=>
  ⟨hn b hb,Nat.ne_of_lt (hlt b hb),okC.exfs b hb,.inl hb,(okC.exf b hb).2,fun p hp=>by
   have e:p=(D,cI its k):=by simpa [ah] using hp
   subst e
   exact Nat.ne_of_gt (fpD b hb)⟩
 have pinD:∀{σ':St} {H':Hp} {s':Shared} {its:List Value} {k:Nat},Inv (ah X scope N s2 H2 (D+1) fp) [] σ' H' s'→s'.heap.get? D=some (cI its k)→H' D=none→Inv (ah X scope N s2 H2 (D+1) fp) [(D,cI its k)] σ' H' s':=fun {σ' H' s' its k} J e n=>
  J.pins_of fun p hp=>by
   have e':p=(D,cI its k):=by simpa using hp
   subst e'
   exact⟨e,n,Nat.ne_of_lt (Nat.lt_succ_self _),nfs hDs,fun v z=>by
    have z':Data.seq its.toArray k=Data.cell v:=z
    cases z'⟩
 have loop:codeAny (model X.prog X.w) X.A (.compLoop (.ListComp elt [⟨tg,iter,ifs,0⟩] scope pos) 0 (.ref it) (.ref D) (ah X scope N s2 H2 (D+1) fp).env) (RR (.ref D) (D+1)) {s2 with heap:=h4} :=by
  obtain⟨m0,w0⟩:=w0
  refine eX (fun n s'=>∃i ys its k σ' H',Inv (ah X scope N s2 H2 (D+1) fp) [(D,cI its k)] σ' H' s'∧tn i s'.heap∧(∀b∈fp,H' b=none)∧Vals ys its∧(∀(j:Nat) (v:V),(aW cap σ)[j]? =some (some v)→σ'[j]? =some (some v))∧W i n ys H') ?_ m0
   ⟨0,[],[],0,aW cap σ,H2,pinD IC hD4 (I2.hok.fresh hDs),T.keep _ _ _ st2 fun b hb o e=>k34 b o (k23 b o e),fun b hb=>(f2 b hb).1,.nil,fun _ _ e=>e,w0⟩
  rintro n s3 ⟨i,ys,its,k,σ3,H3,I3,st3,fr3,rv,kp,w3⟩
  obtain⟨hyl,tr⟩:=turn i n ys H3 w3
  have pin3:=I3.pin (D,cI its k) (List.mem_append_right _ List.mem_cons_self)
  rcases tr with⟨stop,qn⟩ | ⟨go,NN,hNN,step⟩
  ·refine bv (T.done (ah X scope N s2 H2 (D+1) fp) rfl rfl rfl rfl (hx.comp I2 f2) i _ s3 σ3 H3 _ I3 (fpO fr3) st3 stop) fun r s4 ⟨hr,I4⟩=>?_
   subst hr
   exact fin D (D+1) σ3 H3 s4 its k ys hDs hDC (Nat.ne_of_lt (Nat.lt_succ_self _)) I4 rv (Nat.le_of_lt hyl) (qn D pin3.2.1)
  ·have I3':Inv (ah X scope N s2 H2 (D+1) fp) [(D,cI its k)] (aW cap σ) H3 s3:=I3.weak (by rw[I3.len,IC.len]) kp
   refine bv (T.item (ah X scope N s2 H2 (D+1) fp) rfl rfl rfl rfl (hx.comp I2 f2) i _ s3 _ H3 _ I3' (fpO fr3) st3 go) fun r s4 ⟨u,hr,h4⟩=>?_
   subst hr
   refine bv h4 fun _ s5 ⟨x,H5,I5,r5,y5,st5,fr5⟩=>?_
   have I5':=I5.pinned (fpO fr5) (T.obj _ _ st5)
   refine bv (hg _ _ _ _ (hx.comp I2 f2) _ s5 _ H5 x u _ I5' r5 (step x H5 y5)) fun _ s6 ⟨σ6,H6,I6,kp6,q6⟩=>?_
   refine bv (hf _ _ _ _ _ s6 σ6 H6 _ I6 q6) fun ok s7 ⟨H7,I7,q7⟩=>?_
   have back:∀{s8:Shared} {H8:Hp},Inv (ah X scope N s2 H2 (D+1) fp) ([(D,cI its k)]++eG fp s5.heap) σ6 H8 s8→tn (i+1) s8.heap∧(∀b∈fp,H8 b=none)∧s8.heap.get? D=some (cI its k)∧H8 D=none:=fun {s8 H8} I8=>by
    have at_:∀b∈fp,∀o,s5.heap.get? b=some o→s8.heap.get? b=some o∧H8 b=none:=fun b hb o e=>by
     have z:=I8.pin (b,o) (List.mem_append_right _ (List.mem_append_right _ (cK hb e)))
     exact⟨z.1,z.2.1⟩
    have pd:=I8.pin (D,cI its k) (List.mem_append_right _ (List.mem_append_left _ List.mem_cons_self))
    refine⟨T.keep _ _ _ st5 fun b hb o e=>(at_ b hb o e).1,fun b hb=>?_,pd.1,pd.2.1⟩
    obtain⟨o,e,d⟩:=T.obj _ _ st5 b hb
    exact(at_ b hb o e).2
   cases ok with
   | false =>
    rw[if_neg Bool.false_ne_true]at q7 ⊢
    obtain⟨m',hm,w'⟩:=hNN _ _ q7
    obtain⟨t7,f7,d7,n7⟩:=back I7
    exact⟨m',hm,i+1,ys,its,k,σ6,H7,I7.unpinned,t7,f7,rv,fun j v e=>Keep.get kp6 e,w'⟩
   | true =>
    rw[if_pos rfl]at q7 ⊢
    refine bv (he _ _ _ _ _ s7 σ6 H7 _ I7 q7) fun y8 s8 ⟨y,H8,I8,r8,q8⟩=>?_
    obtain⟨m',hm,w'⟩:=hNN _ _ q8
    obtain⟨t8,f8,d8,n8⟩:=back I8
    refine append_at (D:=D) (its:=its.toArray) (n:=k) d8 (fun h' hs' hD'=>?_) (by rw[List.size_toArray,←rv.length];exact Nat.le_of_lt hyl)
    have J0:Inv (ah X scope N s2 H2 (D+1) fp) [] σ6 H8 s8:=I8.pins_of fun p hp=>by cases hp
    have J1:Inv (ah X scope N s2 H2 (D+1) fp) [] σ6 H8 {s8 with heap:=h'} :=J0.turned (it:=D) (t':=s8.toks) (fun b o hb e=>(hs'.2 b hb).trans e) n8 (Nat.ne_of_lt (Nat.lt_succ_self _)) (.inr hDs) cellsD fun p hp=>by
     have:p∈([]:List (Addr×Obj)):=hp
     cases this
    refine⟨m',hm,i+1,ys++ [y],its++ [y8],k+1,σ6,H8,pinD J1 (by simpa using hD') n8,T.keep _ _ _ t8 fun b hb o e=>(hs'.2 b (Nat.ne_of_lt (fpD b hb))).trans e,f8,rv.append (.cons r8 .nil),fun j v e=>Keep.get kp6 e,w'⟩
 exact codeAny_compStart_list loop (wpAny_mono (T.self _ 0 _ _ _ (T.keep _ _ _ st2 fun b hb o e=>k34 b o (k23 b o e)) loop) (fun _ _ h=>h) fun _ _ h=>h)
theorem nU (S:CompScope X scope N cap) (hx:HdX X) (hi:tQ X tg iter wi)
  (hg:∀s H C fp,HdX (ah X scope N s H C fp)→PG (ah X scope N s H C fp) tg g) (hf:∀s H C fp,kG (ah X scope N s H C fp) ifs tf) (he:∀s H C fp,PE (ah X scope N s H C fp) elt te)
  (hs:∀x,foldedSetIterable iter X.env x=pure x:=by intro _;rfl):PE X (.ListComp elt [⟨tg,iter,ifs,0⟩] scope pos) (hU cap wi g tf te):=by
 intro pins s σ H Q I h
 rw[eval_ListComp]
 have frc:∀x∈scope.names,x.2=.free→∃c,X.env.cells.lookup x.1=some c:=fun x hx hk=>I.ok.has x.1 (S.free x hx hk)
 refine wpAny_comprehension_free (use:=none) rfl hs (cO frc) S.kind (dy S) (bv (hi pins s σ H _ I h) fun v s1 h1=>bv h1 fun itv s2 h2=>?_)
 obtain⟨it,fp,tn,J,H2,rfl,I2,T,st2,f2,W,w0,turn⟩:=h2
 refine jK (RR:=fun acc C=>compPost (model X.prog X.w) X.A X.xe none (EP X pins σ Q) acc C) S hx hg hf he I2 T st2 f2 w0 turn fun D C σ' H' s' its k ys hD hC hDC I' rv hl q=>?_
 obtain⟨m,hn,_⟩:=I'.loc
 exact⟨m,hn,fun h' hs'=>⟨.ref D,_,gi I2 f2 hD hC hDC I' rv hl hs',rfl,q⟩⟩
end
end L2
namespace L2
open PySem PySem.Spec PySem.Calls PyProof.Rows
open PySem.W (findIn findObj mroIn looks_findIn looks_find looks_mroIn class_get KitX clsIn Frag)
structure XK1 (K:Frag) (C:Addr):Prop where
 ga:findIn K (.ref C) "__getattribute__" =some (some (.builtin "BaseException.__getattribute__"))
 gt:findIn K (.ref C) "__getattr__" =some none
 cl:∀od,findObj K C od "__class__" =some (.bind (.builtin "getset_descriptor.__get__") (.builtin "object.__class__"))
 ob:mroIn K C (.type "object")=some true
 be:mroIn K C (.type "BaseException")=some true
section
variable {prog:Program} {w:World} {A:Around} {E:Value→Shared→Prop} {s:Shared} {K:Frag} {x C:Addr} {ox:Obj} {od:Option Obj}
theorem lS {Q:Option Value→Shared→Prop} (Z:XK1 K C) (X:K.In s.heap) (I:PySem.W.InstAt s.heap x ox C od) (h:Q (some (.ref C)) {s with toks:=s.toks+1}):wpAny (model prog w) A (getAttr? (.ref x) "__class__") Q E s:=by
 obtain⟨hh,g,d,t,os⟩:=s
 have L0:=I.type (M:=model prog w)
 have L1:=looks_findIn (M:=model prog w) X Z.ga
 have L2:=looks_findIn (M:=model prog w) X Z.gt
 have L3:=looks_find (M:=model prog w) X I (Z.cl od)
 have L4:=looks_mroIn (M:=model prog w) X Z.be
 unfold getAttr? getAttrBy? getAttrBy
 refine wpAny_bind (wpAny_mkText (wpAny_bind (wpAny_attempt (wpAny_holding (wpAny_bind (L0.at (wpAny_bind (L1.at ?_))))))))
 dsimp only
 rw[show(Value.builtin "BaseException.__getattribute__" == Value.builtin "object.__getattribute__")=false from by decide +kernel,Bool.and_false,if_neg (by decide)]
 unfold getAttrByItsOwn hookBefore
 rw[if_pos (show onTheHeap (Value.ref C)=true from rfl)]
 refine wpAny_bind (L2.at ?_)
 refine wpAny_bind (wpAny_attempt (wpAny_holding ?_))
 unfold callGetattribute
 rw[if_neg (by simp)]
 unfold boundAndCalled
 rw[PySem.F.excAttr_ValueError.ga.bind]
 have LI:PySem.W.Looks (model prog w) hh (isInstance (.ref x) (.type "BaseException")) true:=L0.andThen L4
 have chk:∀{A':Around} {E':Value→Shared→Prop} {Q':Unit→Shared→Prop} {tk:Nat},Q' () ⟨hh,g,d,tk,os⟩→wpAny (model prog w) A' (checkBuiltinCall "BaseException.__getattribute__" ⟨[.ref x,.str "__class__" t],[]⟩) Q' E' ⟨hh,g,d,tk,os⟩:=fun {A' E' Q' tk} hq=>by
  have hk:builtinKind "BaseException.__getattribute__" =some .slot:=by decide +kernel
  have hsplit:splitId "BaseException.__getattribute__" =some ("BaseException","__getattribute__"):=by decide +kernel
  have ha:=F.args_bexc_ga (.ref x) (.str "__class__" t)
  simp only[checkBuiltinCall,hk,hsplit]
  refine wpAny_bind (LI.at ?_)
  repeat wp_step
  exact hq
 refine wpAny_bind (wpAny_pure (wpAny_call (codeAny_call_builtin PySem.F.excAttr_ValueError.ga.plain F.entry_bexc_ga (chk ?_))))
 refine wpAny_bind (m:=slotArgs _ _ _) (wpAny_pure ?_)
 refine wpAny_bind (wpAny_pure (wpAny_bind (L0.at (wpAny_bind (L3.at ?_)))))
 show wpAny _ _ (holding [.builtin "object.__class__"] (call (.builtin "getset_descriptor.__get__") [.builtin "object.__class__",.ref x,.ref C]) >>= ret) _ _ _
 refine wpAny_bind (wpAny_holding (wpAny_call (class_get (s:=⟨hh,g,d,t+1,os⟩) (ox:=ox) (od:=od) X I Z.ob (wpAny_pure ?_))))
 exact PySem.W.handed_on rfl (wpAny_pure h)
theorem nV (Z:XK1 K C):KitX K (.ref x) (.ref C) (fun h=>PySem.W.InstAt h x ox C od) where
 ty:=fun _ _ _ I=>I.type
 it:=fun _ _ X _=>by
  obtain⟨cd,a,_⟩:=Option.bind_eq_some_iff.mp Z.ob
  unfold clsIn at a
  split at a
  ·rename_i c' d' cd' sl' ho
   intro A' Q' E' s' k q
   unfold isType loadHead
   exact wpAny_bind (wpAny_loadPart (k _ _ (X _ _ ho)) (wpAny_pure q))
  ·cases a
 ne:=fun h tp dd its n sl X htp=>by
  obtain⟨cd,a,_⟩:=Option.bind_eq_some_iff.mp Z.ob
  refine Bool.eq_false_iff.mpr fun q=>?_
  have e:C=tp:=Value.ref.inj (beq_iff_eq.mp q)
  subst e
  unfold clsIn at a
  split at a
  ·rename_i c' d' cd' sl' ho
   have z:=(X _ _ ho).symm.trans htp
   cases z
  ·cases a
 ca:=fun X I k=>lS Z X I k
theorem jL {c:Value} {b:Bool} {Q:Value→Shared→Prop} (Z:XK1 K C) (X:K.In s.heap) (I:PySem.W.InstAt s.heap x ox C od) (e:PySem.W.kitOne K (.ref C) c=some b) (h:∀tk,Q (.bool b) {s with toks:=tk}):
  wpAny (model prog w) A (call (.builtin "isinstance") [.ref x,c]) Q E s:=PySem.W.kia_one (nV Z) X I e (fun z=>by cases z) h
end
end L2
namespace L2
open PySem PySem.Spec PySem.Calls PyProof.Rows
def HdE (X:Cx) (x C:Addr):Prop:=∃(oe:Obj) (od:Option Addr),(∀d,od=some d→∃o u,X.H₀ d=some (.frz o u))∧X.A.handled=some (.ref x)∧Held oe C od∧X.s₀.heap.get? x=some oe∧X.H₀ x=none∧x∉X.fs∧x∉X.ex
theorem HdE.hdx {X:Cx} {x C:Addr} (h:HdE X x C):HdX X:=let ⟨oe,od,_,z⟩:=h;⟨x,C,od,oe,z⟩
theorem Inv.inst {X:Cx} {pins:List (Addr×Obj)} {σ:St} {H:Hp} {s:Shared} {x C:Addr} (I:Inv X pins σ H s) (h:HdE X x C):∃ox od,PySem.W.InstAt s.heap x ox C od:=by
 obtain⟨oe,od,hf,h1,⟨⟨h2,h2'⟩,vs,h7,h8⟩,h3,h4,h5,h6⟩:=h
 have nc:PySem.W.notCls oe=true:=by unfold PySem.W.notCls;rw[h7]
 have hk:=I.base.keep x oe h3 h4 h5 h6
 cases od with
 | none=>exact⟨oe,none,hk,h2,nc,by rw[h2'];trivial⟩
 | some d =>
  obtain⟨o,u,z⟩:=hf d rfl
  have:=I.hok d _ (I.base.frzs d o u z)
  exact⟨oe,some o,hk,h2,nc,by rw[h2'];exact this.1⟩
def kv:V→Option Value
 | .ref D=>some (.ref D)
 | .ty T=>some (.type T)
 | _=>none
section
variable {X:Cx} {K:PySem.W.Frag} {x C:Addr}
theorem aP (hK:X.K=K) (h:HdE X x C) (Z:XK1 K C):df X (.builtin "isinstance") (fun xs H Q=>∃v c b,xs=[.ref x,v]∧kv v=some c∧PySem.W.kitOne K (.ref C) c=some b∧Q (.bl b) H):=by
 subst hK
 intro pins s σ H xs us Q I r q
 obtain⟨v,c,b,rfl,hv,e,q⟩:=q
 obtain⟨u,w',rfl,rx,rv⟩:=kC r
 obtain rfl:u=.ref x:=rx
 have hw:w'=c:=by
  unfold kv at hv
  split at hv
  ·cases hv;exact rv
  ·cases hv;exact rv
  ·cases hv
 subst hw
 obtain⟨ox,od,J⟩:=I.inst h
 exact jL Z I.kIn J e fun tk=>⟨.bl b,H,I.tok _,rfl,q⟩
end
structure RoomH (k:Nat) (A:Around):Prop where
 dp:A.depth+3*k+5< recursionLimit
 un:A.units+16*k+200< cLine
theorem Room.h {k:Nat} {A:Around} (r:Room k A) (v:Option Value):RoomH k (A.mark v):=⟨r.dp,r.un⟩
abbrev sF (P:Program) (w:World) (K:PySem.W.Frag) (mg:Str→Option Value) (base:Heap) (N:List Str) (qual:Str) (scope:Scope) (f:Addr) (cd:Value) (A:Around) (outer:List Env) (s0:Shared) (H0:Hp) (E:XK):Cx:={gf CX0 P w K mg base N qual scope f cd A outer s0 H0 E with calm:=false,xe:=fun _ _=>False}
structure FnOkH (P:Program) (w:World) (K:PySem.W.Frag) (mg:Str→Option Value) (base:Heap) (k:Nat) (f:Addr) (fd:FuncData) (ps:List Str) (sp:Addr→Addr→Sp):Prop where
 len:∀x C vs H Q E,sp x C vs H Q E→vs.length=ps.length
 run:∀(x C:Addr) (od:Option Addr) (oe:Obj) (A:Around) (outer:List Env) (s:Shared) (H:Hp) (args:Args) (us:List Value) (vs:List V) (Q:VK) (E:XK),RoomH k A→A.handled=some (.ref x)→Held oe C od→(∀d,od=some d→∃o u,H d=some (.frz o u))→s.heap.get? x=some oe→H x=none→x∉frs outer→
  Env0 P w K mg base A outer s H→BindsTo s fd args (ps.zip us)→Vals vs us→sp x C vs H Q E→codeAny (model P w) A (.call (.ref f) args) (CR CX0 outer P w H s Q E) s
section
variable {P:Program} {w:World} {K:PySem.W.Frag} {mg:Str→Option Value} {base:Heap}
theorem Fun.okH {x0 qual:Str} {st:Stmt} {f:Addr} {fd:FuncData} {N ps:List Str} {k:Nat} {sp:Addr→Addr→Sp} (F:Fun K x0 qual st f fd) (S:FnScope N ps (defScope st)) (len:∀x C vs H Q E,sp x C vs H Q E→vs.length=ps.length)
  (hbody:∀(x C:Addr) (cdv:Value) (A:Around) (outer:List Env) (s:Shared) (H:Hp) (vs:List V) (Q:VK) (E:XK),HdE (sF P w K mg base N qual (defScope st) f cdv A outer s H E) x C→RoomH k (A.deeper (envOfC qual (defScope st) s.heap.objs.size f cdv))→sp x C vs H Q E→
   ∃t,PSs (sF P w K mg base N qual (defScope st) f cdv A outer s H E) (defBody st) t∧t {nx:=fun _ H'=>Q .non H',rt:=Q} (start N vs) H):FnOkH P w K mg base (k+1) f fd ps sp:=by
 obtain⟨oc,od,kV,doc,pm,an,cdv,ct,osl,rfl,lk,hcd⟩:=F.ex
 refine⟨len,fun x C od oe A outer s H args us vs Q E hr hA hh hfz hx hHx hxo e0 hb r hsp=>?_⟩
 have hl:=len _ _ _ _ _ _ hsp
 have KX:K.In s.heap:=e0.mod.kin.keeps fun b o e=>(e0.bs b o e).1
 have lim:s.heap.NoLimit:=e0.mod.nolimit.keeps fun b o e=>(e0.bs b o e).1
 have hkind:∀y∈ps.zip us,(defScope st).names.lookup y.1=some .local∨((defScope st).names.lookup y.1=some .cell∧((cellsFrom (s.heap.objs.size+1) (defScope st).names []).lookup y.1).isSome=true):=fun⟨n,v⟩ hy=>by
  rcases S.par n (List.of_mem_zip hy).1 with q | q
  ·exact .inl q
  ·exact .inr ⟨q,PySem.W.cellsFrom_some _ _ _ (.inl q)⟩
 refine codeAny_call_function (by have:=hr.dp;omega) (KX _ _ lk) rfl S.co S.gen rfl (PySem.W.codeRec_of KX hcd) (hb _ _ _ _ ?_)
 refine wpAny_newFunctionEnv_cells S.kind hkind fun env he s1 z=>?_
 subst he
 refine⟨lim.keeps z.toInCall.keep,codeAny_func ?_⟩
 have hE:HdE (sF P w K mg base N qual (defScope st) f cdv A outer s H E) x C:=⟨oe,od,hfz,hA,hh,hx,hHx,hxo,fun m=>absurd (show x∈([]:List Addr)from m) (by simp)⟩
 obtain⟨t,ht,hq⟩:=hbody x C cdv A outer s H vs Q E hE ⟨by have:=hr.dp;show A.depth+1+3*k+5< _;omega,by have:=hr.un;show A.units+3+16*k+200< _;omega⟩ hsp
 have e0':Env0 P w K mg base {A with handled:=none} outer s H:=⟨e0.frames,e0.mod,e0.bs,e0.bsz,e0.funs,e0.frf,e0.hok,e0.bare⟩
 have I0:Inv (gf CX0 P w K mg base N qual (defScope st) f cdv {A with handled:=none} outer s H E) [] (start N vs) H s1:=gY S rfl e0' hl r z
 have I:Inv (sF P w K mg base N qual (defScope st) f cdv A outer s H E) [] (start N vs) H s1:=
  ⟨⟨I0.ok.mod,I0.ok.kind,I0.ok.glob,I0.ok.blt,I0.ok.above,I0.ok.inj,I0.ok.has,I0.ok.cab,fun z=>(nomatch z),Around.frames_deeper e0.frames,I0.ok.stk,I0.ok.exf,I0.ok.bs,I0.ok.bsz,I0.ok.noex,I0.ok.exfs,I0.ok.funs,I0.ok.frf⟩,I0.os,I0.bare,I0.base,I0.loc,I0.cell,I0.free,I0.freeC,I0.pin,I0.hok,I0.len⟩
 refine wpAny_mono (ht [] s1 (start N vs) H _ I hq) (fun fl s' hs=>?_) fun e s' hs=>hs.elim
 have fin:∀{σ':St} {H':Hp} {v:V} {u:Value},Inv (sF P w K mg base N qual (defScope st) f cdv A outer s H E) [] σ' H' s'→RelV v u→Q v H'→CE outer P w H s Q u s':=
  fun {σ' H' v u} J rv q=>⟨v,H',J.os,J.bare,J.base,J.hok,rv,q⟩
 cases fl with
 | ret u=>obtain⟨v,σ',H',J,rv,q⟩:=hs;exact fin J rv q
 | next=>obtain⟨σ',H',J,q⟩:=hs;exact fin (v:=V.non) (u:=Value.none) J rfl q
 | brk=>obtain⟨_,_,_,q⟩:=hs;exact False.elim q
 | cont=>obtain⟨_,_,_,q⟩:=hs;exact False.elim q
end
def rS (od:Option Addr) (sp:Sp):Sp:=fun vs H Q E=>(∀d,od=some d→∃o u,H d=some (.frz o u))∧sp vs H Q E
section
variable {X:Cx} {k:Nat} {f x C:Addr} {od:Option Addr} {oe:Obj} {fd:FuncData} {ps:List Str} {sp:Addr→Addr→Sp} {xn:Str} {p pos:Pos} {e:Expr} {es:List Expr} {t:TA}
theorem nW (F:FnOkH X.prog X.w X.K X.mg X.base k f fd ps sp) (hr:RoomH k X.A) (hA:X.A.handled=some (.ref x)) (hh:Held oe C od) (hp:(x,oe)∈X.pn) (hg:Gl X xn) (hm:X.mg xn=some (.ref f)) (hk:PySem.W.keepIn X.K (.ref f)=true) (hb:Binds X.K fd ps [])
  (ha:PA X (e::es) t) (hdb:(xn == ("__debug__" :Str))=false:=by decide) (he:starEach (e::es) X.env=(false,eval e X.env)::starEach es X.env:=by rfl) (hpl:(backTo pos (starEach es X.env)).any (·.1)=false:=by rfl):
  PE X (.Call (.Name xn p) (e::es) [] pos) (aM (rS od (sp x C)) [] E0 t):=by
 intro pins s σ H Q I h
 refine wpAny_Call_Name_kw (ed I hg hm ?_ hdb)
 refine PySem.W.callWith_K (h₀:=X.base) I.ok.mod.kin hk (bv (ha pos pins s σ H _ I h) fun us s1 ⟨vs,H1,I1,r,q⟩=>⟨I1.kIn,?_⟩) he hpl
 obtain⟨g1,g2,g3,g4,_⟩:=I1.pin (x,oe) (List.mem_append_left _ hp)
 have hfr:x∉frs X.stack:=fun m=>by
  rcases List.mem_cons.mp (I1.stkSub x m)with z | z
  ·exact g3 z
  ·exact g4 z
 have q:rS od (sp x C) (vs++ []) H1 Q E0:=q
 rw[List.append_nil]at q
 obtain⟨hfz,q⟩:=q
 rw[List.nil_append]
 have hl:us.length=ps.length:=by rw[←r.length];exact F.len _ _ _ _ _ _ q
 refine wpAny_call (codeAny_mono (F.run x C od oe X.A X.stack s1 H1 ⟨us,[]⟩ us vs Q E0 hr hA hh hfz g1 g2 hfr I1.env0 (by have:=hb s1 us I1.kIn (by simpa using hl);simpa using this) r q) fun r s' hq=>?_)
 cases r with
 | error e=>exact hq.elim
 | ok fl =>
  cases fl with
  | ret u=>exact I1.after hq
  | next=>exact False.elim hq
  | brk=>exact False.elim hq
  | cont=>exact False.elim hq
end
end L2
namespace L2
open PySem PySem.Spec PySem.Calls PyProof.Rows Mi
section
variable {P:Program} {w:World} {K:PySem.W.Frag} {mg:Str→Option Value} {base:Heap}
theorem Fun.okR {x qual:Str} {st:Stmt} {f:Addr} {fd:FuncData} {N ps:List Str} {k:Nat} {sp:Sp} (F:Fun K x qual st f fd) (S:FnScope N ps (defScope st)) (len:∀vs H Q E,sp vs H Q E→vs.length=ps.length)
  (hbody:∀(cdv:Value) (A:Around) (outer:List Env) (s:Shared) (H:Hp) (vs:List V) (Q:VK) (E:XK),Room k (A.deeper (envOfC qual (defScope st) s.heap.objs.size f cdv))→sp vs H Q E→
   ∃t,PSs (kU P w K mg base N qual (defScope st) f cdv A outer s H E) (defBody st) t∧t {nx:=fun _ H'=>Q .non H',rt:=Q} (start N vs) H):FnOk P w K mg base (i6 P w) (k+1) f fd ps sp:=by
 obtain⟨oc,od,kV,doc,pm,an,cdv,ct,osl,rfl,lk,hcd⟩:=F.ex
 exact qD lk hcd S len fun A outer s H vs Q E hr hsp=>hbody cdv A outer s H vs Q E hr hsp
end
end L2
namespace Wb
open PySem L2 Mi
def Esc (Er:Nat→Prop) (cs:List Addr) (E:XK) (W:Wd):Prop:=∀j,Er j→∀x W',Ext W W'→W'.H x=none→E (.ref x) cs[j]? W'.H
theorem Esc.mono {Er:Nat→Prop} {cs:List Addr} {E:XK} {W W':Wd} (h:Esc Er cs E W) (e:Ext W W'):Esc Er cs E W':=fun j hj x W1 e1 hx=>h j hj x W1 (e.trans e1) hx
section
variable {Er:Nat→Prop} {α β γ δ ε ζ η:Type}
def nX (R1:Rp α) (R2:Rp γ) (R3:Rp δ) (R4:Rp ε) (cs:List Addr) (rt:Rt β) (m:α→γ→δ→ε→Res β):Sp:=fun vs H Q E=>∃(W:Wd) (a:α) (b:γ) (c:δ) (d:ε) (v u w x:V),W.H=H∧vs=[v,u,w,x]∧R1 W.G a v∧R2 W.G b u∧R3 W.G c w∧R4 W.G d x∧∃Er:Nat→Prop,Esc Er cs E W∧(m a b c d).OkE Er fun r=>rt W r Q
variable {t1 t2 t3 t4 t5 t6:TE} {σ:St} {W W0 W':Wd} {cs:List Addr} {E:XK} {R1:Rp α} {R2:Rp γ} {R3:Rp δ} {R4:Rp ε} {R5:Rp ζ} {R6:Rp η} [Mono R1] [Mono R2] [Mono R3] [Mono R4] [Mono R5] [Mono R6] {m1:Res α} {m2:Res γ} {m3:Res δ} {m4:Res ε} {m5:Res ζ} {m6:Res η}
end
theorem fc {α:Type} {Er:Nat→Prop} {cs:List Addr} {E:XK} {C:Addr} {te:TE} {R:Rw α} {m:Res α} {D:Ends} {σ:St} {W:Wd} {j:Nat} {β:Type} {P:β→Prop} (hE:Esc Er cs E W) (hc:cs[j]? =some C) (h:EV Er te σ W R m) (q:(m.bind fun _=>(Res.err j:Res β)).OkE Er P):nQ E C (af te aJ) D σ W.H:=
 h W (.refl _) _ ((Res.okE_bind q).imp fun a (ka:Er j) v W2 e2 hv=>⟨show 1≤sizeLine by decide,fun x hx=>by rw[←hc];exact hE j ka x W2 e2 hx⟩)
end Wb
namespace Wb
open PySem L2 Mi
structure CalH (P:Program) (w:World) (K:PySem.W.Frag) (mg:Str→Option Value) (base:Heap) (x:Str) (ps:List Str) (k:Nat) (sp:Addr→Addr→Sp):Prop where
 ex:∃(f:Addr) (fd:FuncData),FnOkH P w K mg base k f fd ps sp∧mg x=some (.ref f)∧PySem.W.keepIn K (.ref f)=true∧Binds K fd ps []
theorem pO {X:Cx} {xn:Str} {ps:List Str} {k:Nat} {sp:Addr→Addr→Sp} {x C:Addr} {od:Option Addr} {oe:Obj} {p pos:Pos} {e:Expr} {es:List Expr} {t:TA} (F:CalH X.prog X.w X.K X.mg X.base xn ps k sp) (hh:Held oe C od) (hr:RoomH k X.A) (hA:X.A.handled=some (.ref x)) (hp:(x,oe)∈X.pn) (hg:Gl X xn) (ha:PA X (e::es) t)
  (hdb:(xn == ("__debug__" :Str))=false:=by decide) (he:starEach (e::es) X.env=(false,eval e X.env)::starEach es X.env:=by rfl) (hpl:(backTo pos (starEach es X.env)).any (·.1)=false:=by rfl):
  PE X (.Call (.Name xn p) (e::es) [] pos) (aM (rS od (sp x C)) [] E0 t):=by
 obtain⟨f,fd,F,hm,hk,hb⟩:=F.ex
 exact nW F hr hA hh hp hg hm hk hb ha hdb he hpl
def ej (K:PySem.W.Frag) (cs:List Addr) (aB:Addr) (x C:Addr):Sp:=fun vs H Q _=>∃(W:Wd) (j:Nat),W.H=H∧vs=[.ref x]∧XK1 K C∧j< 13∧(∀i a,cs[i]? =some a→PySem.W.kitOne K (.ref C) (.ref a)=some (decide (i=j)))∧PySem.W.kitOne K (.ref C) (.ref aB)=some true∧PySem.W.kitOne K (.ref C) (.type "ValueError")=some true∧∀p W',Ext W W'→W.H p=none→Ow isS W' p [kindN.getD j []]→Q (.ref p) W'.H
structure Kin (K:PySem.W.Frag) (base:Heap) (cs:List Addr) (aB:Addr):Prop where
 len:cs.length=13
 top:∃bm,Xcl base aB bm
 one:∀(j:Nat) (C:Addr),cs[j]? =some C→XK1 K C∧(∀(i:Nat) (a:Addr),cs[i]? =some a→PySem.W.kitOne K (.ref C) (.ref a)=some (decide (i=j)))∧PySem.W.kitOne K (.ref C) (.ref aB)=some true∧PySem.W.kitOne K (.ref C) (.type "ValueError")=some true∧∃bm,Xcl base C bm∧(Value.ref C::bm).contains (.ref aB)=true
def EX (K:PySem.W.Frag) (cs:List Addr) (s:Tx) (W0:Wd) (Q:VK):XK:=fun v C H'=>(∃x,v=.ref x)∧∃(j:Nat) (W':Wd),C=cs[j]? ∧W'.H=H'∧Ext W0 W'∧rs (isU K) W0 (j9 s j) Q
section
variable {K:PySem.W.Frag} {base:Heap} {cs:List Addr} {aB:Addr} {W0 W:Wd} {Q:VK} {s:Tx} {ie:Nat} {σ:St} {D:Ends}
theorem EX.cl (Z:Kin K base cs aB):∀v C H,EX K cs s W0 Q v (some C) H→∃bmC,Xcl base C bmC∧(Value.ref C::bmC).contains (.ref aB)=true:=fun v C H ⟨_,j,W',h,_⟩=>(Z.one j C h.symm).2.2.2.2
theorem nY (Z:Kin K base cs aB) {x C:Addr} {od:Option Addr} {H':Hp} {σ':St} {xs:Str} (hs:xs=sOf s) (hD:D.rt=Q) (h:EX K cs s W0 Q (XV x od) (some C) H') (hi:ie< σ'.length):
  bC (bE (af (tC (.str xs)) (af (aM (rS od (ej K cs aB x C)) [] E0 (af (aZ ie) aJ)) aJ))) D (σ'.set ie (some (.ref x))) H':=by
 obtain⟨⟨x',hx'⟩,j,W',hj,rfl,e,q⟩:=h
 have ho:od=none:=by cases od with | none=>rfl | some d=>cases hx'
 obtain⟨z1,z2,z3,z4,_⟩:=Z.one j C hj.symm
 have hj':j< 13:=by rw[←Z.len];exact(List.getElem?_eq_some_iff.mp hj.symm).1
 have hk:EVo (fun _=>False) (aM (rS od (ej K cs aB x C)) [] E0 (af (aZ ie) aJ)) (σ'.set ie (some (.ref x))) W' isS (.ok [kindN.getD j []]):=fun W1 e1 Q1 k=>
  ⟨.ref x,by rw[List.getElem?_set_self hi],(fun d z=>by rw[ho]at z;cases z),W1,j,rfl,rfl,z1,hj',z2,z3,z4,fun p W2 e2 hp o=>k p W2 e2 hp o⟩
 refine bP (R:=sh (isU K)) (m:=.ok (j9 s j)) (fm (K:=K) (kR dn (qG dn)) (bq (K:=K) (ag (x:=xs) (l:=s) hs) (EVo.ev hk))) (fun v W2 e2 hv=>?_)
 rw[hD]
 exact q v W2 (e.trans e2) hv
end
end Wb
namespace Wb
open PySem L2 Mi
section
variable {α β γ δ:Type} {K:PySem.W.Frag} {base:Heap} {cs:List Addr} {aB:Addr} {W0 W:Wd} {Q:VK} {s:Tx} {ie i:Nat} {σ:St} {D:Ends} {t1 t2 t3:TE} {R1:Rp α} {R2:Rp γ} {R3:Rp δ} {R:Rp β} [Mono R1] [Mono R2] [Mono R3] {m1:Res α} {m2:Res γ} {m3:Res δ} {rest:TS} {σ':V→St} {xs:Str}
abbrev rA (K:PySem.W.Frag) (cs:List Addr) (aB:Addr) (ie:Nat) (xs:Str):Addr→Addr→Option Addr→Obj→TS:=fun x C od _=>bC (bE (af (tC (.str xs)) (af (aM (rS od (ej K cs aB x C)) [] E0 (af (aZ ie) aJ)) aJ)))
end
end Wb
namespace Wb
open PySem L2 Mi
end Wb
namespace Wb
open PySem L2 Mi
open PySem.W (findIn findObj mroIn kitOne kitCls clsIn typeIn subIn specialIn takesIn Frag)
def vE:List Value:=[.type "ValueError",.type "Exception",.type "BaseException",.type "object"]
def XcK (K:Frag) (C N:Addr) (bm:List Value):Prop:=∃nm q bs hdct sn sub ab col dd k0 k1 k2 k3 k5,K.lookup C=some (excClassObj nm q C N bs bm hdct sn sub ab col dd k0 k1 k2 k3 k5 "ValueError.__new__")
structure Cx1 (K:Frag) (aB C:Addr):Prop where
 at_:∃N,XcK K C N (.ref aB::vE)
 ga:findIn K (.ref C) "__getattribute__" =some (some (.builtin "BaseException.__getattribute__"))
 gt:findIn K (.ref C) "__getattr__" =some none
 cl:findIn K (.ref C) "__class__" =some (some (.builtin "object.__class__"))
section
variable {K:Frag} {base:Heap} {C D N:Addr} {bm bm':List Value}
theorem XcK.cls (x:XcK K C N bm):∃cd,clsIn K C=some cd∧cd.mro=.ref C::bm∧typeIn K (.ref C)=some (.type "type"):=by
 obtain⟨nm,q,bs,hdct,sn,sub,ab,col,dd,k0,k1,k2,k3,k5,e⟩:=x
 refine⟨{name:=nm,bases:=bs,mro:=.ref C::bm,ns:=N,qualname:=q,hasDict:=hdct,slotNames:=sn,subclasses:=sub,abstract:=ab,collection:=col,hasDel:=false},?_,rfl,?_⟩
 ·unfold clsIn;rw[e]
 ·show Option.map (fun x=>x.cls) (List.lookup C K)=_
  rw[e];rfl
theorem XcK.xcl (x:XcK K C N bm) (X:K.In base) (hb:bm.contains (.type "BaseException")=true):Xcl base C bm:=by
 obtain⟨nm,q,bs,hdct,sn,sub,ab,col,dd,k0,k1,k2,k3,k5,e⟩:=x
 exact⟨nm,q,N,bs,hdct,sn,sub,ab,col,dd,k0,k1,k2,k3,k5,_,X _ _ e,hb⟩
theorem XcK.mro (x:XcK K C N bm) (v:Value):mroIn K C v=some ((Value.ref C::bm).contains v):=by
 obtain⟨cd,h1,h2,_⟩:=x.cls
 unfold mroIn
 rw[h1,Option.bind_some,h2]
 rfl
theorem XcK.kit {N':Addr} (x:XcK K C N bm) (y:XcK K D N' bm'):kitOne K (.ref C) (.ref D)=some ((Value.ref C::bm).contains (.ref D)):=by
 obtain⟨cd,h1,h2,h3⟩:=y.cls
 unfold kitOne
 by_cases e:(Value.ref C == Value.ref D)=true
 ·rw[if_pos e]
  rw[beq_iff_eq.mp e,List.contains_cons]
  simp
 ·rw[if_neg e]
  show(if((clsIn K D).isSome && typeIn K (.ref D) == some (.type "type"))=true then subIn K (.ref C) (.ref D)else none)=_
  rw[h1,h3,if_pos (by simp)]
  exact x.mro _
theorem XcK.kitT {T:String} (x:XcK K C N bm) (hT:PySem.W.kitMeta T=true):kitOne K (.ref C) (.type T)=some ((Value.ref C::bm).contains (.type T)):=by
 unfold kitOne
 rw[if_neg (by intro z;cases beq_iff_eq.mp z)]
 show(if PySem.W.kitMeta T=true then subIn K (.ref C) (.type T)else none)=_
 rw[if_pos hT]
 exact x.mro _
end
theorem Cx1.xk {K:Frag} {aB C:Addr} (x:Cx1 K aB C) (hn:specialIn K (.builtin "object.__class__") "__get__" =some (some (.builtin "getset_descriptor.__get__"))) (ht:takesIn K (.builtin "object.__class__")=some true):XK1 K C:=by
 obtain⟨N,h⟩:=x.at_
 refine⟨x.ga,x.gt,?_,?_,?_⟩
 ·intro od
  obtain⟨cd,h1,h2,h3⟩:=h.cls
  unfold findObj
  rw[h1,Option.bind_some,x.cl,Option.bind_some]
  simp[hn,ht]
 ·rw[h.mro];simp[vE]
 ·rw[h.mro];simp[vE]
theorem i8 {α:Type} :∀{l:List α},l.Nodup→∀{i j:Nat} {x:α},l[i]? =some x→l[j]? =some x→i=j
 | [],_,i,j,x,a,_=>by simp at a
 | y::r,nd,0,0,x,a,b=>rfl
 | y :: r, nd, 0, j + 1, x, a, b => by
  simp at a b
  subst a
  exact absurd (List.mem_of_getElem? b) (List.nodup_cons.mp nd).1
 | y :: r, nd, i + 1, 0, x, a, b => by
  simp at a b
  subst b
  exact absurd (List.mem_of_getElem? a) (List.nodup_cons.mp nd).1
 | y :: r, nd, i + 1, j + 1, x, a, b => by
  simp at a b
  rw[i8 (List.nodup_cons.mp nd).2 a b]
theorem Kin.of {K:Frag} {base:Heap} {cs:List Addr} {aB NB:Addr} (X:K.In base) (hn:specialIn K (.builtin "object.__class__") "__get__" =some (some (.builtin "getset_descriptor.__get__"))) (ht:takesIn K (.builtin "object.__class__")=some true)
  (len:cs.length=13) (nd:(aB::cs).Nodup) (top:XcK K aB NB vE) (all:∀C∈cs,Cx1 K aB C):Kin K base cs aB:=by
 have one:∀(j:Nat) (C:Addr),cs[j]? =some C→C∈cs:=fun j C h=>List.mem_of_getElem? h
 refine⟨len,⟨vE,top.xcl X (by decide)⟩,fun j C h=>?_⟩
 have hC:=all C (one j C h)
 obtain⟨N,hx⟩:=hC.at_
 refine⟨hC.xk hn ht,fun i a hi=>?_,?_,?_,.ref aB::vE,hx.xcl X (by simp[vE]),by simp⟩
 ·have ha:=all a (one i a hi)
  obtain⟨N',hy⟩:=ha.at_
  rw[hx.kit hy]
  have nB:a≠aB:=fun z=>(List.nodup_cons.mp nd).1 (z▸one i a hi)
  have nd':=(List.nodup_cons.mp nd).2
  have key:(a=C)↔i=j:=by
   constructor
   ·intro z
    subst z
    obtain⟨l1,e1⟩:=List.getElem?_eq_some_iff.mp hi
    obtain⟨l2,e2⟩:=List.getElem?_eq_some_iff.mp h
    exact i8 nd' hi h
   ·intro z
    subst z
    rw[hi]at h
    exact Option.some.inj h
  by_cases z:i=j
  ·have:=key.mpr z
   subst this
   simp[z]
  ·have:¬a=C:=fun y=>z (key.mp y)
   simp[z,this,nB,vE]
 ·rw[hx.kit top];simp
 ·rw[hx.kitT (by decide +kernel)];simp[vE]
theorem Ecl.of {K:Frag} {base:Heap} {aB C N NB:Addr} {o oB:Obj} {es eB:Array DictEntry} {ep pB:Nat} (X:K.In base) (h:XcK K C N (.ref aB::vE)) (hB:XcK K aB NB vE) (n:K.lookup N=some o) (d:o.data=.dict es ep) (k:StrKeys es) (i:nsFind es "__init__" =none)
  (nB:K.lookup NB=some oB) (dB:oB.data=.dict eB pB) (kB:StrKeys eB) (iB:nsFind eB "__init__" =none):Ecl base C:=by
 obtain⟨nm,q,bs,hdct,sn,sub,ab,col,dd,k0,k1,k2,k3,k5,e⟩:=h
 obtain⟨nm',q',bs',hdct',sn',sub',ab',col',dd',k0',k1',k2',k3',k5',e'⟩:=hB
 exact⟨nm,q,N,bs,.ref aB::vE,hdct,sn,sub,ab,col,dd,k0,k1,k2,k3,k5,_,fun x=>nsFind es x,"ValueError",_,vE,X _ _ e,⟨o,es,ep,X _ _ n,d,k,fun _=>rfl⟩,i,.own (X _ _ e') ⟨oB,eB,pB,X _ _ nB,dB,kB,fun _=>rfl⟩ iB .base,PySem.F.excBase_ValueError⟩
def nZ:Value→Bool
 | .str _ _=>true
 | _=>false
theorem strKeys_of {es:Array DictEntry} (h:(es.toList.all fun e=>nZ e.key)=true):StrKeys es:=fun e he=>by
 have:=List.all_eq_true.mp h e (Array.mem_toList_iff.mpr he)
 unfold nZ at this
 split at this
 ·rename_i n t q;exact⟨n,t,q⟩
 ·cases this
end Wb
namespace Wb
open PySem L2 Mi
theorem o0 (a:Tx) (b:List Tx):so (.str (sOf a)) (b.map fun x=>V.str (sOf x))=b.contains a:=by
 unfold so
 rw[List.any_map,Bool.eq_iff_iff,List.any_eq_true,List.contains_iff_mem]
 constructor
 ·rintro ⟨x,hx,e⟩
  have:sOf x=sOf a:=by simpa [L2.eqV] using e
  rw[←iq this];exact hx
 ·intro h
  exact⟨a,h,by simp[L2.eqV]⟩
end Wb
namespace L2
open PySem PySem.Spec PyProof.Rows
abbrev TJ:=Str→St→Hp→(Str→Hp→Prop)→Prop
def PJ (X:Cx) (es:List Expr) (t:TJ):Prop:=∀(acc:Str) (pins:List (Addr×Obj)) (s:Shared) (σ:St) (H:Hp) (Q:Str→Hp→Prop),Inv X pins σ H s→t acc σ H Q→
 Joins (model X.prog X.w) X.A X.xe (evalEach es X.env) acc (fun out s1=>∃H1,Inv X pins σ H1 s1∧Q out H1) s
def sG:TJ:=fun acc _ H Q=>Q acc H
def sH (x:Str) (t:TJ):TJ:=fun acc σ H Q=>(acc++x).length≤sizeLine∧t (acc++x) σ H Q
def rB (te:TE) (t:TJ):TJ:=fun acc σ H Q=>te σ H fun v H1=>∃y:Str,((v=.str y∧y.length≤sizeLine)∨∃i:Int,v=.int i∧i.natAbs.log2< 1920∧y=Str.ofString (toString i))∧(acc++y).length≤sizeLine∧t (acc++y) σ H1 Q
def qJ (t:TJ):TE:=fun σ H Q=>t Str.empty σ H fun out H1=>out.length≤sizeLine∧Q (.str out) H1
section
variable {X:Cx} {e:Expr} {es:List Expr} {te:TE} {t:TJ} {pos:Pos}
theorem jM:PJ X [] sG:=fun acc pins s σ H Q I h=>⟨H,I,h⟩
theorem jN {x:Str} {k} (ht:PJ X es t):PJ X (.Constant (.str x) k pos::es) (sH x t):=fun acc pins s σ H Q I h=>by
 have:=(aj (X:=X) (pos:=pos) (j:=k) (x:=x)) pins s σ H (fun v H1=>v=.str x∧H1=H) I ⟨rfl,rfl⟩
 refine bv this fun v s1 ⟨u,H1,I1,r,e1,e2⟩=>?_
 rw[e1]at r
 rw[e2]at I1
 obtain⟨tk,rfl⟩:=r
 exact⟨x,_,rfl,h.1,ht _ pins s1 σ H Q I1 h.2⟩
theorem jO (he:PE X e te) (ht:PJ X es t):PJ X (.FormattedValue e (-1) none pos::es) (rB te t):=fun acc pins s σ H Q I h=>by
 show wpAny _ _ (eval (.FormattedValue e (-1) none pos) X.env) _ _ _
 refine wpAny_FormattedValue_plain (bv (he pins s σ H _ I h) fun v s1 ⟨u,H1,I1,r,y,hy,hl,q⟩=>?_)
 rcases hy with⟨rfl,hz⟩ | ⟨i,rfl,hz,rfl⟩
 ·obtain⟨tk,rfl⟩:=r
  refine wpAny_formatField_str ?_ ?_ hz
  ·exact⟨y,_,rfl,hl,ht _ pins _ σ H1 Q I1 q⟩
  ·exact⟨y,_,rfl,hl,ht _ pins _ σ H1 Q (I1.tok _) q⟩
 ·obtain⟨tk,rfl⟩:=r
  refine wpAny_formatField_int hz ?_
  exact⟨_,_,rfl,hl,ht _ pins _ σ H1 Q (I1.tok _) q⟩
theorem fo {e1 e2:Expr} (ht:PJ X (e1::e2::es) t):PE X (.JoinedStr (e1::e2::es) pos) (qJ t):=fun pins s σ H Q I h=>by
 refine wpAny_JoinedStr ?_
 have mono:∀(es:List (Sem Value)) (acc:Str) (P P':Str→Shared→Prop) (s:Shared),(∀o s,P o s→P' o s)→Joins (model X.prog X.w) X.A X.xe es acc P s→Joins (model X.prog X.w) X.A X.xe es acc P' s:=by
  intro es
  induction es with
  | nil=>intro acc P P' s k h;exact k _ _ h
  | cons a r ih=>intro acc P P' s k h;exact bv h fun v s1 ⟨y,t,e,l,q⟩=>⟨y,t,e,l,ih _ _ _ _ k q⟩
 refine mono _ _ _ _ _ (fun o s1 ⟨H1,I1,hz,q⟩=>⟨hz,.str o,H1,I1.tok _,⟨_,rfl⟩,q⟩) (ht Str.empty pins s σ H _ I h)
end
end L2
namespace Wb
open PySem L2 Mi
theorem pP (i:Int):Str.ofString (toString i)=sOf (jH i):=by rw[Str.ofString_eq_toList];rfl
def JV (Er:Nat→Prop) (t:TJ) (σ:St) (W:Wd) (f:Tx→Res Tx):Prop:=∀W1,Ext W W1→∀(acc:Tx) (Q:Str→Hp→Prop),(f acc).OkE Er (fun out=>∀W2,Ext W1 W2→Q (sOf out) W2.H)→t (sOf acc) σ W1.H Q
section
variable {Er:Nat→Prop} {te:TE} {t:TJ} {σ:St} {W:Wd} {f:Tx→Res Tx}
theorem jP:JV Er sG σ W fun acc=>.ok acc:=fun W1 _ acc Q k=>k W1 (.refl _)
theorem jQ {x:Str} {l:Tx} (hx:x=sOf l) (h:JV Er t σ W f):JV Er (sH x t) σ W fun acc=>(fL acc l).bind f:=fun W1 e1 acc Q k=>by
 obtain⟨h1,h2⟩:=b0 (Res.okE_bind k)
 subst hx
 refine⟨?_,?_⟩ <;> rw[eK]
 ·rw[cN,List.length_append];exact gq h1
 ·exact h W1 e1 _ Q h2
theorem pQ {m:Res Tx} (he:EV Er te σ W (sh isS) m) (h:JV Er t σ W f):JV Er (rB te t) σ W fun acc=>m.bind fun y=>(fL acc y).bind f:=fun W1 e1 acc Q k=>
 he W1 e1 _ ((Res.okE_bind k).imp fun y ky v W2 e2 hv=>by
  cases hv
  obtain⟨h1,h2⟩:=b0 (Res.okE_bind ky)
  refine⟨sOf y,.inl ⟨rfl,by rw[cN];exact gq (by omega)⟩,?_,?_⟩ <;> rw[eK]
  ·rw[cN,List.length_append];exact gq h1
  ·exact h W2 (e1.trans e2) _ Q (h2.imp fun out ko W3 e3=>ko W3 (e2.trans e3)))
theorem kX {m:Res Int} (he:EV Er te σ W (sh isI) m) (h:JV Er t σ W f):JV Er (rB te t) σ W fun acc=>m.bind fun i=>(nO i).bind fun y=>(fL acc y).bind f:=fun W1 e1 acc Q k=>
 he W1 e1 _ ((Res.okE_bind k).imp fun i ki v W2 e2 hv=>by
  cases hv
  obtain⟨h0,ky⟩:=b0 (Res.okE_bind ki)
  obtain⟨h1,h2⟩:=b0 (Res.okE_bind ky)
  refine⟨Str.ofString (toString i),.inr ⟨i,rfl,h0,rfl⟩,?_,?_⟩ <;> rw[pP,eK]
  ·rw[cN,List.length_append];exact gq h1
  ·exact h W2 (e1.trans e2) _ Q (h2.imp fun out ko W3 e3=>ko W3 (e2.trans e3)))
theorem fq (h:JV Er t σ W f):EV Er (qJ t) σ W (sh isS) ((f []).bind jI):=fun W1 e1 Q k=>
 h W1 e1 [] _ ((Res.okE_bind k).imp fun out ko W2 e2 => by
  obtain⟨h1,h2⟩:=b0 ko
  exact⟨by rw[cN];exact gq h1,h2 _ W2 e2 rfl⟩)
end
end Wb
namespace Mi
def pR {α:Type} (xs:List α) (k:Int):Res (List α):=dN (-100000≤k∧k≤100000∧xs.length*k.toNat≤cap) (List.replicate k.toNat xs).flatten
end Mi
namespace Mi
end Mi
namespace Wb
open PySem L2 Mi
end Wb
namespace Wb
open PySem L2 Mi
section
variable {Er:Nat→Prop} {α:Type} {K:PySem.W.Frag} {W:Wd} {p:Addr} {ta tb:TE} {σ:St}
theorem tR (x a b c:Tx):so (.str (sOf x)) [.str (sOf a),.str (sOf b),.str (sOf c)]=[a,b,c].contains x:=by
 have:=o0 x [a,b,c];exact this
theorem pS {ma:Res Tx} {mb:Res (Tx×Tx×Tx)} (ha:EV Er ta σ W (sh isS) ma) (hb:EV Er tb σ W (sh (isT3 K isS isS isS)) mb):EV Er (cC (dl K false) ta tb) σ W (sh isB) (ma.bind fun a=>mb.bind fun b=>.ok ([b.1,b.2.1,b.2.2].contains a)):=
 jE ha hb fun W a b x y Q hx hy k=>by
  cases hx
  obtain⟨p,u,v,w,rfl,h1,h2,h3,h4⟩:=hy
  cases h2;cases h3;cases h4
  refine⟨p,_,rfl,.inr (Same.tup W.ok h1),rfl,by simp[L2.flatV],?_⟩
  rw[if_neg Bool.false_ne_true,tR]
  exact k _ W (.refl _) rfl
end
end Wb
namespace L2
open PySem PySem.Spec PyProof.Rows
end L2
namespace Wb
open PySem L2 Mi
section
variable {Er:Nat→Prop} {α β:Type} {K:PySem.W.Frag} {W W0:Wd} {p:Addr} {ta tb te:TE} {σ:St} {D:Ends} {i:Nat} {r:TS} {base:Heap}
theorem LR.app {R:Rp α} {H:Hp} {as bs:List α} {vs us:List V} (h2:LR R H as vs) (h4:LR R H bs us):LR R H (as++bs) (vs++us):=⟨by rw[List.length_append,List.length_append,h2.1,h4.1],fun i v m q1 q2=>by
 by_cases hi:i< vs.length
 ·rw[List.getElem?_append_left hi]at q1
  rw[List.getElem?_append_left (by rw[←h2.1];exact hi)]at q2
  exact h2.2 i v m q1 q2
 ·rw[List.getElem?_append_right (by omega)]at q1
  rw[List.getElem?_append_right (by rw[←h2.1];omega)]at q2
  rw[←h2.1]at q2
  exact h4.2 _ v m q1 q2⟩
theorem LR.rep {R:Rp α} {H:Hp} {as:List α} {vs:List V} (h:LR R H as vs):∀k:Nat,LR R H (List.replicate k as).flatten (List.replicate k vs).flatten
 | 0=>⟨rfl,fun i v m q1 q2=>by simp at q1⟩
 | k + 1 => by
  rw[List.replicate_succ,List.replicate_succ,List.flatten_cons,List.flatten_cons]
  exact LR.app h (LR.rep h k)
theorem pT {R:Rp α} [Mono R] {ma:Res (List α)} {mb:Res Int} (ha:EV Er ta σ W (pk R) ma) (hb:EV Er tb σ W (sh isI) mb):EVo Er (cC ss ta tb) σ W R (ma.bind fun a=>mb.bind fun b=>pR a b):=fun W1 e1 Q k=>
 ha W1 e1 _ ((Res.okE_bind k).imp fun a ka x W2 e2 hx=>hb W2 (e1.trans e2) _ ((Res.okE_bind ka).imp fun b kb y W3 e3 hy=>by
  cases hy
  obtain⟨p,vs,rfl,h1,h2⟩:=MonoW.mono e3 hx
  obtain⟨⟨h5,h6,h7⟩,h8⟩:=b0 kb
  refine⟨p,b,vs,rfl,rfl,h1,by omega,by omega,by rw[h2.1];exact gq h7,fun r hr=>h8 r (W3.mut r (.lst (List.replicate b.toNat vs).flatten) (W3.gnone hr)) ((e2.trans e3).trans (.own _ hr)) (none_of (e2.trans e3).h hr) ⟨W3.gnone hr,_,ax,LR.rep h2 _⟩⟩))
end
end Wb
namespace L2
open PySem PySem.Spec PySem.Calls PyProof.Rows Mi
end L2
namespace Wb
open PySem L2 Mi
end Wb
namespace L2
open PySem PySem.Spec PyProof.Rows
end L2
namespace L2
open PySem PySem.Spec PyProof.Rows
end L2
namespace Wb
open PySem L2 Mi
end Wb
namespace L2
open PySem PySem.Spec PyProof.Rows
end L2
namespace Wb
open PySem L2 Mi
end Wb
namespace Wb
open PySem L2 Mi
end Wb
namespace Mi
def gP {α β:Type} (p:List β×(List β→α)) (j:Int):Res (β×(β→α)):=(d4 (ixN p.1.length j)).bind fun k=>(d4 p.1[k]?).bind fun b=>.ok (b,fun b'=>p.2 (p.1.set k b'))
end Mi
namespace Wb
open PySem L2 Mi
abbrev FS:=Addr→Prop
abbrev Rf (α:Type):=Wd→FS→α→V→Prop
theorem nn_of {H:Hp} {q:Addr} {o:HO} (h:H q=some o):H q≠none:=by rw[h];exact fun z=>nomatch z
structure MuF (F:FS) (W W':Wd):Prop where
 g:Same W.G W'.G
 h:∀q,¬F q→W.H q≠none→W'.H q=W.H q
 k:∀q,W.H q≠none→W'.G q=W.G q
 n:∀q,W.H q≠none→W'.H q≠none
section
variable {α β γ:Type} {K:PySem.W.Frag} {W W' W0 W1 W2:Wd} {F F' F1:FS}
theorem Ext.keepH (e:Ext W W') {q:Addr} (hn:W.H q≠none):W'.H q=W.H q:=by
 obtain⟨o,ho⟩:=Option.ne_none_iff_exists'.mp hn
 rw[ho];exact e.h _ _ ho
theorem Ext.muF (e:Ext W W'):MuF F W W':=⟨e.g,fun q _ hn=>e.keepH hn,e.k,fun q hn=>by rw[e.keepH hn];exact hn⟩
theorem MuF.trans (m:MuF F W W1) (m':MuF F1 W1 W2) (hF:∀q,F1 q→F q∨W.H q=none):MuF F W W2:=⟨m.g.trans m'.g,fun q hq hn=>by
 have h1:=m.h q hq hn
 have:¬F1 q:=fun z=>(hF q z).elim hq hn
 rw[m'.h q this (by rw[h1];exact hn),h1],fun q hn=>by rw[m'.k q (m.n q hn),m.k q hn],fun q hn=>m'.n q (m.n q hn)⟩
theorem MuF.of {p:Addr} {o:HO} (hF:F p) (hg:W.G p=none):MuF F W (W.mut p o hg):=⟨.refl _,fun q hq hn=>ay fun z=>hq (z▸hF),fun _ _=>rfl,fun q hn=>by
 show bQ W.H p o q≠none
 by_cases z:q=p
 ·rw[z,ax];exact fun z=>nomatch z
 ·rw[ay z];exact hn⟩
class FrT (R:Rf α):Prop where
 fr:∀{W W':Wd} {F:FS} {a:α} {v:V},R W F a v→Same W.G W'.G→(∀q,F q→W'.H q=W.H q∧W'.G q=W.G q)→R W' F a v
 lv:∀{W:Wd} {F:FS} {a:α} {v:V},R W F a v→∀q,F q→W.G q=none∧W.H q≠none
theorem FrT.ext {R:Rf α} [FrT R] {a:α} {v:V} (t:R W F a v) (e:Ext W W'):R W' F a v:=FrT.fr t e.g fun q hq=>⟨e.keepH (FrT.lv t q hq).2,e.k q (FrT.lv t q hq).2⟩
theorem FrT.mu {R:Rf α} [FrT R] {a:α} {v:V} (t:R W F a v) (m:MuF F' W W') (dj:∀q,F q→F' q→False):R W' F a v:=FrT.fr t m.g fun q hq=>⟨m.h q (dj q hq) (FrT.lv t q hq).2,m.k q (FrT.lv t q hq).2⟩
class FzT (R:Rf α) (R':outParam (Rp α)):Prop where
 fz:∀{W W':Wd} {F:FS} {a:α} {v:V},R W F a v→Same W.G W'.G→(∀q,F q→W'.G q=W.H q)→R' W'.G a v
def fz (R:Rp α):Rf α:=fun W F a v=>(∀q,¬F q)∧R W.G a v
instance zkeep44 {R:Rp α} [Mono R]:FrT (fz R):=⟨fun h s _=>⟨h.1,Mono.mono s h.2⟩,fun h q hq=>absurd hq (h.1 q)⟩
instance zkeep45 {R:Rp α} [Mono R]:FzT (fz R) R:=⟨fun h s _=>Mono.mono s h.2⟩
structure TL (R:Rf α) (W:Wd) (Fs:Nat→FS) (xs:List α) (vs:List V):Prop where
 len:vs.length=xs.length
 el:∀i x u,xs[i]? =some x→vs[i]? =some u→R W (Fs i) x u
 rng:∀i q,Fs i q→i< xs.length
 dj:∀i j q,Fs i q→Fs j q→i=j
def oL (R:Rf α):Rf (List α):=fun W F xs v=>∃(p:Addr) (vs:List V) (Fs:Nat→FS),v=.ref p∧W.G p=none∧W.H p=some (.lst vs)∧TL R W Fs xs vs∧(∀i,¬Fs i p)∧∀q,F q↔q=p∨∃i,Fs i q
theorem TL.at2 {R:Rf α} {Fs:Nat→FS} {xs:List α} {vs:List V} (t:TL R W Fs xs vs) {i:Nat} {q:Addr} (h:Fs i q):∃x u,xs[i]? =some x∧vs[i]? =some u∧R W (Fs i) x u:=by
 have h1:=t.rng i q h
 have h2:i< vs.length:=by rw[t.len];exact h1
 exact⟨xs[i],vs[i],by simp[h1],by simp[h2],t.el i _ _ (by simp[h1]) (by simp[h2])⟩
instance zkeep46 {R:Rf α} [FrT R]:FrT (oL R):=⟨fun⟨p,vs,Fs,e,g,h,t,np,hF⟩ s k=>by
 have kp:=k p ((hF p).mpr (.inl rfl))
 exact⟨p,vs,Fs,e,by rw[kp.2];exact g,by rw[kp.1];exact h,⟨t.len,fun i x u a b=>FrT.fr (t.el i x u a b) s (fun q hq=>k q ((hF q).mpr (.inr ⟨i,hq⟩))),t.rng,t.dj⟩,np,hF⟩,fun⟨p,vs,Fs,e,g,h,t,np,hF⟩ q hq=>by
 rcases (hF q).mp hq with rfl | ⟨i,hi⟩
 ·exact⟨g,nn_of h⟩
 ·obtain⟨x,u,_,_,r⟩:=t.at2 hi
  exact FrT.lv r q hi⟩
instance zkeep47 {R:Rf α} {R':Rp α} [FzT R R']:FzT (oL R) (isL R'):=⟨fun⟨p,vs,Fs,e,g,h,t,np,hF⟩ s k=>⟨p,vs,e,by rw[k p ((hF p).mpr (.inl rfl))];exact h,t.len,fun i u x a b=>FzT.fz (t.el i x u b a) s fun q hq=>k q ((hF q).mpr (.inr ⟨i,hq⟩))⟩⟩
structure TC where
 {α:Type}
 R:Rf α
 a:α
 v:V
 i:FrT R
def tc (R:Rf α) [FrT R] (a:α) (v:V):TC:=⟨R,a,v,inferInstance⟩
def noT:Rf Unit:=fun _ F _ _=>∀q,¬F q
instance zkeep48:FrT noT:=⟨fun h _ _=>h,fun h q hq=>absurd hq (h q)⟩
def tS:TC:=tc noT () .non
structure SepF (W0 W:Wd) (Fs:Nat→FS) (cs:List TC):Prop where
 el:∀(i:Nat) (c:TC),cs[i]? =some c→c.R W (Fs i) c.a c.v
 rng:∀i q,Fs i q→i< cs.length
 dj:∀i j q,Fs i q→Fs j q→i=j
 nw:∀i q,Fs i q→W0.H q=none
def Sep (W0 W:Wd) (cs:List TC):Prop:=∃Fs,SepF W0 W Fs cs
variable {cs:List TC}
theorem Sep.nil:Sep W0 W []:=⟨fun _ _=>False,fun _ _ h=>by simp at h,fun _ _ h=>h.elim,fun _ _ _ h=>h.elim,fun _ _ h=>h.elim⟩
theorem SepF.lv {Fs:Nat→FS} (s:SepF W0 W Fs cs) {i:Nat} {q:Addr} (h:Fs i q):W.G q=none∧W.H q≠none:=by
 have h1:=s.rng i q h
 have:=s.el i cs[i] (by simp[h1])
 exact @FrT.lv _ _ cs[i].i _ _ _ _ this q h
theorem Sep.ext (s:Sep W0 W cs) (e:Ext W W'):Sep W0 W' cs:=by
 obtain⟨Fs,s⟩:=s
 exact⟨Fs,fun i c h=> @FrT.ext _ _ _ _ _ c.i _ _ (s.el i c h) e,s.rng,s.dj,s.nw⟩
theorem SepF.put {Fs:Nat→FS} {R:Rf β} [FrT R] {b:β} {u:V} {i:Nat} (s:SepF W0 W Fs cs) (E:Ext W0 W) (m:MuF (Fs i) W W') (hF:∀q,F q→Fs i q∨W.H q=none) (t:R W' F b u) (hi:i< cs.length):Sep W0 W' (cs.set i (tc R b u)):=by
 refine⟨fun j=>if j=i then F else Fs j,fun j c h=>?_,fun j q h=>?_,fun j k q h1 h2=>?_,fun j q h=>?_⟩
 ·rw[List.getElem?_set]at h
  by_cases z:i=j
  ·subst z
   rw[if_pos rfl,if_pos hi]at h
   cases h
   simp only[if_true]
   exact t
  ·rw[if_neg z]at h
   simp only[if_neg (Ne.symm z)]
   exact @FrT.mu _ _ _ _ _ _ c.i _ _ (s.el j c h) m fun q a b=>z (s.dj j i q a b).symm
 ·rw[List.length_set]
  by_cases z:j=i
  ·rw[z];exact hi
  ·simp only[if_neg z]at h;exact s.rng j q h
 ·have key:∀j q,(if j=i then F else Fs j) q→(j=i∧F q)∨(j≠i∧Fs j q):=fun j q h=>by
   by_cases z:j=i
   ·exact .inl ⟨z,by simpa [if_pos z] using h⟩
   ·exact .inr ⟨z,by simpa [if_neg z] using h⟩
  rcases key j q h1 with⟨z1,a⟩ | ⟨z1,a⟩ <;> rcases key k q h2 with⟨z2,b⟩ | ⟨z2,b⟩
  ·rw[z1,z2]
  ·exact((hF q a).elim (fun y=>z2 (s.dj k i q b y)) fun y=>absurd y (s.lv b).2).elim
  ·exact((hF q b).elim (fun y=>z1 (s.dj j i q a y)) fun y=>absurd y (s.lv a).2).elim
  ·exact s.dj j k q a b
 ·by_cases z:j=i
  ·simp only[if_pos z]at h
   exact(hF q h).elim (s.nw i q) fun y=>none_of E.h y
  ·simp only[if_neg z]at h;exact s.nw j q h
theorem Sep.add {R:Rf β} [FrT R] {b:β} {u:V} (s:Sep W0 W cs) (E:Ext W0 W) (e:Ext W W') (hF:∀q,F q→W.H q=none) (t:R W' F b u):Sep W0 W' (cs++ [tc R b u]):=by
 obtain⟨Fs,s⟩:=s
 have hn:∀j q,j=cs.length→¬Fs j q:=fun j q z h=>by have:=s.rng j q h;omega
 have key:∀j q,(if j=cs.length then F else Fs j) q→(j=cs.length∧F q)∨(j< cs.length∧Fs j q):=fun j q h=>by
  by_cases z:j=cs.length
  ·exact .inl ⟨z,by simpa [if_pos z] using h⟩
  ·have h':Fs j q:=by simpa [if_neg z] using h
   exact .inr ⟨s.rng j q h',h'⟩
 refine⟨fun j=>if j=cs.length then F else Fs j,fun j c h=>?_,fun j q h=>?_,fun j k q h1 h2=>?_,fun j q h=>?_⟩
 ·by_cases z:j< cs.length
  ·rw[List.getElem?_append_left z]at h
   simp only[if_neg (Nat.ne_of_lt z)]
   exact @FrT.ext _ _ _ _ _ c.i _ _ (s.el j c h) e
  ·rw[List.getElem?_append_right (by omega)]at h
   have:j- cs.length=0:=by
    refine Classical.byContradiction fun y=>?_
    rw[List.getElem?_eq_none_iff.mpr (by simp;omega)]at h;cases h
   rw[this]at h
   cases h
   have z2:j=cs.length:=by omega
   simp only[if_pos z2]
   exact t
 ·rw[List.length_append,List.length_singleton]
  rcases key j q h with⟨a,_⟩ | ⟨a,_⟩ <;> omega
 ·rcases key j q h1 with⟨z1,a⟩ | ⟨z1,a⟩ <;> rcases key k q h2 with⟨z2,b⟩ | ⟨z2,b⟩
  ·omega
  ·exact absurd (hF q a) (s.lv b).2
  ·exact absurd (hF q b) (s.lv a).2
  ·exact s.dj j k q a b
 ·rcases key j q h with⟨_,a⟩ | ⟨_,a⟩
  ·exact none_of E.h (hF q a)
  ·exact s.nw j q a
theorem SepF.del {Fs:Nat→FS} (s:SepF W0 W Fs cs) (i:Nat):Sep W0 W (cs.eraseIdx i):=by
 by_cases hi:i< cs.length
 ·have key:∀j q,(if j< i then Fs j else Fs (j+1)) q→(j< i∧Fs j q)∨(i≤j∧Fs (j+1) q):=fun j q h=>by
   by_cases z:j< i
   ·exact .inl ⟨z,by simpa [if_pos z] using h⟩
   ·exact .inr ⟨by omega,by simpa [if_neg z] using h⟩
  refine⟨fun j=>if j< i then Fs j else Fs (j+1),fun j c h=>?_,fun j q h=>?_,fun j k q h1 h2=>?_,fun j q h=>?_⟩
  ·by_cases z:j< i
   ·rw[List.getElem?_eraseIdx_of_lt z]at h
    simp only[if_pos z]
    exact s.el j c h
   ·rw[List.getElem?_eraseIdx_of_ge (by omega)]at h
    simp only[if_neg z]
    exact s.el (j+1) c h
  ·rw[List.length_eraseIdx,if_pos hi]
   rcases key j q h with⟨a,b⟩ | ⟨a,b⟩
   ·omega
   ·have:=s.rng _ q b;omega
  ·rcases key j q h1 with⟨z1,a⟩ | ⟨z1,a⟩ <;> rcases key k q h2 with⟨z2,b⟩ | ⟨z2,b⟩ <;> have:=s.dj _ _ q a b <;> omega
  ·rcases key j q h with⟨_,a⟩ | ⟨_,a⟩ <;> exact s.nw _ q a
 ·rw[List.eraseIdx_of_length_le (by omega)];exact⟨Fs,s⟩
open Classical in
theorem Sep.frz {R:Rf β} [FrT R] {R':Rp β} [FzT R R'] {b:β} {u:V} {i:Nat} (s:Sep W0 W cs) (E:Ext W0 W) (hc:cs[i]? =some (tc R b u)):∃W',W'.H=W.H∧Ext W0 W'∧Same W.G W'.G∧Sep W0 W' (cs.eraseIdx i)∧R' W'.G b u:=by
 obtain⟨Fs,s⟩:=s
 have hs:Same W.G fun q=>if Fs i q then W.H q else W.G q:=fun a o h=>by
  show(if Fs i a then _ else _)=_
  rw[if_neg fun z=>by have:=(s.lv z).1;rw[h]at this;cases this];exact h
 have ho:Same (fun q=>if Fs i q then W.H q else W.G q) W.H:=fun a o h=>by
  have h:(if Fs i a then W.H a else W.G a)=some o:=h
  split at h
  ·exact h
  ·exact W.ok _ _ h
 let W':Wd:=⟨_,W.H,ho⟩
 refine⟨W',rfl,⟨E.g.trans hs,E.h,fun q hq=>?_⟩,hs,?_,FzT.fz (R:=R) (s.el i _ hc) hs fun q hq=>if_pos hq⟩
 ·show(if Fs i q then _ else _)=_
  rw[if_neg fun z=>hq (s.nw i q z)];exact E.k q hq
 ·have s2:SepF W0 W' (fun k=>if k=i then(fun _=>False)else Fs k) (cs.set i tS):=by
   have key:∀k q,(if k=i then(fun _=>False)else Fs k) q→k≠i∧Fs k q:=fun k q h=>by
    by_cases z:k=i
    ·simp[if_pos z]at h
    ·exact⟨z,by simpa [if_neg z] using h⟩
   refine⟨fun k c h=>?_,fun k q h=>?_,fun k l q h1 h2=>s.dj k l q (key k q h1).2 (key l q h2).2,fun k q h=>s.nw k q (key k q h).2⟩
   ·rw[List.getElem?_set]at h
    by_cases z:i=k
    ·subst z
     rw[if_pos rfl]at h
     split at h
     ·cases h
      simp only[if_true]
      exact fun _ z=>z
     ·cases h
    ·rw[if_neg z]at h
     simp only[if_neg (Ne.symm z)]
     refine @FrT.fr _ _ c.i _ _ _ _ _ (s.el k c h) hs fun q hq=>⟨rfl,?_⟩
     show(if Fs i q then _ else _)=_
     rw[if_neg fun y=>z (s.dj i k q y hq)]
   ·rw[List.length_set];exact s.rng k q (key k q h).2
  have:=s2.del i
  rw[List.eraseIdx_set_eq]at this
  exact this
end
end Wb
namespace Wb
open PySem L2 Mi
section
variable {Er:Nat→Prop} {α β γ δ ε ζ:Type} {K:PySem.W.Frag} {W W' W0 W1 W2:Wd} {F F' F1:FS} {cs:List TC} {σ:St} {t ta tb te ti tp t1 t2 t3 t4 t5:TE} {D:Ends} {i k:Nat} {r:TS}
def vw (R:Rf α):Rw α:=fun W a v=>∃F,R W F a v
instance zkeep49 {R:Rf α} [FrT R]:MonoW (vw R):=⟨fun e ⟨F,t⟩=>⟨F,FrT.ext t e⟩⟩
theorem Sep.vw {R:Rf α} [FrT R] {a:α} {v:V} (s:Sep W0 W cs) (hc:cs[k]? =some (tc R a v)):vw R W a v:=by
 obtain⟨Fs,s⟩:=s
 exact⟨Fs k,s.el k _ hc⟩
theorem fU {R:Rf α} [FrT R] {a:α} {v:V} (s:Sep W0 W cs) (hc:cs[k]? =some (tc R a v):=by rfl) (h:σ[i]? =some (some v):=by rfl):EV Er (aZ i) σ W (vw R) (.ok a):=a8 (s.vw hc) h
theorem rC {xs:List α} {j:Int} {a:α} (h:n3 xs j=some a):∃l,Mi.ixN xs.length j=some l∧xs[l]? =some a:=by
 unfold n3 at h
 cases z:Mi.ixN xs.length j with
 | none=>rw[z]at h;cases h
 | some l=>rw[z]at h;exact⟨l,rfl,h⟩
theorem TL.ix {R:Rf α} {Fs:Nat→FS} {xs:List α} {vs:List V} (t:TL R W Fs xs vs) {j:Int} {l:Nat} {a:α} (h1:Mi.ixN xs.length j=some l) (h2:xs[l]? =some a):∃x,vs[l]? =some x∧L2.atI vs j=some x∧R W (Fs l) a x:=by
 have hl:l< vs.length:=by rw[t.len];exact(List.getElem?_eq_some_iff.mp h2).1
 refine⟨vs[l],by simp[hl],?_,t.el l a _ h2 (by simp[hl])⟩
 show(L2.ixN vs.length j).bind _=_
 rw[t.len,show L2.ixN xs.length j=Mi.ixN xs.length j from rfl,h1]
 simp[hl]
theorem eo {R:Rf α} [FrT R] {ma:Res (List α)} {mb:Res Int} (ha:EV Er ta σ W (vw (oL R)) ma) (hb:EV Er tb σ W (sh isI) mb):EV Er (cC (bH K) ta tb) σ W (vw R) (ma.bind fun a=>mb.bind fun b=>cP a b):=
 jE ha hb fun W a b x y Q hx hy k=>by
  cases hy
  obtain⟨F,p,vs,Fs,rfl,g,h,t,np,hF⟩:=hx
  obtain⟨c,h4,h5⟩:=cE k
  obtain⟨l,h6,h7⟩:=rC h4
  obtain⟨z,h8,h9,h10⟩:=t.ix h6 h7
  exact⟨p,_,b,z,rfl,rfl,SqL.of h,h9,h5 _ W (.refl _) ⟨_,h10⟩⟩
theorem iJ {R:Rp α} {m:Res α} (h:EV Er t σ W (vw (fz R)) m):EV Er t σ W (sh R) m:=h.imp fun _ _ _ ⟨_,r⟩=>r.2
theorem TL.lr {R:Rp α} {Fs:Nat→FS} {xs:List α} {vs:List V} (t:TL (fz R) W Fs xs vs):LR R W.G xs vs:=⟨t.len,fun i v m a b=>(t.el i m v b a).2⟩
theorem TL.of {R:Rp α} {xs:List α} {vs:List V} (t:LR R W.G xs vs):TL (fz R) W (fun _ _=>False) xs vs:=⟨t.1,fun i x u a b=>⟨fun _ z=>z,t.2 i u x b a⟩,fun _ _ z=>z.elim,fun _ _ _ z=>z.elim⟩
theorem pU {R:Rp α} {m:Res (List α)} (h:EV Er t σ W (vw (oL (fz R))) m):EV Er t σ W (pk R) m:=h.imp fun _ _ _ ⟨_,p,vs,Fs,e,g,h,t,_⟩=>⟨p,vs,e,h,t.lr⟩
def EVt (Er:Nat→Prop) (t:TE) (σ:St) (W:Wd) (R:Rf α) (m:Res α):Prop:=∀W1,Ext W W1→∀Q:VK,m.OkE Er (fun a=>∀v W2 F,Ext W1 W2→(∀q,F q→W1.H q=none)→R W2 F a v→Q v W2.H)→t σ W1.H Q
theorem oL.ofOw {R:Rp α} {p:Addr} {xs:List α} (o:Ow R W p xs):oL (fz R) W (· =p) xs (.ref p):=by
 obtain⟨vs,h1,h2⟩:=o.h
 exact⟨p,vs,fun _ _=>False,rfl,o.g,h1,.of h2,fun _ z=>z,fun q=>⟨.inl,fun z=>z.elim id fun⟨_,z⟩=>z.elim⟩⟩
theorem EVo.tr {R:Rp α} {m:Res (List α)} (h:EVo Er t σ W R m):EVt Er t σ W (oL (fz R)) m:=fun W1 e1 Q k=>h W1 e1 Q (k.imp fun xs kx p W2 e2 hp o=>kx _ W2 _ e2 (fun q hq=>by rw[hq];exact hp) (oL.ofOw o))
def sI (R:Rf β):Rt β:=fun W r Q=>∀u W' F,Ext W W'→(∀q,F q→W.H q=none)→R W' F r u→Q u W'.H
def Lens (W0:Wd) (C:α→List TC) (R:Rf β):Rw (β×(β→α)):=fun W bp u=>∃F,R W F bp.1 u∧(∀q,F q→W0.H q=none)∧∀W' F' b',MuF F W W'→(∀q,F' q→F q∨W.H q=none)→R W' F' b' u→Sep W0 W' (C (bp.2 b'))
instance zkeep50 {C:α→List TC} {R:Rf β} [FrT R]:MonoW (Lens W0 C R):=⟨fun e ⟨F,t,n,p⟩=>⟨F,FrT.ext t e,n,fun W' F' b' m hF t'=>p W' F' b' (e.muF.trans m fun q hq=>.inl hq) (fun q hq=>(hF q hq).imp id (none_of e.h)) t'⟩⟩
variable {C:α→List TC}
theorem ft {R:Rf α} [FrT R] {a:α} {v:V} (s:Sep W0 W (C a)) (E:Ext W0 W) (hc:(C a)[k]? =some (tc R a v):=by rfl) (hs:∀b,C b=(C a).set k (tc R b v):=by intro _;rfl) (h:σ[i]? =some (some v):=by rfl):EV Er (aZ i) σ W (Lens W0 C R) (.ok (a,fun b=>b)):=by
 obtain⟨Fs,s⟩:=s
 exact a8 (R:=Lens W0 C R) ⟨Fs k,s.el k _ hc,s.nw k,fun W' F' b' m hF t=>by rw[hs];exact s.put E m hF t (List.getElem?_eq_some_iff.mp hc).1⟩ h
theorem MuF.up (m:MuF F W W') (h:∀q,F q→F' q):MuF F' W W':=⟨m.g,fun q hq hn=>m.h q (fun z=>hq (h q z)) hn,m.k,m.n⟩
theorem jb {R:Rf β} [FrT R] {ma:Res (List β×(List β→α))} {mb:Res Int} (ha:EV Er ta σ W (Lens W0 C (oL R)) ma) (hb:EV Er tb σ W (sh isI) mb):EV Er (cC (bH K) ta tb) σ W (Lens W0 C R) (ma.bind fun a=>mb.bind fun b=>gP a b):=
 jE ha hb fun W a b x y Q hx hy k=>by
  cases hy
  obtain⟨F,⟨p,vs,Fs,rfl,g,h,t,np,hF⟩,n,pb⟩:=hx
  obtain⟨l,h1,k⟩:=cE (Res.okE_bind k)
  obtain⟨c,h2,k⟩:=cE (Res.okE_bind k)
  obtain⟨z,h8,h9,h10⟩:=t.ix h1 h2
  have hll:l< a.1.length:=(List.getElem?_eq_some_iff.mp h2).1
  refine⟨p,_,b,z,rfl,rfl,SqL.of h,h9,k _ W (.refl _) ⟨Fs l,h10,fun q hq=>n q ((hF q).mpr (.inr ⟨l,hq⟩)),fun W' F' b' m hF' t'=>?_⟩⟩
  have key:∀j q,(if j=l then F' else Fs j) q→(j=l∧F' q)∨(j≠l∧Fs j q):=fun j q h=>by
   by_cases z:j=l
   ·exact .inl ⟨z,by simpa [if_pos z] using h⟩
   ·exact .inr ⟨z,by simpa [if_neg z] using h⟩
  have lv:∀j q,Fs j q→W.H q≠none:=fun j q hq=>by
   obtain⟨x,u,_,_,r⟩:=t.at2 hq
   exact(FrT.lv r q hq).2
  refine pb W' (fun q=>q=p∨∃j,(if j=l then F' else Fs j) q) (a.1.set l b') (m.up fun q hq=>(hF q).mpr (.inr ⟨l,hq⟩)) (fun q hq=>?_) ⟨p,vs,fun j=>if j=l then F' else Fs j,rfl,by rw[m.k p (nn_of h)];exact g,by rw[m.h p (np l) (nn_of h)];exact h,⟨by rw[List.length_set];exact t.len,fun j x u e1 e2=>?_,fun j q hq=>?_,fun j j2 q q1 q2=>?_⟩,fun j hj=>?_,fun q=>Iff.rfl⟩
  ·rcases hq with rfl | ⟨j,hj⟩
   ·exact .inl ((hF _).mpr (.inl rfl))
   ·rcases key j q hj with⟨z1,z2⟩ | ⟨z1,z2⟩
    ·exact(hF' q z2).imp (fun y=>(hF q).mpr (.inr ⟨l,y⟩)) id
    ·exact .inl ((hF q).mpr (.inr ⟨j,z2⟩))
  ·rw[List.getElem?_set]at e1
   by_cases z1:l=j
   ·subst z1
    rw[if_pos rfl,if_pos hll]at e1
    cases e1
    rw[h8]at e2;cases e2
    simp only[if_true]
    exact t'
   ·rw[if_neg z1]at e1
    simp only[if_neg (Ne.symm z1)]
    exact FrT.mu (t.el j x u e1 e2) m fun q y1 y2=>z1 (t.dj l j q y2 y1)
  ·rw[List.length_set]
   rcases key j q hq with⟨z1,z2⟩ | ⟨z1,z2⟩
   ·rw[z1];exact hll
   ·exact t.rng j q z2
  ·rcases key j q q1 with⟨z1,y1⟩ | ⟨z1,y1⟩ <;> rcases key j2 q q2 with⟨z2,y2⟩ | ⟨z2,y2⟩
   ·rw[z1,z2]
   ·exact((hF' q y1).elim (fun y=>z2 (t.dj j2 l q y2 y)) fun y=>absurd y (lv _ _ y2)).elim
   ·exact((hF' q y2).elim (fun y=>z1 (t.dj j l q y1 y)) fun y=>absurd y (lv _ _ y1)).elim
   ·exact t.dj j j2 q y1 y2
  ·rcases key j p hj with⟨z1,z2⟩ | ⟨z1,z2⟩
   ·exact(hF' p z2).elim (np l) fun y=>absurd y (nn_of h)
   ·exact np j z2
theorem Lens.lf {R:Rp β} [Mono R] {bp:List β×(List β→α)} {u:V} (E:Ext W0 W) (l:Lens W0 C (oL (fz R)) W bp u):∃p vs,u=.ref p∧W.H p=some (.lst vs)∧LR R W.G bp.1 vs∧∃hg:W.G p=none,∀vs' xs',LR R W.G xs' vs'→Ext W0 (W.mut p (.lst vs') hg)∧Sep W0 (W.mut p (.lst vs') hg) (C (bp.2 xs')):=by
 obtain⟨F,⟨p,vs,Fs,rfl,g,h,t,np,hF⟩,n,pb⟩:=l
 have hp:F p:=(hF p).mpr (.inl rfl)
 refine⟨p,vs,rfl,h,t.lr,g,fun vs' xs' lr=>⟨E.mut (n p hp) g,pb _ (· =p) xs' (MuF.of hp g) (fun q hq=>.inl (by rw[hq];exact hp)) ⟨p,vs',fun _ _=>False,rfl,g,ax,.of lr,fun _ z=>z,fun q=>⟨.inl,fun z=>z.elim id fun⟨_,z⟩=>z.elim⟩⟩⟩⟩
theorem pV {R:Rp β} [Mono R] {mp:Res (List β×(List β→α))} {m:Res β} (E:Ext W0 W) (hp:EV Er tp σ W (Lens W0 C (oL (fz R))) mp) (h:EV Er te σ W (sh R) m) (q:(mp.bind fun p=>m.bind fun x=>(dm p.1 x).bind fun b=>.ok (p.2 b)).OkE Er fun a'=>∀W',Same W.G W'.G→Ext W0 W'→Sep W0 W' (C a')→D.nx σ W'.H):
  aT (dc K "list" av tp (af te aJ)) D σ W.H:=hp W (.refl _) _ ((Res.okE_bind q).imp fun p kp u W1 e1 l=>by
 obtain⟨p0,vs0,rfl,hH0,_,_⟩:=Lens.lf (E.trans e1) l
 refine⟨.inl ⟨rfl,vs0,SqL.of hH0⟩,h W1 e1 _ ((Res.okE_bind kp).imp fun x kx v W2 e2 hv=>?_)⟩
 obtain⟨p1,vs,ep,hH,lr,hg,back⟩:=Lens.lf ((E.trans e1).trans e2) (MonoW.mono e2 l)
 cases ep
 obtain⟨h3,h4⟩:=b0 (Res.okE_bind kx)
 obtain⟨b1,b2⟩:=back (vs++ [v]) (p.1++ [x]) (lr.snoc hv)
 exact⟨p0,vs,v,rfl,rfl,hH,by rw[lr.1,sizeLine_eq];unfold Mi.cap at h3;omega,h4 (W2.mut p0 (.lst (vs++ [v])) hg) (e1.trans e2).g b1 b2⟩)
theorem iK {R:Rp β} [Mono R] {mp:Res (List β×(List β→α))} {m:Res β} {mi:Res Int} (E:Ext W0 W) (h:EV Er te σ W (sh R) m) (hp:EV Er tp σ W (Lens W0 C (oL (fz R))) mp) (hj:EV Er ti σ W (sh isI) mi) (q:(m.bind fun x=>mp.bind fun p=>mi.bind fun j=>(fk p.1 j x).bind fun b=>.ok (p.2 b)).OkE Er fun a'=>∀W',Same W.G W'.G→Ext W0 W'→Sep W0 W' (C a')→D.nx σ W'.H):
  bn te (mE tp ti iX) D σ W.H:=h W (.refl _) _ ((Res.okE_bind q).imp fun x kx v W1 e1 hv=>hp W1 e1 _ ((Res.okE_bind kx).imp fun p kp u W2 e2 l=>hj W2 (e1.trans e2) _ ((Res.okE_bind kp).imp fun j kj y W3 e3 hy=>by
 cases hy
 obtain⟨p0,vs,rfl,hH,lr,hg,back⟩:=Lens.lf (((E.trans e1).trans e2).trans e3) (MonoW.mono e3 l)
 obtain⟨n,h3,h4⟩:=cE (Res.okE_bind (Res.okE_bind kj))
 obtain⟨b1,b2⟩:=back (vs.set n v) (p.1.set n x) (lr.set (Mono.mono (R:=R) (e2.trans e3).g hv) n)
 exact⟨p0,vs,j,n,rfl,rfl,hH,by rw[lr.1];exact h3,h4 (W3.mut p0 (.lst (vs.set n v)) hg) ((e1.trans e2).trans e3).g b1 b2⟩)))
theorem i9 {R:Rp β} [Mono R] {mp:Res (List β×(List β→α))} {m:Res β} {mi:Res Int} (E:Ext W0 W) (h:EV Er te σ W (sh R) m) (hp:EV Er tp σ W (Lens W0 C (oL (fz R))) mp) (hj:EV Er ti σ W (sh isI) mi) (q:(m.bind fun x=>mp.bind fun p=>mi.bind fun j=>(fk p.1 j x).bind fun b=>.ok (p.2 b)).OkE Er fun a'=>∀W',Same W.G W'.G→Ext W0 W'→Sep W0 W' (C a')→r D σ W'.H):
  cZ (bn te (mE tp ti iX)) r D σ W.H:=iK (D:={D with nx:=r D}) E h hp hj q
theorem pW {R:Rf β} [FrT R] {m:Res β} {σ':V→St} (S:Sep W0 W cs) (E:Ext W0 W) (h:EVt Er te σ W R m) (q:m.OkE Er fun a=>∀v W',Ext W W'→Sep W0 W' (cs++ [tc R a v])→D.nx (σ' v) W'.H) (hσ:∀v,σ.set i (some v)=σ' v:=by intro _;rfl):bn te (aQ i) D σ W.H:=h W (.refl _) _ (q.imp fun a k v W' F e hF t=>by have:=k v W' e (S.add E e hF t);rw[←hσ]at this;exact this)
theorem cY {R:Rf β} [FrT R] {m:Res β} {σ':V→St} (S:Sep W0 W cs) (E:Ext W0 W) (h:EVt Er te σ W R m) (q:m.OkE Er fun a=>∀v W',Ext W W'→Sep W0 W' (cs++ [tc R a v])→r D (σ' v) W'.H) (hσ:∀v,σ.set i (some v)=σ' v:=by intro _;rfl):cZ (bn te (aQ i)) r D σ W.H:=pW (D:={D with nx:=r D}) S E h q hσ
theorem pX {R:Rf β} {m:Res β} (h:EVt Er te σ W R m) (q:m.OkE Er fun a=>∀v W' F,Ext W W'→(∀q,F q→W.H q=none)→R W' F a v→D.rt v W'.H):bC te D σ W.H:=h W (.refl _) _ q
end
end Wb
namespace Wb
open PySem L2 Mi
section
variable {Er:Nat→Prop} {α β γ:Type} {K:PySem.W.Frag} {W W' W0 W1 W2:Wd} {F F' F1:FS} {cs:List TC} {σ:St} {t ta tb te ti tp:TE} {D:Ends} {i k:Nat} {r:TS}
open Classical in
theorem tJ {R:Rf β} [FrT R] {R':Rp β} [FzT R R'] {b:β} {u:V} (t:R W F b u):∃Wf,Wf.H=W.H∧Same W.G Wf.G∧R' Wf.G b u∧(∀q,¬F q→Wf.G q=W.G q)∧∀W2,Ext Wf W2→∃W3,W3.H=W2.H∧Ext W W3:=by
 have lv:=fun q=>FrT.lv t q
 have hs:Same W.G fun q=>if F q then W.H q else W.G q:=fun a o h=>by
  show(if F a then _ else _)=_
  rw[if_neg fun z=>by have:=(lv a z).1;rw[h]at this;cases this];exact h
 have ho:Same (fun q=>if F q then W.H q else W.G q) W.H:=fun a o h=>by
  have h:(if F a then W.H a else W.G a)=some o:=h
  split at h
  ·exact h
  ·exact W.ok _ _ h
 let Wf:Wd:=⟨_,W.H,ho⟩
 refine⟨Wf,rfl,hs,FzT.fz t hs fun q hq=>if_pos hq,fun q hq=>if_neg hq,fun W2 e=>⟨⟨fun q=>if F q then none else W2.G q,W2.H,fun a o h=>?_⟩,rfl,fun a o h=>?_,e.h,fun q hq=>?_⟩⟩
 ·have h:(if F a then none else W2.G a)=some o:=h
  split at h
  ·cases h
  ·exact W2.ok _ _ h
 ·show(if F a then none else W2.G a)=_
  rw[if_neg fun z=>by have:=(lv a z).1;rw[h]at this;cases this]
  exact e.g _ _ (hs _ _ h)
 ·show(if F q then none else W2.G q)=_
  by_cases z:F q
  ·rw[if_pos z,(lv q z).1]
  ·rw[if_neg z,e.k q hq];exact if_neg z
theorem Sep.lend1 {R:Rf β} [FrT R] {R':Rp β} [FzT R R'] {b:β} {u:V} (s:Sep W0 W cs) (E:Ext W0 W) (hc:cs[k]? =some (tc R b u)):∃Wf,Wf.H=W.H∧Same W.G Wf.G∧Ext W0 Wf∧Sep W0 Wf (cs.eraseIdx k)∧R' Wf.G b u∧∀W2,Ext Wf W2→∃W3,W3.H=W2.H∧Ext W W3:=by
 obtain⟨Fs,s⟩:=s
 obtain⟨Wf,h1,h2,h3,h4,h5⟩:=tJ (R:=R) (s.el k _ hc)
 refine⟨Wf,h1,h2,⟨E.g.trans h2,by rw[h1];exact E.h,fun q hq=>by rw[h4 q fun z=>hq (s.nw k q z)];exact E.k q hq⟩,?_,h3,h5⟩
 have key:∀j q,(if j=k then(fun _=>False)else Fs j) q→j≠k∧Fs j q:=fun j q h=>by
  by_cases z:j=k
  ·simp[if_pos z]at h
  ·exact⟨z,by simpa [if_neg z] using h⟩
 have s2:SepF W0 Wf (fun j=>if j=k then(fun _=>False)else Fs j) (cs.set k tS):=by
  refine⟨fun j c h=>?_,fun j q h=>?_,fun j l q h1 h2=>s.dj j l q (key j q h1).2 (key l q h2).2,fun j q h=>s.nw j q (key j q h).2⟩
  ·rw[List.getElem?_set]at h
   by_cases z:k=j
   ·subst z
    rw[if_pos rfl]at h
    split at h
    ·cases h
     simp only[if_true]
     exact fun _ z=>z
    ·cases h
   ·rw[if_neg z]at h
    simp only[if_neg (Ne.symm z)]
    exact @FrT.fr _ _ c.i _ _ _ _ _ (s.el j c h) h2 fun q hq=>⟨by rw[h1],h4 q fun y=>z (s.dj k j q y hq)⟩
  ·rw[List.length_set];exact s.rng j q (key j q h).2
 have:=s2.del k
 rw[List.eraseIdx_set_eq]at this
 exact this
theorem EVt.ev {R:Rf α} [FrT R] {R':Rp α} [FzT R R'] {m:Res α} (h:EVt Er t σ W R m):EV Er t σ W (sh R') m:=fun W1 e1 Q k=>h W1 e1 Q (k.imp fun a ka v W2 F e2 hF o=>by
 have s:Sep W1 W2 [tc R a v]:=Sep.add (cs:=[]) (Sep.nil (W0:=W1) (W:=W1)) (.refl _) e2 hF o
 obtain⟨W3,hH,e3,_,_,r⟩:=Sep.frz (R:=R) (i:=0) s e2 rfl
 rw[←hH]
 exact ka v W3 e3 r)
class Ind (R:Rp α):Prop where
 ind:∀{G G':Hp} {a:α} {v:V},R G a v→R G' a v
instance zkeep54:Ind isN:=⟨fun h=>h⟩
theorem gB {R:Rf β} [FrT R] {R':Rp β} [FzT R R'] {b:β} {u:V} {m:Res Bool} {t:TT} (k:Nat) (s:Sep W0 W cs) (E:Ext W0 W) (hc:cs[k]? =some (tc R b u)) (h:∀Wf,Same W.G Wf.G→Ext W0 Wf→Sep W0 Wf (cs.eraseIdx k)→R' Wf.G b u→TV Er t σ Wf m):TV Er t σ W m:=fun W1 e1 Q kq=>by
 obtain⟨Wf,h1,h2,h3,h4,h5,h6⟩:=Sep.lend1 (R:=R) (s.ext e1) (E.trans e1) hc
 rw[←h1]
 refine h Wf (e1.g.trans h2) h3 h4 h5 Wf (.refl _) Q (kq.imp fun a ka W2 e2=>?_)
 obtain⟨W3,h7,h8⟩:=h6 W2 e2
 rw[←h7]
 exact ka W3 h8
theorem o4 {P:α→Prop} {m:Res α} (h:m.OkE Er P):(m.bind fun b=>.ok b).OkE Er P:=by cases m <;> exact h
theorem pY {C:List β→List TC} {R:Rp β} [Mono R] {xs:List β} {v:V} {m:Res β} (S:Sep W0 W (C xs)) (E:Ext W0 W) (h:EV Er te σ W (sh R) m) (q:(m.bind fun x=>dm xs x).OkE Er fun a'=>∀W',Same W.G W'.G→Ext W0 W'→Sep W0 W' (C a')→D.nx σ W'.H) (hc:(C xs)[k]? =some (tc (oL (fz R)) xs v):=by rfl) (hs:∀b,C b=(C xs).set k (tc (oL (fz R)) b v):=by intro _;rfl) (hi:σ[i]? =some (some v):=by rfl):
  aT (dc K "list" av (aZ i) (af te aJ)) D σ W.H:=pV E (ft S E hc hs hi) h (by
 show(m.bind fun x=>(dm xs x).bind fun b=>.ok b).OkE Er _
 cases m with
 | ok x=>exact o4 q
 | err j=>exact q
 | stuck=>exact q)
theorem pZ {C:List β→List TC} {R:Rp β} [Mono R] {xs:List β} {v:V} {m:Res β} {mi:Res Int} (S:Sep W0 W (C xs)) (E:Ext W0 W) (h:EV Er te σ W (sh R) m) (hj:EV Er ti σ W (sh isI) mi) (q:(m.bind fun x=>mi.bind fun j=>fk xs j x).OkE Er fun a'=>∀W',Same W.G W'.G→Ext W0 W'→Sep W0 W' (C a')→D.nx σ W'.H) (hc:(C xs)[k]? =some (tc (oL (fz R)) xs v):=by rfl) (hs:∀b,C b=(C xs).set k (tc (oL (fz R)) b v):=by intro _;rfl) (hi:σ[i]? =some (some v):=by rfl):
  bn te (mE (aZ i) ti iX) D σ W.H:=iK E h (ft S E hc hs hi) hj (by
 show(m.bind fun x=>mi.bind fun j=>(fk xs j x).bind fun b=>.ok b).OkE Er _
 cases m with
 | ok x =>
  cases mi with
  | ok y=>exact o4 q
  | err j=>exact q
  | stuck=>exact q
 | err j=>exact q
 | stuck=>exact q)
theorem lT {C:List β→List TC} {R:Rp β} [Mono R] {xs:List β} {v:V} {m:Res β} {mi:Res Int} (S:Sep W0 W (C xs)) (E:Ext W0 W) (h:EV Er te σ W (sh R) m) (hj:EV Er ti σ W (sh isI) mi) (q:(m.bind fun x=>mi.bind fun j=>fk xs j x).OkE Er fun a'=>∀W',Same W.G W'.G→Ext W0 W'→Sep W0 W' (C a')→r D σ W'.H) (hc:(C xs)[k]? =some (tc (oL (fz R)) xs v):=by rfl) (hs:∀b,C b=(C xs).set k (tc (oL (fz R)) b v):=by intro _;rfl) (hi:σ[i]? =some (some v):=by rfl):
  cZ (bn te (mE (aZ i) ti iX)) r D σ W.H:=pZ (k:=k) (D:={D with nx:=r D}) S E h hj q hc hs hi
end
end Wb
namespace L2
open PySem PySem.Spec PyProof.Rows
def cT (tg iter:Expr) (ifs:List Expr) (body:Sem Unit) (it:Value) (env:Env) (c:Code):Sem Fin:=do
 standAt iter.pos
 match ←pyNext it with
 | none=>pure (.done .next)
 | some v =>
  letOwnedTupleGo tg it v
  assign tg env v
  let mut ok:=true
  for c in ifs do
   if ok then ok ←isTrue c env (eval c env)
  if ok then body
  again c
structure CompE (e:Expr):Prop where
 a:∀(A:Around) (d:Nat) (it acc:Value) (env:Env),A.under (.compLoop e d it acc env)=A
 b:∀(A:Around) (d:Nat) (it acc:Value) (env:Env),A.under (.compStart e d it acc env)=A
 c:∀(prog:Program) (w:World) (d:Nat) (it acc:Value) (env:Env),(model prog w).den (.compLoop e d it acc env)=(compTurn e d it acc env).onRaise (fun x=>do noteFrame x env;theTreesLotGoes x)
 d:∀(prog:Program) (w:World) (d:Nat) (it acc:Value) (env:Env),(model prog w).den (.compStart e d it acc env)=(compStart e d it acc env).onRaise (fun x=>do noteFrame x env;standAt theWindowsPlace)
theorem CompE.list {k:Expr} {gs:List Comprehension} {sc:Scope} {pos:Pos} :CompE (.ListComp k gs sc pos):=⟨fun _ _ _ _ _=>rfl,fun _ _ _ _ _=>rfl,fun _ _ _ _ _ _=>rfl,fun _ _ _ _ _ _=>rfl⟩
section
variable {prog:Program} {w:World} {A:Around} {R:Result→Shared→Prop} {s:Shared}
theorem gQ {e:Expr} (ce:CompE e) {d:Nat} {tg iter:Expr} {ifs:List Expr} {it acc:Value} {env:Env} {body:Sem Unit} (ht:compTurn e d it acc env=cT tg iter ifs body it env (.compLoop e d it acc env)) (I:Nat→Shared→Prop)
  (turn:∀n s,I n s→wpAny (model prog w) A (pyNext it) (fun r s₁=>match r with
   | none=>R (.ok .next) s₁
   | some v=>wpAny (model prog w) A (letOwnedTupleGo tg it v) (fun _ s₁'=>wpAny (model prog w) A (assign tg env v) (fun _ s₂=>
     wpAny (model prog w) A (forIn ifs true fun c r=>if r=true then do let ok ←isTrue c env (eval c env);pure (ForInStep.yield ok)else pure (ForInStep.yield r)) (fun ok s₃=>
      if ok=true then wpAny (model prog w) A body (fun _ s₅=>∃m,m< n∧I m s₅) (fun _ _=>False) s₃
      else ∃m,m< n∧I m s₃) (fun _ _=>False) s₂) (fun _ _=>False) s₁') (fun _ _=>False) s₁) (fun _ _=>False) s)
  (n:Nat) (h:I n s):codeAny (model prog w) A (.compLoop e d it acc env) R s:=by
 refine codeAny_loop rfl I (fun n s hI=>?_) n h
 rw[ce.a,ce.c]
 refine wpAny_noted ?_
 rw[ht]
 unfold cT
 refine wpAny_bind (wpAny_standAt (wpAny_bind (wpAny_mono (turn n s hI) (fun r s₁ h₁=>?_) fun _ _ h'=>h'.elim)))
 cases r with
 | none=>exact wpAny_pure h₁
 | some v =>
  refine wpAny_bind (wpAny_mono h₁ (fun _ s₁' h₁'=>?_) fun _ _ h'=>h'.elim)
  refine wpAny_bind (wpAny_mono h₁' (fun _ s₂ h₂=>wpAny_bind (wpAny_mono h₂ (fun ok s₃ h₃=>?_) fun _ _ h'=>h'.elim)) fun _ _ h'=>h'.elim)
  cases ok with
  | true =>
   rw[if_pos rfl]at h₃
   exact wpAny_bind (wpAny_mono h₃ (fun _ s₄ h₄=>wpAny_pure ⟨rfl,h₄⟩) fun _ _ h'=>h'.elim)
  | false =>
   rw[if_neg Bool.false_ne_true]at h₃
   exact wpAny_pure ⟨rfl,h₃⟩
theorem eF {e:Expr} (ce:CompE e) {d:Nat} {g:Comprehension} {it acc:Value} {env:Env} (hg:(clausesOf e)[d]? =some g) (ha:g.is_async=0)
  (h0:codeAny (model prog w) A (.compLoop e d it acc env) R s)
  (h:wpAny (model prog w) A (pyIter it) (fun it' s'=>codeAny (model prog w) A (.compLoop e d it' acc env) R s') (notedBy (model prog w) A env fun x s'=>R (.error x) s') s):
  codeAny (model prog w) A (.compStart e d it acc env) R s:=by
 refine codeAny_of_tree ?_
 rw[ce.b,ce.d]
 refine wpAny_notedAt ?_
 unfold compStart
 rw[hg]
 simp only[Option.elim_some,ha,bne_self_eq_false,Bool.false_eq_true,if_false]
 refine wpAny_bind (wpAny_askSetting (wpAny_ite ?_))
 split
 ·first
   | exact wpAny_bind (wpAny_pure (wpAny_pure (And.intro rfl h0)))
   | exact wpAny_pure (And.intro rfl h0)
 ·first
   | exact wpAny_bind (wpAny_rule (wpAny_bind (wpAny_standAt (wpAny_bind (wpAny_mono h (fun it' s' h'=>wpAny_pure (And.intro rfl h')) fun _ _ x=>x)))))
   | (refine wpAny_bind (wpAny_rule ?_);exact wpAny_bind (wpAny_standAt (wpAny_bind (wpAny_mono h (fun it' s' h'=>wpAny_pure (And.intro rfl h')) fun _ _ x=>x))))
end
def qK (elt:Expr) (env:Env) (acc:Value):Sem Unit:=do let _ ←call (.builtin "list.append") [acc,←eval elt env]
def o5 (iter:Expr) (e:Expr) (d:Nat) (env:Env) (acc:Value):Sem Unit:=do
        let x ←eval iter env
        standAt iter.pos
        let x ←foldedSetIterable iter env x
        let _ ←runOwn (.compStart e d (←holding [x] (pyIter x)) acc env) env
abbrev TB:=Addr→St→Hp→(Hp→Prop)→Prop
def PB (Y:Cx) (body:Value→Sem Unit) (tb:TB):Prop:=∀(D:Addr) (pins:List (Addr×Obj)) (s:Shared) (σ:St) (H:Hp) (N:Hp→Prop),Inv Y pins σ H s→tb D σ H N→
 wpAny (model Y.prog Y.w) Y.A (body (.ref D)) (fun _ s'=>∃σ' H',Inv Y pins σ' H' s'∧(∀(j:Nat) (v:V),σ[j]? =some (some v)→σ'[j]? =some (some v))∧N H') (fun _ _=>False) s
def o6 (g:TG) (tf:TT) (tb:TB) (D:Addr) (σ:St) (H1:Hp) (N:Hp→Prop) (J:It):Prop:=∃W:Nat→Nat→Hp→Prop,(∃m,W 0 m H1)∧∀i m H,W i m H→
 ((J.stop i H∧N H)∨(J.go i H∧∃M:Hp→Prop,(∀H',M H'→∃m',m'< m∧W (i+1) m' H')∧∀x H',J.yld i H x H'→g x σ H' fun σ2 H2=>Keep σ σ2∧tf σ2 H2 fun b H3=>if b=true then tb D σ2 H3 M else M H3))
def q0 (wi:TI) (g:TG) (tf:TT) (tb:TB):TB:=fun D σ H N=>wi σ H fun J H1=>o6 g tf tb D σ H1 N J
def jR (mk:HO) (cap:List (Option Nat)) (wi:TI) (g:TG) (tf:TT) (tb:TB):TE:=fun σ H Q=>wi σ H fun J H1=>∀D,H1 D=none→o6 g tf tb D (aW cap σ) (bQ H1 D mk) (fun H'=>Q (.ref D) H') J
def jS (te:TE):TB:=fun D σ H N=>te σ H fun y H'=>∃xs,H' D=some (.lst xs)∧xs.length< sizeLine∧N (bQ H' D (.lst (xs++ [y])))
section
variable {Y:Cx} {tg iter elt kx vx:Expr} {ifs:List Expr} {g:TG} {tf:TT} {tb:TB} {body:Value→Sem Unit} {te tk tv:TE} {wi:TI}
theorem q9 (hxe:Y.xe=fun _ _=>False) (he:PE Y elt te):PB Y (qK elt Y.env) (jS te):=by
 intro D pins s σ H N I h
 have he':=he pins s σ H _ I h
 rw[hxe]at he'
 refine wpAny_bind (bv he' fun u s1 ⟨y,H1,I1,r1,xs,hD,hl,q⟩=>?_)
 have:=hG (X:=Y) pins s1 σ H1 (.ref D) [y] (.ref D) [u] (fun _ H'=>N H') I1 rfl (.cons r1 .nil) ⟨D,xs,y,rfl,rfl,hD,hl,q⟩
 rw[hxe]at this
 exact wpAny_bind (bv this fun _ s2 ⟨_,H2,I2,_,q2⟩=>wpAny_pure ⟨σ,H2,I2,fun _ _ e=>e,q2⟩)
theorem jc (hc:Y.calm=true) (hxe:Y.xe=fun _ _=>False) (hg:PG Y tg g) (hf:kG Y ifs tf) (hb:PB Y body tb) {e:Expr} (ce:CompE e) {d:Nat} {it:Addr} {fp:List Addr} {tn:Nat→Heap→Prop} {J:It} (T:Turn Y.prog Y.w Y.K tg J fp it tn)
  {pins:List (Addr×Obj)} {s:Shared} {σ:St} {H:Hp} {D:Addr} {N:Hp→Prop} {R:Result→Shared→Prop} (I:Inv Y pins σ H s) (st:tn 0 s.heap) (f:∀b∈fp,FpOk Y pins H b) (w:o6 g tf tb D σ H N J)
  (ht:compTurn e d (.ref it) (.ref D) Y.env=cT tg iter ifs (body (.ref D)) (.ref it) Y.env (.compLoop e d (.ref it) (.ref D) Y.env))
  (fin:∀σ' H' s',Inv Y pins σ' H' s'→(∀(j:Nat) (v:V),σ[j]? =some (some v)→σ'[j]? =some (some v))→N H'→R (.ok .next) s'):
  codeAny (model Y.prog Y.w) Y.A (.compLoop e d (.ref it) (.ref D) Y.env) R s:=by
 obtain⟨W,⟨m0,w0⟩,turn⟩:=w
 have stat:∀{H':Hp},(∀b∈fp,H' b=none)→∀b∈fp,FpOk Y pins H' b:=fun hn b hb=>⟨hn b hb,(f b hb).2⟩
 refine gQ ce ht (fun n s'=>∃i σ' H',Inv Y pins σ' H' s'∧tn i s'.heap∧(∀b∈fp,H' b=none)∧(∀(j:Nat) (v:V),σ[j]? =some (some v)→σ'[j]? =some (some v))∧W i n H') ?_ m0 ⟨0,σ,H,I,st,fun b hb=>(f b hb).1,fun _ _ e=>e,w0⟩
 rintro n s3 ⟨i,σ3,H3,I3,st3,fr3,kp,w3⟩
 rcases turn i n H3 w3 with⟨stop,qn⟩ | ⟨go,M,hM,step⟩
 ·refine bv (T.done Y rfl rfl rfl hc i pins s3 σ3 H3 _ I3 (stat fr3) st3 stop) fun r s4 ⟨hr,I4⟩=>?_
  subst hr
  exact fin σ3 H3 s4 I4 kp qn
 ·have I3':Inv Y pins σ H3 s3:=I3.weak (by rw[I3.len,I.len]) kp
  refine bv (T.item Y rfl rfl rfl hc i pins s3 σ H3 _ I3' (stat fr3) st3 go) fun r s4 ⟨u,hr,h4⟩=>?_
  subst hr
  refine bv h4 fun _ s5 ⟨x,H5,I5,r5,y5,st5,fr5⟩=>?_
  have I5':=I5.pinned (stat fr5) (T.obj _ _ st5)
  have hg':=hg _ s5 σ H5 x u _ I5' r5 (step x H5 y5)
  rw[hxe]at hg'
  refine bv hg' fun _ s6 ⟨σ6,H6,I6,kp6,q6⟩=>?_
  have hf':=hf _ s6 σ6 H6 _ I6 q6
  rw[hxe]at hf'
  refine bv hf' fun ok s7 ⟨H7,I7,q7⟩=>?_
  have again:∀{s8:Shared} {σ7:St} {H7:Hp},Inv Y (pins++eG fp s5.heap) σ7 H7 s8→(∀(j:Nat) (v:V),σ6[j]? =some (some v)→σ7[j]? =some (some v))→M H7→∃m,m< n∧∃i σ' H',Inv Y pins σ' H' s8∧tn i s8.heap∧(∀b∈fp,H' b=none)∧(∀(j:Nat) (v:V),σ[j]? =some (some v)→σ'[j]? =some (some v))∧W i m H':=fun {s8 σ7 H7} I7 k7 n7=>by
   obtain⟨m',hm,w7⟩:=hM H7 n7
   refine⟨m',hm,i+1,σ7,H7,I7.unpinned,T.keep _ _ _ st5 fun b hb o e=>(I7.pin (b,o) (List.mem_append_right _ (List.mem_append_right _ (cK hb e)))).1,fun b hb=>?_,fun j v e=>k7 j v (Keep.get kp6 e),w7⟩
   obtain⟨o,e,d⟩:=T.obj _ _ st5 b hb
   exact(I7.pin (b,o) (List.mem_append_right _ (List.mem_append_right _ (cK hb e)))).2.1
  cases ok with
  | false =>
   rw[if_neg Bool.false_ne_true]at q7 ⊢
   exact again I7 (fun _ _ e=>e) q7
  | true =>
   rw[if_pos rfl]at q7 ⊢
   exact bv (hb D _ s7 σ6 H7 _ I7 q7) fun _ s8 ⟨σ8,H8,I8,k8,q8⟩=>again I8 k8 q8
theorem o7 (hc:Y.calm=true) (hxe:Y.xe=fun _ _=>False) (hi:PI Y tg iter wi) (hg:PG Y tg g) (hf:kG Y ifs tf) {body:Env→Value→Sem Unit} (hb:PB Y (body Y.env) tb) {e:Expr} (ce:CompE e) {d:Nat} (hcl:(clausesOf e)[d]? =some ⟨tg,iter,ifs,0⟩)
  (ht:∀env it acc,compTurn e d it acc env=cT tg iter ifs (body env acc) it env (.compLoop e d it acc env):=by intro _ _ _;rfl) (hs:∀x,foldedSetIterable iter Y.env x=pure x:=by intro _;rfl):
  PB Y (o5 iter e d Y.env) (q0 wi g tf tb):=by
 intro D pins s σ H N I h
 have hi':=hi pins s σ H _ I h
 rw[hxe]at hi'
 refine wpAny_bind (bv hi' fun v s1 h1=>wpAny_bind (wpAny_standAt (wpAny_bind (wpAny_of_eq (hs v) (wpAny_bind (wpAny_holding (bv h1 fun itv s2 h2=>?_)))))))
 obtain⟨it,fp,tn,J,H2,rfl,I2,T,st2,f2,w⟩:=h2
 have lp:codeAny (model Y.prog Y.w) Y.A (.compLoop e d (.ref it) (.ref D) Y.env) (fun r s'=>match r with | .ok f=>(∃σ' H',Inv Y pins σ' H' s'∧(∀(j:Nat) (v:V),σ[j]? =some (some v)→σ'[j]? =some (some v))∧N H') | .error x=>cameBackBy (model Y.prog Y.w) Y.A Y.env (fun _ _=>False) x s') s2:=
  jc hc hxe hg hf hb ce T I2 st2 f2 w (ht _ _ _) fun σ' H' s' I' k' n'=>⟨σ',H',I',k',n'⟩
 refine wpAny_bind (wpAny_runOwn (eF ce hcl rfl ?_ ?_))
 ·exact codeAny_mono lp fun r s' h=>by
   cases r with
   | ok f=>exact wpAny_pure h
   | error x=>exact h
 ·refine T.self _ 0 _ _ _ st2 (codeAny_mono lp fun r s' h=>by
   cases r with
   | ok f=>exact wpAny_pure h
   | error x=>exact h)
end
end L2
namespace L2
open PySem PySem.Spec PyProof.Rows
section
variable {X:Cx} {scope:Scope} {N:List Str} {cap:List (Option Nat)} {tg iter:Expr} {ifs:List Expr} {pos:Pos} {wi:TI} {g:TG} {tf:TT} {tb:TB} {body:Env→Value→Sem Unit}
theorem lU {pins:List (Addr×Obj)} {σ σ':St} {H2 H':Hp} {s2 s':Shared} {fp:List Addr} {C:Addr} {h':Heap} (I2:Inv X pins σ H2 s2) (f2:∀b∈fp,FpOk X pins H2 b)
  (hC:s2.heap.objs.size≤C) (I':Inv (ah X scope N s2 H2 C fp) [] σ' H' s') (hs:Heap.SameBut C s'.heap h'):Inv X pins σ H' {s' with heap:=h'} :=by
 have nC:H' C=none:=I'.free
 have lt2:∀b o,s2.heap.get? b=some o→b≠C:=fun b o e=>Nat.ne_of_lt (Nat.lt_of_lt_of_le (Heap.lt_size e) hC)
 have hk:∀b o,b≠C→s'.heap.get? b=some o→h'.get? b=some o:=fun b o hb e=>(hs.2 b hb).trans e
 have B:Un (frs X.stack) fp H2 H' s2.heap s'.heap:=I'.base
 have tr:∀b u,H' b=some u→b≠C:=fun b u e z=>by rw[z,nC]at e;cases e
 refine I2.call' (ch:=fp) I'.os ⟨fun b o e n hb hx=>?_,fun b o e n hb hx=>?_,fun b o e n hx=>?_,fun b o e hx=>?_,fun b xs e=>?_,fun b o u e=>?_,fun b ps e=>?_⟩ (fun b u e=>?_) I'.bare fun b hb=>⟨(f2 b hb).2.2.2.1,(f2 b hb).2.1,(f2 b hb).2.2.2.2.1,(f2 b hb).2.2.2.2.2⟩
 ·exact hk b o (lt2 b o e) (B.keep b o e n hb hx)
 ·obtain⟨sl,q⟩:=B.slot b o e n hb hx
  exact⟨sl,hk b _ (lt2 b o e) q⟩
 ·exact B.free b o e n hx
 ·obtain⟨o',q⟩:=B.there b o e hx
  exact⟨o',hk b _ (lt2 b o e) q⟩
 ·exact B.tups b xs e
 ·exact B.frzs b o u e
 ·exact B.tbls b ps e
 ·refine(I'.hok b u e).stay (fun c w' hc q=>hk c w' ?_ q) (fun c q=>q) fun c xs q=>q
  rcases hc with z | z
  ·rw[z];exact tr b u e
  ·exact tr c _ z
theorem jT (S:CompScope X scope N cap) (hc:X.calm=true) {e:Expr} (ce:CompE e) (hcl:(clausesOf e)[0]? =some ⟨tg,iter,ifs,0⟩)
    (hg:∀s H C fp,PG (ah X scope N s H C fp) tg g) (hf:∀s H C fp,kG (ah X scope N s H C fp) ifs tf) (hb:∀s H C fp,PB (ah X scope N s H C fp) (body (ah X scope N s H C fp).env) tb)
    (ht:∀env it acc,compTurn e 0 it acc env=cT tg iter ifs (body env acc) it env (.compLoop e 0 it acc env))
    {pins:List (Addr×Obj)} {σ:St} {H3:Hp} {s3:Shared} {it D:Addr} {fp:List Addr} {tn:Nat→Heap→Prop} {J:It} {Qv:Hp→Prop} {E:Value→Shared→Prop} {RR:Addr→Result→Shared→Prop}
    (I3:Inv X pins σ H3 s3) (T:Turn X.prog X.w X.K tg J fp it tn) (st3:tn 0 s3.heap) (f3:∀b∈fp,FpOk X pins H3 b) (w:o6 g tf tb D (aW cap σ) H3 Qv J)
    (fin:∀(C:Addr) (σ':St) (H':Hp) (s':Shared),s3.heap.objs.size≤C→Inv (ah X scope N s3 H3 C fp) [] σ' H' s'→Qv H'→RR C (.ok .next) s'):
    wpAny (model X.prog X.w) X.A (newFunctionEnv scope X.env.globals (bB X.env scope.names []) [] X.env.qual none .none (some X.env)) (fun cenv s₄=>
      codeAny (model X.prog X.w) X.A (.compStart e 0 (.ref it) (.ref D) {cenv with scope:=relabel scope X.env}) (RR cenv.locals) s₄) E s3:=by
  refine eL ?_
  generalize hC:s3.heap.objs.size=C
  generalize hH4:pushCells (s3.heap.push {cls:=.type "dict",data:=.dict #[]}) scope.names=h4
  have hz3':(s3.heap.push {cls:=.type "dict",data:=.dict #[]}).objs.size=C+1:=by rw[Heap.size_push,hC]
  have ck:CellsOk h4 (C+1) (cellsFrom (C+1) scope.names []):=by
    have:=cellsFrom_ok scope.names (s3.heap.push {cls:=.type "dict",data:=.dict #[]}) (C+1) [] ⟨fun _ _ hm=>(nomatch hm),List.Pairwise.nil⟩ (by rw[hz3'];exact Nat.le_refl _)
    rw[hz3',hH4]at this
    exact this
  have k34:∀b o,s3.heap.get? b=some o→h4.get? b=some o:=fun b o e=>by rw[←hH4];exact pushCells_keeps _ _ b o (Heap.get?_push_of_some _ e)
  have hn4:h4.Ns C fun _=>none:=by
    rw[←hH4,←hC]
    exact(Heap.Ns.new s3.heap (.type "dict")).keeps (pushCells_keeps _ _)
  have hlt:∀b∈fp,b< C:=fun b hb=>by
    obtain⟨o,e,_⟩:=T.obj _ _ st3 b hb
    rw[←hC];exact Heap.lt_size e
  have hCs:s3.heap.objs.size≤C:=by rw[hC];exact Nat.le_refl _
  have IC:Inv (ah X scope N s3 H3 C fp) [] (aW cap σ) H3 {s3 with heap:=h4} :=
    eM S I3 hCs ck f3 hlt ⟨_,_,rfl⟩ hn4 fun b o e=>k34 b o e
  have okC:=IC.ok
  have fO:∀b∈fp,FpOk (ah X scope N s3 H3 C fp) [] H3 b:=fun b hb=>
    ⟨(f3 b hb).1,Nat.ne_of_lt (hlt b hb),okC.exfs b hb,.inl hb,(okC.exf b hb).2,fun p hp=>by
      have:p∈([]:List (Addr×Obj)):=hp
      cases this⟩
  have st4:tn 0 h4:=T.keep _ _ _ st3 fun b hb o e=>k34 b o e
  have loop:codeAny (model X.prog X.w) X.A (.compLoop e 0 (.ref it) (.ref D) (ah X scope N s3 H3 C fp).env) (RR C) {s3 with heap:=h4} :=
    jc (Y:=ah X scope N s3 H3 C fp) hc rfl (hg _ _ _ _) (hf _ _ _ _) (hb _ _ _ _) ce T IC st4 fO w (ht _ _ _) fun σ' H' s' I' _ q=>fin C σ' H' s' hCs I' q
  exact eF ce hcl rfl loop (T.self _ 0 _ _ _ st4 loop)
theorem o8 (S:CompScope X scope N cap) (hc:X.calm=true) {elt:Expr} {gs:List Comprehension} (hi:PI X tg iter wi)
  (hg:∀s H C fp,PG (ah X scope N s H C fp) tg g) (hf:∀s H C fp,kG (ah X scope N s H C fp) ifs tf) (hb:∀s H C fp,PB (ah X scope N s H C fp) (body (ah X scope N s H C fp).env) tb)
  (ht:∀env it acc,compTurn (.ListComp elt (⟨tg,iter,ifs,0⟩::gs) scope pos) 0 it acc env=cT tg iter ifs (body env acc) it env (.compLoop (.ListComp elt (⟨tg,iter,ifs,0⟩::gs) scope pos) 0 it acc env):=by intro _ _ _;rfl)
  (hs:∀x,foldedSetIterable iter X.env x=pure x:=by intro _;rfl):PE X (.ListComp elt (⟨tg,iter,ifs,0⟩::gs) scope pos) (jR (.lst []) cap wi g tf tb):=by
 intro pins s σ H Q I h
 rw[eval_ListComp]
 have frc:∀x∈scope.names,x.2=.free→∃c,X.env.cells.lookup x.1=some c:=fun x hx hk=>I.ok.has x.1 (S.free x hx hk)
 refine wpAny_comprehension_free (use:=none) rfl hs (cO frc) S.kind (dy S) (bv (hi pins s σ H _ I h) fun v s1 h1=>bv h1 fun itv s2 h2=>?_)
 obtain⟨it,fp,tn,J,H2,rfl,I2,T,st2,f2,w⟩:=h2
 refine wpAny_newObj_type ?_
 have hz:H2 s2.heap.objs.size=none:=I2.hok.fresh (Nat.le_refl _)
 have I3:Inv X pins σ (bQ H2 s2.heap.objs.size (.lst [])) {s2 with heap:=s2.heap.push {cls:=.type "list",dict:=none,data:=.seq ([]:List Value).toArray}} :=
  I2.laid (a:=s2.heap.objs.size) (o:=.lst []) (t':=s2.toks) (fun _ _ q=>Heap.get?_push_of_some _ q) (Nat.le_refl _) ⟨Nat.zero_le _,[],0,.nil,Heap.get?_push_size _ rfl⟩
 have nD:∀b∈fp,b≠s2.heap.objs.size:=fun b hb=>by
  obtain⟨o,e,_⟩:=T.obj _ _ st2 b hb
  exact Nat.ne_of_lt (Heap.lt_size e)
 have f3:∀b∈fp,FpOk X pins (bQ H2 s2.heap.objs.size (.lst [])) b:=fun b hb=>⟨by rw[ay (nD b hb)];exact(f2 b hb).1,(f2 b hb).2⟩
 refine jT (RR:=fun C=>compPost (model X.prog X.w) X.A X.xe none (EP X pins σ Q) (.ref s2.heap.objs.size) C) S hc CompE.list rfl hg hf hb ht I3 T (T.keep _ _ _ st2 fun b hb o e=>Heap.get?_push_of_some _ e) f3 (w _ hz) fun C σ' H' s' hC I' q=>?_
 obtain⟨m,hn,_⟩:=I'.loc
 exact⟨m,hn,fun h' hs'=>⟨.ref _,H',lU I3 f3 hC I' hs',rfl,q⟩⟩
theorem ia {it acc:Value} {env:Env} {e iter2:Expr} {d:Nat} {c:Code} :cT tg iter ifs (o5 iter2 e d env acc) it env c=(do
 standAt iter.pos
 match ←pyNext it with
 | none=>pure (.done .next)
 | some v =>
  letOwnedTupleGo tg it v
  assign tg env v
  let mut ok:=true
  for c in ifs do
   if ok then ok ←isTrue c env (eval c env)
  if ok then
    let x ←eval iter2 env
    standAt iter2.pos
    let x ←foldedSetIterable iter2 env x
    let _ ←runOwn (.compStart e d (←holding [x] (pyIter x)) acc env) env
  again c):=by
 unfold cT o5
 simp only[bind_assoc,pure_bind]
 all_goals rfl
variable {kx vx elt tg2 iter2 tg3 iter3:Expr} {ifs2 ifs3:List Expr} {wi2 wi3:TI} {g2 g3:TG} {tf2 tf3:TT} {te tk tv:TE} {mk:HO}
theorem lV (S:CompScope X scope N cap) (hc:X.calm=true) (hi:PI X tg iter wi)
  (hg:∀s H C fp,PG (ah X scope N s H C fp) tg g) (hf:∀s H C fp,kG (ah X scope N s H C fp) ifs tf)
  (hi2:∀s H C fp,PI (ah X scope N s H C fp) tg2 iter2 wi2) (hg2:∀s H C fp,PG (ah X scope N s H C fp) tg2 g2) (hf2:∀s H C fp,kG (ah X scope N s H C fp) ifs2 tf2)
  (hi3:∀s H C fp,PI (ah X scope N s H C fp) tg3 iter3 wi3) (hg3:∀s H C fp,PG (ah X scope N s H C fp) tg3 g3) (hf3:∀s H C fp,kG (ah X scope N s H C fp) ifs3 tf3) (he:∀s H C fp,PE (ah X scope N s H C fp) elt te)
  (hs:∀x,foldedSetIterable iter X.env x=pure x:=by intro _;rfl) (hs2:∀env x,foldedSetIterable iter2 env x=pure x:=by intro _ _;rfl) (hs3:∀env x,foldedSetIterable iter3 env x=pure x:=by intro _ _;rfl):PE X (.ListComp elt [⟨tg,iter,ifs,0⟩,⟨tg2,iter2,ifs2,0⟩,⟨tg3,iter3,ifs3,0⟩] scope pos) (jR (.lst []) cap wi g tf (q0 wi2 g2 tf2 (q0 wi3 g3 tf3 (jS te)))):=
 o8 S hc hi hg hf (body:=o5 iter2 (.ListComp elt [⟨tg,iter,ifs,0⟩,⟨tg2,iter2,ifs2,0⟩,⟨tg3,iter3,ifs3,0⟩] scope pos) 1)
  (fun s H C fp=>o7 (Y:=ah X scope N s H C fp) hc rfl (hi2 s H C fp) (hg2 s H C fp) (hf2 s H C fp) (body:=o5 iter3 (.ListComp elt [⟨tg,iter,ifs,0⟩,⟨tg2,iter2,ifs2,0⟩,⟨tg3,iter3,ifs3,0⟩] scope pos) 2) (o7 (Y:=ah X scope N s H C fp) hc rfl (hi3 s H C fp) (hg3 s H C fp) (hf3 s H C fp) (body:=qK elt) (q9 (Y:=ah X scope N s H C fp) rfl (he s H C fp)) CompE.list rfl (fun _ _ _=>rfl) (hs3 _)) CompE.list rfl (fun _ _ _=>by rw[ia];rfl) (hs2 _)) (fun _ _ _=>by rw[ia];rfl) hs
end
end L2
namespace Wb
open PySem L2 Mi
section
variable {Er:Nat→Prop} {α β γ S:Type} {K:PySem.W.Frag} {W W' W0 Wb W1 W2:Wd} {σ:St} {t ta tb te ti tk tv:TE} {i:Nat} {O:Wd→Addr→S→Prop}
theorem sJ {t:TB} {D:Addr} {H:Hp} {M:Hp→Prop} (h:t D σ H M):pw σ H fun b H3=>if b=true then t D σ H3 M else M H3:=by
 show(if true=true then t D σ H M else M H)
 rw[if_pos rfl];exact h
def BV (Er:Nat→Prop) (t:TB) (σ:St) (Wb W:Wd) (O:Wd→Addr→S→Prop) (D:Addr) (m:S→Res S):Prop:=∀W1 s (N:Hp→Prop),Ext W W1→O W1 D s→(m s).OkE Er (fun s'=>∀W',Same W1.G W'.G→Ext Wb W'→O W' D s'→N W'.H)→t D σ W1.H N
theorem qa {R:Rp β} [Mono R] {me:Res β} {D:Addr} (eb:Ext Wb W) (hD:Wb.H D=none) (h:EV Er te σ W (sh R) me):BV Er (jS te) σ Wb W (Ow R) D (fun ys=>me.bind fun y=>dm ys y):=fun W1 ys N e1 o k=>
 h W1 e1 _ ((Res.okE_bind k).imp fun y ky v W2 e2 hv => by
  obtain⟨h3,h4⟩:=b0 ky
  have o2:=o.mono e2
  obtain⟨vs,h1,h2⟩:=o2.h
  exact⟨vs,h1,by rw[h2.1,sizeLine_eq];unfold Mi.cap at h3;omega,h4 (W2.mut D (.lst (vs++ [v])) o2.g) e2.g (((eb.trans e1).trans e2).mut hD o2.g) ⟨o2.g,_,ax,h2.snoc hv⟩⟩)
theorem kY {R:Rp α} {J:It} {xs:List α} {g:TG} {tf:TT} {t:TB} {f:α→S→Res S} {D:Addr} {N:Hp→Prop} {s0:S} (hy:Yl J W R xs) (h0:Ext W W1∨Same W.G W1.G) (eb:Ext Wb W1) (o:O W1 D s0)
  (hs:∀W2 a v s (M:Hp→Prop),Same W.G W2.G→Ext Wb W2→O W2 D s→R W2.G a v→(f a s).OkE Er (fun s'=>∀W',Same W2.G W'.G→Ext Wb W'→O W' D s'→M W'.H)→g v σ W2.H fun σ2 H2=>Keep σ σ2∧tf σ2 H2 fun b H3=>if b=true then t D σ2 H3 M else M H3)
  (mono:∀W W' s,Ext W W'→O W D s→O W' D s)
  (k:(br f xs s0).OkE Er fun s'=>∀W',Same W.G W'.G→Ext Wb W'→O W' D s'→N W'.H):o6 g tf t D σ W1.H N J:=by
 have hs1:Same W.G W1.G:=h0.elim (fun e=>e.g) id
 refine⟨fun i n H=>n=xs.length- i∧i≤xs.length∧∃(W3:Wd) (s:S),W3.H=H∧Same W.G W3.G∧Ext Wb W3∧O W3 D s∧(br f (xs.drop i) s).OkE Er fun s'=>∀W',Same W.G W'.G→Ext Wb W'→O W' D s'→N W'.H,⟨xs.length,by simp,by simp,W1,s0,rfl,hs1,eb,o,by simpa using k⟩,?_⟩
 rintro i n H ⟨rfl,hi1,W3,s,rfl,e3,eb3,o3,q⟩
 by_cases hlt:i< xs.length
 ·obtain⟨a,ha⟩:∃a,xs[i]? =some a:=⟨xs[i],by simp[hlt]⟩
  obtain⟨h1,h2⟩:=(hy W3 e3).1 i a ha
  refine .inr ⟨h1,fun H'=>∃(W3:Wd) (s:S),W3.H=H'∧Same W.G W3.G∧Ext Wb W3∧O W3 D s∧(br f (xs.drop (i+1)) s).OkE Er fun s'=>∀W',Same W.G W'.G→Ext Wb W'→O W' D s'→N W'.H,fun H' z=>⟨xs.length- (i+1),by omega,rfl,hlt,z⟩,fun x H' hx=>?_⟩
  obtain⟨W4,rfl,e4,rx⟩:=h2 x H' hx
  rw[i3 ha]at q
  exact hs W4 a x s _ (e3.trans e4.g) (eb3.trans e4) (mono _ _ _ e4 o3) rx ((Res.okE_bind q).imp fun s' ks W' z1 z2 z3=>⟨W',s',rfl,(e3.trans e4.g).trans z1,z2,z3,ks⟩)
 ·have e:i=xs.length:=by omega
  subst e
  rw[List.drop_length]at q
  exact .inl ⟨(hy W3 e3).2,q W3 e3 eb3 o3⟩
theorem o9 {R:Rp α} {wi:TI} {g:TG} {tf:TT} {t:TB} {mi:Res (List α)} {f:α→S→Res S} {D:Addr} (eb:Ext Wb W) (hi:IV Er wi σ W R mi) (mono:∀W W' s,Ext W W'→O W D s→O W' D s)
  (hs:∀W2 a v s (M:Hp→Prop),Same W.G W2.G→Ext Wb W2→O W2 D s→R W2.G a v→(f a s).OkE Er (fun s'=>∀W',Same W2.G W'.G→Ext Wb W'→O W' D s'→M W'.H)→g v σ W2.H fun σ2 H2=>Keep σ σ2∧tf σ2 H2 fun b H3=>if b=true then t D σ2 H3 M else M H3):
  BV Er (q0 wi g tf t) σ Wb W O D (fun s=>mi.bind fun xs=>br f xs s):=fun W1 s N e1 o k=>
 hi W1 e1 _ ((Res.okE_bind k).imp fun xs kx J W2 e2 hy=>kY (W:=W2) (Wb:=Wb) hy (.inl (.refl _)) ((eb.trans e1).trans e2) (mono _ _ _ e2 o) (fun W3 a v s M e3 eb3 o3 r k3=>hs W3 a v s M ((e1.trans e2).g.trans e3) eb3 o3 r k3) mono (kx.imp fun s' ks W' z1 z2 z3=>ks W' (e2.g.trans z1) z2 z3))
theorem og {R:Rp α} {R':Rp β} [Mono R'] {cap:List (Option Nat)} {wi:TI} {g:TG} {tf:TT} {t:TB} {mi:Res (List α)} {f:α→List β→Res (List β)} (hi:IV Er wi σ W R mi)
  (hs:∀Wb D W2 a v s (M:Hp→Prop),Same W.G W2.G→Ext W Wb→Wb.H D=none→Ext Wb W2→Ow R' W2 D s→R W2.G a v→(f a s).OkE Er (fun s'=>∀W',Same W2.G W'.G→Ext Wb W'→Ow R' W' D s'→M W'.H)→g v (aW cap σ) W2.H fun σ2 H2=>Keep (aW cap σ) σ2∧tf σ2 H2 fun b H3=>if b=true then t D σ2 H3 M else M H3):
  EVo Er (jR (.lst []) cap wi g tf t) σ W R' (mi.bind fun xs=>br f xs []):=fun W1 e1 Q k=>
 hi W1 e1 _ ((Res.okE_bind k).imp fun xs kx J W2 e2 hy D hD=>by
  refine kY (W:=W2) (W1:=W2.mut D (.lst []) (W2.gnone hD)) (Wb:=W2) (O:=Ow R') hy (.inr (.refl _)) (.own _ hD) ⟨W2.gnone hD,[],ax,.nil⟩ (fun W3 a v s M e3 eb3 o3 r k3=>hs W2 D W3 a v s M ((e1.trans e2).g.trans e3) (e1.trans e2) hD eb3 o3 r k3) (fun _ _ _ e o=>o.mono e) ?_
  exact kx.imp fun s' ks W' z1 z2 z3=>ks D W' (e2.trans z2) (none_of e2.h hD) z3)
end
end Wb
namespace Mi
end Mi
namespace Wb
open PySem L2 Mi
end Wb
namespace Mi
end Mi
namespace Wb
open PySem L2 Mi
section
open PyProof PyProof.Rows
variable {X:Cx} {pos:Pos}
end
end Wb
namespace Wb
open PySem L2 Mi
end Wb
namespace Mi
end Mi
namespace Wb
open PySem L2 Mi
end Wb
namespace Mi
end Mi
namespace Wb
open PySem L2 Mi
end Wb
namespace L2
open PySem PySem.Spec PyProof.Rows
end L2
namespace L2
open PySem PySem.Spec PyProof.Rows Builtin Builtin.ObjectAttr
open PySem.W (findIn findObj mroIn looks_findIn looks_find looks_mroIn looks_clsIn clsIn Frag InstAt Looks)
end L2
namespace L2
open PySem PySem.Spec PySem.Calls PyProof.Rows
open PySem.W (findIn findObj mroIn looks_findIn looks_find looks_mroIn class_get KitX clsIn Frag InstAt lookIn)
end L2
namespace L2
open PySem PySem.Spec PySem.Calls PyProof.Rows
open PySem.W (findIn findObj clsIn Frag InstAt lookIn)
end L2
namespace Mi
end Mi
namespace Wb
open PySem L2 Mi
end Wb
namespace Wb
open PySem L2 Mi
theorem sK {K:PySem.W.Frag} {α β γ δ:Type} {R1:Rp α} {R2:Rp β} {R3:Rp γ} {R4:Rp δ} {u1:α→Dat} {u2:β→Dat} {u3:γ→Dat} {u4:δ→Dat} (h1:iI K R1 u1) (h2:iI K R2 u2) (h3:iI K R3 u3) (h4:iI K R4 u4):iI K (sD K R1 R2 R3 R4) (fun x=>.t [u1 x.1,u2 x.2.1,u3 x.2.2.1,u4 x.2.2.2]):=fun H a v ⟨p,x,y,z,u,h0,h,r1,r2,r3,r4⟩=>by
 subst h0
 refine .t h rfl fun j d v e1 e2=>?_
 match j,e1,e2 with
 | 0,e1,e2=>cases e1;cases e2;exact h1 _ _ _ r1
 | 1,e1,e2=>cases e1;cases e2;exact h2 _ _ _ r2
 | 2,e1,e2=>cases e1;cases e2;exact h3 _ _ _ r3
 | 3,e1,e2=>cases e1;cases e2;exact h4 _ _ _ r4
end Wb
namespace Wb
open PySem L2 Mi
section
variable {α β γ:Type}
def oO1 (C:Addr) (f:Str) (R:Rf α):Rf α:=fun W F x v=>∃(a dx:Addr) (u:V) (F1:FS),v=.ref a∧W.G a=none∧W.G dx=none∧W.H a=some (.ins C dx [(f,u)])∧W.H dx=some (.own a)∧R W F1 x u∧¬F1 a∧¬F1 dx∧∀q,F q↔(q=a∨q=dx)∨F1 q
def isO1 (C:Addr) (f:Str) (R:Rp α):Rp α:=fun G x v=>∃a dx u,v=.ref a∧G a=some (.ins C dx [(f,u)])∧R G x u
instance zkeep57 {C:Addr} {f:Str} {R:Rp α} [Mono R]:Mono (isO1 C f R):=⟨fun e ⟨a,dx,u,h1,h2,h3⟩=>⟨a,dx,u,h1,e _ _ h2,Mono.mono e h3⟩⟩
instance zkeep58 {C:Addr} {f:Str} {R:Rf α} [FrT R]:FrT (oO1 C f R):=⟨fun⟨a,dx,u,F1,e,ga,gd,ha,hd,t,n1,n2,hF⟩ s k=>by
 have ka:=k a ((hF a).mpr (.inl (.inl rfl)))
 have kd:=k dx ((hF dx).mpr (.inl (.inr rfl)))
 exact⟨a,dx,u,F1,e,by rw[ka.2];exact ga,by rw[kd.2];exact gd,by rw[ka.1];exact ha,by rw[kd.1];exact hd,FrT.fr t s fun q hq=>k q ((hF q).mpr (.inr hq)),n1,n2,hF⟩,fun⟨a,dx,u,F1,e,ga,gd,ha,hd,t,n1,n2,hF⟩ q hq=>by
 rcases (hF q).mp hq with(rfl | rfl) | h
 ·exact⟨ga,nn_of ha⟩
 ·exact⟨gd,nn_of hd⟩
 ·exact FrT.lv t q h⟩
instance zkeep59 {C:Addr} {f:Str} {R:Rf α} {R':Rp α} [FzT R R']:FzT (oO1 C f R) (isO1 C f R'):=⟨fun⟨a,dx,u,F1,e,ga,gd,ha,hd,t,n1,n2,hF⟩ s k=>⟨a,dx,u,e,by rw[k a ((hF a).mpr (.inl (.inl rfl)))];exact ha,FzT.fz t s fun q hq=>k q ((hF q).mpr (.inr hq))⟩⟩
variable {Er:Nat→Prop} {t:TE} {σ:St} {W W0:Wd} {K:PySem.W.Frag} {Cl:Addr} {f:Str}
theorem oh {u:V} :List.lookup f [(f,u)]=some u:=by simp[List.lookup]
theorem oi {R:Rf α} {m:Res α} (c:Cls K Cl) (n:NoAttr K Cl f) (h:EV Er t σ W (vw (oO1 Cl f R)) m):EV Er (pi K t f) σ W (vw R) m:=fun W1 e1 Q k=>
 h W1 e1 _ (k.imp fun x kx v W2 e2 ⟨F,a,dx,u,F1,e,ga,gd,ha,hd,t,_⟩=>⟨a,Cl,dx,_,u,e,ha,c,n,oh,kx u W2 e2 ⟨F1,t⟩⟩)
theorem dX {R:Rp α} {m:Res α} (c:Cls K Cl) (n:NoAttr K Cl f) (h:EV Er t σ W (sh (isO1 Cl f R)) m):EV Er (pi K t f) σ W (sh R) m:=fun W1 e1 Q k=>
 h W1 e1 _ (k.imp fun x kx v W2 e2 ⟨a,dx,u,e,ha,r⟩=>⟨a,Cl,dx,_,u,e,W2.ok _ _ ha,c,n,oh,kx u W2 e2 r⟩)
theorem rD {R:Rf β} [FrT R] {C:α→List TC} {m:Res (β×(β→α))} (c:Cls K Cl) (n:NoAttr K Cl f) (h:EV Er t σ W (Lens W0 C (oO1 Cl f R)) m):EV Er (pi K t f) σ W (Lens W0 C R) m:=fun W1 e1 Q k=>
 h W1 e1 _ (k.imp fun x kx v W2 e2 ⟨F, ⟨a, dx, u, F1, e, ga, gd, ha, hd, t, n1, n2, hF⟩, hn, up⟩ => ⟨a, Cl, dx, _, u, e, ha, c, n, oh, kx u W2 e2 ⟨F1, t, fun q hq => hn q ((hF q).mpr (.inr hq)), fun W' F' b' mu hF' t' => by
  refine up W' (fun q=>(q=a∨q=dx)∨F' q) b' (mu.up fun q hq=>(hF q).mpr (.inr hq)) (fun q hq=>?_) ⟨a,dx,u,F',e,by rw[mu.k a (nn_of ha)];exact ga,by rw[mu.k dx (nn_of hd)];exact gd,by rw[mu.h a n1 (nn_of ha)];exact ha,by rw[mu.h dx n2 (nn_of hd)];exact hd,t',fun z=>?_,fun z=>?_,fun q=>Iff.rfl⟩
  ·rcases hq with z | z
   ·exact .inl ((hF q).mpr (.inl z))
   ·exact(hF' q z).imp (fun y=>(hF q).mpr (.inr y)) id
  ·exact(hF' a z).elim n1 (nn_of ha)
  ·exact(hF' dx z).elim n2 (nn_of hd)⟩⟩)
end
section
variable {α β γ ρ τ:Type}
abbrev Ra (α:Type):=Hp→α→List V→Prop
def aN:Ra Unit:=fun _ _ us=>us=[]
def aC (R:Rp α) (RA:Ra β):Ra (α×β):=fun G a us=>∃v r,us=v::r∧R G a.1 v∧RA G a.2 r
def lW (R:Rf τ) (RA:Ra α) (cs:List Addr) (RR:Rp ρ) (m:τ→α→Res (τ×ρ)):Sp:=fun vs H Q E=>∃(W0 W:Wd) (F:FS) (x:τ) (v:V) (a:α) (us:List V),W.H=H∧vs=v::us∧Ext W0 W∧(∀q,F q→W0.H q=none)∧R W F x v∧RA W.G a us∧∃Er:Nat→Prop,Esc Er cs E W∧(m x a).OkE Er fun r=>∀u W' F',Ext W0 W'→Same W.G W'.G→(∀q,F' q→W0.H q=none)→R W' F' r.1 v→RR W'.G r.2 u→Q u W'.H
open Classical in
noncomputable def oj (H:Hp) (F:FS):Hp:=fun q=>if F q then none else H q
theorem qb {H:Hp} {F:FS} {q:Addr} (h:F q):oj H F q=none:=by unfold oj;rw[if_pos h]
theorem jd {H:Hp} {F:FS} {q:Addr} (h:¬F q):oj H F q=H q:=by unfold oj;rw[if_neg h]
noncomputable def Wd.sub (W:Wd) (F:FS) (h:∀q,F q→W.G q=none):Wd:=⟨W.G,oj W.H F,fun a o e=>by
 rw[jd (fun z=>by rw[h a z]at e;cases e)];exact W.ok _ _ e⟩
theorem Wd.sub_in {W:Wd} {F:FS} {h:∀q,F q→W.G q=none} {q:Addr} (hq:F q):(W.sub F h).H q=none:=qb hq
theorem Wd.sub_out {W:Wd} {F:FS} {h:∀q,F q→W.G q=none} {q:Addr} (hq:¬F q):(W.sub F h).H q=W.H q:=jd hq
theorem Wd.sub_ext {W:Wd} {F:FS} {h:∀q,F q→W.G q=none} :Ext (W.sub F h) W:=⟨.refl _,fun a u z=>by
 by_cases y:F a
 ·rw[Wd.sub_in y]at z;cases z
 ·rw[Wd.sub_out y]at z;exact z,fun _ _=>rfl⟩
variable {W0 W:Wd} {cs:List TC}
theorem Sep.call {R:Rf β} [FrT R] {b:β} {v:V} {k:Nat} (s:Sep W0 W cs) (E:Ext W0 W) (hc:cs[k]? =some (tc R b v)):
  ∃W1 F,Ext W1 W∧R W F b v∧(∀q,F q→W1.H q=none)∧∀W' F' b',Ext W1 W'→(∀q,F' q→W1.H q=none)→R W' F' b' v→Ext W0 W'∧Sep W0 W' (cs.set k (tc R b' v)):=by
 obtain⟨Fs,s⟩:=s
 have t:R W (Fs k) b v:=s.el k _ hc
 have lv:=fun q hq=>FrT.lv t q hq
 have hi:k< cs.length:=(List.getElem?_eq_some_iff.mp hc).1
 have nF:∀p,W0.H p≠none→¬Fs k p:=fun p hp z=>hp (s.nw k p z)
 have E1:Ext W0 (W.sub (Fs k) fun q hq=>(lv q hq).1):=⟨E.g,fun a u z=>by rw[Wd.sub_out (nF a (nn_of z))];exact E.h _ _ z,fun p hp=>E.k p hp⟩
 refine⟨W.sub (Fs k) fun q hq=>(lv q hq).1,Fs k,Wd.sub_ext,t,fun q hq=>Wd.sub_in hq,fun W' F' b' e hF' t'=>⟨E1.trans e,?_⟩⟩
 have out:∀q,F' q→Fs k q∨W.H q=none:=fun q hq=>by
  by_cases z:Fs k q
  ·exact .inl z
  ·exact .inr (by rw[←Wd.sub_out (h:=fun q hq=>(lv q hq).1) z];exact hF' q hq)
 refine⟨fun j=>if j=k then F' else Fs j,fun j c h=>?_,fun j q h=>?_,fun j l q h1 h2=>?_,fun j q h=>?_⟩
 ·rw[List.getElem?_set]at h
  by_cases z:k=j
  ·subst z
   rw[if_pos rfl,if_pos hi]at h
   cases h
   simp only[if_true]
   exact t'
  ·rw[if_neg z]at h
   simp only[if_neg (Ne.symm z)]
   refine @FrT.fr _ _ c.i _ _ _ _ _ (s.el j c h) e.g fun q hq=>?_
   have nk:¬Fs k q:=fun y=>z (s.dj k j q y hq)
   have hn:(W.sub (Fs k) fun q hq=>(lv q hq).1).H q≠none:=by rw[Wd.sub_out nk];exact(s.lv hq).2
   exact⟨by rw[e.keepH hn,Wd.sub_out nk],e.k q hn⟩
 ·rw[List.length_set]
  by_cases z:j=k
  ·rw[z];exact hi
  ·simp only[if_neg z]at h;exact s.rng j q h
 ·have key:∀j q,(if j=k then F' else Fs j) q→(j=k∧F' q)∨(j≠k∧Fs j q):=fun j q h=>by
   by_cases z:j=k
   ·exact .inl ⟨z,by simpa [if_pos z] using h⟩
   ·exact .inr ⟨z,by simpa [if_neg z] using h⟩
  rcases key j q h1 with⟨z1,a⟩ | ⟨z1,a⟩ <;> rcases key l q h2 with⟨z2,b⟩ | ⟨z2,b⟩
  ·rw[z1,z2]
  ·exact((out q a).elim (fun y=>z2 (s.dj l k q b y)) fun y=>absurd y (s.lv b).2).elim
  ·exact((out q b).elim (fun y=>z1 (s.dj j k q a y)) fun y=>absurd y (s.lv a).2).elim
  ·exact s.dj j l q a b
 ·by_cases z:j=k
  ·simp only[if_pos z]at h
   exact(out q h).elim (s.nw k q) fun y=>none_of E.h y
  ·simp only[if_neg z]at h;exact s.nw j q h
end
end Wb
namespace Wb
open PySem L2 Mi
section
variable {Er:Nat→Prop} {α β:Type} {W W':Wd} {σ:St} {K:PySem.W.Frag}
theorem TL.snoc {R:Rf α} [FrT R] {Fs:Nat→FS} {F:FS} {xs:List α} {vs:List V} {x:α} {u:V} (t:TL R W Fs xs vs) (e:Ext W W') (r:R W' F x u) (hn:∀q,F q→W.H q=none):TL R W' (fun j=>if j=xs.length then F else Fs j) (xs++ [x]) (vs++ [u]):=by
 have key:∀j q,(if j=xs.length then F else Fs j) q→(j=xs.length∧F q)∨(j< xs.length∧Fs j q):=fun j q h=>by
  by_cases z:j=xs.length
  ·exact .inl ⟨z,by simpa [if_pos z] using h⟩
  ·have h':Fs j q:=by simpa [if_neg z] using h
   exact .inr ⟨t.rng j q h',h'⟩
 refine⟨by simp[t.len],fun i y w h1 h2=>?_,fun i q h=>?_,fun i j q h1 h2=>?_⟩
 ·by_cases z:i< xs.length
  ·rw[List.getElem?_append_left z]at h1
   rw[List.getElem?_append_left (by rw[t.len];exact z)]at h2
   simp only[if_neg (Nat.ne_of_lt z)]
   exact FrT.ext (t.el i y w h1 h2) e
  ·rw[List.getElem?_append_right (by omega)]at h1
   rw[List.getElem?_append_right (by rw[t.len];omega),t.len]at h2
   have z2:i- xs.length=0:=by
    refine Classical.byContradiction fun y=>?_
    rw[List.getElem?_eq_none_iff.mpr (by simp;omega)]at h1;cases h1
   rw[z2]at h1 h2
   cases h1;cases h2
   simp only[if_pos (show i=xs.length by omega)]
   exact r
 ·rw[List.length_append,List.length_singleton]
  rcases key i q h with⟨a,_⟩ | ⟨a,_⟩ <;> omega
 ·rcases key i q h1 with⟨z1,a⟩ | ⟨z1,a⟩ <;> rcases key j q h2 with⟨z2,b⟩ | ⟨z2,b⟩
  ·omega
  ·obtain⟨_,_,_,_,rr⟩:=t.at2 b
   exact absurd (hn q a) (FrT.lv rr q b).2
  ·obtain⟨_,_,_,_,rr⟩:=t.at2 a
   exact absurd (hn q b) (FrT.lv rr q a).2
  ·exact t.dj i j q a b
theorem TL.ext {R:Rf α} [FrT R] {Fs:Nat→FS} {xs:List α} {vs:List V} (t:TL R W Fs xs vs) (e:Ext W W'):TL R W' Fs xs vs:=⟨t.len,fun i x u a b=>FrT.ext (t.el i x u a b) e,t.rng,t.dj⟩
theorem fe {cap:List (Option Nat)} {wi:TI} {g:TG} {te:TE} {R:Rp α} {R':Rf β} [FrT R'] {m:Res (List α)} {f:α→Res β} (hi:IV Er wi σ W R m)
  (hb:∀(W1:Wd) (a:α) (v:V),Ext W W1→R W1.G a v→∀Q:VK,(f a).OkE Er (fun b=>∀u W2 F,Ext W1 W2→(∀q,F q→W1.H q=none)→R' W2 F b u→Q u W2.H)→g v (aW cap σ) W1.H fun σ2 H2=>Keep (aW cap σ) σ2∧te σ2 H2 Q):
  EVt Er (hU cap wi g pw te) σ W (oL R') (m.bind fun xs=>bD xs f):=fun W1 e1 Q k=>by
 refine hi W1 e1 _ ((Res.okE_bind k).imp fun xs kx J W2 e2 hy=>?_)
 obtain⟨hl,kx⟩:=b0 (Res.okE_bind kx)
 refine⟨fun i n ys H=>n=xs.length- i∧i≤xs.length∧ys.length≤i∧∃(W3:Wd) (bs:List β) (Fs:Nat→FS),W3.H=H∧Ext W2 W3∧TL R' W3 Fs bs ys∧(∀i q,Fs i q→W2.H q=none)∧(eY f (xs.drop i)).OkE Er (fun r=>∀v W4 F,Ext W1 W4→(∀q,F q→W1.H q=none)→oL R' W4 F (bs++r) v→Q v W4.H),⟨xs.length,by simp,by simp,by simp,W2,[],fun _ _=>False,rfl,.refl _,⟨rfl,fun i x u h=>by simp at h,fun _ _ z=>z.elim,fun _ _ _ z=>z.elim⟩,fun _ _ z=>z.elim,?_⟩,?_⟩
 ·simpa using kx
 ·rintro i n ys H ⟨rfl,hi1,hyl,W3,bs,Fs,rfl,e3,lr,fr,q⟩
  refine⟨by rw[sizeLine_eq];unfold Mi.cap at hl;omega,?_⟩
  by_cases hlt:i< xs.length
  ·obtain⟨a,ha⟩:∃a,xs[i]? =some a:=⟨xs[i],by simp[hlt]⟩
   obtain⟨h1,h2⟩:=(hy W3 e3.g).1 i a ha
   refine .inr ⟨h1,fun ys' H'=>ys'.length≤i+1∧∃(W3:Wd) (bs:List β) (Fs:Nat→FS),W3.H=H'∧Ext W2 W3∧TL R' W3 Fs bs ys'∧(∀i q,Fs i q→W2.H q=none)∧(eY f (xs.drop (i+1))).OkE Er (fun r=>∀v W4 F,Ext W1 W4→(∀q,F q→W1.H q=none)→oL R' W4 F (bs++r) v→Q v W4.H),fun ys' H' ⟨z1,z2⟩=>⟨xs.length- (i+1),by omega,rfl,hlt,z1,z2⟩,fun x H' hx=>?_⟩
   obtain⟨W4,rfl,e4,rx⟩:=h2 x H' hx
   rw[i0 ha]at q
   have:=hb W4 a x (e1.trans ((e2.trans e3).trans e4)) rx (fun y H4=>(ys++ [y]).length≤i+1∧∃(W3:Wd) (bs:List β) (Fs:Nat→FS),W3.H=H4∧Ext W2 W3∧TL R' W3 Fs bs (ys++ [y])∧(∀i q,Fs i q→W2.H q=none)∧(eY f (xs.drop (i+1))).OkE Er (fun r=>∀v W4 F,Ext W1 W4→(∀q,F q→W1.H q=none)→oL R' W4 F (bs++r) v→Q v W4.H))
    ((Res.okE_bind q).imp fun b kb u W5 F5 e5 hF5 hu=>⟨by simp;exact hyl,W5,bs++ [b],_,rfl,(e3.trans e4).trans e5,(lr.ext e4).snoc e5 hu hF5,fun j q hq=>?_,(Res.okE_bind kb).imp fun r kr=>by rw[List.append_assoc];exact kr⟩)
   ·exact this
   ·by_cases z:j=bs.length
    ·simp only[if_pos z]at hq
     exact none_of (e3.trans e4).h (hF5 q hq)
    ·simp only[if_neg z]at hq
     exact fr j q hq
  ·have e:i=xs.length:=by omega
   subst e
   rw[List.drop_length]at q
   refine .inl ⟨(hy W3 e3.g).2,fun D hD=>?_⟩
   have e13:=e2.trans e3
   refine q (.ref D) (W3.mut D (.lst ys) (W3.gnone hD)) (fun q=>q=D∨∃i,Fs i q) (e13.trans (.own _ hD)) (fun q hq=>?_) ⟨D,ys,Fs,rfl,W3.gnone hD,ax,by rw[List.append_nil];exact lr.ext (.own _ hD),fun i z=>?_,fun q=>Iff.rfl⟩
   ·rcases hq with z | ⟨i,z⟩
    ·rw[z];exact none_of e13.h hD
    ·exact none_of e2.h (fr i q z)
   ·obtain⟨_,_,_,_,rr⟩:=lr.at2 z
    exact(FrT.lv rr D z).2 hD
end
end Wb
namespace Wb
open PySem L2 Mi
structure CalM (P:Program) (w:World) (K:PySem.W.Frag) (mg:Str→Option Value) (base:Heap) (CX:CXT) (C:Addr) (m:Str) (ps:List Str) (k:Nat) (sp:Sp):Prop where
 ex:∃(f:Addr) (fd:FuncData),FnOk P w K mg base CX k f fd ps sp∧Meth K C m f∧Cls K C∧Binds K fd ps []
section
variable {X:Cx} {CX:CXT} {C:Addr} {m:Str} {ps:List Str} {k:Nat} {sp:Sp} {E:XK} {pos apos:Pos} {o e:Expr} {es:List Expr} {ta:TE} {t:TA}
theorem kZ {pl:Sem Bool} (h:CalM X.prog X.w X.K X.mg X.base CX0 C m ps k sp) (hr:Room k X.A) (he:PE X o ta) (ha:PA X (e::es) t)
  (hst:starEach (e::es) X.env=(false,eval e X.env)::starEach es X.env:=by rfl) (hpl:(backTo pos (starEach es X.env)).any (·.1)=false:=by rfl)
  (ht:eval (.Call (.Attribute o m apos) (e::es) [] pos) X.env=(do
   let ov ←eval o X.env
   standAt apos.atName
   let (f,first) ←holding [ov] (getMethod ov m pl)
   callWith pos f first (backTo pos (starEach (e::es) X.env)) (backToKw pos (keywordEach [] X.env))):=by rfl):
  PE X (.Call (.Attribute o m apos) (e::es) [] pos) (dH C m sp [] E0 ta t):=by
 obtain⟨f,fd,F,M,c,b⟩:=h.ex
 exact kD he c M F hr b .nil kF ha hst hpl ht
theorem dY {pl:Sem Bool} (h:CalM X.prog X.w X.K X.mg X.base CX0 C m ps k sp) (hr:Room k X.A) (he:PE X o ta)
  (ht:eval (.Call (.Attribute o m apos) [] [] pos) X.env=(do
   let ov ←eval o X.env
   standAt apos.atName
   let (f,first) ←holding [ov] (getMethod ov m pl)
   callWith pos f first (backTo pos (starEach [] X.env)) (backToKw pos (keywordEach [] X.env))):=by rfl):
  PE X (.Call (.Attribute o m apos) [] [] pos) (dH C m sp [] E0 ta aJ):=by
 obtain⟨f,fd,F,M,c,b⟩:=h.ex
 exact mP he c M F hr b .nil kF ht
theorem dt {pl:Sem Bool} (h:CalM X.prog X.w X.K X.mg X.base (i6 X.prog X.w) C m ps k sp) (hx:dk (i6 X.prog X.w) X E) (hr:Room k X.A) (he:PE X o ta) (ha:PA X (e::es) t)
  (hst:starEach (e::es) X.env=(false,eval e X.env)::starEach es X.env:=by rfl) (hpl:(backTo pos (starEach es X.env)).any (·.1)=false:=by rfl)
  (ht:eval (.Call (.Attribute o m apos) (e::es) [] pos) X.env=(do
   let ov ←eval o X.env
   standAt apos.atName
   let (f,first) ←holding [ov] (getMethod ov m pl)
   callWith pos f first (backTo pos (starEach (e::es) X.env)) (backToKw pos (keywordEach [] X.env))):=by rfl):
  PE X (.Call (.Attribute o m apos) (e::es) [] pos) (dH C m sp [] E ta t):=by
 obtain⟨f,fd,F,M,c,b⟩:=h.ex
 exact kD he c M F hr b .nil hx ha hst hpl ht
end
section
variable {Er:Nat→Prop} {α β γ δ ε ζ:Type} {ta t1 t2 t3:TE} {σ:St} {W:Wd} {Cl:Addr} {m fld:Str} {cs:List Addr} {E:XK} {R0:Rp α} {R1:Rp γ} {R2:Rp δ} {R3:Rp ε} [Mono R0] [Mono R1] [Mono R2] [Mono R3] {ma:Res α} {m1:Res γ} {m2:Res δ} {m3:Res ε}
theorem sL {u:V} (h:(m == fld)=false):List.lookup m [(fld,u)]=none:=by simp only[List.lookup,h]
theorem rE {RR:Rp β} {f:α→Res β} (h:EV Er ta σ W (sh (isO1 Cl fld R0)) ma) (hne:(m == fld)=false:=by decide):EV Er (dH Cl m (eP (isO1 Cl fld R0) (rs RR) f) [] E0 ta aJ) σ W (sh RR) (ma.bind fun a=>f a):=fun W1 e1 Q k=>
 h W1 e1 _ ((Res.okE_bind k).imp fun a ka v W2 e2 hv => by
  obtain⟨p,dx,u,e,hp,r⟩:=id hv
  exact⟨p,dx,_,e,W2.ok _ _ hp,sL hne,W2,a,v,rfl,rfl,hv,Er,ka.imp fun r kr u W' e hu=>kr u W' (e2.trans e) hu⟩)
theorem fV {RR:Rf β} {f:α→Res β} (h:EV Er ta σ W (sh (isO1 Cl fld R0)) ma) (hne:(m == fld)=false:=by decide):EVt Er (dH Cl m (eP (isO1 Cl fld R0) (sI RR) f) [] E0 ta aJ) σ W RR (ma.bind fun a=>f a):=fun W1 e1 Q k=>
 h W1 e1 _ ((Res.okE_bind k).imp fun a ka v W2 e2 hv => by
  obtain⟨p,dx,u,e,hp,r⟩:=id hv
  exact⟨p,dx,_,e,W2.ok _ _ hp,sL hne,W2,a,v,rfl,rfl,hv,Er,ka.imp fun r kr u W' F e hF hu=>kr u W' F (e2.trans e) (fun q hq=>none_of e2.h (hF q hq)) hu⟩)
theorem l0 {RR:Rp β} {f:α→γ→Res (List β)} (h:EV Er ta σ W (sh (isO1 Cl fld R0)) ma) (h1:EV Er t1 σ W (sh R1) m1) (hne:(m == fld)=false:=by decide):EVo Er (dH Cl m (gv (isO1 Cl fld R0) R1 (ro RR) f) [] E0 ta (af t1 aJ)) σ W RR (ma.bind fun a=>m1.bind fun b=>f a b):=fun W1 e1 Q k=>
 h W1 e1 _ ((Res.okE_bind k).imp fun a ka v W2 e2 hv => by
  obtain⟨p,dx,u,e,hp,r⟩:=id hv
  refine⟨p,dx,_,e,W2.ok _ _ hp,sL hne,h1 W2 (e1.trans e2) _ ((Res.okE_bind ka).imp fun b kb w W3 e3 r1=>?_)⟩
  exact⟨W3,a,b,v,w,rfl,rfl,MonoW.mono (R:=sh (isO1 Cl fld R0)) e3 hv,r1,Er,kb.imp fun r kr p W' e hp o=>kr p W' ((e2.trans e3).trans e) (none_of (e2.trans e3).h hp) o⟩)
theorem om {RR:Rp β} {f:α→γ→δ→ε→Res β} (hE:Esc Er cs E W) (h:EV Er ta σ W (sh (isO1 Cl fld R0)) ma) (h1:EV Er t1 σ W (sh R1) m1) (h2:EV Er t2 σ W (sh R2) m2) (h3:EV Er t3 σ W (sh R3) m3) (hne:(m == fld)=false:=by decide):
  EV Er (dH Cl m (nX (isO1 Cl fld R0) R1 R2 R3 cs (rs RR) f) [] E ta (af t1 (af t2 (af t3 aJ)))) σ W (sh RR) (ma.bind fun a=>m1.bind fun b=>m2.bind fun c=>m3.bind fun d=>f a b c d):=fun W1 e1 Q k=>
 h W1 e1 _ ((Res.okE_bind k).imp fun a ka v W2 e2 hv => by
  obtain⟨p,dx,u,e,hp,r⟩:=id hv
  refine⟨p,dx,_,e,W2.ok _ _ hp,sL hne,h1 W2 (e1.trans e2) _ ((Res.okE_bind ka).imp fun b kb w1 W3 e3 r1=>h2 W3 ((e1.trans e2).trans e3) _ ((Res.okE_bind kb).imp fun c kc w2 W4 e4 r2=>h3 W4 (((e1.trans e2).trans e3).trans e4) _ ((Res.okE_bind kc).imp fun d kd w3 W5 e5 r3=>?_)))⟩
  exact⟨W5,a,b,c,d,v,w1,w2,w3,rfl,rfl,MonoW.mono (R:=sh (isO1 Cl fld R0)) ((e3.trans e4).trans e5) hv,MonoW.mono (R:=sh R1) (e4.trans e5) r1,MonoW.mono (R:=sh R2) e5 r2,r3,Er,hE.mono ((((e1.trans e2).trans e3).trans e4).trans e5),kd.imp fun r kr u W' e hu=>kr u W' ((((e2.trans e3).trans e4).trans e5).trans e) hu⟩)
end
end Wb
namespace Mi
def jU (x:Tx×Tx×Tx) (y:Tx):Option Int:=if x.1=y then some 0 else if x.2.1=y then some 1 else if x.2.2=y then some 2 else none
def jV (x:Tx×Tx×Tx) (y:Tx):Int:=(if x.1=y then 1 else 0)+(if x.2.1=y then 1 else 0)+(if x.2.2=y then 1 else 0)
end Mi
namespace L2
open PySem PySem.Spec PyProof.Rows PySem.SeqAt PySem.AutoSeq1 PySem.MeetsSeq
theorem iL (l:Addr) (a b c:Value) (n:Nat) (dd:Option Addr) (sl:Array (Option Value)) (x:Value) (e:Value→Bool) (j:Nat) (hj:(e a=true∧j=0)∨(e a=false∧e b=true∧j=1)∨(e a=false∧e b=false∧e c=true∧j=2)):
  Meets (Builtin.«tuple.index» ⟨[.ref l,x],[]⟩)
   (fun A R s=>s.heap.get? l=some {cls:=.type "tuple",dict:=dd,data:=.seq #[a,b,c] n,slots:=sl}∧(∀y,y∈[a,b,c]→EqAt A.in1 s y x (e y))∧R (.ok (.ret (.int j s.toks))) {s with toks:=s.toks+1}):=
 .of_wp fun prog w A R s h=>by
  obtain⟨hp,g,d,tk,os⟩:=s;obtain⟨hl,he,h⟩:=h
  have ea:=he a (by simp)
  have eb:=he b (by simp)
  have ec:=he c (by simp)
  wp_walk using wpAny_loadPart' hl
  with_unfolding_all refine wpAny_bind (wpAny_bind (ea prog w _ _ ?_))
  rcases hj with⟨h1,rfl⟩ | ⟨h1,h2,rfl⟩ | ⟨h1,h2,h3,rfl⟩
  ·rw[h1]
   wp_walk
   exact⟨_,rfl,h⟩
  ·rw[h1]
   wp_walk
   with_unfolding_all refine wpAny_bind (wpAny_bind (eb prog w _ _ ?_))
   rw[h2]
   wp_walk
   exact⟨_,rfl,h⟩
  ·rw[h1]
   wp_walk
   with_unfolding_all refine wpAny_bind (wpAny_bind (eb prog w _ _ ?_))
   rw[h2]
   wp_walk
   with_unfolding_all refine wpAny_bind (wpAny_bind (ec prog w _ _ ?_))
   rw[h3]
   wp_walk
   exact⟨_,rfl,h⟩
def lX (a b c y:Str):Option Int:=if a=y then some 0 else if b=y then some 1 else if c=y then some 2 else none
section
variable {X:Cx} {K:PySem.W.Frag}
def sM (K:PySem.W.Frag):V→List V→Hp→VK→Prop:=fun x xs H Q=>∃p a b c y j,x=.ref p∧xs=[.str y]∧SqT K H p [.str a,.str b,.str c]∧lX a b c y=some j∧Q (.int j) H
def sN (K:PySem.W.Frag):V→List V→Hp→VK→Prop:=fun x xs H Q=>∃p a b c y j,x=.ref p∧xs=[.str y]∧SqL K H p [.str a,.str b,.str c]∧lX a b c y=some j∧Q (.int j) H
def lY (a b c y:Str):Int:=(if a=y then 1 else 0)+(if b=y then 1 else 0)+(if c=y then 1 else 0)
def sO (K:PySem.W.Frag):V→List V→Hp→VK→Prop:=fun x xs H Q=>∃p a b c y,x=.ref p∧xs=[.str y]∧SqT K H p [.str a,.str b,.str c]∧Q (.int (lY a b c y)) H
theorem jW {a b c:Str} {its:List Value} (r:Vals [.str a,.str b,.str c] its):∃t1 t2 t3,its=[.str a t1,.str b t2,.str c t3]:=by
 cases r with
 | cons r1 r => cases r with
  | cons r2 r => cases r with
   | cons r3 r =>
    cases r
    obtain⟨t1,rfl⟩:=r1;obtain⟨t2,rfl⟩:=r2;obtain⟨t3,rfl⟩:=r3
    exact⟨t1,t2,t3,rfl⟩
def mz (y:Str):Value→Bool
 | .str a _=>a == y
 | _=>false
theorem gC {a b c y:Str} {t1 t2 t3:Tok} {j:Int} (h:lX a b c y=some j):∃n:Nat,j=(n:Int)∧((mz y (.str a t1)=true∧n=0)∨(mz y (.str a t1)=false∧mz y (.str b t2)=true∧n=1)∨(mz y (.str a t1)=false∧mz y (.str b t2)=false∧mz y (.str c t3)=true∧n=2)):=by
 unfold lX at h
 unfold mz
 by_cases h1:a=y
 ·rw[if_pos h1]at h;cases h;exact⟨0,rfl,.inl ⟨by simp[h1],rfl⟩⟩
 ·rw[if_neg h1]at h
  by_cases h2:b=y
  ·rw[if_pos h2]at h;cases h;exact⟨1,rfl,.inr (.inl ⟨by simp[h1],by simp[h2],rfl⟩)⟩
  ·rw[if_neg h2]at h
   by_cases h3:c=y
   ·rw[if_pos h3]at h;cases h;exact⟨2,rfl,.inr (.inr ⟨by simp[h1],by simp[h2],by simp[h3],rfl⟩)⟩
   ·rw[if_neg h3]at h;cases h
theorem lZ (hK:X.K=K):r9 X "tuple.index" (sM K):=by
 subst hK
 intro pins s σ H x xs v us Q I rx rs h
 obtain⟨p,a,b,c,y,j,rfl,rfl,ht,hj,q⟩:=h
 cases rx
 obtain⟨u,rfl,t',rfl⟩:=fE rs
 obtain⟨its,r,⟨o,ho,hc,n,hd⟩,_⟩:=I.tuple ht
 obtain⟨t1,t2,t3,rfl⟩:=jW r
 obtain⟨nj,rfl,hn⟩:=gC (t1:=t1) (t2:=t2) (t3:=t3) hj
 obtain⟨oc,od,oda,osl⟩:=o
 cases hc;cases hd
 refine call_meets F.slot_tuple_index ⟨_,ho,rfl⟩ F.entry_tuple_index (F.args_tuple_index_2 _ _) (iL p _ _ _ n od osl (.str y t') (mz y) nj hn) ⟨ho,fun z hz=>?_,?_⟩
 ·simp only[List.mem_cons,List.not_mem_nil,or_false]at hz
  rcases hz with rfl | rfl | rfl <;> exact EqAt.str_str _ _ _ _
 ·exact⟨.int nj,H,I.tok _,⟨_,rfl⟩,q⟩
theorem m7 (hK:X.K=K):r9 X "list.index" (sN K):=by
 subst hK
 intro pins s σ H x xs v us Q I rx rs h
 obtain⟨p,a,b,c,y,j,rfl,rfl,ht,hj,q⟩:=h
 cases rx
 obtain⟨u,rfl,t',rfl⟩:=fE rs
 obtain⟨its,r,⟨o,n,ho,hc,hdi,hd⟩,_⟩:=I.list ht
 obtain⟨t1,t2,t3,rfl⟩:=jW r
 obtain⟨nj,rfl,hn⟩:=gC (t1:=t1) (t2:=t2) (t3:=t3) hj
 obtain⟨oc,od,oda,osl⟩:=o
 cases hc;cases hd
 have hsz:nj< (#[Value.str a t1,Value.str b t2,Value.str c t3]).size:=by show nj< 3;omega
 refine call_meets F.slot_list_index ⟨_,ho,rfl⟩ F.entry_list_index (F.args_list_index_2 _ _) (list_indexAt p #[.str a t1,.str b t2,.str c t3] n od osl (.str y t') (mz y) nj hsz (by omega) ?_ ?_) ⟨ho,fun z hz=>?_,?_⟩
 ·rcases hn with⟨h1,rfl⟩ | ⟨h1,h2,rfl⟩ | ⟨h1,h2,h3,rfl⟩
  ·exact h1
  ·exact h2
  ·exact h3
 ·intro m hm hlt
  rcases hn with⟨h1,rfl⟩ | ⟨h1,h2,rfl⟩ | ⟨h1,h2,h3,rfl⟩
  ·omega
  ·obtain rfl:m=0:=by omega
   exact h1
  ·rcases (show m=0∨m=1 by omega)with rfl | rfl
   ·exact h1
   ·exact h2
 ·simp only[List.mem_toArray,List.mem_cons,List.not_mem_nil,or_false]at hz
  rcases hz with rfl | rfl | rfl <;> exact EqAt.str_str _ _ _ _
 ·exact⟨.int nj,H,I.tok _,⟨_,rfl⟩,q⟩
theorem m8 (hK:X.K=K):r9 X "tuple.count" (sO K):=by
 subst hK
 intro pins s σ H x xs v us Q I rx rs h
 obtain⟨p,a,b,c,y,rfl,rfl,ht,q⟩:=h
 cases rx
 obtain⟨u,rfl,t',rfl⟩:=fE rs
 obtain⟨its,r,⟨o,ho,hc,n,hd⟩,_⟩:=I.tuple ht
 obtain⟨t1,t2,t3,rfl⟩:=jW r
 obtain⟨oc,od,oda,osl⟩:=o
 cases hc;cases hd
 refine call_meets F.slot_tuple_count ⟨_,ho,rfl⟩ F.entry_tuple_count (F.args_tuple_count_2 _ _) (tuple_countAt p #[.str a t1,.str b t2,.str c t3] n od osl (.str y t') (mz y)) ⟨ho,fun z hz=>?_,?_⟩
 ·simp only[List.mem_toArray,List.mem_cons,List.not_mem_nil,or_false]at hz
  rcases hz with rfl | rfl | rfl <;> exact EqAt.str_str _ _ _ _
 ·have e:((List.countP (mz y) (#[Value.str a t1,Value.str b t2,Value.str c t3]).toList:Nat):Int)=lY a b c y:=by
   unfold lY
   by_cases h1:a=y <;> by_cases h2:b=y <;> by_cases h3:c=y <;> simp[mz,h1,h2,h3,List.countP_cons]
  rw[e]
  exact⟨.int (lY a b c y),H,I.tok _,⟨_,rfl⟩,q⟩
end
end L2
namespace Wb
open PySem L2 Mi
section
variable {Er:Nat→Prop} {ta tb:TE} {σ:St} {W:Wd} {K:PySem.W.Frag} {m:Res (Tx×Tx×Tx)} {mb:Res Tx}
theorem l4 {u v:Tx} :sOf u=sOf v↔u=v:=⟨fun h=>iq h,fun h=>by rw[h]⟩
theorem l5 {a b c y:Tx} :lX (sOf a) (sOf b) (sOf c) (sOf y)=jU (a,b,c) y:=by
 unfold lX jU
 simp only[l4]
theorem qc {a b c y:Tx} :lY (sOf a) (sOf b) (sOf c) (sOf y)=jV (a,b,c) y:=by
 unfold lY jV
 simp only[l4]
theorem m9 (ha:EV Er ta σ W (sh (isT3 K isS isS isS)) m) (hb:EV Er tb σ W (sh isS) mb):EV Er (dc K "tuple" (sM K) ta (af tb aJ)) σ W (sh isI) (m.bind fun x=>mb.bind fun y=>d4 (jU x y)):=fun W1 e1 Q k=>
 ha W1 e1 _ ((Res.okE_bind k).imp fun x kx v W2 e2 hx=>by
  obtain⟨p,x1,x2,x3,rfl,ht,h1,h2,h3⟩:=hx
  cases h1;cases h2;cases h3
  refine⟨.inr (.inl ⟨rfl,.inr ⟨_,Same.tup W2.ok ht⟩⟩),hb W2 (e1.trans e2) _ ((Res.okE_bind kx).imp fun y ky w W3 e3 hw=>?_)⟩
  cases hw
  obtain⟨j,h4,h5⟩:=cE ky
  exact⟨p,_,_,_,_,j,rfl,rfl,Same.tup W3.ok (Same.tup e3.g ht),by rw[l5];exact h4,h5 _ W3 (e2.trans e3) rfl⟩)
theorem mh (ha:EV Er ta σ W (sh (isT3 K isS isS isS)) m) (hb:EV Er tb σ W (sh isS) mb):EV Er (dc K "tuple" (sO K) ta (af tb aJ)) σ W (sh isI) (m.bind fun x=>mb.bind fun y=>.ok (jV x y)):=fun W1 e1 Q k=>
 ha W1 e1 _ ((Res.okE_bind k).imp fun x kx v W2 e2 hx=>by
  obtain⟨p,x1,x2,x3,rfl,ht,h1,h2,h3⟩:=hx
  cases h1;cases h2;cases h3
  refine⟨.inr (.inl ⟨rfl,.inr ⟨_,Same.tup W2.ok ht⟩⟩),hb W2 (e1.trans e2) _ ((Res.okE_bind kx).imp fun y ky w W3 e3 hw=>?_)⟩
  cases hw
  refine⟨p,_,_,_,_,rfl,rfl,Same.tup W3.ok (Same.tup e3.g ht),?_⟩
  rw[qc]
  exact ky _ W3 (e2.trans e3) rfl)
theorem mj {ml:Res (List Tx)} (ha:EV Er ta σ W (pk isS) ml) (hb:EV Er tb σ W (sh isS) mb):EV Er (dc K "list" (sN K) ta (af tb aJ)) σ W (sh isI) (ml.bind fun x=>mb.bind fun y=>match x with | [a,b,c]=>d4 (jU (a,b,c) y) | _=>.stuck):=fun W1 e1 Q k=>
 ha W1 e1 _ ((Res.okE_bind k).imp fun x kx v W2 e2 hx=>by
  obtain⟨p,vs,rfl,h1,h2⟩:=hx
  refine⟨.inl ⟨rfl,vs,SqL.of h1⟩,hb W2 (e1.trans e2) _ ((Res.okE_bind kx).imp fun y ky w W3 e3 hw=>?_)⟩
  cases hw
  match x,h2,ky with
  | [a, b, c], h2, ky =>
   obtain⟨j,h4,h5⟩:=cE ky
   have hl:vs.length=3:=h2.1
   match vs,hl,h1,h2 with
   | [u1, u2, u3], _, h1, h2 =>
    have r1:=h2.2 0 u1 a rfl rfl
    have r2:=h2.2 1 u2 b rfl rfl
    have r3:=h2.2 2 u3 c rfl rfl
    cases r1;cases r2;cases r3
    exact⟨p,_,_,_,_,j,rfl,rfl,SqL.of (e3.h _ _ h1),by rw[l5];exact h4,h5 _ W3 (e2.trans e3) rfl⟩)
theorem on (ha:EV Er ta σ W (sh (isT3 K isS isS isS)) m):EVo Er (cW (fun xs H Q=>∃p ys,xs=[.ref p]∧(SqL K H p ys∨SqT K H p ys)∧∀l,H l=none→Q (.ref l) (bQ H l (.lst ys))) (af ta aJ)) σ W isS (m.bind fun x=>.ok [x.1,x.2.1,x.2.2]):=fun W1 e1 Q k=>
 ha W1 e1 _ ((Res.okE_bind k).imp fun x kx v W2 e2 hx=>by
  obtain⟨p,x1,x2,x3,rfl,ht,h1,h2,h3⟩:=hx
  refine⟨p,_,rfl,.inr (Same.tup W2.ok ht),fun l hl=>kx l (W2.mut l (.lst [x1,x2,x3]) (W2.gnone hl)) (e2.trans (.own _ hl)) (none_of e2.h hl) ⟨W2.gnone hl,_,ax,rfl,fun i v y q1 q2=>?_⟩⟩
  match i,q1,q2 with
  | 0,q1,q2=>cases q1;cases q2;exact h1
  | 1,q1,q2=>cases q1;cases q2;exact h2
  | 2,q1,q2=>cases q1;cases q2;exact h3)
end
end Wb
namespace Wb
open PySem L2 Mi
section
variable {Er:Nat→Prop} {α β γ δ ε:Type} {ta tb t3 td te:TE} {σ:St} {W:Wd} {K:PySem.W.Frag}
theorem jX {ma:Res Tx} {mb:Res (Tx×Tx×Tx)} (ha:EV Er ta σ W (sh isS) ma) (hb:EV Er tb σ W (sh (isT3 K isS isS isS)) mb):EV Er (cC (dl K true) ta tb) σ W (sh isB) (ma.bind fun a=>mb.bind fun b=>.ok (!([b.1,b.2.1,b.2.2].contains a))):=
 jE ha hb fun W a b x y Q hx hy k=>by
  cases hx
  obtain⟨p,u,v,w,rfl,h1,h2,h3,h4⟩:=hy
  cases h2;cases h3;cases h4
  refine⟨p,_,rfl,.inr (Same.tup W.ok h1),rfl,by simp[L2.flatV],?_⟩
  rw[if_pos rfl,tR]
  exact k _ W (.refl _) rfl
def sP (K:PySem.W.Frag) (R1:Rp α) (R2:Rp β) (R3:Rp γ) (R4:Rp δ) (R5:Rp ε):Rp (α×β×γ×δ×ε):=fun H a v=>∃p x y z u w,v=.ref p∧SqT K H p [x,y,z,u,w]∧R1 H a.1 x∧R2 H a.2.1 y∧R3 H a.2.2.1 z∧R4 H a.2.2.2.1 u∧R5 H a.2.2.2.2 w
theorem qd {R1:Rp α} {R2:Rp β} {R3:Rp γ} {R4:Rp δ} {R5:Rp ε} [Mono R1] [Mono R2] [Mono R3] [Mono R4] [Mono R5] {ma:Res α} {mb:Res β} {mc:Res γ} {md:Res δ} {me:Res ε} (ha:EV Er ta σ W (sh R1) ma) (hb:EV Er tb σ W (sh R2) mb) (hc:EV Er t3 σ W (sh R3) mc) (hd:EV Er td σ W (sh R4) md) (he:EV Er te σ W (sh R5) me):
  EV Er (bE (af ta (af tb (af t3 (af td (af te aJ)))))) σ W (sh (sP K R1 R2 R3 R4 R5)) (ma.bind fun a=>mb.bind fun b=>mc.bind fun c=>md.bind fun d=>me.bind fun e=>.ok (a,b,c,d,e)):=fun W1 e1 Q k=>
 ha W1 e1 _ ((Res.okE_bind k).imp fun a ka x W2 e2 hx=>hb W2 (e1.trans e2) _ ((Res.okE_bind ka).imp fun b kb y W3 e3 hy=>hc W3 ((e1.trans e2).trans e3) _ ((Res.okE_bind kb).imp fun c kc z W4 e4 hz=>hd W4 (((e1.trans e2).trans e3).trans e4) _ ((Res.okE_bind kc).imp fun d kd u W5 e5 hu=>he W5 ((((e1.trans e2).trans e3).trans e4).trans e5) _ ((Res.okE_bind kd).imp fun e ke w W6 e6 hw=>⟨(by show 5≤sizeLine;decide),fun p hp=>by
  have n:=(Ext.new (.tup [x,y,z,u,w]) hp).g
  exact ke (.ref p) (W6.new p (.tup [x,y,z,u,w])) (((((e2.trans e3).trans e4).trans e5).trans e6).trans (.new _ hp)) ⟨p,x,y,z,u,w,rfl,SqT.of ax,Mono.mono (R:=R1) n (Mono.mono (R:=R1) (((e3.trans e4).trans e5).trans e6).g hx),Mono.mono (R:=R2) n (Mono.mono (R:=R2) ((e4.trans e5).trans e6).g hy),Mono.mono (R:=R3) n (Mono.mono (R:=R3) (e5.trans e6).g hz),Mono.mono (R:=R4) n (Mono.mono (R:=R4) e6.g hu),Mono.mono (R:=R5) n hw⟩⟩)))))
theorem sQ {R1:Rp α} {R2:Rp β} {R3:Rp γ} {R4:Rp δ} {R5:Rp ε} {u1:α→Dat} {u2:β→Dat} {u3:γ→Dat} {u4:δ→Dat} {u5:ε→Dat} (h1:iI K R1 u1) (h2:iI K R2 u2) (h3:iI K R3 u3) (h4:iI K R4 u4) (h5:iI K R5 u5):iI K (sP K R1 R2 R3 R4 R5) (fun x=>.t [u1 x.1,u2 x.2.1,u3 x.2.2.1,u4 x.2.2.2.1,u5 x.2.2.2.2]):=fun H a v ⟨p,x,y,z,u,w,h0,h,r1,r2,r3,r4,r5⟩=>by
 subst h0
 refine .t h rfl fun j d v e1 e2=>?_
 match j,e1,e2 with
 | 0,e1,e2=>cases e1;cases e2;exact h1 _ _ _ r1
 | 1,e1,e2=>cases e1;cases e2;exact h2 _ _ _ r2
 | 2,e1,e2=>cases e1;cases e2;exact h3 _ _ _ r3
 | 3,e1,e2=>cases e1;cases e2;exact h4 _ _ _ r4
 | 4,e1,e2=>cases e1;cases e2;exact h5 _ _ _ r5
end
section
variable {Er:Nat→Prop} {α β γ ρ τ:Type} {W W0 W':Wd} {σ:St} {K:PySem.W.Frag} {cs:List TC}
theorem Sep.one {R:Rf τ} [FrT R] {F:FS} {x:τ} {v:V} (t:R W F x v) (h:∀q,F q→W0.H q=none):Sep W0 W [tc R x v]:=by
 have key:∀(i:Nat) q,(if i=0 then F else fun _=>False) q→i=0∧F q:=fun i q h=>by
  by_cases z:i=0
  ·exact⟨z,by simpa [if_pos z] using h⟩
  ·simp[if_neg z]at h
 refine⟨fun i=>if i=0 then F else fun _=>False,fun i c hc=>?_,fun i q hq=>?_,fun i j q h1 h2=>?_,fun i q hq=>h q (key i q hq).2⟩
 ·match i,hc with
  | 0,hc=>cases hc;exact t
 ·rw[(key i q hq).1];exact Nat.one_pos
 ·rw[(key i q h1).1,(key j q h2).1]
def qe (Er:Nat→Prop) (t:TA) (σ:St) (W:Wd) (RA:Ra α) (m:Res α):Prop:=∀W1,Ext W W1→∀Q:List V→Hp→Prop,m.OkE Er (fun a=>∀us W2,Ext W1 W2→RA W2.G a us→Q us W2.H)→t σ W1.H Q
theorem ff:qe Er aJ σ W aN (.ok ()):=fun W1 _ Q k=>k [] W1 (.refl _) rfl
theorem bj {R:Rp α} {RA:Ra β} [Mono R] {te:TE} {t:TA} {m:Res α} {ma:Res β} (h:EV Er te σ W (sh R) m) (ht:qe Er t σ W RA ma):qe Er (af te t) σ W (aC R RA) (m.bind fun a=>ma.bind fun b=>.ok (a,b)):=fun W1 e1 Q k=>
 h W1 e1 _ ((Res.okE_bind k).imp fun a ka v W2 e2 hv=>ht W2 (e1.trans e2) _ ((Res.okE_bind ka).imp fun b kb us W3 e3 hu=>kb (v::us) W3 (e2.trans e3) ⟨v,us,rfl,Mono.mono e3.g hv,hu⟩))
class HasM (R:Rf τ) (C:outParam Addr) (m:Str):Prop where
 at_:∀{W:Wd} {F:FS} {x:τ} {v:V},R W F x v→∃a dx fs,v=.ref a∧W.H a=some (.ins C dx fs)∧fs.lookup m=none
theorem l6 {C:Addr} {f m:Str} {R:Rf τ} (h:(m == f)=false):HasM (oO1 C f R) C m:=⟨fun⟨a,dx,u,F1,e,_,_,ha,_⟩=>⟨a,dx,_,e,ha,sL h⟩⟩
theorem qL {R:Rf τ} [FrT R] {RA:Ra α} {RR:Rp ρ} {C:Addr} {m:Str} {k i:Nat} {x:τ} {v:V} {t:TA} {ma:Res α} {mf:τ→α→Res (τ×ρ)} {csx:List Addr} {E:XK} {Q:VK} (hm:HasM R C m) (S:Sep W0 W cs) (E0:Ext W0 W) (hc:cs[k]? =some (tc R x v)) (hi:σ[i]? =some (some v)) (ha:qe Er t σ W RA ma) (hE:Esc Er csx E W)
  (q:(ma.bind fun a=>mf x a).OkE Er fun r=>∀u W',Ext W0 W'→Same W.G W'.G→Sep W0 W' (cs.set k (tc R r.1 v))→RR W'.G r.2 u→Q u W'.H):dH C m (lW R RA csx RR mf) [] E (aZ i) t σ W.H Q:=by
 obtain⟨Fs,s⟩:=id S
 obtain⟨a,dx,fs,e,h1,h2⟩:=hm.at_ (s.el k _ hc)
 refine⟨v,hi,a,dx,fs,e,h1,h2,ha W (.refl _) _ ((Res.okE_bind q).imp fun b kb us W2 e2 hu=>?_)⟩
 obtain⟨W1,F,x1,t1,n1,up⟩:=(S.ext e2).call (E0.trans e2) hc
 refine⟨W1,W2,F,x,v,b,us,rfl,by rw[List.append_nil],x1,n1,t1,hu,Er,hE.mono e2,kb.imp fun r kr u W' F' e' hs hF' t' hr=>?_⟩
 obtain⟨z1,z2⟩:=up W' F' r.1 e' hF' t'
 exact kr u W' z1 (e2.g.trans hs) z2 hr
end
section
variable {Er:Nat→Prop} {α ρ τ:Type} {W W0 Wi:Wd} {σ:St} {cs:List TC} {D:Ends} {r:TS} {R:Rf τ} [FrT R] {RR:Rp ρ} {x:τ} {v:V} {k i j:Nat} {Q:VK}
abbrev EndO (W0 Wi:Wd) (R:Rf τ) (RR:Rp ρ) (v:V) (Q:VK):τ×ρ→Prop:=fun r=>∀u W' F',Ext W0 W'→Same Wi.G W'.G→(∀q,F' q→W0.H q=none)→R W' F' r.1 v→RR W'.G r.2 u→Q u W'.H
theorem EndO.of {r:τ×ρ} {u:V} (S:Sep W0 W cs) (hc:cs[k]? =some (tc R r.1 v)) (E:Ext W0 W) (hS:Same Wi.G W.G) (hr:RR W.G r.2 u) (q:EndO W0 Wi R RR v Q r):Q u W.H:=by
 obtain⟨Fs,s⟩:=S
 exact q u W (Fs k) E hS (s.nw k) (s.el k _ hc) hr
theorem ib {te:TE} {m:Res ρ} (S:Sep W0 W cs) (hc:cs[k]? =some (tc R x v)) (E:Ext W0 W) (hS:Same Wi.G W.G) (h:EV Er te σ W (sh RR) m) (q:(m.bind fun r=>.ok (x,r)).OkE Er (EndO W0 Wi R RR v D.rt)):bC te D σ W.H:=
 h W (.refl _) _ ((Res.okE_bind q).imp fun a ka u W2 e2 hu=>EndO.of (S.ext e2) hc (E.trans e2) (hS.trans e2.g) hu ka)
variable {RA:Ra α} {C:Addr} {m:Str} {t:TA} {ma:Res α} {mf:τ→α→Res (τ×ρ)} {csx:List Addr} {E:XK}
theorem l7 (hm:HasM R C m) (S:Sep W0 W cs) (E0:Ext W0 W) (hS:Same Wi.G W.G) (hc:cs[k]? =some (tc R x v)) (hi:σ[i]? =some (some v)) (hk:k< cs.length) (ha:qe Er t σ W RA ma) (hE:Esc Er csx E W) (q:(ma.bind fun a=>mf x a).OkE Er (EndO W0 Wi R RR v D.rt)):bC (dH C m (lW R RA csx RR mf) [] E (aZ i) t) D σ W.H:=
 qL hm S E0 hc hi ha hE (q.imp fun r kr u W' e' hs S' hr=>EndO.of (k:=k) S' (by rw[List.getElem?_set_self hk]) e' (hS.trans hs) hr kr)
theorem l8 {σ':V→St} (hm:HasM R C m) (S:Sep W0 W cs) (E0:Ext W0 W) (hc:cs[k]? =some (tc R x v)) (hi:σ[i]? =some (some v)) (ha:qe Er t σ W RA ma) (hE:Esc Er csx E W) (q:(ma.bind fun a=>mf x a).OkE Er fun r=>∀u W',Ext W0 W'→Same W.G W'.G→Sep W0 W' (cs.set k (tc R r.1 v))→RR W'.G r.2 u→D.nx (σ' u) W'.H) (hσ:∀u,σ.set j (some u)=σ' u:=by intro _;rfl):bn (dH C m (lW R RA csx RR mf) [] E (aZ i) t) (aQ j) D σ W.H:=
 qL (Q:=fun u H=>D.nx (σ.set j (some u)) H) hm S E0 hc hi ha hE (q.imp fun r kr u W' e' hs S' hr=>by have:=kr u W' e' hs S' hr;rw[←hσ]at this;exact this)
end
section
variable {Er:Nat→Prop} {β γ:Type} {W W0:Wd} {σ:St} {cs:List TC} {t:TE} {csx:List Addr} {E:XK} {D:Ends} {r:TS}
theorem je {R:Rf β} [FrT R] {R':Rp β} [FzT R R'] {Rr:Rp γ} [Ind Rr] {b:β} {u:V} {m:Res γ} (k:Nat) (s:Sep W0 W cs) (E0:Ext W0 W) (hc:cs[k]? =some (tc R b u)) (hE:Esc Er csx E W) (h:∀Wf,Same W.G Wf.G→Ext W0 Wf→Sep W0 Wf (cs.eraseIdx k)→R' Wf.G b u→Esc Er csx E Wf→EV Er t σ Wf (sh Rr) m):EV Er t σ W (sh Rr) m:=fun W1 e1 Q kq=>by
 obtain⟨Wf,h1,h2,h3,h4,h5,h6⟩:=Sep.lend1 (R:=R) (s.ext e1) (E0.trans e1) hc
 rw[←h1]
 have hE':Esc Er csx E Wf:=fun j hj x W2 e2 hx=>by
  obtain⟨W3,h7,h8⟩:=h6 W2 e2
  rw[←h7]
  exact hE j hj x W3 (e1.trans h8) (by rw[h7];exact hx)
 refine h Wf (e1.g.trans h2) h3 h4 h5 hE' Wf (.refl _) Q (kq.imp fun a ka v W2 e2 hv=>?_)
 obtain⟨W3,h7,h8⟩:=h6 W2 e2
 rw[←h7]
 exact ka v W3 h8 (Ind.ind hv)
theorem oo {te:TE} {m:Res Unit} (h:EV Er te σ W (sh isN) m) (q:m.OkE Er fun _=>∀W',Ext W W'→D.nx σ W'.H):aT te D σ W.H:=h W (.refl _) _ (q.imp fun a ka v W2 e2 _=>ka W2 e2)
theorem gD {te:TE} {m:Res Unit} (h:EV Er te σ W (sh isN) m) (q:m.OkE Er fun _=>∀W',Ext W W'→r D σ W'.H):cZ (aT te) r D σ W.H:=oo (D:={D with nx:=r D}) h q
end
theorem qf {X:Cx} {K:PySem.W.Frag} (h:X.K=K) {tg l:Expr} {tl:TE} (hl:PE X l tl):PI X tg l (qX K tl):=h▸qY hl
theorem qg {Er:Nat→Prop} {α:Type} {t:TE} {σ:St} {W:Wd} {K:PySem.W.Frag} {R:Rp α} [Mono R] {m:Res (α×α×α)} (h:EV Er t σ W (sh (isT3 K R R R)) m):IV Er (qX K t) σ W R (m.bind fun x=>.ok [x.1,x.2.1,x.2.2]):=fun W1 e1 P k=>
 h W1 e1 _ ((Res.okE_bind k).imp fun xs kx v W2 e2 hv => by
  obtain⟨p,x1,x2,x3,rfl,h1,r1,r2,r3⟩:=hv
  have sq:∀W3:Wd,Same W2.G W3.G→SqT K W3.H p [x1,x2,x3]:=fun W3 e3=>Same.tup W3.ok (Same.tup e3 h1)
  refine⟨p,rfl,⟨_,Same.tup W2.ok h1⟩,kx _ W2 e2 fun W3 e3=>⟨fun i a ha=>?_,[x1,x2,x3],sq W3 e3,Nat.le_refl _⟩⟩
  obtain⟨x,hx,hr⟩:∃x,[x1,x2,x3][i]? =some x∧R W3.G a x:=by
   match i,ha with
   | 0,ha=>cases ha;exact⟨x1,rfl,Mono.mono e3 r1⟩
   | 1,ha=>cases ha;exact⟨x2,rfl,Mono.mono e3 r2⟩
   | 2,ha=>cases ha;exact⟨x3,rfl,Mono.mono e3 r3⟩
  refine⟨⟨_,x,sq W3 e3,hx⟩,fun y H' ⟨z1,z2⟩=>⟨W3,z1.symm,.refl _,?_⟩⟩
  have:=z2 _ (sq W3 e3)
  rw[hx]at this;cases this
  exact hr)
section
variable {τ ρ:Type} {K:PySem.W.Frag} {base:Heap} {cs:List Addr} {aB:Addr} {W0 W Wi:Wd} {Q:VK} {s:Tx} {ie k:Nat} {σ:St} {D:Ends} {rest tb:TS} {σ':V→St} {xs:Str} {cl:List TC} {R:Rf τ} [FrT R] {RR:Rp ρ} {x:τ} {v:V}
def sR (K:PySem.W.Frag) (W0 W Wi:Wd) (cl:List TC) (k:Nat) (R:Rf τ) [FrT R] (RR:Rp ρ) (x:τ) (v:V) (Q:VK) (s:Tx) (D:Ends) (rest:TS) (σ':V→St):(τ×ρ) ⊕ Nat→Prop
 | .inl r=>∀u W',Ext W0 W'→Same W.G W'.G→Sep W0 W' (cl.set k (tc R r.1 v))→RR W'.G r.2 u→rest D (σ' u) W'.H
 | .inr j=>EndO W0 Wi R (isU K) v Q (x,j9 s j)
theorem qh {Er:Nat→Prop} {m:Res (τ×ρ)} (S:Sep W0 W cl) (E0:Ext W0 W) (hS:Same Wi.G W.G) (hc:cl[k]? =some (tc R x v)) (Z:Kin K base cs aB) (hs:xs=sOf s) (hD:D.rt=Q)
  (h:∀Er',Esc Er' cs (EX K cs s W Q) W→∀D':Ends,m.OkE Er' (fun r=>∀u W',Ext W0 W'→Same W.G W'.G→Sep W0 W' (cl.set k (tc R r.1 v))→RR W'.G r.2 u→D'.nx (σ' u) W'.H)→tb D' σ W.H)
  (q:(Res.tryR m).OkE Er (sR K W0 W Wi cl k R RR x v Q s D rest σ')) (hi:ie< σ.length:=by first | decide | simp):
  cZ (sE (EX K cs s W Q) ie tb (rA K cs aB ie xs)) rest D σ W.H:=by
 refine⟨h (fun j=>EndO W0 Wi R (isU K) v Q (x,j9 s j)) (fun j hj y W' e hy=>⟨⟨y,rfl⟩,j,W',rfl,rfl,e,fun u W2 e2 hu=>EndO.of (r:=(x,j9 s j)) (S.ext e2) hc (E0.trans e2) (hS.trans e2.g) hu hj⟩) {D with nx:=rest D} (Res.tryR_OkE q),fun y C od oe σ1 H1 hE hx hh hl=>nY Z hs hD hE (by rw[hl];exact hi)⟩
end
end Wb
namespace Wb
open PySem L2 Mi
theorem Lens.ix {α γ:Type} {C:α→List TC} {R:Rf γ} [FrT R] {xs:List γ} {f:List γ→α} {v:V} {l:Nat} {c:γ} {W0 W:Wd} (hx:Lens W0 C (oL R) W (xs,f) v) (h2:xs[l]? =some c):∃p vs z,v=.ref p∧W.H p=some (.lst vs)∧vs[l]? =some z∧Lens W0 C R W (c,fun b=>f (xs.set l b)) z:=by
 obtain⟨F,⟨p,vs,Fs,rfl,g,h,t,np,hF⟩,n,pb⟩:=hx
 have hll:l< xs.length:=(List.getElem?_eq_some_iff.mp h2).1
 have hlv:l< vs.length:=by rw[t.len];exact hll
 have h8:vs[l]? =some vs[l]:=by simp[hlv]
 refine⟨p,vs,vs[l],rfl,h,h8,Fs l,t.el l c _ h2 h8,fun q hq=>n q ((hF q).mpr (.inr ⟨l,hq⟩)),fun W' F' b' m hF' t'=>?_⟩
 have key:∀j q,(if j=l then F' else Fs j) q→(j=l∧F' q)∨(j≠l∧Fs j q):=fun j q h=>by
  by_cases z:j=l
  ·exact .inl ⟨z,by simpa [if_pos z] using h⟩
  ·exact .inr ⟨z,by simpa [if_neg z] using h⟩
 have lv:∀j q,Fs j q→W.H q≠none:=fun j q hq=>by
  obtain⟨x,u,_,_,r⟩:=t.at2 hq
  exact(FrT.lv r q hq).2
 refine pb W' (fun q=>q=p∨∃j,(if j=l then F' else Fs j) q) (xs.set l b') (m.up fun q hq=>(hF q).mpr (.inr ⟨l,hq⟩)) (fun q hq=>?_) ⟨p,vs,fun j=>if j=l then F' else Fs j,rfl,by rw[m.k p (nn_of h)];exact g,by rw[m.h p (np l) (nn_of h)];exact h,⟨by rw[List.length_set];exact t.len,fun j x u e1 e2=>?_,fun j q hq=>?_,fun j j2 q q1 q2=>?_⟩,fun j hj=>?_,fun q=>Iff.rfl⟩
 ·rcases hq with rfl | ⟨j,hj⟩
  ·exact .inl ((hF _).mpr (.inl rfl))
  ·rcases key j q hj with⟨z1,z2⟩ | ⟨z1,z2⟩
   ·exact(hF' q z2).imp (fun y=>(hF q).mpr (.inr ⟨l,y⟩)) id
   ·exact .inl ((hF q).mpr (.inr ⟨j,z2⟩))
 ·rw[List.getElem?_set]at e1
  by_cases z1:l=j
  ·subst z1
   rw[if_pos rfl,if_pos hll]at e1
   cases e1
   rw[h8]at e2;cases e2
   simp only[if_true]
   exact t'
  ·rw[if_neg z1]at e1
   simp only[if_neg (Ne.symm z1)]
   exact FrT.mu (t.el j x u e1 e2) m fun q y1 y2=>z1 (t.dj l j q y2 y1)
 ·rw[List.length_set]
  rcases key j q hq with⟨z1,z2⟩ | ⟨z1,z2⟩
  ·rw[z1];exact hll
  ·exact t.rng j q z2
 ·rcases key j q q1 with⟨z1,y1⟩ | ⟨z1,y1⟩ <;> rcases key j2 q q2 with⟨z2,y2⟩ | ⟨z2,y2⟩
  ·rw[z1,z2]
  ·exact((hF' q y1).elim (fun y=>z2 (t.dj j2 l q y2 y)) fun y=>absurd y (lv _ _ y2)).elim
  ·exact((hF' q y2).elim (fun y=>z1 (t.dj j l q y1 y)) fun y=>absurd y (lv _ _ y1)).elim
  ·exact t.dj j j2 q y1 y2
 ·rcases key j p hj with⟨z1,z2⟩ | ⟨z1,z2⟩
  ·exact(hF' p z2).elim (np l) fun y=>absurd y (nn_of h)
  ·exact np j z2
section
variable {β:Type} {K:PySem.W.Frag} {W W0:Wd} {σ:St} {D:Ends} {R:Rp β} [Mono R] {xss:List (List β)} {v:V} {k i j:Nat} {C:List (List β)→List TC}
def jY (n:Nat) (xss:List (List β)):List (List β):=(xss.take n).map (fun _=>[])++xss.drop n
theorem l9 (n:Nat):(jY n xss).length=xss.length:=by unfold jY;simp;omega
theorem qi {n:Nat} (h:n< xss.length):(jY n xss).set n []=jY (n+1) xss:=by
 unfold jY
 have h1:((xss.take n).map fun _=>([]:List β)).length=n:=by simp;omega
 rw[List.take_succ_eq_append_getElem h,List.map_append,List.set_append]
 rw[if_neg (by omega),h1,Nat.sub_self,List.drop_eq_getElem_cons h]
 simp only[List.set_cons_zero,List.map_cons,List.map_nil,List.append_assoc,List.singleton_append]
theorem qj:jY xss.length xss=xss.map fun _=>[]:=by unfold jY;simp
theorem mm (S:Sep W0 W (C xss)) (E:Ext W0 W) (q:∀σ1 W',Same W.G W'.G→Ext W0 W'→Sep W0 W' (C (xss.map fun _=>[]))→(σ1=σ∨∃u,σ1=σ.set j (some u))→D.nx σ1 W'.H) (hij:i≠j) (hc:∀a,(C a)[k]? =some (tc (oL (oL (fz R))) a v):=by intro _;rfl) (hs:∀a b,C b=(C a).set k (tc (oL (oL (fz R))) b v):=by intro _ _;rfl) (hi:σ[i]? =some (some v):=by rfl) (hj:j< σ.length:=by first | decide | simp):
  iR (g6 K (aZ i)) (aQ j) (aT (bF K "list" aK (aZ j))) D σ W.H:=by
 obtain⟨Fs,s⟩:=id S
 obtain⟨p,vs,F0,hv,g0,h0,t0,_⟩:=s.el k _ (hc xss)
 refine⟨v,hi,p,hv,⟨vs,SqL.of h0⟩,fun n m σ1 H1=>m=xss.length- n∧n≤xss.length∧∃W1:Wd,W1.H=H1∧Same W.G W1.G∧Ext W0 W1∧Sep W0 W1 (C (jY n xss))∧(σ1=σ∨∃u,σ1=σ.set j (some u)),⟨_,rfl,Nat.zero_le _,W,rfl,.refl _,E,by unfold jY;simpa using S,.inl rfl⟩,?_⟩
 rintro n m σ1 H1 ⟨rfl,hle,W1,rfl,hS,E1,S1,hσ⟩
 have hi1:σ1[i]? =some (some v):=by
  rcases hσ with rfl | ⟨u,rfl⟩
  ·exact hi
  ·rw[List.getElem?_set_ne (Ne.symm hij)];exact hi
 obtain⟨Fs1,s1⟩:=id S1
 obtain⟨p1,vs1,F1,hv1,g1,h1,t1,_⟩:=s1.el k _ (hc _)
 have hv1:v=.ref p1:=hv1
 have hv:v=.ref p:=hv
 have t1:TL (oL (fz R)) W1 F1 (jY n xss) vs1:=t1
 obtain rfl:p1=p:=by rw[hv]at hv1;exact(V.ref.inj hv1).symm
 have hl1:vs1.length=xss.length:=by rw[t1.len,l9]
 by_cases hlt:n< xss.length
 ·obtain⟨x,hx⟩:∃x,vs1[n]? =some x:=⟨vs1[n]'(by omega),by simp[hl1,hlt]⟩
  refine .inr ⟨⟨vs1,x,SqL.of h1,hx⟩,fun σ' H'=>∃W':Wd,W'.H=H'∧Same W.G W'.G∧Ext W0 W'∧Sep W0 W' (C (jY (n+1) xss))∧(σ'=σ∨∃u,σ'=σ.set j (some u)),fun σ' H' ⟨W',a1,a2,a3,a4,a5⟩=>⟨xss.length- (n+1),by omega,rfl,hlt,W',a1,a2,a3,a4,a5⟩,fun y H' ⟨z1,z2⟩=>?_⟩
  subst z1
  have hy:=z2 vs1 (SqL.of h1)
  rw[hx]at hy
  cases hy
  have hcn:n< (jY n xss).length:=by rw[l9];exact hlt
  have L0:Lens W0 C (oL (oL (fz R))) W1 (jY n xss,fun b=>b) v:=⟨Fs1 k,s1.el k _ (hc _),s1.nw k,fun W' F' b' m hF t=>by rw[hs (jY n xss) b'];exact s1.put E1 m hF t (List.getElem?_eq_some_iff.mp (hc (jY n xss))).1⟩
  obtain⟨p2,vs2,y2,e1,e2,e3,L1⟩:=L0.ix (List.getElem?_eq_getElem hcn)
  rw[hv]at e1
  cases e1
  rw[h1]at e2
  cases e2
  rw[hx]at e3
  cases e3
  obtain⟨p0,us,rfl,hH,lr,hg,back⟩:=Lens.lf E1 L1
  obtain⟨b1,b2⟩:=back [] [] .nil
  have hj1:j< σ1.length:=by
   rcases hσ with rfl | ⟨u,rfl⟩
   ·exact hj
   ·rw[List.length_set];exact hj
  refine⟨.ref p0,by rw[List.getElem?_set_self hj1],.inl ⟨rfl,us,SqL.of hH⟩,p0,us,rfl,rfl,hH,W1.mut p0 (.lst []) hg,rfl,hS,b1,by rw[←qi hlt];exact b2,?_⟩
  rcases hσ with rfl | ⟨u,rfl⟩
  ·exact .inr ⟨_,rfl⟩
  ·exact .inr ⟨_,by rw[List.set_set]⟩
 ·have e:n=xss.length:=by omega
  subst e
  rw[qj]at S1
  exact .inl ⟨⟨vs1,SqL.of h1,by omega⟩,q σ1 W1 hS E1 S1 hσ⟩
variable {r:TS} {σ':Option V→St}
theorem jZ (S:Sep W0 W (C xss)) (E:Ext W0 W) (q:∀w W',Same W.G W'.G→Ext W0 W'→Sep W0 W' (C (xss.map fun _=>[]))→D.nx (σ' w) W'.H) (hij:i≠j:=by decide) (hc:∀a,(C a)[k]? =some (tc (oL (oL (fz R))) a v):=by intro _;rfl) (hs:∀a b,C b=(C a).set k (tc (oL (oL (fz R))) b v):=by intro _ _;rfl) (hi:σ[i]? =some (some v):=by rfl) (hj:j< σ.length:=by first | decide | simp) (hσ:∀w,σ.set j w=σ' w:=by intro _;rfl):
  iR (g6 K (aZ i)) (aQ j) (aT (bF K "list" aK (aZ j))) D σ W.H:=
 mm S E (fun σ1 W' h1 h2 h3 h4=>by
  rcases h4 with rfl | ⟨u,rfl⟩
  ·have:=q (σ1[j]'hj) W' h1 h2 h3
   rw[←hσ,List.set_getElem_self]at this
   exact this
  ·rw[hσ];exact q _ W' h1 h2 h3) hij hc hs hi hj
theorem iM (S:Sep W0 W (C xss)) (E:Ext W0 W) (q:∀w W',Same W.G W'.G→Ext W0 W'→Sep W0 W' (C (xss.map fun _=>[]))→r D (σ' w) W'.H) (hij:i≠j:=by decide) (hc:∀a,(C a)[k]? =some (tc (oL (oL (fz R))) a v):=by intro _;rfl) (hs:∀a b,C b=(C a).set k (tc (oL (oL (fz R))) b v):=by intro _ _;rfl) (hi:σ[i]? =some (some v):=by rfl) (hj:j< σ.length:=by first | decide | simp) (hσ:∀w,σ.set j w=σ' w:=by intro _;rfl):
  cZ (iR (g6 K (aZ i)) (aQ j) (aT (bF K "list" aK (aZ j)))) r D σ W.H:=jZ (D:={D with nx:=r D}) S E q hij hc hs hi hj hσ
end
section
variable {Er:Nat→Prop} {α β:Type} {K:PySem.W.Frag} {W W0:Wd} {σ:St} {D:Ends} {r:TS} {tp:TE} {C:α→List TC}
theorem qk {R:Rf β} [FrT R] {mp:Res (List β×(List β→α))} (E:Ext W0 W) (hp:EV Er tp σ W (Lens W0 C (oL R)) mp) (q:(mp.bind fun p=>.ok (p.2 [])).OkE Er fun a'=>∀W',Same W.G W'.G→Ext W0 W'→Sep W0 W' (C a')→D.nx σ W'.H):
  aT (bF K "list" aK tp) D σ W.H:=hp W (.refl _) _ ((Res.okE_bind q).imp fun p kp u W1 e1 l=>by
 obtain⟨F,⟨p0,vs,Fs,rfl,g,h,t,np,hF⟩,n,pb⟩:=l
 have hp0:F p0:=(hF p0).mpr (.inl rfl)
 exact⟨.inl ⟨rfl,vs,SqL.of h⟩,p0,vs,rfl,rfl,h,kp (W1.mut p0 (.lst []) g) e1.g ((E.trans e1).mut (n p0 hp0) g) (pb _ (· =p0) [] (MuF.of hp0 g) (fun q hq=>.inl (by rw[hq];exact hp0)) ⟨p0,[],fun _ _=>False,rfl,g,ax,⟨rfl,fun i x u h=>by simp at h,fun _ _ z=>z.elim,fun _ _ _ z=>z.elim⟩,fun _ z=>z,fun q=>⟨.inl,fun z=>z.elim id fun⟨_,z⟩=>z.elim⟩⟩)⟩)
theorem mn {R:Rf β} [FrT R] {mp:Res (List β×(List β→α))} (E:Ext W0 W) (hp:EV Er tp σ W (Lens W0 C (oL R)) mp) (q:(mp.bind fun p=>.ok (p.2 [])).OkE Er fun a'=>∀W',Same W.G W'.G→Ext W0 W'→Sep W0 W' (C a')→r D σ W'.H):
  cZ (aT (bF K "list" aK tp)) r D σ W.H:=qk (D:={D with nx:=r D}) E hp q
end
end Wb
namespace Wb
open PySem L2 Mi
def ql {τ:Type} (C:Addr) (f:Str) (R:Rf τ) (m:Int→Int→Res τ):Sp:=fun vs H Q _=>∃(W:Wd) (a dx:Addr) (t w:Int),W.H=H∧vs=[.ref a,.int t,.int w]∧W.G a=none∧W.G dx=none∧H a=some (.ins C dx [])∧H dx=some (.own a)∧∃Er:Nat→Prop,(m t w).OkE Er fun xs=>∀W2 F u,Ext W W2→(∀q,F q→W.H q=none)→R W2 F xs u→Q .non (bQ W2.H a (.ins C dx [(f,u)]))
structure CalI (P:Program) (w:World) (K:PySem.W.Frag) (mg:Str→Option Value) (base:Heap) (x:Str) (C:Addr) (ps:List Str) (k:Nat) (sp:Sp):Prop where
 ex:∃(f:Addr) (fd:FuncData),Mk K C f∧FnOk P w K mg base CX0 k f fd ps sp∧mg x=some (.ref C)∧Binds K fd ps []
theorem la {X:Cx} {x:Str} {C:Addr} {ps:List Str} {k:Nat} {sp:Sp} {p pos:Pos} {e:Expr} {es:List Expr} {t:TA} (U:CalI X.prog X.w X.K X.mg X.base x C ps k sp) (hr:Room (k+1) X.A) (hg:Gl X x) (ha:PA X (e::es) t)
  (hdb:(x == ("__debug__" :Str))=false:=by decide) (he:starEach (e::es) X.env=(false,eval e X.env)::starEach es X.env:=by rfl) (hpl:(backTo pos (starEach es X.env)).any (·.1)=false:=by rfl):
  PE X (.Call (.Name x p) (e::es) [] pos) (mO C sp [] E0 t):=by
 obtain⟨f,fd,M,F,hm,hb⟩:=U.ex
 exact pp M F hr hg hm hb .nil kF ha hdb he hpl
section
variable {Er:Nat→Prop} {τ:Type} {t1 t2 te:TE} {σ:St} {W:Wd} {K:PySem.W.Frag} {C:Addr} {f:Str} {R:Rf τ} [FrT R] {m1 m2:Res Int} {m:Int→Int→Res τ}
theorem lb (h1:EV Er t1 σ W (sh isI) m1) (h2:EV Er t2 σ W (sh isI) m2):EVt Er (mO C (ql C f R m) [] E0 (af t1 (af t2 aJ))) σ W (oO1 C f R) (m1.bind fun a=>m2.bind fun b=>m a b):=fun W1 e1 Q k=>
 h1 W1 e1 _ ((Res.okE_bind k).imp fun a ka x W2 e2 hx=>h2 W2 (e1.trans e2) _ ((Res.okE_bind ka).imp fun b kb y W3 e3 hy=>by
  cases hx;cases hy
  intro p dx hp hd ne
  have gd:=W3.gnone hd
  have gp:=W3.gnone hp
  let W4:Wd:=(W3.mut dx (.own p) gd).mut p (.ins C dx []) gp
  have n4:(W3.mut dx (.own p) gd).H p=none:=by show bQ W3.H dx _ p=none;rw[ay (Ne.symm ne)];exact hp
  have E4:Ext W3 W4:=(Ext.own _ hd).trans (Ext.own (W:=W3.mut dx (.own p) gd) _ n4)
  have hp4:W4.H p=some (.ins C dx []):=ax
  have hd4:W4.H dx=some (.own p):=by show bQ (bQ W3.H dx _) p _ dx=_;rw[ay ne,ax]
  refine⟨W4,p,dx,a,b,rfl,rfl,gp,gd,hp4,hd4,Er,kb.imp fun xs kx W5 F u e5 hF t=>⟨rfl,?_⟩⟩
  have g5:W5.G p=none:=by rw[e5.k p (nn_of hp4)];exact gp
  have nF:∀q,F q→q≠p∧q≠dx:=fun q hq=>⟨(fun z=>by have h:=hF q hq;rw[z,hp4]at h;exact nomatch h),(fun z=>by have h:=hF q hq;rw[z,hd4]at h;exact nomatch h)⟩
  have E5:Ext W1 (W5.mut p (.ins C dx [(f,u)]) g5):=(((e2.trans e3).trans E4).trans e5).mut (none_of (e2.trans e3).h hp) g5 |> fun z=>z
  refine kx (.ref p) (W5.mut p (.ins C dx [(f,u)]) g5) (fun q=>(q=p∨q=dx)∨F q) E5 (fun q hq=>?_) ⟨p,dx,u,F,rfl,g5,?_,ax,?_,FrT.fr t (.refl _) fun q hq=>⟨ay (nF q hq).1,rfl⟩,fun z=>(nF p z).1 rfl,fun z=>(nF dx z).2 rfl,fun q=>Iff.rfl⟩
  ·rcases hq with(rfl | rfl) | hq
   ·exact none_of (e2.trans e3).h hp
   ·exact none_of (e2.trans e3).h hd
   ·exact none_of ((e2.trans e3).trans E4).h (hF q hq)
  ·show W5.G dx=none
   rw[e5.k dx (nn_of hd4)];exact gd
  ·show bQ W5.H p _ dx=_
   rw[ay ne];exact e5.h _ _ hd4))
theorem sS {W:Wd} {a dx:Addr} {D:Ends} {me:Res τ} (c:Cls K C) (n:NoAttr K C f) (h:EVt Er te σ W R me) (ha:W.H a=some (.ins C dx [])) (h0:σ[0]? =some (some (.ref a))) (q:me.OkE Er fun xs=>∀W2 F u,Ext W W2→(∀q,F q→W.H q=none)→R W2 F xs u→D.nx σ (bQ W2.H a (.ins C dx [(f,u)]))):sm K (aZ 0) te f D σ W.H:=
 h W (.refl _) _ (q.imp fun xs kx u W2 F e2 hF t=>⟨.ref a,h0,a,C,dx,[],rfl,e2.h _ _ ha,c,n,by decide,kx W2 F u e2 hF t⟩)
end
section
variable {Er:Nat→Prop} {α ρ τ:Type} {W W0 Wi:Wd} {σ:St} {cs:List TC} {K:PySem.W.Frag}
def rU (R:Rf τ) (RA:Ra α) (RR:Rp ρ) (m:τ→α→Res (τ×ρ)):Sp:=fun vs H Q _=>∃(W0 W:Wd) (F:FS) (x:τ) (v:V) (a:α) (us:List V),W.H=H∧vs=v::us∧Ext W0 W∧(∀q,F q→W0.H q=none)∧R W F x v∧RA W.G a us∧∃Er:Nat→Prop,(m x a).OkE Er fun r=>∀u W' F',Ext W0 W'→Same W.G W'.G→(∀q,F' q→W0.H q=none)→R W' F' r.1 v→RR W'.G r.2 u→Q u W'.H
theorem sT {R:Rf τ} [FrT R] {RA:Ra α} {RR:Rp ρ} {k i:Nat} {x:τ} {v:V} {t:TA} {ma:Res α} {mf:τ→α→Res (τ×ρ)} {E:XK} {Q:VK} (S:Sep W0 W cs) (E0:Ext W0 W) (hc:cs[k]? =some (tc R x v)) (hi:σ[i]? =some (some v)) (ha:qe Er t σ W RA ma)
  (q:(ma.bind fun a=>mf x a).OkE Er fun r=>∀u W',Ext W0 W'→Same W.G W'.G→Sep W0 W' (cs.set k (tc R r.1 v))→RR W'.G r.2 u→Q u W'.H):aM (rU R RA RR mf) [] E (af (aZ i) t) σ W.H Q:=by
 refine⟨v,hi,ha W (.refl _) _ ((Res.okE_bind q).imp fun b kb us W2 e2 hu=>?_)⟩
 obtain⟨W1,F,x1,t1,n1,up⟩:=(S.ext e2).call (E0.trans e2) hc
 refine⟨W1,W2,F,x,v,b,us,rfl,by simp,x1,n1,t1,hu,Er,kb.imp fun r kr u W' F' e' hs hF' t' hr=>?_⟩
 obtain⟨z1,z2⟩:=up W' F' r.1 e' hF' t'
 exact kr u W' z1 (e2.g.trans hs) z2 hr
end
section
variable {Er:Nat→Prop} {α τ:Type} {W W0:Wd} {σ:St} {cs:List TC} {K:PySem.W.Frag} {R:Rf τ} [FrT R] {RA:Ra α} {k i N:Nat} {x:τ} {v:V} {t:TA} {ma:Res α} {mf:τ→α→Res (τ×Dat)} {mb:Res Dat} {E E':XK} {te:TE} {D:Ends} {ts us r:TS}
theorem mo (hn:24< N) (S:Sep W0 W cs) (E0:Ext W0 W) (hc:cs[k]? =some (tc R x v)) (hi:σ[i]? =some (some v)) (ha:qe Er t σ W RA ma) (hb:∀W',Same W.G W'.G→EV Er te σ W' (sh (isU K)) mb)
  (q:(ma.bind fun a=>(mf x a).bind fun y=>mb.bind fun b=>(nL y.2 b).bind fun c=>.ok (y.1,c)).OkE Er fun y=>∀W',Ext W0 W'→Same W.G W'.G→Sep W0 W' (cs.set k (tc R y.1 v))→if y.2=true then us D σ W'.H else ts D σ W'.H):
  eT (bM (tB (aM (cQ K N) [] E (af (aM (rU R RA (isU K) mf) [] E' (af (aZ i) t)) (af te aJ))))) ts us D σ W.H:=by
 refine sT (ma:=ma) (mf:=mf) S E0 hc hi ha ?_
 revert q
 clear ha
 cases ma with
 | err j=>exact fun h=>h
 | stuck=>exact fun h=>h
 | ok a =>
  intro q
  have ka:((mf x a).bind fun y=>mb.bind fun b=>(nL y.2 b).bind fun c=>.ok (y.1,c)).OkE Er _:=q
  show(mf x a).OkE Er _
  refine(Res.okE_bind ka).imp fun y ky u W' e' hs S' hu=>?_
  have hC:EV Er (tC u) σ W' (sh (isU K)) (.ok y.2):=fun W1 e1 Q k=>k u W1 (.refl _) (Mono.mono e1.g hu)
  have:=nN (K:=K) (E:=E) hn hC (hb W' hs) W' (.refl _) (fun z H=>∃c,z=.bl c∧if(!c)=true then ts D σ H else us D σ H) (by
   show(mb.bind fun b=>nL y.2 b).OkE Er _
   revert ky
   cases mb with
   | ok b =>
    show((nL y.2 b).bind fun c=>Res.ok (y.1,c)).OkE Er _→(nL y.2 b).OkE Er _
    intro ky
    refine(Res.okE_bind ky).imp fun c kc w W2 e2 hw=>⟨c,hw,?_⟩
    have z:=kc W2 (e'.trans e2) (hs.trans e2.g) (S'.ext e2)
    cases c with
    | true=>exact z
    | false=>exact z
   | err j=>exact fun h=>h
   | stuck=>exact fun h=>h)
  exact this
theorem jf (hn:24< N) (S:Sep W0 W cs) (E0:Ext W0 W) (hc:cs[k]? =some (tc R x v)) (hi:σ[i]? =some (some v)) (ha:qe Er t σ W RA ma) (hb:∀W',Same W.G W'.G→EV Er te σ W' (sh (isU K)) mb)
  (q:(ma.bind fun a=>(mf x a).bind fun y=>mb.bind fun b=>(nL y.2 b).bind fun c=>.ok (y.1,c)).OkE Er fun y=>∀W',Ext W0 W'→Same W.G W'.G→Sep W0 W' (cs.set k (tc R y.1 v))→if y.2=true then us {D with nx:=r D} σ W'.H else ts {D with nx:=r D} σ W'.H):
  cZ (eT (bM (tB (aM (cQ K N) [] E (af (aM (rU R RA (isU K) mf) [] E' (af (aZ i) t)) (af te aJ))))) ts us) r D σ W.H:=mo (D:={D with nx:=r D}) hn S E0 hc hi ha hb q
end
end Wb
namespace Mi
noncomputable section
@[irreducible] def th (Z0s:List Int) (l_k:Int):Res Int:=if(decide (l_k< (Z0s.length:Int)))then cP Z0s l_k else(jD ((l_k*48271)+(11:Int)) ((Z0s.length:Int)+(7:Int))).bind fun y8=>Res.ok (y8% 1000003)
def gE (Z0s:List Int) (l_k:Int):Res Int:=th Z0s l_k
@[irreducible] def cx (tall:Int) (wide:Int):Res (List (List (Tx×Tx×Tx))):=(cF tall).bind fun y10=>bD y10 (fun(a1:Int)=>pR [(([63]:Tx),([63]:Tx),([63]:Tx))] wide)
def ar (tall:Int) (wide:Int):Res (List (List (Tx×Tx×Tx))):=cx tall wide
@[irreducible] def rV (Z08:Int) (Z0t:Int) (a19:Int) (s20:(Int×Int×(List Int))):Res (Int×Int×(List Int)):=((if(decide ((1000000000000000000:Int)≤cJ Z08))then Res.ok (decide ((0:Int)< s20.2.1))else Res.ok false).bind fun y45=>(if y45 then((iy s20.2.1 Z0t).bind fun y56=>dm s20.2.2 y56).bind fun y55=>(kJ s20.2.1 Z0t).bind fun y59=>Res.ok (y59,y55)else((((jD ((((s20.1*48271)+(7919:Int))+a19)% 2147483647) ((((s20.1*48271)+(7919:Int))+a19)% 2147483647)).bind fun y63=>Res.ok (y63% 1000003)).bind fun y64=>iy y64 Z0t).bind fun y69=>dm s20.2.2 y69).bind fun y68=>Res.ok (s20.2.1,y68):Res (Int×(List Int)))).bind fun s70=>Res.ok (((((s20.1*48271)+(7919:Int))+a19)% 2147483647),s70.1,s70.2)
@[irreducible] def tj (Z08:Int) (Z0C:Int) (Z0t:Int):Res (List Int):=((cF Z0C).bind fun y78=>br (rV Z08 Z0t) y78 (((cJ Z08)% 2147483647),cJ Z08,([]:List Int))).bind fun s79=>Res.ok s79.2.2
def p5 (Z08:Int) (Z0C:Int) (Z0t:Int):Res (List Int):=tj Z08 Z0C Z0t
@[irreducible] def tm (p5:Int→Int→Int→Res (List Int)) (Z08:Int) (Z0m:Int) (Z0f:Int):Res Dat:=(p5 Z08 (6:Int) (2310:Int)).bind fun y3=>((cP y3 (0:Int)).bind fun y8=>iy y8 (if(1:Int)> Z0m then(1:Int)else Z0m)).bind fun y9=>((cP y3 (1:Int)).bind fun y14=>iy y14 Z0f).bind fun y15=>(((cP y3 (2:Int)).bind fun y20=>Res.ok (y20% 3)).bind fun y21=>cP [([102,97,99,101]:Tx),([98,97,99,107]:Tx),([115,108,97,110,116]:Tx)] y21).bind fun y22=>(((cP y3 (3:Int)).bind fun y27=>Res.ok (y27% 26)).bind fun y28=>sA ([97,98,99,100,101,102,103,104,105,106,107,108,109,110,111,112,113,114,115,116,117,118,119,120,121,122]:Tx) y28).bind fun y29=>(if(decide (y22=([115,108,97,110,116]:Tx)))then(((cP y3 (3:Int)).bind fun y40=>Res.ok (y40% 3)).bind fun y41=>sA ([115,122,111]:Tx) y41).bind fun y42=>Res.ok y42 else Res.ok y29:Res Tx).bind fun s46=>((((cP y3 (4:Int)).bind fun y53=>Res.ok (y53% 5)).bind fun y54=>Res.ok (decide (y54=(1:Int)))).bind fun y55=>(if y55 then((((cP y3 (4:Int)).bind fun y64=>Res.ok (y64/ 5)).bind fun y65=>Res.ok (y65% 5)).bind fun y66=>cP [Z0m,((0:Int)- (1:Int)),(Z0m+(7:Int)),(100000000000000000000:Int),((0:Int)- Z0m)] y66).bind fun y67=>Res.ok y67 else Res.ok y9:Res Int)).bind fun s71=>((((cP y3 (4:Int)).bind fun y78=>Res.ok (y78% 15)).bind fun y79=>Res.ok (decide (y79=(2:Int)))).bind fun y80=>(if y80 then((((cP y3 (4:Int)).bind fun y89=>Res.ok (y89/ 15)).bind fun y90=>Res.ok (y90% 4)).bind fun y91=>cP [Z0f,((0:Int)- (1:Int)),((0:Int)- Z0f),(100000000000000000000:Int)] y91).bind fun y92=>Res.ok y92 else Res.ok y15:Res Int)).bind fun s96=>((((cP y3 (4:Int)).bind fun y103=>Res.ok (y103% 15)).bind fun y104=>Res.ok (decide (y104=(3:Int)))).bind fun y105=>(if y105 then((((cP y3 (4:Int)).bind fun y114=>Res.ok (y114/ 15)).bind fun y115=>Res.ok (y115% 6)).bind fun y116=>cP [([]:Tx),([70,97,99,101]:Tx),([102,97,99,101,115]:Tx),([116,111,112]:Tx),([115,108,97,110]:Tx),([98]:Tx)] y116).bind fun y117=>Res.ok y117 else Res.ok y22:Res Tx)).bind fun s121=>((((cP y3 (4:Int)).bind fun y128=>Res.ok (y128% 15)).bind fun y129=>Res.ok (decide (y129=(4:Int)))).bind fun y130=>(if y130 then((((cP y3 (4:Int)).bind fun y139=>Res.ok (y139/ 15)).bind fun y140=>Res.ok (y140% 10)).bind fun y141=>cP [([]:Tx),([63]:Tx),([65]:Tx),([97,98]:Tx),([115]:Tx),([120]:Tx),([48]:Tx),([32]:Tx),([45]:Tx),([90]:Tx)] y141).bind fun y142=>Res.ok y142 else Res.ok s46:Res Tx)).bind fun s146=>(((cP y3 (5:Int)).bind fun y153=>Res.ok (y153% 3)).bind fun y154=>Res.ok (decide (y154=(0:Int)))).bind fun y155=>if y155 then Res.ok (Dat.t [Dat.s (([119,101,97,114]:Tx),s71,s96,s121).1,Dat.i (([119,101,97,114]:Tx),s71,s96,s121).2.1,Dat.i (([119,101,97,114]:Tx),s71,s96,s121).2.2.1,Dat.s (([119,101,97,114]:Tx),s71,s96,s121).2.2.2])else Res.ok (Dat.t [Dat.s (([115,112,111,116]:Tx),s71,s96,s121,s146).1,Dat.i (([115,112,111,116]:Tx),s71,s96,s121,s146).2.1,Dat.i (([115,112,111,116]:Tx),s71,s96,s121,s146).2.2.1,Dat.s (([115,112,111,116]:Tx),s71,s96,s121,s146).2.2.2.1,Dat.s (([115,112,111,116]:Tx),s71,s96,s121,s146).2.2.2.2])
def k4 (Z08:Int) (Z0m:Int) (Z0f:Int):Res Dat:=tm p5 Z08 Z0m Z0f
@[irreducible] def sU (Z0g:Dat) (Z0m:Int) (Z0f:Int):Res Bool:=((((cX Z0g (1:Int)).bind fun y1=>d4 (jn y1)).bind fun y2=>Res.ok (decide (y2< (0:Int)))).bind fun y11=>if y11 then Res.ok true else(((cX Z0g (1:Int)).bind fun y3=>d4 (jn y3)).bind fun y4=>Res.ok (decide (Z0m≤y4))).bind fun y10=>if y10 then Res.ok true else(((cX Z0g (2:Int)).bind fun y5=>d4 (jn y5)).bind fun y6=>Res.ok (decide (y6< (0:Int)))).bind fun y9=>if y9 then Res.ok true else((cX Z0g (2:Int)).bind fun y7=>d4 (jn y7)).bind fun y8=>Res.ok (decide (Z0f≤y8))).bind fun y12=>if y12 then Res.ok false else((((cX Z0g (3:Int)).bind fun y19=>d4 (iQ y19)).bind fun y20=>Res.ok (!decide (y20=([102,97,99,101]:Tx)))).bind fun y26=>if y26 then(((cX Z0g (3:Int)).bind fun y21=>d4 (iQ y21)).bind fun y22=>Res.ok (!decide (y22=([98,97,99,107]:Tx)))).bind fun y25=>if y25 then((cX Z0g (3:Int)).bind fun y23=>d4 (iQ y23)).bind fun y24=>Res.ok (!decide (y24=([115,108,97,110,116]:Tx)))else Res.ok false else Res.ok false).bind fun y27=>if y27 then Res.ok false else(((cX Z0g (0:Int)).bind fun y34=>d4 (iQ y34)).bind fun y35=>Res.ok (decide (y35=([119,101,97,114]:Tx)))).bind fun y36=>if y36 then Res.ok true else(((cX Z0g (3:Int)).bind fun y43=>d4 (iQ y43)).bind fun y44=>Res.ok (decide (y44=([115,108,97,110,116]:Tx)))).bind fun y45=>if y45 then(((cX Z0g (4:Int)).bind fun y48=>d4 (iQ y48)).bind fun y49=>Res.ok (decide (y49=([115]:Tx)))).bind fun y55=>if y55 then Res.ok true else(((cX Z0g (4:Int)).bind fun y50=>d4 (iQ y50)).bind fun y51=>Res.ok (decide (y51=([122]:Tx)))).bind fun y54=>if y54 then Res.ok true else((cX Z0g (4:Int)).bind fun y52=>d4 (iQ y52)).bind fun y53=>Res.ok (decide (y53=([111]:Tx)))else(((cX Z0g (4:Int)).bind fun y61=>lO y61).bind fun y62=>Res.ok (decide (y62=(1:Int)))).bind fun y65=>if y65 then((cX Z0g (4:Int)).bind fun y63=>d4 (iQ y63)).bind fun y64=>tP y64 ([97,98,99,100,101,102,103,104,105,106,107,108,109,110,111,112,113,114,115,116,117,118,119,120,121,122]:Tx)else Res.ok false
def iN (Z0g:Dat) (Z0m:Int) (Z0f:Int):Res Bool:=sU Z0g Z0m Z0f
@[irreducible] def bJ (self:(List (List (Tx×Tx×Tx)))) (pick:Int) (k:Int) (side:Tx):Res Unit:=(if(decide (pick< (0:Int)))then Res.ok true else Res.ok (decide ((self.length:Int)≤pick))).bind fun y1=>if y1 then(((fL ([]:Tx) [116,104,101,114,101,32,105,115,32,110,111,32,112,105,99,107,32]).bind fun y4=>(nO pick).bind fun y6=>(fL y4 y6).bind fun y5=>Res.ok y5).bind jI).bind fun y7=>Res.err 3 else(if(decide (k< (0:Int)))then Res.ok true else((cP self pick).bind fun y8=>Res.ok (y8.length:Int)).bind fun y9=>Res.ok (decide (y9≤k))).bind fun y10=>if y10 then(((fL ([]:Tx) [116,104,101,114,101,32,105,115,32,110,111,32,116,97,98,108,101,116,32]).bind fun y13=>(nO k).bind fun y15=>(fL y13 y15).bind fun y14=>Res.ok y14).bind jI).bind fun y16=>Res.err 3 else if(![([102,97,99,101],[98,97,99,107],[115,108,97,110,116]).1,([102,97,99,101],[98,97,99,107],[115,108,97,110,116]).2.1,([102,97,99,101],[98,97,99,107],[115,108,97,110,116]).2.2].contains side)then Res.err 3 else Res.ok ()
def ak (self:(List (List (Tx×Tx×Tx)))) (pick:Int) (k:Int) (side:Tx):Res Unit:=bJ self pick k side
@[irreducible] def tt (text:Tx):Res Bool:=((n9 text).bind fun y1=>Res.ok (decide (y1=(1:Int)))).bind fun y2=>if y2 then if nM ([97]:Tx) text then Res.ok (nM text ([122]:Tx))else Res.ok false else Res.ok false
def qm (text:Tx):Res Bool:=tt text
@[irreducible] def tu (qm:Tx→Res Bool) (side:Tx) (sign:Tx):Res Bool:=if(decide (side=([115,108,97,110,116]:Tx)))then Res.ok ([([115],[122],[111]).1,([115],[122],[111]).2.1,([115],[122],[111]).2.2].contains sign)else qm sign
def p6 (side:Tx) (sign:Tx):Res Bool:=tu qm side sign
@[irreducible] def cm (self:(List (List (Tx×Tx×Tx)))) (pick:Int) (k:Int) (side:Tx) (sign:Tx):Res ((List (List (Tx×Tx×Tx)))×Tx):=(((cP self pick).bind fun y1=>cP y1 k).bind fun y2=>Res.ok [y2.1,y2.2.1,y2.2.2]).bind fun y3=>(d4 (jU ([102,97,99,101],[98,97,99,107],[115,108,97,110,116]) side)).bind fun y9=>(cP y3 y9).bind fun y14=>(fk y3 y9 sign).bind fun y17=>((lK y17).bind fun y20=>(gP (self,fun(b:(List (List (Tx×Tx×Tx))))=>b) pick).bind fun y21=>(fk y21.1 k y20).bind fun b=>Res.ok (y21.2 b)).bind fun y22=>Res.ok (y22,y14)
def ao (self:(List (List (Tx×Tx×Tx)))) (pick:Int) (k:Int) (side:Tx) (sign:Tx):Res ((List (List (Tx×Tx×Tx)))×Tx):=cm self pick k side sign
@[irreducible] def bx (ak:(List (List (Tx×Tx×Tx)))→Int→Int→Tx→Res Unit) (p6:Tx→Tx→Res Bool) (ao:(List (List (Tx×Tx×Tx)))→Int→Int→Tx→Tx→Res ((List (List (Tx×Tx×Tx)))×Tx)) (self:(List (List (Tx×Tx×Tx)))) (pick:Int) (k:Int) (side:Tx) (sign:Tx):Res ((List (List (Tx×Tx×Tx)))×Tx):=(ak self pick k side).bind fun _=>((p6 side sign).bind fun y7=>Res.ok (!y7)).bind fun y8=>if y8 then(((fL ([]:Tx) [110,111,32,115,117,99,104,32,115,105,103,110,32,115,116,97,110,100,115,32,111,110,32,116,104,101,32]).bind fun y11=>(fL y11 side).bind fun y12=>Res.ok y12).bind jI).bind fun y14=>Res.err 3 else((Res.ok pick).bind fun a=>((Res.ok k).bind fun a=>((Res.ok side).bind fun a=>((Res.ok sign).bind fun a=>(Res.ok ()).bind fun b=>Res.ok (a,b)).bind fun b=>Res.ok (a,b)).bind fun b=>Res.ok (a,b)).bind fun b=>Res.ok (a,b)).bind fun a=>ao self a.1 a.2.1 a.2.2.1 a.2.2.2.1
def az (self:(List (List (Tx×Tx×Tx)))) (pick:Int) (k:Int) (side:Tx) (sign:Tx):Res ((List (List (Tx×Tx×Tx)))×Tx):=bx ak p6 ao self pick k side sign
@[irreducible] def bz (ak:(List (List (Tx×Tx×Tx)))→Int→Int→Tx→Res Unit) (ao:(List (List (Tx×Tx×Tx)))→Int→Int→Tx→Tx→Res ((List (List (Tx×Tx×Tx)))×Tx)) (self:(List (List (Tx×Tx×Tx)))) (pick:Int) (k:Int) (side:Tx):Res ((List (List (Tx×Tx×Tx)))×Tx):=(ak self pick k side).bind fun _=>((Res.ok pick).bind fun a=>((Res.ok k).bind fun a=>((Res.ok side).bind fun a=>((Res.ok ([63]:Tx)).bind fun a=>(Res.ok ()).bind fun b=>Res.ok (a,b)).bind fun b=>Res.ok (a,b)).bind fun b=>Res.ok (a,b)).bind fun b=>Res.ok (a,b)).bind fun a=>ao self a.1 a.2.1 a.2.2.1 a.2.2.2.1
def aA (self:(List (List (Tx×Tx×Tx)))) (pick:Int) (k:Int) (side:Tx):Res ((List (List (Tx×Tx×Tx)))×Tx):=bz ak ao self pick k side
@[irreducible] def rW (az:(List (List (Tx×Tx×Tx)))→Int→Int→Tx→Tx→Res ((List (List (Tx×Tx×Tx)))×Tx)) (aA:(List (List (Tx×Tx×Tx)))→Int→Int→Tx→Res ((List (List (Tx×Tx×Tx)))×Tx)) (Z0y:(List (List (Tx×Tx×Tx)))) (Z0g:Dat):Res ((List (List (Tx×Tx×Tx)))×Dat):=(Res.tryR ((((cX Z0g (0:Int)).bind fun y11=>d4 (iQ y11)).bind fun y12=>Res.ok (decide (y12=([115,112,111,116]:Tx)))).bind fun y21=>(if y21 then(((cX Z0g (1:Int)).bind fun y14=>d4 (jn y14)).bind fun a=>(((cX Z0g (2:Int)).bind fun y15=>d4 (jn y15)).bind fun a=>(((cX Z0g (3:Int)).bind fun y16=>d4 (iQ y16)).bind fun a=>(((cX Z0g (4:Int)).bind fun y17=>d4 (iQ y17)).bind fun a=>(Res.ok ()).bind fun b=>Res.ok (a,b)).bind fun b=>Res.ok (a,b)).bind fun b=>Res.ok (a,b)).bind fun b=>Res.ok (a,b)).bind fun a=>az Z0y a.1 a.2.1 a.2.2.1 a.2.2.2.1 else(((cX Z0g (1:Int)).bind fun y18=>d4 (jn y18)).bind fun a=>(((cX Z0g (2:Int)).bind fun y19=>d4 (jn y19)).bind fun a=>(((cX Z0g (3:Int)).bind fun y20=>d4 (iQ y20)).bind fun a=>(Res.ok ()).bind fun b=>Res.ok (a,b)).bind fun b=>Res.ok (a,b)).bind fun b=>Res.ok (a,b)).bind fun a=>aA Z0y a.1 a.2.1 a.2.2.1:Res ((List (List (Tx×Tx×Tx)))×Tx)))).bind fun r5=>match r5 with | .inr j7=>Res.ok (Z0y,j9 [114,101,102,117,115,101,100] j7) | .inl y6=>Res.ok (y6.1,Dat.t [Dat.s (([116,111,108,100]:Tx),y6.2).1,Dat.s (([116,111,108,100]:Tx),y6.2).2])
def iO (Z0y:(List (List (Tx×Tx×Tx)))) (Z0g:Dat):Res ((List (List (Tx×Tx×Tx)))×Dat):=rW az aA Z0y Z0g
@[irreducible] def cr (self:(List (List (Tx×Tx×Tx)))):Res (List (List (Tx×Tx×Tx))):=bD self (fun(a1:List (Tx×Tx×Tx))=>Res.ok a1)
def am (self:(List (List (Tx×Tx×Tx)))):Res (List (List (Tx×Tx×Tx))):=cr self
@[irreducible] def cu (self:(List (List (Tx×Tx×Tx)))):Res Int:=(br (fun(a6:List (Tx×Tx×Tx)) (s8:List Int)=>br (fun(a18:Tx×Tx×Tx) (s20:List Int)=>br (fun(a31:Tx) (s33:List Int)=>if(!decide (a31=([63]:Tx)))then dm s33 (1:Int)else Res.ok s33) [a18.1,a18.2.1,a18.2.2] s20) a6 s8) self ([]:List Int)).bind fun y48=>Res.ok y48.sum
def aV (self:(List (List (Tx×Tx×Tx)))):Res Int:=cu self
@[irreducible] def bK (self:(List (List (Tx×Tx×Tx)))) (k:Int):Res (List (Tx×Tx×Tx)):=bD self (fun(a1:List (Tx×Tx×Tx))=>cP a1 k)
def ap (self:(List (List (Tx×Tx×Tx)))) (k:Int):Res (List (Tx×Tx×Tx)):=bK self k
@[irreducible] def rX (a50:Tx×Tx×Tx) (s51:Int):Res Int:=Res.ok ((s51+(3:Int))- (jV a50 ([63]:Tx)))
@[irreducible] def rY (a28:List (Tx×Tx×Tx)) (s29:Int):Res Int:=(br rX a28 s29).bind fun s75=>Res.ok s75
@[irreducible] def rZ (ap:(List (List (Tx×Tx×Tx)))→Int→Res (List (Tx×Tx×Tx))) (Z0y:(List (List (Tx×Tx×Tx)))) (y21:List (List (Tx×Tx×Tx))) (a95:Int) (s96:Unit):Res (Fl Bool Unit):=(ap Z0y a95).bind fun y117=>(((bD y21 (fun(a124:List (Tx×Tx×Tx))=>cP a124 a95)).bind fun y133=>my y117 y133).bind fun y134=>Res.ok (!y134)).bind fun y135=>if y135 then Res.ok (.rt false)else(dm y117 (([97]:Tx),([97]:Tx),([115]:Tx))).bind fun y142=>Res.ok (.nx ())
@[irreducible] def tw (am:(List (List (Tx×Tx×Tx)))→Res (List (List (Tx×Tx×Tx)))) (aV:(List (List (Tx×Tx×Tx)))→Res Int) (ap:(List (List (Tx×Tx×Tx)))→Int→Res (List (Tx×Tx×Tx))) (Z0y:(List (List (Tx×Tx×Tx)))) (Z3X:List (List (List Tx))) (Z0f:Int):Res Bool:=(bD Z3X (fun(a3:List (List Tx))=>bD a3 (fun(a10:List Tx)=>lK a10))).bind fun y21=>(br rY y21 (0:Int)).bind fun s79=>((((am Z0y).bind fun y83=>my y83 y21).bind fun y84=>Res.ok (!y84)).bind fun y87=>if y87 then Res.ok true else((aV Z0y).bind fun y85=>my y85 s79).bind fun y86=>Res.ok (!y86)).bind fun y88=>if y88 then Res.ok false else((cF Z0f).bind fun y145=>eO (rZ ap Z0y y21) y145 ()).bind (fun | .nx s146=>((am Z0y).bind fun y150=>(Res.ok (((y150.map fun _=>([]:List (Tx×Tx×Tx))),fun(b:List (List (Tx×Tx×Tx)))=>b).2 [])).bind fun y157=>((am Z0y).bind fun y160=>my y160 y21).bind fun y172=>if y172 then(ap Z0y (0:Int)).bind fun y170=>(bD y21 (fun(a161:List (Tx×Tx×Tx))=>cP a161 (0:Int))).bind fun y171=>my y170 y171 else Res.ok false) | .rt r=>Res.ok r | .bk _=>Res.stuck)
def jg (Z0y:(List (List (Tx×Tx×Tx)))) (Z3X:List (List (List Tx))) (Z0f:Int):Res Bool:=tw am aV ap Z0y Z3X Z0f
@[irreducible] def da (gE:List Int→Int→Res Int) (k4:Int→Int→Int→Res Dat) (iN:Dat→Int→Int→Res Bool) (iO:(List (List (Tx×Tx×Tx)))→Dat→Res ((List (List (Tx×Tx×Tx)))×Dat)) (jg:(List (List (Tx×Tx×Tx)))→(List (List (List Tx)))→Int→Res Bool) (Z0s:List Int) (s25:Int) (y36:Int) (a98:Int) (s99:((List (List (Tx×Tx×Tx)))×(List (List (List Tx))))):Res (Fl Bool ((List (List (Tx×Tx×Tx)))×(List (List (List Tx))))):=((gE Z0s ((3:Int)+(a98% 60))).bind fun y124=>k4 y124 s25 y36).bind fun y125=>((iN y125 s25 y36).bind fun y132=>(if y132 then(((cX y125 (3:Int)).bind fun y141=>d4 (iQ y141)).bind fun y142=>(match [([102,97,99,101]:Tx),([98,97,99,107]:Tx),([115,108,97,110,116]:Tx)]with | [a,b,c]=>d4 (jU (a,b,c) y142) | _=>Res.stuck:Res Int)).bind fun y143=>(((((((cX y125 (1:Int)).bind fun y148=>d4 (jn y148)).bind fun y149=>cP s99.2 y149).bind fun y151=>((cX y125 (2:Int)).bind fun y150=>d4 (jn y150)).bind fun y152=>cP y151 y152).bind fun y153=>cP y153 y143).bind fun y154=>Res.ok (([116,111,108,100]:Tx),y154)).bind fun y155=>Res.ok (Dat.t [Dat.s y155.1,Dat.s y155.2])).bind fun y156=>(((((cX y125 (1:Int)).bind fun y159=>d4 (jn y159)).bind fun y160=>gP (s99.2,fun(b:List (List (List Tx)))=>b) y160).bind fun y162=>((cX y125 (2:Int)).bind fun y161=>d4 (jn y161)).bind fun y163=>gP y162 y163).bind fun y164=>(fk y164.1 y143 ([63]:Tx)).bind fun b=>Res.ok (y164.2 b)).bind fun y165=>((((cX y125 (0:Int)).bind fun y168=>d4 (iQ y168)).bind fun y169=>Res.ok (decide (y169=([115,112,111,116]:Tx)))).bind fun y170=>(if y170 then(((cX y125 (4:Int)).bind fun y182=>d4 (iQ y182)).bind fun y183=>((((cX y125 (1:Int)).bind fun y177=>d4 (jn y177)).bind fun y178=>gP (y165,fun(b:List (List (List Tx)))=>b) y178).bind fun y180=>((cX y125 (2:Int)).bind fun y179=>d4 (jn y179)).bind fun y181=>gP y180 y181).bind fun y184=>(fk y184.1 y143 y183).bind fun b=>Res.ok (y184.2 b)).bind fun y185=>Res.ok y185 else Res.ok y165:Res (List (List (List Tx))))).bind fun s189=>Res.ok (y156,s189)else Res.ok ((fun(z:Tx×(List Tx))=>Dat.t [Dat.s z.1,Dat.l (z.2.map fun(z:Tx)=>Dat.s z)]) (([114,101,102,117,115,101,100]:Tx),[([66,97,100,77,97,114,107]:Tx)]),s99.2):Res (Dat×(List (List (List Tx)))))).bind fun s197=>(((Res.ok y125).bind fun a=>(Res.ok ()).bind fun b=>Res.ok (a,b)).bind fun a=>(iO s99.1 a.1).bind fun y=>(Res.ok s197.1).bind fun b=>(nL y.2 b).bind fun c=>Res.ok (y.1,c)).bind fun y210=>if y210.2 then(if(decide ((a98% 7)=(3:Int)))then(jg y210.1 s197.2 y36).bind fun y220=>Res.ok (!y220)else Res.ok false).bind fun y221=>if y221 then Res.ok (.rt false)else Res.ok (.nx (y210.1,s197.2))else Res.ok (.rt false)
@[irreducible] def lc (gE:List Int→Int→Res Int) (ar:Int→Int→Res (List (List (Tx×Tx×Tx)))) (k4:Int→Int→Int→Res Dat) (iN:Dat→Int→Int→Res Bool) (iO:(List (List (Tx×Tx×Tx)))→Dat→Res ((List (List (Tx×Tx×Tx)))×Dat)) (jg:(List (List (Tx×Tx×Tx)))→(List (List (List Tx)))→Int→Res Bool) (am:(List (List (Tx×Tx×Tx)))→Res (List (List (Tx×Tx×Tx)))) (Z0s:List Int):Res Bool:=((gE Z0s (0:Int)).bind fun y3=>Res.ok (y3% 9)).bind fun y4=>(((((gE Z0s (0:Int)).bind fun y7=>Res.ok (y7/ 9)).bind fun y8=>Res.ok (y8% 5)).bind fun y9=>Res.ok (decide (y9=(1:Int)))).bind fun y10=>(if y10 then(((gE Z0s (0:Int)).bind fun y19=>Res.ok (y19/ 45)).bind fun y20=>Res.ok (y20% 61)).bind fun y21=>Res.ok y21 else Res.ok y4:Res Int)).bind fun s25=>(((gE Z0s (1:Int)).bind fun y34=>Res.ok (y34% 8)).bind fun y35=>Res.ok ((1:Int)+y35)).bind fun y36=>(ar s25 y36).bind fun y39=>(ar s25 y36).bind fun y43=>((cF s25).bind fun y66=>bD y66 (fun(a47:Int)=>(cF y36).bind fun y63=>bD y63 (fun(a54:Int)=>Res.ok [([63]:Tx),([63]:Tx),([63]:Tx)]))).bind fun y67=>((cF s25).bind fun y92=>bD y92 (fun(a73:Int)=>(cF y36).bind fun y89=>bD y89 (fun(a80:Int)=>Res.ok (([63]:Tx),([63]:Tx),([63]:Tx))))).bind fun y93=>((((gE Z0s (2:Int)).bind fun y96=>Res.ok (y96% 61)).bind fun y97=>cF y97).bind fun y232=>eO (da gE k4 iN iO jg Z0s s25 y36) y232 (y39,y67)).bind (fun | .nx s233=>((jg s233.1 s233.2 y36).bind fun y250=>if y250 then(am y43).bind fun y249=>my y249 y93 else Res.ok false) | .rt r=>Res.ok r | .bk _=>Res.stuck)
def oq (Z0s:List Int):Res Bool:=lc gE ar k4 iN iO jg am Z0s
end
end Mi
namespace Wb
open PySem L2 Mi
def tp (i:Nat):Stmt:=PySem.Challenge.pw_wornband_k26_fragment_deeds.main.body.getD i (.Pass ⟨0,0,0,0⟩)
def tq (i j:Nat):Stmt:=match tp i with
 | .ClassDef _ _ _ b _ _ _ _ _ _ _=>b.getD j (.Pass ⟨0,0,0,0⟩)
 | s=>s
end Wb
namespace Wb
open PySem L2 Mi
theorem fM:bootBuiltins "ValueError" =some (.type "ValueError"):=by decide +kernel
section
variable {P:Program} {w:World} {K:PySem.W.Frag} {mg:Str→Option Value} {base:Heap}
def db (j n:Nat):List (Tx×Bool):=List.take n [([66,97,100,84,97,98,108,101,116],decide (0=j)),([66,97,100,82,111,119],decide (1=j)),([66,97,100,84,101,120,116],decide (2=j)),([66,97,100,77,97,114,107],decide (3=j)),([84,111,111,76,111,110,103],decide (4=j)),([84,111,111,84,105,103,104,116],decide (5=j)),([83,112,111,111,108,68,114,121],decide (6=j)),([78,111,84,97,98,108,101,116],decide (7=j)),([78,111,116,104,105,110,103,76,101,102,116],decide (8=j)),([85,110,108,105,107,101],decide (9=j)),([83,101,101,110,84,104,114,101,97,100],decide (10=j)),([78,111,83,117,99,104,87,97,121],decide (11=j)),([66,97,114,114,101,100],decide (12=j)),([110,111,32,66,97,110,100,69,114,114,111,114],false),([110,111,32,86,97,108,117,101,69,114,114,111,114],false)]
theorem cA {Er:Nat→Prop} {K:PySem.W.Frag} {x C:Addr} {σ:St} {W:Wd} {v:V} {c:Value} {b:Bool} (h0:σ[0]? =some (some (.ref x))) (hv:kv v=some c) (hk:PySem.W.kitOne K (.ref C) c=some b):
  EV Er (cW (fun xs H Q=>∃v c b,xs=[.ref x,v]∧kv v=some c∧PySem.W.kitOne K (.ref C) c=some b∧Q (.bl b) H) (af (aZ 0) (af (tC v) aJ))) σ W (sh isB) (.ok b):=fun W1 e1 Q k=>
 ⟨.ref x,h0,v,c,b,rfl,hv,hk,k (.bl b) W1 (.refl _) rfl⟩
def qo (a:Tx×Bool):Res (Option Tx):=if a.2 then Res.ok (some a.1)else Res.ok none
theorem k6:∀j,j< 13→nb (db j 15) qo=.ok [kindN.getD j []]:=by
 intro j hj
 match j,hj with
 | 0,_=>rfl
 | 1,_=>rfl
 | 2,_=>rfl
 | 3,_=>rfl
 | 4,_=>rfl
 | 5,_=>rfl
 | 6,_=>rfl
 | 7,_=>rfl
 | 8,_=>rfl
 | 9,_=>rfl
 | 10,_=>rfl
 | 11,_=>rfl
 | 12,_=>rfl
theorem ou {f:Addr} {fd:FuncData} (F:Fun K "_law_kinds" "_law_kinds" (tp 27) f fd) (h_isinstance:mg "isinstance" =none) (h_ValueError:mg "ValueError" =none) {Z05 Z0j Z0h Z09 Z0i Z0a Z0b Z0c Z02 Z0k Z04 Z06 Z0l Z03:Addr} (Z1X:mg "BadTablet" =some (.ref Z05)) (Z3K:mg "BadRow" =some (.ref Z0j)) (Z34:mg "BadText" =some (.ref Z0h)) (Z0D:mg "BadMark" =some (.ref Z09)) (Z35:mg "TooLong" =some (.ref Z0i)) (Z2A:mg "TooTight" =some (.ref Z0a)) (Z2B:mg "SpoolDry" =some (.ref Z0b)) (Z2C:mg "NoTablet" =some (.ref Z0c)) (Z1f:mg "NothingLeft" =some (.ref Z02)) (Z3L:mg "Unlike" =some (.ref Z0k)) (Z1z:mg "SeenThread" =some (.ref Z04)) (Z1Y:mg "NoSuchWay" =some (.ref Z06)) (Z3M:mg "Barred" =some (.ref Z0l)) (Z0O:mg "BandError" =some (.ref Z03)):
  FnOkH P w K mg base 1 f fd ["_law_e"] (ej K [Z05,Z0j,Z0h,Z09,Z0i,Z0a,Z0b,Z0c,Z02,Z0k,Z04,Z06,Z0l] Z03):=by
 have SC:FnScope ["_law_e","_law_known"] ["_law_e"] (defScope (tp 27)):=⟨rfl,rfl,rfl,by decide +kernel,rfl,by decide +kernel,by decide +kernel⟩
 refine Fun.okH F SC (fun x C vs H Q E h=>?_) (fun x C cdv A outer s H vs Q E hE hr h=>?_)
 ·obtain⟨_,_,_,rfl,_⟩:=h;rfl
 ·obtain⟨W0,j,rfl,rfl,hZ,hj,hc,hB,hV,hq⟩:=h
  refine⟨_,(ad (aG (i:=1) SC.nd rfl (by first | exact Or.inl rfl | exact Or.inr rfl) (bY (a7 (bo (a7 aj (a7 (aq (aP (K:=K) rfl hE hZ) (by rfl) h_isinstance PyProof.Rows.boot_isinstance (a7 (pv 0) (a7 (bd (v:=.ref Z05) (by rfl) Z1X rfl) a9))) a9))) (a7 (bo (a7 aj (a7 (aq (aP (K:=K) rfl hE hZ) (by rfl) h_isinstance PyProof.Rows.boot_isinstance (a7 (pv 0) (a7 (bd (v:=.ref Z0j) (by rfl) Z3K rfl) a9))) a9))) a9))))
   (ad (aG (i:=1) SC.nd rfl (by first | exact Or.inl rfl | exact Or.inr rfl) (aD eJ (pv 1) (bY (a7 (bo (a7 aj (a7 (aq (aP (K:=K) rfl hE hZ) (by rfl) h_isinstance PyProof.Rows.boot_isinstance (a7 (pv 0) (a7 (bd (v:=.ref Z0h) (by rfl) Z34 rfl) a9))) a9))) (a7 (bo (a7 aj (a7 (aq (aP (K:=K) rfl hE hZ) (by rfl) h_isinstance PyProof.Rows.boot_isinstance (a7 (pv 0) (a7 (bd (v:=.ref Z09) (by rfl) Z0D rfl) a9))) a9))) a9)))))
   (ad (aG (i:=1) SC.nd rfl (by first | exact Or.inl rfl | exact Or.inr rfl) (aD eJ (pv 1) (bY (a7 (bo (a7 aj (a7 (aq (aP (K:=K) rfl hE hZ) (by rfl) h_isinstance PyProof.Rows.boot_isinstance (a7 (pv 0) (a7 (bd (v:=.ref Z0i) (by rfl) Z35 rfl) a9))) a9))) (a7 (bo (a7 aj (a7 (aq (aP (K:=K) rfl hE hZ) (by rfl) h_isinstance PyProof.Rows.boot_isinstance (a7 (pv 0) (a7 (bd (v:=.ref Z0a) (by rfl) Z2A rfl) a9))) a9))) a9)))))
   (ad (aG (i:=1) SC.nd rfl (by first | exact Or.inl rfl | exact Or.inr rfl) (aD eJ (pv 1) (bY (a7 (bo (a7 aj (a7 (aq (aP (K:=K) rfl hE hZ) (by rfl) h_isinstance PyProof.Rows.boot_isinstance (a7 (pv 0) (a7 (bd (v:=.ref Z0b) (by rfl) Z2B rfl) a9))) a9))) (a7 (bo (a7 aj (a7 (aq (aP (K:=K) rfl hE hZ) (by rfl) h_isinstance PyProof.Rows.boot_isinstance (a7 (pv 0) (a7 (bd (v:=.ref Z0c) (by rfl) Z2C rfl) a9))) a9))) a9)))))
   (ad (aG (i:=1) SC.nd rfl (by first | exact Or.inl rfl | exact Or.inr rfl) (aD eJ (pv 1) (bY (a7 (bo (a7 aj (a7 (aq (aP (K:=K) rfl hE hZ) (by rfl) h_isinstance PyProof.Rows.boot_isinstance (a7 (pv 0) (a7 (bd (v:=.ref Z02) (by rfl) Z1f rfl) a9))) a9))) (a7 (bo (a7 aj (a7 (aq (aP (K:=K) rfl hE hZ) (by rfl) h_isinstance PyProof.Rows.boot_isinstance (a7 (pv 0) (a7 (bd (v:=.ref Z0k) (by rfl) Z3L rfl) a9))) a9))) a9)))))
   (ad (aG (i:=1) SC.nd rfl (by first | exact Or.inl rfl | exact Or.inr rfl) (aD eJ (pv 1) (bY (a7 (bo (a7 aj (a7 (aq (aP (K:=K) rfl hE hZ) (by rfl) h_isinstance PyProof.Rows.boot_isinstance (a7 (pv 0) (a7 (bd (v:=.ref Z04) (by rfl) Z1z rfl) a9))) a9))) (a7 (bo (a7 aj (a7 (aq (aP (K:=K) rfl hE hZ) (by rfl) h_isinstance PyProof.Rows.boot_isinstance (a7 (pv 0) (a7 (bd (v:=.ref Z06) (by rfl) Z1Y rfl) a9))) a9))) a9)))))
   (ad (aG (i:=1) SC.nd rfl (by first | exact Or.inl rfl | exact Or.inr rfl) (aD eJ (pv 1) (bY (a7 (bo (a7 aj (a7 (aq (aP (K:=K) rfl hE hZ) (by rfl) h_isinstance PyProof.Rows.boot_isinstance (a7 (pv 0) (a7 (bd (v:=.ref Z0l) (by rfl) Z3M rfl) a9))) a9))) (a7 (bo (a7 aj (a7 (jp (aq (aP (K:=K) rfl hE hZ) (by rfl) h_isinstance PyProof.Rows.boot_isinstance (a7 (pv 0) (a7 (bd (v:=.ref Z03) (by rfl) Z0O rfl) a9)))) a9))) a9)))))
   (ad (aG (i:=1) SC.nd rfl (by first | exact Or.inl rfl | exact Or.inr rfl) (aD eJ (pv 1) (bY (a7 (bo (a7 aj (a7 (jp (aq (aP (K:=K) rfl hE hZ) (by rfl) h_isinstance PyProof.Rows.boot_isinstance (a7 (pv 0) (a7 (cy (v:=.ty "ValueError") (by rfl) h_ValueError fM rfl) a9)))) a9))) a9))))
   (ai (aU (nU (N:=["_law_name","_law_so"]) (cap:=[none,none]) (fj rfl (by decide +kernel) rfl (by decide +kernel) (by rfl) (by rfl)) hE.hdx (nS (K:=K) rfl (pv 1)) (fun _ _ _ _ hx=>(pN (K:=K) (n:=2) rfl hx (eU (b6 (i:=0) (show List.Nodup (["_law_name","_law_so"]:List Str) by decide +kernel) rfl (by first | exact Or.inl rfl | exact Or.inr rfl)) (eU (b6 (i:=1) (show List.Nodup (["_law_name","_law_so"]:List Str) by decide +kernel) rfl (by first | exact Or.inl rfl | exact Or.inr rfl)) km)))) (fun _ _ _ _=>(kH (cw (pv 1)))) (fun _ _ _ _=>(pv 0))))))))))))),?_⟩
  have E0:Ext W0 W0:=.refl W0
  rw[show L2.start ["_law_e","_law_known"] [.ref x]=[some (.ref x),none]from rfl]
  refine aF (Er:=fun _=>False) (i:=1) (R:=sh (isL (isT2 K isS isB))) (m:=.ok (db j 2)) (σ':=fun v=>[some (.ref x),some v]) (EVo.ev (cj (al (bq (K:=K) (ag (x:=Str.ofString "BadTablet") (l:=[66,97,100,84,97,98,108,101,116]) (bL _ _ (by decide +kernel))) (cA (K:=K) (C:=C) (v:=.ref Z05) (c:=.ref Z05) (b:=decide (0=j)) rfl rfl (hc 0 _ rfl))) (al (bq (K:=K) (ag (x:=Str.ofString "BadRow") (l:=[66,97,100,82,111,119]) (bL _ _ (by decide +kernel))) (cA (K:=K) (C:=C) (v:=.ref Z0j) (c:=.ref Z0j) (b:=decide (1=j)) rfl rfl (hc 1 _ rfl))) (ci (R:=isT2 K isS isB)))))) (fun v0 W1 e0 h0=>?_)
  have E0:=E0.trans e0
  refine aF (Er:=fun _=>False) (i:=1) (R:=sh (isL (isT2 K isS isB))) (m:=.ok (db j 4)) (σ':=fun v=>[some (.ref x),some v]) (EVo.ev (dC (EV.pk (a8 (R:=sh (isL (isT2 K isS isB))) h0)) (EVo.pk (cj (al (bq (K:=K) (ag (x:=Str.ofString "BadText") (l:=[66,97,100,84,101,120,116]) (bL _ _ (by decide +kernel))) (cA (K:=K) (C:=C) (v:=.ref Z0h) (c:=.ref Z0h) (b:=decide (2=j)) rfl rfl (hc 2 _ rfl))) (al (bq (K:=K) (ag (x:=Str.ofString "BadMark") (l:=[66,97,100,77,97,114,107]) (bL _ _ (by decide +kernel))) (cA (K:=K) (C:=C) (v:=.ref Z09) (c:=.ref Z09) (b:=decide (3=j)) rfl rfl (hc 3 _ rfl))) (ci (R:=isT2 K isS isB)))))))) (fun v1 W2 e1 h1=>?_)
  have E0:=E0.trans e1
  refine aF (Er:=fun _=>False) (i:=1) (R:=sh (isL (isT2 K isS isB))) (m:=.ok (db j 6)) (σ':=fun v=>[some (.ref x),some v]) (EVo.ev (dC (EV.pk (a8 (R:=sh (isL (isT2 K isS isB))) h1)) (EVo.pk (cj (al (bq (K:=K) (ag (x:=Str.ofString "TooLong") (l:=[84,111,111,76,111,110,103]) (bL _ _ (by decide +kernel))) (cA (K:=K) (C:=C) (v:=.ref Z0i) (c:=.ref Z0i) (b:=decide (4=j)) rfl rfl (hc 4 _ rfl))) (al (bq (K:=K) (ag (x:=Str.ofString "TooTight") (l:=[84,111,111,84,105,103,104,116]) (bL _ _ (by decide +kernel))) (cA (K:=K) (C:=C) (v:=.ref Z0a) (c:=.ref Z0a) (b:=decide (5=j)) rfl rfl (hc 5 _ rfl))) (ci (R:=isT2 K isS isB)))))))) (fun v2 W3 e2 h2=>?_)
  have E0:=E0.trans e2
  refine aF (Er:=fun _=>False) (i:=1) (R:=sh (isL (isT2 K isS isB))) (m:=.ok (db j 8)) (σ':=fun v=>[some (.ref x),some v]) (EVo.ev (dC (EV.pk (a8 (R:=sh (isL (isT2 K isS isB))) h2)) (EVo.pk (cj (al (bq (K:=K) (ag (x:=Str.ofString "SpoolDry") (l:=[83,112,111,111,108,68,114,121]) (bL _ _ (by decide +kernel))) (cA (K:=K) (C:=C) (v:=.ref Z0b) (c:=.ref Z0b) (b:=decide (6=j)) rfl rfl (hc 6 _ rfl))) (al (bq (K:=K) (ag (x:=Str.ofString "NoTablet") (l:=[78,111,84,97,98,108,101,116]) (bL _ _ (by decide +kernel))) (cA (K:=K) (C:=C) (v:=.ref Z0c) (c:=.ref Z0c) (b:=decide (7=j)) rfl rfl (hc 7 _ rfl))) (ci (R:=isT2 K isS isB)))))))) (fun v3 W4 e3 h3=>?_)
  have E0:=E0.trans e3
  refine aF (Er:=fun _=>False) (i:=1) (R:=sh (isL (isT2 K isS isB))) (m:=.ok (db j 10)) (σ':=fun v=>[some (.ref x),some v]) (EVo.ev (dC (EV.pk (a8 (R:=sh (isL (isT2 K isS isB))) h3)) (EVo.pk (cj (al (bq (K:=K) (ag (x:=Str.ofString "NothingLeft") (l:=[78,111,116,104,105,110,103,76,101,102,116]) (bL _ _ (by decide +kernel))) (cA (K:=K) (C:=C) (v:=.ref Z02) (c:=.ref Z02) (b:=decide (8=j)) rfl rfl (hc 8 _ rfl))) (al (bq (K:=K) (ag (x:=Str.ofString "Unlike") (l:=[85,110,108,105,107,101]) (bL _ _ (by decide +kernel))) (cA (K:=K) (C:=C) (v:=.ref Z0k) (c:=.ref Z0k) (b:=decide (9=j)) rfl rfl (hc 9 _ rfl))) (ci (R:=isT2 K isS isB)))))))) (fun v4 W5 e4 h4=>?_)
  have E0:=E0.trans e4
  refine aF (Er:=fun _=>False) (i:=1) (R:=sh (isL (isT2 K isS isB))) (m:=.ok (db j 12)) (σ':=fun v=>[some (.ref x),some v]) (EVo.ev (dC (EV.pk (a8 (R:=sh (isL (isT2 K isS isB))) h4)) (EVo.pk (cj (al (bq (K:=K) (ag (x:=Str.ofString "SeenThread") (l:=[83,101,101,110,84,104,114,101,97,100]) (bL _ _ (by decide +kernel))) (cA (K:=K) (C:=C) (v:=.ref Z04) (c:=.ref Z04) (b:=decide (10=j)) rfl rfl (hc 10 _ rfl))) (al (bq (K:=K) (ag (x:=Str.ofString "NoSuchWay") (l:=[78,111,83,117,99,104,87,97,121]) (bL _ _ (by decide +kernel))) (cA (K:=K) (C:=C) (v:=.ref Z06) (c:=.ref Z06) (b:=decide (11=j)) rfl rfl (hc 11 _ rfl))) (ci (R:=isT2 K isS isB)))))))) (fun v5 W6 e5 h5=>?_)
  have E0:=E0.trans e5
  refine aF (Er:=fun _=>False) (i:=1) (R:=sh (isL (isT2 K isS isB))) (m:=.ok (db j 14)) (σ':=fun v=>[some (.ref x),some v]) (EVo.ev (dC (EV.pk (a8 (R:=sh (isL (isT2 K isS isB))) h5)) (EVo.pk (cj (al (bq (K:=K) (ag (x:=Str.ofString "Barred") (l:=[66,97,114,114,101,100]) (bL _ _ (by decide +kernel))) (cA (K:=K) (C:=C) (v:=.ref Z0l) (c:=.ref Z0l) (b:=decide (12=j)) rfl rfl (hc 12 _ rfl))) (al (bq (K:=K) (ag (x:=Str.ofString "no BandError") (l:=[110,111,32,66,97,110,100,69,114,114,111,114]) (bL _ _ (by decide +kernel))) (ni (cA (K:=K) (C:=C) (v:=.ref Z03) (c:=.ref Z03) (b:=true) rfl rfl hB))) (ci (R:=isT2 K isS isB)))))))) (fun v6 W7 e6 h6=>?_)
  have E0:=E0.trans e6
  refine aF (Er:=fun _=>False) (i:=1) (R:=sh (isL (isT2 K isS isB))) (m:=.ok (db j 15)) (σ':=fun v=>[some (.ref x),some v]) (EVo.ev (dC (EV.pk (a8 (R:=sh (isL (isT2 K isS isB))) h6)) (EVo.pk (cj (al (bq (K:=K) (ag (x:=Str.ofString "no ValueError") (l:=[110,111,32,86,97,108,117,101,69,114,114,111,114]) (bL _ _ (by decide +kernel))) (ni (cA (K:=K) (C:=C) (v:=.ty "ValueError") (c:=.type "ValueError") (b:=true) rfl rfl hV))) (ci (R:=isT2 K isS isB))))))) (fun v7 W8 e7 h7=>?_)
  have E0:=E0.trans e7
  refine kN (Er:=fun _=>False) (m:=.ok [kindN.getD j []]) (k6 j hj▸(nt (R:=isT2 K isS isB) (R':=isS) (m:=.ok (db j 15)) (f:=qo) (cG (a8 (R:=sh (isL (isT2 K isS isB))) h7)) fun W3 a1 v2 e4 h5 Q12 k13=>?_:EVo (fun _=>False) _ _ _ isS ((Res.ok (db j 15)).bind fun xs=>nb xs qo))) (fun p W e hp o=>hq p W (E0.trans e) (none_of E0.h hp) o)
  refine tH h5 fun v6 v8 h7 h9=>?_
  cases h7
  cases h9
  refine⟨by simp[Keep,aW],((j4 (a8 (R:=sh isB) (a:=a1.2) (v:=.bl a1.2) rfl)):TV (fun _=>False) _ [some (.str (sOf a1.1)),some (.bl a1.2)] _ _) _ (.refl _) _ ?_⟩
  intro W15 e16
  unfold qo at k13
  cases hb:a1.2 with
  | false=>rw[hb]at k13;exact k13 none _ e16 trivial
  | true =>
   rw[hb]at k13
   rw[if_pos rfl]
   exact((a8 (R:=sh isS) (a:=a1.1) (v:=.str (sOf a1.1)) rfl):EV (fun _=>False) _ [some (.str (sOf a1.1)),some (.bl true)] _ _ _) W15 (.refl _) _ (fun u W18 e19 h21=>k13 (some u) _ (e16.trans e19) h21)
end
end Wb
namespace Wb
open PySem L2 Mi
section
variable {P:Program} {w:World} {K:PySem.W.Frag} {mg:Str→Option Value} {base:Heap}
theorem ub {f:Addr} {fd:FuncData} (F:Fun K "_law_at" "_law_at" (tp 24) f fd) (h_len:mg "len" =none):FnOk P w K mg base CX0 (1) f fd ["_law_script","_law_k"] (gv (isScr K) isI (rs isI) (th)):=by
 have SC:FnScope ["_law_script","_law_k"] ["_law_script","_law_k"] (defScope (tp 24)):=⟨rfl,rfl,rfl,by decide +kernel,rfl,by decide +kernel,by decide +kernel⟩
 refine F.ok SC (fun vs H Q E h=>?_) (fun cdv A outer s H vs Q E hr h=>?_)
 ·obtain⟨_,_,_,_,_,_,rfl,_⟩:=h;rfl
 ·obtain⟨W0,Z0s,l_k,Z0n,_,rfl,rfl,Z01,z_l_k,Er,hq⟩:=h
  cases z_l_k
  refine⟨_,(ad (bt (aL iT (pv 1) (aq (cD (K:=K) rfl) (by rfl) h_len PySem.boot_len (a7 (pv 0) a9)) (aI _)) (ai (aU (aw (au (K:=K) rfl) (pv 0) (pv 1) (fun _ _=>rfl)))) aR)
   (ai (aU (aD bi (aD il (aD dQ (aD il (pv 1) ac) ac) (aD dQ (aq (cD (K:=K) rfl) (by rfl) h_len PySem.boot_len (a7 (pv 0) a9)) ac)) ac)))),?_⟩
  have E0:Ext W0 W0:=.refl W0
  rw[show L2.start ["_law_script","_law_k"] [Z0n,.int l_k]=[some Z0n,some (.int l_k)]from rfl]
  unfold th at hq
  refine cH (Er:=Er) (aS (d5 (a8 (R:=sh isI) (a:=l_k) (v:=.int l_k) rfl) (i5 (a8 (R:=sh (isScr K)) Z01)))) (fun W1 e2=>?_)
  have E0:=E0.trans e2
  have Z01:=Mono.mono (R:=(isScr K)) e2.g Z01
  by_cases hb13:(decide (l_k< (Z0s.length:Int)))=true
  ·rw[if_pos hb13]at hq ⊢
   exact bP (Er:=Er) (R:=sh isI) (nA (a8 (R:=sh (isScr K)) Z01) (a8 (R:=sh isI) (a:=l_k) (v:=.int l_k) rfl)) (Res.OkE.imp hq fun y3 hq v4 W5 e6 h7=>hq v4 W5 (E0.trans e6) h7)
  ·rw[if_neg hb13]at hq ⊢
   try dsimp only[aE]
   exact bP (Er:=Er) (R:=sh isI) (aX (fun _=>by decide) (nh (cM (aX (fun _=>.inr ⟨by decide,by decide⟩) (a8 (R:=sh isI) (a:=l_k) (v:=.int l_k) rfl)) ae) (cM (i5 (a8 (R:=sh (isScr K)) Z01)) ae))) (Res.OkE.imp hq fun y9 hq v10 W11 e12 h13=>hq v10 W11 (E0.trans e12) h13)
theorem eA {f:Addr} {fd:FuncData} (F:Fun K "__init__" "Fragment.__init__" (tq 22 0) f fd) {Z00:Addr} (Z0d:Cls K Z00) (n_Fragment_picks:NoAttr K Z00 "picks") (h_range:mg "range" =none) {Z1A:Tok} (Z0P:mg "WORN" =some (.str (Str.ofString "?") Z1A)):FnOk P w K mg base CX0 (1) f fd ["self","tall","wide"] (ql Z00 "picks" (oL (oL (fz (isT3 K isS isS isS)))) ar):=by
 have SC:FnScope ["self","tall","wide"] ["self","tall","wide"] (defScope (tq 22 0)):=⟨rfl,rfl,rfl,by decide +kernel,rfl,by decide +kernel,by decide +kernel⟩
 refine F.ok SC (fun vs H Q E h=>?_) (fun cdv A outer s H vs Q E hr h=>?_)
 ·obtain⟨_,_,_,_,_,_,rfl,_⟩:=h;rfl
 ·obtain⟨W,aa,dx,tall,wide,rfl,rfl,ga,gd,ha,hd,Er,hq⟩:=h
  refine⟨_,(ai (r6 (pv 0) (dh (N:=["at","wide"]) (cap:=[none,some 2]) (fj rfl (by decide +kernel) rfl (by decide +kernel) (by rfl) (by rfl)) rfl (cB rfl h_range (a7 (pv 1) a9)) (fun _ _ _ _=>(b6 (i:=0) (show List.Nodup (["at","wide"]:List Str) by decide +kernel) rfl (by first | exact Or.inl rfl | exact Or.inr rfl))) (fun _ _ _ _=>cq) (fun _ _ _ _=>(aD rf (bY (a7 (bo (a7 (bd (v:=.str (Str.ofString "?")) (by rfl) Z0P ⟨_,rfl⟩) (a7 (bd (v:=.str (Str.ofString "?")) (by rfl) Z0P ⟨_,rfl⟩) (a7 (bd (v:=.str (Str.ofString "?")) (by rfl) Z0P ⟨_,rfl⟩) a9)))) a9)) (pv 1)))) rfl)),?_⟩
  rw[show L2.start ["self","tall","wide"] [.ref aa,.int tall,.int wide]=[some (.ref aa),some (.int tall),some (.int wide)]from rfl]
  unfold ar cx at hq
  exact sS (Er:=Er) Z0d n_Fragment_picks (fe (f:=fun(a1:Int)=>pR [(([63]:Tx),([63]:Tx),([63]:Tx))] wide) (cS (a8 (R:=sh isI) (a:=tall) (v:=.int tall) rfl)) fun W3 a1 v2 e4 h5 Q8 k9=>by
 cases h5
 refine gn ?_
 exact⟨by simp[Keep,aW],((EVo.tr (pT (EVo.pk (cj (al (iE (K:=K) (ag (x:=Str.ofString "?") (l:=[63]) (bL _ _ (by decide +kernel))) (ag (x:=Str.ofString "?") (l:=[63]) (bL _ _ (by decide +kernel))) (ag (x:=Str.ofString "?") (l:=[63]) (bL _ _ (by decide +kernel)))) (ci (R:=(isT3 K isS isS isS)))))) (a8 (R:=sh isI) (a:=wide) (v:=.int wide) rfl))):EVt Er _ [some (.int a1),some (.int wide)] _ _ _) _ (.refl _) _ k9⟩) ha rfl hq
theorem uc {f:Addr} {fd:FuncData} (F:Fun K "_law_row" "_law_row" (tp 25) f fd) (h_abs:mg "abs" =none) (h_range:mg "range" =none):FnOk P w K mg base CX0 (1) f fd ["_law_cell","_law_many","_law_base"] (eZ isI isI isI (ro isI) (tj)):=by
 have SC:FnScope ["_law_cell","_law_many","_law_base","_law_now","_law_far","_law_mix","_law_out","_law_k"] ["_law_cell","_law_many","_law_base"] (defScope (tp 25)):=⟨rfl,rfl,rfl,by decide +kernel,rfl,by decide +kernel,by decide +kernel⟩
 refine F.ok SC (fun vs H Q E h=>?_) (fun cdv A outer s H vs Q E hr h=>?_)
 ·obtain⟨_,_,_,_,_,_,_,_,rfl,_⟩:=h;rfl
 ·obtain⟨W0,Z08,Z0C,Z0t,_,_,_,rfl,rfl,Z3N,Z96,Z97,Er,hq⟩:=h
  cases Z3N
  cases Z96
  cases Z97
  refine⟨_,(ad (aG (i:=3) SC.nd rfl (by first | exact Or.inl rfl | exact Or.inr rfl) (aq mJ (by rfl) h_abs PyProof.Rows.boot_abs (a7 (pv 0) a9)))
   (ad (aG (i:=4) SC.nd rfl (by first | exact Or.inl rfl | exact Or.inr rfl) (cz iU (pv 3) (aD js ac ac) (aI _)))
   (ad (aG (i:=5) SC.nd rfl (by first | exact Or.inl rfl | exact Or.inr rfl) (aD bi (pv 3) ac))
   (ad (aG (i:=6) SC.nd rfl (by first | exact Or.inl rfl | exact Or.inr rfl) (bY a9))
   (ad (eH PassesOwn.never rfl (cB rfl h_range (a7 (pv 1) a9)) (b6 (i:=7) SC.nd rfl (by first | exact Or.inl rfl | exact Or.inr rfl)) (ad (aG (i:=5) SC.nd rfl (by first | exact Or.inl rfl | exact Or.inr rfl) (aD bi (aD dQ (aD dQ (aD il (pv 5) ac) ac) (pv 7)) ac))
   (ai (bt (PW.pt (fh (cw (pv 4)) (eS (aL sk (pv 3) ac (aI _))))) (ad (dv (eQ (K:=K) rfl (pv 6) (a7 (aD bi (pv 3) (pv 2)) a9)))
   (ai (aG (i:=3) SC.nd rfl (by first | exact Or.inl rfl | exact Or.inr rfl) (aD dw (pv 3) (pv 2))))) (ai (dv (eQ (K:=K) rfl (pv 6) (a7 (aD bi (aD bi (aD il (pv 5) (pv 5)) ac) (pv 2)) a9))))))))
   (ai (aU (pv 6)))))))),?_⟩
  have E0:Ext W0 W0:=.refl W0
  rw[show L2.start ["_law_cell","_law_many","_law_base","_law_now","_law_far","_law_mix","_law_out","_law_k"] [.int Z08,.int Z0C,.int Z0t]=[some (.int Z08),some (.int Z0C),some (.int Z0t),none,none,none,none,none]from rfl]
  unfold tj at hq
  refine aF (Er:=Er) (i:=3) (R:=sh isI) (σ':=fun v3=>[some (.int Z08),some (.int Z0C),some (.int Z0t),some v3,none,none,none,none]) (rl (a8 (R:=sh isI) (a:=Z08) (v:=.int Z08) rfl)) (fun v3 W1 e2 h4=>?_)
  cases h4
  have E0:=E0.trans e2
  refine aF (Er:=Er) (i:=4) (R:=sh isB) (σ':=fun v7=>[some (.int Z08),some (.int Z0C),some (.int Z0t),some (.int (cJ Z08)),some v7,none,none,none]) (d5 (a8 (R:=sh isI) (a:=(cJ Z08)) (v:=.int (cJ Z08)) rfl) (iG (r:=1000000000000000000) (by decide) (by decide))) (fun v7 W5 e6 h8=>?_)
  cases h8
  have E0:=E0.trans e6
  refine aF (Er:=Er) (i:=5) (R:=sh isI) (σ':=fun v11=>[some (.int Z08),some (.int Z0C),some (.int Z0t),some (.int (cJ Z08)),some (.bl (decide ((1000000000000000000:Int)≤cJ Z08))),some v11,none,none]) (aX (fun _=>by decide) (a8 (R:=sh isI) (a:=(cJ Z08)) (v:=.int (cJ Z08)) rfl)) (fun v11 W9 e10 h12=>?_)
  cases h12
  have E0:=E0.trans e10
  refine lN (Er:=Er) (i:=6) (σ':=fun p15=>[some (.int Z08),some (.int Z0C),some (.int Z0t),some (.int (cJ Z08)),some (.bl (decide ((1000000000000000000:Int)≤cJ Z08))),some (.int ((cJ Z08)% 2147483647)),some (.ref p15),none]) (pE (R:=isI)) (fun p15 W13 e14 hp16 o17=>?_)
  have fr18:=none_of E0.h hp16
  have E0:=E0.trans e14
  refine j5 (Er:=Er) (f:=(rV Z08 Z0t)) (s0:=(((cJ Z08)% 2147483647),cJ Z08,([]:List Int))) (Iv:=fun(s21:(Int×Int×(List Int))) (W22:Wd) (g23:St)=>∃(d25:Option V),g23=[some (.int Z08),some (.int Z0C),some (.int Z0t),some (.int s21.2.1),some (.bl (decide ((1000000000000000000:Int)≤cJ Z08))),some (.int s21.1),some (.ref p15),d25]∧Ext W0 W22∧Ow isI W22 p15 s21.2.2) (cS (a8 (R:=sh isI) (a:=Z0C) (v:=.int Z0C) rfl)) (Res.okE_bind hq) ?_ ?_ ?_
  ·intro W37 e38
   have E0:=E0.trans e38
   have o17:=o17.mono e38
   exact⟨_,rfl,E0,o17⟩
  ·intro Wb26 W27 W28 a19 v29 s20 sg30 P31 hW32 hB33 iv e34 h35 hq
   obtain⟨d25,rfl,E0,o24⟩:=iv
   have E0:=E0.trans e34
   have hB33:=hB33.trans e34.g
   have o24:=o24.mono e34
   cases h35
   refine gn (σ':=[some (.int Z08),some (.int Z0C),some (.int Z0t),some (.int s20.2.1),some (.bl (decide ((1000000000000000000:Int)≤cJ Z08))),some (.int s20.1),some (.ref p15),some (.int a19)]) ?_
   unfold rV at hq
   refine aF (Er:=Er) (i:=5) (R:=sh isI) (σ':=fun v43=>[some (.int Z08),some (.int Z0C),some (.int Z0t),some (.int s20.2.1),some (.bl (decide ((1000000000000000000:Int)≤cJ Z08))),some v43,some (.ref p15),some (.int a19)]) (aX (fun _=>by decide) (cM (cM (aX (fun _=>.inr ⟨by decide,by decide⟩) (a8 (R:=sh isI) (a:=s20.1) (v:=.int s20.1) rfl)) ae) (a8 (R:=sh isI) (a:=a19) (v:=.int a19) rfl))) (fun v43 W41 e42 h44=>?_)
   cases h44
   have E0:=E0.trans e42
   have hB33:=hB33.trans e42.g
   have o24:=o24.mono e42
   refine jG (Er:=Er) (Iv:=fun(s74:(Int×(List Int))) (W75:Wd) (g76:St)=>g76=[some (.int Z08),some (.int Z0C),some (.int Z0t),some (.int s74.1),some (.bl (decide ((1000000000000000000:Int)≤cJ Z08))),some (.int ((((s20.1*48271)+(7919:Int))+a19)% 2147483647)),some (.ref p15),some (.int a19)]∧Ext W0 W75∧Ow isI W75 p15 s74.2) (iC (j4 (a8 (R:=sh isB) (a:=(decide ((1000000000000000000:Int)≤cJ Z08))) (v:=.bl (decide ((1000000000000000000:Int)≤cJ Z08))) rfl)) (aS (d5 (a8 (R:=sh isI) (a:=s20.2.1) (v:=.int s20.2.1) rfl) ae))) (Res.okE_bind hq) ?_ ?_ ?_
   ·intro W46 N49 e47 hN50 hq
    have hs51:=e47.g
    have E0:=E0.trans e47
    have hB33:=hB33.trans e47.g
    have o24:=o24.mono e47
    refine nz (Er:=Er) o24 (iz (a8 (R:=sh isI) (a:=s20.2.1) (v:=.int s20.2.1) rfl) (a8 (R:=sh isI) (a:=Z0t) (v:=.int Z0t) rfl)) ((Res.okE_bind hq).imp fun y55 hq W52 mu53 o54=>?_)
    have E0:=mu53.e _ E0 fr18
    have hB33:=hB33.trans mu53.g
    have hs51:=hs51.trans mu53.g
    refine dE (Er:=Er) (i:=3) (R:=sh isI) (σ':=fun v60=>[some (.int Z08),some (.int Z0C),some (.int Z0t),some v60,some (.bl (decide ((1000000000000000000:Int)≤cJ Z08))),some (.int ((((s20.1*48271)+(7919:Int))+a19)% 2147483647)),some (.ref p15),some (.int a19)]) (pD (a8 (R:=sh isI) (a:=s20.2.1) (v:=.int s20.2.1) rfl) (a8 (R:=sh isI) (a:=Z0t) (v:=.int Z0t) rfl)) ((Res.okE_bind hq).imp fun y59 hq v60 W57 e58 h61=>?_)
    cases h61
    have E0:=E0.trans e58
    have hB33:=hB33.trans e58.g
    have hs51:=hs51.trans e58.g
    have o54:=o54.mono e58
    exact hN50 (y59,y55) W57 _ hs51 ⟨rfl,E0,o54⟩ hq
   ·intro W46 N49 e47 hN50 hq
    have hs62:=e47.g
    have E0:=E0.trans e47
    have hB33:=hB33.trans e47.g
    have o24:=o24.mono e47
    refine nu (Er:=Er) o24 (iz (aX (fun _=>by decide) (nh (a8 (R:=sh isI) (a:=((((s20.1*48271)+(7919:Int))+a19)% 2147483647)) (v:=.int ((((s20.1*48271)+(7919:Int))+a19)% 2147483647)) rfl) (a8 (R:=sh isI) (a:=((((s20.1*48271)+(7919:Int))+a19)% 2147483647)) (v:=.int ((((s20.1*48271)+(7919:Int))+a19)% 2147483647)) rfl))) (a8 (R:=sh isI) (a:=Z0t) (v:=.int Z0t) rfl)) ((Res.okE_bind hq).imp fun y68 hq W65 mu66 o67=>?_)
    have E0:=mu66.e _ E0 fr18
    have hB33:=hB33.trans mu66.g
    have hs62:=hs62.trans mu66.g
    exact hN50 (s20.2.1,y68) W65 _ hs62 ⟨rfl,E0,o67⟩ hq
   ·intro s70 W71 sg72 hS73 iv hq
    obtain⟨rfl,E0,o77⟩:=iv
    have hB33:=hB33.trans hS73
    try dsimp only
    refine gw (W:=W71) (((((s20.1*48271)+(7919:Int))+a19)% 2147483647),s70.1,s70.2) hB33 ?_ hq
    exact⟨_,rfl,E0,o77⟩
  ·intro s79 W80 sg81 hS82 iv hq
   obtain⟨d25,rfl,E0,o24⟩:=iv
   exact⟨.ref p15,rfl,hq p15 W80 E0 fr18 o24⟩
theorem ud {f:Addr} {fd:FuncData} (F:Fun K "_law_deed" "_law_deed" (tp 30) f fd) {p5:Int→Int→Int→Res (List Int)} (Z2D:Cal P w K mg base "_law_row" ["_law_cell","_law_many","_law_base"] (1) (eZ isI isI isI (ro isI) p5)) (h_max:mg "max" =none):FnOk P w K mg base CX0 (2) f fd ["_law_cell","_law_tall","_law_wide"] (eZ isI isI isI (rs (isU K)) (tm p5)):=by
 have SC:FnScope ["_law_cell","_law_tall","_law_wide","_law_draws","_law_at_here","_law_k","_law_side","_law_sign"] ["_law_cell","_law_tall","_law_wide"] (defScope (tp 30)):=⟨rfl,rfl,rfl,by decide +kernel,rfl,by decide +kernel,by decide +kernel⟩
 refine F.ok SC (fun vs H Q E h=>?_) (fun cdv A outer s H vs Q E hr h=>?_)
 ·obtain⟨_,_,_,_,_,_,_,_,rfl,_⟩:=h;rfl
 ·obtain⟨W0,Z08,Z0m,Z0f,_,_,_,rfl,rfl,Z3N,Z3O,Z1B,Er,hq⟩:=h
  cases Z3N
  cases Z3O
  cases Z1B
  refine⟨_,(ad (aG (i:=3) SC.nd rfl (by first | exact Or.inl rfl | exact Or.inr rfl) (bw Z2D (hr.mono (by decide)) (by rfl) (a7 (pv 0) (a7 ac (a7 ac a9)))))
   (ad (aG (i:=4) SC.nd rfl (by first | exact Or.inl rfl | exact Or.inr rfl) (aD bi (aw (au (K:=K) rfl) (pv 3) ac (fun _ _=>rfl)) (aq (lx rfl) (by rfl) h_max PyProof.Rows.boot_max (a7 (pv 1) (a7 ac a9)))))
   (ad (aG (i:=5) SC.nd rfl (by first | exact Or.inl rfl | exact Or.inr rfl) (aD bi (aw (au (K:=K) rfl) (pv 3) ac (fun _ _=>rfl)) (pv 2)))
   (ad (aG (i:=6) SC.nd rfl (by first | exact Or.inl rfl | exact Or.inr rfl) (aw (au (K:=K) rfl) (bY (a7 aj (a7 aj (a7 aj a9)))) (aD bi (aw (au (K:=K) rfl) (pv 3) ac (fun _ _=>rfl)) ac) (fun _ _=>rfl)))
   (ad (aG (i:=7) SC.nd rfl (by first | exact Or.inl rfl | exact Or.inr rfl) (aw mR aj (aD bi (aw (au (K:=K) rfl) (pv 3) ac (fun _ _=>rfl)) ac) (fun _ _=>rfl)))
   (ad (bt (aL cv (pv 6) aj (aI _)) (ai (aG (i:=7) SC.nd rfl (by first | exact Or.inl rfl | exact Or.inr rfl) (aw mR aj (aD bi (aw (au (K:=K) rfl) (pv 3) ac (fun _ _=>rfl)) ac) (fun _ _=>rfl)))) aR)
   (ad (bt (aL cv (aD bi (aw (au (K:=K) rfl) (pv 3) ac (fun _ _=>rfl)) ac) ac (aI _)) (ai (aG (i:=4) SC.nd rfl (by first | exact Or.inl rfl | exact Or.inr rfl) (aw (au (K:=K) rfl) (bY (a7 (pv 1) (a7 (aD g9 ac ac) (a7 (aD dQ (pv 1) ac) (a7 (aD js ac ac) (a7 (aD g9 ac (pv 1)) a9)))))) (aD bi (aD dw (aw (au (K:=K) rfl) (pv 3) ac (fun _ _=>rfl)) ac) ac) (fun _ _=>rfl)))) aR)
   (ad (bt (aL cv (aD bi (aw (au (K:=K) rfl) (pv 3) ac (fun _ _=>rfl)) ac) ac (aI _)) (ai (aG (i:=5) SC.nd rfl (by first | exact Or.inl rfl | exact Or.inr rfl) (aw (au (K:=K) rfl) (bY (a7 (pv 2) (a7 (aD g9 ac ac) (a7 (aD g9 ac (pv 2)) (a7 (aD js ac ac) a9))))) (aD bi (aD dw (aw (au (K:=K) rfl) (pv 3) ac (fun _ _=>rfl)) ac) ac) (fun _ _=>rfl)))) aR)
   (ad (bt (aL cv (aD bi (aw (au (K:=K) rfl) (pv 3) ac (fun _ _=>rfl)) ac) ac (aI _)) (ai (aG (i:=6) SC.nd rfl (by first | exact Or.inl rfl | exact Or.inr rfl) (aw (au (K:=K) rfl) (bY (a7 aj (a7 aj (a7 aj (a7 aj (a7 aj (a7 aj a9))))))) (aD bi (aD dw (aw (au (K:=K) rfl) (pv 3) ac (fun _ _=>rfl)) ac) ac) (fun _ _=>rfl)))) aR)
   (ad (bt (aL cv (aD bi (aw (au (K:=K) rfl) (pv 3) ac (fun _ _=>rfl)) ac) ac (aI _)) (ai (aG (i:=7) SC.nd rfl (by first | exact Or.inl rfl | exact Or.inr rfl) (aw (au (K:=K) rfl) (bY (a7 aj (a7 aj (a7 aj (a7 aj (a7 aj (a7 aj (a7 aj (a7 aj (a7 aj (a7 aj a9))))))))))) (aD bi (aD dw (aw (au (K:=K) rfl) (pv 3) ac (fun _ _=>rfl)) ac) ac) (fun _ _=>rfl)))) aR)
   (ad (bt (aL cv (aD bi (aw (au (K:=K) rfl) (pv 3) ac (fun _ _=>rfl)) ac) ac (aI _)) (ai (aU (bo (a7 aj (a7 (pv 4) (a7 (pv 5) (a7 (pv 6) a9))))))) aR)
   (ai (aU (bo (a7 aj (a7 (pv 4) (a7 (pv 5) (a7 (pv 6) (a7 (pv 7) a9))))))))))))))))))),?_⟩
  have E0:Ext W0 W0:=.refl W0
  rw[show L2.start ["_law_cell","_law_tall","_law_wide","_law_draws","_law_at_here","_law_k","_law_side","_law_sign"] [.int Z08,.int Z0m,.int Z0f]=[some (.int Z08),some (.int Z0m),some (.int Z0f),none,none,none,none,none]from rfl]
  unfold tm at hq
  refine aF (Er:=Er) (i:=3) (R:=sh (isL isI)) (σ':=fun v4=>[some (.int Z08),some (.int Z0m),some (.int Z0f),some v4,none,none,none,none]) (EVo.ev (lL (a8 (R:=sh isI) (a:=Z08) (v:=.int Z08) rfl) ae ae)) ((Res.okE_bind hq).imp fun y3 hq v4 W1 e2 h5=>?_)
  have E0:=E0.trans e2
  refine aF (Er:=Er) (i:=4) (R:=sh isI) (σ':=fun v10=>[some (.int Z08),some (.int Z0m),some (.int Z0f),some v4,some v10,none,none,none]) (iz (bu (EV.pk (a8 (R:=sh (isL isI)) h5)) ae) (pI (a8 (R:=sh isI) (a:=Z0m) (v:=.int Z0m) rfl) ae)) ((Res.okE_bind hq).imp fun y9 hq v10 W6 e7 h11=>?_)
  cases h11
  have E0:=E0.trans e7
  have h5:=Mono.mono (R:=(isL isI)) e7.g h5
  refine aF (Er:=Er) (i:=5) (R:=sh isI) (σ':=fun v16=>[some (.int Z08),some (.int Z0m),some (.int Z0f),some v4,some (.int y9),some v16,none,none]) (iz (bu (EV.pk (a8 (R:=sh (isL isI)) h5)) ae) (a8 (R:=sh isI) (a:=Z0f) (v:=.int Z0f) rfl)) ((Res.okE_bind hq).imp fun y15 hq v16 W12 e13 h17=>?_)
  cases h17
  have E0:=E0.trans e13
  have h5:=Mono.mono (R:=(isL isI)) e13.g h5
  refine aF (Er:=Er) (i:=6) (R:=sh isS) (σ':=fun v23=>[some (.int Z08),some (.int Z0m),some (.int Z0f),some v4,some (.int y9),some (.int y15),some v23,none]) (bu (EVo.pk (cj (al (ag (x:=Str.ofString "face") (l:=[102,97,99,101]) (bL _ _ (by decide +kernel))) (al (ag (x:=Str.ofString "back") (l:=[98,97,99,107]) (bL _ _ (by decide +kernel))) (al (ag (x:=Str.ofString "slant") (l:=[115,108,97,110,116]) (bL _ _ (by decide +kernel))) (ci (R:=isS))))))) (aX (fun _=>by decide) (bu (EV.pk (a8 (R:=sh (isL isI)) h5)) ae))) ((Res.okE_bind hq).imp fun y22 hq v23 W18 e19 h24=>?_)
  cases h24
  have E0:=E0.trans e19
  have h5:=Mono.mono (R:=(isL isI)) e19.g h5
  refine aF (Er:=Er) (i:=7) (R:=sh isS) (σ':=fun v30=>[some (.int Z08),some (.int Z0m),some (.int Z0f),some v4,some (.int y9),some (.int y15),some (.str (sOf y22)),some v30]) (nq (ag (x:=Str.ofString "abcdefghijklmnopqrstuvwxyz") (l:=[97,98,99,100,101,102,103,104,105,106,107,108,109,110,111,112,113,114,115,116,117,118,119,120,121,122]) (bL _ _ (by decide +kernel))) (aX (fun _=>by decide) (bu (EV.pk (a8 (R:=sh (isL isI)) h5)) ae))) ((Res.okE_bind hq).imp fun y29 hq v30 W25 e26 h31=>?_)
  cases h31
  have E0:=E0.trans e26
  have h5:=Mono.mono (R:=(isL isI)) e26.g h5
  refine d9 (Er:=Er) (Iv:=fun(s50:Tx) (W51:Wd) (g52:St)=>g52=[some (.int Z08),some (.int Z0m),some (.int Z0f),some v4,some (.int y9),some (.int y15),some (.str (sOf y22)),some (.str (sOf s50))]∧Ext W0 W51) (aS (dA (a8 (R:=sh isS) (a:=y22) (v:=.str (sOf y22)) rfl) (ag (x:=Str.ofString "slant") (l:=[115,108,97,110,116]) (bL _ _ (by decide +kernel))))) (Res.okE_bind hq) ?_ ?_ ?_
  ·intro W32 N35 e33 hN36 hq
   have hs37:=e33.g
   have E0:=E0.trans e33
   have h5:=Mono.mono (R:=(isL isI)) e33.g h5
   refine dE (Er:=Er) (i:=7) (R:=sh isS) (σ':=fun v43=>[some (.int Z08),some (.int Z0m),some (.int Z0f),some v4,some (.int y9),some (.int y15),some (.str (sOf y22)),some v43]) (nq (ag (x:=Str.ofString "szo") (l:=[115,122,111]) (bL _ _ (by decide +kernel))) (aX (fun _=>by decide) (bu (EV.pk (a8 (R:=sh (isL isI)) h5)) ae))) ((Res.okE_bind hq).imp fun y42 hq v43 W38 e39 h44=>?_)
   cases h44
   have E0:=E0.trans e39
   have hs37:=hs37.trans e39.g
   have h5:=Mono.mono (R:=(isL isI)) e39.g h5
   exact hN36 y42 W38 _ hs37 ⟨rfl,E0⟩ hq
  ·intro W32 N35 e33 hN36 hq
   have hs45:=e33.g
   have E0:=E0.trans e33
   have h5:=Mono.mono (R:=(isL isI)) e33.g h5
   try dsimp only[aE]
   exact hN36 y29 W32 _ hs45 ⟨rfl,E0⟩ hq
  ·intro s46 W47 sg48 hS49 iv hq
   obtain⟨rfl,E0⟩:=iv
   have h5:=Mono.mono (R:=(isL isI)) hS49 h5
   refine d9 (Er:=Er) (Iv:=fun(s75:Int) (W76:Wd) (g77:St)=>g77=[some (.int Z08),some (.int Z0m),some (.int Z0f),some v4,some (.int s75),some (.int y15),some (.str (sOf y22)),some (.str (sOf s46))]∧Ext W0 W76) (aS (dz (aX (fun _=>by decide) (bu (EV.pk (a8 (R:=sh (isL isI)) h5)) ae)) ae)) (Res.okE_bind hq) ?_ ?_ ?_
   ·intro W56 N59 e57 hN60 hq
    have hs61:=e57.g
    have E0:=E0.trans e57
    have h5:=Mono.mono (R:=(isL isI)) e57.g h5
    refine dE (Er:=Er) (i:=4) (R:=sh isI) (σ':=fun v68=>[some (.int Z08),some (.int Z0m),some (.int Z0f),some v4,some v68,some (.int y15),some (.str (sOf y22)),some (.str (sOf s46))]) (bu (EVo.pk (cj (al (a8 (R:=sh isI) (a:=Z0m) (v:=.int Z0m) rfl) (al (cM ae ae) (al (cM (a8 (R:=sh isI) (a:=Z0m) (v:=.int Z0m) rfl) ae) (al (iG (r:=100000000000000000000) (by decide) (by decide)) (al (cM ae (a8 (R:=sh isI) (a:=Z0m) (v:=.int Z0m) rfl)) (ci (R:=isI))))))))) (aX (fun _=>by decide) (aX (fun _=>⟨by decide,by decide⟩) (bu (EV.pk (a8 (R:=sh (isL isI)) h5)) ae)))) ((Res.okE_bind hq).imp fun y67 hq v68 W62 e63 h69=>?_)
    cases h69
    have E0:=E0.trans e63
    have hs61:=hs61.trans e63.g
    have h5:=Mono.mono (R:=(isL isI)) e63.g h5
    exact hN60 y67 W62 _ hs61 ⟨rfl,E0⟩ hq
   ·intro W56 N59 e57 hN60 hq
    have hs70:=e57.g
    have E0:=E0.trans e57
    have h5:=Mono.mono (R:=(isL isI)) e57.g h5
    try dsimp only[aE]
    exact hN60 y9 W56 _ hs70 ⟨rfl,E0⟩ hq
   ·intro s71 W72 sg73 hS74 iv hq
    obtain⟨rfl,E0⟩:=iv
    have h5:=Mono.mono (R:=(isL isI)) hS74 h5
    refine d9 (Er:=Er) (Iv:=fun(s100:Int) (W101:Wd) (g102:St)=>g102=[some (.int Z08),some (.int Z0m),some (.int Z0f),some v4,some (.int s71),some (.int s100),some (.str (sOf y22)),some (.str (sOf s46))]∧Ext W0 W101) (aS (dz (aX (fun _=>by decide) (bu (EV.pk (a8 (R:=sh (isL isI)) h5)) ae)) ae)) (Res.okE_bind hq) ?_ ?_ ?_
    ·intro W81 N84 e82 hN85 hq
     have hs86:=e82.g
     have E0:=E0.trans e82
     have h5:=Mono.mono (R:=(isL isI)) e82.g h5
     refine dE (Er:=Er) (i:=5) (R:=sh isI) (σ':=fun v93=>[some (.int Z08),some (.int Z0m),some (.int Z0f),some v4,some (.int s71),some v93,some (.str (sOf y22)),some (.str (sOf s46))]) (bu (EVo.pk (cj (al (a8 (R:=sh isI) (a:=Z0f) (v:=.int Z0f) rfl) (al (cM ae ae) (al (cM ae (a8 (R:=sh isI) (a:=Z0f) (v:=.int Z0f) rfl)) (al (iG (r:=100000000000000000000) (by decide) (by decide)) (ci (R:=isI)))))))) (aX (fun _=>by decide) (aX (fun _=>⟨by decide,by decide⟩) (bu (EV.pk (a8 (R:=sh (isL isI)) h5)) ae)))) ((Res.okE_bind hq).imp fun y92 hq v93 W87 e88 h94=>?_)
     cases h94
     have E0:=E0.trans e88
     have hs86:=hs86.trans e88.g
     have h5:=Mono.mono (R:=(isL isI)) e88.g h5
     exact hN85 y92 W87 _ hs86 ⟨rfl,E0⟩ hq
    ·intro W81 N84 e82 hN85 hq
     have hs95:=e82.g
     have E0:=E0.trans e82
     have h5:=Mono.mono (R:=(isL isI)) e82.g h5
     try dsimp only[aE]
     exact hN85 y15 W81 _ hs95 ⟨rfl,E0⟩ hq
    ·intro s96 W97 sg98 hS99 iv hq
     obtain⟨rfl,E0⟩:=iv
     have h5:=Mono.mono (R:=(isL isI)) hS99 h5
     refine d9 (Er:=Er) (Iv:=fun(s125:Tx) (W126:Wd) (g127:St)=>g127=[some (.int Z08),some (.int Z0m),some (.int Z0f),some v4,some (.int s71),some (.int s96),some (.str (sOf s125)),some (.str (sOf s46))]∧Ext W0 W126) (aS (dz (aX (fun _=>by decide) (bu (EV.pk (a8 (R:=sh (isL isI)) h5)) ae)) ae)) (Res.okE_bind hq) ?_ ?_ ?_
     ·intro W106 N109 e107 hN110 hq
      have hs111:=e107.g
      have E0:=E0.trans e107
      have h5:=Mono.mono (R:=(isL isI)) e107.g h5
      refine dE (Er:=Er) (i:=6) (R:=sh isS) (σ':=fun v118=>[some (.int Z08),some (.int Z0m),some (.int Z0f),some v4,some (.int s71),some (.int s96),some v118,some (.str (sOf s46))]) (bu (EVo.pk (cj (al (ag (x:=Str.ofString "") (l:=[]) (bL _ _ (by decide +kernel))) (al (ag (x:=Str.ofString "Face") (l:=[70,97,99,101]) (bL _ _ (by decide +kernel))) (al (ag (x:=Str.ofString "faces") (l:=[102,97,99,101,115]) (bL _ _ (by decide +kernel))) (al (ag (x:=Str.ofString "top") (l:=[116,111,112]) (bL _ _ (by decide +kernel))) (al (ag (x:=Str.ofString "slan") (l:=[115,108,97,110]) (bL _ _ (by decide +kernel))) (al (ag (x:=Str.ofString "b") (l:=[98]) (bL _ _ (by decide +kernel))) (ci (R:=isS)))))))))) (aX (fun _=>by decide) (aX (fun _=>⟨by decide,by decide⟩) (bu (EV.pk (a8 (R:=sh (isL isI)) h5)) ae)))) ((Res.okE_bind hq).imp fun y117 hq v118 W112 e113 h119=>?_)
      cases h119
      have E0:=E0.trans e113
      have hs111:=hs111.trans e113.g
      have h5:=Mono.mono (R:=(isL isI)) e113.g h5
      exact hN110 y117 W112 _ hs111 ⟨rfl,E0⟩ hq
     ·intro W106 N109 e107 hN110 hq
      have hs120:=e107.g
      have E0:=E0.trans e107
      have h5:=Mono.mono (R:=(isL isI)) e107.g h5
      try dsimp only[aE]
      exact hN110 y22 W106 _ hs120 ⟨rfl,E0⟩ hq
     ·intro s121 W122 sg123 hS124 iv hq
      obtain⟨rfl,E0⟩:=iv
      have h5:=Mono.mono (R:=(isL isI)) hS124 h5
      refine d9 (Er:=Er) (Iv:=fun(s150:Tx) (W151:Wd) (g152:St)=>g152=[some (.int Z08),some (.int Z0m),some (.int Z0f),some v4,some (.int s71),some (.int s96),some (.str (sOf s121)),some (.str (sOf s150))]∧Ext W0 W151) (aS (dz (aX (fun _=>by decide) (bu (EV.pk (a8 (R:=sh (isL isI)) h5)) ae)) ae)) (Res.okE_bind hq) ?_ ?_ ?_
      ·intro W131 N134 e132 hN135 hq
       have hs136:=e132.g
       have E0:=E0.trans e132
       have h5:=Mono.mono (R:=(isL isI)) e132.g h5
       refine dE (Er:=Er) (i:=7) (R:=sh isS) (σ':=fun v143=>[some (.int Z08),some (.int Z0m),some (.int Z0f),some v4,some (.int s71),some (.int s96),some (.str (sOf s121)),some v143]) (bu (EVo.pk (cj (al (ag (x:=Str.ofString "") (l:=[]) (bL _ _ (by decide +kernel))) (al (ag (x:=Str.ofString "?") (l:=[63]) (bL _ _ (by decide +kernel))) (al (ag (x:=Str.ofString "A") (l:=[65]) (bL _ _ (by decide +kernel))) (al (ag (x:=Str.ofString "ab") (l:=[97,98]) (bL _ _ (by decide +kernel))) (al (ag (x:=Str.ofString "s") (l:=[115]) (bL _ _ (by decide +kernel))) (al (ag (x:=Str.ofString "x") (l:=[120]) (bL _ _ (by decide +kernel))) (al (ag (x:=Str.ofString "0") (l:=[48]) (bL _ _ (by decide +kernel))) (al (ag (x:=Str.ofString " ") (l:=[32]) (bL _ _ (by decide +kernel))) (al (ag (x:=Str.ofString "-") (l:=[45]) (bL _ _ (by decide +kernel))) (al (ag (x:=Str.ofString "Z") (l:=[90]) (bL _ _ (by decide +kernel))) (ci (R:=isS)))))))))))))) (aX (fun _=>by decide) (aX (fun _=>⟨by decide,by decide⟩) (bu (EV.pk (a8 (R:=sh (isL isI)) h5)) ae)))) ((Res.okE_bind hq).imp fun y142 hq v143 W137 e138 h144=>?_)
       cases h144
       have E0:=E0.trans e138
       have hs136:=hs136.trans e138.g
       have h5:=Mono.mono (R:=(isL isI)) e138.g h5
       exact hN135 y142 W137 _ hs136 ⟨rfl,E0⟩ hq
      ·intro W131 N134 e132 hN135 hq
       have hs145:=e132.g
       have E0:=E0.trans e132
       have h5:=Mono.mono (R:=(isL isI)) e132.g h5
       try dsimp only[aE]
       exact hN135 s46 W131 _ hs145 ⟨rfl,E0⟩ hq
      ·intro s146 W147 sg148 hS149 iv hq
       obtain⟨rfl,E0⟩:=iv
       have h5:=Mono.mono (R:=(isL isI)) hS149 h5
       refine cH (Er:=Er) (aS (dz (aX (fun _=>by decide) (bu (EV.pk (a8 (R:=sh (isL isI)) h5)) ae)) ae)) ((Res.okE_bind hq).imp fun y155 hq W156 e157=>?_)
       have E0:=E0.trans e157
       have h5:=Mono.mono (R:=(isL isI)) e157.g h5
       by_cases hb165:y155=true
       ·rw[if_pos hb165]at hq ⊢
        exact bP (Er:=Er) (R:=sh (isU K)) (fm (K:=K) (sK dn kQ kQ dn) (pM (K:=K) (ag (x:=Str.ofString "wear") (l:=[119,101,97,114]) (bL _ _ (by decide +kernel))) (a8 (R:=sh isI) (a:=s71) (v:=.int s71) rfl) (a8 (R:=sh isI) (a:=s96) (v:=.int s96) rfl) (a8 (R:=sh isS) (a:=s121) (v:=.str (sOf s121)) rfl))) (fun v158 W159 e160 h161=>hq v158 W159 (E0.trans e160) h161)
       ·rw[if_neg hb165]at hq ⊢
        try dsimp only[aE]
        exact bP (Er:=Er) (R:=sh (isU K)) (fm (K:=K) (sQ dn kQ kQ dn dn) (qd (K:=K) (ag (x:=Str.ofString "spot") (l:=[115,112,111,116]) (bL _ _ (by decide +kernel))) (a8 (R:=sh isI) (a:=s71) (v:=.int s71) rfl) (a8 (R:=sh isI) (a:=s96) (v:=.int s96) rfl) (a8 (R:=sh isS) (a:=s121) (v:=.str (sOf s121)) rfl) (a8 (R:=sh isS) (a:=s146) (v:=.str (sOf s146)) rfl))) (fun v162 W163 e164 h165=>hq v162 W163 (E0.trans e164) h165)
theorem ue {f:Addr} {fd:FuncData} (F:Fun K "_law_good" "_law_good" (tp 29) f fd) (h_len:mg "len" =none):FnOk P w K mg base CX0 (1) f fd ["_law_deed_here","_law_tall","_law_wide"] (eZ (isU K) isI isI (rs isB) (sU)):=by
 have SC:FnScope ["_law_deed_here","_law_tall","_law_wide"] ["_law_deed_here","_law_tall","_law_wide"] (defScope (tp 29)):=⟨rfl,rfl,rfl,by decide +kernel,rfl,by decide +kernel,by decide +kernel⟩
 refine F.ok SC (fun vs H Q E h=>?_) (fun cdv A outer s H vs Q E hr h=>?_)
 ·obtain⟨_,_,_,_,_,_,_,_,rfl,_⟩:=h;rfl
 ·obtain⟨W0,Z0g,Z0m,Z0f,Z0x,_,_,rfl,rfl,Z0e,Z3O,Z1B,Er,hq⟩:=h
  cases Z3O
  cases Z1B
  refine⟨_,(ad (bt (PW.pt (fD (aL iT (aw (aO (K:=K) rfl) (pv 0) ac (fun _ _=>rfl)) ac (aI _)) (fD (aL iU (aw (aO (K:=K) rfl) (pv 0) ac (fun _ _=>rfl)) (pv 1) (aI _)) (fD (aL iT (aw (aO (K:=K) rfl) (pv 0) ac (fun _ _=>rfl)) ac (aI _)) (fZ (aL iU (aw (aO (K:=K) rfl) (pv 0) ac (fun _ _=>rfl)) (pv 2) (aI _))))))) (ai (aU de)) aR)
   (ad (bt (PW.pt (fh (aL iS (aw (aO (K:=K) rfl) (pv 0) ac (fun _ _=>rfl)) aj (aI _)) (fh (aL iS (aw (aO (K:=K) rfl) (pv 0) ac (fun _ _=>rfl)) aj (aI _)) (eS (aL iS (aw (aO (K:=K) rfl) (pv 0) ac (fun _ _=>rfl)) aj (aI _)))))) (ai (aU de)) aR)
   (ad (bt (aL cv (aw (aO (K:=K) rfl) (pv 0) ac (fun _ _=>rfl)) aj (aI _)) (ai (aU de)) aR)
   (ad (bt (aL cv (aw (aO (K:=K) rfl) (pv 0) ac (fun _ _=>rfl)) aj (aI _)) (ai (aU (qB (cz cv (aw (aO (K:=K) rfl) (pv 0) ac (fun _ _=>rfl)) aj (aI _)) (qB (cz cv (aw (aO (K:=K) rfl) (pv 0) ac (fun _ _=>rfl)) aj (aI _)) (dO (cz cv (aw (aO (K:=K) rfl) (pv 0) ac (fun _ _=>rfl)) aj (aI _))))))) aR)
   (ai (aU (dP (cz cv (aq (cD (K:=K) rfl) (by rfl) h_len PySem.boot_len (a7 (aw (aO (K:=K) rfl) (pv 0) ac (fun _ _=>rfl)) a9)) ac (aI _)) (dO (cz lw (aw (aO (K:=K) rfl) (pv 0) ac (fun _ _=>rfl)) aj (by with_unfolding_all rfl)))))))))),?_⟩
  have E0:Ext W0 W0:=.refl W0
  rw[show L2.start ["_law_deed_here","_law_tall","_law_wide"] [Z0x,.int Z0m,.int Z0f]=[some Z0x,some (.int Z0m),some (.int Z0f)]from rfl]
  unfold sU at hq
  refine cH (Er:=Er) (hX (aS (d5 (b9 (K:=K) di (aY (a8 (R:=sh (isU K)) Z0e) ae)) ae)) (hX (aS (d5 (b9 (K:=K) di (aY (a8 (R:=sh (isU K)) Z0e) ae)) (a8 (R:=sh isI) (a:=Z0m) (v:=.int Z0m) rfl))) (hX (aS (d5 (b9 (K:=K) di (aY (a8 (R:=sh (isU K)) Z0e) ae)) ae)) (aS (d5 (b9 (K:=K) di (aY (a8 (R:=sh (isU K)) Z0e) ae)) (a8 (R:=sh isI) (a:=Z0f) (v:=.int Z0f) rfl)))))) ((Res.okE_bind hq).imp fun y12 hq W13 e14=>?_)
  have E0:=E0.trans e14
  have Z0e:=Mono.mono (R:=(isU K)) e14.g Z0e
  by_cases hb70:y12=true
  ·rw[if_pos hb70]at hq ⊢
   exact bP (Er:=Er) (R:=sh isB) gm (fun v15 W16 e17 h18=>hq v15 W16 (E0.trans e17) h18)
  ·rw[if_neg hb70]at hq ⊢
   try dsimp only[aE]
   refine cH (Er:=Er) (iC (aS (iA (b9 (K:=K) cV (aY (a8 (R:=sh (isU K)) Z0e) ae)) (ag (x:=Str.ofString "face") (l:=[102,97,99,101]) (bL _ _ (by decide +kernel))))) (iC (aS (iA (b9 (K:=K) cV (aY (a8 (R:=sh (isU K)) Z0e) ae)) (ag (x:=Str.ofString "back") (l:=[98,97,99,107]) (bL _ _ (by decide +kernel))))) (aS (iA (b9 (K:=K) cV (aY (a8 (R:=sh (isU K)) Z0e) ae)) (ag (x:=Str.ofString "slant") (l:=[115,108,97,110,116]) (bL _ _ (by decide +kernel))))))) ((Res.okE_bind hq).imp fun y27 hq W28 e29=>?_)
   have E0:=E0.trans e29
   have Z0e:=Mono.mono (R:=(isU K)) e29.g Z0e
   by_cases hb70:y27=true
   ·rw[if_pos hb70]at hq ⊢
    exact bP (Er:=Er) (R:=sh isB) gm (fun v30 W31 e32 h33=>hq v30 W31 (E0.trans e32) h33)
   ·rw[if_neg hb70]at hq ⊢
    try dsimp only[aE]
    refine cH (Er:=Er) (aS (dA (b9 (K:=K) cV (aY (a8 (R:=sh (isU K)) Z0e) ae)) (ag (x:=Str.ofString "wear") (l:=[119,101,97,114]) (bL _ _ (by decide +kernel))))) ((Res.okE_bind hq).imp fun y36 hq W37 e38=>?_)
    have E0:=E0.trans e38
    have Z0e:=Mono.mono (R:=(isU K)) e38.g Z0e
    by_cases hb70:y36=true
    ·rw[if_pos hb70]at hq ⊢
     exact bP (Er:=Er) (R:=sh isB) gm (fun v39 W40 e41 h42=>hq v39 W40 (E0.trans e41) h42)
    ·rw[if_neg hb70]at hq ⊢
     try dsimp only[aE]
     refine cH (Er:=Er) (aS (dA (b9 (K:=K) cV (aY (a8 (R:=sh (isU K)) Z0e) ae)) (ag (x:=Str.ofString "slant") (l:=[115,108,97,110,116]) (bL _ _ (by decide +kernel))))) ((Res.okE_bind hq).imp fun y45 hq W46 e47=>?_)
     have E0:=E0.trans e47
     have Z0e:=Mono.mono (R:=(isU K)) e47.g Z0e
     by_cases hb70:y45=true
     ·rw[if_pos hb70]at hq ⊢
      exact bP (Er:=Er) (R:=sh isB) (qE (dA (b9 (K:=K) cV (aY (a8 (R:=sh (isU K)) Z0e) ae)) (ag (x:=Str.ofString "s") (l:=[115]) (bL _ _ (by decide +kernel)))) (qE (dA (b9 (K:=K) cV (aY (a8 (R:=sh (isU K)) Z0e) ae)) (ag (x:=Str.ofString "z") (l:=[122]) (bL _ _ (by decide +kernel)))) (dA (b9 (K:=K) cV (aY (a8 (R:=sh (isU K)) Z0e) ae)) (ag (x:=Str.ofString "o") (l:=[111]) (bL _ _ (by decide +kernel)))))) (Res.OkE.imp hq fun y56 hq v57 W58 e59 h60=>hq v57 W58 (E0.trans e59) h60)
     ·rw[if_neg hb70]at hq ⊢
      try dsimp only[aE]
      exact bP (Er:=Er) (R:=sh isB) (iD (dz (pL (aY (a8 (R:=sh (isU K)) Z0e) ae)) ae) (rk (b9 (K:=K) cV (aY (a8 (R:=sh (isU K)) Z0e) ae)) (ag (x:=Str.ofString "abcdefghijklmnopqrstuvwxyz") (l:=[97,98,99,100,101,102,103,104,105,106,107,108,109,110,111,112,113,114,115,116,117,118,119,120,121,122]) (bL _ _ (by decide +kernel))))) (Res.OkE.imp hq fun y66 hq v67 W68 e69 h70=>hq v67 W68 (E0.trans e69) h70)
theorem fu {f:Addr} {fd:FuncData} (F:Fun K "check" "Fragment.check" (tq 22 3) f fd) {Z05 Z0j Z0h Z09 Z0i Z0a Z0b Z0c Z02 Z0k Z04 Z06 Z0l:Addr} {Z00:Addr} (Z0d:Cls K Z00) (n_Fragment_picks:NoAttr K Z00 "picks") (h_len:mg "len" =none) {Z0R:Addr} (Z1w:mg "SIDES" =some (.ref Z0R)) (Z1x:∀H,SqT K H Z0R [.str (Str.ofString "face"),.str (Str.ofString "back"),.str (Str.ofString "slant")]) (Z0D:mg "BadMark" =some (.ref Z09)) (Z0K:Ecl base Z09):FnOk P w K mg base (i6 P w) (1) f fd ["self","pick","k","side"] (nX (isO1 Z00 "picks" (isL (isL (isT3 K isS isS isS)))) isI isI isS [Z05,Z0j,Z0h,Z09,Z0i,Z0a,Z0b,Z0c,Z02,Z0k,Z04,Z06,Z0l] (rs isN) (bJ)):=by
 have SC:FnScope ["self","pick","k","side"] ["self","pick","k","side"] (defScope (tq 22 3)):=⟨rfl,rfl,rfl,by decide +kernel,rfl,by decide +kernel,by decide +kernel⟩
 refine F.okR SC (fun vs H Q E h=>?_) (fun cdv A outer s H vs Q E hr h=>?_)
 ·obtain⟨_,_,_,_,_,_,_,_,_,_,rfl,_⟩:=h;rfl
 ·obtain⟨W0,self,pick,k,side,Z0o,_,_,_,rfl,rfl,Z0M,Z0J,z_k,Z0E,Er,hEr,hq⟩:=h
  cases Z0J
  cases z_k
  cases Z0E
  refine⟨_,(ad (bt (PW.pt (fD (aL iT (pv 1) ac (aI _)) (fZ (aL iU (pv 1) (aq (cD (K:=K) rfl) (by rfl) h_len PySem.boot_len (a7 (eI (pv 0) rfl) a9)) (aI _))))) (ai (f9 Z0K (by rfl) Z0D (a7 (fo (jN (jO (pv 1) jM))) a9))) aR)
   (ad (bt (PW.pt (fD (aL iT (pv 2) ac (aI _)) (fZ (aL iU (pv 2) (aq (cD (K:=K) rfl) (by rfl) h_len PySem.boot_len (a7 (aw (au (K:=K) rfl) (eI (pv 0) rfl) (pv 1) (fun _ _=>rfl)) a9)) (aI _))))) (ai (f9 Z0K (by rfl) Z0D (a7 (fo (jN (jO (pv 2) jM))) a9))) aR)
   (ai (bt (aL (gJ (K:=K) rfl) (pv 3) (bd (v:=.ref _) (by rfl) Z1w rfl) (by with_unfolding_all rfl)) (ai (f9 Z0K (by rfl) Z0D (a7 aj a9))) aR)))),?_⟩
  have E0:Ext W0 W0:=.refl W0
  rw[show L2.start ["self","pick","k","side"] [Z0o,.int pick,.int k,.str (sOf side)]=[some Z0o,some (.int pick),some (.int k),some (.str (sOf side))]from rfl]
  unfold bJ at hq
  refine cH (Er:=Er) (hX (aS (d5 (a8 (R:=sh isI) (a:=pick) (v:=.int pick) rfl) ae)) (aS (d5 (a8 (R:=sh isI) (a:=pick) (v:=.int pick) rfl) (kM (EV.pk (dX Z0d n_Fragment_picks (a8 (R:=sh (isO1 Z00 "picks" (isL (isL (isT3 K isS isS isS))))) Z0M))))))) ((Res.okE_bind hq).imp fun y1 hq W2 e3=>?_)
  have E0:=E0.trans e3
  have Z0M:=Mono.mono (R:=(isO1 Z00 "picks" (isL (isL (isT3 K isS isS isS))))) e3.g Z0M
  by_cases hb18:y1=true
  ·rw[if_pos hb18]at hq ⊢
   exact fc (Er:=Er) (j:=3) (hEr.mono E0) rfl (fq (jQ (x:=Str.ofString "there is no pick ") (l:=[116,104,101,114,101,32,105,115,32,110,111,32,112,105,99,107,32]) (bL _ _ (by decide +kernel)) (kX (a8 (R:=sh isI) (a:=pick) (v:=.int pick) rfl) jP))) hq
  ·rw[if_neg hb18]at hq ⊢
   try dsimp only[aE]
   refine cH (Er:=Er) (hX (aS (d5 (a8 (R:=sh isI) (a:=k) (v:=.int k) rfl) ae)) (aS (d5 (a8 (R:=sh isI) (a:=k) (v:=.int k) rfl) (kM (EV.pk (bu (EV.pk (dX Z0d n_Fragment_picks (a8 (R:=sh (isO1 Z00 "picks" (isL (isL (isT3 K isS isS isS))))) Z0M))) (a8 (R:=sh isI) (a:=pick) (v:=.int pick) rfl))))))) ((Res.okE_bind hq).imp fun y10 hq W11 e12=>?_)
   have E0:=E0.trans e12
   have Z0M:=Mono.mono (R:=(isO1 Z00 "picks" (isL (isL (isT3 K isS isS isS))))) e12.g Z0M
   by_cases hb18:y10=true
   ·rw[if_pos hb18]at hq ⊢
    exact fc (Er:=Er) (j:=3) (hEr.mono E0) rfl (fq (jQ (x:=Str.ofString "there is no tablet ") (l:=[116,104,101,114,101,32,105,115,32,110,111,32,116,97,98,108,101,116,32]) (bL _ _ (by decide +kernel)) (kX (a8 (R:=sh isI) (a:=k) (v:=.int k) rfl) jP))) hq
   ·rw[if_neg hb18]at hq ⊢
    try dsimp only[aE]
    refine qF (Er:=Er) (aS (jX (a8 (R:=sh isS) (a:=side) (v:=.str (sOf side)) rfl) (gy Z1x (gS _ [102,97,99,101] (by decide +kernel)) (gS _ [98,97,99,107] (by decide +kernel)) (gS _ [115,108,97,110,116] (by decide +kernel))))) (fun W17 e18=>?_)
    have E0:=E0.trans e18
    by_cases hb18:(![([102,97,99,101],[98,97,99,107],[115,108,97,110,116]).1,([102,97,99,101],[98,97,99,107],[115,108,97,110,116]).2.1,([102,97,99,101],[98,97,99,107],[115,108,97,110,116]).2.2].contains side)=true
    ·rw[if_pos hb18]at hq ⊢
     exact fc (Er:=Er) (j:=3) (hEr.mono E0) rfl (ag (x:=Str.ofString "a side is face, back or slant") (l:=[97,32,115,105,100,101,32,105,115,32,102,97,99,101,44,32,98,97,99,107,32,111,114,32,115,108,97,110,116]) (bL _ _ (by decide +kernel))) hq
    ·rw[if_neg hb18]at hq ⊢
     try dsimp only[aE]
     exact hq .non W17 E0 rfl
theorem uf {f:Addr} {fd:FuncData} (F:Fun K "is_colour" "is_colour" (tp 16) f fd) (h_len:mg "len" =none):FnOk P w K mg base CX0 (1) f fd ["text"] (eP isS (rs isB) (tt)):=by
 have SC:FnScope ["text"] ["text"] (defScope (tp 16)):=⟨rfl,rfl,rfl,by decide +kernel,rfl,by decide +kernel,by decide +kernel⟩
 refine F.ok SC (fun vs H Q E h=>?_) (fun cdv A outer s H vs Q E hr h=>?_)
 ·obtain⟨_,_,_,_,rfl,_⟩:=h;rfl
 ·obtain⟨W0,text,_,rfl,rfl,Z9u,Er,hq⟩:=h
  cases Z9u
  refine⟨_,(ai (aU (dP (cz cv (aq (cD (K:=K) rfl) (by rfl) h_len PySem.boot_len (a7 (pv 0) a9)) ac (aI _)) (dO (mI hR hR aj (pv 0) aj))))),?_⟩
  have E0:Ext W0 W0:=.refl W0
  rw[show L2.start ["text"] [.str (sOf text)]=[some (.str (sOf text))]from rfl]
  unfold tt at hq
  exact bP (Er:=Er) (R:=sh isB) (iD (dz (pF (a8 (R:=sh isS) (a:=text) (v:=.str (sOf text)) rfl)) ae) (lP (ag (x:=Str.ofString "a") (l:=[97]) (bL _ _ (by decide +kernel))) (a8 (R:=sh isS) (a:=text) (v:=.str (sOf text)) rfl) (ag (x:=Str.ofString "z") (l:=[122]) (bL _ _ (by decide +kernel))))) (Res.OkE.imp hq fun y3 hq v4 W5 e6 h7=>hq v4 W5 (E0.trans e6) h7)
theorem ug {f:Addr} {fd:FuncData} (F:Fun K "fits" "fits" (tp 21) f fd) {qm:Tx→Res Bool} (Z1Z:Cal P w K mg base "is_colour" ["text"] (1) (eP isS (rs isB) qm)) {Z0I:Addr} (Z1g:mg "SLANT_SIGNS" =some (.ref Z0I)) (Z1h:∀H,SqT K H Z0I [.str (Str.ofString "s"),.str (Str.ofString "z"),.str (Str.ofString "o")]):FnOk P w K mg base CX0 (2) f fd ["side","sign"] (gv isS isS (rs isB) (tu qm)):=by
 have SC:FnScope ["side","sign"] ["side","sign"] (defScope (tp 21)):=⟨rfl,rfl,rfl,by decide +kernel,rfl,by decide +kernel,by decide +kernel⟩
 refine F.ok SC (fun vs H Q E h=>?_) (fun cdv A outer s H vs Q E hr h=>?_)
 ·obtain⟨_,_,_,_,_,_,rfl,_⟩:=h;rfl
 ·obtain⟨W0,side,sign,_,_,rfl,rfl,Z0E,Z0Z,Er,hq⟩:=h
  cases Z0E
  cases Z0Z
  refine⟨_,(ai (aU (mD (aL cv (pv 0) aj (aI _)) (cz (jC (K:=K) rfl) (pv 1) (bd (v:=.ref _) (by rfl) Z1g rfl) (by with_unfolding_all rfl)) (bw Z1Z (hr.mono (by decide)) (by rfl) (a7 (pv 1) a9))))),?_⟩
  have E0:Ext W0 W0:=.refl W0
  rw[show L2.start ["side","sign"] [.str (sOf side),.str (sOf sign)]=[some (.str (sOf side)),some (.str (sOf sign))]from rfl]
  unfold tu at hq
  exact bP (Er:=Er) (R:=sh isB) (sC (aS (dA (a8 (R:=sh isS) (a:=side) (v:=.str (sOf side)) rfl) (ag (x:=Str.ofString "slant") (l:=[115,108,97,110,116]) (bL _ _ (by decide +kernel))))) (pS (a8 (R:=sh isS) (a:=sign) (v:=.str (sOf sign)) rfl) (gy Z1h (gS _ [115] (by decide +kernel)) (gS _ [122] (by decide +kernel)) (gS _ [111] (by decide +kernel)))) (nr (a8 (R:=sh isS) (a:=sign) (v:=.str (sOf sign)) rfl))) (Res.OkE.imp hq fun y1 hq v2 W3 e4 h5=>hq v2 W3 (E0.trans e4) h5)
theorem gF {f:Addr} {fd:FuncData} (F:Fun K "put" "Fragment.put" (tq 22 4) f fd) {Z05 Z0j Z0h Z09 Z0i Z0a Z0b Z0c Z02 Z0k Z04 Z06 Z0l:Addr} {Z00:Addr} (Z0d:Cls K Z00) (n_Fragment_picks:NoAttr K Z00 "picks") (h_list:mg "list" =none) (h_tuple:mg "tuple" =none) {Z0R:Addr} (Z1w:mg "SIDES" =some (.ref Z0R)) (Z1x:∀H,SqT K H Z0R [.str (Str.ofString "face"),.str (Str.ofString "back"),.str (Str.ofString "slant")]):FnOk P w K mg base (i6 P w) (1) f fd ["self","pick","k","side","sign"] (lW (oO1 Z00 "picks" (oL (oL (fz (isT3 K isS isS isS))))) (aC isI (aC isI (aC isS (aC isS aN)))) [Z05,Z0j,Z0h,Z09,Z0i,Z0a,Z0b,Z0c,Z02,Z0k,Z04,Z06,Z0l] isS (fun st a=>cm st a.1 a.2.1 a.2.2.1 a.2.2.2.1)):=by
 have SC:FnScope ["self","pick","k","side","sign","signs","at","before"] ["self","pick","k","side","sign"] (defScope (tq 22 4)):=⟨rfl,rfl,rfl,by decide +kernel,rfl,by decide +kernel,by decide +kernel⟩
 refine F.okR SC (fun vs H Q E h=>?_) (fun cdv A outer s H vs Q E hr h=>?_)
 ·obtain⟨_,_,_,_,_,_,us,_,rfl,_,_,_,ra,_⟩:=h;obtain⟨_,us,rfl,_,ra⟩:=ra;obtain⟨_,us,rfl,_,ra⟩:=ra;obtain⟨_,us,rfl,_,ra⟩:=ra;obtain⟨_,us,rfl,_,ra⟩:=ra;cases ra;rfl
 ·obtain⟨W0,W,F,self,Z0o,aa,us,rfl,rfl,E0,nF,Z36,ra,Er,hEr,hq⟩:=h
  obtain⟨pick,k,side,sign,_⟩:=aa
  obtain⟨Z37,us,rfl,Z0J,ra⟩:=ra
  replace Z0J:isI W.G pick Z37:=Z0J
  obtain⟨v_k,us,rfl,z_k,ra⟩:=ra
  replace z_k:isI W.G k v_k:=z_k
  obtain⟨Z38,us,rfl,Z0E,ra⟩:=ra
  replace Z0E:isS W.G side Z38:=Z0E
  obtain⟨Z53,us,rfl,Z0Z,ra⟩:=ra
  replace Z0Z:isS W.G sign Z53:=Z0Z
  cases ra
  replace hq:(cm self pick k side sign).OkE Er (EndO W0 W (oO1 Z00 "picks" (oL (oL (fz (isT3 K isS isS isS))))) isS Z0o Q):=hq
  cases Z0J
  cases z_k
  cases Z0E
  cases Z0Z
  refine⟨_,(ad (aG (i:=5) SC.nd rfl (by first | exact Or.inl rfl | exact Or.inr rfl) (ef (eE (K:=K) rfl) (by rfl) h_list PyProof.Rows.boot_list (a7 (aw (au (K:=K) rfl) (aw (au (K:=K) rfl) (eI (pv 0) rfl) (pv 1) (fun _ _=>rfl)) (pv 2) (fun _ _=>rfl)) a9)))
   (ad (aG (i:=6) SC.nd rfl (by first | exact Or.inl rfl | exact Or.inr rfl) (iw (K:=K) rfl PySem.F.plainAttrs_tuple PySem.F.slot_tuple_index PySem.F.type_tuple_index (lZ (K:=K) rfl) (bd (v:=.ref _) (by rfl) Z1w rfl) (a7 (pv 3) a9)))
   (ad (aG (i:=7) SC.nd rfl (by first | exact Or.inl rfl | exact Or.inr rfl) (aw (au (K:=K) rfl) (pv 5) (pv 6) (fun _ _=>rfl)))
   (ad (ik (pv 4) (ij (pv 5) (pv 6) eV))
   (ad (ik (ef (dW (K:=K) rfl) (by rfl) h_tuple PyProof.Rows.boot_tuple (a7 (pv 5) a9)) (ij (aw (au (K:=K) rfl) (eI (pv 0) rfl) (pv 1) (fun _ _=>rfl)) (pv 2) eV))
   (ai (aU (pv 7)))))))),?_⟩
  have hS0:Same W.G W.G:=.refl _
  have EW:Ext W W:=.refl _
  have S:Sep W0 W [tc (oO1 Z00 "picks" (oL (oL (fz (isT3 K isS isS isS))))) self Z0o]:=Sep.one Z36 nF
  rw[show L2.start ["self","pick","k","side","sign","signs","at","before"] [Z0o,.int pick,.int k,.str (sOf side),.str (sOf sign)]=[some Z0o,some (.int pick),some (.int k),some (.str (sOf side)),some (.str (sOf sign)),none,none,none]from rfl]
  unfold cm at hq
  refine cY (Er:=Er) (i:=5) (σ':=fun v4=>[some Z0o,some (.int pick),some (.int k),some (.str (sOf side)),some (.str (sOf sign)),some v4,none,none]) S E0 (EVo.tr (on (K:=K) (iJ (eo (eo (oi Z0d n_Fragment_picks (fU (R:=(oO1 Z00 "picks" (oL (oL (fz (isT3 K isS isS isS)))))) (k:=0) S)) (a8 (R:=sh isI) (a:=pick) (v:=.int pick) rfl)) (a8 (R:=sh isI) (a:=k) (v:=.int k) rfl))))) ((Res.okE_bind hq).imp fun y3 hq v4 W5 e6 S=>?_)
  have E0:=E0.trans e6
  have EW:=EW.trans e6
  have hS0:=hS0.trans e6.g
  have S:Sep W0 W5 [tc (oO1 Z00 "picks" (oL (oL (fz (isT3 K isS isS isS))))) self Z0o,tc (oL (fz isS)) y3 v4]:=S
  refine aF (Er:=Er) (i:=6) (R:=sh isI) (σ':=fun v10=>[some Z0o,some (.int pick),some (.int k),some (.str (sOf side)),some (.str (sOf sign)),some v4,some v10,none]) (m9 (gy Z1x (gS _ [102,97,99,101] (by decide +kernel)) (gS _ [98,97,99,107] (by decide +kernel)) (gS _ [115,108,97,110,116] (by decide +kernel))) (a8 (R:=sh isS) (a:=side) (v:=.str (sOf side)) rfl)) ((Res.okE_bind hq).imp fun y9 hq v10 W7 e8 h11=>?_)
  cases h11
  have S:=S.ext e8
  have E0:=E0.trans e8
  have EW:=EW.trans e8
  have hS0:=hS0.trans e8.g
  refine aF (Er:=Er) (i:=7) (R:=sh isS) (σ':=fun v15=>[some Z0o,some (.int pick),some (.int k),some (.str (sOf side)),some (.str (sOf sign)),some v4,some (.int y9),some v15]) (iJ (eo (fU (R:=(oL (fz isS))) (k:=1) S) (a8 (R:=sh isI) (a:=y9) (v:=.int y9) rfl))) ((Res.okE_bind hq).imp fun y14 hq v15 W12 e13 h16=>?_)
  cases h16
  have S:=S.ext e13
  have E0:=E0.trans e13
  have EW:=EW.trans e13
  have hS0:=hS0.trans e13.g
  refine lT (Er:=Er) (R:=isS) (C:=fun bb=>[tc (oO1 Z00 "picks" (oL (oL (fz (isT3 K isS isS isS))))) self Z0o,tc (oL (fz isS)) bb v4]) (k:=1) (i:=5) S E0 (a8 (R:=sh isS) (a:=sign) (v:=.str (sOf sign)) rfl) (a8 (R:=sh isI) (a:=y9) (v:=.int y9) rfl) ((Res.okE_bind hq).imp fun y17 hq W18 hS19 E0 S=>?_)
  have S:Sep W0 W18 [tc (oO1 Z00 "picks" (oL (oL (fz (isT3 K isS isS isS))))) self Z0o,tc (oL (fz isS)) y17 v4]:=S
  have hS0:=hS0.trans hS19
  refine i9 (Er:=Er) (R:=(isT3 K isS isS isS)) E0 (j6 (pU (fU (R:=(oL (fz isS))) (k:=1) S))) (jb (rD Z0d n_Fragment_picks (ft (R:=(oO1 Z00 "picks" (oL (oL (fz (isT3 K isS isS isS)))))) (C:=fun bb=>[tc (oO1 Z00 "picks" (oL (oL (fz (isT3 K isS isS isS))))) bb Z0o,tc (oL (fz isS)) y17 v4]) (k:=0) S E0)) (a8 (R:=sh isI) (a:=pick) (v:=.int pick) rfl)) (a8 (R:=sh isI) (a:=k) (v:=.int k) rfl) ((Res.okE_bind hq).imp fun y22 hq W23 hS24 E0 S=>?_)
  have S:Sep W0 W23 [tc (oO1 Z00 "picks" (oL (oL (fz (isT3 K isS isS isS))))) y22 Z0o,tc (oL (fz isS)) y17 v4]:=S
  have hS0:=hS0.trans hS24
  exact ib (Er:=Er) (k:=0) S rfl E0 hS0 (a8 (R:=sh isS) (a:=y14) (v:=.str (sOf y14)) rfl) hq
theorem fN {f:Addr} {fd:FuncData} (F:Fun K "spot" "Fragment.spot" (tq 22 1) f fd) {ak:(List (List (Tx×Tx×Tx)))→Int→Int→Tx→Res Unit} {p6:Tx→Tx→Res Bool} {ao:(List (List (Tx×Tx×Tx)))→Int→Int→Tx→Tx→Res ((List (List (Tx×Tx×Tx)))×Tx)} {Z05 Z0j Z0h Z09 Z0i Z0a Z0b Z0c Z02 Z0k Z04 Z06 Z0l:Addr} {Z00:Addr} (C_Fragment_check:CalM P w K mg base (i6 P w) Z00 "check" ["self","pick","k","side"] (1) (nX (isO1 Z00 "picks" (isL (isL (isT3 K isS isS isS)))) isI isI isS [Z05,Z0j,Z0h,Z09,Z0i,Z0a,Z0b,Z0c,Z02,Z0k,Z04,Z06,Z0l] (rs isN) ak)) (Z54:Cal P w K mg base "fits" ["side","sign"] (2) (gv isS isS (rs isB) p6)) (C_Fragment_put:CalM P w K mg base (i6 P w) Z00 "put" ["self","pick","k","side","sign"] (1) (lW (oO1 Z00 "picks" (oL (oL (fz (isT3 K isS isS isS))))) (aC isI (aC isI (aC isS (aC isS aN)))) [Z05,Z0j,Z0h,Z09,Z0i,Z0a,Z0b,Z0c,Z02,Z0k,Z04,Z06,Z0l] isS (fun st a=>ao st a.1 a.2.1 a.2.2.1 a.2.2.2.1))) (Z0d:Cls K Z00) (n_Fragment_picks:NoAttr K Z00 "picks") (Z0D:mg "BadMark" =some (.ref Z09)) (Z0K:Ecl base Z09):FnOk P w K mg base (i6 P w) (3) f fd ["self","pick","k","side","sign"] (lW (oO1 Z00 "picks" (oL (oL (fz (isT3 K isS isS isS))))) (aC isI (aC isI (aC isS (aC isS aN)))) [Z05,Z0j,Z0h,Z09,Z0i,Z0a,Z0b,Z0c,Z02,Z0k,Z04,Z06,Z0l] isS (fun st a=>bx ak p6 ao st a.1 a.2.1 a.2.2.1 a.2.2.2.1)):=by
 have SC:FnScope ["self","pick","k","side","sign"] ["self","pick","k","side","sign"] (defScope (tq 22 1)):=⟨rfl,rfl,rfl,by decide +kernel,rfl,by decide +kernel,by decide +kernel⟩
 refine F.okR SC (fun vs H Q E h=>?_) (fun cdv A outer s H vs Q E hr h=>?_)
 ·obtain⟨_,_,_,_,_,_,us,_,rfl,_,_,_,ra,_⟩:=h;obtain⟨_,us,rfl,_,ra⟩:=ra;obtain⟨_,us,rfl,_,ra⟩:=ra;obtain⟨_,us,rfl,_,ra⟩:=ra;obtain⟨_,us,rfl,_,ra⟩:=ra;cases ra;rfl
 ·obtain⟨W0,W,F,self,Z0o,aa,us,rfl,rfl,E0,nF,Z36,ra,Er,hEr,hq⟩:=h
  obtain⟨pick,k,side,sign,_⟩:=aa
  obtain⟨Z37,us,rfl,Z0J,ra⟩:=ra
  replace Z0J:isI W.G pick Z37:=Z0J
  obtain⟨v_k,us,rfl,z_k,ra⟩:=ra
  replace z_k:isI W.G k v_k:=z_k
  obtain⟨Z38,us,rfl,Z0E,ra⟩:=ra
  replace Z0E:isS W.G side Z38:=Z0E
  obtain⟨Z53,us,rfl,Z0Z,ra⟩:=ra
  replace Z0Z:isS W.G sign Z53:=Z0Z
  cases ra
  replace hq:(bx ak p6 ao self pick k side sign).OkE Er (EndO W0 W (oO1 Z00 "picks" (oL (oL (fz (isT3 K isS isS isS))))) isS Z0o Q):=hq
  cases Z0J
  cases z_k
  cases Z0E
  cases Z0Z
  refine⟨_,(ad (dv (dt C_Fragment_check kW (hr.mono (by decide)) (pv 0) (a7 (pv 1) (a7 (pv 2) (a7 (pv 3) a9)))))
   (ad (bt (du (cw (bw Z54 (hr.mono (by decide)) (by rfl) (a7 (pv 3) (a7 (pv 4) a9))))) (ai (f9 Z0K (by rfl) Z0D (a7 (fo (jN (jO (pv 3) jM))) a9))) aR)
   (ai (aU (dt C_Fragment_put kW (hr.mono (by decide)) (pv 0) (a7 (pv 1) (a7 (pv 2) (a7 (pv 3) (a7 (pv 4) a9))))))))),?_⟩
  have hS0:Same W.G W.G:=.refl _
  have EW:Ext W W:=.refl _
  have S:Sep W0 W [tc (oO1 Z00 "picks" (oL (oL (fz (isT3 K isS isS isS))))) self Z0o]:=Sep.one Z36 nF
  rw[show L2.start ["self","pick","k","side","sign"] [Z0o,.int pick,.int k,.str (sOf side),.str (sOf sign)]=[some Z0o,some (.int pick),some (.int k),some (.str (sOf side)),some (.str (sOf sign))]from rfl]
  unfold bx at hq
  refine gD (Er:=Er) (je (R:=(oO1 Z00 "picks" (oL (oL (fz (isT3 K isS isS isS)))))) 0 S E0 rfl (hEr.mono EW) fun W3 hS4 _ _ h5 hE6=>((om hE6 (a8 (R:=sh (isO1 Z00 "picks" (isL (isL (isT3 K isS isS isS))))) h5) (a8 (R:=sh isI) (a:=pick) (v:=.int pick) rfl) (a8 (R:=sh isI) (a:=k) (v:=.int k) rfl) (a8 (R:=sh isS) (a:=side) (v:=.str (sOf side)) rfl)))) ((Res.okE_bind hq).imp fun _ hq W1 e2=>?_)
  have S:=S.ext e2
  have E0:=E0.trans e2
  have EW:=EW.trans e2
  have hS0:=hS0.trans e2.g
  refine cH (Er:=Er) (gu (j4 (d6 (a8 (R:=sh isS) (a:=side) (v:=.str (sOf side)) rfl) (a8 (R:=sh isS) (a:=sign) (v:=.str (sOf sign)) rfl)))) ((Res.okE_bind hq).imp fun y8 hq W9 e10=>?_)
  have S:=S.ext e10
  have E0:=E0.trans e10
  have EW:=EW.trans e10
  have hS0:=hS0.trans e10.g
  by_cases hb14:y8=true
  ·rw[if_pos hb14]at hq ⊢
   exact fc (Er:=Er) (j:=3) (hEr.mono EW) rfl (fq (jQ (x:=Str.ofString "no such sign stands on the ") (l:=[110,111,32,115,117,99,104,32,115,105,103,110,32,115,116,97,110,100,115,32,111,110,32,116,104,101,32]) (bL _ _ (by decide +kernel)) (pQ (a8 (R:=sh isS) (a:=side) (v:=.str (sOf side)) rfl) jP))) hq
  ·rw[if_neg hb14]at hq ⊢
   try dsimp only[aE]
   exact l7 (Er:=Er) (k:=0) (i:=0) (l6 (by decide)) S E0 hS0 rfl rfl (by simp) (bj (a8 (R:=sh isI) (a:=pick) (v:=.int pick) rfl) (bj (a8 (R:=sh isI) (a:=k) (v:=.int k) rfl) (bj (a8 (R:=sh isS) (a:=side) (v:=.str (sOf side)) rfl) (bj (a8 (R:=sh isS) (a:=sign) (v:=.str (sOf sign)) rfl) ff)))) (hEr.mono EW) hq
theorem fP {f:Addr} {fd:FuncData} (F:Fun K "wear" "Fragment.wear" (tq 22 2) f fd) {ak:(List (List (Tx×Tx×Tx)))→Int→Int→Tx→Res Unit} {ao:(List (List (Tx×Tx×Tx)))→Int→Int→Tx→Tx→Res ((List (List (Tx×Tx×Tx)))×Tx)} {Z05 Z0j Z0h Z09 Z0i Z0a Z0b Z0c Z02 Z0k Z04 Z06 Z0l:Addr} {Z00:Addr} (C_Fragment_check:CalM P w K mg base (i6 P w) Z00 "check" ["self","pick","k","side"] (1) (nX (isO1 Z00 "picks" (isL (isL (isT3 K isS isS isS)))) isI isI isS [Z05,Z0j,Z0h,Z09,Z0i,Z0a,Z0b,Z0c,Z02,Z0k,Z04,Z06,Z0l] (rs isN) ak)) (C_Fragment_put:CalM P w K mg base (i6 P w) Z00 "put" ["self","pick","k","side","sign"] (1) (lW (oO1 Z00 "picks" (oL (oL (fz (isT3 K isS isS isS))))) (aC isI (aC isI (aC isS (aC isS aN)))) [Z05,Z0j,Z0h,Z09,Z0i,Z0a,Z0b,Z0c,Z02,Z0k,Z04,Z06,Z0l] isS (fun st a=>ao st a.1 a.2.1 a.2.2.1 a.2.2.2.1))) (Z0d:Cls K Z00) (n_Fragment_picks:NoAttr K Z00 "picks") {Z1A:Tok} (Z0P:mg "WORN" =some (.str (Str.ofString "?") Z1A)):FnOk P w K mg base (i6 P w) (2) f fd ["self","pick","k","side"] (lW (oO1 Z00 "picks" (oL (oL (fz (isT3 K isS isS isS))))) (aC isI (aC isI (aC isS aN))) [Z05,Z0j,Z0h,Z09,Z0i,Z0a,Z0b,Z0c,Z02,Z0k,Z04,Z06,Z0l] isS (fun st a=>bz ak ao st a.1 a.2.1 a.2.2.1)):=by
 have SC:FnScope ["self","pick","k","side"] ["self","pick","k","side"] (defScope (tq 22 2)):=⟨rfl,rfl,rfl,by decide +kernel,rfl,by decide +kernel,by decide +kernel⟩
 refine F.okR SC (fun vs H Q E h=>?_) (fun cdv A outer s H vs Q E hr h=>?_)
 ·obtain⟨_,_,_,_,_,_,us,_,rfl,_,_,_,ra,_⟩:=h;obtain⟨_,us,rfl,_,ra⟩:=ra;obtain⟨_,us,rfl,_,ra⟩:=ra;obtain⟨_,us,rfl,_,ra⟩:=ra;cases ra;rfl
 ·obtain⟨W0,W,F,self,Z0o,aa,us,rfl,rfl,E0,nF,Z36,ra,Er,hEr,hq⟩:=h
  obtain⟨pick,k,side,_⟩:=aa
  obtain⟨Z37,us,rfl,Z0J,ra⟩:=ra
  replace Z0J:isI W.G pick Z37:=Z0J
  obtain⟨v_k,us,rfl,z_k,ra⟩:=ra
  replace z_k:isI W.G k v_k:=z_k
  obtain⟨Z38,us,rfl,Z0E,ra⟩:=ra
  replace Z0E:isS W.G side Z38:=Z0E
  cases ra
  replace hq:(bz ak ao self pick k side).OkE Er (EndO W0 W (oO1 Z00 "picks" (oL (oL (fz (isT3 K isS isS isS))))) isS Z0o Q):=hq
  cases Z0J
  cases z_k
  cases Z0E
  refine⟨_,(ad (dv (dt C_Fragment_check kW (hr.mono (by decide)) (pv 0) (a7 (pv 1) (a7 (pv 2) (a7 (pv 3) a9)))))
   (ai (aU (dt C_Fragment_put kW (hr.mono (by decide)) (pv 0) (a7 (pv 1) (a7 (pv 2) (a7 (pv 3) (a7 (bd (v:=.str (Str.ofString "?")) (by rfl) Z0P ⟨_,rfl⟩) a9)))))))),?_⟩
  have hS0:Same W.G W.G:=.refl _
  have EW:Ext W W:=.refl _
  have S:Sep W0 W [tc (oO1 Z00 "picks" (oL (oL (fz (isT3 K isS isS isS))))) self Z0o]:=Sep.one Z36 nF
  rw[show L2.start ["self","pick","k","side"] [Z0o,.int pick,.int k,.str (sOf side)]=[some Z0o,some (.int pick),some (.int k),some (.str (sOf side))]from rfl]
  unfold bz at hq
  refine gD (Er:=Er) (je (R:=(oO1 Z00 "picks" (oL (oL (fz (isT3 K isS isS isS)))))) 0 S E0 rfl (hEr.mono EW) fun W3 hS4 _ _ h5 hE6=>((om hE6 (a8 (R:=sh (isO1 Z00 "picks" (isL (isL (isT3 K isS isS isS))))) h5) (a8 (R:=sh isI) (a:=pick) (v:=.int pick) rfl) (a8 (R:=sh isI) (a:=k) (v:=.int k) rfl) (a8 (R:=sh isS) (a:=side) (v:=.str (sOf side)) rfl)))) ((Res.okE_bind hq).imp fun _ hq W1 e2=>?_)
  have S:=S.ext e2
  have E0:=E0.trans e2
  have EW:=EW.trans e2
  have hS0:=hS0.trans e2.g
  exact l7 (Er:=Er) (k:=0) (i:=0) (l6 (by decide)) S E0 hS0 rfl rfl (by simp) (bj (a8 (R:=sh isI) (a:=pick) (v:=.int pick) rfl) (bj (a8 (R:=sh isI) (a:=k) (v:=.int k) rfl) (bj (a8 (R:=sh isS) (a:=side) (v:=.str (sOf side)) rfl) (bj (ag (x:=Str.ofString "?") (l:=[63]) (bL _ _ (by decide +kernel))) ff)))) (hEr.mono EW) hq
theorem uh {f:Addr} {fd:FuncData} (F:Fun K "_law_tried" "_law_tried" (tp 28) f fd) {az:(List (List (Tx×Tx×Tx)))→Int→Int→Tx→Tx→Res ((List (List (Tx×Tx×Tx)))×Tx)} {aA:(List (List (Tx×Tx×Tx)))→Int→Int→Tx→Res ((List (List (Tx×Tx×Tx)))×Tx)} {Z05 Z0j Z0h Z09 Z0i Z0a Z0b Z0c Z02 Z0k Z04 Z06 Z0l Z03:Addr} {Z00:Addr} (C_Fragment_spot:CalM P w K mg base (i6 P w) Z00 "spot" ["self","pick","k","side","sign"] (3) (lW (oO1 Z00 "picks" (oL (oL (fz (isT3 K isS isS isS))))) (aC isI (aC isI (aC isS (aC isS aN)))) [Z05,Z0j,Z0h,Z09,Z0i,Z0a,Z0b,Z0c,Z02,Z0k,Z04,Z06,Z0l] isS (fun st a=>az st a.1 a.2.1 a.2.2.1 a.2.2.2.1))) (C_Fragment_wear:CalM P w K mg base (i6 P w) Z00 "wear" ["self","pick","k","side"] (2) (lW (oO1 Z00 "picks" (oL (oL (fz (isT3 K isS isS isS))))) (aC isI (aC isI (aC isS aN))) [Z05,Z0j,Z0h,Z09,Z0i,Z0a,Z0b,Z0c,Z02,Z0k,Z04,Z06,Z0l] isS (fun st a=>aA st a.1 a.2.1 a.2.2.1))) (Z0d:Cls K Z00) (n_Fragment_picks:NoAttr K Z00 "picks") (Z:Kin K base [Z05,Z0j,Z0h,Z09,Z0i,Z0a,Z0b,Z0c,Z02,Z0k,Z04,Z06,Z0l] Z03) (Z0O:mg "BandError" =some (.ref Z03)) (Z1C:CalH P w K mg base "_law_kinds" ["_law_e"] 1 (ej K [Z05,Z0j,Z0h,Z09,Z0i,Z0a,Z0b,Z0c,Z02,Z0k,Z04,Z06,Z0l] Z03)):FnOk P w K mg base CX0 (4) f fd ["_law_kept","_law_deed_here"] (rU (oO1 Z00 "picks" (oL (oL (fz (isT3 K isS isS isS))))) (aC (isU K) aN) (isU K) (fun st a=>rW az aA st a.1)):=by
 have SC:FnScope ["_law_kept","_law_deed_here","_law_found","_law_e"] ["_law_kept","_law_deed_here"] (defScope (tp 28)):=⟨rfl,rfl,rfl,by decide +kernel,rfl,by decide +kernel,by decide +kernel⟩
 obtain⟨bmB,XB⟩:=Z.top
 refine F.ok SC (fun vs H Q E h=>?_) (fun cdv A outer s H vs Q E hr h=>?_)
 ·obtain⟨_,_,_,_,_,_,us,_,rfl,_,_,_,ra,_⟩:=h;obtain⟨_,us,rfl,_,ra⟩:=ra;cases ra;rfl
 ·obtain⟨W0,W,F,Z0y,Z0p,aa,us,rfl,rfl,E0,nF,Z9a,ra,Er,hq⟩:=h
  obtain⟨Z0g,_⟩:=aa
  obtain⟨Z0x,us,rfl,Z0e,ra⟩:=ra
  replace Z0e:(isU K) W.G Z0g Z0x:=Z0e
  cases ra
  replace hq:(rW az aA Z0y Z0g).OkE Er (EndO W0 W (oO1 Z00 "picks" (oL (oL (fz (isT3 K isS isS isS))))) (isU K) Z0p Q):=hq
  refine⟨_,(ad (rz (i:=3) (E:=EX K [Z05,Z0j,Z0h,Z09,Z0i,Z0a,Z0b,Z0c,Z02,Z0k,Z04,Z06,Z0l] [114,101,102,117,115,101,100] W Q) ⟨rfl,rfl⟩ (fun _=>(ai (bt (aL cv (aw (aO (K:=K) rfl) (pv 1) ac (fun _ _=>rfl)) aj (aI _)) (ai (aG (i:=2) SC.nd rfl (by first | exact Or.inl rfl | exact Or.inr rfl) (dt C_Fragment_spot qI (hr.mono (by decide)) (pv 0) (a7 (aw (aO (K:=K) rfl) (pv 1) ac (fun _ _=>rfl)) (a7 (aw (aO (K:=K) rfl) (pv 1) ac (fun _ _=>rfl)) (a7 (aw (aO (K:=K) rfl) (pv 1) ac (fun _ _=>rfl)) (a7 (aw (aO (K:=K) rfl) (pv 1) ac (fun _ _=>rfl)) a9))))))) (ai (aG (i:=2) SC.nd rfl (by first | exact Or.inl rfl | exact Or.inr rfl) (dt C_Fragment_wear qI (hr.mono (by decide)) (pv 0) (a7 (aw (aO (K:=K) rfl) (pv 1) ac (fun _ _=>rfl)) (a7 (aw (aO (K:=K) rfl) (pv 1) ac (fun _ _=>rfl)) (a7 (aw (aO (K:=K) rfl) (pv 1) ac (fun _ _=>rfl)) a9))))))))) (by rfl) Z0O XB (EX.cl Z) SC.nd rfl rfl (fun x C od oe hh=>(ai (aU (bo (a7 aj (a7 (pO Z1C hh ((hr.mono (by decide)).h _) rfl (List.mem_cons_self ..) (by rfl) (a7 (pv 3) a9)) a9)))))))
   (ai (aU (bo (a7 aj (a7 (pv 2) a9)))))),?_⟩
  have hS0:Same W.G W.G:=.refl _
  have EW:Ext W W:=.refl _
  have S:Sep W0 W [tc (oO1 Z00 "picks" (oL (oL (fz (isT3 K isS isS isS))))) Z0y Z0p]:=Sep.one Z9a nF
  rw[show L2.start ["_law_kept","_law_deed_here","_law_found","_law_e"] [Z0p,Z0x]=[some Z0p,some Z0x,none,none]from rfl]
  unfold rW at hq
  refine qh (Er:=Er) (K:=K) (base:=base) (RR:=isS) (k:=0) (s:=[114,101,102,117,115,101,100]) (σ':=fun v1=>[some Z0p,some Z0x,some v1,none]) S E0 hS0 rfl Z (bL _ _ (by decide +kernel)) rfl (fun Er hE8 D hq=>?_) ((Res.okE_bind hq).imp fun r5 hq=>?_)
  ·refine((aS (dA (b9 (K:=K) cV (aY (a8 (R:=sh (isU K)) Z0e) ae)) (ag (x:=Str.ofString "spot") (l:=[115,112,111,116]) (bL _ _ (by decide +kernel))))):TV Er _ [some Z0p,some Z0x,none,none] W _) W (.refl _) _ ((Res.okE_bind hq).imp fun b10 hq W22 e9=>?_)
   have S:=S.ext e9
   have E0:=E0.trans e9
   have h13:=Mono.mono (R:=(isU K)) e9.g Z0e
   cases b10 with
   | true =>
    rw[if_pos rfl]at hq ⊢
    exact l8 (Er:=Er) (k:=0) (i:=0) (j:=2) (σ':=fun v1=>[some Z0p,some Z0x,some v1,none]) (l6 (by decide)) S E0 rfl rfl (bj (b9 (K:=K) di (aY (a8 (R:=sh (isU K)) h13) ae)) (bj (b9 (K:=K) di (aY (a8 (R:=sh (isU K)) h13) ae)) (bj (b9 (K:=K) cV (aY (a8 (R:=sh (isU K)) h13) ae)) (bj (b9 (K:=K) cV (aY (a8 (R:=sh (isU K)) h13) ae)) ff)))) (hE8.mono e9) (hq.imp fun r kr u W' e hs S' hr=>kr u W' e (e9.g.trans hs) S' hr)
   | false =>
    rw[if_neg Bool.false_ne_true]at hq ⊢
    exact l8 (Er:=Er) (k:=0) (i:=0) (j:=2) (σ':=fun v1=>[some Z0p,some Z0x,some v1,none]) (l6 (by decide)) S E0 rfl rfl (bj (b9 (K:=K) di (aY (a8 (R:=sh (isU K)) h13) ae)) (bj (b9 (K:=K) di (aY (a8 (R:=sh (isU K)) h13) ae)) (bj (b9 (K:=K) cV (aY (a8 (R:=sh (isU K)) h13) ae)) ff))) (hE8.mono e9) (hq.imp fun r kr u W' e hs S' hr=>kr u W' e (e9.g.trans hs) S' hr)
  ·cases r5 with
   | inr j7=>exact hq
   | inl y6 =>
    intro v1 W2 E0 hS3 S h4
    dsimp only at hq
    cases h4
    have S:Sep W0 W2 [tc (oO1 Z00 "picks" (oL (oL (fz (isT3 K isS isS isS))))) y6.1 Z0p]:=S
    have hS0:=hS0.trans hS3
    exact ib (Er:=Er) (k:=0) S rfl E0 hS0 (fm (K:=K) (kR dn dn) (bq (K:=K) (ag (x:=Str.ofString "told") (l:=[116,111,108,100]) (bL _ _ (by decide +kernel))) (a8 (R:=sh isS) (a:=y6.2) (v:=.str (sOf y6.2)) rfl))) hq
theorem fv {f:Addr} {fd:FuncData} (F:Fun K "sheet" "Fragment.sheet" (tq 22 6) f fd) {Z00:Addr} (Z0d:Cls K Z00) (n_Fragment_picks:NoAttr K Z00 "picks") (h_list:mg "list" =none):FnOk P w K mg base CX0 (1) f fd ["self"] (eP (isO1 Z00 "picks" (isL (isL (isT3 K isS isS isS)))) (sI (oL (oL (fz (isT3 K isS isS isS))))) (cr)):=by
 have SC:FnScope ["self"] ["self"] (defScope (tq 22 6)):=⟨rfl,rfl,rfl,by decide +kernel,rfl,by decide +kernel,by decide +kernel⟩
 refine F.ok SC (fun vs H Q E h=>?_) (fun cdv A outer s H vs Q E hr h=>?_)
 ·obtain⟨_,_,_,_,rfl,_⟩:=h;rfl
 ·obtain⟨W0,self,Z0o,rfl,rfl,Z0M,Er,hq⟩:=h
  refine⟨_,(ai (aU (dh (N:=["pick"]) (cap:=[none]) (fj rfl (by decide +kernel) rfl (by decide +kernel) (by rfl) (by rfl)) rfl (cg (K:=K) rfl (eI (pv 0) rfl)) (fun _ _ _ _=>(b6 (i:=0) (show List.Nodup (["pick"]:List Str) by decide +kernel) rfl (by first | exact Or.inl rfl | exact Or.inr rfl))) (fun _ _ _ _=>cq) (fun _ _ _ _=>(ef (eE (K:=K) rfl) (by rfl) h_list PyProof.Rows.boot_list (a7 (pv 0) a9)))))),?_⟩
  have E0:Ext W0 W0:=.refl W0
  rw[show L2.start ["self"] [Z0o]=[some Z0o]from rfl]
  unfold cr at hq
  exact pX (Er:=Er) (fe (f:=fun(a1:List (Tx×Tx×Tx))=>Res.ok a1) (cG (dX Z0d n_Fragment_picks (a8 (R:=sh (isO1 Z00 "picks" (isL (isL (isT3 K isS isS isS))))) Z0M))) fun W3 a1 v2 e4 h5 Q8 k9=>by
   refine gn ?_
   exact⟨by simp[Keep,aW],((EVo.tr (nE (EV.pk (a8 (R:=sh (isL (isT3 K isS isS isS))) h5)))):EVt Er _ [some v2] _ _ _) _ (.refl _) _ k9⟩) (Res.OkE.imp hq fun y10 hq v11 W12 F13 e14 hF15 t16=>hq v11 W12 F13 (E0.trans e14) (fun q hq=>none_of E0.h (hF15 q hq)) t16)
theorem fw {f:Addr} {fd:FuncData} (F:Fun K "known" "Fragment.known" (tq 22 7) f fd) {Z00:Addr} (Z0d:Cls K Z00) (n_Fragment_picks:NoAttr K Z00 "picks") (h_sum:mg "sum" =none) {Z1A:Tok} (Z0P:mg "WORN" =some (.str (Str.ofString "?") Z1A)):FnOk P w K mg base CX0 (1) f fd ["self"] (eP (isO1 Z00 "picks" (isL (isL (isT3 K isS isS isS)))) (rs isI) (cu)):=by
 have SC:FnScope ["self"] ["self"] (defScope (tq 22 7)):=⟨rfl,rfl,rfl,by decide +kernel,rfl,by decide +kernel,by decide +kernel⟩
 refine F.ok SC (fun vs H Q E h=>?_) (fun cdv A outer s H vs Q E hr h=>?_)
 ·obtain⟨_,_,_,_,rfl,_⟩:=h;rfl
 ·obtain⟨W0,self,Z0o,rfl,rfl,Z0M,Er,hq⟩:=h
  refine⟨_,(ai (aU (aq (lJ (K:=K) rfl rfl) (by rfl) h_sum PyProof.Rows.boot_sum (a7 (lV (N:=["pick","mark","sign"]) (cap:=[none,none,none]) (fj rfl (by decide +kernel) rfl (by decide +kernel) (by rfl) (by rfl)) rfl (cg (K:=K) rfl (eI (pv 0) rfl)) (fun _ _ _ _=>(b6 (i:=0) (show List.Nodup (["pick","mark","sign"]:List Str) by decide +kernel) rfl (by first | exact Or.inl rfl | exact Or.inr rfl))) (fun _ _ _ _=>cq) (fun _ _ _ _=>(cg (K:=K) rfl (pv 0))) (fun _ _ _ _=>(b6 (i:=1) (show List.Nodup (["pick","mark","sign"]:List Str) by decide +kernel) rfl (by first | exact Or.inl rfl | exact Or.inr rfl))) (fun _ _ _ _=>cq) (fun _ _ _ _=>(qf (K:=K) rfl (pv 1))) (fun _ _ _ _=>(b6 (i:=2) (show List.Nodup (["pick","mark","sign"]:List Str) by decide +kernel) rfl (by first | exact Or.inl rfl | exact Or.inr rfl))) (fun _ _ _ _=>(kH (aL iS (pv 2) (bd (v:=.str (Str.ofString "?")) (by rfl) Z0P ⟨_,rfl⟩) (aI _)))) (fun _ _ _ _=>ac)) a9)))),?_⟩
  have E0:Ext W0 W0:=.refl W0
  rw[show L2.start ["self"] [Z0o]=[some Z0o]from rfl]
  unfold cu at hq
  exact bP (Er:=Er) (R:=sh isI) (rn (EVo.pk (og (R':=isI) (f:=fun(a6:List (Tx×Tx×Tx)) (s8:List Int)=>br (fun(a18:Tx×Tx×Tx) (s20:List Int)=>br (fun(a31:Tx) (s33:List Int)=>if(!decide (a31=([63]:Tx)))then dm s33 (1:Int)else Res.ok s33) [a18.1,a18.2.1,a18.2.2] s20) a6 s8) (cG (dX Z0d n_Fragment_picks (a8 (R:=sh (isO1 Z00 "picks" (isL (isL (isT3 K isS isS isS))))) Z0M))) (fun W1 D2 W5 a6 v7 s8 M9 hS10 e3 h4 e11 o12 h13 k14=>by
   refine gn ?_
   exact⟨by simp[Keep,aW],sJ (((o9 (f:=fun(a18:Tx×Tx×Tx) (s20:List Int)=>br (fun(a31:Tx) (s33:List Int)=>if(!decide (a31=([63]:Tx)))then dm s33 (1:Int)else Res.ok s33) [a18.1,a18.2.1,a18.2.2] s20) e11 (cG (a8 (R:=sh (isL (isT3 K isS isS isS))) h13)) (fun _ _ _ e o=>o.mono e) (fun W17 a18 v19 s20 M21 hS22 e23 o24 h25 k26=>by
    have h27:=Mono.mono (R:=(isL (isT3 K isS isS isS))) hS22 h13
    refine gn ?_
    exact⟨by simp[Keep,aW],sJ (((o9 (f:=fun(a31:Tx) (s33:List Int)=>if(!decide (a31=([63]:Tx)))then dm s33 (1:Int)else Res.ok s33) e23 (qg (a8 (R:=sh (isT3 K isS isS isS)) h25)) (fun _ _ _ e o=>o.mono e) (fun W30 a31 v32 s33 M34 hS35 e36 o37 h38 k39=>by
     have h40:=Mono.mono (R:=(isL (isT3 K isS isS isS))) hS35 h27
     have h41:=Mono.mono (R:=(isT3 K isS isS isS)) hS35 h25
     cases h38
     refine gn ?_
     refine⟨by simp[Keep,aW],((aS (iA (a8 (R:=sh isS) (a:=a31) (v:=.str (sOf a31)) rfl) (ag (x:=Str.ofString "?") (l:=[63]) (bL _ _ (by decide +kernel))))):TV Er _ [some v7,some v19,some (.str (sOf a31))] _ _) _ (.refl _) _ (Res.OkE.imp (P:=fun b44=>(if b44=true then dm s33 (1:Int)else Res.ok s33:Res _).OkE Er _) (ua k39) fun b44 k45 W46 e47=>?_)⟩
     cases b44 with
     | false=>exact k45 _ e47.g (e36.trans e47) (o37.mono e47)
     | true=>exact((qa e36 h4 ae):BV Er _ [some v7,some v19,some (.str (sOf a31))] _ _ _ _ _) _ _ _ e47 (o37.mono e47) (k45.imp fun _ z W z1=>z W (e47.g.trans z1)))):BV Er _ [some v7,some v19,none] _ _ _ _ _) _ _ _ (.refl _) o24 k26)⟩)):BV Er _ [some v7,none,none] _ _ _ _ _) _ _ _ (.refl _) o12 k14)⟩)))) (Res.OkE.imp hq fun y49 hq v50 W51 e52 h53=>hq v50 W51 (E0.trans e52) h53)
theorem fA {f:Addr} {fd:FuncData} (F:Fun K "strip" "Fragment.strip" (tq 22 5) f fd) {Z00:Addr} (Z0d:Cls K Z00) (n_Fragment_picks:NoAttr K Z00 "picks"):FnOk P w K mg base CX0 (1) f fd ["self","k"] (gv (isO1 Z00 "picks" (isL (isL (isT3 K isS isS isS)))) isI (ro (isT3 K isS isS isS)) (bK)):=by
 have SC:FnScope ["self","k"] ["self","k"] (defScope (tq 22 5)):=⟨rfl,rfl,rfl,by decide +kernel,rfl,by decide +kernel,by decide +kernel⟩
 refine F.ok SC (fun vs H Q E h=>?_) (fun cdv A outer s H vs Q E hr h=>?_)
 ·obtain⟨_,_,_,_,_,_,rfl,_⟩:=h;rfl
 ·obtain⟨W0,self,k,Z0o,_,rfl,rfl,Z0M,z_k,Er,hq⟩:=h
  cases z_k
  refine⟨_,(ai (aU (dh (N:=["pick","k"]) (cap:=[none,some 1]) (fj rfl (by decide +kernel) rfl (by decide +kernel) (by rfl) (by rfl)) rfl (cg (K:=K) rfl (eI (pv 0) rfl)) (fun _ _ _ _=>(b6 (i:=0) (show List.Nodup (["pick","k"]:List Str) by decide +kernel) rfl (by first | exact Or.inl rfl | exact Or.inr rfl))) (fun _ _ _ _=>cq) (fun _ _ _ _=>(aw (au (K:=K) rfl) (pv 0) (pv 1) (fun _ _=>rfl)))))),?_⟩
  have E0:Ext W0 W0:=.refl W0
  rw[show L2.start ["self","k"] [Z0o,.int k]=[some Z0o,some (.int k)]from rfl]
  unfold bK at hq
  exact kN (Er:=Er) (dD (f:=fun(a1:List (Tx×Tx×Tx))=>cP a1 k) (cG (dX Z0d n_Fragment_picks (a8 (R:=sh (isO1 Z00 "picks" (isL (isL (isT3 K isS isS isS))))) Z0M))) fun W3 a1 v2 e4 h5 Q8 k9=>by
   refine gn ?_
   exact⟨by simp[Keep,aW],((bu (EV.pk (a8 (R:=sh (isL (isT3 K isS isS isS))) h5)) (a8 (R:=sh isI) (a:=k) (v:=.int k) rfl)):EV Er _ [some v2,some (.int k)] _ _ _) _ (.refl _) _ k9⟩) (Res.OkE.imp hq fun y10 hq p11 W12 e13 hp14 o15=>hq p11 W12 (E0.trans e13) (none_of E0.h hp14) o15)
theorem ui {f:Addr} {fd:FuncData} (F:Fun K "_law_stands" "_law_stands" (tp 31) f fd) {am:(List (List (Tx×Tx×Tx)))→Res (List (List (Tx×Tx×Tx)))} {aV:(List (List (Tx×Tx×Tx)))→Res Int} {ap:(List (List (Tx×Tx×Tx)))→Int→Res (List (Tx×Tx×Tx))} {Z00:Addr} (Z0v:Cal P w K mg base "_law_same" ["_law_found","_law_due"] 26 (cQ K 26)) (C_Fragment_sheet:CalM P w K mg base CX0 Z00 "sheet" ["self"] (1) (eP (isO1 Z00 "picks" (isL (isL (isT3 K isS isS isS)))) (sI (oL (oL (fz (isT3 K isS isS isS))))) am)) (C_Fragment_known:CalM P w K mg base CX0 Z00 "known" ["self"] (1) (eP (isO1 Z00 "picks" (isL (isL (isT3 K isS isS isS)))) (rs isI) aV)) (C_Fragment_strip:CalM P w K mg base CX0 Z00 "strip" ["self","k"] (1) (gv (isO1 Z00 "picks" (isL (isL (isT3 K isS isS isS)))) isI (ro (isT3 K isS isS isS)) ap)) (h_range:mg "range" =none) (h_tuple:mg "tuple" =none):FnOk P w K mg base CX0 (27) f fd ["_law_kept","_law_grid","_law_wide"] (eZ (isO1 Z00 "picks" (isL (isL (isT3 K isS isS isS)))) (isL (isL (isL isS))) isI (rs isB) (tw am aV ap)):=by
 have SC:FnScope ["_law_kept","_law_grid","_law_wide","_law_sheet","_law_many","_law_marks","_law_mark","_law_k","_law_strip","_law_found"] ["_law_kept","_law_grid","_law_wide"] (defScope (tp 31)):=⟨rfl,rfl,rfl,by decide +kernel,rfl,by decide +kernel,by decide +kernel⟩
 refine F.ok SC (fun vs H Q E h=>?_) (fun cdv A outer s H vs Q E hr h=>?_)
 ·obtain⟨_,_,_,_,_,_,_,_,rfl,_⟩:=h;rfl
 ·obtain⟨W0,Z0y,Z3X,Z0f,Z0p,Z0A,_,rfl,rfl,Z07,Z9b,Z1B,Er,hq⟩:=h
  cases Z1B
  refine⟨_,(ad (eN (i:=3) SC.nd rfl (by first | exact Or.inl rfl | exact Or.inr rfl) (N:=["_law_marks"]) (cap:=[none]) (fj rfl (by decide +kernel) rfl (by decide +kernel) (by rfl) (by rfl)) rfl (cg (K:=K) rfl (pv 1)) (fun _ _ _ _=>(b6 (i:=0) (show List.Nodup (["_law_marks"]:List Str) by decide +kernel) rfl (by first | exact Or.inl rfl | exact Or.inr rfl))) (fun _ _ _ _=>cq) (fun _ _ _ _=>(dh (N:=["_law_mark"]) (cap:=[none]) (fj rfl (by decide +kernel) rfl (by decide +kernel) (by rfl) (by rfl)) rfl (cg (K:=K) rfl (pv 0)) (fun _ _ _ _=>(b6 (i:=0) (show List.Nodup (["_law_mark"]:List Str) by decide +kernel) rfl (by first | exact Or.inl rfl | exact Or.inr rfl))) (fun _ _ _ _=>cq) (fun _ _ _ _=>(ef (dW (K:=K) rfl) (by rfl) h_tuple PyProof.Rows.boot_tuple (a7 (pv 0) a9))))))
   (ad (aG (i:=4) SC.nd rfl (by first | exact Or.inl rfl | exact Or.inr rfl) ac)
   (ad (eH PassesOwn.never rfl (cg (K:=K) rfl (pv 3)) (b6 (i:=5) SC.nd rfl (by first | exact Or.inl rfl | exact Or.inr rfl)) (ai (eH PassesOwn.never rfl (cg (K:=K) rfl (pv 5)) (b6 (i:=6) SC.nd rfl (by first | exact Or.inl rfl | exact Or.inr rfl)) (ai (aG (i:=4) SC.nd rfl (by first | exact Or.inl rfl | exact Or.inr rfl) (aD g9 (aD dQ (pv 4) ac) (iw (K:=K) rfl PySem.F.plainAttrs_tuple PySem.F.slot_tuple_count PySem.F.type_tuple_count (m8 (K:=K) rfl) (pv 6) (a7 aj a9))))))))
   (ad (bt (PW.pt (fD (du (cw (bw Z0v (hr.mono (by decide)) (by rfl) (a7 (dY C_Fragment_sheet (hr.mono (by decide)) (pv 0)) (a7 (pv 3) a9))))) (fZ (du (cw (bw Z0v (hr.mono (by decide)) (by rfl) (a7 (dY C_Fragment_known (hr.mono (by decide)) (pv 0)) (a7 (pv 4) a9)))))))) (ai (aU de)) aR)
   (ad (eH PassesOwn.never rfl (cB rfl h_range (a7 (pv 2) a9)) (b6 (i:=7) SC.nd rfl (by first | exact Or.inl rfl | exact Or.inr rfl)) (ad (aG (i:=8) SC.nd rfl (by first | exact Or.inl rfl | exact Or.inr rfl) (kZ C_Fragment_strip (hr.mono (by decide)) (pv 0) (a7 (pv 7) a9)))
   (ad (bt (du (cw (bw Z0v (hr.mono (by decide)) (by rfl) (a7 (pv 8) (a7 (dh (N:=["_law_marks","_law_k"]) (cap:=[none,some 7]) (fj rfl (by decide +kernel) rfl (by decide +kernel) (by rfl) (by rfl)) rfl (cg (K:=K) rfl (pv 3)) (fun _ _ _ _=>(b6 (i:=0) (show List.Nodup (["_law_marks","_law_k"]:List Str) by decide +kernel) rfl (by first | exact Or.inl rfl | exact Or.inr rfl))) (fun _ _ _ _=>cq) (fun _ _ _ _=>(aw (au (K:=K) rfl) (pv 0) (pv 1) (fun _ _=>rfl)))) a9))))) (ai (aU de)) aR)
   (ai (dv (eQ (K:=K) rfl (pv 8) (a7 (bo (a7 aj (a7 aj (a7 aj a9)))) a9)))))))
   (ad (aG (i:=9) SC.nd rfl (by first | exact Or.inl rfl | exact Or.inr rfl) (dY C_Fragment_sheet (hr.mono (by decide)) (pv 0)))
   (ad (eH PassesOwn.never rfl (cg (K:=K) rfl (pv 9)) (b6 (i:=5) SC.nd rfl (by first | exact Or.inl rfl | exact Or.inr rfl)) (ai (dv (kI (K:=K) rfl PySem.F.plainAttrs_list PySem.F.slot_list_clear PySem.F.type_list_clear iY (pv 5)))))
   (ad (dv (kI (K:=K) rfl PySem.F.plainAttrs_list PySem.F.slot_list_clear PySem.F.type_list_clear iY (pv 9)))
   (ai (aU (dP (bw Z0v (hr.mono (by decide)) (by rfl) (a7 (dY C_Fragment_sheet (hr.mono (by decide)) (pv 0)) (a7 (pv 3) a9))) (dO (bw Z0v (hr.mono (by decide)) (by rfl) (a7 (kZ C_Fragment_strip (hr.mono (by decide)) (pv 0) (a7 ac a9)) (a7 (dh (N:=["_law_marks"]) (cap:=[none]) (fj rfl (by decide +kernel) rfl (by decide +kernel) (by rfl) (by rfl)) rfl (cg (K:=K) rfl (pv 3)) (fun _ _ _ _=>(b6 (i:=0) (show List.Nodup (["_law_marks"]:List Str) by decide +kernel) rfl (by first | exact Or.inl rfl | exact Or.inr rfl))) (fun _ _ _ _=>cq) (fun _ _ _ _=>(aw (au (K:=K) rfl) (pv 0) ac (fun _ _=>rfl)))) a9))))))))))))))),?_⟩
  have E0:Ext W0 W0:=.refl W0
  rw[show L2.start ["_law_kept","_law_grid","_law_wide","_law_sheet","_law_many","_law_marks","_law_mark","_law_k","_law_strip","_law_found"] [Z0p,Z0A,.int Z0f]=[some Z0p,some Z0A,some (.int Z0f),none,none,none,none,none,none,none]from rfl]
  unfold tw at hq
  refine aF (Er:=Er) (i:=3) (R:=sh (isL (isL (isT3 K isS isS isS)))) (σ':=fun v22=>[some Z0p,some Z0A,some (.int Z0f),some v22,none,none,none,none,none,none]) (EVo.ev (dD (f:=fun(a3:List (List Tx))=>bD a3 (fun(a10:List Tx)=>lK a10)) (cG (a8 (R:=sh (isL (isL (isL isS)))) Z9b)) fun W5 a3 v4 e6 h7 Q19 k20=>by
   refine gn ?_
   exact⟨by simp[Keep,aW],((EVo.ev (dD (f:=fun(a10:List Tx)=>lK a10) (cG (a8 (R:=sh (isL (isL isS))) h7)) fun W12 a10 v11 e13 h14 Q17 k18=>by
    refine gn ?_
    exact⟨by simp[Keep,aW],((j6 (EV.pk (a8 (R:=sh (isL isS)) h14))):EV Er _ [some v11] _ _ _) _ (.refl _) _ k18⟩)):EV Er _ [some v4] _ _ _) _ (.refl _) _ k20⟩)) ((Res.okE_bind hq).imp fun y21 hq v22 W1 e2 h23=>?_)
  have E0:=E0.trans e2
  have Z07:=Mono.mono (R:=(isO1 Z00 "picks" (isL (isL (isT3 K isS isS isS))))) e2.g Z07
  refine aF (Er:=Er) (i:=4) (R:=sh isI) (σ':=fun v26=>[some Z0p,some Z0A,some (.int Z0f),some v22,some v26,none,none,none,none,none]) ae (fun v26 W24 e25 h27=>?_)
  cases h27
  have E0:=E0.trans e25
  have Z07:=Mono.mono (R:=(isO1 Z00 "picks" (isL (isL (isT3 K isS isS isS))))) e25.g Z07
  have h23:=Mono.mono (R:=(isL (isL (isT3 K isS isS isS)))) e25.g h23
  refine j5 (Er:=Er) (f:=rY) (s0:=(0:Int)) (Iv:=fun(s30:Int) (W31:Wd) (g32:St)=>∃(d33:Option V) (d34:Option V),g32=[some Z0p,some Z0A,some (.int Z0f),some v22,some (.int s30),d34,d33,none,none,none]∧Ext W0 W31) (cG (a8 (R:=sh (isL (isL (isT3 K isS isS isS)))) h23)) (Res.okE_bind hq) ?_ ?_ ?_
  ·intro W46 e47
   have E0:=E0.trans e47
   have Z07:=Mono.mono (R:=(isO1 Z00 "picks" (isL (isL (isT3 K isS isS isS))))) e47.g Z07
   have h23:=Mono.mono (R:=(isL (isL (isT3 K isS isS isS)))) e47.g h23
   exact⟨_,_,rfl,E0⟩
  ·intro Wb35 W36 W37 a28 v38 s29 sg39 P40 hW41 hB42 iv e43 h44 hq
   obtain⟨d33,d34,rfl,E0⟩:=iv
   have Z07:=Mono.mono (R:=(isO1 Z00 "picks" (isL (isL (isT3 K isS isS isS))))) hW41 Z07
   have h23:=Mono.mono (R:=(isL (isL (isT3 K isS isS isS)))) hW41 h23
   have E0:=E0.trans e43
   have hB42:=hB42.trans e43.g
   have Z07:=Mono.mono (R:=(isO1 Z00 "picks" (isL (isL (isT3 K isS isS isS))))) e43.g Z07
   have h23:=Mono.mono (R:=(isL (isL (isT3 K isS isS isS)))) e43.g h23
   refine gn (σ':=[some Z0p,some Z0A,some (.int Z0f),some v22,some (.int s29),some v38,d33,none,none,none]) ?_
   unfold rY at hq
   refine ny (Er:=Er) (f:=rX) (s0:=s29) (Iv:=fun(s52:Int) (W53:Wd) (g54:St)=>∃(d55:Option V),g54=[some Z0p,some Z0A,some (.int Z0f),some v22,some (.int s52),some v38,d55,none,none,none]∧Ext W0 W53) (cG (a8 (R:=sh (isL (isT3 K isS isS isS))) h44)) (Res.okE_bind hq) ?_ ?_ ?_
   ·intro W67 e68
    have E0:=E0.trans e68
    have hB42:=hB42.trans e68.g
    have Z07:=Mono.mono (R:=(isO1 Z00 "picks" (isL (isL (isT3 K isS isS isS))))) e68.g Z07
    have h23:=Mono.mono (R:=(isL (isL (isT3 K isS isS isS)))) e68.g h23
    have h44:=Mono.mono (R:=(isL (isT3 K isS isS isS))) e68.g h44
    exact⟨_,rfl,E0⟩
   ·intro Wb56 W57 W58 a50 v59 s51 sg60 P61 hW62 hB63 iv e64 h65 hq
    obtain⟨d55,rfl,E0⟩:=iv
    have hB42:=hB42.trans hW62
    have Z07:=Mono.mono (R:=(isO1 Z00 "picks" (isL (isL (isT3 K isS isS isS))))) hW62 Z07
    have h23:=Mono.mono (R:=(isL (isL (isT3 K isS isS isS)))) hW62 h23
    have h44:=Mono.mono (R:=(isL (isT3 K isS isS isS))) hW62 h44
    have E0:=E0.trans e64
    have hB42:=hB42.trans e64.g
    have hB63:=hB63.trans e64.g
    have Z07:=Mono.mono (R:=(isO1 Z00 "picks" (isL (isL (isT3 K isS isS isS))))) e64.g Z07
    have h23:=Mono.mono (R:=(isL (isL (isT3 K isS isS isS)))) e64.g h23
    have h44:=Mono.mono (R:=(isL (isT3 K isS isS isS))) e64.g h44
    refine gn (σ':=[some Z0p,some Z0A,some (.int Z0f),some v22,some (.int s51),some v38,some v59,none,none,none]) ?_
    unfold rX at hq
    refine dE (Er:=Er) (i:=4) (R:=sh isI) (σ':=fun v73=>[some Z0p,some Z0A,some (.int Z0f),some v22,some v73,some v38,some v59,none,none,none]) (cM (cM (a8 (R:=sh isI) (a:=s51) (v:=.int s51) rfl) ae) (mh (a8 (R:=sh (isT3 K isS isS isS)) h65) (ag (x:=Str.ofString "?") (l:=[63]) (bL _ _ (by decide +kernel))))) (fun v73 W71 e72 h74=>?_)
    cases h74
    have E0:=E0.trans e72
    have hB42:=hB42.trans e72.g
    have hB63:=hB63.trans e72.g
    have Z07:=Mono.mono (R:=(isO1 Z00 "picks" (isL (isL (isT3 K isS isS isS))))) e72.g Z07
    have h23:=Mono.mono (R:=(isL (isL (isT3 K isS isS isS)))) e72.g h23
    have h44:=Mono.mono (R:=(isL (isT3 K isS isS isS))) e72.g h44
    have h65:=Mono.mono (R:=(isT3 K isS isS isS)) e72.g h65
    try dsimp only
    refine gw (W:=W71) ((s51+(3:Int))- (jV a50 ([63]:Tx))) hB63 ?_ hq
    exact⟨_,rfl,E0⟩
   ·intro s75 W76 sg77 hS78 iv hq
    obtain⟨d55,rfl,E0⟩:=iv
    have hB42:=hB42.trans hS78
    have Z07:=Mono.mono (R:=(isO1 Z00 "picks" (isL (isL (isT3 K isS isS isS))))) hS78 Z07
    have h23:=Mono.mono (R:=(isL (isL (isT3 K isS isS isS)))) hS78 h23
    have h44:=Mono.mono (R:=(isL (isT3 K isS isS isS))) hS78 h44
    try dsimp only
    refine gw (W:=W76) s75 hB42 ?_ hq
    exact⟨_,_,rfl,E0⟩
  ·intro s79 W80 sg81 hS82 iv hq
   obtain⟨d33,d34,rfl,E0⟩:=iv
   have Z07:=Mono.mono (R:=(isO1 Z00 "picks" (isL (isL (isT3 K isS isS isS))))) hS82 Z07
   have h23:=Mono.mono (R:=(isL (isL (isT3 K isS isS isS)))) hS82 h23
   refine cH (Er:=Er) (hX (gu (j4 (dq (by decide) (EVt.ev (fV (a8 (R:=sh (isO1 Z00 "picks" (isL (isL (isT3 K isS isS isS))))) Z07))) (a8 (R:=sh (isL (isL (isT3 K isS isS isS)))) h23)))) (gu (j4 (dq (by decide) (rE (a8 (R:=sh (isO1 Z00 "picks" (isL (isL (isT3 K isS isS isS))))) Z07)) (a8 (R:=sh isI) (a:=s79) (v:=.int s79) rfl))))) ((Res.okE_bind hq).imp fun y88 hq W89 e90=>?_)
   have E0:=E0.trans e90
   have Z07:=Mono.mono (R:=(isO1 Z00 "picks" (isL (isL (isT3 K isS isS isS))))) e90.g Z07
   have h23:=Mono.mono (R:=(isL (isL (isT3 K isS isS isS)))) e90.g h23
   by_cases hb177:y88=true
   ·rw[if_pos hb177]at hq ⊢
    exact bP (Er:=Er) (R:=sh isB) gm (fun v91 W92 e93 h94=>hq v91 W92 (E0.trans e93) h94)
   ·rw[if_neg hb177]at hq ⊢
    try dsimp only[aE]
    refine i4 (Er:=Er) (f:=(rZ ap Z0y y21)) (s0:=()) (Iv:=fun(s97:Unit) (W98:Wd) (g99:St)=>∃(d100:Option V) (d101:Option V),g99=[some Z0p,some Z0A,some (.int Z0f),some v22,some (.int s79),d34,d33,d101,d100,none]∧Ext W0 W98) (cS (a8 (R:=sh isI) (a:=Z0f) (v:=.int Z0f) rfl)) (Res.okE_bind hq) ?_ ?_ ?_
    ·intro W113 e114
     have E0:=E0.trans e114
     have Z07:=Mono.mono (R:=(isO1 Z00 "picks" (isL (isL (isT3 K isS isS isS))))) e114.g Z07
     have h23:=Mono.mono (R:=(isL (isL (isT3 K isS isS isS)))) e114.g h23
     exact⟨_,_,rfl,E0⟩
    ·intro Wb102 W103 W104 a95 v105 s96 sg106 P107 hW108 hB109 iv e110 h111 hrt112 hq
     obtain⟨d100,d101,rfl,E0⟩:=iv
     have Z07:=Mono.mono (R:=(isO1 Z00 "picks" (isL (isL (isT3 K isS isS isS))))) hW108 Z07
     have h23:=Mono.mono (R:=(isL (isL (isT3 K isS isS isS)))) hW108 h23
     have E0:=E0.trans e110
     have hB109:=hB109.trans e110.g
     have Z07:=Mono.mono (R:=(isO1 Z00 "picks" (isL (isL (isT3 K isS isS isS))))) e110.g Z07
     have h23:=Mono.mono (R:=(isL (isL (isT3 K isS isS isS)))) e110.g h23
     cases h111
     refine gn (σ':=[some Z0p,some Z0A,some (.int Z0f),some v22,some (.int s79),d34,d33,some (.int a95),d100,none]) ?_
     unfold rZ at hq
     have S:Sep W0 W104 []:=Sep.nil
     refine cY (Er:=Er) (i:=8) (σ':=fun v118=>[some Z0p,some Z0A,some (.int Z0f),some v22,some (.int s79),d34,d33,some (.int a95),some v118,none]) S E0 (EVo.tr (l0 (a8 (R:=sh (isO1 Z00 "picks" (isL (isL (isT3 K isS isS isS))))) Z07) (a8 (R:=sh isI) (a:=a95) (v:=.int a95) rfl))) ((Res.okE_bind hq).imp fun y117 hq v118 W119 e120 S=>?_)
     have E0:=E0.trans e120
     have hB109:=hB109.trans e120.g
     have Z07:=Mono.mono (R:=(isO1 Z00 "picks" (isL (isL (isT3 K isS isS isS))))) e120.g Z07
     have h23:=Mono.mono (R:=(isL (isL (isT3 K isS isS isS)))) e120.g h23
     have S:Sep W0 W119 [tc (oL (fz (isT3 K isS isS isS))) y117 v118]:=S
     refine cH (Er:=Er) (gB (R:=(oL (fz (isT3 K isS isS isS)))) 0 S E0 rfl fun W121 hS122 E0 S h123=>(have S:Sep W0 W121 []:=S;have h23:=Mono.mono (R:=(isL (isL (isT3 K isS isS isS)))) hS122 h23;(gu (j4 (dq (by decide) (a8 (R:=sh (isL (isT3 K isS isS isS))) h123) (EVo.ev (dD (f:=fun(a124:List (Tx×Tx×Tx))=>cP a124 a95) (cG (a8 (R:=sh (isL (isL (isT3 K isS isS isS)))) h23)) fun W126 a124 v125 e127 h128 Q131 k132=>by
      refine gn ?_
      exact⟨by simp[Keep,aW],((bu (EV.pk (a8 (R:=sh (isL (isT3 K isS isS isS))) h128)) (a8 (R:=sh isI) (a:=a95) (v:=.int a95) rfl)):EV Er _ [some v125,some (.int a95)] _ _ _) _ (.refl _) _ k132⟩))))))) ((Res.okE_bind hq).imp fun y135 hq W136 e137=>?_)
     have S:=S.ext e137
     have E0:=E0.trans e137
     have hB109:=hB109.trans e137.g
     have Z07:=Mono.mono (R:=(isO1 Z00 "picks" (isL (isL (isT3 K isS isS isS))))) e137.g Z07
     have h23:=Mono.mono (R:=(isL (isL (isT3 K isS isS isS)))) e137.g h23
     by_cases hb144:y135=true
     ·rw[if_pos hb144]at hq ⊢
      exact bP (Er:=Er) (R:=sh isB) gm (fun v138 W139 e140 h141=>(hrt112 _ hq) v138 W139 (E0.trans e140) h141)
     ·rw[if_neg hb144]at hq ⊢
      try dsimp only[aE]
      refine pY (Er:=Er) (K:=K) (R:=(isT3 K isS isS isS)) (C:=fun bb=>[tc (oL (fz (isT3 K isS isS isS))) bb v118]) (k:=0) (i:=8) S E0 (iE (K:=K) (ag (x:=Str.ofString "a") (l:=[97]) (bL _ _ (by decide +kernel))) (ag (x:=Str.ofString "a") (l:=[97]) (bL _ _ (by decide +kernel))) (ag (x:=Str.ofString "s") (l:=[115]) (bL _ _ (by decide +kernel)))) ((Res.okE_bind hq).imp fun y142 hq W143 hS144 E0 S=>?_)
      have S:Sep W0 W143 [tc (oL (fz (isT3 K isS isS isS))) y142 v118]:=S
      have hB109:=hB109.trans hS144
      have Z07:=Mono.mono (R:=(isO1 Z00 "picks" (isL (isL (isT3 K isS isS isS))))) hS144 Z07
      have h23:=Mono.mono (R:=(isL (isL (isT3 K isS isS isS)))) hS144 h23
      try dsimp only
      refine gw (W:=W143) () hB109 ?_ hq
      exact⟨_,_,rfl,E0⟩
    ·intro s146 W147 sg148 hS149 iv hq
     obtain⟨d100,d101,rfl,E0⟩:=iv
     have Z07:=Mono.mono (R:=(isO1 Z00 "picks" (isL (isL (isT3 K isS isS isS))))) hS149 Z07
     have h23:=Mono.mono (R:=(isL (isL (isT3 K isS isS isS)))) hS149 h23
     have S:Sep W0 W147 []:=Sep.nil
     refine cY (Er:=Er) (i:=9) (σ':=fun v151=>[some Z0p,some Z0A,some (.int Z0f),some v22,some (.int s79),d34,d33,d101,d100,some v151]) S E0 (fV (a8 (R:=sh (isO1 Z00 "picks" (isL (isL (isT3 K isS isS isS))))) Z07)) ((Res.okE_bind hq).imp fun y150 hq v151 W152 e153 S=>?_)
     have E0:=E0.trans e153
     have Z07:=Mono.mono (R:=(isO1 Z00 "picks" (isL (isL (isT3 K isS isS isS))))) e153.g Z07
     have h23:=Mono.mono (R:=(isL (isL (isT3 K isS isS isS)))) e153.g h23
     have S:Sep W0 W152 [tc (oL (oL (fz (isT3 K isS isS isS)))) y150 v151]:=S
     refine iM (K:=K) (R:=(isT3 K isS isS isS)) (C:=fun bb=>[tc (oL (oL (fz (isT3 K isS isS isS)))) bb v151]) (k:=0) (i:=9) (j:=5) (σ':=fun w156=>[some Z0p,some Z0A,some (.int Z0f),some v22,some (.int s79),w156,d33,d101,d100,some v151]) S E0 (fun w156 W154 hS155 E0 S=>?_)
     have S:Sep W0 W154 [tc (oL (oL (fz (isT3 K isS isS isS)))) (y150.map fun _=>([]:List (Tx×Tx×Tx))) v151]:=S
     have Z07:=Mono.mono (R:=(isO1 Z00 "picks" (isL (isL (isT3 K isS isS isS))))) hS155 Z07
     have h23:=Mono.mono (R:=(isL (isL (isT3 K isS isS isS)))) hS155 h23
     refine mn (Er:=Er) (K:=K) (R:=(oL (fz (isT3 K isS isS isS)))) E0 (ft (R:=(oL (oL (fz (isT3 K isS isS isS))))) (C:=fun bb=>[tc (oL (oL (fz (isT3 K isS isS isS)))) bb v151]) (k:=0) S E0) ((Res.okE_bind hq).imp fun y157 hq W158 hS159 E0 S=>?_)
     have S:Sep W0 W158 [tc (oL (oL (fz (isT3 K isS isS isS)))) y157 v151]:=S
     have Z07:=Mono.mono (R:=(isO1 Z00 "picks" (isL (isL (isT3 K isS isS isS))))) hS159 Z07
     have h23:=Mono.mono (R:=(isL (isL (isT3 K isS isS isS)))) hS159 h23
     exact bP (Er:=Er) (R:=sh isB) (iD (dq (by decide) (EVt.ev (fV (a8 (R:=sh (isO1 Z00 "picks" (isL (isL (isT3 K isS isS isS))))) Z07))) (a8 (R:=sh (isL (isL (isT3 K isS isS isS)))) h23)) (dq (by decide) (EVo.ev (l0 (a8 (R:=sh (isO1 Z00 "picks" (isL (isL (isT3 K isS isS isS))))) Z07) ae)) (EVo.ev (dD (f:=fun(a161:List (Tx×Tx×Tx))=>cP a161 (0:Int)) (cG (a8 (R:=sh (isL (isL (isT3 K isS isS isS)))) h23)) fun W163 a161 v162 e164 h165 Q168 k169=>by
      refine gn ?_
      exact⟨by simp[Keep,aW],((bu (EV.pk (a8 (R:=sh (isL (isT3 K isS isS isS))) h165)) ae):EV Er _ [some v162] _ _ _) _ (.refl _) _ k169⟩)))) (Res.OkE.imp hq fun y173 hq v174 W175 e176 h177=>hq v174 W175 (E0.trans e176) h177)
theorem sV {f:Addr} {fd:FuncData} (F:Fun K "law" "law" (tp 32) f fd) {gE:List Int→Int→Res Int} {ar:Int→Int→Res (List (List (Tx×Tx×Tx)))} {k4:Int→Int→Int→Res Dat} {iN:Dat→Int→Int→Res Bool} {iO:(List (List (Tx×Tx×Tx)))→Dat→Res ((List (List (Tx×Tx×Tx)))×Dat)} {jg:(List (List (Tx×Tx×Tx)))→(List (List (List Tx)))→Int→Res Bool} {am:(List (List (Tx×Tx×Tx)))→Res (List (List (Tx×Tx×Tx)))} {Z00:Addr} (Z0L:Cal P w K mg base "_law_at" ["_law_script","_law_k"] (1) (gv (isScr K) isI (rs isI) gE)) (Z1t:CalI P w K mg base "Fragment" Z00 ["self","tall","wide"] (1) (ql Z00 "picks" (oL (oL (fz (isT3 K isS isS isS)))) ar)) (Z20:Cal P w K mg base "_law_deed" ["_law_cell","_law_tall","_law_wide"] (2) (eZ isI isI isI (rs (isU K)) k4)) (Z21:Cal P w K mg base "_law_good" ["_law_deed_here","_law_tall","_law_wide"] (1) (eZ (isU K) isI isI (rs isB) iN)) (Z0v:Cal P w K mg base "_law_same" ["_law_found","_law_due"] 26 (cQ K 26)) (Z1D:Cal P w K mg base "_law_tried" ["_law_kept","_law_deed_here"] (4) (rU (oO1 Z00 "picks" (oL (oL (fz (isT3 K isS isS isS))))) (aC (isU K) aN) (isU K) (fun st a=>iO st a.1))) (Z0V:Cal P w K mg base "_law_stands" ["_law_kept","_law_grid","_law_wide"] (27) (eZ (isO1 Z00 "picks" (isL (isL (isT3 K isS isS isS)))) (isL (isL (isL isS))) isI (rs isB) jg)) (C_Fragment_sheet:CalM P w K mg base CX0 Z00 "sheet" ["self"] (1) (eP (isO1 Z00 "picks" (isL (isL (isT3 K isS isS isS)))) (sI (oL (oL (fz (isT3 K isS isS isS))))) am)) (h_range:mg "range" =none):FnOk P w K mg base CX0 (28) f fd ["_law_script"] (eP (isScr K) (rs isB) (lc gE ar k4 iN iO jg am)):=by
 have SC:FnScope ["_law_script","_law_tall","_law_wide","_law_kept","_law_beside","_law_grid","_law_blank","_law_k","_law_deed_here","_law_due","_law_side"] ["_law_script"] (defScope (tp 32)):=⟨rfl,rfl,rfl,by decide +kernel,rfl,by decide +kernel,by decide +kernel⟩
 refine F.ok SC (fun vs H Q E h=>?_) (fun cdv A outer s H vs Q E hr h=>?_)
 ·obtain⟨_,_,_,_,rfl,_⟩:=h;rfl
 ·obtain⟨W0,Z0s,Z0n,rfl,rfl,Z01,Er,hq⟩:=h
  refine⟨_,(ad (aG (i:=1) SC.nd rfl (by first | exact Or.inl rfl | exact Or.inr rfl) (aD bi (bw Z0L (hr.mono (by decide)) (by rfl) (a7 (pv 0) (a7 ac a9))) ac))
   (ad (bt (aL cv (aD bi (aD dw (bw Z0L (hr.mono (by decide)) (by rfl) (a7 (pv 0) (a7 ac a9))) ac) ac) ac (aI _)) (ai (aG (i:=1) SC.nd rfl (by first | exact Or.inl rfl | exact Or.inr rfl) (aD bi (aD dw (bw Z0L (hr.mono (by decide)) (by rfl) (a7 (pv 0) (a7 ac a9))) ac) ac))) aR)
   (ad (aG (i:=2) SC.nd rfl (by first | exact Or.inl rfl | exact Or.inr rfl) (aD dQ ac (aD bi (bw Z0L (hr.mono (by decide)) (by rfl) (a7 (pv 0) (a7 ac a9))) ac)))
   (ad (aG (i:=3) SC.nd rfl (by first | exact Or.inl rfl | exact Or.inr rfl) (la Z1t (hr.mono (by decide)) (by rfl) (a7 (pv 1) (a7 (pv 2) a9))))
   (ad (aG (i:=4) SC.nd rfl (by first | exact Or.inl rfl | exact Or.inr rfl) (la Z1t (hr.mono (by decide)) (by rfl) (a7 (pv 1) (a7 (pv 2) a9))))
   (ad (eN (i:=5) SC.nd rfl (by first | exact Or.inl rfl | exact Or.inr rfl) (N:=["_law_at_here","_law_wide"]) (cap:=[none,some 2]) (fj rfl (by decide +kernel) rfl (by decide +kernel) (by rfl) (by rfl)) rfl (cB rfl h_range (a7 (pv 1) a9)) (fun _ _ _ _=>(b6 (i:=0) (show List.Nodup (["_law_at_here","_law_wide"]:List Str) by decide +kernel) rfl (by first | exact Or.inl rfl | exact Or.inr rfl))) (fun _ _ _ _=>cq) (fun _ _ _ _=>(dh (N:=["_law_k"]) (cap:=[none]) (fj rfl (by decide +kernel) rfl (by decide +kernel) (by rfl) (by rfl)) rfl (cB rfl h_range (a7 (pv 1) a9)) (fun _ _ _ _=>(b6 (i:=0) (show List.Nodup (["_law_k"]:List Str) by decide +kernel) rfl (by first | exact Or.inl rfl | exact Or.inr rfl))) (fun _ _ _ _=>cq) (fun _ _ _ _=>(bY (a7 aj (a7 aj (a7 aj a9))))))))
   (ad (eN (i:=6) SC.nd rfl (by first | exact Or.inl rfl | exact Or.inr rfl) (N:=["_law_at_here","_law_wide"]) (cap:=[none,some 2]) (fj rfl (by decide +kernel) rfl (by decide +kernel) (by rfl) (by rfl)) rfl (cB rfl h_range (a7 (pv 1) a9)) (fun _ _ _ _=>(b6 (i:=0) (show List.Nodup (["_law_at_here","_law_wide"]:List Str) by decide +kernel) rfl (by first | exact Or.inl rfl | exact Or.inr rfl))) (fun _ _ _ _=>cq) (fun _ _ _ _=>(dh (N:=["_law_k"]) (cap:=[none]) (fj rfl (by decide +kernel) rfl (by decide +kernel) (by rfl) (by rfl)) rfl (cB rfl h_range (a7 (pv 1) a9)) (fun _ _ _ _=>(b6 (i:=0) (show List.Nodup (["_law_k"]:List Str) by decide +kernel) rfl (by first | exact Or.inl rfl | exact Or.inr rfl))) (fun _ _ _ _=>cq) (fun _ _ _ _=>(bo (a7 aj (a7 aj (a7 aj a9))))))))
   (ad (eH PassesOwn.never rfl (cB rfl h_range (a7 (aD bi (bw Z0L (hr.mono (by decide)) (by rfl) (a7 (pv 0) (a7 ac a9))) ac) a9)) (b6 (i:=7) SC.nd rfl (by first | exact Or.inl rfl | exact Or.inr rfl)) (ad (aG (i:=8) SC.nd rfl (by first | exact Or.inl rfl | exact Or.inr rfl) (bw Z20 (hr.mono (by decide)) (by rfl) (a7 (bw Z0L (hr.mono (by decide)) (by rfl) (a7 (pv 0) (a7 (aD dQ ac (aD bi (pv 7) ac)) a9))) (a7 (pv 1) (a7 (pv 2) a9)))))
   (ad (aG (i:=9) SC.nd rfl (by first | exact Or.inl rfl | exact Or.inr rfl) (bo (a7 aj (a7 (bY (a7 aj a9)) a9))))
   (ad (bt (cw (bw Z21 (hr.mono (by decide)) (by rfl) (a7 (pv 8) (a7 (pv 1) (a7 (pv 2) a9))))) (ad (aG (i:=10) SC.nd rfl (by first | exact Or.inl rfl | exact Or.inr rfl) (iw (K:=K) rfl PySem.F.plainAttrs_list PySem.F.slot_list_index PySem.F.type_list_index (m7 (K:=K) rfl) (bY (a7 aj (a7 aj (a7 aj a9)))) (a7 (aw (aO (K:=K) rfl) (pv 8) ac (fun _ _=>rfl)) a9)))
   (ad (aG (i:=9) SC.nd rfl (by first | exact Or.inl rfl | exact Or.inr rfl) (bo (a7 aj (a7 (aw (au (K:=K) rfl) (aw (au (K:=K) rfl) (aw (au (K:=K) rfl) (pv 5) (aw (aO (K:=K) rfl) (pv 8) ac (fun _ _=>rfl)) (fun _ _=>rfl)) (aw (aO (K:=K) rfl) (pv 8) ac (fun _ _=>rfl)) (fun _ _=>rfl)) (pv 10) (fun _ _=>rfl)) a9))))
   (ad (ik aj (ij (aw (au (K:=K) rfl) (aw (au (K:=K) rfl) (pv 5) (aw (aO (K:=K) rfl) (pv 8) ac (fun _ _=>rfl)) (fun _ _=>rfl)) (aw (aO (K:=K) rfl) (pv 8) ac (fun _ _=>rfl)) (fun _ _=>rfl)) (pv 10) eV))
   (ai (bt (aL cv (aw (aO (K:=K) rfl) (pv 8) ac (fun _ _=>rfl)) aj (aI _)) (ai (ik (aw (aO (K:=K) rfl) (pv 8) ac (fun _ _=>rfl)) (ij (aw (au (K:=K) rfl) (aw (au (K:=K) rfl) (pv 5) (aw (aO (K:=K) rfl) (pv 8) ac (fun _ _=>rfl)) (fun _ _=>rfl)) (aw (aO (K:=K) rfl) (pv 8) ac (fun _ _=>rfl)) (fun _ _=>rfl)) (pv 10) eV))) aR))))) aR)
   (ad (bt (du (cw (bw Z0v (hr.mono (by decide)) (by rfl) (a7 (bw Z1D (hr.mono (by decide)) (by rfl) (a7 (pv 3) (a7 (pv 8) a9))) (a7 (pv 9) a9))))) (ai (aU de)) aR)
   (ai (bt (PW.pt (fh (aL cv (aD bi (pv 7) ac) ac (aI _)) (eS (du (cw (bw Z0V (hr.mono (by decide)) (by rfl) (a7 (pv 3) (a7 (pv 5) (a7 (pv 2) a9))))))))) (ai (aU de)) aR)))))))
   (ai (aU (dP (bw Z0V (hr.mono (by decide)) (by rfl) (a7 (pv 3) (a7 (pv 5) (a7 (pv 2) a9)))) (dO (bw Z0v (hr.mono (by decide)) (by rfl) (a7 (dY C_Fragment_sheet (hr.mono (by decide)) (pv 4)) (a7 (pv 6) a9))))))))))))))),?_⟩
  have E0:Ext W0 W0:=.refl W0
  rw[show L2.start ["_law_script","_law_tall","_law_wide","_law_kept","_law_beside","_law_grid","_law_blank","_law_k","_law_deed_here","_law_due","_law_side"] [Z0n]=[some Z0n,none,none,none,none,none,none,none,none,none,none]from rfl]
  unfold lc at hq
  refine aF (Er:=Er) (i:=1) (R:=sh isI) (σ':=fun v5=>[some Z0n,some v5,none,none,none,none,none,none,none,none,none]) (aX (fun _=>by decide) (d6 (a8 (R:=sh (isScr K)) Z01) ae)) ((Res.okE_bind hq).imp fun y4 hq v5 W1 e2 h6=>?_)
  cases h6
  have E0:=E0.trans e2
  have Z01:=Mono.mono (R:=(isScr K)) e2.g Z01
  refine d9 (Er:=Er) (Iv:=fun(s29:Int) (W30:Wd) (g31:St)=>g31=[some Z0n,some (.int s29),none,none,none,none,none,none,none,none,none]∧Ext W0 W30) (aS (dz (aX (fun _=>by decide) (aX (fun _=>⟨by decide,by decide⟩) (d6 (a8 (R:=sh (isScr K)) Z01) ae))) ae)) (Res.okE_bind hq) ?_ ?_ ?_
  ·intro W11 N14 e12 hN15 hq
   have hs16:=e12.g
   have E0:=E0.trans e12
   have Z01:=Mono.mono (R:=(isScr K)) e12.g Z01
   refine dE (Er:=Er) (i:=1) (R:=sh isI) (σ':=fun v22=>[some Z0n,some v22,none,none,none,none,none,none,none,none,none]) (aX (fun _=>by decide) (aX (fun _=>⟨by decide,by decide⟩) (d6 (a8 (R:=sh (isScr K)) Z01) ae))) ((Res.okE_bind hq).imp fun y21 hq v22 W17 e18 h23=>?_)
   cases h23
   have E0:=E0.trans e18
   have hs16:=hs16.trans e18.g
   have Z01:=Mono.mono (R:=(isScr K)) e18.g Z01
   exact hN15 y21 W17 _ hs16 ⟨rfl,E0⟩ hq
  ·intro W11 N14 e12 hN15 hq
   have hs24:=e12.g
   have E0:=E0.trans e12
   have Z01:=Mono.mono (R:=(isScr K)) e12.g Z01
   try dsimp only[aE]
   exact hN15 y4 W11 _ hs24 ⟨rfl,E0⟩ hq
  ·intro s25 W26 sg27 hS28 iv hq
   obtain⟨rfl,E0⟩:=iv
   have Z01:=Mono.mono (R:=(isScr K)) hS28 Z01
   refine aF (Er:=Er) (i:=2) (R:=sh isI) (σ':=fun v37=>[some Z0n,some (.int s25),some v37,none,none,none,none,none,none,none,none]) (cM ae (aX (fun _=>by decide) (d6 (a8 (R:=sh (isScr K)) Z01) ae))) ((Res.okE_bind hq).imp fun y36 hq v37 W32 e33 h38=>?_)
   cases h38
   have E0:=E0.trans e33
   have Z01:=Mono.mono (R:=(isScr K)) e33.g Z01
   have S:Sep W0 W32 []:=Sep.nil
   refine cY (Er:=Er) (i:=3) (σ':=fun v40=>[some Z0n,some (.int s25),some (.int y36),some v40,none,none,none,none,none,none,none]) S E0 (lb (f:="picks") (a8 (R:=sh isI) (a:=s25) (v:=.int s25) rfl) (a8 (R:=sh isI) (a:=y36) (v:=.int y36) rfl)) ((Res.okE_bind hq).imp fun y39 hq v40 W41 e42 S=>?_)
   have E0:=E0.trans e42
   have Z01:=Mono.mono (R:=(isScr K)) e42.g Z01
   have S:Sep W0 W41 [tc (oO1 Z00 "picks" (oL (oL (fz (isT3 K isS isS isS))))) y39 v40]:=S
   refine cY (Er:=Er) (i:=4) (σ':=fun v44=>[some Z0n,some (.int s25),some (.int y36),some v40,some v44,none,none,none,none,none,none]) S E0 (lb (f:="picks") (a8 (R:=sh isI) (a:=s25) (v:=.int s25) rfl) (a8 (R:=sh isI) (a:=y36) (v:=.int y36) rfl)) ((Res.okE_bind hq).imp fun y43 hq v44 W45 e46 S=>?_)
   have E0:=E0.trans e46
   have Z01:=Mono.mono (R:=(isScr K)) e46.g Z01
   have S:Sep W0 W45 [tc (oO1 Z00 "picks" (oL (oL (fz (isT3 K isS isS isS))))) y39 v40,tc (oO1 Z00 "picks" (oL (oL (fz (isT3 K isS isS isS))))) y43 v44]:=S
   refine cY (Er:=Er) (i:=5) (σ':=fun v68=>[some Z0n,some (.int s25),some (.int y36),some v40,some v44,some v68,none,none,none,none,none]) S E0 (fe (f:=fun(a47:Int)=>(cF y36).bind fun y63=>bD y63 (fun(a54:Int)=>Res.ok [([63]:Tx),([63]:Tx),([63]:Tx)])) (cS (a8 (R:=sh isI) (a:=s25) (v:=.int s25) rfl)) fun W49 a47 v48 e50 h51 Q64 k65=>by
    cases h51
    refine gn ?_
    exact⟨by simp[Keep,aW],((fe (f:=fun(a54:Int)=>Res.ok [([63]:Tx),([63]:Tx),([63]:Tx)]) (cS (a8 (R:=sh isI) (a:=y36) (v:=.int y36) rfl)) fun W56 a54 v55 e57 h58 Q61 k62=>by
     cases h58
     refine gn ?_
     exact⟨by simp[Keep,aW],((EVo.tr (cj (al (ag (x:=Str.ofString "?") (l:=[63]) (bL _ _ (by decide +kernel))) (al (ag (x:=Str.ofString "?") (l:=[63]) (bL _ _ (by decide +kernel))) (al (ag (x:=Str.ofString "?") (l:=[63]) (bL _ _ (by decide +kernel))) (ci (R:=isS))))))):EVt Er _ [some (.int a54)] _ _ _) _ (.refl _) _ k62⟩):EVt Er _ [some (.int a47),some (.int y36)] _ _ _) _ (.refl _) _ k65⟩) ((Res.okE_bind hq).imp fun y67 hq v68 W69 e70 S=>?_)
   have E0:=E0.trans e70
   have Z01:=Mono.mono (R:=(isScr K)) e70.g Z01
   have S:Sep W0 W69 [tc (oO1 Z00 "picks" (oL (oL (fz (isT3 K isS isS isS))))) y39 v40,tc (oO1 Z00 "picks" (oL (oL (fz (isT3 K isS isS isS))))) y43 v44,tc (oL (oL (oL (fz isS)))) y67 v68]:=S
   refine aF (Er:=Er) (i:=6) (R:=sh (isL (isL (isT3 K isS isS isS)))) (σ':=fun v94=>[some Z0n,some (.int s25),some (.int y36),some v40,some v44,some v68,some v94,none,none,none,none]) (EVo.ev (dD (f:=fun(a73:Int)=>(cF y36).bind fun y89=>bD y89 (fun(a80:Int)=>Res.ok (([63]:Tx),([63]:Tx),([63]:Tx)))) (cS (a8 (R:=sh isI) (a:=s25) (v:=.int s25) rfl)) fun W75 a73 v74 e76 h77 Q90 k91=>by
    cases h77
    refine gn ?_
    exact⟨by simp[Keep,aW],((EVo.ev (dD (f:=fun(a80:Int)=>Res.ok (([63]:Tx),([63]:Tx),([63]:Tx))) (cS (a8 (R:=sh isI) (a:=y36) (v:=.int y36) rfl)) fun W82 a80 v81 e83 h84 Q87 k88=>by
     cases h84
     refine gn ?_
     exact⟨by simp[Keep,aW],((iE (K:=K) (ag (x:=Str.ofString "?") (l:=[63]) (bL _ _ (by decide +kernel))) (ag (x:=Str.ofString "?") (l:=[63]) (bL _ _ (by decide +kernel))) (ag (x:=Str.ofString "?") (l:=[63]) (bL _ _ (by decide +kernel)))):EV Er _ [some (.int a80)] _ _ _) _ (.refl _) _ k88⟩)):EV Er _ [some (.int a73),some (.int y36)] _ _ _) _ (.refl _) _ k91⟩)) ((Res.okE_bind hq).imp fun y93 hq v94 W71 e72 h95=>?_)
   have S:=S.ext e72
   have E0:=E0.trans e72
   have Z01:=Mono.mono (R:=(isScr K)) e72.g Z01
   refine i4 (Er:=Er) (f:=(da gE k4 iN iO jg Z0s s25 y36)) (s0:=(y39,y67)) (Iv:=fun(s100:((List (List (Tx×Tx×Tx)))×(List (List (List Tx))))) (W101:Wd) (g102:St)=>∃(d103:Option V) (d104:Option V) (d105:Option V) (d106:Option V),g102=[some Z0n,some (.int s25),some (.int y36),some v40,some v44,some v68,some v94,d106,d103,d104,d105]∧Ext W0 W101∧Sep W0 W101 [tc (oO1 Z00 "picks" (oL (oL (fz (isT3 K isS isS isS))))) s100.1 v40,tc (oO1 Z00 "picks" (oL (oL (fz (isT3 K isS isS isS))))) y43 v44,tc (oL (oL (oL (fz isS)))) s100.2 v68]) (cS (aX (fun _=>by decide) (d6 (a8 (R:=sh (isScr K)) Z01) ae))) (Res.okE_bind hq) ?_ ?_ ?_
   ·intro W118 e119
    have S:=S.ext e119
    have E0:=E0.trans e119
    have Z01:=Mono.mono (R:=(isScr K)) e119.g Z01
    have h95:=Mono.mono (R:=(isL (isL (isT3 K isS isS isS)))) e119.g h95
    exact⟨_,_,_,_,rfl,E0,S⟩
   ·intro Wb107 W108 W109 a98 v110 s99 sg111 P112 hW113 hB114 iv e115 h116 hrt117 hq
    obtain⟨d103,d104,d105,d106,rfl,E0,S⟩:=iv
    have Z01:=Mono.mono (R:=(isScr K)) hW113 Z01
    have h95:=Mono.mono (R:=(isL (isL (isT3 K isS isS isS)))) hW113 h95
    have S:=S.ext e115
    have E0:=E0.trans e115
    have hB114:=hB114.trans e115.g
    have Z01:=Mono.mono (R:=(isScr K)) e115.g Z01
    have h95:=Mono.mono (R:=(isL (isL (isT3 K isS isS isS)))) e115.g h95
    cases h116
    refine gn (σ':=[some Z0n,some (.int s25),some (.int y36),some v40,some v44,some v68,some v94,some (.int a98),d103,d104,d105]) ?_
    unfold da at hq
    refine aF (Er:=Er) (i:=8) (R:=sh (isU K)) (σ':=fun v126=>[some Z0n,some (.int s25),some (.int y36),some v40,some v44,some v68,some v94,some (.int a98),some v126,d104,d105]) (f6 (d6 (a8 (R:=sh (isScr K)) Z01) (cM ae (aX (fun _=>by decide) (a8 (R:=sh isI) (a:=a98) (v:=.int a98) rfl)))) (a8 (R:=sh isI) (a:=s25) (v:=.int s25) rfl) (a8 (R:=sh isI) (a:=y36) (v:=.int y36) rfl)) ((Res.okE_bind hq).imp fun y125 hq v126 W122 e123 h127=>?_)
    have S:=S.ext e123
    have E0:=E0.trans e123
    have hB114:=hB114.trans e123.g
    have Z01:=Mono.mono (R:=(isScr K)) e123.g Z01
    have h95:=Mono.mono (R:=(isL (isL (isT3 K isS isS isS)))) e123.g h95
    refine aF (Er:=Er) (i:=9) (R:=sh (isU K)) (σ':=fun v130=>[some Z0n,some (.int s25),some (.int y36),some v40,some v44,some v68,some v94,some (.int a98),some v126,some v130,d105]) (fm (K:=K) (u:=fun(z:Tx×(List Tx))=>Dat.t [Dat.s z.1,Dat.l (z.2.map fun(z:Tx)=>Dat.s z)]) (kR dn (qG (u:=fun(z:Tx)=>Dat.s z) dn)) (bq (K:=K) (ag (x:=Str.ofString "refused") (l:=[114,101,102,117,115,101,100]) (bL _ _ (by decide +kernel))) (EVo.ev (cj (al (ag (x:=Str.ofString "BadMark") (l:=[66,97,100,77,97,114,107]) (bL _ _ (by decide +kernel))) (ci (R:=isS))))))) (fun v130 W128 e129 h131=>?_)
    have S:=S.ext e129
    have E0:=E0.trans e129
    have hB114:=hB114.trans e129.g
    have Z01:=Mono.mono (R:=(isScr K)) e129.g Z01
    have h95:=Mono.mono (R:=(isL (isL (isT3 K isS isS isS)))) e129.g h95
    have h127:=Mono.mono (R:=(isU K)) e129.g h127
    refine d9 (Er:=Er) (Iv:=fun(s201:(Dat×(List (List (List Tx))))) (W202:Wd) (g203:St)=>∃(v204:V) (d206:Option V),g203=[some Z0n,some (.int s25),some (.int y36),some v40,some v44,some v68,some v94,some (.int a98),some v126,some v204,d206]∧Ext W0 W202∧(isU K) W202.G s201.1 v204∧Sep W0 W202 [tc (oO1 Z00 "picks" (oL (oL (fz (isT3 K isS isS isS))))) s99.1 v40,tc (oO1 Z00 "picks" (oL (oL (fz (isT3 K isS isS isS))))) y43 v44,tc (oL (oL (oL (fz isS)))) s201.2 v68]) (j4 (f6 (a8 (R:=sh (isU K)) h127) (a8 (R:=sh isI) (a:=s25) (v:=.int s25) rfl) (a8 (R:=sh isI) (a:=y36) (v:=.int y36) rfl))) (Res.okE_bind hq) ?_ ?_ ?_
    ·intro W133 N136 e134 hN137 hq
     have hs138:=e134.g
     have S:=S.ext e134
     have E0:=E0.trans e134
     have hB114:=hB114.trans e134.g
     have Z01:=Mono.mono (R:=(isScr K)) e134.g Z01
     have h95:=Mono.mono (R:=(isL (isL (isT3 K isS isS isS)))) e134.g h95
     have h127:=Mono.mono (R:=(isU K)) e134.g h127
     have h131:=Mono.mono (R:=(isU K)) e134.g h131
     refine aF (Er:=Er) (i:=10) (R:=sh isI) (σ':=fun v144=>[some Z0n,some (.int s25),some (.int y36),some v40,some v44,some v68,some v94,some (.int a98),some v126,some v130,some v144]) (mj (EVo.pk (cj (al (ag (x:=Str.ofString "face") (l:=[102,97,99,101]) (bL _ _ (by decide +kernel))) (al (ag (x:=Str.ofString "back") (l:=[98,97,99,107]) (bL _ _ (by decide +kernel))) (al (ag (x:=Str.ofString "slant") (l:=[115,108,97,110,116]) (bL _ _ (by decide +kernel))) (ci (R:=isS))))))) (b9 (K:=K) cV (aY (a8 (R:=sh (isU K)) h127) ae))) ((Res.okE_bind hq).imp fun y143 hq v144 W139 e140 h145=>?_)
     cases h145
     have S:=S.ext e140
     have E0:=E0.trans e140
     have hB114:=hB114.trans e140.g
     have hs138:=hs138.trans e140.g
     have Z01:=Mono.mono (R:=(isScr K)) e140.g Z01
     have h95:=Mono.mono (R:=(isL (isL (isT3 K isS isS isS)))) e140.g h95
     have h127:=Mono.mono (R:=(isU K)) e140.g h127
     have h131:=Mono.mono (R:=(isU K)) e140.g h131
     refine aF (Er:=Er) (i:=9) (R:=sh (isU K)) (σ':=fun v157=>[some Z0n,some (.int s25),some (.int y36),some v40,some v44,some v68,some v94,some (.int a98),some v126,some v157,some (.int y143)]) (fm (K:=K) (kR dn dn) (bq (K:=K) (ag (x:=Str.ofString "told") (l:=[116,111,108,100]) (bL _ _ (by decide +kernel))) (iJ (eo (eo (eo (fU (R:=(oL (oL (oL (fz isS))))) (k:=2) S) (b9 (K:=K) di (aY (a8 (R:=sh (isU K)) h127) ae))) (b9 (K:=K) di (aY (a8 (R:=sh (isU K)) h127) ae))) (a8 (R:=sh isI) (a:=y143) (v:=.int y143) rfl))))) ((Res.okE_bind hq).imp fun y156 hq v157 W146 e147 h158=>?_)
     have S:=S.ext e147
     have E0:=E0.trans e147
     have hB114:=hB114.trans e147.g
     have hs138:=hs138.trans e147.g
     have Z01:=Mono.mono (R:=(isScr K)) e147.g Z01
     have h95:=Mono.mono (R:=(isL (isL (isT3 K isS isS isS)))) e147.g h95
     have h127:=Mono.mono (R:=(isU K)) e147.g h127
     refine i9 (Er:=Er) (R:=isS) E0 (ag (x:=Str.ofString "?") (l:=[63]) (bL _ _ (by decide +kernel))) (jb (jb (ft (R:=(oL (oL (oL (fz isS))))) (C:=fun bb=>[tc (oO1 Z00 "picks" (oL (oL (fz (isT3 K isS isS isS))))) s99.1 v40,tc (oO1 Z00 "picks" (oL (oL (fz (isT3 K isS isS isS))))) y43 v44,tc (oL (oL (oL (fz isS)))) bb v68]) (k:=2) S E0) (b9 (K:=K) di (aY (a8 (R:=sh (isU K)) h127) ae))) (b9 (K:=K) di (aY (a8 (R:=sh (isU K)) h127) ae))) (a8 (R:=sh isI) (a:=y143) (v:=.int y143) rfl) ((Res.okE_bind hq).imp fun y165 hq W166 hS167 E0 S=>?_)
     have S:Sep W0 W166 [tc (oO1 Z00 "picks" (oL (oL (fz (isT3 K isS isS isS))))) s99.1 v40,tc (oO1 Z00 "picks" (oL (oL (fz (isT3 K isS isS isS))))) y43 v44,tc (oL (oL (oL (fz isS)))) y165 v68]:=S
     have hB114:=hB114.trans hS167
     have hs138:=hs138.trans hS167
     have Z01:=Mono.mono (R:=(isScr K)) hS167 Z01
     have h95:=Mono.mono (R:=(isL (isL (isT3 K isS isS isS)))) hS167 h95
     have h127:=Mono.mono (R:=(isU K)) hS167 h127
     have h158:=Mono.mono (R:=(isU K)) hS167 h158
     refine jG (Er:=Er) (Iv:=fun(s193:(List (List (List Tx)))) (W194:Wd) (g195:St)=>g195=[some Z0n,some (.int s25),some (.int y36),some v40,some v44,some v68,some v94,some (.int a98),some v126,some v157,some (.int y143)]∧Ext W0 W194∧Sep W0 W194 [tc (oO1 Z00 "picks" (oL (oL (fz (isT3 K isS isS isS))))) s99.1 v40,tc (oO1 Z00 "picks" (oL (oL (fz (isT3 K isS isS isS))))) y43 v44,tc (oL (oL (oL (fz isS)))) s193 v68]) (aS (dA (b9 (K:=K) cV (aY (a8 (R:=sh (isU K)) h127) ae)) (ag (x:=Str.ofString "spot") (l:=[115,112,111,116]) (bL _ _ (by decide +kernel))))) (Res.okE_bind hq) ?_ ?_ ?_
     ·intro W171 N174 e172 hN175 hq
      have hs176:=e172.g
      have S:=S.ext e172
      have E0:=E0.trans e172
      have hB114:=hB114.trans e172.g
      have hs138:=hs138.trans e172.g
      have Z01:=Mono.mono (R:=(isScr K)) e172.g Z01
      have h95:=Mono.mono (R:=(isL (isL (isT3 K isS isS isS)))) e172.g h95
      have h127:=Mono.mono (R:=(isU K)) e172.g h127
      have h158:=Mono.mono (R:=(isU K)) e172.g h158
      refine iK (Er:=Er) (R:=isS) E0 (b9 (K:=K) cV (aY (a8 (R:=sh (isU K)) h127) ae)) (jb (jb (ft (R:=(oL (oL (oL (fz isS))))) (C:=fun bb=>[tc (oO1 Z00 "picks" (oL (oL (fz (isT3 K isS isS isS))))) s99.1 v40,tc (oO1 Z00 "picks" (oL (oL (fz (isT3 K isS isS isS))))) y43 v44,tc (oL (oL (oL (fz isS)))) bb v68]) (k:=2) S E0) (b9 (K:=K) di (aY (a8 (R:=sh (isU K)) h127) ae))) (b9 (K:=K) di (aY (a8 (R:=sh (isU K)) h127) ae))) (a8 (R:=sh isI) (a:=y143) (v:=.int y143) rfl) ((Res.okE_bind hq).imp fun y185 hq W186 hS187 E0 S=>?_)
      have S:Sep W0 W186 [tc (oO1 Z00 "picks" (oL (oL (fz (isT3 K isS isS isS))))) s99.1 v40,tc (oO1 Z00 "picks" (oL (oL (fz (isT3 K isS isS isS))))) y43 v44,tc (oL (oL (oL (fz isS)))) y185 v68]:=S
      have hB114:=hB114.trans hS187
      have hs138:=hs138.trans hS187
      have hs176:=hs176.trans hS187
      have Z01:=Mono.mono (R:=(isScr K)) hS187 Z01
      have h95:=Mono.mono (R:=(isL (isL (isT3 K isS isS isS)))) hS187 h95
      have h127:=Mono.mono (R:=(isU K)) hS187 h127
      have h158:=Mono.mono (R:=(isU K)) hS187 h158
      exact hN175 y185 W186 _ hs176 ⟨rfl,E0,S⟩ hq
     ·intro W171 N174 e172 hN175 hq
      have hs188:=e172.g
      have S:=S.ext e172
      have E0:=E0.trans e172
      have hB114:=hB114.trans e172.g
      have hs138:=hs138.trans e172.g
      have Z01:=Mono.mono (R:=(isScr K)) e172.g Z01
      have h95:=Mono.mono (R:=(isL (isL (isT3 K isS isS isS)))) e172.g h95
      have h127:=Mono.mono (R:=(isU K)) e172.g h127
      have h158:=Mono.mono (R:=(isU K)) e172.g h158
      try dsimp only[aE]
      exact hN175 y165 W171 _ hs188 ⟨rfl,E0,S⟩ hq
     ·intro s189 W190 sg191 hS192 iv hq
      obtain⟨rfl,E0,S⟩:=iv
      have hB114:=hB114.trans hS192
      have hs138:=hs138.trans hS192
      have Z01:=Mono.mono (R:=(isScr K)) hS192 Z01
      have h95:=Mono.mono (R:=(isL (isL (isT3 K isS isS isS)))) hS192 h95
      have h127:=Mono.mono (R:=(isU K)) hS192 h127
      have h158:=Mono.mono (R:=(isU K)) hS192 h158
      exact hN137 (y156,s189) W190 _ hs138 ⟨_,_,rfl,E0,h158,S⟩ hq
    ·intro W133 N136 e134 hN137 hq
     have hs196:=e134.g
     have S:=S.ext e134
     have E0:=E0.trans e134
     have hB114:=hB114.trans e134.g
     have Z01:=Mono.mono (R:=(isScr K)) e134.g Z01
     have h95:=Mono.mono (R:=(isL (isL (isT3 K isS isS isS)))) e134.g h95
     have h127:=Mono.mono (R:=(isU K)) e134.g h127
     have h131:=Mono.mono (R:=(isU K)) e134.g h131
     try dsimp only[aE]
     exact hN137 ((fun(z:Tx×(List Tx))=>Dat.t [Dat.s z.1,Dat.l (z.2.map fun(z:Tx)=>Dat.s z)]) (([114,101,102,117,115,101,100]:Tx),[([66,97,100,77,97,114,107]:Tx)]),s99.2) W133 _ hs196 ⟨_,_,rfl,E0,h131,S⟩ hq
    ·intro s197 W198 sg199 hS200 iv hq
     obtain⟨v204,d206,rfl,E0,h205,S⟩:=iv
     have hB114:=hB114.trans hS200
     have Z01:=Mono.mono (R:=(isScr K)) hS200 Z01
     have h95:=Mono.mono (R:=(isL (isL (isT3 K isS isS isS)))) hS200 h95
     have h127:=Mono.mono (R:=(isU K)) hS200 h127
     refine jf (Er:=Er) (K:=K) (k:=0) (i:=3) (by decide) S E0 rfl rfl (bj (a8 (R:=sh (isU K)) h127) ff) (fun W207 hS208=>(have h209:=Mono.mono (R:=(isU K)) hS208 h205;(a8 (R:=sh (isU K)) h209))) ((Res.okE_bind hq).imp fun y210 hq W211 E0 hS212 S=>?_)
     have S:Sep W0 W211 [tc (oO1 Z00 "picks" (oL (oL (fz (isT3 K isS isS isS))))) y210.1 v40,tc (oO1 Z00 "picks" (oL (oL (fz (isT3 K isS isS isS))))) y43 v44,tc (oL (oL (oL (fz isS)))) s197.2 v68]:=S
     have hB114:=hB114.trans hS212
     have Z01:=Mono.mono (R:=(isScr K)) hS212 Z01
     have h95:=Mono.mono (R:=(isL (isL (isT3 K isS isS isS)))) hS212 h95
     have h127:=Mono.mono (R:=(isU K)) hS212 h127
     have h205:=Mono.mono (R:=(isU K)) hS212 h205
     by_cases hb213:y210.2=true
     ·rw[if_pos hb213]at hq ⊢
      try dsimp only[aE]
      refine qF (Er:=Er) (gB (R:=(oO1 Z00 "picks" (oL (oL (fz (isT3 K isS isS isS)))))) 0 S E0 rfl fun W214 hS215 E0 S h216=>(have S:Sep W0 W214 [tc (oO1 Z00 "picks" (oL (oL (fz (isT3 K isS isS isS))))) y43 v44,tc (oL (oL (oL (fz isS)))) s197.2 v68]:=S;(gB (R:=(oL (oL (oL (fz isS))))) 1 S E0 rfl fun W217 hS218 E0 S h219=>(have S:Sep W0 W217 [tc (oO1 Z00 "picks" (oL (oL (fz (isT3 K isS isS isS))))) y43 v44]:=S;have h216:=Mono.mono (R:=(isO1 Z00 "picks" (isL (isL (isT3 K isS isS isS))))) hS218 h216;(iC (aS (dz (aX (fun _=>by decide) (a8 (R:=sh isI) (a:=a98) (v:=.int a98) rfl)) ae)) (gu (j4 (f6 (a8 (R:=sh (isO1 Z00 "picks" (isL (isL (isT3 K isS isS isS))))) h216) (a8 (R:=sh (isL (isL (isL isS)))) h219) (a8 (R:=sh isI) (a:=y36) (v:=.int y36) rfl))))))))) ((Res.okE_bind hq).imp fun y221 hq W222 e223=>?_)
      have S:=S.ext e223
      have E0:=E0.trans e223
      have hB114:=hB114.trans e223.g
      have Z01:=Mono.mono (R:=(isScr K)) e223.g Z01
      have h95:=Mono.mono (R:=(isL (isL (isT3 K isS isS isS)))) e223.g h95
      have h127:=Mono.mono (R:=(isU K)) e223.g h127
      have h205:=Mono.mono (R:=(isU K)) e223.g h205
      by_cases hb227:y221=true
      ·rw[if_pos hb227]at hq ⊢
       exact bP (Er:=Er) (R:=sh isB) gm (fun v224 W225 e226 h227=>(hrt117 _ hq) v224 W225 (E0.trans e226) h227)
      ·rw[if_neg hb227]at hq ⊢
       try dsimp only[aE]
       try dsimp only
       refine gw (W:=W222) (y210.1,s197.2) hB114 ?_ hq
       exact⟨_,_,_,_,rfl,E0,S⟩
     ·rw[if_neg hb213]at hq ⊢
      exact bP (Er:=Er) (R:=sh isB) gm (fun v228 W229 e230 h231=>(hrt117 _ hq) v228 W229 (E0.trans e230) h231)
   ·intro s233 W234 sg235 hS236 iv hq
    obtain⟨d103,d104,d105,d106,rfl,E0,S⟩:=iv
    have h95:=Mono.mono (R:=(isL (isL (isT3 K isS isS isS)))) hS236 h95
    obtain⟨W237,hH238,E0,hS239,S,h240⟩:=Sep.frz (R:=(oO1 Z00 "picks" (oL (oL (fz (isT3 K isS isS isS)))))) (i:=0) S E0 rfl
    rw[←hH238]
    have S:Sep W0 W237 [tc (oO1 Z00 "picks" (oL (oL (fz (isT3 K isS isS isS))))) y43 v44,tc (oL (oL (oL (fz isS)))) s233.2 v68]:=S
    have h95:=Mono.mono (R:=(isL (isL (isT3 K isS isS isS)))) hS239 h95
    obtain⟨W241,hH242,E0,hS243,S,h244⟩:=Sep.frz (R:=(oL (oL (oL (fz isS))))) (i:=1) S E0 rfl
    rw[←hH242]
    have S:Sep W0 W241 [tc (oO1 Z00 "picks" (oL (oL (fz (isT3 K isS isS isS))))) y43 v44]:=S
    have h95:=Mono.mono (R:=(isL (isL (isT3 K isS isS isS)))) hS243 h95
    have h240:=Mono.mono (R:=(isO1 Z00 "picks" (isL (isL (isT3 K isS isS isS))))) hS243 h240
    obtain⟨W245,hH246,E0,hS247,S,h248⟩:=Sep.frz (R:=(oO1 Z00 "picks" (oL (oL (fz (isT3 K isS isS isS)))))) (i:=0) S E0 rfl
    rw[←hH246]
    have S:Sep W0 W245 []:=S
    have h95:=Mono.mono (R:=(isL (isL (isT3 K isS isS isS)))) hS247 h95
    have h240:=Mono.mono (R:=(isO1 Z00 "picks" (isL (isL (isT3 K isS isS isS))))) hS247 h240
    have h244:=Mono.mono (R:=(isL (isL (isL isS)))) hS247 h244
    exact bP (Er:=Er) (R:=sh isB) (iD (f6 (a8 (R:=sh (isO1 Z00 "picks" (isL (isL (isT3 K isS isS isS))))) h240) (a8 (R:=sh (isL (isL (isL isS)))) h244) (a8 (R:=sh isI) (a:=y36) (v:=.int y36) rfl)) (dq (by decide) (EVt.ev (fV (a8 (R:=sh (isO1 Z00 "picks" (isL (isL (isT3 K isS isS isS))))) h248))) (a8 (R:=sh (isL (isL (isT3 K isS isS isS)))) h95))) (Res.OkE.imp hq fun y251 hq v252 W253 e254 h255=>hq v252 W253 (E0.trans e254) h255)
end
end Wb
namespace Wb
open PySem L2
section
variable {P:Program} {w:World} {K:PySem.W.Frag} {mg:Str→Option Value} {base:Heap}
theorem qp {f:Addr} {fd:FuncData} {ps:List Str} {k:Nat} :FnOk P w K mg base CX0 k f fd ps (cQ K 0):=⟨fun _ _ _ _ h=>h.elim,fun _ _ _ _ _ _ _ _ _ _ _ _ _ h=>h.elim⟩
theorem kit {K:PySem.W.Frag} (a b:String) (r:Bool) (h:PySem.W.kitOne [] (.type a) (.type b)=some r):PySem.W.kitOne K (.type a) (.type b)=some r:=by first | exact h | (rw[←h];rfl)
theorem dZ {c:TT} {t rest:TS} {D:Ends} {σ:St} {H:Hp} (h:∀Q:Bool→Hp→Prop,Q false H→c σ H Q) (k:rest D σ H):cZ (eT c t aE) rest D σ H:=h _ k
theorem jh {c:TT} {t rest:TS} {D:Ends} {σ:St} {H:Hp} (h:∀Q:Bool→Hp→Prop,Q true H→c σ H Q) (k:t {D with nx:=rest D} σ H):cZ (eT c t aE) rest D σ H:=h _ k
theorem ow {f:Addr} {fd:FuncData} (F:Fun K "_law_same" "_law_same" (tp 26) f fd) (h_len:mg "len" =none) (h_isinstance:mg "isinstance" =none) (h_bool:mg "bool" =none) (h_int:mg "int" =none) (h_str:mg "str" =none) (h_list:mg "list" =none) (h_tuple:mg "tuple" =none) (h_zip:mg "zip" =none) {n:Nat}
  (Z0v:Cal P w K mg base "_law_same" ["_law_found","_law_due"] n (cQ K n)):FnOk P w K mg base CX0 (n+1) f fd ["_law_found","_law_due"] (cQ K (n+1)):=by
 have SC:FnScope ["_law_found","_law_due","_law_one","_law_other"] ["_law_found","_law_due"] (defScope (tp 26)):=⟨rfl,rfl,rfl,by decide +kernel,rfl,by decide +kernel,by decide +kernel⟩
 refine F.ok SC (fun vs H Q E h=>?_) (fun cdv A outer s H vs Q E hr h=>?_)
 ·obtain⟨v,u,rfl,_⟩:=h;rfl
 ·obtain⟨v,u,rfl,h⟩:=h
  have hr:Room n _:=hr
  refine⟨_,(ad (bt (PW.pt (fD (aL (op_isN.or gh) (pv 1) qU (aI _)) (fD (aL (op_isN.or gh) (pv 1) de (aI _)) (fZ (aL (op_isN.or gh) (pv 1) de (aI _)))))) (ai (aU (dP (cz cv (aq (ba (K:=K) rfl) (by rfl) h_isinstance PyProof.Rows.boot_isinstance (a7 (pv 0) (a7 (cy (v:=.ty "bool") (by rfl) h_bool PyProof.Rows.boot_bool rfl) a9))) (aq (ba (K:=K) rfl) (by rfl) h_isinstance PyProof.Rows.boot_isinstance (a7 (pv 1) (a7 (cy (v:=.ty "bool") (by rfl) h_bool PyProof.Rows.boot_bool rfl) a9))) (aI _)) (dO (cz cv (pv 0) (pv 1) (aI _)))))) aR)
   (ad (bt (cw (aq (ba (K:=K) rfl) (by rfl) h_isinstance PyProof.Rows.boot_isinstance (a7 (pv 1) (a7 (cy (v:=.ty "int") (by rfl) h_int PyProof.Rows.boot_int rfl) a9)))) (ai (aU (dP (aq (ba (K:=K) rfl) (by rfl) h_isinstance PyProof.Rows.boot_isinstance (a7 (pv 0) (a7 (cy (v:=.ty "int") (by rfl) h_int PyProof.Rows.boot_int rfl) a9))) (dP (jp (aq (ba (K:=K) rfl) (by rfl) h_isinstance PyProof.Rows.boot_isinstance (a7 (pv 0) (a7 (cy (v:=.ty "bool") (by rfl) h_bool PyProof.Rows.boot_bool rfl) a9)))) (dO (cz cv (pv 0) (pv 1) (aI _))))))) aR)
   (ad (bt (cw (aq (ba (K:=K) rfl) (by rfl) h_isinstance PyProof.Rows.boot_isinstance (a7 (pv 1) (a7 (cy (v:=.ty "str") (by rfl) h_str PyProof.Rows.boot_str rfl) a9)))) (ai (aU (dP (aq (ba (K:=K) rfl) (by rfl) h_isinstance PyProof.Rows.boot_isinstance (a7 (pv 0) (a7 (cy (v:=.ty "str") (by rfl) h_str PyProof.Rows.boot_str rfl) a9))) (dO (cz cv (pv 0) (pv 1) (aI _)))))) aR)
   (ad (bt (PW.pt (fh (cw (aq (ba (K:=K) rfl) (by rfl) h_isinstance PyProof.Rows.boot_isinstance (a7 (pv 1) (a7 (cy (v:=.ty "list") (by rfl) h_list PyProof.Rows.boot_list rfl) a9)))) (eS (du (cw (aq (ba (K:=K) rfl) (by rfl) h_isinstance PyProof.Rows.boot_isinstance (a7 (pv 0) (a7 (cy (v:=.ty "list") (by rfl) h_list PyProof.Rows.boot_list rfl) a9)))))))) (ai (aU de)) aR)
   (ad (bt (PW.pt (fh (cw (aq (ba (K:=K) rfl) (by rfl) h_isinstance PyProof.Rows.boot_isinstance (a7 (pv 1) (a7 (cy (v:=.ty "tuple") (by rfl) h_tuple PyProof.Rows.boot_tuple rfl) a9)))) (eS (du (cw (aq (ba (K:=K) rfl) (by rfl) h_isinstance PyProof.Rows.boot_isinstance (a7 (pv 0) (a7 (cy (v:=.ty "tuple") (by rfl) h_tuple PyProof.Rows.boot_tuple rfl) a9)))))))) (ai (aU de)) aR)
   (ad (bt (aL iS (aq (cD (K:=K) rfl) (by rfl) h_len PySem.boot_len (a7 (pv 0) a9)) (aq (cD (K:=K) rfl) (by rfl) h_len PySem.boot_len (a7 (pv 1) a9)) (aI _)) (ai (aU de)) aR)
   (ad (eH PassesOwn.never rfl (pC (K:=K) rfl rfl h_zip (a7 (pv 0) (a7 (pv 1) a9))) (pA (K:=K) (n:=2) rfl rfl (eU (b6 (i:=2) SC.nd rfl (by first | exact Or.inl rfl | exact Or.inr rfl)) (eU (b6 (i:=3) SC.nd rfl (by first | exact Or.inl rfl | exact Or.inr rfl)) km))) (ai (bt (du (cw (bw Z0v hr (by rfl) (a7 (pv 2) (a7 (pv 3) a9))))) (ai (aU de)) aR)))
   (ai (aU de))))))))),?_⟩
  rcases h with⟨he,q⟩ | ⟨x,y,rfl,rfl,q⟩
  rotate_left
  ·refine dZ (fun Q q=>?_) (dZ (fun Q q=>?_) (jh (fun Q q=>?_) ?_))
   ·simp only[bh,cC,aZ,tC,cW,af,aJ,bC,aE,bn,aQ,bN,bc,bW,tB,dg,rI,bE,bR,aM,aT,dL,bU,dJ,bM,bf,bV,bg,dc,bF,aK,dl,dG,dM,bX,c0,bH,bS,bZ,av,L2.start,List.map_cons,List.map_nil,List.cons_append,List.nil_append,List.append_nil,List.length_cons,List.length_nil,List.replicate,List.set_cons_zero,List.set_cons_succ,List.getElem?_cons_zero,List.getElem?_cons_succ,Option.some.injEq,exists_eq_left',exists_eq_left,exists_and_left,exists_eq',exists_const,V.int.injEq,V.bl.injEq,V.str.injEq,V.ref.injEq,V.ty.injEq,List.cons.injEq,and_true,true_and,reduceCtorEq,false_and,and_false,exists_false,or_false,false_or,decide_eq_true_eq,Bool.not_eq_true',decide_eq_false_iff_not,if_true,if_false,Bool.false_eq_true,ite_true,ite_false,Bool.not_true,Bool.not_false,Nat.reduceAdd,Nat.reduceSub,and_assoc];exact q
   ·simp only[bh,cC,aZ,tC,cW,af,aJ,bC,aE,bn,aQ,bN,bc,bW,tB,dg,rI,bE,bR,aM,aT,dL,bU,dJ,bM,bf,bV,bg,dc,bF,aK,dl,dG,dM,bX,c0,bH,bS,bZ,av,L2.start,List.map_cons,List.map_nil,List.cons_append,List.nil_append,List.append_nil,List.length_cons,List.length_nil,List.replicate,List.set_cons_zero,List.set_cons_succ,List.getElem?_cons_zero,List.getElem?_cons_succ,Option.some.injEq,exists_eq_left',exists_eq_left,exists_and_left,exists_eq',exists_const,V.int.injEq,V.bl.injEq,V.str.injEq,V.ref.injEq,V.ty.injEq,List.cons.injEq,and_true,true_and,reduceCtorEq,false_and,and_false,exists_false,or_false,false_or,decide_eq_true_eq,Bool.not_eq_true',decide_eq_false_iff_not,if_true,if_false,Bool.false_eq_true,ite_true,ite_false,Bool.not_true,Bool.not_false,Nat.reduceAdd,Nat.reduceSub,and_assoc];exact⟨_,.str _,_,kit "str" "int" false rfl,q⟩
   ·simp only[bh,cC,aZ,tC,cW,af,aJ,bC,aE,bn,aQ,bN,bc,bW,tB,dg,rI,bE,bR,aM,aT,dL,bU,dJ,bM,bf,bV,bg,dc,bF,aK,dl,dG,dM,bX,c0,bH,bS,bZ,av,L2.start,List.map_cons,List.map_nil,List.cons_append,List.nil_append,List.append_nil,List.length_cons,List.length_nil,List.replicate,List.set_cons_zero,List.set_cons_succ,List.getElem?_cons_zero,List.getElem?_cons_succ,Option.some.injEq,exists_eq_left',exists_eq_left,exists_and_left,exists_eq',exists_const,V.int.injEq,V.bl.injEq,V.str.injEq,V.ref.injEq,V.ty.injEq,List.cons.injEq,and_true,true_and,reduceCtorEq,false_and,and_false,exists_false,or_false,false_or,decide_eq_true_eq,Bool.not_eq_true',decide_eq_false_iff_not,if_true,if_false,Bool.false_eq_true,ite_true,ite_false,Bool.not_true,Bool.not_false,Nat.reduceAdd,Nat.reduceSub,and_assoc];exact⟨_,.str _,_,kit "str" "str" true rfl,q⟩
   ·simp only[bh,cC,aZ,tC,cW,af,aJ,bC,aE,bn,aQ,bN,bc,bW,tB,dg,rI,bE,bR,aM,aT,dL,bU,dJ,bM,bf,bV,bg,dc,bF,aK,dl,dG,dM,bX,c0,bH,bS,bZ,av,L2.start,List.map_cons,List.map_nil,List.cons_append,List.nil_append,List.append_nil,List.length_cons,List.length_nil,List.replicate,List.set_cons_zero,List.set_cons_succ,List.getElem?_cons_zero,List.getElem?_cons_succ,Option.some.injEq,exists_eq_left',exists_eq_left,exists_and_left,exists_eq',exists_const,V.int.injEq,V.bl.injEq,V.str.injEq,V.ref.injEq,V.ty.injEq,List.cons.injEq,and_true,true_and,reduceCtorEq,false_and,and_false,exists_false,or_false,false_or,decide_eq_true_eq,Bool.not_eq_true',decide_eq_false_iff_not,if_true,if_false,Bool.false_eq_true,ite_true,ite_false,Bool.not_true,Bool.not_false,Nat.reduceAdd,Nat.reduceSub,and_assoc]
    refine⟨_,.str _,_,kit "str" "str" true rfl,?_⟩
    simp only[bh,cC,aZ,tC,cW,af,aJ,bC,aE,bn,aQ,bN,bc,bW,tB,dg,rI,bE,bR,aM,aT,dL,bU,dJ,bM,bf,bV,bg,dc,bF,aK,dl,dG,dM,bX,c0,bH,bS,bZ,av,L2.start,List.map_cons,List.map_nil,List.cons_append,List.nil_append,List.append_nil,List.length_cons,List.length_nil,List.replicate,List.set_cons_zero,List.set_cons_succ,List.getElem?_cons_zero,List.getElem?_cons_succ,Option.some.injEq,exists_eq_left',exists_eq_left,exists_and_left,exists_eq',exists_const,V.int.injEq,V.bl.injEq,V.str.injEq,V.ref.injEq,V.ty.injEq,List.cons.injEq,and_true,true_and,reduceCtorEq,false_and,and_false,exists_false,or_false,false_or,decide_eq_true_eq,Bool.not_eq_true',decide_eq_false_iff_not,if_true,if_false,Bool.false_eq_true,ite_true,ite_false,Bool.not_true,Bool.not_false,Nat.reduceAdd,Nat.reduceSub,and_assoc]
    simpa using q
  have fl:∀v,L2.flat v=true→(∀H',Same H H'→Q (.bl true) H')→(v=.non∨(∃b,v=.bl b)∨(∃i,v=.int i)∨∃x,v=.str x):=fun v hv _=>by
   cases v with
   | non=>exact .inl rfl
   | bl b=>exact .inr (.inl ⟨b,rfl⟩)
   | int b=>exact .inr (.inr (.inl ⟨b,rfl⟩))
   | str b=>exact .inr (.inr (.inr ⟨b,rfl⟩))
   | _=>cases hv
  have he':(v=u∧L2.flat v=true)∨∃m p q xs ys,n=m+1∧v=.ref p∧u=.ref q∧((H p=some (.lst xs)∧H q=some (.lst ys))∨(SqT K H p xs∧SqT K H q ys))∧xs.length=ys.length∧∀(i:Nat) (x y:V),xs[i]? =some x→ys[i]? =some y→EqK K H m x y:=by
   cases n with
   | zero=>exact .inl he
   | succ m=>rcases he with z | ⟨p,q,xs,ys,z⟩;exact .inl z;exact .inr ⟨m,p,q,xs,ys,rfl,z⟩
  rcases he' with⟨rfl,hf⟩ | ⟨m,p,q',xs,ys,hnm,rfl,rfl,hk,hl,hi⟩
  ·rcases fl v hf q with rfl | ⟨b,rfl⟩ | ⟨i,rfl⟩ | ⟨x,rfl⟩
   ·refine jh (fun Q q=>?_) ?_
    ·simp only[bh,cC,aZ,tC,cW,af,aJ,bC,aE,bn,aQ,bN,bc,bW,tB,dg,rI,bE,bR,aM,aT,dL,bU,dJ,bM,bf,bV,bg,dc,bF,aK,dl,dG,dM,bX,c0,bH,bS,bZ,av,L2.start,List.map_cons,List.map_nil,List.cons_append,List.nil_append,List.append_nil,List.length_cons,List.length_nil,List.replicate,List.set_cons_zero,List.set_cons_succ,List.getElem?_cons_zero,List.getElem?_cons_succ,Option.some.injEq,exists_eq_left',exists_eq_left,exists_and_left,exists_eq',exists_const,V.int.injEq,V.bl.injEq,V.str.injEq,V.ref.injEq,V.ty.injEq,List.cons.injEq,and_true,true_and,reduceCtorEq,false_and,and_false,exists_false,or_false,false_or,decide_eq_true_eq,Bool.not_eq_true',decide_eq_false_iff_not,if_true,if_false,Bool.false_eq_true,ite_true,ite_false,Bool.not_true,Bool.not_false,Nat.reduceAdd,Nat.reduceSub,and_assoc];exact q
    ·simp only[bh,cC,aZ,tC,cW,af,aJ,bC,aE,bn,aQ,bN,bc,bW,tB,dg,rI,bE,bR,aM,aT,dL,bU,dJ,bM,bf,bV,bg,dc,bF,aK,dl,dG,dM,bX,c0,bH,bS,bZ,av,L2.start,List.map_cons,List.map_nil,List.cons_append,List.nil_append,List.append_nil,List.length_cons,List.length_nil,List.replicate,List.set_cons_zero,List.set_cons_succ,List.getElem?_cons_zero,List.getElem?_cons_succ,Option.some.injEq,exists_eq_left',exists_eq_left,exists_and_left,exists_eq',exists_const,V.int.injEq,V.bl.injEq,V.str.injEq,V.ref.injEq,V.ty.injEq,List.cons.injEq,and_true,true_and,reduceCtorEq,false_and,and_false,exists_false,or_false,false_or,decide_eq_true_eq,Bool.not_eq_true',decide_eq_false_iff_not,if_true,if_false,Bool.false_eq_true,ite_true,ite_false,Bool.not_true,Bool.not_false,Nat.reduceAdd,Nat.reduceSub,and_assoc]
     refine⟨_,.non,_,kit "NoneType" "bool" false rfl,_,.non,_,kit "NoneType" "bool" false rfl,?_⟩
     simp only[bh,cC,aZ,tC,cW,af,aJ,bC,aE,bn,aQ,bN,bc,bW,tB,dg,rI,bE,bR,aM,aT,dL,bU,dJ,bM,bf,bV,bg,dc,bF,aK,dl,dG,dM,bX,c0,bH,bS,bZ,av,L2.start,List.map_cons,List.map_nil,List.cons_append,List.nil_append,List.append_nil,List.length_cons,List.length_nil,List.replicate,List.set_cons_zero,List.set_cons_succ,List.getElem?_cons_zero,List.getElem?_cons_succ,Option.some.injEq,exists_eq_left',exists_eq_left,exists_and_left,exists_eq',exists_const,V.int.injEq,V.bl.injEq,V.str.injEq,V.ref.injEq,V.ty.injEq,List.cons.injEq,and_true,true_and,reduceCtorEq,false_and,and_false,exists_false,or_false,false_or,decide_eq_true_eq,Bool.not_eq_true',decide_eq_false_iff_not,if_true,if_false,Bool.false_eq_true,ite_true,ite_false,Bool.not_true,Bool.not_false,Nat.reduceAdd,Nat.reduceSub,and_assoc]
     exact q H (.refl H)
   ·refine jh (fun Q q=>?_) ?_
    ·cases b <;> simp only[bh,cC,aZ,tC,cW,af,aJ,bC,aE,bn,aQ,bN,bc,bW,tB,dg,rI,bE,bR,aM,aT,dL,bU,dJ,bM,bf,bV,bg,dc,bF,aK,dl,dG,dM,bX,c0,bH,bS,bZ,av,L2.start,List.map_cons,List.map_nil,List.cons_append,List.nil_append,List.append_nil,List.length_cons,List.length_nil,List.replicate,List.set_cons_zero,List.set_cons_succ,List.getElem?_cons_zero,List.getElem?_cons_succ,Option.some.injEq,exists_eq_left',exists_eq_left,exists_and_left,exists_eq',exists_const,V.int.injEq,V.bl.injEq,V.str.injEq,V.ref.injEq,V.ty.injEq,List.cons.injEq,and_true,true_and,reduceCtorEq,false_and,and_false,exists_false,or_false,false_or,decide_eq_true_eq,Bool.not_eq_true',decide_eq_false_iff_not,if_true,if_false,Bool.false_eq_true,ite_true,ite_false,Bool.not_true,Bool.not_false,Nat.reduceAdd,Nat.reduceSub,and_assoc] <;> exact q
    ·simp only[bh,cC,aZ,tC,cW,af,aJ,bC,aE,bn,aQ,bN,bc,bW,tB,dg,rI,bE,bR,aM,aT,dL,bU,dJ,bM,bf,bV,bg,dc,bF,aK,dl,dG,dM,bX,c0,bH,bS,bZ,av,L2.start,List.map_cons,List.map_nil,List.cons_append,List.nil_append,List.append_nil,List.length_cons,List.length_nil,List.replicate,List.set_cons_zero,List.set_cons_succ,List.getElem?_cons_zero,List.getElem?_cons_succ,Option.some.injEq,exists_eq_left',exists_eq_left,exists_and_left,exists_eq',exists_const,V.int.injEq,V.bl.injEq,V.str.injEq,V.ref.injEq,V.ty.injEq,List.cons.injEq,and_true,true_and,reduceCtorEq,false_and,and_false,exists_false,or_false,false_or,decide_eq_true_eq,Bool.not_eq_true',decide_eq_false_iff_not,if_true,if_false,Bool.false_eq_true,ite_true,ite_false,Bool.not_true,Bool.not_false,Nat.reduceAdd,Nat.reduceSub,and_assoc]
     refine⟨_,.bl _,_,kit "bool" "bool" true rfl,_,.bl _,_,kit "bool" "bool" true rfl,?_⟩
     simp only[bh,cC,aZ,tC,cW,af,aJ,bC,aE,bn,aQ,bN,bc,bW,tB,dg,rI,bE,bR,aM,aT,dL,bU,dJ,bM,bf,bV,bg,dc,bF,aK,dl,dG,dM,bX,c0,bH,bS,bZ,av,L2.start,List.map_cons,List.map_nil,List.cons_append,List.nil_append,List.append_nil,List.length_cons,List.length_nil,List.replicate,List.set_cons_zero,List.set_cons_succ,List.getElem?_cons_zero,List.getElem?_cons_succ,Option.some.injEq,exists_eq_left',exists_eq_left,exists_and_left,exists_eq',exists_const,V.int.injEq,V.bl.injEq,V.str.injEq,V.ref.injEq,V.ty.injEq,List.cons.injEq,and_true,true_and,reduceCtorEq,false_and,and_false,exists_false,or_false,false_or,decide_eq_true_eq,Bool.not_eq_true',decide_eq_false_iff_not,if_true,if_false,Bool.false_eq_true,ite_true,ite_false,Bool.not_true,Bool.not_false,Nat.reduceAdd,Nat.reduceSub,and_assoc]
     exact q H (.refl H)
   ·refine dZ (fun Q q=>?_) (jh (fun Q q=>?_) ?_)
    ·simp only[bh,cC,aZ,tC,cW,af,aJ,bC,aE,bn,aQ,bN,bc,bW,tB,dg,rI,bE,bR,aM,aT,dL,bU,dJ,bM,bf,bV,bg,dc,bF,aK,dl,dG,dM,bX,c0,bH,bS,bZ,av,L2.start,List.map_cons,List.map_nil,List.cons_append,List.nil_append,List.append_nil,List.length_cons,List.length_nil,List.replicate,List.set_cons_zero,List.set_cons_succ,List.getElem?_cons_zero,List.getElem?_cons_succ,Option.some.injEq,exists_eq_left',exists_eq_left,exists_and_left,exists_eq',exists_const,V.int.injEq,V.bl.injEq,V.str.injEq,V.ref.injEq,V.ty.injEq,List.cons.injEq,and_true,true_and,reduceCtorEq,false_and,and_false,exists_false,or_false,false_or,decide_eq_true_eq,Bool.not_eq_true',decide_eq_false_iff_not,if_true,if_false,Bool.false_eq_true,ite_true,ite_false,Bool.not_true,Bool.not_false,Nat.reduceAdd,Nat.reduceSub,and_assoc];exact q
    ·simp only[bh,cC,aZ,tC,cW,af,aJ,bC,aE,bn,aQ,bN,bc,bW,tB,dg,rI,bE,bR,aM,aT,dL,bU,dJ,bM,bf,bV,bg,dc,bF,aK,dl,dG,dM,bX,c0,bH,bS,bZ,av,L2.start,List.map_cons,List.map_nil,List.cons_append,List.nil_append,List.append_nil,List.length_cons,List.length_nil,List.replicate,List.set_cons_zero,List.set_cons_succ,List.getElem?_cons_zero,List.getElem?_cons_succ,Option.some.injEq,exists_eq_left',exists_eq_left,exists_and_left,exists_eq',exists_const,V.int.injEq,V.bl.injEq,V.str.injEq,V.ref.injEq,V.ty.injEq,List.cons.injEq,and_true,true_and,reduceCtorEq,false_and,and_false,exists_false,or_false,false_or,decide_eq_true_eq,Bool.not_eq_true',decide_eq_false_iff_not,if_true,if_false,Bool.false_eq_true,ite_true,ite_false,Bool.not_true,Bool.not_false,Nat.reduceAdd,Nat.reduceSub,and_assoc];exact⟨_,.int _,_,kit "int" "int" true rfl,q⟩
    ·simp only[bh,cC,aZ,tC,cW,af,aJ,bC,aE,bn,aQ,bN,bc,bW,tB,dg,rI,bE,bR,aM,aT,dL,bU,dJ,bM,bf,bV,bg,dc,bF,aK,dl,dG,dM,bX,c0,bH,bS,bZ,av,L2.start,List.map_cons,List.map_nil,List.cons_append,List.nil_append,List.append_nil,List.length_cons,List.length_nil,List.replicate,List.set_cons_zero,List.set_cons_succ,List.getElem?_cons_zero,List.getElem?_cons_succ,Option.some.injEq,exists_eq_left',exists_eq_left,exists_and_left,exists_eq',exists_const,V.int.injEq,V.bl.injEq,V.str.injEq,V.ref.injEq,V.ty.injEq,List.cons.injEq,and_true,true_and,reduceCtorEq,false_and,and_false,exists_false,or_false,false_or,decide_eq_true_eq,Bool.not_eq_true',decide_eq_false_iff_not,if_true,if_false,Bool.false_eq_true,ite_true,ite_false,Bool.not_true,Bool.not_false,Nat.reduceAdd,Nat.reduceSub,and_assoc]
     refine⟨_,.int _,_,kit "int" "int" true rfl,?_⟩
     simp only[bh,cC,aZ,tC,cW,af,aJ,bC,aE,bn,aQ,bN,bc,bW,tB,dg,rI,bE,bR,aM,aT,dL,bU,dJ,bM,bf,bV,bg,dc,bF,aK,dl,dG,dM,bX,c0,bH,bS,bZ,av,L2.start,List.map_cons,List.map_nil,List.cons_append,List.nil_append,List.append_nil,List.length_cons,List.length_nil,List.replicate,List.set_cons_zero,List.set_cons_succ,List.getElem?_cons_zero,List.getElem?_cons_succ,Option.some.injEq,exists_eq_left',exists_eq_left,exists_and_left,exists_eq',exists_const,V.int.injEq,V.bl.injEq,V.str.injEq,V.ref.injEq,V.ty.injEq,List.cons.injEq,and_true,true_and,reduceCtorEq,false_and,and_false,exists_false,or_false,false_or,decide_eq_true_eq,Bool.not_eq_true',decide_eq_false_iff_not,if_true,if_false,Bool.false_eq_true,ite_true,ite_false,Bool.not_true,Bool.not_false,Nat.reduceAdd,Nat.reduceSub,and_assoc]
     refine⟨_,.int _,_,kit "int" "bool" false rfl,?_⟩
     simp only[bh,cC,aZ,tC,cW,af,aJ,bC,aE,bn,aQ,bN,bc,bW,tB,dg,rI,bE,bR,aM,aT,dL,bU,dJ,bM,bf,bV,bg,dc,bF,aK,dl,dG,dM,bX,c0,bH,bS,bZ,av,L2.start,List.map_cons,List.map_nil,List.cons_append,List.nil_append,List.append_nil,List.length_cons,List.length_nil,List.replicate,List.set_cons_zero,List.set_cons_succ,List.getElem?_cons_zero,List.getElem?_cons_succ,Option.some.injEq,exists_eq_left',exists_eq_left,exists_and_left,exists_eq',exists_const,V.int.injEq,V.bl.injEq,V.str.injEq,V.ref.injEq,V.ty.injEq,List.cons.injEq,and_true,true_and,reduceCtorEq,false_and,and_false,exists_false,or_false,false_or,decide_eq_true_eq,Bool.not_eq_true',decide_eq_false_iff_not,if_true,if_false,Bool.false_eq_true,ite_true,ite_false,Bool.not_true,Bool.not_false,Nat.reduceAdd,Nat.reduceSub,and_assoc]
     exact q H (.refl H)
   ·refine dZ (fun Q q=>?_) (dZ (fun Q q=>?_) (jh (fun Q q=>?_) ?_))
    ·simp only[bh,cC,aZ,tC,cW,af,aJ,bC,aE,bn,aQ,bN,bc,bW,tB,dg,rI,bE,bR,aM,aT,dL,bU,dJ,bM,bf,bV,bg,dc,bF,aK,dl,dG,dM,bX,c0,bH,bS,bZ,av,L2.start,List.map_cons,List.map_nil,List.cons_append,List.nil_append,List.append_nil,List.length_cons,List.length_nil,List.replicate,List.set_cons_zero,List.set_cons_succ,List.getElem?_cons_zero,List.getElem?_cons_succ,Option.some.injEq,exists_eq_left',exists_eq_left,exists_and_left,exists_eq',exists_const,V.int.injEq,V.bl.injEq,V.str.injEq,V.ref.injEq,V.ty.injEq,List.cons.injEq,and_true,true_and,reduceCtorEq,false_and,and_false,exists_false,or_false,false_or,decide_eq_true_eq,Bool.not_eq_true',decide_eq_false_iff_not,if_true,if_false,Bool.false_eq_true,ite_true,ite_false,Bool.not_true,Bool.not_false,Nat.reduceAdd,Nat.reduceSub,and_assoc];exact q
    ·simp only[bh,cC,aZ,tC,cW,af,aJ,bC,aE,bn,aQ,bN,bc,bW,tB,dg,rI,bE,bR,aM,aT,dL,bU,dJ,bM,bf,bV,bg,dc,bF,aK,dl,dG,dM,bX,c0,bH,bS,bZ,av,L2.start,List.map_cons,List.map_nil,List.cons_append,List.nil_append,List.append_nil,List.length_cons,List.length_nil,List.replicate,List.set_cons_zero,List.set_cons_succ,List.getElem?_cons_zero,List.getElem?_cons_succ,Option.some.injEq,exists_eq_left',exists_eq_left,exists_and_left,exists_eq',exists_const,V.int.injEq,V.bl.injEq,V.str.injEq,V.ref.injEq,V.ty.injEq,List.cons.injEq,and_true,true_and,reduceCtorEq,false_and,and_false,exists_false,or_false,false_or,decide_eq_true_eq,Bool.not_eq_true',decide_eq_false_iff_not,if_true,if_false,Bool.false_eq_true,ite_true,ite_false,Bool.not_true,Bool.not_false,Nat.reduceAdd,Nat.reduceSub,and_assoc];exact⟨_,.str _,_,kit "str" "int" false rfl,q⟩
    ·simp only[bh,cC,aZ,tC,cW,af,aJ,bC,aE,bn,aQ,bN,bc,bW,tB,dg,rI,bE,bR,aM,aT,dL,bU,dJ,bM,bf,bV,bg,dc,bF,aK,dl,dG,dM,bX,c0,bH,bS,bZ,av,L2.start,List.map_cons,List.map_nil,List.cons_append,List.nil_append,List.append_nil,List.length_cons,List.length_nil,List.replicate,List.set_cons_zero,List.set_cons_succ,List.getElem?_cons_zero,List.getElem?_cons_succ,Option.some.injEq,exists_eq_left',exists_eq_left,exists_and_left,exists_eq',exists_const,V.int.injEq,V.bl.injEq,V.str.injEq,V.ref.injEq,V.ty.injEq,List.cons.injEq,and_true,true_and,reduceCtorEq,false_and,and_false,exists_false,or_false,false_or,decide_eq_true_eq,Bool.not_eq_true',decide_eq_false_iff_not,if_true,if_false,Bool.false_eq_true,ite_true,ite_false,Bool.not_true,Bool.not_false,Nat.reduceAdd,Nat.reduceSub,and_assoc];exact⟨_,.str _,_,kit "str" "str" true rfl,q⟩
    ·simp only[bh,cC,aZ,tC,cW,af,aJ,bC,aE,bn,aQ,bN,bc,bW,tB,dg,rI,bE,bR,aM,aT,dL,bU,dJ,bM,bf,bV,bg,dc,bF,aK,dl,dG,dM,bX,c0,bH,bS,bZ,av,L2.start,List.map_cons,List.map_nil,List.cons_append,List.nil_append,List.append_nil,List.length_cons,List.length_nil,List.replicate,List.set_cons_zero,List.set_cons_succ,List.getElem?_cons_zero,List.getElem?_cons_succ,Option.some.injEq,exists_eq_left',exists_eq_left,exists_and_left,exists_eq',exists_const,V.int.injEq,V.bl.injEq,V.str.injEq,V.ref.injEq,V.ty.injEq,List.cons.injEq,and_true,true_and,reduceCtorEq,false_and,and_false,exists_false,or_false,false_or,decide_eq_true_eq,Bool.not_eq_true',decide_eq_false_iff_not,if_true,if_false,Bool.false_eq_true,ite_true,ite_false,Bool.not_true,Bool.not_false,Nat.reduceAdd,Nat.reduceSub,and_assoc]
     refine⟨_,.str _,_,kit "str" "str" true rfl,?_⟩
     simp only[bh,cC,aZ,tC,cW,af,aJ,bC,aE,bn,aQ,bN,bc,bW,tB,dg,rI,bE,bR,aM,aT,dL,bU,dJ,bM,bf,bV,bg,dc,bF,aK,dl,dG,dM,bX,c0,bH,bS,bZ,av,L2.start,List.map_cons,List.map_nil,List.cons_append,List.nil_append,List.append_nil,List.length_cons,List.length_nil,List.replicate,List.set_cons_zero,List.set_cons_succ,List.getElem?_cons_zero,List.getElem?_cons_succ,Option.some.injEq,exists_eq_left',exists_eq_left,exists_and_left,exists_eq',exists_const,V.int.injEq,V.bl.injEq,V.str.injEq,V.ref.injEq,V.ty.injEq,List.cons.injEq,and_true,true_and,reduceCtorEq,false_and,and_false,exists_false,or_false,false_or,decide_eq_true_eq,Bool.not_eq_true',decide_eq_false_iff_not,if_true,if_false,Bool.false_eq_true,ite_true,ite_false,Bool.not_true,Bool.not_false,Nat.reduceAdd,Nat.reduceSub,and_assoc]
     exact q H (.refl H)
  ·subst hnm
   obtain⟨T,tp1,tp2,tl,src1,src2,h1,h2,e1,e2⟩:∃(T:String) (tp1:TyOf K H (.ref p) (.type T)) (tp2:TyOf K H (.ref q') (.type T)) (tl:(T="list" ∧SqL K H p xs∧SqL K H q' ys)∨(T="tuple" ∧SqT K H p xs∧SqT K H q' ys)) (src1 src2:Src),(∀H',Same H H'→src1.has K H' xs)∧(∀H',Same H H'→src2.has K H' ys)∧src1.val=.ref p∧src2.val=.ref q':=by
    rcases hk with⟨a,b⟩ | ⟨a,b⟩
    ·exact⟨"list",.lst a,.lst b,.inl ⟨rfl,SqL.of a,SqL.of b⟩,.lst p,.lst q',fun H' e=>SqL.of (e _ _ a),fun H' e=>SqL.of (e _ _ b),rfl,rfl⟩
    ·exact⟨"tuple",.tup a,.tup b,.inr ⟨rfl,a,b⟩,.tup p,.tup q',fun H' e=>Same.tup e a,fun H' e=>Same.tup e b,rfl,rfl⟩
   have hi0:PySem.W.kitOne K (.type T) (.type "int")=some false:=by rcases tl with⟨rfl,_⟩ | ⟨rfl,_⟩;exact kit _ _ _ rfl;exact kit _ _ _ rfl
   have hs0:PySem.W.kitOne K (.type T) (.type "str")=some false:=by rcases tl with⟨rfl,_⟩ | ⟨rfl,_⟩;exact kit _ _ _ rfl;exact kit _ _ _ rfl
   obtain⟨bl,hl0,hl1⟩:∃bl,PySem.W.kitOne K (.type T) (.type "list")=some bl∧PySem.W.kitOne K (.type T) (.type "tuple")=some (!bl):=by rcases tl with⟨rfl,_⟩ | ⟨rfl,_⟩;exact⟨true,kit _ _ _ rfl,kit _ _ _ rfl⟩;exact⟨false,kit _ _ _ rfl,kit _ _ _ rfl⟩
   have ln1:iV K (.ref p) H xs.length:=by rcases tl with⟨_,t1,_⟩ | ⟨_,t1,_⟩;exact .inl ⟨_,t1,rfl⟩;exact .inr ⟨_,t1,rfl⟩
   have ln2:iV K (.ref q') H ys.length:=by rcases tl with⟨_,_,t2⟩ | ⟨_,_,t2⟩;exact .inl ⟨_,t2,rfl⟩;exact .inr ⟨_,t2,rfl⟩
   refine dZ (fun Q q=>?_) (dZ (fun Q q=>?_) (dZ (fun Q q=>?_) (dZ (fun Q q=>?_) (dZ (fun Q q=>?_) (dZ (fun Q q=>?_) ?_)))))
   ·simp only[bh,cC,aZ,tC,cW,af,aJ,bC,aE,bn,aQ,bN,bc,bW,tB,dg,rI,bE,bR,aM,aT,dL,bU,dJ,bM,bf,bV,bg,dc,bF,aK,dl,dG,dM,bX,c0,bH,bS,bZ,av,L2.start,List.map_cons,List.map_nil,List.cons_append,List.nil_append,List.append_nil,List.length_cons,List.length_nil,List.replicate,List.set_cons_zero,List.set_cons_succ,List.getElem?_cons_zero,List.getElem?_cons_succ,Option.some.injEq,exists_eq_left',exists_eq_left,exists_and_left,exists_eq',exists_const,V.int.injEq,V.bl.injEq,V.str.injEq,V.ref.injEq,V.ty.injEq,List.cons.injEq,and_true,true_and,reduceCtorEq,false_and,and_false,exists_false,or_false,false_or,decide_eq_true_eq,Bool.not_eq_true',decide_eq_false_iff_not,if_true,if_false,Bool.false_eq_true,ite_true,ite_false,Bool.not_true,Bool.not_false,Nat.reduceAdd,Nat.reduceSub,and_assoc];exact q
   ·simp only[bh,cC,aZ,tC,cW,af,aJ,bC,aE,bn,aQ,bN,bc,bW,tB,dg,rI,bE,bR,aM,aT,dL,bU,dJ,bM,bf,bV,bg,dc,bF,aK,dl,dG,dM,bX,c0,bH,bS,bZ,av,L2.start,List.map_cons,List.map_nil,List.cons_append,List.nil_append,List.append_nil,List.length_cons,List.length_nil,List.replicate,List.set_cons_zero,List.set_cons_succ,List.getElem?_cons_zero,List.getElem?_cons_succ,Option.some.injEq,exists_eq_left',exists_eq_left,exists_and_left,exists_eq',exists_const,V.int.injEq,V.bl.injEq,V.str.injEq,V.ref.injEq,V.ty.injEq,List.cons.injEq,and_true,true_and,reduceCtorEq,false_and,and_false,exists_false,or_false,false_or,decide_eq_true_eq,Bool.not_eq_true',decide_eq_false_iff_not,if_true,if_false,Bool.false_eq_true,ite_true,ite_false,Bool.not_true,Bool.not_false,Nat.reduceAdd,Nat.reduceSub,and_assoc];exact⟨_,tp2,_,hi0,q⟩
   ·simp only[bh,cC,aZ,tC,cW,af,aJ,bC,aE,bn,aQ,bN,bc,bW,tB,dg,rI,bE,bR,aM,aT,dL,bU,dJ,bM,bf,bV,bg,dc,bF,aK,dl,dG,dM,bX,c0,bH,bS,bZ,av,L2.start,List.map_cons,List.map_nil,List.cons_append,List.nil_append,List.append_nil,List.length_cons,List.length_nil,List.replicate,List.set_cons_zero,List.set_cons_succ,List.getElem?_cons_zero,List.getElem?_cons_succ,Option.some.injEq,exists_eq_left',exists_eq_left,exists_and_left,exists_eq',exists_const,V.int.injEq,V.bl.injEq,V.str.injEq,V.ref.injEq,V.ty.injEq,List.cons.injEq,and_true,true_and,reduceCtorEq,false_and,and_false,exists_false,or_false,false_or,decide_eq_true_eq,Bool.not_eq_true',decide_eq_false_iff_not,if_true,if_false,Bool.false_eq_true,ite_true,ite_false,Bool.not_true,Bool.not_false,Nat.reduceAdd,Nat.reduceSub,and_assoc];exact⟨_,tp2,_,hs0,q⟩
   ·simp only[bh,cC,aZ,tC,cW,af,aJ,bC,aE,bn,aQ,bN,bc,bW,tB,dg,rI,bE,bR,aM,aT,dL,bU,dJ,bM,bf,bV,bg,dc,bF,aK,dl,dG,dM,bX,c0,bH,bS,bZ,av,L2.start,List.map_cons,List.map_nil,List.cons_append,List.nil_append,List.append_nil,List.length_cons,List.length_nil,List.replicate,List.set_cons_zero,List.set_cons_succ,List.getElem?_cons_zero,List.getElem?_cons_succ,Option.some.injEq,exists_eq_left',exists_eq_left,exists_and_left,exists_eq',exists_const,V.int.injEq,V.bl.injEq,V.str.injEq,V.ref.injEq,V.ty.injEq,List.cons.injEq,and_true,true_and,reduceCtorEq,false_and,and_false,exists_false,or_false,false_or,decide_eq_true_eq,Bool.not_eq_true',decide_eq_false_iff_not,if_true,if_false,Bool.false_eq_true,ite_true,ite_false,Bool.not_true,Bool.not_false,Nat.reduceAdd,Nat.reduceSub,and_assoc]
    refine⟨_,tp2,_,hl0,?_⟩
    cases bl with
    | false=>exact q
    | true=>simp only[bh,cC,aZ,tC,cW,af,aJ,bC,aE,bn,aQ,bN,bc,bW,tB,dg,rI,bE,bR,aM,aT,dL,bU,dJ,bM,bf,bV,bg,dc,bF,aK,dl,dG,dM,bX,c0,bH,bS,bZ,av,L2.start,List.map_cons,List.map_nil,List.cons_append,List.nil_append,List.append_nil,List.length_cons,List.length_nil,List.replicate,List.set_cons_zero,List.set_cons_succ,List.getElem?_cons_zero,List.getElem?_cons_succ,Option.some.injEq,exists_eq_left',exists_eq_left,exists_and_left,exists_eq',exists_const,V.int.injEq,V.bl.injEq,V.str.injEq,V.ref.injEq,V.ty.injEq,List.cons.injEq,and_true,true_and,reduceCtorEq,false_and,and_false,exists_false,or_false,false_or,decide_eq_true_eq,Bool.not_eq_true',decide_eq_false_iff_not,if_true,if_false,Bool.false_eq_true,ite_true,ite_false,Bool.not_true,Bool.not_false,Nat.reduceAdd,Nat.reduceSub,and_assoc];exact⟨_,tp1,_,hl0,q⟩
   ·simp only[bh,cC,aZ,tC,cW,af,aJ,bC,aE,bn,aQ,bN,bc,bW,tB,dg,rI,bE,bR,aM,aT,dL,bU,dJ,bM,bf,bV,bg,dc,bF,aK,dl,dG,dM,bX,c0,bH,bS,bZ,av,L2.start,List.map_cons,List.map_nil,List.cons_append,List.nil_append,List.append_nil,List.length_cons,List.length_nil,List.replicate,List.set_cons_zero,List.set_cons_succ,List.getElem?_cons_zero,List.getElem?_cons_succ,Option.some.injEq,exists_eq_left',exists_eq_left,exists_and_left,exists_eq',exists_const,V.int.injEq,V.bl.injEq,V.str.injEq,V.ref.injEq,V.ty.injEq,List.cons.injEq,and_true,true_and,reduceCtorEq,false_and,and_false,exists_false,or_false,false_or,decide_eq_true_eq,Bool.not_eq_true',decide_eq_false_iff_not,if_true,if_false,Bool.false_eq_true,ite_true,ite_false,Bool.not_true,Bool.not_false,Nat.reduceAdd,Nat.reduceSub,and_assoc]
    refine⟨_,tp2,_,hl1,?_⟩
    cases bl with
    | true=>exact q
    | false=>simp only[bh,cC,aZ,tC,cW,af,aJ,bC,aE,bn,aQ,bN,bc,bW,tB,dg,rI,bE,bR,aM,aT,dL,bU,dJ,bM,bf,bV,bg,dc,bF,aK,dl,dG,dM,bX,c0,bH,bS,bZ,av,L2.start,List.map_cons,List.map_nil,List.cons_append,List.nil_append,List.append_nil,List.length_cons,List.length_nil,List.replicate,List.set_cons_zero,List.set_cons_succ,List.getElem?_cons_zero,List.getElem?_cons_succ,Option.some.injEq,exists_eq_left',exists_eq_left,exists_and_left,exists_eq',exists_const,V.int.injEq,V.bl.injEq,V.str.injEq,V.ref.injEq,V.ty.injEq,List.cons.injEq,and_true,true_and,reduceCtorEq,false_and,and_false,exists_false,or_false,false_or,decide_eq_true_eq,Bool.not_eq_true',decide_eq_false_iff_not,if_true,if_false,Bool.false_eq_true,ite_true,ite_false,Bool.not_true,Bool.not_false,Nat.reduceAdd,Nat.reduceSub,and_assoc];exact⟨_,tp1,_,hl1,q⟩
   ·simp only[bh,cC,aZ,tC,cW,af,aJ,bC,aE,bn,aQ,bN,bc,bW,tB,dg,rI,bE,bR,aM,aT,dL,bU,dJ,bM,bf,bV,bg,dc,bF,aK,dl,dG,dM,bX,c0,bH,bS,bZ,av,L2.start,List.map_cons,List.map_nil,List.cons_append,List.nil_append,List.append_nil,List.length_cons,List.length_nil,List.replicate,List.set_cons_zero,List.set_cons_succ,List.getElem?_cons_zero,List.getElem?_cons_succ,Option.some.injEq,exists_eq_left',exists_eq_left,exists_and_left,exists_eq',exists_const,V.int.injEq,V.bl.injEq,V.str.injEq,V.ref.injEq,V.ty.injEq,List.cons.injEq,and_true,true_and,reduceCtorEq,false_and,and_false,exists_false,or_false,false_or,decide_eq_true_eq,Bool.not_eq_true',decide_eq_false_iff_not,if_true,if_false,Bool.false_eq_true,ite_true,ite_false,Bool.not_true,Bool.not_false,Nat.reduceAdd,Nat.reduceSub,and_assoc]
    refine⟨_,ln1,_,ln2,?_⟩
    simp only[hl,bh,cC,aZ,tC,cW,af,aJ,bC,aE,bn,aQ,bN,bc,bW,tB,dg,rI,bE,bR,aM,aT,dL,bU,dJ,bM,bf,bV,bg,dc,bF,aK,dl,dG,dM,bX,c0,bH,bS,bZ,av,L2.start,List.map_cons,List.map_nil,List.cons_append,List.nil_append,List.append_nil,List.length_cons,List.length_nil,List.replicate,List.set_cons_zero,List.set_cons_succ,List.getElem?_cons_zero,List.getElem?_cons_succ,Option.some.injEq,exists_eq_left',exists_eq_left,exists_and_left,exists_eq',exists_const,V.int.injEq,V.bl.injEq,V.str.injEq,V.ref.injEq,V.ty.injEq,List.cons.injEq,and_true,true_and,reduceCtorEq,false_and,and_false,exists_false,or_false,false_or,decide_eq_true_eq,Bool.not_eq_true',decide_eq_false_iff_not,if_true,if_false,Bool.false_eq_true,ite_true,ite_false,Bool.not_true,Bool.not_false,Nat.reduceAdd,Nat.reduceSub,and_assoc]
    exact q
   ·simp only[cZ,eT,bh,cC,aZ,tC,cW,af,aJ,bC,aE,bn,aQ,bN,bc,bW,tB,dg,rI,bE,bR,aM,aT,dL,bU,dJ,bM,bf,bV,bg,dc,bF,aK,dl,dG,dM,bX,c0,bH,bS,bZ,av,L2.start,List.map_cons,List.map_nil,List.cons_append,List.nil_append,List.append_nil,List.length_cons,List.length_nil,List.replicate,List.set_cons_zero,List.set_cons_succ,List.getElem?_cons_zero,List.getElem?_cons_succ,Option.some.injEq,exists_eq_left',exists_eq_left,exists_and_left,exists_eq',exists_const,V.int.injEq,V.bl.injEq,V.str.injEq,V.ref.injEq,V.ty.injEq,List.cons.injEq,and_true,true_and,reduceCtorEq,false_and,and_false,exists_false,or_false,false_or,decide_eq_true_eq,Bool.not_eq_true',decide_eq_false_iff_not,if_true,if_false,Bool.false_eq_true,ite_true,ite_false,Bool.not_true,Bool.not_false,Nat.reduceAdd,Nat.reduceSub,and_assoc]
    refine⟨_,rfl,_,rfl,src1,src2,xs,ys,by rw[e1,e2],h1 H (.refl H),h2 H (.refl H),pz (fun i σ H2=>Same H H2∧∃a b,σ=[some (.ref p),some (.ref q'),a,b]) ⟨.refl H,none,none,rfl⟩ (fun i σ H2 ⟨e,_⟩=>⟨h1 H2 e,h2 H2 e⟩) hl ?_ ?_⟩
    ·rintro i x y r σ H2 hx hy hr' ⟨e,a,b,rfl⟩
     simp only[cZ,eT,bh,cC,aZ,tC,cW,af,aJ,bC,aE,bn,aQ,bN,bc,bW,tB,dg,rI,bE,bR,aM,aT,dL,bU,dJ,bM,bf,bV,bg,dc,bF,aK,dl,dG,dM,bX,c0,bH,bS,bZ,av,L2.start,List.map_cons,List.map_nil,List.cons_append,List.nil_append,List.append_nil,List.length_cons,List.length_nil,List.replicate,List.set_cons_zero,List.set_cons_succ,List.getElem?_cons_zero,List.getElem?_cons_succ,Option.some.injEq,exists_eq_left',exists_eq_left,exists_and_left,exists_eq',exists_const,V.int.injEq,V.bl.injEq,V.str.injEq,V.ref.injEq,V.ty.injEq,List.cons.injEq,and_true,true_and,reduceCtorEq,false_and,and_false,exists_false,or_false,false_or,decide_eq_true_eq,Bool.not_eq_true',decide_eq_false_iff_not,if_true,if_false,Bool.false_eq_true,ite_true,ite_false,Bool.not_true,Bool.not_false,Nat.reduceAdd,Nat.reduceSub,and_assoc]
     refine⟨_,SqT.of ax,rfl,?_⟩
     simp only[cZ,eT,bh,cC,aZ,tC,cW,af,aJ,bC,aE,bn,aQ,bN,bc,bW,tB,dg,rI,bE,bR,aM,aT,dL,bU,dJ,bM,bf,bV,bg,dc,bF,aK,dl,dG,dM,bX,c0,bH,bS,bZ,av,L2.start,List.map_cons,List.map_nil,List.cons_append,List.nil_append,List.append_nil,List.length_cons,List.length_nil,List.replicate,List.set_cons_zero,List.set_cons_succ,List.getElem?_cons_zero,List.getElem?_cons_succ,Option.some.injEq,exists_eq_left',exists_eq_left,exists_and_left,exists_eq',exists_const,V.int.injEq,V.bl.injEq,V.str.injEq,V.ref.injEq,V.ty.injEq,List.cons.injEq,and_true,true_and,reduceCtorEq,false_and,and_false,exists_false,or_false,false_or,decide_eq_true_eq,Bool.not_eq_true',decide_eq_false_iff_not,if_true,if_false,Bool.false_eq_true,ite_true,ite_false,Bool.not_true,Bool.not_false,Nat.reduceAdd,Nat.reduceSub,and_assoc]
     refine⟨x,y,rfl,.inl ⟨(hi i x y hx hy).same (e.trans (cR hr')),fun H3 e3=>?_⟩⟩
     simp only[cZ,eT,bh,cC,aZ,tC,cW,af,aJ,bC,aE,bn,aQ,bN,bc,bW,tB,dg,rI,bE,bR,aM,aT,dL,bU,dJ,bM,bf,bV,bg,dc,bF,aK,dl,dG,dM,bX,c0,bH,bS,bZ,av,L2.start,List.map_cons,List.map_nil,List.cons_append,List.nil_append,List.append_nil,List.length_cons,List.length_nil,List.replicate,List.set_cons_zero,List.set_cons_succ,List.getElem?_cons_zero,List.getElem?_cons_succ,Option.some.injEq,exists_eq_left',exists_eq_left,exists_and_left,exists_eq',exists_const,V.int.injEq,V.bl.injEq,V.str.injEq,V.ref.injEq,V.ty.injEq,List.cons.injEq,and_true,true_and,reduceCtorEq,false_and,and_false,exists_false,or_false,false_or,decide_eq_true_eq,Bool.not_eq_true',decide_eq_false_iff_not,if_true,if_false,Bool.false_eq_true,ite_true,ite_false,Bool.not_true,Bool.not_false,Nat.reduceAdd,Nat.reduceSub,and_assoc]
     exact e.trans ((cR hr').trans e3)
    ·rintro σ H2 ⟨e,a,b,rfl⟩
     simp only[cZ,eT,bh,cC,aZ,tC,cW,af,aJ,bC,aE,bn,aQ,bN,bc,bW,tB,dg,rI,bE,bR,aM,aT,dL,bU,dJ,bM,bf,bV,bg,dc,bF,aK,dl,dG,dM,bX,c0,bH,bS,bZ,av,L2.start,List.map_cons,List.map_nil,List.cons_append,List.nil_append,List.append_nil,List.length_cons,List.length_nil,List.replicate,List.set_cons_zero,List.set_cons_succ,List.getElem?_cons_zero,List.getElem?_cons_succ,Option.some.injEq,exists_eq_left',exists_eq_left,exists_and_left,exists_eq',exists_const,V.int.injEq,V.bl.injEq,V.str.injEq,V.ref.injEq,V.ty.injEq,List.cons.injEq,and_true,true_and,reduceCtorEq,false_and,and_false,exists_false,or_false,false_or,decide_eq_true_eq,Bool.not_eq_true',decide_eq_false_iff_not,if_true,if_false,Bool.false_eq_true,ite_true,ite_false,Bool.not_true,Bool.not_false,Nat.reduceAdd,Nat.reduceSub,and_assoc]
     exact q H2 e
def ld (K:PySem.W.Frag):Sp:=fun vs H Q _=>∃(a:Addr) (ns:List Int),vs=[.ref a]∧SqL K H a (ns.map V.int)∧ns.length≤63∧∀H',Q (.bl true) H'
end
end Wb
namespace Mi
theorem lg {s:List Int} (hs:s.length≤63) (k:Nat) (hk:k≤200):∃n,gE s (k:Int)=.ok n:=by
 unfold gE th
 by_cases h:(k:Int)< (s.length:Int)
 ·rw[if_pos (by simpa using h)]
  obtain⟨x,e,_⟩:=dF (xs:=s) (i:=(k:Int)) (by omega) h
  exact⟨x,e⟩
 ·rw[if_neg (by simpa using h),nI (by omega) (by omega)]
  exact⟨_,rfl⟩
theorem rF (c b:Int) (hb:1≤b) (hb2:b< 1073741824) (k:Nat) (s:Int×Int×List Int) (h1:0≤s.2.1) (hl:s.2.2.length< 100000):∃s':Int×Int×List Int,rV c b (k:Int) s=.ok s'∧0≤s'.2.1∧∃v,0≤v∧v< b∧s'.2.2=s.2.2++ [v]:=by
 unfold rV
 have hm0:=Int.emod_nonneg (s.1*48271+7919+(k:Int)) (show(2147483647:Int)≠0 by decide)
 have hm1:=Int.emod_lt_of_pos (s.1*48271+7919+(k:Int)) (show(0:Int)< 2147483647 by decide)
 generalize (s.1*48271+7919+(k:Int))% 2147483647=mx at*
 have other:∀z:Int,0≤z% b∧z% b< b:=fun z=>⟨Int.emod_nonneg _ (by omega),Int.emod_lt_of_pos _ (by omega)⟩
 have A:∀z:Int,dm s.2.2 z=.ok (s.2.2++ [z]):=fun z=>iH hl
 have e2:((((jD mx mx).bind fun y63=>Res.ok (y63% 1000003)).bind fun y64=>iy y64 b).bind fun y69=>dm s.2.2 y69)=.ok (s.2.2++ [mx*mx% 1000003% b]):=by
  rw[nH (by omega) (by omega)];simp only[Res.bind_ok'];rw[fR (by omega)];exact A _
 have e1:((iy s.2.1 b).bind fun y56=>dm s.2.2 y56)=.ok (s.2.2++ [s.2.1% b]):=by rw[fR (by omega)];exact A _
 by_cases hf:(1000000000000000000:Int)≤cJ c
 ·rw[decide_eq_true hf]
  by_cases hp:0< s.2.1
  ·rw[decide_eq_true hp]
   simp only[if_true,Res.bind_ok',e1,nG (show 0< b by omega) hb2]
   exact⟨_,rfl,Int.ediv_nonneg h1 (by omega),_,(other _).1,(other _).2,rfl⟩
  ·rw[decide_eq_false hp]
   simp only[if_true,Res.bind_ok',Bool.false_eq_true,if_false,e2]
   exact⟨_,rfl,h1,_,(other _).1,(other _).2,rfl⟩
 ·rw[decide_eq_false hf]
  simp only[Res.bind_ok',Bool.false_eq_true,if_false,e2]
  exact⟨_,rfl,h1,_,(other _).1,(other _).2,rfl⟩
theorem rG (c:Int) (n:Nat) (b:Int) (hn:n≤1000) (hb:1≤b) (hb2:b< 1073741824):∃ns,p5 c (n:Int) b=.ok ns∧ns.length=n∧∀x∈ns,0≤x∧x< b:=by
 unfold p5 tj
 rw[ei (by omega),Res.bind_ok']
 obtain⟨s,e,h0,hl,hb⟩:=nJ (f:=rV c b) (fun pre (s:Int×Int×List Int)=>0≤s.2.1∧s.2.2.length=pre.length∧∀x∈s.2.2,0≤x∧x< b) ((List.range n).map fun(i:Nat)=>(i:Int)) ((cJ c)% 2147483647,cJ c,[]) ⟨pK c,rfl,by simp⟩ (by
  intro pre a post s e ⟨h0,hl,hb'⟩
  have hlen:pre.length< n:=by have:=congrArg List.length e;simp at this;omega
  obtain⟨k,rfl⟩:∃k:Nat,a=(k:Int):=by
   have:a∈(List.range n).map fun(i:Nat)=>(i:Int):=by rw[e];simp
   obtain⟨k,_,hk⟩:=List.mem_map.mp this;exact⟨k,hk.symm⟩
  obtain⟨s',e',h0',v,v0,v1,ev⟩:=rF c b hb hb2 k s h0 (by omega)
  refine⟨s',e',h0',by rw[ev];simp[hl],fun x hx=>?_⟩
  rw[ev]at hx
  rcases List.mem_append.mp hx with z | z
  ·exact hb' x z
  ·rw[List.mem_singleton.mp z];exact⟨v0,v1⟩)
 rw[e]
 exact⟨_,rfl,by rw[hl];simp,hb⟩
theorem iP {α β:Type} {xs:List β} {f:List β→α} {j:Int} (h0:0≤j) (h1:j< xs.length):∃x,gP (xs,f) j=.ok (x,fun b'=>f (xs.set j.toNat b'))∧xs[j.toNat]? =some x:=by
 have h2:j.toNat< xs.length:=by omega
 refine⟨xs[j.toNat],?_,by simp[h2]⟩
 unfold gP ixN
 simp only[if_pos h0,if_pos h1,d4,Res.bind_ok',List.getElem?_eq_getElem h2]
theorem tT (a b:Dat):cX (.t [a,b]) 0=.ok a:=rfl
theorem tU (a b:Dat):cX (.t [a,b]) 1=.ok b:=rfl
theorem tV (a b c:Dat):cX (.t [a,b,c]) 0=.ok a:=rfl
theorem tW (a b c:Dat):cX (.t [a,b,c]) 1=.ok b:=rfl
theorem tX (a b c:Dat):cX (.t [a,b,c]) 2=.ok c:=rfl
theorem tY (a:Dat):cX (.t [a]) 0=.ok a:=rfl
theorem tZ (a:Dat):lO (.t [a])=.ok 1:=rfl
theorem u0 (a b:Dat):lO (.t [a,b])=.ok 2:=rfl
theorem u6 (a b c:Dat):lO (.t [a,b,c])=.ok 3:=rfl
theorem oI (x:Int):d4 (jn (.i x))=.ok x:=rfl
theorem oT (x:Tx):d4 (iQ (.s x))=.ok x:=rfl
abbrev T3:=Tx×Tx×Tx
abbrev FA:Tx:=[102,97,99,101]
abbrev BA:Tx:=[98,97,99,107]
abbrev SL:Tx:=[115,108,97,110,116]
def l3 (t:T3):List Tx:=[t.1,t.2.1,t.2.2]
def gr (p:List (List T3)):List (List (List Tx)):=p.map fun r=>r.map l3
def rH (m:T3) (sd:Tx):Tx:=if sd=FA then m.1 else if sd=BA then m.2.1 else m.2.2
def fB (m:T3) (sd sg:Tx):T3:=if sd=FA then(sg,m.2.1,m.2.2)else if sd=BA then(m.1,sg,m.2.2)else(m.1,m.2.1,sg)
def jx (sd:Tx):Int:=if sd=FA then 0 else if sd=BA then 1 else 2
def isSd (sd:Tx):Prop:=sd=FA∨sd=BA∨sd=SL
def inF (t w:Nat) (a k:Int) (sd:Tx):Prop:=0≤a∧a< t∧0≤k∧k< w∧isSd sd
structure Sh (t w:Nat) (p:List (List T3)):Prop where
 len:p.length=t
 row:∀r∈p,r.length=w
def Nu (i:Int):Prop:=(-100≤i∧i< 100)∨i=100000000000000000000
theorem mq:∀n:Nat,n< 200→(jH ((n:Int)- 100)).length≤30∧((n:Int)- 100).natAbs.log2< 1920:=by decide +kernel
theorem qq:(jH 100000000000000000000).length≤30∧(100000000000000000000:Int).natAbs.log2< 1920:=by decide +kernel
theorem Nu.num {i:Int} (h:Nu i):(jH i).length≤30∧i.natAbs.log2< 1920:=by
 rcases h with⟨h0,h1⟩ | rfl
 ·have:=mq (i+100).toNat (by omega)
  rw[show(((i+100).toNat:Nat):Int)- 100=i by omega]at this
  exact this
 ·exact qq
theorem oy {β:Type} {l:Tx} (hl:l.length≤100) {a:Int} (n:Nu a):((((fL ([]:Tx) l).bind fun y4=>(nO a).bind fun y6=>(fL y4 y6).bind fun y5=>Res.ok y5).bind jI).bind fun _=>(Res.err 3:Res β))=.err 3:=by
 have:=n.num
 rw[fS (by simp;omega),Res.bind_ok',show nO a=.ok (jH a)from bG this.2,Res.bind_ok',fS (by simp;omega),Res.bind_ok',Res.bind_ok',show jI ([]++l++jH a)=.ok _ from bG (by unfold cap;simp;omega),Res.bind_ok']
theorem gG {t w:Nat} {p:List (List T3)} (h:Sh t w p) {a k:Int} {sd:Tx} (i:inF t w a k sd):ak p a k sd=.ok ():=by
 obtain⟨a0,a1,k0,k1,hs⟩:=i
 have hl:=h.len
 unfold ak bJ
 rw[if_neg (by simp;omega),Res.bind_ok',if_neg (by simp;omega)]
 obtain⟨r,er,hr⟩:=dF (xs:=p) a0 (by omega)
 have hw:=h.row r (List.mem_of_getElem? hr)
 rw[if_neg (by simp;omega),er,Res.bind_ok',Res.bind_ok',Res.bind_ok',if_neg (by simp;omega)]
 rcases hs with rfl | rfl | rfl <;> rfl
theorem ic {t w:Nat} {p:List (List T3)} (h:Sh t w p) {a k:Int} {sd:Tx} (na:Nu a) (nk:Nu k) (i:¬inF t w a k sd):ak p a k sd=.err 3:=by
 have hl:=h.len
 unfold ak bJ
 by_cases ha:a< 0∨(t:Int)≤a
 ·have e:(if(decide (a< (0:Int)))then Res.ok true else Res.ok (decide ((p.length:Int)≤a)):Res Bool)=.ok true:=by
   by_cases z:a< 0
   ·rw[if_pos (by simpa using z)]
   ·rw[if_neg (by simpa using z),decide_eq_true (by omega)]
  rw[e,Res.bind_ok',if_pos rfl,oy (by decide) na]
 ·rw[if_neg (by simp;omega),Res.bind_ok',if_neg (by simp;omega)]
  obtain⟨r,er,hr⟩:=dF (xs:=p) (i:=a) (by omega) (by omega)
  have hw:=h.row r (List.mem_of_getElem? hr)
  rw[er]
  by_cases hk:k< 0∨(w:Int)≤k
  ·have e:(if(decide (k< (0:Int)))then Res.ok true else((Res.ok r).bind fun y8=>Res.ok (y8.length:Int)).bind fun y9=>Res.ok (decide (y9≤k)):Res Bool)=.ok true:=by
    by_cases z:k< 0
    ·rw[if_pos (by simpa using z)]
    ·rw[if_neg (by simpa using z),Res.bind_ok',Res.bind_ok',decide_eq_true (by omega)]
   rw[e,Res.bind_ok',if_pos rfl,oy (by decide) nk]
  ·rw[if_neg (by simp;omega),Res.bind_ok',Res.bind_ok',Res.bind_ok',if_neg (by simp;omega)]
   have hs:¬isSd sd:=fun z=>i ⟨by omega,by omega,by omega,by omega,z⟩
   rw[if_pos]
   unfold isSd at hs
   simpa using hs
theorem lh (a b:Nat):nM [a] [b]=decide (a≤b):=by
 unfold nM
 have:([b]< [a])↔b< a:=by
  constructor
  ·intro h
   cases h with
   | rel h=>exact h
   | cons h=>cases h
  ·exact fun h=>List.Lex.rel h
 by_cases h:a≤b
 ·have n:¬([b]< [a]):=fun z=>by have:=this.mp z;omega
  simp[h,n]
 ·have y: [b]< [a]:=this.mpr (by omega)
  simp[h,y]
def rJ (sg:Tx):Bool:=match sg with | [c]=>decide (97≤c∧c≤122) | _=>false
def tK (sg:Tx):Bool:=decide (sg=[115]) || (decide (sg=[122]) || decide (sg=[111]))
def kf (sd sg:Tx):Bool:=if sd=SL then tK sg else rJ sg
theorem mr {sg:Tx} (h:sg.length≤100):qm sg=.ok (rJ sg):=by
 unfold qm tt
 rw[kO (by omega),Res.bind_ok',Res.bind_ok']
 match sg,h with
 | [],_=>rfl
 | [c], _ =>
  rw[if_pos (by simp),lh,lh]
  unfold rJ
  by_cases h:97≤c
  ·rw[if_pos (by simpa using h)];simp[h]
  ·rw[if_neg (by simpa using h)];simp[h]
 | _::_::_,_=>rw[if_neg (by simp;omega)];rfl
theorem li {sd sg:Tx} (h:sg.length≤100):p6 sd sg=.ok (kf sd sg):=by
 unfold p6 tu kf
 by_cases z:sd=SL
 ·rw[if_pos (by simpa using z),if_pos z]
  unfold tK
  congr 1
  rw[Bool.eq_iff_iff]
  simp
 ·rw[if_neg (by simpa using z),if_neg z,mr h]
theorem oz {t w:Nat} {p:List (List T3)} (h:Sh t w p) {a k:Int} {sd:Tx} (i:inF t w a k sd) (sg:Tx):∃r m,p[a.toNat]? =some r∧r[k.toNat]? =some m∧ao p a k sd sg=.ok (p.set a.toNat (r.set k.toNat (fB m sd sg)),rH m sd):=by
 obtain⟨a0,a1,k0,k1,hs⟩:=i
 have hl:=h.len
 obtain⟨r,er,hr⟩:=dF (xs:=p) a0 (by omega)
 have hw:=h.row r (List.mem_of_getElem? hr)
 obtain⟨m,em,hm⟩:=dF (xs:=r) k0 (by omega)
 obtain⟨r',er',hr'⟩:=iP (xs:=p) (f:=fun(b:List (List T3))=>b) a0 (by omega)
 rw[hr]at hr'
 cases hr'
 refine⟨r,m,hr,hm,?_⟩
 unfold ao cm
 rw[er,Res.bind_ok',em,Res.bind_ok',Res.bind_ok',er']
 simp only[Res.bind_ok',pJ (xs:=r) k0 (by omega)]
 rcases hs with rfl | rfl | rfl <;> rfl
theorem mt (m:T3) (sd x y:Tx):fB (fB m sd x) sd y=fB m sd y:=by
 unfold fB
 by_cases h1:sd=FA
 ·simp[h1]
 ·by_cases h2:sd=BA
  ·simp[h2]
  ·simp[h1,h2]
theorem tL {p:List (List T3)} {r:List T3} {m:T3} {a k:Nat} (hr:p[a]? =some r) (hm:r[k]? =some m) {sd:Tx} (hs:isSd sd):((((cP (gr p) (a:Int)).bind fun y=>cP y (k:Int)).bind fun y=>cP y (jx sd)))=.ok (rH m sd):=by
 rw[n6 (show(gr p)[a]? =some (r.map l3) by unfold gr;rw[List.getElem?_map,hr];rfl),Res.bind_ok',n6 (show(r.map l3)[k]? =some (l3 m) by rw[List.getElem?_map,hm];rfl),Res.bind_ok']
 rcases hs with rfl | rfl | rfl <;> rfl
theorem rK (m:T3) {sd:Tx} (hs:isSd sd) (x:Tx):fk (l3 m) (jx sd) x=.ok (l3 (fB m sd x)):=by
 rcases hs with rfl | rfl | rfl <;> rfl
theorem sW {p:List (List T3)} {r:List T3} {m:T3} {a k:Nat} (hr:p[a]? =some r) (hm:r[k]? =some m) {sd:Tx} (hs:isSd sd) (x:Tx):
  (((gP (gr p,fun(b:List (List (List Tx)))=>b) (a:Int)).bind fun y=>gP y (k:Int)).bind fun y=>(fk y.1 (jx sd) x).bind fun b=>Res.ok (y.2 b))=.ok (gr (p.set a (r.set k (fB m sd x)))):=by
 have ha:a< p.length:=(List.getElem?_eq_some_iff.mp hr).1
 have hk:k< r.length:=(List.getElem?_eq_some_iff.mp hm).1
 obtain⟨u,eu,hu⟩:=iP (xs:=gr p) (f:=fun(b:List (List (List Tx)))=>b) (j:=(a:Int)) (by omega) (by unfold gr;simp;omega)
 rw[Int.toNat_natCast,show(gr p)[a]? =some (r.map l3) by unfold gr;rw[List.getElem?_map,hr];rfl]at hu
 cases hu
 rw[eu,Res.bind_ok']
 obtain⟨v,ev,hv⟩:=iP (xs:=r.map l3) (f:=fun b'=>(gr p).set (Int.toNat (a:Int)) b') (j:=(k:Int)) (by omega) (by simp;omega)
 rw[Int.toNat_natCast,show(r.map l3)[k]? =some (l3 m) by rw[List.getElem?_map,hm];rfl]at hv
 cases hv
 rw[ev,Res.bind_ok',rK m hs,Res.bind_ok']
 unfold gr
 rw[Int.toNat_natCast,Int.toNat_natCast,List.map_set,List.map_set]
theorem Sh.set {t w:Nat} {p:List (List T3)} (h:Sh t w p) {r:List T3} {a k:Nat} (hr:p[a]? =some r) (m:T3):Sh t w (p.set a (r.set k m)):=
 ⟨by simp[h.len],fun x hx=>by
  rcases List.mem_or_eq_of_mem_set hx with z | z
  ·exact h.row x z
  ·rw[z,List.length_set];exact h.row r (List.mem_of_getElem? hr)⟩
abbrev fJ (a k:Int) (sd:Tx):Dat:=Dat.t [Dat.s [119,101,97,114],Dat.i a,Dat.i k,Dat.s sd]
abbrev fg (a k:Int) (sd sg:Tx):Dat:=Dat.t [Dat.s [115,112,111,116],Dat.i a,Dat.i k,Dat.s sd,Dat.s sg]
def oA (D:Dat):Prop:=∃a k sd,Nu a∧Nu k∧sd.length≤10∧(D=fJ a k sd∨∃sg:Tx,sg.length≤10∧D=fg a k sd sg)
abbrev lj (x:Tx):Dat:=Dat.t [Dat.s [116,111,108,100],Dat.s x]
abbrev refuD:Dat:=Dat.t [Dat.s [114,101,102,117,115,101,100],Dat.l [Dat.s [66,97,100,77,97,114,107]]]
theorem oC (a k:Int) (sd:Tx):cX (fJ a k sd) 0=.ok (Dat.s [119,101,97,114]):=rfl
theorem oE (a k:Int) (sd:Tx):cX (fJ a k sd) 1=.ok (Dat.i a):=rfl
theorem oF (a k:Int) (sd:Tx):cX (fJ a k sd) 2=.ok (Dat.i k):=rfl
theorem oG (a k:Int) (sd:Tx):cX (fJ a k sd) 3=.ok (Dat.s sd):=rfl
theorem oH (a k:Int) (sd sg:Tx):cX (fg a k sd sg) 0=.ok (Dat.s [115,112,111,116]):=rfl
theorem oJ (a k:Int) (sd sg:Tx):cX (fg a k sd sg) 1=.ok (Dat.i a):=rfl
theorem oK (a k:Int) (sd sg:Tx):cX (fg a k sd sg) 2=.ok (Dat.i k):=rfl
theorem oM (a k:Int) (sd sg:Tx):cX (fg a k sd sg) 3=.ok (Dat.s sd):=rfl
theorem oN (a k:Int) (sd sg:Tx):cX (fg a k sd sg) 4=.ok (Dat.s sg):=rfl
theorem ll {t w:Nat} {a k:Int} :(if decide (a< (0:Int))=true then Res.ok true else if decide ((t:Int)≤a)=true then Res.ok true else if decide (k< (0:Int))=true then Res.ok true else Res.ok (decide ((w:Int)≤k)):Res Bool)=.ok (!decide (0≤a∧a< t∧0≤k∧k< w)):=by
 by_cases h1:a< 0
 ·rw[if_pos (by simpa using h1),decide_eq_false (by omega)];rfl
 ·rw[if_neg (by simpa using h1)]
  by_cases h2:(t:Int)≤a
  ·rw[if_pos (by simpa using h2),decide_eq_false (by omega)];rfl
  ·rw[if_neg (by simpa using h2)]
   by_cases h3:k< 0
   ·rw[if_pos (by simpa using h3),decide_eq_false (by omega)];rfl
   ·rw[if_neg (by simpa using h3)]
    by_cases h4:(w:Int)≤k
    ·rw[decide_eq_true h4,decide_eq_false (by omega)];rfl
    ·rw[decide_eq_false h4,decide_eq_true (by omega)];rfl
instance zkeep64 (sd:Tx):Decidable (isSd sd):=by unfold isSd;infer_instance
instance zkeep65 (t w:Nat) (a k:Int) (sd:Tx):Decidable (inF t w a k sd):=by unfold inF;infer_instance
theorem lm {sd:Tx} :(if(!decide (sd=FA))=true then if(!decide (sd=BA))=true then Res.ok (!decide (sd=SL))else Res.ok false else Res.ok false:Res Bool)=.ok (!decide (isSd sd)):=by
 unfold isSd
 by_cases h1:sd=FA
 ·simp[h1]
 ·by_cases h2:sd=BA
  ·simp[h2]
  ·by_cases h3:sd=SL <;> simp[h1,h2,h3]
theorem rL (c:Nat):([97,98,99,100,101,102,103,104,105,106,107,108,109,110,111,112,113,114,115,116,117,118,119,120,121,122]:Tx).contains c=decide (97≤c∧c≤122):=by
 rw[Bool.eq_iff_iff,decide_eq_true_eq,List.contains_iff_mem]
 simp only[List.mem_cons,List.not_mem_nil,or_false]
 omega
theorem mv {t w:Nat} (a k:Int) (sd:Tx):iN (fJ a k sd) (t:Int) (w:Int)=.ok (decide (inF t w a k sd)):=by
 unfold iN sU
 simp only[oC,oE,oF,oG,oI,oT,Res.bind_ok']
 rw[ll,Res.bind_ok',lm]
 simp only[Res.bind_ok']
 by_cases h:0≤a∧a< t∧0≤k∧k< w
 ·rw[if_neg (by simp[h])]
  by_cases hs:isSd sd
  ·rw[if_neg (by simp[hs])]
   rw[decide_eq_true (show inF t w a k sd from⟨h.1,h.2.1,h.2.2.1,h.2.2.2,hs⟩)]
   rfl
  ·rw[if_pos (by simp[hs]),decide_eq_false (show ¬inF t w a k sd from fun z=>hs z.2.2.2.2)]
 ·rw[if_pos (by simp only[h,decide_false];rfl),decide_eq_false (show ¬inF t w a k sd from fun z=>h ⟨z.1,z.2.1,z.2.2.1,z.2.2.2.1⟩)]
theorem mw {t w:Nat} (a k:Int) {sd sg:Tx} (hg:sg.length≤10):iN (fg a k sd sg) (t:Int) (w:Int)=.ok (decide (inF t w a k sd) && kf sd sg):=by
 unfold iN sU
 simp only[oH,oJ,oK,oM,oN,oI,oT,Res.bind_ok']
 rw[ll,Res.bind_ok',lm]
 simp only[Res.bind_ok']
 by_cases h:0≤a∧a< t∧0≤k∧k< w
 ·rw[if_neg (by simp[h])]
  by_cases hs:isSd sd
  ·rw[if_neg (by simp[hs]),if_neg (by decide),decide_eq_true (show inF t w a k sd from⟨h.1,h.2.1,h.2.2.1,h.2.2.2,hs⟩),Bool.true_and]
   unfold kf
   by_cases z:sd=SL
   ·rw[if_pos (by simpa using z),if_pos z]
    unfold tK
    by_cases z1:sg=[115]
    ·simp[z1]
    ·by_cases z2:sg=[122]
     ·simp[z2]
     ·simp[z1,z2]
   ·rw[if_neg (by simpa using z),if_neg z]
    show((n9 sg).bind _).bind _=_
    rw[kO (by omega)]
    simp only[Res.bind_ok']
    match sg,hg with
    | [],_=>rfl
    | [c], _ =>
     rw[if_pos (by simp)]
     show Res.ok (([97,98,99,100,101,102,103,104,105,106,107,108,109,110,111,112,113,114,115,116,117,118,119,120,121,122]:Tx).contains c)=_
     rw[rL];rfl
    | _::_::_,_=>rw[if_neg (by simp;omega)];rfl
  ·rw[if_pos (by simp[hs]),decide_eq_false (show ¬inF t w a k sd from fun z=>hs z.2.2.2.2)];rfl
 ·rw[if_pos (by simp only[h,decide_false];rfl),decide_eq_false (show ¬inF t w a k sd from fun z=>h ⟨z.1,z.2.1,z.2.2.1,z.2.2.2.1⟩)];rfl
theorem qr {t w:Nat} {p:List (List T3)} (h:Sh t w p) {a k:Int} {sd sg:Tx} (hg:sg.length≤10) (i:inF t w a k sd) (hf:kf sd sg=true):az p a k sd sg=ao p a k sd sg:=by
 unfold az bx
 rw[gG h i,Res.bind_ok',li (by omega),Res.bind_ok',Res.bind_ok',if_neg (by simp[hf])]
 simp only[Res.bind_ok']
theorem oO {t w:Nat} {p:List (List T3)} (h:Sh t w p) {a k:Int} {sd sg:Tx} (na:Nu a) (nk:Nu k) (hd:sd.length≤10) (hg:sg.length≤10) (i:(decide (inF t w a k sd) && kf sd sg)=false):az p a k sd sg=.err 3:=by
 unfold az bx
 by_cases z:inF t w a k sd
 ·rw[decide_eq_true z,Bool.true_and]at i
  rw[gG h z,Res.bind_ok',li (by omega),Res.bind_ok',Res.bind_ok',if_pos (by simp[i])]
  rw[fS (by simp),Res.bind_ok',fS (by simp;omega),Res.bind_ok',Res.bind_ok']
  rw[show ∀x,jI ([]++x++sd)=dN (([]++x++sd).length≤cap) ([]++x++sd)from fun _=>rfl,bG (by unfold cap;simp;omega),Res.bind_ok']
 ·rw[ic h na nk z];rfl
theorem qs {t w:Nat} {p:List (List T3)} (h:Sh t w p) {a k:Int} {sd:Tx} (i:inF t w a k sd):aA p a k sd=ao p a k sd [63]:=by
 unfold aA bz
 rw[gG h i,Res.bind_ok']
 simp only[Res.bind_ok']
theorem oP {t w:Nat} {p:List (List T3)} (h:Sh t w p) {a k:Int} {sd:Tx} (na:Nu a) (nk:Nu k) (i:¬inF t w a k sd):aA p a k sd=.err 3:=by
 unfold aA bz
 rw[ic h na nk i];rfl
theorem kg (p:List (List T3)) (a k:Int) (sd:Tx):iO p (fJ a k sd)=(Res.tryR (aA p a k sd)).bind fun r=>match r with | .inr j=>Res.ok (p,j9 [114,101,102,117,115,101,100] j) | .inl y=>Res.ok (y.1,lj y.2):=by
 unfold iO rW
 simp only[oC,oE,oF,oG,oI,oT,Res.bind_ok']
 rw[if_neg (by decide)]
 all_goals (cases aA p a k sd <;> rfl)
theorem kh (p:List (List T3)) (a k:Int) (sd sg:Tx):iO p (fg a k sd sg)=(Res.tryR (az p a k sd sg)).bind fun r=>match r with | .inr j=>Res.ok (p,j9 [114,101,102,117,115,101,100] j) | .inl y=>Res.ok (y.1,lj y.2):=by
 unfold iO rW
 simp only[oH,oJ,oK,oM,oN,oI,oT,Res.bind_ok']
 rw[if_pos (by decide)]
 all_goals (cases az p a k sd sg <;> rfl)
theorem ji {α β:Type} {f:β→Res α} {g:α→β} :∀{xs:List α},(∀x∈xs,f (g x)=.ok x)→eY f (xs.map g)=.ok xs
 | [],_=>rfl
 | a :: r, h => by
  show(f (g a)).bind _=_
  rw[h a (List.mem_cons_self ..),Res.bind_ok',ji fun x hx=>h x (List.mem_cons_of_mem _ hx)];rfl
theorem fC {α β:Type} {f:β→Res α} {g:α→β} {xs:List α} (hl:xs.length≤100000) (h:∀x∈xs,f (g x)=.ok x):bD (xs.map g) f=.ok xs:=by
 unfold bD;rw[bG (by simp[cap];omega),Res.bind_ok'];exact ji h
theorem oQ {α:Type} {xs:List α} (hl:xs.length≤100000):bD xs (fun a=>Res.ok a)=.ok xs:=by
 have:=fC (f:=fun a:α=>Res.ok a) (g:=id) hl (fun x _=>rfl)
 rwa [List.map_id]at this
def kn (m:T3):Nat:=(if m.1=[63]then 0 else 1)+((if m.2.1=[63]then 0 else 1)+(if m.2.2=[63]then 0 else 1))
theorem qM (m:T3):kn m≤3:=by unfold kn;split <;> split <;> split <;> omega
theorem rM (m:T3) (s:Int):s+3- jV m [63]=s+(kn m:Int):=by
 unfold kn jV
 split <;> split <;> split <;> simp_all <;> omega
def oR (r:List T3):Nat:=(r.map kn).sum
def p7 (p:List (List T3)):Nat:=(p.map oR).sum
theorem oS:∀r:List T3,oR r≤3*r.length
 | []=>by simp[oR]
 | a::r=>by have:=oS r;have:=qM a;unfold oR at *;simp at *;omega
theorem qN:∀(r:List T3) (s:Int),br rX r s=.ok (s+(oR r:Int))
 | [],s=>by simp[br,oR]
 | m :: r, s => by
  unfold br
  rw[show rX m s=.ok (s+(kn m:Int)) by unfold rX;rw[←rM],Res.bind_ok',qN r]
  unfold oR;simp;omega
theorem qO:∀(p:List (List T3)) (s:Int),br rY p s=.ok (s+(p7 p:Int))
 | [],s=>by simp[br,p7]
 | r :: p, s => by
  unfold br
  rw[show rY r s=.ok (s+(oR r:Int)) by unfold rY;rw[qN];rfl,Res.bind_ok',qO p]
  unfold p7;simp;omega
abbrev ka:Tx→List Int→Res (List Int):=fun a s=>if(!decide (a=([63]:Tx)))then dm s (1:Int)else Res.ok s
theorem oU (a:Tx) {n:Nat} (h:n< 90000):ka a (List.replicate n (1:Int))=.ok (List.replicate (n+(if a=[63]then 0 else 1)) 1):=by
 unfold ka
 by_cases z:a=[63]
 ·simp[z]
 ·rw[if_pos (by simpa using z),iH (by simp;omega),if_neg z,←List.replicate_succ']
theorem uj (m:T3) {n:Nat} (h:n< 80000):br ka [m.1,m.2.1,m.2.2] (List.replicate n (1:Int))=.ok (List.replicate (n+kn m) 1):=by
 unfold br;rw[oU _ (by omega),Res.bind_ok']
 unfold br;rw[oU _ (by split <;> omega),Res.bind_ok']
 unfold br;rw[oU _ (by split <;> split <;> omega),Res.bind_ok']
 unfold br kn
 congr 2;omega
theorem oV:∀(r:List T3) (n:Nat),n+3*r.length< 80000→br (fun(a:T3) (s:List Int)=>br ka [a.1,a.2.1,a.2.2] s) r (List.replicate n (1:Int))=.ok (List.replicate (n+oR r) 1)
 | [],n,_=>by simp[br,oR]
 | m :: r, n, h => by
  simp at h
  have:=qM m
  unfold br
  rw[uj m (by omega),Res.bind_ok',oV r _ (by omega)]
  unfold oR;simp;omega
theorem oW {w:Nat} (hw:w≤8):∀(p:List (List T3)) (n:Nat),(∀r∈p,r.length=w)→n+24*p.length< 70000→br (fun(b:List T3) (s:List Int)=>br (fun(a:T3) (s:List Int)=>br ka [a.1,a.2.1,a.2.2] s) b s) p (List.replicate n (1:Int))=.ok (List.replicate (n+p7 p) 1)
 | [],n,_,_=>by simp[br,p7]
 | r :: p, n, h, hl => by
  simp at hl
  have h1:=h r (List.mem_cons_self ..)
  have:=oS r
  unfold br
  rw[oV r n (by omega),Res.bind_ok',oW hw p _ (fun x hx=>h x (List.mem_cons_of_mem _ hx)) (by omega)]
  unfold p7;simp;omega
theorem oX {t w:Nat} {p:List (List T3)} (h:Sh t w p) (ht:t≤60) (hw:w≤8):aV p=.ok (p7 p:Int):=by
 unfold aV cu
 have hl:=h.len
 have:=oW hw p 0 h.row (by omega)
 rw[show(br (fun(a6:List (Tx×Tx×Tx)) (s8:List Int)=>br (fun(a18:Tx×Tx×Tx) (s20:List Int)=>br (fun(a31:Tx) (s33:List Int)=>if(!decide (a31=([63]:Tx)))then dm s33 (1:Int)else Res.ok s33) [a18.1,a18.2.1,a18.2.2] s20) a6 s8) p ([]:List Int))=.ok (List.replicate (0+p7 p) 1)from this,Res.bind_ok']
 simp
theorem jj {t w:Nat} {p:List (List T3)} (h:Sh t w p) (ht:t≤60):am p=.ok p:=by
 unfold am cr
 exact oQ (by have:=h.len;omega)
theorem jk {t w:Nat} {p:List (List T3)} (h:Sh t w p) (ht:t≤60) {k:Nat} (hk:k< w):∃ys,bD p (fun(a:List T3)=>cP a (k:Int))=.ok ys∧ys.length=t:=by
 have hl:=h.len
 obtain⟨ys,e,hy,_⟩:=nK (f:=fun(a:List T3)=>cP a (k:Int)) (P:=fun _ _=>True) (xs:=p) (by omega) (fun r hr=>by
  obtain⟨x,ex,_⟩:=dF (xs:=r) (i:=(k:Int)) (by omega) (by have:=h.row r hr;omega)
  exact⟨x,ex,trivial⟩)
 exact⟨ys,e,by omega⟩
theorem uk {t w:Nat} {p:List (List T3)} (h:Sh t w p) (ht:t≤60) (hw:w≤8):bD (gr p) (fun(a3:List (List Tx))=>bD a3 (fun(a10:List Tx)=>lK a10))=.ok p:=by
 have hl:=h.len
 unfold gr
 refine fC (g:=fun r:List T3=>r.map l3) (by omega) fun r hr=>?_
 refine fC (g:=l3) (by have:=h.row r hr;omega) fun m _=>?_
 rfl
theorem qt {t w:Nat} {p:List (List T3)} (h:Sh t w p) (ht:t≤60) (hw:w≤8):eO (rZ ap p p) ((List.range w).map fun(i:Nat)=>(i:Int)) ()=.ok (.nx ()):=by
 obtain⟨s,e,_⟩:=j8 (f:=rZ ap p p) (fun _ _=>True) ((List.range w).map fun(i:Nat)=>(i:Int)) () trivial (by
  intro pre a post s e _
  obtain⟨k,hk,rfl⟩:∃k:Nat,k< w∧a=(k:Int):=by
   have:a∈(List.range w).map fun(i:Nat)=>(i:Int):=by rw[e];simp
   obtain⟨k,hk,e⟩:=List.mem_map.mp this
   exact⟨k,List.mem_range.mp hk,e.symm⟩
  obtain⟨ys,ey,hy⟩:=jk h ht hk
  refine⟨(),?_,trivial⟩
  unfold rZ ap bK
  rw[ey,Res.bind_ok',Res.bind_ok',gz rfl,Res.bind_ok',Res.bind_ok',if_neg (by decide),iH (by omega),Res.bind_ok'])
 exact e
theorem qu {t w:Nat} {p:List (List T3)} (h:Sh t w p) (ht:t≤60) (h1:1≤w):((ap p (0:Int)).bind fun y170=>(bD p (fun(a161:List T3)=>cP a161 (0:Int))).bind fun y171=>my y170 y171)=.ok true:=by
 obtain⟨ys,ey,_⟩:=jk h ht (k:=0) (by omega)
 have ey':bD p (fun(a:List T3)=>cP a (0:Int))=.ok ys:=ey
 unfold ap bK
 rw[ey',Res.bind_ok',Res.bind_ok',gz rfl]
theorem ig {t w:Nat} {p:List (List T3)} (h:Sh t w p) (ht:t≤60) (hw:w≤8) (h1:1≤w):jg p (gr p) (w:Int)=.ok true:=by
 have e0:my p p=.ok true:=gz rfl
 have e1:my (p7 p:Int) (0+(p7 p:Int))=.ok true:=gz (by omega)
 have e2:=qu h ht h1
 unfold jg tw
 rw[uk h ht hw,Res.bind_ok',qO,Res.bind_ok',jj h ht,oX h ht hw]
 rw[Res.bind_ok',e0,Res.bind_ok',Res.bind_ok',if_neg (by decide),Res.bind_ok',e1,Res.bind_ok',Res.bind_ok',if_neg (by decide)]
 rw[ei (by omega),Res.bind_ok',qt h ht hw,Res.bind_ok']
 dsimp only
 rw[Res.bind_ok',Res.bind_ok',Res.bind_ok',if_pos rfl,e2]
abbrev q3:T3:=([63],[63],[63])
abbrev eR (t w:Nat):List (List T3):=List.replicate t (List.replicate w q3)
theorem gH {α:Type} {f:Int→Res α} {x:α} {n:Nat} (hn:n≤100000) (h:∀i,f i=.ok x):((cF (n:Int)).bind fun y=>bD y f)=.ok (List.replicate n x):=by
 rw[ei hn,Res.bind_ok']
 unfold bD
 rw[bG (by simp[cap];omega),Res.bind_ok',kL (g:=fun _=>x) fun i _=>h i]
 simp[Function.comp_def,List.map_const']
theorem sX {α:Type} (x:α):∀n:Nat,(List.replicate n [x]).flatten=List.replicate n x
 | 0=>rfl
 | n+1=>by rw[List.replicate_succ,List.flatten_cons,sX x n,List.replicate_succ];rfl
theorem qv {t w:Nat} (ht:t≤60) (hw:w≤8):ar (t:Int) (w:Int)=.ok (eR t w):=by
 unfold ar cx
 refine gH (by omega) fun i=>?_
 unfold pR
 rw[bG (by refine⟨by omega,by omega,?_⟩;simp[cap];omega),Int.toNat_natCast,sX]
theorem jl (t w:Nat):Sh t w (eR t w):=⟨by simp,fun r hr=>by rw[(List.mem_replicate.mp hr).2];simp⟩
theorem oY (t w:Nat):gr (eR t w)=List.replicate t (List.replicate w [[63],[63],[63]]):=by
 unfold gr;simp[l3]
theorem ln {α β:Type} {m:Res α} {f:α→Res β} {Q:β→Prop} (R:α→Prop) (h1:m.Ok R) (h2:∀a,R a→(f a).Ok Q):(m.bind f).Ok Q:=u9 (h1.imp h2)
theorem jm {α:Type} {xs:List α} {P:α→Prop} {i:Int} (h0:0≤i) (h1:i< xs.length) (hx:∀x∈xs,P x):(cP xs i).Ok P:=by
 obtain⟨x,e,h⟩:=dF h0 h1
 rw[e];exact hx x (List.mem_of_getElem? h)
theorem qw {t w:Nat} (ht:t≤60) (hw:w≤8) (h1:1≤w) (c:Int):(k4 c (t:Int) (w:Int)).Ok oA:=by
 unfold k4 tm
 obtain⟨ns,e,hl,hb⟩:=rG c 6 2310 (by omega) (by omega) (by omega)
 rw[show p5 c (6:Int) 2310=.ok ns from e,Res.bind_ok']
 match ns,hl with
 | [a0, a1, a2, a3, a4, a5], _ =>
  have e0:cP [a0,a1,a2,a3,a4,a5] (0:Int)=.ok a0:=rfl
  have e1:cP [a0,a1,a2,a3,a4,a5] (1:Int)=.ok a1:=rfl
  have e2:cP [a0,a1,a2,a3,a4,a5] (2:Int)=.ok a2:=rfl
  have e3:cP [a0,a1,a2,a3,a4,a5] (3:Int)=.ok a3:=rfl
  have e4:cP [a0,a1,a2,a3,a4,a5] (4:Int)=.ok a4:=rfl
  have e5:cP [a0,a1,a2,a3,a4,a5] (5:Int)=.ok a5:=rfl
  rw[e0,e1,e2,e3,e4,e5]
  simp only[Res.bind_ok']
  have b3:=Int.emod_nonneg a2 (show(3:Int)≠0 by decide)
  have b26:=Int.emod_nonneg a3 (show(26:Int)≠0 by decide)
  refine ln Nu ?_ fun y9 h9=>ln Nu ?_ fun y15 h15=>ln (fun x:Tx=>x.length≤10) ?_ fun y22 h22=>ln (fun x:Tx=>x.length≤10) ?_ fun y29 h29=>ln (fun x:Tx=>x.length≤10) ?_ fun s46 h46=>ln Nu ?_ fun s71 h71=>ln Nu ?_ fun s96 h96=>ln (fun x:Tx=>x.length≤10) ?_ fun s121 h121=>ln (fun x:Tx=>x.length≤10) ?_ fun s146 h146=>?_
  ·have hp:(0:Int)< (if(1:Int)> (t:Int)then(1:Int)else(t:Int)):=by split <;> omega
   rw[fR hp]
   have z0:=Int.emod_nonneg a0 (Int.ne_of_gt hp)
   have z1:=Int.emod_lt_of_pos a0 hp
   refine .inl ⟨by omega,?_⟩
   have:(if(1:Int)> (t:Int)then(1:Int)else(t:Int))≤60:=by split <;> omega
   omega
  ·rw[fR (by omega)]
   have z0:=Int.emod_nonneg a1 (show(w:Int)≠0 by omega)
   have z1:=Int.emod_lt_of_pos a1 (show(0:Int)< (w:Int) by omega)
   exact .inl ⟨by omega,by omega⟩
  ·exact jm b3 (by simp;omega) (by decide)
  ·obtain⟨k,ek,_⟩:=kP (x:=([97,98,99,100,101,102,103,104,105,106,107,108,109,110,111,112,113,114,115,116,117,118,119,120,121,122]:Tx)) (i:=a3% 26) b26 (by simp;omega) (by decide)
   rw[ek];show([k]:Tx).length≤10;simp
  ·refine rp (fun _=>?_) fun _=>h29
   obtain⟨k,ek,_⟩:=kP (x:=([115,122,111]:Tx)) (i:=a3% 3) (by omega) (by simp;omega) (by decide)
   rw[ek];show([k]:Tx).length≤10;simp
  ·refine rp (fun _=>ln Nu (jm (by omega) (by simp;omega) ?_) fun a h=>h) fun _=>h9
   intro x hx
   simp only[List.mem_cons,List.not_mem_nil,or_false]at hx
   unfold Nu
   omega
  ·refine rp (fun _=>ln Nu (jm (by omega) (by simp;omega) ?_) fun a h=>h) fun _=>h15
   intro x hx
   simp only[List.mem_cons,List.not_mem_nil,or_false]at hx
   unfold Nu
   omega
  ·exact rp (fun _=>ln (fun x:Tx=>x.length≤10) (jm (by omega) (by simp;omega) (by decide)) fun a h=>h) fun _=>h22
  ·exact rp (fun _=>ln (fun x:Tx=>x.length≤10) (jm (by omega) (by simp;omega) (by decide)) fun a h=>h) fun _=>h46
  ·exact rp (fun _=>⟨s71,s96,s121,h71,h96,h121,.inl rfl⟩) fun _=>⟨s71,s96,s121,h71,h96,h121,.inr ⟨s146,h146,rfl⟩⟩
theorem lq (x:Tx):(lj x).le 24:=by
 intro y hy
 simp only[List.mem_cons,List.not_mem_nil,or_false]at hy
 rcases hy with rfl | rfl <;> trivial
theorem qx:refuD.le 24:=by
 intro y hy
 simp only[List.mem_cons,List.not_mem_nil,or_false]at hy
 rcases hy with rfl | rfl
 ·trivial
 ·intro z hz
  simp only[List.mem_cons,List.not_mem_nil,or_false]at hz
  rcases hz with rfl
  trivial
theorem oZ {sd:Tx} (hs:isSd sd):d4 (jU (FA,BA,SL) sd)=.ok (jx sd):=by
 rcases hs with rfl | rfl | rfl <;> rfl
theorem qy {t w:Nat} {p:List (List T3)} (h:Sh t w p) {D:Dat} (hD:oA D):
  (iN D (t:Int) (w:Int)=.ok false∧iO p D=.ok (p,refuD))∨
  ∃(a k:Nat) (sd sg:Tx) (r:List T3) (m:T3),isSd sd∧p[a]? =some r∧r[k]? =some m∧(D=fJ (a:Int) (k:Int) sd∧sg=[63]∨D=fg (a:Int) (k:Int) sd sg)∧iN D (t:Int) (w:Int)=.ok true∧iO p D=.ok (p.set a (r.set k (fB m sd sg)),lj (rH m sd)):=by
 obtain⟨a,k,sd,na,nk,hd,hD | ⟨sg,hg,hD⟩⟩:=hD
 ·subst hD
  rw[mv,kg]
  by_cases i:inF t w a k sd
  ·refine .inr ?_
   obtain⟨r,m,hr,hm,e⟩:=oz h i [63]
   obtain⟨a0,a1,k0,k1,hs⟩:=id i
   refine⟨a.toNat,k.toNat,sd,[63],r,m,hs,hr,hm,.inl ⟨?_,rfl⟩,by rw[decide_eq_true i],?_⟩
   ·rw[Int.toNat_of_nonneg a0,Int.toNat_of_nonneg k0]
   ·rw[qs h i,e];rfl
  ·refine .inl ⟨by rw[decide_eq_false i],?_⟩
   rw[oP h na nk i];rfl
 ·subst hD
  rw[mw a k hg,kh]
  by_cases i:(decide (inF t w a k sd) && kf sd sg)=true
  ·refine .inr ?_
   have i1:inF t w a k sd:=of_decide_eq_true (Bool.and_eq_true_iff.mp i).1
   obtain⟨r,m,hr,hm,e⟩:=oz h i1 sg
   obtain⟨a0,a1,k0,k1,hs⟩:=id i1
   refine⟨a.toNat,k.toNat,sd,sg,r,m,hs,hr,hm,.inr ?_,by rw[i],?_⟩
   ·rw[Int.toNat_of_nonneg a0,Int.toNat_of_nonneg k0]
   ·rw[qr h hg i1 (Bool.and_eq_true_iff.mp i).2,e];rfl
  ·have i':=Bool.eq_false_iff.mpr i
   refine .inl ⟨by rw[i'],?_⟩
   rw[oO h na nk hd hg i'];rfl
theorem rN {ns:List Int} (hn:ns.length≤63) {t w:Nat} (ht:t≤60) (hw:w≤8) (h1:1≤w) {p:List (List T3)} (h:Sh t w p) (j:Nat):
  ∃p',da gE k4 iN iO jg ns (t:Int) (w:Int) (j:Int) (p,gr p)=.ok (.nx (p',gr p'))∧Sh t w p':=by
 obtain⟨c,ec⟩:=lg hn (3+j% 60) (by omega)
 rw[show((3+j% 60:Nat):Int)=(3:Int)+((j:Int)% 60) by omega]at ec
 obtain⟨D,eD,hD⟩:=(qw ht hw h1 c).ex
 have fin:∀(p':List (List T3)) (x:Dat),Sh t w p'→x.le 24→((nL x x).bind fun c=>(Res.ok (p',c):Res (List (List T3)×Bool))).bind (fun y210=>if y210.2 then(if(decide (((j:Int)% 7)=(3:Int)))then(jg y210.1 (gr p') (w:Int)).bind fun y220=>Res.ok (!y220)else Res.ok false).bind fun y221=>if y221 then Res.ok (.rt false)else Res.ok (.nx (y210.1,gr p'))else Res.ok (.rt false))=(.ok (.nx (p',gr p')):Res (Fl Bool (List (List T3)×List (List (List Tx))))):=fun p' x hp hx=>by
  rw[rq rfl hx,Res.bind_ok',Res.bind_ok',if_pos rfl,ig hp ht hw h1]
  by_cases z:(j:Int)% 7=3
  ·rw[if_pos (by simpa using z)];rfl
  ·rw[if_neg (by simpa using z)];rfl
 unfold da
 rw[ec,Res.bind_ok',eD,Res.bind_ok']
 rcases qy h hD with⟨e1,e2⟩ | ⟨a,k,sd,sg,r,m,hs,hr,hm,hd,e1,e2⟩
 ·rw[e1,Res.bind_ok',if_neg (by decide),Res.bind_ok']
  simp only[Res.bind_ok',e2]
  exact⟨p,fin p refuD h qx,h⟩
 ·have hS:=h.set hr (k:=k) (fB m sd sg)
  refine⟨_,?_,hS⟩
  rw[e1,Res.bind_ok',if_pos rfl]
  have g1:=tL hr hm hs
  have g2:=sW hr hm hs [63]
  have hr2:(p.set a (r.set k (fB m sd [63])))[a]? =some (r.set k (fB m sd [63])):=by
   rw[List.getElem?_set_self (List.getElem?_eq_some_iff.mp hr).1]
  have hm2:(r.set k (fB m sd [63]))[k]? =some (fB m sd [63]):=by
   rw[List.getElem?_set_self (List.getElem?_eq_some_iff.mp hm).1]
  have g3:=sW hr2 hm2 hs sg
  rw[mt,List.set_set,List.set_set]at g3
  rcases hd with⟨rfl,rfl⟩ | rfl
  ·simp only[oC,oE,oF,oG,oI,oT,Res.bind_ok',oZ hs,g1,g2,e2]
   rw[if_neg (by decide),Res.bind_ok',Res.bind_ok']
   exact fin _ _ hS (lq _)
  ·simp only[oH,oJ,oK,oM,oN,oI,oT,Res.bind_ok',oZ hs,g1,g2,g3,e2]
   rw[if_pos (by decide),Res.bind_ok',Res.bind_ok']
   exact fin _ _ hS (lq _)
theorem p3 {ns:List Int} (hn:ns.length≤63) {t w n:Nat} (ht:t≤60) (hw:w≤8) (h1:1≤w) (hc:n≤60):
  ∃p',eO (da gE k4 iN iO jg ns (t:Int) (w:Int)) ((List.range n).map fun(i:Nat)=>(i:Int)) (eR t w,gr (eR t w))=.ok (.nx (p',gr p'))∧Sh t w p':=by
 obtain⟨s,e,hs,h2⟩:=j8 (f:=da gE k4 iN iO jg ns (t:Int) (w:Int)) (fun _ s=>Sh t w s.1∧s.2=gr s.1) ((List.range n).map fun(i:Nat)=>(i:Int)) (eR t w,gr (eR t w)) ⟨jl t w,rfl⟩ (by
  intro pre a post s e ⟨hs,h2⟩
  obtain⟨j,rfl⟩:∃j:Nat,a=(j:Int):=by
   have:a∈(List.range n).map fun(i:Nat)=>(i:Int):=by rw[e];simp
   obtain⟨k,_,hk⟩:=List.mem_map.mp this;exact⟨k,hk.symm⟩
  obtain⟨p,g⟩:=s
  replace h2:g=gr p:=h2
  subst h2
  obtain⟨p',e',h'⟩:=rN hn ht hw h1 hs j
  exact⟨_,e',h',rfl⟩)
 obtain⟨p,g⟩:=s
 replace h2:g=gr p:=h2
 subst h2
 exact⟨p,e,hs⟩
theorem rO (ns:List Int) (h:ns.length≤63):(oq ns).Ok (· =true):=by
 obtain⟨a0,e0⟩:=lg h 0 (by omega)
 obtain⟨a1,e1⟩:=lg h 1 (by omega)
 obtain⟨a2,e2⟩:=lg h 2 (by omega)
 have e0':gE ns (0:Int)=.ok a0:=e0
 have e1':gE ns (1:Int)=.ok a1:=e1
 have e2':gE ns (2:Int)=.ok a2:=e2
 unfold oq lc
 rw[e0',e1',e2']
 simp only[Res.bind_ok']
 refine ln (fun t:Int=>0≤t∧t≤60) (rp (fun _=>?_) fun _=>?_) fun t ht=>?_
 ·exact⟨by omega,by omega⟩
 ·exact⟨by omega,by omega⟩
 obtain⟨t',rfl⟩:∃n:Nat,t=(n:Int):=⟨t.toNat,by omega⟩
 obtain⟨w,ew⟩:∃n:Nat,(1:Int)+a1% 8=(n:Int):=⟨(1+a1% 8).toNat,by omega⟩
 obtain⟨n,en⟩:∃n:Nat,a2% 61=(n:Int):=⟨(a2% 61).toNat,by omega⟩
 have hw:w≤8:=by omega
 have h1:1≤w:=by omega
 have hn:n≤60:=by omega
 have ht6:t'≤60:=by omega
 rw[ew,en,qv ht6 hw,Res.bind_ok',Res.bind_ok']
 rw[gH (x:=List.replicate w [([63]:Tx),[63],[63]]) (by omega) fun _=>gH (by omega) fun _=>rfl,Res.bind_ok']
 rw[gH (x:=List.replicate w q3) (by omega) fun _=>gH (by omega) fun _=>rfl,Res.bind_ok',ei (by omega),Res.bind_ok']
 obtain⟨p,e,hp⟩:=p3 h ht6 hw h1 hn
 rw[oY]at e
 rw[e,Res.bind_ok']
 dsimp only
 rw[ig hp ht6 hw h1,Res.bind_ok',if_pos rfl,jj (jl t' w) ht6,Res.bind_ok',gz rfl]
 rfl
end Mi
namespace PySem.W.Fast
def tw140001813534094272:=()
def tw4321966507151631593:=()
def tw10698057553749749337:=()
def tw13810262117814702294:=()
def tw17613222154834848340:=()
def tw5344687154915797982:=()
def tw855453113358079251:=()
def tw18437792190763421558:=()
def tw14565471765716263578:=()
def tw6548459193220583526:=()
def tw9495317472360511255:=()
def tw14842496431369740429:=()
def tw6858818405166986180:=()
def tw15779231459743154856:=()
def tw17318462890700432884:=()
def tw12297992134047619483:=()
def tw447263597446747957:=()
def tw9879335643197240621:=()
def tw10159399881129095643:=()
def tw6472337539984862722:=()
def tw15042883488752021643:=()
def tw3374319085511977134:=()
def tw8060666987683057360:=()
def tw13769103115541136327:=()
def tw1205274952441263945:=()
def tw726351398001015727:=()
def tw18418582437962087742:=()
def tw9464783005390448368:=()
def tw12954591660760965231:=()
def tw11766667032028208565:=()
def tw9919008367099125623:=()
def tw5890639436620234070:=()
def tw16766683885213920930:=()
def tw87601786513091389:=()
def tw12843764043397292189:=()
def tw6953138203311097117:=()
def tw13114645530532618160:=()
def tw8535803893964050539:=()
def tw16636501806038632012:=()
def tw4493901809537577575:=()
def tw3300257896294614128:=()
def tw10519837036962490867:=()
def tw9536688357841153863:=()
def tw1725486776273817318:=()
def tw209982475168477708:=()
def tw16919654943277366748:=()
def tw2353497105660221152:=()
def tw17744993626210230056:=()
def tw8899516883271353254:=()
def tw5667099127317398114:=()
def tw15173544498738437827:=()
def tw15433366417846715934:=()
def tw15925456577456769635:=()
def tw6469784823511061222:=()
def tw10910644110388302437:=()
def tw6162269159774324313:=()
def tw17292613610259460706:=()
def tw5002640475654186023:=()
def tw1383625962624193546:=()
def tw12917704675397863716:=()
def tw17062427158221528723:=()
def tw15861351967447197489:=()
def tw12099505692703838030:=()
def tw4849480874435393781:=()
def tw6549852094080907030:=()
def tw1478030337931831861:=()
def tw14664691819916384248:=()
def tw861502493610598483:=()
def tw15254633091992210921:=()
def tw5449601097390414333:=()
def tw17214186515701724070:=()
def tw4323258101793500111:=()
def tw6356304189028158447:=()
def tw9806118890596472461:=()
def tw9592521066531166775:=()
def tw17817366049700826239:=()
def tw10842938092177581297:=()
def tw4077048163395320219:=()
def tw11823594873375168262:=()
def tw14004222809526987494:=()
def tw12459912946257978736:=()
def tw13812277999558781770:=()
def tw11738243743197964597:=()
def tw17338325484393633139:=()
def tw1950803216711332702:=()
def tw7424060955962978353:=()
def tw4971374062829452455:=()
def tw10624116801336726872:=()
def tw12727641955093265886:=()
def tw13757698761724263525:=()
def tw2261719852989239553:=()
def tw9456574344343218679:=()
def tw4580019852769339753:=()
def tw14958820412457663293:=()
def tw11401859456886640639:=()
def tw5072417060200589145:=()
def tw1495895850433845275:=()
def tw14727194681476072466:=()
def tw4171853373547519906:=()
def tw938635154573522699:=()
def tw2570914705882880060:=()
def tw1599053048872161195:=()
def tw17170472223608059050:=()
def tw3419001889969749887:=()
def tw7259074068181991370:=()
def tw10510056951384868246:=()
def tw9950792792127014553:=()
def tw13855379610559885079:=()
def tw15402603294489630176:=()
def tw4635989785427082552:=()
def tw11384182702204212275:=()
def tw6968137755033780318:=()
def tw2400638427578300857:=()
def tw3721919958574915784:=()
def tw6229817132586351632:=()
def tw2107523057676978006:=()
def tw14904681115217272601:=()
def tw16108870410212019532:=()
def tw3042748168174471775:=()
def tw3300454383303005205:=()
def tw7476452910721959123:=()
def tw12887044766017154078:=()
def tw9972681490609642005:=()
def tw4401724141296775927:=()
def tw3239113980409921550:=()
def tw2244103112122482387:=()
def tw3681537716864247207:=()
def tw8733291241859026926:=()
def tw14172470266813156586:=()
def tw16298917771340976007:=()
def tw3543459598558145280:=()
def tw14903569129155370506:=()
def tw18101783494082082527:=()
def tw16248296213531012650:=()
def tw10374632558016547081:=()
def tw13034982811429478159:=()
def tw13547939009206843870:=()
def tw17590705303994421779:=()
def tw4562827626845409882:=()
def tw6420159726195949164:=()
def tw2399617604181995578:=()
def tw2941924889016668590:=()
def tw907951536374205942:=()
def tw643336161829623379:=()
def tw6522051377940421278:=()
def tw14760874974797668852:=()
def tw16409965706819354750:=()
def tw1467881925912835984:=()
def tw9796564346219866840:=()
def tw11564986514327137767:=()
def tw17464319187374939960:=()
def tw11692469974320434101:=()
def tw12772213712371865176:=()
def tw10826640976665885199:=()
def tw10016166984437732892:=()
def tw2479909634843643777:=()
def tw2295934692909999376:=()
def tw14226173905949225808:=()
def tw14689541978594310382:=()
def tw12382822922155266910:=()
def tw7217548393331319763:=()
def tw5537553045615171315:=()
def tw615563214671542189:=()
def tw9977182230042388008:=()
def tw11421057715548341654:=()
def tw2646887283097553488:=()
def tw2144661209622563809:=()
def tw2314633323536394700:=()
def tw14391293386007564604:=()
def tw140236481695663071:=()
def tw3382625519597670723:=()
def tw1708089923452030704:=()
def tw17187875760726034783:=()
def tw1864683662541468164:=()
def tw539538531456391632:=()
def tw10551173667578312727:=()
def tw13444670453868202053:=()
def tw5498123283257192965:=()
def tw11521511281804667912:=()
def tw2692750590507578028:=()
def tw1532491051758110099:=()
def tw4953865588907285216:=()
def tw18146532975450069615:=()
def tw11853640710764476214:=()
def tw5438652380644606353:=()
def tw2135409205425526673:=()
def tw15227483606004533461:=()
def tw13913613514976480042:=()
def tw1070438729232803039:=()
def tw258204147387103276:=()
def tw866717566613908145:=()
def tw15438627641174518403:=()
def tw2595585439558603231:=()
def tw6512149657230936976:=()
def tw16053306600634468012:=()
def tw5101696844757716304:=()
def tw13462424878891718212:=()
def tw14935467056822913822:=()
def tw4548300405975405348:=()
def tw3308634892276815127:=()
def tw14827714588952709054:=()
def tw16864618592142003386:=()
def tw16226643914720891334:=()
def tw16955839230299176341:=()
def tw2789304352393801511:=()
def tw7480016910919988345:=()
def tw8157277791214410489:=()
def tw12768989823518198380:=()
def tw9461873434466728008:=()
def tw4096438862311573950:=()
def tw13469501207593853456:=()
def tw10042083083395451092:=()
def tw8431482922422412695:=()
def tw896878414759379649:=()
def tw384561282630992784:=()
def tw6427576097997697322:=()
def tw8047209995159408440:=()
def tw1000662321505670351:=()
def tw11266997524610791606:=()
def tw5702276774652866934:=()
def tw16279288168775177219:=()
def tw5994696166404524948:=()
def tw17334828202450815106:=()
def tw5459702643516471331:=()
def tw16682895059504647277:=()
def tw2483420100392427323:=()
def tw2950685276103557050:=()
def tw8739830900816887780:=()
def tw6798380500665416597:=()
def tw6170744672141170255:=()
def tw2786648768249225349:=()
def tw7322748291113730364:=()
def tw13946496683202179788:=()
def tw7867829370405329436:=()
def tw28018229315631829:=()
def tw2931988195819169919:=()
def tw8219003486749837733:=()
def tw4436474186459923750:=()
def tw3475869608268796686:=()
def tw13622603851894308203:=()
def tw4804111812005502284:=()
def tw3215387988796971590:=()
def tw3985964047577975286:=()
def tw443766864951011646:=()
def tw16945776922395636228:=()
def tw10294118229990073760:=()
def tw9116068151291705539:=()
def tw14782755387869428366:=()
def tw4906484309439969231:=()
def tw55967982260289129:=()
def tw13135312941875745310:=()
def tw10792498714594961201:=()
def tw14243238205550065757:=()
def tw16670775579421159206:=()
def tw11024694936033576346:=()
def tw15163409612377130007:=()
def tw17351735930882485243:=()
def tw15528221797031607849:=()
def tw13053770412826190925:=()
def tw4309217394794523951:=()
def tw2455152089536381482:=()
def tw13674586047789940208:=()
def tw14383893971135437652:=()
def tw16615150188913437886:=()
def tw8912161614967838395:=()
def tw4734895289157585001:=()
def tw4683681711962371626:=()
def tw18367749455379333440:=()
def tw2827255003249426055:=()
def tw2228412568605170491:=()
def tw10295913840692754127:=()
def tw17760279517084355780:=()
def tw10341888390210383824:=()
def tw3919386906821981792:=()
def tw14022695629967993375:=()
def tw7774113678449685934:=()
def tw4684226298888400098:=()
def tw1972164579936704799:=()
def tw13437419889732721216:=()
def tw10879749546641988924:=()
def tw5217270863462422736:=()
def tw3998647374267775353:=()
def tw9387514328989991554:=()
def tw18157406047293677543:=()
def tw15127105006835628225:=()
def tw17724038513149304489:=()
def tw6241883836589141855:=()
def tw17653592248189364939:=()
def tw14404928986312190071:=()
def tw896239598344801917:=()
def tw3615178456390077923:=()
def tw8159993647027272844:=()
def tw446995266069924076:=()
def tw1717767836212652739:=()
def tw1915925776726481438:=()
def tw17710873009340938204:=()
def tw11429584451438056573:=()
def tw3641951560692057861:=()
def tw13421457143807847188:=()
def tw8972062959192195235:=()
def tw14831331821628862639:=()
def tw13953587524928339648:=()
def tw12903330217458380548:=()
def tw12670982853097334264:=()
def tw15621415185263527259:=()
def tw10876078143196172821:=()
def tw12405761042648551022:=()
def tw15685335758407661847:=()
def tw16902440903046159558:=()
def tw15805137534098808535:=()
def tw15018716904364860632:=()
def tw2474200967059427378:=()
def tw11962351593759143498:=()
def tw3235425350174046738:=()
def tw4075453323654395381:=()
def tw4480162626587320490:=()
def tw17435391645217708394:=()
def tw12269216009862288129:=()
def tw16723463757517087524:=()
def tw9402243437249704421:=()
def tw8422229294311615681:=()
def tw4547051000311932777:=()
def tw5622701340561072331:=()
def tw3270257207059953099:=()
def tw8374155422468719031:=()
def tw16120054744476736488:=()
def tw7086961617601330827:=()
def tw8997383693586321770:=()
def tw10258873121960336067:=()
def tw16756451883985382160:=()
def tw6105849179199505303:=()
def tw8949853181751564097:=()
def tw9784134513789038367:=()
def tw1825952489489211193:=()
def tw9582823730064241283:=()
def tw8285278889055680438:=()
def tw11066385474520676512:=()
def tw14387916025512776202:=()
def tw6822071536725586909:=()
def tw14424681132571578402:=()
def tw17013487888433625170:=()
def tw8080008513338510535:=()
def tw11898673842065290130:=()
def tw9689729476882780088:=()
def tw9404705873571188630:=()
def tw9860861378791804195:=()
def tw2187251505897268136:=()
def tw1979317910248211280:=()
end PySem.W.Fast
section
open PySem PySem.W PyProof.Rows
set_option maxHeartbeats 0 in
open_top hd for PySem.Challenge.rw_wornband_k26_fragment_deeds
end
namespace Wb
open PySem L2 Mi
theorem qz {K:PySem.W.Frag} :∀vs H Q E,ld K vs H Q E→eP (isScr K) (rs isB) oq vs H Q E:=fun vs H Q E ⟨a,ns,h1,h2,h3,h4⟩=>
 ⟨⟨H,H,.refl _⟩,ns,.ref a,rfl,h1,⟨a,rfl,h2⟩,fun _=>False,Res.Ok.e ((rO ns h3).imp fun r hr u W' _ hu=>by cases hr;cases hu;exact h4 _)⟩
theorem fin_mk {l:PySem.W.OpenLaw} {w:World} {K:PySem.W.Frag} {h:Heap} {mg:Str→Option Value} {fa:Addr} {Z00:Addr} {Z0T:Addr} {Z55 Z56:Option Addr} {Z57:Array (Option Value)} {Z58 Z59 Z5a Z5b Z39 Z5c:Value} {Z1V:Addr} {Z7p Z7q:Option Addr} {Z7r:Array (Option Value)} {Z7s Z7t Z7u Z7v Z3Y Z7w:Value} {f_Fragment___init__:Addr} {od_Fragment___init__ an_Fragment___init__:Option Addr} {sl_Fragment___init__:Array (Option Value)} {oc_Fragment___init__ kV_Fragment___init__ dc_Fragment___init__ pm_Fragment___init__ cd_Fragment___init__ ct_Fragment___init__:Value} {Z1u:Addr} {Z6u Z6v:Option Addr} {Z6w:Array (Option Value)} {Z6x Z6y Z6z Z6A Z3B Z6B:Value} {Z18:Addr} {Z5d Z5e:Option Addr} {Z5f:Array (Option Value)} {Z5g Z5h Z5i Z5j Z3a Z5k:Value} {Z19:Addr} {Z5l Z5m:Option Addr} {Z5n:Array (Option Value)} {Z5o Z5p Z5q Z5r Z3b Z5s:Value} {f_Fragment_check:Addr} {od_Fragment_check an_Fragment_check:Option Addr} {sl_Fragment_check:Array (Option Value)} {oc_Fragment_check kV_Fragment_check dc_Fragment_check pm_Fragment_check cd_Fragment_check ct_Fragment_check:Value} {Z1a:Addr} {Z5t Z5u:Option Addr} {Z5v:Array (Option Value)} {Z5w Z5x Z5y Z5z Z3c Z5A:Value} {Z3Z:Addr} {Z9k Z9l:Option Addr} {Z9m:Array (Option Value)} {Z9n Z9o Z9p Z9q Z7n Z9r:Value} {f_Fragment_put:Addr} {od_Fragment_put an_Fragment_put:Option Addr} {sl_Fragment_put:Array (Option Value)} {oc_Fragment_put kV_Fragment_put dc_Fragment_put pm_Fragment_put cd_Fragment_put ct_Fragment_put:Value} {f_Fragment_spot:Addr} {od_Fragment_spot an_Fragment_spot:Option Addr} {sl_Fragment_spot:Array (Option Value)} {oc_Fragment_spot kV_Fragment_spot dc_Fragment_spot pm_Fragment_spot cd_Fragment_spot ct_Fragment_spot:Value} {f_Fragment_wear:Addr} {od_Fragment_wear an_Fragment_wear:Option Addr} {sl_Fragment_wear:Array (Option Value)} {oc_Fragment_wear kV_Fragment_wear dc_Fragment_wear pm_Fragment_wear cd_Fragment_wear ct_Fragment_wear:Value} {Z10:Addr} {Z4w Z4x:Option Addr} {Z4y:Array (Option Value)} {Z4z Z4A Z4B Z4C Z30 Z4D:Value} {f_Fragment_sheet:Addr} {od_Fragment_sheet an_Fragment_sheet:Option Addr} {sl_Fragment_sheet:Array (Option Value)} {oc_Fragment_sheet kV_Fragment_sheet dc_Fragment_sheet pm_Fragment_sheet cd_Fragment_sheet ct_Fragment_sheet:Value} {f_Fragment_known:Addr} {od_Fragment_known an_Fragment_known:Option Addr} {sl_Fragment_known:Array (Option Value)} {oc_Fragment_known kV_Fragment_known dc_Fragment_known pm_Fragment_known cd_Fragment_known ct_Fragment_known:Value} {f_Fragment_strip:Addr} {od_Fragment_strip an_Fragment_strip:Option Addr} {sl_Fragment_strip:Array (Option Value)} {oc_Fragment_strip kV_Fragment_strip dc_Fragment_strip pm_Fragment_strip cd_Fragment_strip ct_Fragment_strip:Value} {Z0W:Addr} {Z45 Z46:Option Addr} {Z47:Array (Option Value)} {Z48 Z49 Z4a Z4b Z2y Z4c:Value} {f_law:Addr} {od_law an_law:Option Addr} {sl_law:Array (Option Value)} {oc_law kV_law dc_law pm_law cd_law ct_law:Value} {Z11:Addr} {Z4E Z4F:Option Addr} {Z4G:Array (Option Value)} {Z4H Z4I Z4J Z4K Z31 Z4L:Value} {Z0R:Addr} {Z9s:Nat} {x_SIDES0 x_SIDES1 x_SIDES2:Tok} {Z0I:Addr} {Z4M:Nat} {x_SLANT_SIGNS0 x_SLANT_SIGNS1 x_SLANT_SIGNS2:Tok} {Z1A:Tok} {Z03 Z22:Addr} {Z5B Z6C:Str} {Z5C Z5D:List Value} {Z5E Z5F:Bool} {Z5G:List Str} {Z5H:Option Bool} {Z5I:Option Addr} {Z5J Z5K Z5L Z5M Z5N:Option Value} {Z5O:Value} {Z5P:Option Addr} {Z1E:Array DictEntry} {Z5Q:Nat} {Z5R:Array (Option Value)} {Z05 Z3C:Addr} {Z5S Z6D:Str} {Z5T Z5U:List Value} {Z5V Z5W:Bool} {Z5X:List Str} {Z5Y:Option Bool} {Z5Z:Option Addr} {Z60 Z61 Z62 Z63 Z64:Option Value} {Z0j Z65:Addr} {Z8m Z9d:Str} {Z8n Z8o:List Value} {Z8p Z8q:Bool} {Z8r:List Str} {Z8s:Option Bool} {Z8t:Option Addr} {Z8u Z8v Z8w Z8x Z8y:Option Value} {Z0h Z4s:Addr} {Z7x Z8z:Str} {Z7y Z7z:List Value} {Z7A Z7B:Bool} {Z7C:List Str} {Z7D:Option Bool} {Z7E:Option Addr} {Z7F Z7G Z7H Z7I Z7J:Option Value} {Z09 Z3d:Addr} {Z7K Z8A:Str} {Z7L Z7M:List Value} {Z7N Z7O:Bool} {Z7P:List Str} {Z7Q:Option Bool} {Z7R:Option Addr} {Z7S Z7T Z7U Z7V Z7W:Option Value} {Z7X:Value} {Z7Y:Option Addr} {Z2E:Array DictEntry} {Z7Z:Nat} {Z80:Array (Option Value)} {Z0i Z4t:Addr} {Z81 Z8B:Str} {Z82 Z83:List Value} {Z84 Z85:Bool} {Z86:List Str} {Z87:Option Bool} {Z88:Option Addr} {Z89 Z8a Z8b Z8c Z8d:Option Value} {Z0a Z40:Addr} {Z6E Z8e:Str} {Z6F Z6G:List Value} {Z6H Z6I:Bool} {Z6J:List Str} {Z6K:Option Bool} {Z6L:Option Addr} {Z6M Z6N Z6O Z6P Z6Q:Option Value} {Z0b Z41:Addr} {Z6R Z8f:Str} {Z6S Z6T:List Value} {Z6U Z6V:Bool} {Z6W:List Str} {Z6X:Option Bool} {Z6Y:Option Addr} {Z6Z Z70 Z71 Z72 Z73:Option Value} {Z0c Z42:Addr} {Z74 Z8g:Str} {Z75 Z76:List Value} {Z77 Z78:Bool} {Z79:List Str} {Z7a:Option Bool} {Z7b:Option Addr} {Z7c Z7d Z7e Z7f Z7g:Option Value} {Z02 Z32:Addr} {Z4d Z4N:Str} {Z4e Z4f:List Value} {Z4g Z4h:Bool} {Z4i:List Str} {Z4j:Option Bool} {Z4k:Option Addr} {Z4l Z4m Z4n Z4o Z4p:Option Value} {Z0k Z66:Addr} {Z8C Z9e:Str} {Z8D Z8E:List Value} {Z8F Z8G:Bool} {Z8H:List Str} {Z8I:Option Bool} {Z8J:Option Addr} {Z8K Z8L Z8M Z8N Z8O:Option Value} {Z04 Z3e:Addr} {Z4O Z67:Str} {Z4P Z4Q:List Value} {Z4R Z4S:Bool} {Z4T:List Str} {Z4U:Option Bool} {Z4V:Option Addr} {Z4W Z4X Z4Y Z4Z Z50:Option Value} {Z06 Z3D:Addr} {Z68 Z7h:Str} {Z69 Z6a:List Value} {Z6b Z6c:Bool} {Z6d:List Str} {Z6e:Option Bool} {Z6f:Option Addr} {Z6g Z6h Z6i Z6j Z6k:Option Value} {Z0l Z6l:Addr} {Z8P Z9f:Str} {Z8Q Z8R:List Value} {Z8S Z8T:Bool} {Z8U:List Str} {Z8V:Option Bool} {Z8W:Option Addr} {Z8X Z8Y Z8Z Z90 Z91:Option Value} (X:K.In h) (G:h.Ns mainGlobals mg) (hfa:mg "law" =some (.ref fa))
  (Z2F:PySem.W.nsIn K mainGlobals "Fragment" =some (some (.ref Z00))) (pg_Fragment:PySem.W.plainGet K Z00 Str.empty=true) (hd_Fragment_:PySem.W.hasDictIn K Z00=true) (Z23:PySem.W.plainOver K Z00=true) (Z24:PySem.W.findIn K (.ref Z00) "__setattr__" =some (some (.builtin "object.__setattr__"))) (Z25:PySem.W.makesIn K Z00=true) (Z26:PySem.W.keepIn K (.ref Z00)=true) (na_Fragment_picks:PySem.W.findIn K (.ref Z00) "picks" =some none)
  (Z1b:PySem.W.nsIn K mainGlobals "_law_same" =some (some (.ref Z0T)))
  (Z27:K.lookup Z0T=some ⟨Z58,Z55,.func (PySem.W.fnOf "_law_same" "_law_same" (defArgs (tp 26)) (defBody (tp 26)) (defScope (tp 26)) .none Z59 Z5a Z5b Z56 Z39 Z5c),Z57⟩)
  (Z28:PySem.W.codeIn K Z39 "_law_same" =true)
  (Z0U:PySem.W.keepIn K (.ref Z0T)=true)
  (Z3f:PySem.W.nsIn K mainGlobals "_law_at" =some (some (.ref Z1V)))
  (Z3g:K.lookup Z1V=some ⟨Z7s,Z7p,.func (PySem.W.fnOf "_law_at" "_law_at" (defArgs (tp 24)) (defBody (tp 24)) (defScope (tp 24)) .none Z7t Z7u Z7v Z7q Z3Y Z7w),Z7r⟩)
  (Z3h:PySem.W.codeIn K Z3Y "_law_at" =true)
  (Z1W:PySem.W.keepIn K (.ref Z1V)=true)
  (a_Fragment___init__:PySem.W.findIn K (.ref Z00) "__init__" =some (some (.ref f_Fragment___init__))) (y_Fragment___init__:PySem.W.isFn K (.ref f_Fragment___init__)=true)
  (l_Fragment___init__:K.lookup f_Fragment___init__=some ⟨oc_Fragment___init__,od_Fragment___init__,.func (PySem.W.fnOf "__init__" "Fragment.__init__" (defArgs (tq 22 0)) (defBody (tq 22 0)) (defScope (tq 22 0)) .none kV_Fragment___init__ dc_Fragment___init__ pm_Fragment___init__ an_Fragment___init__ cd_Fragment___init__ ct_Fragment___init__),sl_Fragment___init__⟩)
  (c_Fragment___init__:PySem.W.codeIn K cd_Fragment___init__ "Fragment.__init__" =true)
  (k_Fragment___init__:PySem.W.keepIn K (.ref f_Fragment___init__)=true)
  (Z2G:PySem.W.nsIn K mainGlobals "_law_row" =some (some (.ref Z1u)))
  (Z2H:K.lookup Z1u=some ⟨Z6x,Z6u,.func (PySem.W.fnOf "_law_row" "_law_row" (defArgs (tp 25)) (defBody (tp 25)) (defScope (tp 25)) .none Z6y Z6z Z6A Z6v Z3B Z6B),Z6w⟩)
  (Z2I:PySem.W.codeIn K Z3B "_law_row" =true)
  (Z1v:PySem.W.keepIn K (.ref Z1u)=true)
  (Z29:PySem.W.nsIn K mainGlobals "_law_deed" =some (some (.ref Z18)))
  (Z2a:K.lookup Z18=some ⟨Z5g,Z5d,.func (PySem.W.fnOf "_law_deed" "_law_deed" (defArgs (tp 30)) (defBody (tp 30)) (defScope (tp 30)) .none Z5h Z5i Z5j Z5e Z3a Z5k),Z5f⟩)
  (Z2b:PySem.W.codeIn K Z3a "_law_deed" =true)
  (Z1c:PySem.W.keepIn K (.ref Z18)=true)
  (Z2c:PySem.W.nsIn K mainGlobals "_law_good" =some (some (.ref Z19)))
  (Z2d:K.lookup Z19=some ⟨Z5o,Z5l,.func (PySem.W.fnOf "_law_good" "_law_good" (defArgs (tp 29)) (defBody (tp 29)) (defScope (tp 29)) .none Z5p Z5q Z5r Z5m Z3b Z5s),Z5n⟩)
  (Z2e:PySem.W.codeIn K Z3b "_law_good" =true)
  (Z1d:PySem.W.keepIn K (.ref Z19)=true)
  (a_Fragment_check:PySem.W.findIn K (.ref Z00) "check" =some (some (.ref f_Fragment_check))) (y_Fragment_check:PySem.W.isFn K (.ref f_Fragment_check)=true)
  (l_Fragment_check:K.lookup f_Fragment_check=some ⟨oc_Fragment_check,od_Fragment_check,.func (PySem.W.fnOf "check" "Fragment.check" (defArgs (tq 22 3)) (defBody (tq 22 3)) (defScope (tq 22 3)) .none kV_Fragment_check dc_Fragment_check pm_Fragment_check an_Fragment_check cd_Fragment_check ct_Fragment_check),sl_Fragment_check⟩)
  (c_Fragment_check:PySem.W.codeIn K cd_Fragment_check "Fragment.check" =true)
  (k_Fragment_check:PySem.W.keepIn K (.ref f_Fragment_check)=true)
  (Z2f:PySem.W.nsIn K mainGlobals "is_colour" =some (some (.ref Z1a)))
  (Z2g:K.lookup Z1a=some ⟨Z5w,Z5t,.func (PySem.W.fnOf "is_colour" "is_colour" (defArgs (tp 16)) (defBody (tp 16)) (defScope (tp 16)) .none Z5x Z5y Z5z Z5u Z3c Z5A),Z5v⟩)
  (Z2h:PySem.W.codeIn K Z3c "is_colour" =true)
  (Z1e:PySem.W.keepIn K (.ref Z1a)=true)
  (Z6m:PySem.W.nsIn K mainGlobals "fits" =some (some (.ref Z3Z)))
  (Z6n:K.lookup Z3Z=some ⟨Z9n,Z9k,.func (PySem.W.fnOf "fits" "fits" (defArgs (tp 21)) (defBody (tp 21)) (defScope (tp 21)) .none Z9o Z9p Z9q Z9l Z7n Z9r),Z9m⟩)
  (Z6o:PySem.W.codeIn K Z7n "fits" =true)
  (Z43:PySem.W.keepIn K (.ref Z3Z)=true)
  (a_Fragment_put:PySem.W.findIn K (.ref Z00) "put" =some (some (.ref f_Fragment_put))) (y_Fragment_put:PySem.W.isFn K (.ref f_Fragment_put)=true)
  (l_Fragment_put:K.lookup f_Fragment_put=some ⟨oc_Fragment_put,od_Fragment_put,.func (PySem.W.fnOf "put" "Fragment.put" (defArgs (tq 22 4)) (defBody (tq 22 4)) (defScope (tq 22 4)) .none kV_Fragment_put dc_Fragment_put pm_Fragment_put an_Fragment_put cd_Fragment_put ct_Fragment_put),sl_Fragment_put⟩)
  (c_Fragment_put:PySem.W.codeIn K cd_Fragment_put "Fragment.put" =true)
  (k_Fragment_put:PySem.W.keepIn K (.ref f_Fragment_put)=true)
  (a_Fragment_spot:PySem.W.findIn K (.ref Z00) "spot" =some (some (.ref f_Fragment_spot))) (y_Fragment_spot:PySem.W.isFn K (.ref f_Fragment_spot)=true)
  (l_Fragment_spot:K.lookup f_Fragment_spot=some ⟨oc_Fragment_spot,od_Fragment_spot,.func (PySem.W.fnOf "spot" "Fragment.spot" (defArgs (tq 22 1)) (defBody (tq 22 1)) (defScope (tq 22 1)) .none kV_Fragment_spot dc_Fragment_spot pm_Fragment_spot an_Fragment_spot cd_Fragment_spot ct_Fragment_spot),sl_Fragment_spot⟩)
  (c_Fragment_spot:PySem.W.codeIn K cd_Fragment_spot "Fragment.spot" =true)
  (k_Fragment_spot:PySem.W.keepIn K (.ref f_Fragment_spot)=true)
  (a_Fragment_wear:PySem.W.findIn K (.ref Z00) "wear" =some (some (.ref f_Fragment_wear))) (y_Fragment_wear:PySem.W.isFn K (.ref f_Fragment_wear)=true)
  (l_Fragment_wear:K.lookup f_Fragment_wear=some ⟨oc_Fragment_wear,od_Fragment_wear,.func (PySem.W.fnOf "wear" "Fragment.wear" (defArgs (tq 22 2)) (defBody (tq 22 2)) (defScope (tq 22 2)) .none kV_Fragment_wear dc_Fragment_wear pm_Fragment_wear an_Fragment_wear cd_Fragment_wear ct_Fragment_wear),sl_Fragment_wear⟩)
  (c_Fragment_wear:PySem.W.codeIn K cd_Fragment_wear "Fragment.wear" =true)
  (k_Fragment_wear:PySem.W.keepIn K (.ref f_Fragment_wear)=true)
  (Z1F:PySem.W.nsIn K mainGlobals "_law_tried" =some (some (.ref Z10)))
  (Z1G:K.lookup Z10=some ⟨Z4z,Z4w,.func (PySem.W.fnOf "_law_tried" "_law_tried" (defArgs (tp 28)) (defBody (tp 28)) (defScope (tp 28)) .none Z4A Z4B Z4C Z4x Z30 Z4D),Z4y⟩)
  (Z1H:PySem.W.codeIn K Z30 "_law_tried" =true)
  (Z12:PySem.W.keepIn K (.ref Z10)=true)
  (a_Fragment_sheet:PySem.W.findIn K (.ref Z00) "sheet" =some (some (.ref f_Fragment_sheet))) (y_Fragment_sheet:PySem.W.isFn K (.ref f_Fragment_sheet)=true)
  (l_Fragment_sheet:K.lookup f_Fragment_sheet=some ⟨oc_Fragment_sheet,od_Fragment_sheet,.func (PySem.W.fnOf "sheet" "Fragment.sheet" (defArgs (tq 22 6)) (defBody (tq 22 6)) (defScope (tq 22 6)) .none kV_Fragment_sheet dc_Fragment_sheet pm_Fragment_sheet an_Fragment_sheet cd_Fragment_sheet ct_Fragment_sheet),sl_Fragment_sheet⟩)
  (c_Fragment_sheet:PySem.W.codeIn K cd_Fragment_sheet "Fragment.sheet" =true)
  (k_Fragment_sheet:PySem.W.keepIn K (.ref f_Fragment_sheet)=true)
  (a_Fragment_known:PySem.W.findIn K (.ref Z00) "known" =some (some (.ref f_Fragment_known))) (y_Fragment_known:PySem.W.isFn K (.ref f_Fragment_known)=true)
  (l_Fragment_known:K.lookup f_Fragment_known=some ⟨oc_Fragment_known,od_Fragment_known,.func (PySem.W.fnOf "known" "Fragment.known" (defArgs (tq 22 7)) (defBody (tq 22 7)) (defScope (tq 22 7)) .none kV_Fragment_known dc_Fragment_known pm_Fragment_known an_Fragment_known cd_Fragment_known ct_Fragment_known),sl_Fragment_known⟩)
  (c_Fragment_known:PySem.W.codeIn K cd_Fragment_known "Fragment.known" =true)
  (k_Fragment_known:PySem.W.keepIn K (.ref f_Fragment_known)=true)
  (a_Fragment_strip:PySem.W.findIn K (.ref Z00) "strip" =some (some (.ref f_Fragment_strip))) (y_Fragment_strip:PySem.W.isFn K (.ref f_Fragment_strip)=true)
  (l_Fragment_strip:K.lookup f_Fragment_strip=some ⟨oc_Fragment_strip,od_Fragment_strip,.func (PySem.W.fnOf "strip" "Fragment.strip" (defArgs (tq 22 5)) (defBody (tq 22 5)) (defScope (tq 22 5)) .none kV_Fragment_strip dc_Fragment_strip pm_Fragment_strip an_Fragment_strip cd_Fragment_strip ct_Fragment_strip),sl_Fragment_strip⟩)
  (c_Fragment_strip:PySem.W.codeIn K cd_Fragment_strip "Fragment.strip" =true)
  (k_Fragment_strip:PySem.W.keepIn K (.ref f_Fragment_strip)=true)
  (Z1i:PySem.W.nsIn K mainGlobals "_law_stands" =some (some (.ref Z0W)))
  (Z1j:K.lookup Z0W=some ⟨Z48,Z45,.func (PySem.W.fnOf "_law_stands" "_law_stands" (defArgs (tp 31)) (defBody (tp 31)) (defScope (tp 31)) .none Z49 Z4a Z4b Z46 Z2y Z4c),Z47⟩)
  (Z1k:PySem.W.codeIn K Z2y "_law_stands" =true)
  (Z0X:PySem.W.keepIn K (.ref Z0W)=true)
  (a_law:PySem.W.nsIn K mainGlobals "law" =some (some (.ref f_law)))
  (l_law:K.lookup f_law=some ⟨oc_law,od_law,.func (PySem.W.fnOf "law" "law" (defArgs (tp 32)) (defBody (tp 32)) (defScope (tp 32)) .none kV_law dc_law pm_law an_law cd_law ct_law),sl_law⟩)
  (c_law:PySem.W.codeIn K cd_law "law" =true)
  (k_law:PySem.W.keepIn K (.ref f_law)=true)
  (Z1I:PySem.W.nsIn K mainGlobals "_law_kinds" =some (some (.ref Z11)))
  (Z1J:K.lookup Z11=some ⟨Z4H,Z4E,.func (PySem.W.fnOf "_law_kinds" "_law_kinds" (defArgs (tp 27)) (defBody (tp 27)) (defScope (tp 27)) .none Z4I Z4J Z4K Z4F Z31 Z4L),Z4G⟩)
  (Z1K:PySem.W.codeIn K Z31 "_law_kinds" =true)
  (Z13:PySem.W.keepIn K (.ref Z11)=true)
  (z_ValueError:PySem.W.nsIn K mainGlobals "ValueError" =some none)
  (z_abs:PySem.W.nsIn K mainGlobals "abs" =some none)
  (z_bool:PySem.W.nsIn K mainGlobals "bool" =some none)
  (z_int:PySem.W.nsIn K mainGlobals "int" =some none)
  (z_isinstance:PySem.W.nsIn K mainGlobals "isinstance" =some none)
  (z_len:PySem.W.nsIn K mainGlobals "len" =some none)
  (z_list:PySem.W.nsIn K mainGlobals "list" =some none)
  (z_max:PySem.W.nsIn K mainGlobals "max" =some none)
  (z_range:PySem.W.nsIn K mainGlobals "range" =some none)
  (z_str:PySem.W.nsIn K mainGlobals "str" =some none)
  (z_sum:PySem.W.nsIn K mainGlobals "sum" =some none)
  (z_tuple:PySem.W.nsIn K mainGlobals "tuple" =some none)
  (z_zip:PySem.W.nsIn K mainGlobals "zip" =some none)
  (Z4q:PySem.W.nsIn K mainGlobals "SIDES" =some (some (.ref Z0R)))
  (Z4r:K.lookup Z0R=some {cls:=.type "tuple",data:=.seq #[.str (Str.ofString "face") x_SIDES0,.str (Str.ofString "back") x_SIDES1,.str (Str.ofString "slant") x_SIDES2] Z9s})
  (Z1l:PySem.W.nsIn K mainGlobals "SLANT_SIGNS" =some (some (.ref Z0I)))
  (Z1m:K.lookup Z0I=some {cls:=.type "tuple",data:=.seq #[.str (Str.ofString "s") x_SLANT_SIGNS0,.str (Str.ofString "z") x_SLANT_SIGNS1,.str (Str.ofString "o") x_SLANT_SIGNS2] Z4M})
  (Z6p:PySem.W.nsIn K mainGlobals "WORN" =some (some (.str (Str.ofString "?") Z1A)))
  (Z2i:PySem.W.nsIn K mainGlobals "BandError" =some (some (.ref Z03)))
  (Z2j:K.lookup Z03=some (excClassObj Z5B Z6C Z03 Z22 Z5C [.type "ValueError",.type "Exception",.type "BaseException",.type "object"] Z5E Z5G Z5D Z5F Z5H Z5I Z5J Z5K Z5L Z5M Z5N "ValueError.__new__"))
  (Z2k:K.lookup Z22=some ⟨Z5O,Z5P,.dict Z1E Z5Q,Z5R⟩) (Z1L:StrKeys Z1E) (Z1M:nsFind Z1E "__init__" =none)
  (Z2l:PySem.W.nsIn K mainGlobals "BadTablet" =some (some (.ref Z05)))
  (Z2m:K.lookup Z05=some (excClassObj Z5S Z6D Z05 Z3C Z5T [.ref Z03,.type "ValueError",.type "Exception",.type "BaseException",.type "object"] Z5V Z5X Z5U Z5W Z5Y Z5Z Z60 Z61 Z62 Z63 Z64 "ValueError.__new__"))
  (Z1N:PySem.W.findIn K (.ref Z05) "__getattribute__" =some (some (.builtin "BaseException.__getattribute__"))) (Z1O:PySem.W.findIn K (.ref Z05) "__getattr__" =some none) (Z1P:PySem.W.findIn K (.ref Z05) "__class__" =some (some (.builtin "object.__class__")))
  (Z3P:PySem.W.nsIn K mainGlobals "BadRow" =some (some (.ref Z0j)))
  (Z3Q:K.lookup Z0j=some (excClassObj Z8m Z9d Z0j Z65 Z8n [.ref Z03,.type "ValueError",.type "Exception",.type "BaseException",.type "object"] Z8p Z8r Z8o Z8q Z8s Z8t Z8u Z8v Z8w Z8x Z8y "ValueError.__new__"))
  (Z3i:PySem.W.findIn K (.ref Z0j) "__getattribute__" =some (some (.builtin "BaseException.__getattribute__"))) (Z3j:PySem.W.findIn K (.ref Z0j) "__getattr__" =some none) (Z3k:PySem.W.findIn K (.ref Z0j) "__class__" =some (some (.builtin "object.__class__")))
  (Z3l:PySem.W.nsIn K mainGlobals "BadText" =some (some (.ref Z0h)))
  (Z3m:K.lookup Z0h=some (excClassObj Z7x Z8z Z0h Z4s Z7y [.ref Z03,.type "ValueError",.type "Exception",.type "BaseException",.type "object"] Z7A Z7C Z7z Z7B Z7D Z7E Z7F Z7G Z7H Z7I Z7J "ValueError.__new__"))
  (Z2J:PySem.W.findIn K (.ref Z0h) "__getattribute__" =some (some (.builtin "BaseException.__getattribute__"))) (Z2K:PySem.W.findIn K (.ref Z0h) "__getattr__" =some none) (Z2L:PySem.W.findIn K (.ref Z0h) "__class__" =some (some (.builtin "object.__class__")))
  (Z3n:PySem.W.nsIn K mainGlobals "BadMark" =some (some (.ref Z09)))
  (Z3o:K.lookup Z09=some (excClassObj Z7K Z8A Z09 Z3d Z7L [.ref Z03,.type "ValueError",.type "Exception",.type "BaseException",.type "object"] Z7N Z7P Z7M Z7O Z7Q Z7R Z7S Z7T Z7U Z7V Z7W "ValueError.__new__"))
  (Z2M:PySem.W.findIn K (.ref Z09) "__getattribute__" =some (some (.builtin "BaseException.__getattribute__"))) (Z2N:PySem.W.findIn K (.ref Z09) "__getattr__" =some none) (Z2O:PySem.W.findIn K (.ref Z09) "__class__" =some (some (.builtin "object.__class__")))
  (Z3p:K.lookup Z3d=some ⟨Z7X,Z7Y,.dict Z2E Z7Z,Z80⟩) (Z2P:StrKeys Z2E) (Z2Q:nsFind Z2E "__init__" =none)
  (Z3q:PySem.W.nsIn K mainGlobals "TooLong" =some (some (.ref Z0i)))
  (Z3r:K.lookup Z0i=some (excClassObj Z81 Z8B Z0i Z4t Z82 [.ref Z03,.type "ValueError",.type "Exception",.type "BaseException",.type "object"] Z84 Z86 Z83 Z85 Z87 Z88 Z89 Z8a Z8b Z8c Z8d "ValueError.__new__"))
  (Z2R:PySem.W.findIn K (.ref Z0i) "__getattribute__" =some (some (.builtin "BaseException.__getattribute__"))) (Z2S:PySem.W.findIn K (.ref Z0i) "__getattr__" =some none) (Z2T:PySem.W.findIn K (.ref Z0i) "__class__" =some (some (.builtin "object.__class__")))
  (Z2U:PySem.W.nsIn K mainGlobals "TooTight" =some (some (.ref Z0a)))
  (Z2V:K.lookup Z0a=some (excClassObj Z6E Z8e Z0a Z40 Z6F [.ref Z03,.type "ValueError",.type "Exception",.type "BaseException",.type "object"] Z6H Z6J Z6G Z6I Z6K Z6L Z6M Z6N Z6O Z6P Z6Q "ValueError.__new__"))
  (Z2n:PySem.W.findIn K (.ref Z0a) "__getattribute__" =some (some (.builtin "BaseException.__getattribute__"))) (Z2o:PySem.W.findIn K (.ref Z0a) "__getattr__" =some none) (Z2p:PySem.W.findIn K (.ref Z0a) "__class__" =some (some (.builtin "object.__class__")))
  (Z2W:PySem.W.nsIn K mainGlobals "SpoolDry" =some (some (.ref Z0b)))
  (Z2X:K.lookup Z0b=some (excClassObj Z6R Z8f Z0b Z41 Z6S [.ref Z03,.type "ValueError",.type "Exception",.type "BaseException",.type "object"] Z6U Z6W Z6T Z6V Z6X Z6Y Z6Z Z70 Z71 Z72 Z73 "ValueError.__new__"))
  (Z2q:PySem.W.findIn K (.ref Z0b) "__getattribute__" =some (some (.builtin "BaseException.__getattribute__"))) (Z2r:PySem.W.findIn K (.ref Z0b) "__getattr__" =some none) (Z2s:PySem.W.findIn K (.ref Z0b) "__class__" =some (some (.builtin "object.__class__")))
  (Z2Y:PySem.W.nsIn K mainGlobals "NoTablet" =some (some (.ref Z0c)))
  (Z2Z:K.lookup Z0c=some (excClassObj Z74 Z8g Z0c Z42 Z75 [.ref Z03,.type "ValueError",.type "Exception",.type "BaseException",.type "object"] Z77 Z79 Z76 Z78 Z7a Z7b Z7c Z7d Z7e Z7f Z7g "ValueError.__new__"))
  (Z2t:PySem.W.findIn K (.ref Z0c) "__getattribute__" =some (some (.builtin "BaseException.__getattribute__"))) (Z2u:PySem.W.findIn K (.ref Z0c) "__getattr__" =some none) (Z2v:PySem.W.findIn K (.ref Z0c) "__class__" =some (some (.builtin "object.__class__")))
  (Z1n:PySem.W.nsIn K mainGlobals "NothingLeft" =some (some (.ref Z02)))
  (Z1o:K.lookup Z02=some (excClassObj Z4d Z4N Z02 Z32 Z4e [.ref Z03,.type "ValueError",.type "Exception",.type "BaseException",.type "object"] Z4g Z4i Z4f Z4h Z4j Z4k Z4l Z4m Z4n Z4o Z4p "ValueError.__new__"))
  (Z14:PySem.W.findIn K (.ref Z02) "__getattribute__" =some (some (.builtin "BaseException.__getattribute__"))) (Z15:PySem.W.findIn K (.ref Z02) "__getattr__" =some none) (Z16:PySem.W.findIn K (.ref Z02) "__class__" =some (some (.builtin "object.__class__")))
  (Z3R:PySem.W.nsIn K mainGlobals "Unlike" =some (some (.ref Z0k)))
  (Z3S:K.lookup Z0k=some (excClassObj Z8C Z9e Z0k Z66 Z8D [.ref Z03,.type "ValueError",.type "Exception",.type "BaseException",.type "object"] Z8F Z8H Z8E Z8G Z8I Z8J Z8K Z8L Z8M Z8N Z8O "ValueError.__new__"))
  (Z3s:PySem.W.findIn K (.ref Z0k) "__getattribute__" =some (some (.builtin "BaseException.__getattribute__"))) (Z3t:PySem.W.findIn K (.ref Z0k) "__getattr__" =some none) (Z3u:PySem.W.findIn K (.ref Z0k) "__class__" =some (some (.builtin "object.__class__")))
  (Z1Q:PySem.W.nsIn K mainGlobals "SeenThread" =some (some (.ref Z04)))
  (Z1R:K.lookup Z04=some (excClassObj Z4O Z67 Z04 Z3e Z4P [.ref Z03,.type "ValueError",.type "Exception",.type "BaseException",.type "object"] Z4R Z4T Z4Q Z4S Z4U Z4V Z4W Z4X Z4Y Z4Z Z50 "ValueError.__new__"))
  (Z1p:PySem.W.findIn K (.ref Z04) "__getattribute__" =some (some (.builtin "BaseException.__getattribute__"))) (Z1q:PySem.W.findIn K (.ref Z04) "__getattr__" =some none) (Z1r:PySem.W.findIn K (.ref Z04) "__class__" =some (some (.builtin "object.__class__")))
  (Z2w:PySem.W.nsIn K mainGlobals "NoSuchWay" =some (some (.ref Z06)))
  (Z2x:K.lookup Z06=some (excClassObj Z68 Z7h Z06 Z3D Z69 [.ref Z03,.type "ValueError",.type "Exception",.type "BaseException",.type "object"] Z6b Z6d Z6a Z6c Z6e Z6f Z6g Z6h Z6i Z6j Z6k "ValueError.__new__"))
  (Z1S:PySem.W.findIn K (.ref Z06) "__getattribute__" =some (some (.builtin "BaseException.__getattribute__"))) (Z1T:PySem.W.findIn K (.ref Z06) "__getattr__" =some none) (Z1U:PySem.W.findIn K (.ref Z06) "__class__" =some (some (.builtin "object.__class__")))
  (Z3T:PySem.W.nsIn K mainGlobals "Barred" =some (some (.ref Z0l)))
  (Z3U:K.lookup Z0l=some (excClassObj Z8P Z9f Z0l Z6l Z8Q [.ref Z03,.type "ValueError",.type "Exception",.type "BaseException",.type "object"] Z8S Z8U Z8R Z8T Z8V Z8W Z8X Z8Y Z8Z Z90 Z91 "ValueError.__new__"))
  (Z3v:PySem.W.findIn K (.ref Z0l) "__getattribute__" =some (some (.builtin "BaseException.__getattribute__"))) (Z3w:PySem.W.findIn K (.ref Z0l) "__getattr__" =some none) (Z3x:PySem.W.findIn K (.ref Z0l) "__class__" =some (some (.builtin "object.__class__")))
  (hn1:PySem.W.specialIn K (.builtin "object.__class__") "__get__" =some (some (.builtin "getset_descriptor.__get__"))) (ht1:PySem.W.takesIn K (.builtin "object.__class__")=some true) (nd1:(Z03:: [Z05,Z0j,Z0h,Z09,Z0i,Z0a,Z0b,Z0c,Z02,Z0k,Z04,Z06,Z0l]).Nodup)
  :∃fd:FuncData,(∀(s:Shared) (v:Value),BindsTo s fd ⟨[v],[]⟩ [("_law_script",v)])∧∀base:Heap,K.In base→base.Ns mainGlobals mg→FnOk l.prog w K mg base CX0 28 fa fd ["_law_script"] (ld K):=by
 have e:=hfa.symm.trans (PySem.W.mg_of X G a_law)
 cases e
 have Z3E:=bO (st:=tp 26) Z27 Z28 Z0U
 have Z3F:=Z3E.binds (ps:=["_law_found","_law_due"]) fun _ _ _ _ _ _ us hl=>match us,hl with | [_,_],_=>rfl
 have Z4u:=bO (st:=tp 24) Z3g Z3h Z1W
 have Z92:=Z4u.binds (ps:=["_law_script","_law_k"]) fun _ _ _ _ _ _ us hl=>match us,hl with | [_,_],_=>rfl
 have F_Fragment___init__:=bO (st:=tq 22 0) l_Fragment___init__ c_Fragment___init__ k_Fragment___init__
 have b_Fragment___init__:=F_Fragment___init__.binds (ps:=["self","tall","wide"]) fun _ _ _ _ _ _ us hl=>match us,hl with | [_,_,_],_=>rfl
 have Z44:=bO (st:=tp 25) Z2H Z2I Z1v
 have Z8h:=Z44.binds (ps:=["_law_cell","_law_many","_law_base"]) fun _ _ _ _ _ _ us hl=>match us,hl with | [_,_,_],_=>rfl
 have Z3G:=bO (st:=tp 30) Z2a Z2b Z1c
 have Z7i:=Z3G.binds (ps:=["_law_cell","_law_tall","_law_wide"]) fun _ _ _ _ _ _ us hl=>match us,hl with | [_,_,_],_=>rfl
 have Z3H:=bO (st:=tp 29) Z2d Z2e Z1d
 have Z7j:=Z3H.binds (ps:=["_law_deed_here","_law_tall","_law_wide"]) fun _ _ _ _ _ _ us hl=>match us,hl with | [_,_,_],_=>rfl
 have F_Fragment_check:=bO (st:=tq 22 3) l_Fragment_check c_Fragment_check k_Fragment_check
 have b_Fragment_check:=F_Fragment_check.binds (ps:=["self","pick","k","side"]) fun _ _ _ _ _ _ us hl=>match us,hl with | [_,_,_,_],_=>rfl
 have Z3I:=bO (st:=tp 16) Z2g Z2h Z1e
 have Z7k:=Z3I.binds (ps:=["text"]) fun _ _ _ _ _ _ us hl=>match us,hl with | [_],_=>rfl
 have Z93:=bO (st:=tp 21) Z6n Z6o Z43
 have Z9w:=Z93.binds (ps:=["side","sign"]) fun _ _ _ _ _ _ us hl=>match us,hl with | [_,_],_=>rfl
 have F_Fragment_put:=bO (st:=tq 22 4) l_Fragment_put c_Fragment_put k_Fragment_put
 have b_Fragment_put:=F_Fragment_put.binds (ps:=["self","pick","k","side","sign"]) fun _ _ _ _ _ _ us hl=>match us,hl with | [_,_,_,_,_],_=>rfl
 have F_Fragment_spot:=bO (st:=tq 22 1) l_Fragment_spot c_Fragment_spot k_Fragment_spot
 have b_Fragment_spot:=F_Fragment_spot.binds (ps:=["self","pick","k","side","sign"]) fun _ _ _ _ _ _ us hl=>match us,hl with | [_,_,_,_,_],_=>rfl
 have F_Fragment_wear:=bO (st:=tq 22 2) l_Fragment_wear c_Fragment_wear k_Fragment_wear
 have b_Fragment_wear:=F_Fragment_wear.binds (ps:=["self","pick","k","side"]) fun _ _ _ _ _ _ us hl=>match us,hl with | [_,_,_,_],_=>rfl
 have Z3y:=bO (st:=tp 28) Z1G Z1H Z12
 have Z6q:=Z3y.binds (ps:=["_law_kept","_law_deed_here"]) fun _ _ _ _ _ _ us hl=>match us,hl with | [_,_],_=>rfl
 have F_Fragment_sheet:=bO (st:=tq 22 6) l_Fragment_sheet c_Fragment_sheet k_Fragment_sheet
 have b_Fragment_sheet:=F_Fragment_sheet.binds (ps:=["self"]) fun _ _ _ _ _ _ us hl=>match us,hl with | [_],_=>rfl
 have F_Fragment_known:=bO (st:=tq 22 7) l_Fragment_known c_Fragment_known k_Fragment_known
 have b_Fragment_known:=F_Fragment_known.binds (ps:=["self"]) fun _ _ _ _ _ _ us hl=>match us,hl with | [_],_=>rfl
 have F_Fragment_strip:=bO (st:=tq 22 5) l_Fragment_strip c_Fragment_strip k_Fragment_strip
 have b_Fragment_strip:=F_Fragment_strip.binds (ps:=["self","k"]) fun _ _ _ _ _ _ us hl=>match us,hl with | [_,_],_=>rfl
 have Z33:=bO (st:=tp 31) Z1j Z1k Z0X
 have Z51:=Z33.binds (ps:=["_law_kept","_law_grid","_law_wide"]) fun _ _ _ _ _ _ us hl=>match us,hl with | [_,_,_],_=>rfl
 have F_law:=bO (st:=tp 32) l_law c_law k_law
 have b_law:=F_law.binds (ps:=["_law_script"]) fun _ _ _ _ _ _ us hl=>match us,hl with | [_],_=>rfl
 have Z3z:=bO (st:=tp 27) Z1J Z1K Z13
 have Z6r:=Z3z.binds (ps:=["_law_e"]) fun _ _ _ _ _ _ us hl=>match us,hl with | [_],_=>rfl
 have Z0d:Cls K Z00:=⟨pg_Fragment,hd_Fragment_,Z23,Z24⟩
 have n_Fragment_picks:NoAttr K Z00 "picks" :=na_Fragment_picks
 have h_ValueError:=PySem.W.mg_none_of X G z_ValueError
 have h_abs:=PySem.W.mg_none_of X G z_abs
 have h_bool:=PySem.W.mg_none_of X G z_bool
 have h_int:=PySem.W.mg_none_of X G z_int
 have h_isinstance:=PySem.W.mg_none_of X G z_isinstance
 have h_len:=PySem.W.mg_none_of X G z_len
 have h_list:=PySem.W.mg_none_of X G z_list
 have h_max:=PySem.W.mg_none_of X G z_max
 have h_range:=PySem.W.mg_none_of X G z_range
 have h_str:=PySem.W.mg_none_of X G z_str
 have h_sum:=PySem.W.mg_none_of X G z_sum
 have h_tuple:=PySem.W.mg_none_of X G z_tuple
 have h_zip:=PySem.W.mg_none_of X G z_zip
 have Z1w:=PySem.W.mg_of X G Z4q
 have Z1x:∀H,SqT K H Z0R [.str (Str.ofString "face"),.str (Str.ofString "back"),.str (Str.ofString "slant")]:=fun H=>.inr ⟨_,_,_,Z4r,⟨rfl,rfl⟩,rfl,(by show 3≤sizeLine;decide),(.cons ⟨_,rfl⟩ (.cons ⟨_,rfl⟩ (.cons ⟨_,rfl⟩ .nil)))⟩
 have Z1g:=PySem.W.mg_of X G Z1l
 have Z1h:∀H,SqT K H Z0I [.str (Str.ofString "s"),.str (Str.ofString "z"),.str (Str.ofString "o")]:=fun H=>.inr ⟨_,_,_,Z1m,⟨rfl,rfl⟩,rfl,(by show 3≤sizeLine;decide),(.cons ⟨_,rfl⟩ (.cons ⟨_,rfl⟩ (.cons ⟨_,rfl⟩ .nil)))⟩
 have Z0P:=PySem.W.mg_of X G Z6p
 refine⟨PySem.W.fnOf "law" "law" (defArgs (tp 32)) (defBody (tp 32)) (defScope (tp 32)) .none kV_law dc_law pm_law an_law cd_law ct_law,fun s v=>.of_eq rfl,fun base KB _=>?_⟩
 have Z0O:=PySem.W.mg_of X G Z2i
 have Z3J:XcK K Z03 Z22 vE:=⟨_,_,_,_,_,_,_,_,_,_,_,_,_,_,Z2j⟩
 have Z1X:=PySem.W.mg_of X G Z2l
 have Z7l:XcK K Z05 Z3C (.ref Z03::vE):=⟨_,_,_,_,_,_,_,_,_,_,_,_,_,_,Z2m⟩
 have Z3K:=PySem.W.mg_of X G Z3P
 have Z9g:XcK K Z0j Z65 (.ref Z03::vE):=⟨_,_,_,_,_,_,_,_,_,_,_,_,_,_,Z3Q⟩
 have Z34:=PySem.W.mg_of X G Z3l
 have Z94:XcK K Z0h Z4s (.ref Z03::vE):=⟨_,_,_,_,_,_,_,_,_,_,_,_,_,_,Z3m⟩
 have Z0D:=PySem.W.mg_of X G Z3n
 have Z4v:XcK K Z09 Z3d (.ref Z03::vE):=⟨_,_,_,_,_,_,_,_,_,_,_,_,_,_,Z3o⟩
 have Z35:=PySem.W.mg_of X G Z3q
 have Z95:XcK K Z0i Z4t (.ref Z03::vE):=⟨_,_,_,_,_,_,_,_,_,_,_,_,_,_,Z3r⟩
 have Z2A:=PySem.W.mg_of X G Z2U
 have Z8i:XcK K Z0a Z40 (.ref Z03::vE):=⟨_,_,_,_,_,_,_,_,_,_,_,_,_,_,Z2V⟩
 have Z2B:=PySem.W.mg_of X G Z2W
 have Z8j:XcK K Z0b Z41 (.ref Z03::vE):=⟨_,_,_,_,_,_,_,_,_,_,_,_,_,_,Z2X⟩
 have Z2C:=PySem.W.mg_of X G Z2Y
 have Z8k:XcK K Z0c Z42 (.ref Z03::vE):=⟨_,_,_,_,_,_,_,_,_,_,_,_,_,_,Z2Z⟩
 have Z1f:=PySem.W.mg_of X G Z1n
 have Z52:XcK K Z02 Z32 (.ref Z03::vE):=⟨_,_,_,_,_,_,_,_,_,_,_,_,_,_,Z1o⟩
 have Z3L:=PySem.W.mg_of X G Z3R
 have Z9h:XcK K Z0k Z66 (.ref Z03::vE):=⟨_,_,_,_,_,_,_,_,_,_,_,_,_,_,Z3S⟩
 have Z1z:=PySem.W.mg_of X G Z1Q
 have Z6s:XcK K Z04 Z3e (.ref Z03::vE):=⟨_,_,_,_,_,_,_,_,_,_,_,_,_,_,Z1R⟩
 have Z1Y:=PySem.W.mg_of X G Z2w
 have Z7m:XcK K Z06 Z3D (.ref Z03::vE):=⟨_,_,_,_,_,_,_,_,_,_,_,_,_,_,Z2x⟩
 have Z3M:=PySem.W.mg_of X G Z3T
 have Z9i:XcK K Z0l Z6l (.ref Z03::vE):=⟨_,_,_,_,_,_,_,_,_,_,_,_,_,_,Z3U⟩
 have Z:Kin K base [Z05,Z0j,Z0h,Z09,Z0i,Z0a,Z0b,Z0c,Z02,Z0k,Z04,Z06,Z0l] Z03:=Kin.of KB hn1 ht1 rfl nd1 Z3J (List.forall_mem_cons.mpr ⟨⟨⟨_,Z7l⟩,Z1N,Z1O,Z1P⟩,List.forall_mem_cons.mpr ⟨⟨⟨_,Z9g⟩,Z3i,Z3j,Z3k⟩,List.forall_mem_cons.mpr ⟨⟨⟨_,Z94⟩,Z2J,Z2K,Z2L⟩,List.forall_mem_cons.mpr ⟨⟨⟨_,Z4v⟩,Z2M,Z2N,Z2O⟩,List.forall_mem_cons.mpr ⟨⟨⟨_,Z95⟩,Z2R,Z2S,Z2T⟩,List.forall_mem_cons.mpr ⟨⟨⟨_,Z8i⟩,Z2n,Z2o,Z2p⟩,List.forall_mem_cons.mpr ⟨⟨⟨_,Z8j⟩,Z2q,Z2r,Z2s⟩,List.forall_mem_cons.mpr ⟨⟨⟨_,Z8k⟩,Z2t,Z2u,Z2v⟩,List.forall_mem_cons.mpr ⟨⟨⟨_,Z52⟩,Z14,Z15,Z16⟩,List.forall_mem_cons.mpr ⟨⟨⟨_,Z9h⟩,Z3s,Z3t,Z3u⟩,List.forall_mem_cons.mpr ⟨⟨⟨_,Z6s⟩,Z1p,Z1q,Z1r⟩,List.forall_mem_cons.mpr ⟨⟨⟨_,Z7m⟩,Z1S,Z1T,Z1U⟩,List.forall_mem_cons.mpr ⟨⟨⟨_,Z9i⟩,Z3v,Z3w,Z3x⟩,fun _ h=>nomatch h⟩⟩⟩⟩⟩⟩⟩⟩⟩⟩⟩⟩⟩)
 have Z0K:Ecl base Z09:=Ecl.of KB Z4v Z3J Z3p rfl Z2P Z2Q Z2k rfl Z1L Z1M
 have Z1C:CalH l.prog w K mg base "_law_kinds" ["_law_e"] 1 (ej K [Z05,Z0j,Z0h,Z09,Z0i,Z0a,Z0b,Z0c,Z02,Z0k,Z04,Z06,Z0l] Z03):=⟨Z11,_,ou Z3z h_isinstance h_ValueError Z1X Z3K Z34 Z0D Z35 Z2A Z2B Z2C Z1f Z3L Z1z Z1Y Z3M Z0O,PySem.W.mg_of X G Z1I,Z13,Z6r⟩
 have SA:∀n:Nat,Cal l.prog w K mg base "_law_same" ["_law_found","_law_due"] n (cQ K n):=fun n=>by
  induction n with
  | zero=>exact⟨Z0T,_,qp,PySem.W.mg_of X G Z1b,Z0U,Z3F⟩
  | succ n ih=>exact⟨Z0T,_,ow Z3E h_len h_isinstance h_bool h_int h_str h_list h_tuple h_zip ih,PySem.W.mg_of X G Z1b,Z0U,Z3F⟩
 have Z0v:=SA 26
 have Z0L:Cal l.prog w K mg base "_law_at" ["_law_script","_law_k"] (1) (gv (isScr K) isI (rs isI) gE):=⟨Z1V,_,ub Z4u h_len,PySem.W.mg_of X G Z3f,Z1W,Z92⟩
 have Z1t:CalI l.prog w K mg base "Fragment" Z00 ["self","tall","wide"] (1) (ql Z00 "picks" (oL (oL (fz (isT3 K isS isS isS)))) ar):=⟨⟨f_Fragment___init__,_,⟨Z25,a_Fragment___init__,y_Fragment___init__,Z26⟩,eA F_Fragment___init__ Z0d n_Fragment_picks h_range Z0P,PySem.W.mg_of X G Z2F,b_Fragment___init__⟩⟩
 have Z2D:Cal l.prog w K mg base "_law_row" ["_law_cell","_law_many","_law_base"] (1) (eZ isI isI isI (ro isI) p5):=⟨Z1u,_,uc Z44 h_abs h_range,PySem.W.mg_of X G Z2G,Z1v,Z8h⟩
 have Z20:Cal l.prog w K mg base "_law_deed" ["_law_cell","_law_tall","_law_wide"] (2) (eZ isI isI isI (rs (isU K)) k4):=⟨Z18,_,ud Z3G Z2D h_max,PySem.W.mg_of X G Z29,Z1c,Z7i⟩
 have Z21:Cal l.prog w K mg base "_law_good" ["_law_deed_here","_law_tall","_law_wide"] (1) (eZ (isU K) isI isI (rs isB) iN):=⟨Z19,_,ue Z3H h_len,PySem.W.mg_of X G Z2c,Z1d,Z7j⟩
 have C_Fragment_check:CalM l.prog w K mg base (i6 l.prog w) Z00 "check" ["self","pick","k","side"] (1) (nX (isO1 Z00 "picks" (isL (isL (isT3 K isS isS isS)))) isI isI isS [Z05,Z0j,Z0h,Z09,Z0i,Z0a,Z0b,Z0c,Z02,Z0k,Z04,Z06,Z0l] (rs isN) ak):=⟨⟨f_Fragment_check,_,fu F_Fragment_check Z0d n_Fragment_picks h_len Z1w Z1x Z0D Z0K,⟨a_Fragment_check,y_Fragment_check,k_Fragment_check⟩,Z0d,b_Fragment_check⟩⟩
 have Z1Z:Cal l.prog w K mg base "is_colour" ["text"] (1) (eP isS (rs isB) qm):=⟨Z1a,_,uf Z3I h_len,PySem.W.mg_of X G Z2f,Z1e,Z7k⟩
 have Z54:Cal l.prog w K mg base "fits" ["side","sign"] (2) (gv isS isS (rs isB) p6):=⟨Z3Z,_,ug Z93 Z1Z Z1g Z1h,PySem.W.mg_of X G Z6m,Z43,Z9w⟩
 have C_Fragment_put:CalM l.prog w K mg base (i6 l.prog w) Z00 "put" ["self","pick","k","side","sign"] (1) (lW (oO1 Z00 "picks" (oL (oL (fz (isT3 K isS isS isS))))) (aC isI (aC isI (aC isS (aC isS aN)))) [Z05,Z0j,Z0h,Z09,Z0i,Z0a,Z0b,Z0c,Z02,Z0k,Z04,Z06,Z0l] isS (fun st a=>ao st a.1 a.2.1 a.2.2.1 a.2.2.2.1)):=⟨⟨f_Fragment_put,_,gF F_Fragment_put Z0d n_Fragment_picks h_list h_tuple Z1w Z1x,⟨a_Fragment_put,y_Fragment_put,k_Fragment_put⟩,Z0d,b_Fragment_put⟩⟩
 have C_Fragment_spot:CalM l.prog w K mg base (i6 l.prog w) Z00 "spot" ["self","pick","k","side","sign"] (3) (lW (oO1 Z00 "picks" (oL (oL (fz (isT3 K isS isS isS))))) (aC isI (aC isI (aC isS (aC isS aN)))) [Z05,Z0j,Z0h,Z09,Z0i,Z0a,Z0b,Z0c,Z02,Z0k,Z04,Z06,Z0l] isS (fun st a=>az st a.1 a.2.1 a.2.2.1 a.2.2.2.1)):=⟨⟨f_Fragment_spot,_,fN F_Fragment_spot C_Fragment_check Z54 C_Fragment_put Z0d n_Fragment_picks Z0D Z0K,⟨a_Fragment_spot,y_Fragment_spot,k_Fragment_spot⟩,Z0d,b_Fragment_spot⟩⟩
 have C_Fragment_wear:CalM l.prog w K mg base (i6 l.prog w) Z00 "wear" ["self","pick","k","side"] (2) (lW (oO1 Z00 "picks" (oL (oL (fz (isT3 K isS isS isS))))) (aC isI (aC isI (aC isS aN))) [Z05,Z0j,Z0h,Z09,Z0i,Z0a,Z0b,Z0c,Z02,Z0k,Z04,Z06,Z0l] isS (fun st a=>aA st a.1 a.2.1 a.2.2.1)):=⟨⟨f_Fragment_wear,_,fP F_Fragment_wear C_Fragment_check C_Fragment_put Z0d n_Fragment_picks Z0P,⟨a_Fragment_wear,y_Fragment_wear,k_Fragment_wear⟩,Z0d,b_Fragment_wear⟩⟩
 have Z1D:Cal l.prog w K mg base "_law_tried" ["_law_kept","_law_deed_here"] (4) (rU (oO1 Z00 "picks" (oL (oL (fz (isT3 K isS isS isS))))) (aC (isU K) aN) (isU K) (fun st a=>iO st a.1)):=⟨Z10,_,uh Z3y C_Fragment_spot C_Fragment_wear Z0d n_Fragment_picks Z Z0O Z1C,PySem.W.mg_of X G Z1F,Z12,Z6q⟩
 have C_Fragment_sheet:CalM l.prog w K mg base CX0 Z00 "sheet" ["self"] (1) (eP (isO1 Z00 "picks" (isL (isL (isT3 K isS isS isS)))) (sI (oL (oL (fz (isT3 K isS isS isS))))) am):=⟨⟨f_Fragment_sheet,_,fv F_Fragment_sheet Z0d n_Fragment_picks h_list,⟨a_Fragment_sheet,y_Fragment_sheet,k_Fragment_sheet⟩,Z0d,b_Fragment_sheet⟩⟩
 have C_Fragment_known:CalM l.prog w K mg base CX0 Z00 "known" ["self"] (1) (eP (isO1 Z00 "picks" (isL (isL (isT3 K isS isS isS)))) (rs isI) aV):=⟨⟨f_Fragment_known,_,fw F_Fragment_known Z0d n_Fragment_picks h_sum Z0P,⟨a_Fragment_known,y_Fragment_known,k_Fragment_known⟩,Z0d,b_Fragment_known⟩⟩
 have C_Fragment_strip:CalM l.prog w K mg base CX0 Z00 "strip" ["self","k"] (1) (gv (isO1 Z00 "picks" (isL (isL (isT3 K isS isS isS)))) isI (ro (isT3 K isS isS isS)) ap):=⟨⟨f_Fragment_strip,_,fA F_Fragment_strip Z0d n_Fragment_picks,⟨a_Fragment_strip,y_Fragment_strip,k_Fragment_strip⟩,Z0d,b_Fragment_strip⟩⟩
 have Z0V:Cal l.prog w K mg base "_law_stands" ["_law_kept","_law_grid","_law_wide"] (27) (eZ (isO1 Z00 "picks" (isL (isL (isT3 K isS isS isS)))) (isL (isL (isL isS))) isI (rs isB) jg):=⟨Z0W,_,ui Z33 Z0v C_Fragment_sheet C_Fragment_known C_Fragment_strip h_range h_tuple,PySem.W.mg_of X G Z1i,Z0X,Z51⟩
 exact FnOk.imp (sV F_law Z0L Z1t Z20 Z21 Z0v Z1D Z0V C_Fragment_sheet h_range) qz
theorem walk {l:PySem.W.OpenLaw} {q:Program} {loose:List Str} {XP:(Str→Option Value)→Heap→Prop} {YP:World→Heap→Prop} {d:DefRec} {K:Params→PySem.W.Frag} (hn:l.most=some 63) (hdf:d.params.defaults=[]) (hY:∀(w:World) (h:Heap),YP w h→(K w.params).In h)
  (F:∀(w:World) (mg:Str→Option Value) (fa:Addr) (h:Heap),(K w.params).In h→h.Ns mainGlobals mg→mg d.name=some (.ref fa)→∃fd:FuncData,(∀(s:Shared) (u:Value),BindsTo s fd ⟨[u],[]⟩ [("_law_script",u)])∧∀base:Heap,(K w.params).In base→base.Ns mainGlobals mg→FnOk l.prog w (K w.params) mg base CX0 28 fa fd ["_law_script"] (ld (K w.params))):
  PySem.W.WalkO q loose XP YP l.row.toRowW d [] (fun f vs=>PySem.call f vs):=
 L2.walk_of (n:=63) (k:=28) (x:="_law_script") (CX:=fun _=>CX0) (sp:=fun w=>ld (K w.params)) hn (by decide) hdf ⟨rfl,by decide,by decide⟩ hY F (fun _ _ a ns hl _ hS=>⟨a,ns,rfl,hS,hl,fun _=>rfl⟩) fun _ _ _ _ _ z=>z
end Wb
open PySem PySem.W PyProof.Rows
set_option maxRecDepth 100000 in
set_option maxHeartbeats 0 in
theorem PySem.Challenge.cw_wornband_k26_fragment_deeds_holds : PySem.Challenge.rw_wornband_k26_fragment_deeds.Holds := by
 refine hd ?_
 k_fill
 refine Wb.walk (l:=PySem.Challenge.rw_wornband_k26_fragment_deeds) rfl rfl (fun w h Y=>PySem.W.kIn_of Y) ?F
 case F=>
  intro w mg fa h KX G hmg
  refine' Wb.fin_mk KX G hmg ?Z2F ?pg_Fragment ?hd_Fragment_ ?Z23 ?Z24 ?Z25 ?Z26 ?na_Fragment_picks ?Z1b ?Z27 ?Z28 ?Z0U ?Z3f ?Z3g ?Z3h ?Z1W ?a_Fragment___init__ ?y_Fragment___init__ ?l_Fragment___init__ ?c_Fragment___init__ ?k_Fragment___init__ ?Z2G ?Z2H ?Z2I ?Z1v ?Z29 ?Z2a ?Z2b ?Z1c ?Z2c ?Z2d ?Z2e ?Z1d ?a_Fragment_check ?y_Fragment_check ?l_Fragment_check ?c_Fragment_check ?k_Fragment_check ?Z2f ?Z2g ?Z2h ?Z1e ?Z6m ?Z6n ?Z6o ?Z43 ?a_Fragment_put ?y_Fragment_put ?l_Fragment_put ?c_Fragment_put ?k_Fragment_put ?a_Fragment_spot ?y_Fragment_spot ?l_Fragment_spot ?c_Fragment_spot ?k_Fragment_spot ?a_Fragment_wear ?y_Fragment_wear ?l_Fragment_wear ?c_Fragment_wear ?k_Fragment_wear ?Z1F ?Z1G ?Z1H ?Z12 ?a_Fragment_sheet ?y_Fragment_sheet ?l_Fragment_sheet ?c_Fragment_sheet ?k_Fragment_sheet ?a_Fragment_known ?y_Fragment_known ?l_Fragment_known ?c_Fragment_known ?k_Fragment_known ?a_Fragment_strip ?y_Fragment_strip ?l_Fragment_strip ?c_Fragment_strip ?k_Fragment_strip ?Z1i ?Z1j ?Z1k ?Z0X ?a_law ?l_law ?c_law ?k_law ?Z1I ?Z1J ?Z1K ?Z13 ?z_ValueError ?z_abs ?z_bool ?z_int ?z_isinstance ?z_len ?z_list ?z_max ?z_range ?z_str ?z_sum ?z_tuple ?z_zip ?Z4q ?Z4r ?Z1l ?Z1m ?Z6p ?Z2i ?Z2j ?Z2k ?Z1L ?Z1M ?Z2l ?Z2m ?Z1N ?Z1O ?Z1P ?Z3P ?Z3Q ?Z3i ?Z3j ?Z3k ?Z3l ?Z3m ?Z2J ?Z2K ?Z2L ?Z3n ?Z3o ?Z2M ?Z2N ?Z2O ?Z3p ?Z2P ?Z2Q ?Z3q ?Z3r ?Z2R ?Z2S ?Z2T ?Z2U ?Z2V ?Z2n ?Z2o ?Z2p ?Z2W ?Z2X ?Z2q ?Z2r ?Z2s ?Z2Y ?Z2Z ?Z2t ?Z2u ?Z2v ?Z1n ?Z1o ?Z14 ?Z15 ?Z16 ?Z3R ?Z3S ?Z3s ?Z3t ?Z3u ?Z1Q ?Z1R ?Z1p ?Z1q ?Z1r ?Z2w ?Z2x ?Z1S ?Z1T ?Z1U ?Z3T ?Z3U ?Z3v ?Z3w ?Z3x ?hn1 ?ht1 ?nd1
  (case Z2F=>k_is)
  (case pg_Fragment=>k_is)
  (case hd_Fragment_=>k_is)
  (case Z23=>k_is)
  (case Z24=>k_is)
  (case Z25=>k_is)
  (case Z26=>k_is)
  (case na_Fragment_picks=>k_is)
  (case Z1b=>k_is)
  (case Z27=>k_is)
  (case Z28=>k_is)
  (case Z0U=>k_is)
  (case Z3f=>k_is)
  (case Z3g=>k_is)
  (case Z3h=>k_is)
  (case Z1W=>k_is)
  (case a_Fragment___init__=>k_is)
  (case y_Fragment___init__=>k_is)
  (case l_Fragment___init__=>k_is)
  (case c_Fragment___init__=>k_is)
  (case k_Fragment___init__=>k_is)
  (case Z2G=>k_is)
  (case Z2H=>k_is)
  (case Z2I=>k_is)
  (case Z1v=>k_is)
  (case Z29=>k_is)
  (case Z2a=>k_is)
  (case Z2b=>k_is)
  (case Z1c=>k_is)
  (case Z2c=>k_is)
  (case Z2d=>k_is)
  (case Z2e=>k_is)
  (case Z1d=>k_is)
  (case a_Fragment_check=>k_is)
  (case y_Fragment_check=>k_is)
  (case l_Fragment_check=>k_is)
  (case c_Fragment_check=>k_is)
  (case k_Fragment_check=>k_is)
  (case Z2f=>k_is)
  (case Z2g=>k_is)
  (case Z2h=>k_is)
  (case Z1e=>k_is)
  (case Z6m=>k_is)
  (case Z6n=>k_is)
  (case Z6o=>k_is)
  (case Z43=>k_is)
  (case a_Fragment_put=>k_is)
  (case y_Fragment_put=>k_is)
  (case l_Fragment_put=>k_is)
  (case c_Fragment_put=>k_is)
  (case k_Fragment_put=>k_is)
  (case a_Fragment_spot=>k_is)
  (case y_Fragment_spot=>k_is)
  (case l_Fragment_spot=>k_is)
  (case c_Fragment_spot=>k_is)
  (case k_Fragment_spot=>k_is)
  (case a_Fragment_wear=>k_is)
  (case y_Fragment_wear=>k_is)
  (case l_Fragment_wear=>k_is)
  (case c_Fragment_wear=>k_is)
  (case k_Fragment_wear=>k_is)
  (case Z1F=>k_is)
  (case Z1G=>k_is)
  (case Z1H=>k_is)
  (case Z12=>k_is)
  (case a_Fragment_sheet=>k_is)
  (case y_Fragment_sheet=>k_is)
  (case l_Fragment_sheet=>k_is)
  (case c_Fragment_sheet=>k_is)
  (case k_Fragment_sheet=>k_is)
  (case a_Fragment_known=>k_is)
  (case y_Fragment_known=>k_is)
  (case l_Fragment_known=>k_is)
  (case c_Fragment_known=>k_is)
  (case k_Fragment_known=>k_is)
  (case a_Fragment_strip=>k_is)
  (case y_Fragment_strip=>k_is)
  (case l_Fragment_strip=>k_is)
  (case c_Fragment_strip=>k_is)
  (case k_Fragment_strip=>k_is)
  (case Z1i=>k_is)
  (case Z1j=>k_is)
  (case Z1k=>k_is)
  (case Z0X=>k_is)
  (case a_law=>k_is)
  (case l_law=>k_is)
  (case c_law=>k_is)
  (case k_law=>k_is)
  (case Z1I=>k_is)
  (case Z1J=>k_is)
  (case Z1K=>k_is)
  (case Z13=>k_is)
  (case z_ValueError=>k_is)
  (case z_abs=>k_is)
  (case z_bool=>k_is)
  (case z_int=>k_is)
  (case z_isinstance=>k_is)
  (case z_len=>k_is)
  (case z_list=>k_is)
  (case z_max=>k_is)
  (case z_range=>k_is)
  (case z_str=>k_is)
  (case z_sum=>k_is)
  (case z_tuple=>k_is)
  (case z_zip=>k_is)
  (case Z4q=>k_is)
  (case Z4r=>k_is)
  (case Z1l=>k_is)
  (case Z1m=>k_is)
  (case Z6p=>k_is)
  (case Z2i=>k_is)
  (case Z2j=>k_is)
  (case Z2k=>k_is)
  (case Z1L=>exact Wb.strKeys_of rfl)
  (case Z1M=>first | rfl | kernel_rfl)
  (case Z2l=>k_is)
  (case Z2m=>k_is)
  (case Z1N=>k_is)
  (case Z1O=>k_is)
  (case Z1P=>k_is)
  (case Z3P=>k_is)
  (case Z3Q=>k_is)
  (case Z3i=>k_is)
  (case Z3j=>k_is)
  (case Z3k=>k_is)
  (case Z3l=>k_is)
  (case Z3m=>k_is)
  (case Z2J=>k_is)
  (case Z2K=>k_is)
  (case Z2L=>k_is)
  (case Z3n=>k_is)
  (case Z3o=>k_is)
  (case Z2M=>k_is)
  (case Z2N=>k_is)
  (case Z2O=>k_is)
  (case Z3p=>k_is)
  (case Z2P=>exact Wb.strKeys_of rfl)
  (case Z2Q=>first | rfl | kernel_rfl)
  (case Z3q=>k_is)
  (case Z3r=>k_is)
  (case Z2R=>k_is)
  (case Z2S=>k_is)
  (case Z2T=>k_is)
  (case Z2U=>k_is)
  (case Z2V=>k_is)
  (case Z2n=>k_is)
  (case Z2o=>k_is)
  (case Z2p=>k_is)
  (case Z2W=>k_is)
  (case Z2X=>k_is)
  (case Z2q=>k_is)
  (case Z2r=>k_is)
  (case Z2s=>k_is)
  (case Z2Y=>k_is)
  (case Z2Z=>k_is)
  (case Z2t=>k_is)
  (case Z2u=>k_is)
  (case Z2v=>k_is)
  (case Z1n=>k_is)
  (case Z1o=>k_is)
  (case Z14=>k_is)
  (case Z15=>k_is)
  (case Z16=>k_is)
  (case Z3R=>k_is)
  (case Z3S=>k_is)
  (case Z3s=>k_is)
  (case Z3t=>k_is)
  (case Z3u=>k_is)
  (case Z1Q=>k_is)
  (case Z1R=>k_is)
  (case Z1p=>k_is)
  (case Z1q=>k_is)
  (case Z1r=>k_is)
  (case Z2w=>k_is)
  (case Z2x=>k_is)
  (case Z1S=>k_is)
  (case Z1T=>k_is)
  (case Z1U=>k_is)
  (case Z3T=>k_is)
  (case Z3U=>k_is)
  (case Z3v=>k_is)
  (case Z3w=>k_is)
  (case Z3x=>k_is)
  (case hn1=>k_is)
  (case ht1=>k_is)
  (case nd1=>decide)
