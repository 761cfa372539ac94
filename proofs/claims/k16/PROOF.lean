import PyProof.Rows.All
import Wide.All
import OpenK.AllK
import Wide.FinOn
import PyProof.EqAt
import PyProof.EqKinds
import PyProof.TupleCall
import KE.KDictSum
import KE.KRevIter
import KE.KRevSl
import KE.KDictLaws
import PyProof.StrLawsFirst
import KE.LcSums
import PyProof.EnumMake
import PyProof.TupleIter
import PyProof.StationsW
import PyProof.Rows.Own
import PyProof.NsDelKeeps
import PyProof.RulesAs
import PyProof.ExcAttrAll.ValueError
import KE.KIsAll
import PyProof.ExcBaseAll.ValueError
import PyProof.Rows.FStr
import PyProof.FString
import PyProof.Rows.StrNews
import PyProof.StrLawsTight
import PyProof.StrLawsChain
import PySem.Challenge.RW_wornband_k16_whole_reading
set_option Elab.async false
set_option linter.all false
set_option maxRecDepth 100000
namespace L2
open PySem PySem.Spec PyProof.Rows
abbrev Key:=Sum Int Str
def keyIs:Key→Value→Bool
  | .inl k,v=>Value.isInt k v
  | .inr x,v=>Value.isStrOf x v
def keyH (w:World):Key→Int
  | .inl k=>hashInt k
  | .inr x=>hashStr w x
theorem keyIs_shape:∀{k:Key} {v:Value},keyIs k v=true→(∃i t,k=Sum.inl i∧v=Value.int i t)∨(∃x t,k=Sum.inr x∧v=Value.str x t)
  | .inl i, v, h => by
    obtain⟨t,e⟩:=Value.isInt_shape (k:=i) (v:=v) h
    exact .inl ⟨i,t,rfl,e⟩
  | .inr x, v, h => by
    obtain⟨t,e⟩:=Value.isStrOf_shape (x:=x) (v:=v) h
    exact .inr ⟨x,t,rfl,e⟩
theorem keyIs_int (i:Int) (t:Tok):keyIs (.inl i) (.int i t)=true:=by simp[keyIs,Value.isInt]
theorem keyIs_str (x:Str) (t:Tok):keyIs (.inr x) (.str x t)=true:=by simp[keyIs,Value.isStrOf]
theorem key_ll (a b:Int):decide ((Sum.inl a:Key)=Sum.inl b)=(a == b):=by
  by_cases e:a=b
  · subst e;simp
  · have h:¬(Sum.inl a:Key)=Sum.inl b:=fun q=>e (Sum.inl.inj q)
    rw[decide_eq_false h]
    exact(beq_eq_false_iff_ne.mpr e).symm
theorem key_rr (a b:Str):decide ((Sum.inr a:Key)=Sum.inr b)=decide (a=b):=by
  by_cases e:a=b
  · subst e;simp
  · have h:¬(Sum.inr a:Key)=Sum.inr b:=fun q=>e (Sum.inr.inj q)
    rw[decide_eq_false h,decide_eq_false e]
theorem key_lr (a:Int) (b:Str):decide ((Sum.inl a:Key)=Sum.inr b)=false:=decide_eq_false (fun q=>nomatch q)
theorem key_rl (a:Str) (b:Int):decide ((Sum.inr a:Key)=Sum.inl b)=false:=decide_eq_false (fun q=>nomatch q)
def mixKind (prog:Program) (w:World):PySem.KeyKind prog w Key where
  is:=keyIs
  hash:=keyH w
  inj:=fun v a b ha hb=>by
    rcases keyIs_shape ha with⟨i,t,rfl,rfl⟩ | ⟨x,t,rfl,rfl⟩
    · rcases keyIs_shape hb with⟨j,u,rfl,e⟩ | ⟨y,u,rfl,e⟩
      · injection e with e1 _;rw[e1]
      · exact nomatch e
    · rcases keyIs_shape hb with⟨j,u,rfl,e⟩ | ⟨y,u,rfl,e⟩
      · exact nomatch e
      · injection e with e1 _;rw[e1]
  byValue:=fun k v h=>by
    rcases keyIs_shape h with⟨i,t,rfl,rfl⟩ | ⟨x,t,rfl,rfl⟩ <;> rfl
  pyHash:=fun hv h=>by
    rcases keyIs_shape hv with⟨i,t,rfl,rfl⟩ | ⟨x,t,rfl,rfl⟩
    · exact wpAny_pyHash_int h
    · exact wpAny_pyHash_str h
  eqBool:=fun hu hv h=>by
    rcases keyIs_shape hu with⟨i,t,rfl,rfl⟩ | ⟨x,t,rfl,rfl⟩
    · rcases keyIs_shape hv with⟨j,u,rfl,rfl⟩ | ⟨y,u,rfl,rfl⟩
      · rw[key_ll]at h;exact wpAny_eqBool_int h
      · rw[key_lr]at h;exact SeqAt.EqAt.int_str i t y u _ _ _ _ h
    · rcases keyIs_shape hv with⟨j,u,rfl,rfl⟩ | ⟨y,u,rfl,rfl⟩
      · rw[key_rl]at h;exact SeqAt.EqAt.str_int x t j u _ _ _ _ h
      · rw[key_rr]at h;exact wpAny_eqBool_str h
  «strs» :=fun k x t v h=>by
    rcases keyIs_shape h with⟨i,u,rfl,e⟩ | ⟨y,u,rfl,e⟩
    · exact nomatch e
    · injection e with e1 _
      subst e1
      cases v <;> rfl
theorem mixKind_int (prog:Program) (w:World) (i:Int) (t:Tok):(mixKind prog w).is (.inl i) (.int i t)=true:=keyIs_int i t
theorem mixKind_str (prog:Program) (w:World) (x:Str) (t:Tok):(mixKind prog w).is (.inr x) (.str x t)=true:=keyIs_str x t
end L2
namespace L2
open PySem PySem.Spec PyProof.Rows
inductive V where
  | non | bl (b:Bool) | int (i:Int) | str (x:Str) | byt (b:Array UInt8) | flt (b:UInt64) | ref (a:Addr) | ty (n:String)
  deriving DecidableEq
def RelV:V→Value→Prop
  | .non,u=>u=Value.none
  | .bl b,u=>u=Value.bool b
  | .int i,u=>∃t,u=Value.int i t
  | .str x,u=>∃t,u=Value.str x t
  | .byt b,u=>∃t,u=Value.bytes b t
  | .flt b,u=>∃t,u=Value.float b t
  | .ref a,u=>u=Value.ref a
  | .ty n,u=>u=Value.type n
abbrev Vals:List V→List Value→Prop:=Paired RelV
theorem Vals.length {xs:List V} {us:List Value} (r:Vals xs us):xs.length=us.length:=Paired.length r
theorem Vals.get:∀{xs:List V} {us:List Value} {i:Nat} {x:V},Vals xs us→xs[i]? =some x→∃u,us[i]? =some u∧RelV x u
  | _,_,_,_,.nil,e=>by simp at e
  | _,_,0,_,.cons r _,e=>by simp at e;subst e;exact⟨_,rfl,r⟩
  | _, _, i + 1, x, .cons _ t, e => by
    obtain⟨u,h1,h2⟩:=Vals.get (i:=i) (x:=x) t (by simpa using e)
    exact⟨u,by simpa using h1,h2⟩
theorem Vals.append:∀{xs ys:List V} {us ws:List Value},Vals xs us→Vals ys ws→Vals (xs++ys) (us++ws)
  | _,_,_,_,.nil,s=>s
  | _,_,_,_,.cons r t,s=>.cons r (Vals.append t s)
def RelO:Option V→Option Value→Prop
  | some v,some u=>RelV v u
  | none,none=>True
  | _,_=>False
def KV {κ:Type} :List (κ×V)→List (κ×Value)→Prop:=Paired fun(p:κ×V) (q:κ×Value)=>p.1=q.1∧RelV p.2 q.2
def kV:Key→V
  | .inl i=>.int i
  | .inr x=>.str x
inductive HO where
  | lst (xs:List V)
  | tup (xs:List V)
  | dK (kvs:List (Key×V)) | dT (kvs:List (List Key×V))
  | set (S:Int→Bool) (n:Nat)
  | ins (C dx:Addr) (fs:List (Str×V))
  | own (x:Addr)
  | xd (fs:List (Str×V))
  | met (f x:Addr)
  | rng (lo hi:Int)
  | frz (o:Obj) (u:HO)
  | tbl (ps:Array Value)
  | ext (φ:Heap→Prop)
abbrev Hp:=Addr→Option HO
def upd (H:Hp) (a:Addr) (o:HO):Hp:=fun b=>if b=a then some o else H b
theorem upd_same {H:Hp} {a:Addr} {o:HO} :upd H a o a=some o:=by unfold upd;rw[if_pos rfl]
theorem upd_ne {H:Hp} {a b:Addr} {o:HO} (h:b≠a):upd H a o b=H b:=by unfold upd;rw[if_neg h]
theorem ne_of_none {H:Hp} {a b:Addr} {o:HO} (h:H a=some o) (h':H b=none):a≠b:=by
  intro e;subst e;rw[h]at h';cases h'
section
variable (P:Program) (w:World)
def ObjOk (H:Hp) (h:Heap) (a:Addr):HO→Prop
  | .lst xs=>xs.length≤sizeLine∧∃(its:List Value) (n:Nat),Vals xs its∧h.get? a=some {cls:=.type "list",data:=.seq its.toArray n}
  | .tup xs=>xs.length≤sizeLine∧∃its:List Value,Vals xs its∧IsTup h a its.toArray
  | .dK kvs=>kvs.length≤sizeLine∧(a == sysModules)=false∧∃vs,KV kvs vs∧h.DictOf (mixKind P w) a vs
  | .dT kvs=>kvs.length≤sizeLine∧(a == sysModules)=false∧∃xs:List (List Key×Addr×Value),
      Paired (fun(p:List Key×V) (q:List Key×Addr×Value)=>p.1=q.1∧H q.2.1=some (.tup (p.1.map kV))∧RelV p.2 q.2.2) kvs xs∧
      ∃o es ep,h.get? a=some o∧o.ExactDict∧o.data=.dict es ep∧es.toList=xs.map (entryOfKey (tupleKind (mixKind P w)))∧(xs.map (·.1)).Nodup
  | .set S n=>h.SetOf (intKind P w) a S n
  | .ins C dx fs=>H dx=some (.own a)∧fs.length≤1000∧dx≠a∧h.get? a=some (PySem.W.instObj C dx)∧
      ∃mA,h.Ns1 dx mA∧(∀f,RelO (fs.lookup f) (mA f))∧PySem.Within mA (fs.map (·.1))
  | .own _=>∃o,h.get? a=some o
  | .xd fs=>∃mA,h.Ns1 a mA∧∀f,RelO (fs.lookup f) (mA f)
  | .rng lo hi=>∃t u v,h.get? a=some {cls:=.type "range",data:=.fields #[.int lo t,.int hi u,.int 1 v]}
  | .frz o u=>h.get? a=some o∧ObjOk H h a u
  | .tbl ps=>h.get? a=some {cls:=.none,data:=.fields ps}
  | .met f x=>h.get? a=some (PySem.W.methodObj (.ref f) (.ref x))
  | .ext φ=>φ h∧(∃o,h.get? a=some o)∧∀h1 h2:Heap,φ h1→(∀o,h1.get? a=some o→h2.get? a=some o)→φ h2
def HOk (H:Hp) (h:Heap):Prop:=∀a o,H a=some o→ObjOk P w H h a o
end
section
variable {P:Program} {w:World} {H H':Hp} {h h':Heap} {a:Addr} {o:HO}
theorem ObjOk.lt (x:ObjOk P w H h a o):a< h.objs.size:=by
  cases o with
  | lst xs=>obtain⟨_,_,_,_,e⟩:=x;exact Heap.lt_size e
  | tup xs=>obtain⟨_,_,_,p⟩:=x;exact p.lt
  | dK kvs=>obtain⟨_,_,_,_,o,_,_,e,_⟩:=x;exact Heap.lt_size e
  | dT kvs=>obtain⟨_,_,_,_,o,_,_,e,_⟩:=x;exact Heap.lt_size e
  | set S n=>obtain⟨o,_,_,_,e,_⟩:=x;exact Heap.lt_size e
  | ins C dx fs=>obtain⟨_,_,_,e,_⟩:=x;exact Heap.lt_size e
  | own y=>obtain⟨_,e⟩:=x;exact Heap.lt_size e
  | xd fs=>obtain⟨_,⟨_,_,_,e,_⟩,_⟩:=x;exact Heap.lt_size e
  | rng lo hi=>obtain⟨_,_,_,e⟩:=x;exact Heap.lt_size e
  | frz ob u=>obtain⟨e,_⟩:=x;exact Heap.lt_size e
  | tbl ps=>exact Heap.lt_size (show h.get? a=some _ from x)
  | met f y=>exact Heap.lt_size (show h.get? a=some _ from x)
  | ext φ=>obtain⟨_,⟨_,e⟩,_⟩:=x;exact Heap.lt_size e
theorem Paired.mapP {α β:Type} {F G:α→β→Prop} :∀{l₁:List α} {l₂:List β},Paired F l₁ l₂→(∀a b,F a b→G a b)→Paired G l₁ l₂
  | _,_,.nil,_=>.nil
  | _,_,.cons r t,f=>.cons (f _ _ r) (Paired.mapP t f)
theorem ObjOk.stay (x:ObjOk P w H h a o) (k:∀b u,(b=a∨H b=some (.own a))→h.get? b=some u→h'.get? b=some u)
    (ho:∀b,H b=some (.own a)→H' b=some (.own a)) (ht:∀b xs,H b=some (.tup xs)→H' b=some (.tup xs)):ObjOk P w H' h' a o:=by
  induction o with
  | lst xs=>obtain⟨z,its,n,r,e⟩:=x;exact⟨z,its,n,r,k _ _ (.inl rfl) e⟩
  | tup xs=>obtain⟨z,its,r,ob,e,c⟩:=x;exact⟨z,its,r,ob,k _ _ (.inl rfl) e,c⟩
  | dK kvs=>obtain⟨z,y,vs,r,ob,es,ep,e,c⟩:=x;exact⟨z,y,vs,r,ob,es,ep,k _ _ (.inl rfl) e,c⟩
  | dT kvs =>
    obtain⟨z,y,xs,r,ob,es,ep,e,c⟩:=x
    exact⟨z,y,xs,Paired.mapP r fun p q z=>⟨z.1,ht _ _ z.2.1,z.2.2⟩,ob,es,ep,k _ _ (.inl rfl) e,c⟩
  | set S n=>obtain⟨ob,es,ep,t,e,c⟩:=x;exact⟨ob,es,ep,t,k _ _ (.inl rfl) e,c⟩
  | ins C dx fs =>
    obtain⟨d,z,ne,e,mA,⟨od,es,ep,e2,c⟩,r⟩:=x
    exact⟨ho _ d,z,ne,k _ _ (.inl rfl) e,mA,⟨od,es,ep,k _ _ (.inr d) e2,c⟩,r⟩
  | own y=>obtain⟨ob,e⟩:=x;exact⟨ob,k _ _ (.inl rfl) e⟩
  | xd fs=>obtain⟨mA,⟨od,es,ep,e,c⟩,r⟩:=x;exact⟨mA,⟨od,es,ep,k _ _ (.inl rfl) e,c⟩,r⟩
  | rng lo hi=>obtain⟨t,u,v,e⟩:=x;exact⟨t,u,v,k _ _ (.inl rfl) e⟩
  | frz ob u ih=>obtain⟨e,q⟩:=x;exact⟨k _ _ (.inl rfl) e,ih q⟩
  | tbl ps =>
    have e:h.get? a=some {cls:=.none,data:=.fields ps} :=x
    show h'.get? a=some {cls:=.none,data:=.fields ps}
    exact k a _ (.inl rfl) e
  | met f y =>
    have e:h.get? a=some (PySem.W.methodObj (.ref f) (.ref y)):=x
    show h'.get? a=some (PySem.W.methodObj (.ref f) (.ref y))
    exact k a _ (.inl rfl) e
  | ext φ=>obtain⟨p,⟨o,e⟩,st⟩:=x;exact⟨st _ _ p fun o q=>k _ _ (.inl rfl) q,⟨o,k _ _ (.inl rfl) e⟩,st⟩
theorem HOk.lt (x:HOk P w H h) (e:H a=some o):a< h.objs.size:=(x a o e).lt
theorem HOk.fresh (x:HOk P w H h) (e:h.objs.size≤a):H a=none:=by
  cases q:H a with
  | none=>rfl
  | some u=>exact absurd (Nat.lt_of_lt_of_le (x.lt q) e) (Nat.lt_irrefl _)
theorem HOk.kept (x:HOk P w H h) (k:∀b u,h.get? b=some u→h'.get? b=some u):HOk P w H h':=fun a o e=>
  (x a o e).stay (fun b u _ q=>k b u q) (fun _ q=>q) fun _ _ q=>q
theorem HOk.laid (x:HOk P w H h) (k:∀b u,h.get? b=some u→h'.get? b=some u) (hp:h.objs.size≤a) (new:ObjOk P w (upd H a o) h' a o):HOk P w (upd H a o) h':=fun b u e=>by
  have hn:=x.fresh hp
  by_cases hb:b=a
  · subst hb;rw[upd_same]at e;cases e;exact new
  · rw[upd_ne hb]at e
    exact(x b u e).stay (fun c v _ q=>k c v q) (fun c q=>by rw[upd_ne (ne_of_none q hn)];exact q) fun c xs q=>by rw[upd_ne (ne_of_none q hn)];exact q
end
def Rd (H:Hp) (a:Addr) (u:HO):Prop:=H a=some u∨∃o,H a=some (.frz o u)
theorem Rd.ok {P:Program} {w:World} {H:Hp} {h:Heap} {a:Addr} {u:HO} (r:Rd H a u) (x:HOk P w H h):ObjOk P w H h a u:=by
  rcases r with r | ⟨o,r⟩
  · exact x a u r
  · obtain⟨_,q⟩:=x a _ r
    exact q
def Mut:Option HO→Prop
  | some (.lst _)=>True
  | some (.dK _)=>True
  | some (.dT _)=>True
  | some (.set _ _)=>True
  | some (.ins _ _ _)=>True
  | some (.ext _)=>True
  | _=>False
section
variable {P:Program} {w:World} {H:Hp} {h h':Heap} {x e:Addr} {o':HO}
theorem HOk.write (ok:HOk P w H h) (mu:Mut (H x)) (he:e=x∨H e=some (.own x)) (k:∀b u,b≠e→h.get? b=some u→h'.get? b=some u) (heo:∃u,h'.get? e=some u)
    (new:ObjOk P w (upd H x o') h' x o'):HOk P w (upd H x o') h':=fun b u q=>by
  have nown:∀c y,H c=some (.own y)→c≠x:=fun c y r z=>by subst z;rw[r]at mu;exact mu
  have ntup:∀c xs,H c=some (.tup xs)→c≠x:=fun c xs r z=>by subst z;rw[r]at mu;exact mu
  by_cases hb:b=x
  · subst hb;rw[upd_same]at q;cases q;exact new
  · rw[upd_ne hb]at q
    by_cases hbe:b=e
    · have q':H b=some (.own x):=by
        rcases he with z | z
        · exact absurd (hbe.trans z) hb
        · rw[hbe];exact z
      rw[q]at q';cases q'
      obtain⟨v,hv⟩:=heo
      exact⟨v,by rw[hbe];exact hv⟩
    · refine(ok b u q).stay (fun c v hc r=>k c v ?_ r) (fun c r=>by rw[upd_ne (nown c b r)];exact r) fun c xs r=>by rw[upd_ne (ntup c xs r)];exact r
      rcases hc with rfl | hc
      · exact hbe
      · rintro rfl
        rcases he with z | z
        · exact nown c b hc z
        · rw[hc]at z;cases z;exact hb rfl
end
structure Un (fs ex:List Addr) (H H':Hp) (h h':Heap):Prop where
  keep:∀b o,h.get? b=some o→H b=none→b∉fs→b∉ex→h'.get? b=some o
  slot:∀b o,h.get? b=some o→H b=none→b∈fs→b∉ex→∃sl,h'.get? b=some {o with slots:=sl}
  free:∀b o,h.get? b=some o→H b=none→b∉ex→H' b=none
  there:∀b o,h.get? b=some o→b∉ex→∃o',h'.get? b=some o'
  tups:∀b xs,H b=some (.tup xs)→H' b=some (.tup xs)
  frzs:∀b o u,H b=some (.frz o u)→H' b=some (.frz o u)
  tbls:∀b ps,H b=some (.tbl ps)→∃more,H' b=some (.tbl (ps++more))
section
variable {fs fs' ex ex':List Addr} {H H1 H2:Hp} {h h1 h2 h':Heap} {a x e:Addr} {o:HO}
theorem Un.any (u:Un fs ex H H1 h h1) {b:Addr} {ob:Obj} (q:h.get? b=some ob) (n:H b=none) (hx:b∉ex):∃sl,h1.get? b=some {ob with slots:=sl} :=by
  by_cases hb:b∈fs
  · exact u.slot b ob q n hb hx
  · exact⟨ob.slots,u.keep b ob q n hb hx⟩
theorem Un.kept (k:∀b u,h.get? b=some u→h'.get? b=some u):Un fs ex H H h h':=
  ⟨fun b ob q _ _ _=>k b ob q,fun b ob q _ _ _=>⟨ob.slots,k b ob q⟩,fun _ _ _ n _=>n,fun b ob q _=>⟨ob,k b ob q⟩,fun _ _ q=>q,fun _ _ _ q=>q,fun _ ps q=>⟨#[],by rw[q];simp⟩⟩
theorem Un.refl:Un fs ex H H h h:=Un.kept fun _ _ q=>q
theorem Un.laid (k:∀b u,h.get? b=some u→h'.get? b=some u) (hp:h.objs.size≤a) (hn:H a=none):Un fs ex H (upd H a o) h h' where
  keep:=fun b u q _ _ _=>k b u q
  slot:=fun b u q _ _ _=>⟨u.slots,k b u q⟩
  free:=fun b u q n _=>by rw[upd_ne (Nat.ne_of_lt (Nat.lt_of_lt_of_le (Heap.lt_size q) hp))];exact n
  there:=fun b u q _=>⟨u,k b u q⟩
  tups:=fun b xs q=>by rw[upd_ne (ne_of_none q hn)];exact q
  frzs:=fun b u xs q=>by rw[upd_ne (ne_of_none q hn)];exact q
  tbls:=fun b ps q=>⟨#[],by rw[upd_ne (ne_of_none q hn),q];simp⟩
theorem Un.write (mu:Mut (H x)) (he:e=x∨H e=some (.own x)) (k:∀b u,b≠e→h.get? b=some u→h'.get? b=some u) (heo:∃u,h'.get? e=some u):Un fs ex H (upd H x o) h h':=by
  have hx:∀b,H b=none→b≠x:=fun b n z=>by subst z;rw[n]at mu;exact mu
  have hb:∀b,H b=none→b≠e:=fun b n z=>by
    subst z
    rcases he with r | r
    · exact hx b n r
    · rw[n]at r;cases r
  have hm:∀b u,H b=some u→¬Mut (some u)→b≠x:=fun b u q nm z=>by subst z;rw[q]at mu;exact nm mu
  refine⟨fun b u q n _ _=>k b u (hb b n) q,fun b u q n _ _=>⟨u.slots,k b u (hb b n) q⟩,fun b u q n _=>by rw[upd_ne (hx b n)];exact n,fun b u q _=>?_,
    fun b xs q=>by rw[upd_ne (hm b _ q fun z=>z)];exact q,fun b u xs q=>by rw[upd_ne (hm b _ q fun z=>z)];exact q,fun b ps q=>⟨#[],by rw[upd_ne (hm b _ q fun z=>z),q];simp⟩⟩
  by_cases hbe:b=e
  · subst hbe;exact heo
  · exact⟨u,k b u hbe q⟩
end
def trk (h:Heap) (H:Hp):List Addr:=(List.range h.objs.size).filter fun a=>(H a).isSome
def hidT (h:Heap) (H:Hp):Heap:=PySem.W.hideAll h (trk h H)
theorem hidT_size (h:Heap) (H:Hp):(hidT h H).objs.size=h.objs.size:=PySem.W.hideAll_size _ _
theorem hidT_get {h:Heap} {H:Hp} {b:Addr} {o:Obj} (e:h.get? b=some o) (n:H b=none):(hidT h H).get? b=some o:=
  PySem.W.hideAll_get _ e fun hm=>by
    have q:(H b).isSome=true:=(List.mem_filter.mp hm).2
    rw[n]at q;simp at q
theorem of_hidT {h:Heap} {H:Hp} {b:Addr} {o:Obj} (e:(hidT h H).get? b=some o):h.get? b=some o∧H b=none:=by
  have e':h.get? b=some o:=PySem.W.of_hideAll (trk h H) e
  refine⟨e',?_⟩
  cases q:H b with
  | none=>rfl
  | some x =>
    have hm:b∈trk h H:=List.mem_filter.mpr ⟨List.mem_range.mpr (Heap.lt_size e'),by simp[q]⟩
    have z:(hidT h H).get? b=none:=PySem.W.hideAll_none (trk h H) hm
    rw[z]at e;cases e
end L2
namespace L2
open PySem PySem.Spec PyProof.Rows
structure Mod (K:PySem.W.Frag) (mg:Str→Option Value) (base:Heap):Prop where
  kin:K.In base
  glob:base.Ns mainGlobals mg
  blt:∃mb,base.Ns builtinsNs mb∧∀x:Str,x≠"__name__" →mb x=bootBuiltins x
  nolimit:base.NoLimit
structure Cx where
  prog:Program
  w:World
  K:PySem.W.Frag
  mg:Str→Option Value
  base:Heap
  A:Around
  N:List Str
  s₀:Shared
  H₀:Hp
  env:Env
  outer:List Env
  stack:List Env
  ex:List Addr
  fn:Str→Bool
  calm:Bool
  pn:List (Addr×Obj)
  xe:Value→Shared→Prop
def frs (l:List Env):List Addr:=l.filterMap (·.frame)
abbrev Cx.fs (X:Cx):List Addr:=frs X.outer
def Vis (sc:Scope) (x:Str):Prop:=sc.names.lookup x=some .local∨sc.names.lookup x=some .cell∨sc.names.lookup x=some .free
def Loc (sc:Scope) (x:Str):Prop:=sc.names.lookup x=some .local∨sc.names.lookup x=some .cell
def Look (env:Env) (h:Heap) (m:Str→Option Value) (x:Str) (u:Value):Prop:=
  (env.kindOf x=some .local∧m x=some u)∨((env.kindOf x=some .cell∨env.kindOf x=some .free)∧∃c,env.cells.lookup x=some c∧h.IsCell c (some u))
structure Cx.Ok (X:Cx):Prop where
  mod:Mod X.K X.mg X.base
  kind:X.env.scope.kind=.function
  glob:X.env.globals=mainGlobals
  blt:X.env.builtins=builtinsNs
  above:X.s₀.heap.objs.size≤X.env.locals
  inj:∀x y c,X.env.cells.lookup x=some c→X.env.cells.lookup y=some c→x=y
  has:∀x,(X.env.kindOf x=some .cell∨X.env.kindOf x=some .free)→∃c,X.env.cells.lookup x=some c
  cab:∀x c,X.fn x=true→X.env.cells.lookup x=some c→X.s₀.heap.objs.size≤c
  hd:X.calm=true→X.A.handled=none
  frames:X.A.frames=some X.stack
  stk:X.stack=X.outer∨(X.stack=X.env::X.outer∧X.env.frame=some X.env.locals)
  exf:∀b∈X.ex,b≠X.env.locals∧∀x c,X.env.cells.lookup x=some c→c≠b
  bs:∀b o,X.base.get? b=some o→X.s₀.heap.get? b=some o∧X.H₀ b=none
  bsz:X.base.objs.size≤X.s₀.heap.objs.size
  noex:∀b o,X.base.get? b=some o→b∉X.ex
  exfs:∀b∈X.ex,b∉X.fs
  funs:X.s₀.heap.FunFrames X.base X.outer
  frf:∀b∈X.fs,X.H₀ b=none
structure Inv (X:Cx) (pins:List (Addr×Obj)) (σ:List (Option V)) (H:Hp) (s:Shared):Prop where
  ok:X.Ok
  os:s.os=X.s₀.os
  bare:AllBare s.gens
  base:Un X.fs X.ex X.H₀ H X.s₀.heap s.heap
  loc:∃m,s.heap.Ns X.env.locals m∧∀(i:Nat) (x:Str) (v:V),X.N[i]? =some x→σ[i]? =some (some v)→Vis X.env.scope x→∃u,RelV v u∧Look X.env s.heap m x u
  cell:∀x c,X.env.cells.lookup x=some c→∃v,s.heap.IsCell c v
  free:H X.env.locals=none
  freeC:∀x c,X.env.cells.lookup x=some c→H c=none
  pin:∀p∈X.pn++pins,s.heap.get? p.1=some p.2∧H p.1=none∧p.1≠X.env.locals∧p.1∉X.fs∧∀v,p.2.data≠.cell v
  hok:HOk X.prog X.w H s.heap
  len:σ.length=X.N.length
section
variable {X:Cx} {pins:List (Addr×Obj)} {σ:List (Option V)} {H H':Hp} {s:Shared} {h':Heap}
theorem Cx.Ok.nofr (ok:X.Ok) {b:Addr} {o:Obj} (e:X.base.get? b=some o):b∉X.fs:=fun hb=>by
  have:=(ok.funs.mem hb).1
  rw[e]at this;cases this
theorem Inv.bs (I:Inv X pins σ H s):∀b o,X.base.get? b=some o→s.heap.get? b=some o∧H b=none:=fun b o e=>
  ⟨I.base.keep b o (I.ok.bs b o e).1 (I.ok.bs b o e).2 (I.ok.nofr e) (I.ok.noex b o e),I.base.free b o (I.ok.bs b o e).1 (I.ok.bs b o e).2 (I.ok.noex b o e)⟩
theorem Inv.bk (I:Inv X pins σ H s):∀b o,X.base.get? b=some o→s.heap.get? b=some o:=fun b o e=>(I.bs b o e).1
theorem Inv.mod (I:Inv X pins σ H s):Mod X.K X.mg X.base:=I.ok.mod
theorem Inv.kIn (I:Inv X pins σ H s):X.K.In s.heap:=I.ok.mod.kin.keeps I.bk
theorem Inv.lt (I:Inv X pins σ H s):X.env.locals< s.heap.objs.size:=let ⟨_,hn,_⟩:=I.loc;hn.lt
theorem Inv.sz (I:Inv X pins σ H s):X.s₀.heap.objs.size≤s.heap.objs.size:=Nat.le_trans I.ok.above (Nat.le_of_lt I.lt)
theorem Inv.nofs (I:Inv X pins σ H s) {a:Addr} (h:s.heap.objs.size≤a):a∉X.fs:=fun hb=>by
  obtain⟨_,o,ho,_⟩:=I.ok.funs.mem hb
  exact absurd (Nat.lt_of_lt_of_le (Heap.lt_size ho) (Nat.le_trans I.sz h)) (Nat.lt_irrefl _)
theorem Inv.cne (I:Inv X pins σ H s):∀x c,X.env.cells.lookup x=some c→c≠X.env.locals:=fun x c e z=>by
  obtain⟨v,o,ho,hd⟩:=I.cell x c e
  obtain⟨m,⟨o',es,ep,ho',hd',_⟩,_⟩:=I.loc
  rw[z,ho']at ho;cases ho;rw[hd']at hd;cases hd
theorem Inv.funs (I:Inv X pins σ H s):s.heap.FunFrames X.base X.outer:=by
  have all:∀(l:List Env),(∀b∈frs l,b∈X.fs)→X.s₀.heap.FunFrames X.base l→s.heap.FunFrames X.base l:=by
    intro l
    induction l with
    | nil=>intro _ _;trivial
    | cons env r ih =>
      intro hs hl
      obtain⟨hk,⟨L,o,hf,hn,ho,hd⟩,hr⟩:=hl
      have hL:L∈X.fs:=hs L (by unfold frs;rw[List.filterMap_cons,hf];exact List.mem_cons_self)
      obtain⟨sl,e⟩:=I.base.slot L o ho (I.ok.frf L hL) hL fun z=>I.ok.exfs L z hL
      exact⟨hk,⟨L,_,hf,hn,e,hd⟩,ih (fun b hb=>hs b (by unfold frs;rw[List.filterMap_cons,hf];exact List.mem_cons_of_mem _ hb)) hr⟩
  exact all X.outer (fun _ hb=>hb) I.ok.funs
theorem Inv.stack (I:Inv X pins σ H s):s.heap.FunFrames X.base X.stack:=by
  rcases I.ok.stk with e | ⟨e,hf⟩
  · rw[e];exact I.funs
  · rw[e]
    obtain⟨m,hn,_⟩:=I.loc
    refine .cons (by rw[I.ok.kind];decide) hf hn ?_ I.funs
    exact Heap.get?_none_of_le (Nat.le_trans I.ok.bsz I.ok.above)
theorem Inv.stkSub (I:Inv X pins σ H s):∀b∈frs X.stack,b∈X.env.locals::X.fs:=fun b hb=>by
  rcases I.ok.stk with e | ⟨e,hf⟩
  · rw[e]at hb;exact List.mem_cons_of_mem _ hb
  · rw[e]at hb
    unfold frs at hb
    rw[List.filterMap_cons,hf]at hb
    exact hb
theorem Inv.stkFree (I:Inv X pins σ H s):∀b∈frs X.stack,H b=none:=fun b hb=>by
  rcases List.mem_cons.mp (I.stkSub b hb)with e | hb
  · rw[e];exact I.free
  · obtain⟨_,o,ho,_⟩:=I.ok.funs.mem hb
    exact I.base.free b o ho (I.ok.frf b hb) fun z=>I.ok.exfs b z hb
theorem Inv.step {g':Array GenState} {t':Nat} {d':Drawn} {ch:List Addr} (I:Inv X pins σ H s)
    (hch:∀b∈ch,(b∈X.ex∨X.s₀.heap.objs.size≤b)∧b≠X.env.locals∧(∀x c,X.env.cells.lookup x=some c→c≠b)∧∀p∈X.pn++pins,p.1≠b)
    (keep:∀b o,b≠X.env.locals→b∉X.fs→b∉ch→s.heap.get? b=some o→H b=none→h'.get? b=some o)
    (slot:∀b o,b≠X.env.locals→b∈X.fs→b∉ch→s.heap.get? b=some o→H b=none→∃sl,h'.get? b=some {o with slots:=sl}) (free:∀b o,b∉ch→s.heap.get? b=some o→H b=none→H' b=none)
    (there:∀b o,b∉ch→s.heap.get? b=some o→∃o',h'.get? b=some o')
    (tups:∀b xs,H b=some (.tup xs)→H' b=some (.tup xs)) (frzs:∀b o u,H b=some (.frz o u)→H' b=some (.frz o u)) (tbls:∀b ps,H b=some (.tbl ps)→∃more,H' b=some (.tbl (ps++more)))
    (ns:∀m,s.heap.Ns X.env.locals m→h'.Ns X.env.locals m) (hok:HOk X.prog X.w H' h') (hg:AllBare g'):
    Inv X pins σ H' {s with heap:=h',gens:=g',drawn:=d',toks:=t'} :=by
  have neL:∀b o,X.s₀.heap.get? b=some o→b≠X.env.locals:=fun b o e=>Nat.ne_of_lt (Nat.lt_of_lt_of_le (Heap.lt_size e) I.ok.above)
  have neC:∀b o,X.s₀.heap.get? b=some o→b∉X.ex→b∉ch:=fun b o e hx hb=>by
    rcases (hch b hb).1 with z | z
    · exact hx z
    · exact absurd (Nat.lt_of_lt_of_le (Heap.lt_size e) z) (Nat.lt_irrefl _)
  have cellK:∀x c,X.env.cells.lookup x=some c→∀v,s.heap.IsCell c v→h'.IsCell c v:=fun x c e v ⟨o,ho,hd⟩=>by
    have nch:c∉ch:=fun z=>(hch c z).2.2.1 x c e rfl
    by_cases hc:c∈X.fs
    · obtain⟨sl,q⟩:=slot c o (I.cne x c e) hc nch ho (I.freeC x c e)
      exact⟨_,q,hd⟩
    · exact⟨o,keep c o (I.cne x c e) hc nch ho (I.freeC x c e),hd⟩
  refine⟨I.ok,I.os,hg,⟨fun b o e n hb hx=>?_,fun b o e n hb hx=>?_,fun b o e n hx=>?_,fun b o e hx=>?_,fun b xs e=>tups b xs (I.base.tups b xs e),fun b o xs e=>frzs b o xs (I.base.frzs b o xs e),fun b ps e=>?_⟩,?_,fun x c e=>?_,?_,fun x c e=>?_,fun p hp=>?_,hok,I.len⟩
  · exact keep b o (neL b o e) hb (neC b o e hx) (I.base.keep b o e n hb hx) (I.base.free b o e n hx)
  · obtain⟨sl,e1⟩:=I.base.slot b o e n hb hx
    obtain⟨sl',e2⟩:=slot b _ (neL b o e) hb (neC b o e hx) e1 (I.base.free b o e n hx)
    exact⟨sl',e2⟩
  · obtain⟨o',e1⟩:=I.base.there b o e hx
    exact free b o' (neC b o e hx) e1 (I.base.free b o e n hx)
  · obtain⟨o',e1⟩:=I.base.there b o e hx
    exact there b o' (neC b o e hx) e1
  · obtain⟨m1,e1⟩:=I.base.tbls b ps e
    obtain⟨m2,e2⟩:=tbls b _ e1
    exact⟨m1++m2,by rw[e2,Array.append_assoc]⟩
  · obtain⟨m,hn,hl⟩:=I.loc
    refine⟨m,ns m hn,fun i x v e1 e2 e3=>?_⟩
    obtain⟨u,r,l⟩:=hl i x v e1 e2 e3
    refine⟨u,r,?_⟩
    rcases l with l | ⟨k,c,e,z⟩
    · exact .inl l
    · exact .inr ⟨k,c,e,cellK x c e _ z⟩
  · obtain⟨v,z⟩:=I.cell x c e
    exact⟨v,cellK x c e v z⟩
  · obtain⟨m,⟨o,_,_,ho,_⟩,_⟩:=I.loc
    exact free _ o (fun z=>(hch _ z).2.1 rfl) ho I.free
  · obtain⟨v,o,ho,hd⟩:=I.cell x c e
    exact free c o (fun z=>(hch c z).2.2.1 x c e rfl) ho (I.freeC x c e)
  · obtain⟨e,n,ne,nf,d⟩:=I.pin p hp
    have nch:p.1∉ch:=fun z=>(hch p.1 z).2.2.2 p hp rfl
    exact⟨keep p.1 p.2 ne nf nch e n,free p.1 p.2 nch e n,ne,nf,d⟩
theorem Inv.un {t':Nat} (I:Inv X pins σ H s) (u:Un X.fs [] H H' s.heap h') (hok:HOk X.prog X.w H' h'):Inv X pins σ H' {s with heap:=h',toks:=t'} :=by
  obtain⟨m,⟨o,es,ep,ho,r⟩,_⟩:=id I.loc
  obtain⟨sl,hL⟩:=u.any ho I.free (by simp)
  exact I.step (g':=s.gens) (d':=s.drawn) (ch:=[]) (fun _ z=>nomatch z) (fun b o _ hb _ e n=>u.keep b o e n hb (by simp)) (fun b o _ hb _ e n=>u.slot b o e n hb (by simp)) (fun b o _ e n=>u.free b o e n (by simp)) (fun b o _ e=>u.there b o e (by simp)) u.tups u.frzs u.tbls (fun m' hm=>by
    obtain⟨o',es',ep',ho',r'⟩:=hm
    rw[ho]at ho';cases ho'
    exact⟨_,es',ep',hL,r'⟩) hok I.bare
theorem Inv.call {g':Array GenState} {t':Nat} {d':Drawn} {ch:List Addr} (I:Inv X pins σ H s) (u:Un (frs X.stack) ch H H' s.heap h') (hok:HOk X.prog X.w H' h') (hg:AllBare g')
    (hch:∀b∈ch,(b∈X.ex∨X.s₀.heap.objs.size≤b)∧b≠X.env.locals∧(∀x c,X.env.cells.lookup x=some c→c≠b)∧∀p∈X.pn++pins,p.1≠b):
    Inv X pins σ H' {s with heap:=h',gens:=g',drawn:=d',toks:=t'} :=by
  obtain⟨m,⟨o,es,ep,ho,r⟩,_⟩:=id I.loc
  obtain⟨sl,hL⟩:=u.any ho I.free fun z=>(hch _ z).2.1 rfl
  exact I.step (ch:=ch) hch (fun b o hL hb hc e n=>u.keep b o e n (fun z=>(List.mem_cons.mp (I.stkSub b z)).elim hL hb) hc) (fun b o _ _ hc e n=>u.any e n hc) (fun b o hc e n=>u.free b o e n hc) (fun b o hc e=>u.there b o e hc) u.tups u.frzs u.tbls (fun m' hm=>by
    obtain⟨o',es',ep',ho',r'⟩:=hm
    rw[ho]at ho';cases ho'
    exact⟨_,es',ep',hL,r'⟩) hok hg
theorem Inv.turned {t':Nat} {it:Addr} (I:Inv X pins σ H s) (k:∀b o,b≠it→s.heap.get? b=some o→h'.get? b=some o) (hn:H it=none) (hL:it≠X.env.locals)
    (h1:it∈X.ex∨X.s₀.heap.objs.size≤it) (h2:∀x c,X.env.cells.lookup x=some c→c≠it) (h3:∀p∈X.pn++pins,p.1≠it):Inv X pins σ H {s with heap:=h',toks:=t'} :=by
  have nit:∀b u,H b=some u→b≠it:=fun b u e z=>by rw[z,hn]at e;cases e
  refine I.step (g':=s.gens) (d':=s.drawn) (ch:=[it]) (fun b hb=>?_) (fun b o _ _ hc e _=>k b o (fun z=>hc (by simp[z])) e) (fun b o _ _ hc e _=>⟨o.slots,k b o (fun z=>hc (by simp[z])) e⟩) (fun _ _ _ _ n=>n)
    (fun b o hc e=>⟨o,k b o (fun z=>hc (by simp[z])) e⟩) (fun _ _ e=>e) (fun _ _ _ e=>e) (fun b ps e=>⟨#[],by rw[e];simp⟩) (fun m hm=>?_) (fun b u e=>?_) I.bare
  · have e:b=it:=by simpa using hb
    subst e
    exact⟨h1,hL,h2,h3⟩
  · obtain⟨o,es,ep,ho,r⟩:=hm
    exact⟨o,es,ep,k _ o (Ne.symm hL) ho,r⟩
  · refine(I.hok b u e).stay (fun c v hc q=>k c v ?_ q) (fun _ q=>q) fun _ _ q=>q
    rcases hc with z | z
    · rw[z];exact nit b u e
    · exact nit c _ z
theorem Inv.tok (I:Inv X pins σ H s) (t:Nat):Inv X pins σ H {s with toks:=t} :=I.un (h':=s.heap) (t':=t) Un.refl I.hok
theorem Inv.kept {t':Nat} (I:Inv X pins σ H s) (k:∀b u,s.heap.get? b=some u→h'.get? b=some u):Inv X pins σ H {s with heap:=h',toks:=t'} :=I.un (Un.kept k) (I.hok.kept k)
theorem Inv.laid {a:Addr} {o:HO} {t':Nat} (I:Inv X pins σ H s) (k:∀b u,s.heap.get? b=some u→h'.get? b=some u) (hp:s.heap.objs.size≤a) (new:ObjOk X.prog X.w (upd H a o) h' a o):
    Inv X pins σ (upd H a o) {s with heap:=h',toks:=t'} :=I.un (Un.laid k hp (I.hok.fresh hp)) (I.hok.laid k hp new)
theorem Inv.write {x e:Addr} {o:HO} {t':Nat} (I:Inv X pins σ H s) (mu:Mut (H x)) (he:e=x∨H e=some (.own x)) (k:∀b u,b≠e→s.heap.get? b=some u→h'.get? b=some u) (heo:∃u,h'.get? e=some u)
    (new:ObjOk X.prog X.w (upd H x o) h' x o):Inv X pins σ (upd H x o) {s with heap:=h',toks:=t'} :=I.un (Un.write mu he k heo) (I.hok.write mu he k heo new)
theorem Inv.weak {σ':List (Option V)} (I:Inv X pins σ H s) (hl:σ'.length=σ.length) (w:∀(i:Nat) v,σ'[i]? =some (some v)→σ[i]? =some (some v)):Inv X pins σ' H s:=
  ⟨I.ok,I.os,I.bare,I.base,let ⟨m,hn,hl'⟩:=I.loc;⟨m,hn,fun i x v e1 e2 e3=>hl' i x v e1 (w i v e2) e3⟩,I.cell,I.free,I.freeC,I.pin,I.hok,hl.trans I.len⟩
theorem Inv.pins_of {pins':List (Addr×Obj)} (I:Inv X pins σ H s) (h:∀p∈pins',s.heap.get? p.1=some p.2∧H p.1=none∧p.1≠X.env.locals∧p.1∉X.fs∧∀v,p.2.data≠.cell v):Inv X pins' σ H s:=
  ⟨I.ok,I.os,I.bare,I.base,I.loc,I.cell,I.free,I.freeC,fun p hp=>(List.mem_append.mp hp).elim (fun z=>I.pin p (List.mem_append_left _ z)) (h p),I.hok,I.len⟩
theorem nodup_ix {N:List Str} (hN:N.Nodup) {i j:Nat} {x:Str} (a:N[i]? =some x) (b:N[j]? =some x):i=j:=by
  obtain⟨h1,e1⟩:=List.getElem?_eq_some_iff.mp a
  obtain⟨h2,e2⟩:=List.getElem?_eq_some_iff.mp b
  exact(List.getElem_inj hN).mp (e1.trans e2.symm)
theorem store_ok2 {M:Model} {A:Around} {E:Value→Shared→Prop} {i:Nat} {x:Str} {v:V} {u:Value} {Q:Unit→Shared→Prop} (I:Inv X pins σ H s) (hN:X.N.Nodup) (hi:X.N[i]? =some x) (hx:Loc X.env.scope x) (r:RelV v u)
    (h:∀s',Inv X pins (σ.set i (some v)) H s'→(∃a,Heap.SameBut a s.heap s'.heap∧(a=X.env.locals∨X.env.cells.lookup x=some a))→Q () s') (hf:X.fn x=true∨X.env.scope.names.lookup x=some .local:=by first | exact .inl rfl | exact .inr rfl | assumption):wpAny M A (storeName X.env x u) Q E s:=by
  obtain⟨m,hn,hl⟩:=id I.loc
  have hcls:(X.env.scope.kind == .class || (X.env.scope.kind == .module && X.env.locals != X.env.globals))=false:=by rw[I.ok.kind];rfl
  have hiσ:i< σ.length:=by rw[I.len];exact(List.getElem?_eq_some_iff.mp hi).1
  have cne:=I.cne
  have tracked:∀{a:Addr} {h':Heap},(∃o,s.heap.get? a=some o∧H a=none)→Heap.SameBut a s.heap h'→HOk X.prog X.w H h':=fun {a h'} ha hs b ob e=>by
    obtain⟨_,_,hfree⟩:=ha
    refine(I.hok b ob e).stay (fun c w' hc q=>(hs.2 c ?_).trans q) (fun _ q=>q) fun _ _ q=>q
    rintro rfl
    rcases hc with rfl | hc
    · rw[hfree]at e;cases e
    · rw[hfree]at hc;cases hc
  rcases hx with hk | hk
  · refine wpAny_storeName_local hk hn (fun h' hn' hs=>?_) hcls
    obtain⟨oL,_,_,hoL,_⟩:=id hn
    refine h _ ⟨I.ok,I.os,I.bare,⟨fun b o e n hb hx=>?_,fun b o e n hb hx=>?_,I.base.free,fun b o e hx=>?_,I.base.tups,I.base.frzs,I.base.tbls⟩,⟨_,hn',fun j y v' e1 e2 e3=>?_⟩,fun y c e=>?_,I.free,I.freeC,fun p hp=>?_,tracked ⟨oL,hoL,I.free⟩ hs,by simpa using I.len⟩ ⟨_,hs,.inl rfl⟩
    · exact(hs.2 b (Nat.ne_of_lt (Nat.lt_of_lt_of_le (Heap.lt_size e) I.ok.above))).trans (I.base.keep b o e n hb hx)
    · obtain⟨sl,e1⟩:=I.base.slot b o e n hb hx
      exact⟨sl,(hs.2 b (Nat.ne_of_lt (Nat.lt_of_lt_of_le (Heap.lt_size e) I.ok.above))).trans e1⟩
    · obtain⟨o',e1⟩:=I.base.there b o e hx
      exact⟨o',(hs.2 b (Nat.ne_of_lt (Nat.lt_of_lt_of_le (Heap.lt_size e) I.ok.above))).trans e1⟩
    · by_cases hj:j=i
      · subst hj
        rw[hi]at e1;cases e1
        rw[List.getElem?_set_self hiσ]at e2
        cases e2
        exact⟨u,r,.inl ⟨hk,by simp⟩⟩
      · rw[List.getElem?_set_ne (Ne.symm hj)]at e2
        obtain⟨u',r',q⟩:=hl j y v' e1 e2 e3
        refine⟨u',r',?_⟩
        rcases q with⟨k,e⟩ | ⟨k,c,e,z⟩
        · refine .inl ⟨k,?_⟩
          have:y≠x:=fun e=>hj (nodup_ix hN e1 (e▸hi))
          simp[this,e]
        · exact .inr ⟨k,c,e,z.sameBut hs (cne y c e)⟩
    · obtain⟨w',z⟩:=I.cell y c e
      exact⟨w',z.sameBut hs (cne y c e)⟩
    · obtain⟨e,n,ne,nf,d⟩:=I.pin p hp
      exact⟨(hs.2 p.1 ne).trans e,n,ne,nf,d⟩
  · have hfn:X.fn x=true:=by
      rcases hf with z | z
      · exact z
      · rw[z]at hk;cases hk
    obtain⟨c,hc⟩:=I.ok.has x (.inl hk)
    obtain⟨w',z⟩:=I.cell x c hc
    refine wpAny_storeName_cell I.ok.kind hk hc z (fun h' hc' hs=>?_)
    obtain⟨oc,hoc,hocd⟩:=id z
    refine h {s with heap:=h'} ⟨I.ok,I.os,I.bare,⟨fun b o e n hb hx=>?_,fun b o e n hb hx=>?_,I.base.free,fun b o e hx=>?_,I.base.tups,I.base.frzs,I.base.tbls⟩,⟨m,hn.sameBut hs (Ne.symm (cne x c hc)),fun j y v' e1 e2 e3=>?_⟩,fun y c' e=>?_,I.free,I.freeC,fun p hp=>?_,tracked ⟨oc,hoc,I.freeC x c hc⟩ hs,by simpa using I.len⟩ ⟨c,hs,.inr hc⟩
    · exact(hs.2 b (Nat.ne_of_lt (Nat.lt_of_lt_of_le (Heap.lt_size e) (I.ok.cab x c hfn hc)))).trans (I.base.keep b o e n hb hx)
    · obtain⟨sl,e1⟩:=I.base.slot b o e n hb hx
      exact⟨sl,(hs.2 b (Nat.ne_of_lt (Nat.lt_of_lt_of_le (Heap.lt_size e) (I.ok.cab x c hfn hc)))).trans e1⟩
    · obtain⟨o',e1⟩:=I.base.there b o e hx
      exact⟨o',(hs.2 b (Nat.ne_of_lt (Nat.lt_of_lt_of_le (Heap.lt_size e) (I.ok.cab x c hfn hc)))).trans e1⟩
    · by_cases hj:j=i
      · subst hj
        rw[hi]at e1;cases e1
        rw[List.getElem?_set_self hiσ]at e2
        cases e2
        exact⟨u,r,.inr ⟨.inl hk,c,hc,hc'⟩⟩
      · rw[List.getElem?_set_ne (Ne.symm hj)]at e2
        obtain⟨u',r',q⟩:=hl j y v' e1 e2 e3
        refine⟨u',r',?_⟩
        rcases q with q | ⟨k,c',e,z'⟩
        · exact .inl q
        · refine .inr ⟨k,c',e,z'.sameBut hs ?_⟩
          rintro rfl
          exact hj (nodup_ix hN e1 (I.ok.inj _ _ _ e hc▸hi))
    · by_cases hcc:c'=c
      · subst hcc;exact⟨_,hc'⟩
      · obtain⟨w2,z2⟩:=I.cell y c' e
        exact⟨w2,z2.sameBut hs hcc⟩
    · obtain⟨e,n,ne,nf,d⟩:=I.pin p hp
      refine⟨(hs.2 p.1 ?_).trans e,n,ne,nf,d⟩
      intro q
      rw[q,hoc]at e
      have q':oc=p.2:=Option.some.inj e
      exact d w' (by rw[←q'];exact hocd)
theorem store_ok {M:Model} {A:Around} {E:Value→Shared→Prop} {i:Nat} {x:Str} {v:V} {u:Value} {Q:Unit→Shared→Prop} (I:Inv X pins σ H s) (hN:X.N.Nodup) (hi:X.N[i]? =some x) (hx:Loc X.env.scope x) (r:RelV v u)
    (h:∀s',Inv X pins (σ.set i (some v)) H s'→Q () s') (hf:X.fn x=true∨X.env.scope.names.lookup x=some .local:=by first | exact .inl rfl | exact .inr rfl | assumption):wpAny M A (storeName X.env x u) Q E s:=
  store_ok2 I hN hi hx r (fun s' I' _=>h s' I') hf
theorem Inv.call' {s':Shared} {ch:List Addr} (I:Inv X pins σ H s) (ho:s'.os=s.os) (u:Un (frs X.stack) ch H H' s.heap s'.heap) (hok:HOk X.prog X.w H' s'.heap) (hg:AllBare s'.gens)
    (hch:∀b∈ch,(b∈X.ex∨X.s₀.heap.objs.size≤b)∧b≠X.env.locals∧(∀x c,X.env.cells.lookup x=some c→c≠b)∧∀p∈X.pn++pins,p.1≠b):Inv X pins σ H' s':=by
  obtain⟨h',g',d',t',o'⟩:=s'
  have e:o'=s.os:=ho
  subst e
  exact I.call (g':=g') (t':=t') (d':=d') u hok hg hch
end
abbrev XK:=Value→Option Addr→Hp→Prop
abbrev St:=List (Option V)
abbrev VK:=V→Hp→Prop
abbrev TE:=St→Hp→VK→Prop
abbrev TT:=St→Hp→(Bool→Hp→Prop)→Prop
abbrev TA:=St→Hp→(List V→Hp→Prop)→Prop
structure Ends where
  nx:St→Hp→Prop
  rt:VK
  bk:St→Hp→Prop:=fun _ _=>False
  ct:St→Hp→Prop:=fun _ _=>False
abbrev TS:=Ends→St→Hp→Prop
def EP (X:Cx) (pins:List (Addr×Obj)) (σ:St) (Q:VK) (u:Value) (s':Shared):Prop:=∃v H',Inv X pins σ H' s'∧RelV v u∧Q v H'
def TP (X:Cx) (pins:List (Addr×Obj)) (σ:St) (Q:Bool→Hp→Prop) (b:Bool) (s':Shared):Prop:=∃H',Inv X pins σ H' s'∧Q b H'
def AP (X:Cx) (pins:List (Addr×Obj)) (σ:St) (Q:List V→Hp→Prop) (us:List Value) (s':Shared):Prop:=∃vs H',Inv X pins σ H' s'∧Vals vs us∧Q vs H'
def SP (X:Cx) (pins:List (Addr×Obj)) (D:Ends) (f:Flow) (s':Shared):Prop:=
  match f with
  | .next=>∃σ' H',Inv X pins σ' H' s'∧D.nx σ' H'
  | .brk=>∃σ' H',Inv X pins σ' H' s'∧D.bk σ' H'
  | .cont=>∃σ' H',Inv X pins σ' H' s'∧D.ct σ' H'
  | .ret u=>∃v σ' H',Inv X pins σ' H' s'∧RelV v u∧D.rt v H'
def PE (X:Cx) (e:Expr) (t:TE):Prop:=
  ∀(pins:List (Addr×Obj)) (s:Shared) (σ:St) (H:Hp) (Q:VK),Inv X pins σ H s→t σ H Q→wpAny (model X.prog X.w) X.A (eval e X.env) (EP X pins σ Q) X.xe s
def PT (X:Cx) (e:Expr) (t:TT):Prop:=
  ∀(pins:List (Addr×Obj)) (s:Shared) (σ:St) (H:Hp) (Q:Bool→Hp→Prop),Inv X pins σ H s→t σ H Q→wpAny (model X.prog X.w) X.A (isTrue e X.env (eval e X.env)) (TP X pins σ Q) X.xe s
def PW (X:Cx) (e:Expr) (t:TT):Prop:=
  ∀(whole:Sem Value) (pins:List (Addr×Obj)) (s:Shared) (σ:St) (H:Hp) (Q:Bool→Hp→Prop),Inv X pins σ H s→t σ H Q→wpAny (model X.prog X.w) X.A (isTrue e X.env whole) (TP X pins σ Q) X.xe s
theorem PW.pt {X:Cx} {e:Expr} {t:TT} (h:PW X e t):PT X e t:=h _
def PA (X:Cx) (es:List Expr) (t:TA):Prop:=
  ∀(pos:Pos) (pins:List (Addr×Obj)) (s:Shared) (σ:St) (H:Hp) (Q:List V→Hp→Prop),Inv X pins σ H s→t σ H Q→wpAny (model X.prog X.w) X.A (spliced (backTo pos (starEach es X.env))) (AP X pins σ Q) X.xe s
def PS (X:Cx) (st:Stmt) (t:TS):Prop:=
  ∀(pins:List (Addr×Obj)) (s:Shared) (σ:St) (H:Hp) (D:Ends),Inv X pins σ H s→t D σ H→wpAny (model X.prog X.w) X.A (exec st X.env) (SP X pins D) X.xe s
def PSs (X:Cx) (st:List Stmt) (t:TS):Prop:=
  ∀(pins:List (Addr×Obj)) (s:Shared) (σ:St) (H:Hp) (D:Ends),Inv X pins σ H s→t D σ H→wpAny (model X.prog X.w) X.A (execs st X.env) (SP X pins D) X.xe s
theorem thn {α:Type} {t:Sem α} {Q Q':α→Shared→Prop} {M:Model} {A:Around} {E:Value→Shared→Prop} {s:Shared} (h:wpAny M A t Q E s) (hQ:∀a s,Q a s→Q' a s):wpAny M A t Q' E s:=wpAny_mono h hQ fun _ _ x=>x
end L2
namespace L2
open PySem PySem.Spec PyProof.Rows
section
variable {X:Cx}
def tVar (i:Nat):TE:=fun σ H Q=>∃v,σ[i]? =some (some v)∧Q v H
def tC (v:V):TE:=fun _ H Q=>Q v H
theorem pe_var {i:Nat} {x:Str} {pos:Pos} (hN:X.N[i]? =some x) (hv:Vis X.env.scope x) (hd:(x == ("__debug__" :Str))=false:=by decide) (hcd:(x == ("__classdict__" :Str))=false:=by decide):PE X (.Name x pos) (tVar i):=by
  intro pins s σ H Q I h
  obtain⟨v,e,h⟩:=h
  obtain⟨m,hn,hl⟩:=I.loc
  obtain⟨u,r,l⟩:=hl i x v hN e hv
  have fin:EP X pins σ Q u s:=⟨v,H,I,r,h⟩
  rcases l with⟨hk,hm⟩ | ⟨hk,c,hc,hcell⟩
  · exact wpAny_Name (wpAny_loadName_local I.ok.kind hk hn hm fin) hd
  · rcases hk with hk | hk
    · exact wpAny_Name (wpAny_loadName_cell I.ok.kind hk hc hcell fin) hd
    · exact wpAny_Name (wpAny_loadName_free I.ok.kind hk hc hcell fin hcd) hd
theorem pe_int {i j pos} :PE X (.Constant (.int i) j pos) (tC (.int i)):=fun _ _ _ H _ I h=>wpAny_Constant_int ⟨.int i,H,I.tok _,⟨_,rfl⟩,h⟩
theorem pe_bl {b j pos} :PE X (.Constant (.bool b) j pos) (tC (.bl b)):=fun _ _ _ H _ I h=>Constant_bool ⟨.bl b,H,I,rfl,h⟩
theorem pe_non {j pos} :PE X (.Constant .none j pos) (tC .non):=fun _ _ _ H _ I h=>Constant_none ⟨.non,H,I,rfl,h⟩
theorem pe_str {x j pos} :PE X (.Constant (.str x) j pos) (tC (.str x)):=fun _ _ _ H _ I h=>Calls.Constant_str ⟨.str x,H,I.tok _,⟨_,rfl⟩,h⟩
def Gl (X:Cx) (x:Str):Prop:=X.env.kindOf x=some .globalImplicit
theorem ld_glob {E:Value→Shared→Prop} {pins:List (Addr×Obj)} {s:Shared} {σ:St} {H:Hp} {x:Str} {u:Value} {pos:Pos} {Q:Value→Shared→Prop} (I:Inv X pins σ H s) (hg:Gl X x) (hm:X.mg x=some u) (h:Q u s)
    (hd:(x == ("__debug__" :Str))=false:=by decide):wpAny (model X.prog X.w) X.A (eval (.Name x pos) X.env) Q E s:=
  Calls.Name_function_global I.ok.kind hg (Calls.loadGlobal_global (by rw[I.ok.glob];exact I.mod.glob.keeps I.bk) hm h) hd
theorem ld_blt {E:Value→Shared→Prop} {pins:List (Addr×Obj)} {s:Shared} {σ:St} {H:Hp} {x:Str} {u:Value} {pos:Pos} {Q:Value→Shared→Prop} (I:Inv X pins σ H s) (hg:Gl X x) (hm:X.mg x=none) (hv:bootBuiltins x=some u) (h:Q u s)
    (hn:x≠"__name__" :=by decide) (hd:(x == ("__debug__" :Str))=false:=by decide):wpAny (model X.prog X.w) X.A (eval (.Name x pos) X.env) Q E s:=by
  obtain⟨mb,h1,h2⟩:=I.mod.blt
  exact Calls.Name_function_global I.ok.kind hg (Calls.loadGlobal_builtin (by rw[I.ok.glob];exact I.mod.glob.keeps I.bk) hm (by rw[I.ok.blt];exact h1.keeps I.bk) ((h2 x hn).trans hv) h) hd
theorem pe_glob {x:Str} {v:V} {u:Value} {pos:Pos} (hg:Gl X x) (hm:X.mg x=some u) (r:RelV v u) (hd:(x == ("__debug__" :Str))=false:=by decide):PE X (.Name x pos) (tC v):=
  fun _ _ _ H _ I h=>ld_glob I hg hm ⟨v,H,I,r,h⟩ hd
theorem pe_bltn {x:Str} {v:V} {u:Value} {pos:Pos} (hg:Gl X x) (hm:X.mg x=none) (hv:bootBuiltins x=some u) (r:RelV v u) (hn:x≠"__name__" :=by decide) (hd:(x == ("__debug__" :Str))=false:=by decide):PE X (.Name x pos) (tC v):=
  fun _ _ _ H _ I h=>ld_blt I hg hm hv ⟨v,H,I,r,h⟩ hn hd
variable {a b:Expr} {ta tb:TE} {pos:Pos}
def tB (t:TE):TT:=fun σ H Q=>t σ H fun x H1=>∃c,x=.bl c∧Q c H1
theorem pt_val {e:Expr} {t:TE} (h:PE X e t) (he:∀whole,isTrue e X.env whole=(do let v ←whole;standAt e.pos;holding [v] (truthy v)):=by intro _;rfl):PT X e (tB t):=by
  intro pins s σ H Q I hw
  refine isTrue_plain (thn (h pins s σ H _ I hw) fun v s1 ⟨x,H1,I1,r1,q1⟩=>?_) (he _)
  obtain⟨d,rfl,q⟩:=q1
  cases r1
  exact wpAny_truthy_bool ⟨H1,I1,q⟩
variable {tA tB':TT} {rest:List Expr}
def tAnd (t u:TT):TT:=fun σ H Q=>t σ H fun c H1=>if c=true then u σ H1 Q else Q false H1
def tOr (t u:TT):TT:=fun σ H Q=>t σ H fun c H1=>if c=true then Q true H1 else u σ H1 Q
def tNot (t:TT):TT:=fun σ H Q=>t σ H fun c H1=>Q (!c) H1
theorem pw_and1 (ha:PT X a tA):PW X (.BoolOp .And [a] pos) tA:=by
  intro wh pins s σ H Q I h
  refine isTrue_and (thn (ha pins s σ H Q I h) fun c s1 e=>?_)
  cases c with
  | true=>exact isTrue_and_nil e
  | false=>exact e
theorem pw_or1 (ha:PT X a tA):PW X (.BoolOp .Or [a] pos) tA:=by
  intro wh pins s σ H Q I h
  refine isTrue_or (thn (ha pins s σ H Q I h) fun c s1 e=>?_)
  cases c with
  | false=>exact isTrue_or_nil e
  | true=>exact e
theorem pw_and (ha:PT X a tA) (hb:PW X (.BoolOp .And (b::rest) pos) tB'):PW X (.BoolOp .And (a::b::rest) pos) (tAnd tA tB'):=by
  intro wh pins s σ H Q I h
  refine isTrue_and (thn (ha pins s σ H _ I h) fun c s1 ⟨H1,I1,q1⟩=>?_)
  cases c with
  | true=>exact hb wh pins s1 σ H1 Q I1 q1
  | false=>exact⟨H1,I1,q1⟩
theorem pw_or (ha:PT X a tA) (hb:PW X (.BoolOp .Or (b::rest) pos) tB'):PW X (.BoolOp .Or (a::b::rest) pos) (tOr tA tB'):=by
  intro wh pins s σ H Q I h
  refine isTrue_or (thn (ha pins s σ H _ I h) fun c s1 ⟨H1,I1,q1⟩=>?_)
  cases c with
  | true=>exact⟨H1,I1,q1⟩
  | false=>exact hb wh pins s1 σ H1 Q I1 q1
theorem pt_not (ha:PT X a tA):PT X (.UnaryOp .Not a pos) (tNot tA):=by
  intro pins s σ H Q I h
  exact isTrue_not (ha pins s σ H (fun c H1=>Q (!c) H1) I h)
def tAndV (ta tb:TE):TE:=fun σ H Q=>ta σ H fun x H1=>∃c,x=.bl c∧if c=true then tb σ H1 Q else Q (.bl false) H1
def tOrV (ta tb:TE):TE:=fun σ H Q=>ta σ H fun x H1=>∃c,x=.bl c∧if c=true then Q (.bl true) H1 else tb σ H1 Q
def tNotV (ta:TE):TE:=fun σ H Q=>ta σ H fun x H1=>∃c,x=.bl c∧Q (.bl (!c)) H1
theorem pe_one {op} {t:TE} (h:PE X a t):PE X (.BoolOp op [a] pos) t:=fun pins s σ H Q I hw=>BoolOp_one (h pins s σ H Q I hw)
theorem pe_and (ha:PE X a ta) (hb:PE X (.BoolOp .And (b::rest) pos) tb):PE X (.BoolOp .And (a::b::rest) pos) (tAndV ta tb):=by
  intro pins s σ H Q I h
  refine BoolOp_and (thn (ha pins s σ H _ I h) fun v s1 ⟨x,H1,I1,r1,q1⟩=>?_)
  obtain⟨c,rfl,q1⟩:=q1
  cases r1
  refine wpAny_truthy_bool ?_
  cases c with
  | true=>exact hb pins s1 σ H1 Q I1 q1
  | false=>exact⟨.bl false,H1,I1,rfl,q1⟩
theorem pe_or (ha:PE X a ta) (hb:PE X (.BoolOp .Or (b::rest) pos) tb):PE X (.BoolOp .Or (a::b::rest) pos) (tOrV ta tb):=by
  intro pins s σ H Q I h
  refine BoolOp_or (thn (ha pins s σ H _ I h) fun v s1 ⟨x,H1,I1,r1,q1⟩=>?_)
  obtain⟨c,rfl,q1⟩:=q1
  cases r1
  refine wpAny_truthy_bool ?_
  cases c with
  | false=>exact hb pins s1 σ H1 Q I1 q1
  | true=>exact⟨.bl true,H1,I1,rfl,q1⟩
theorem pe_not (ha:PE X a ta):PE X (.UnaryOp .Not a pos) (tNotV ta):=by
  intro pins s σ H Q I h
  refine UnaryOp_ (thn (ha pins s σ H _ I h) fun v s1 ⟨x,H1,I1,r1,q1⟩=>?_)
  obtain⟨c,rfl,q1⟩:=q1
  cases r1
  exact not_of (wpAny_truthy_bool ⟨.bl (!c),H1,I1,rfl,q1⟩)
end
end L2
namespace L2
open PySem PySem.Spec PyProof.Rows
def SqL (K:PySem.W.Frag) (H:Hp) (a:Addr) (xs:List V):Prop:=
  Rd H a (.lst xs)∨
    ∃(o:Obj) (its:Array Value) (n:Nat),K.lookup a=some o∧o.cls=.type "list" ∧o.dict=none∧o.data=.seq its n∧its.size≤sizeLine∧Vals xs its.toList
def SqT (K:PySem.W.Frag) (H:Hp) (a:Addr) (xs:List V):Prop:=
  Rd H a (.tup xs)∨
    ∃(o:Obj) (its:Array Value) (n:Nat),K.lookup a=some o∧o.cls=.type "tuple" ∧o.data=.seq its n∧its.size≤sizeLine∧Vals xs its.toList
def absV:Value→Option V
  | .none=>some .non
  | .bool b=>some (.bl b)
  | .int i _=>some (.int i)
  | .str x _=>some (.str x)
  | .bytes b _=>some (.byt b)
  | .float b _=>some (.flt b)
  | .ref a=>some (.ref a)
  | .type n=>some (.ty n)
  | _=>none
theorem RelV.abs {x:V} {u:Value} (r:RelV x u):absV u=some x:=by
  cases x with
  | non=>cases r;rfl
  | bl _=>cases r;rfl
  | int _=>obtain⟨t,rfl⟩:=r;rfl
  | str _=>obtain⟨t,rfl⟩:=r;rfl
  | byt _=>obtain⟨t,rfl⟩:=r;rfl
  | flt _=>obtain⟨t,rfl⟩:=r;rfl
  | ref _=>cases r;rfl
  | ty _=>cases r;rfl
theorem RelV.inj {x y:V} {u:Value} (r:RelV x u) (q:RelV y u):x=y:=Option.some.inj (r.abs.symm.trans q.abs)
theorem Vals.inj:∀{xs ys:List V} {us:List Value},Vals xs us→Vals ys us→xs=ys
  | _,_,_,.nil,.nil=>rfl
  | _,_,_,.cons r t,.cons r' t'=>by rw[r.inj r',Vals.inj t t']
section
variable {X:Cx} {pins:List (Addr×Obj)} {σ:St} {H:Hp} {s:Shared} {a:Addr} {xs ys:List V}
theorem SqL.of {K:PySem.W.Frag} (h:H a=some (.lst xs)):SqL K H a xs:=.inl (.inl h)
theorem SqT.of {K:PySem.W.Frag} (h:H a=some (.tup xs)):SqT K H a xs:=.inl (.inl h)
theorem Inv.list (I:Inv X pins σ H s) (h:SqL X.K H a xs):∃its:List Value,Vals xs its∧PlainL s.heap a its.toArray∧xs.length≤sizeLine:=by
  rcases h with h | ⟨o,its,n,hk,hc,hd,hs,hz,r⟩
  · obtain⟨z,its,n,r,e⟩:=h.ok I.hok
    exact⟨its,r,⟨_,n,e,rfl,rfl,rfl⟩,z⟩
  · refine⟨its.toList,r,⟨o,n,I.kIn a o hk,hc,hd,by simpa using hs⟩,?_⟩
    have e:=r.length
    simp only[Array.length_toList]at e
    omega
theorem Inv.tuple (I:Inv X pins σ H s) (h:SqT X.K H a xs):∃its:List Value,Vals xs its∧IsTup s.heap a its.toArray∧xs.length≤sizeLine:=by
  rcases h with h | ⟨o,its,n,hk,hc,hs,hz,r⟩
  · obtain⟨z,its,r,p⟩:=h.ok I.hok
    exact⟨its,r,p,z⟩
  · refine⟨its.toList,r,⟨o,I.kIn a o hk,hc,n,by simpa using hs⟩,?_⟩
    have e:=r.length
    simp only[Array.length_toList]at e
    omega
theorem Inv.list_inj (I:Inv X pins σ H s) (h:SqL X.K H a xs) (h':SqL X.K H a ys):xs=ys:=by
  obtain⟨its,r,⟨o,n,e,_,_,d⟩,_⟩:=I.list h
  obtain⟨its',r',⟨o',n',e',_,_,d'⟩,_⟩:=I.list h'
  rw[e]at e';cases e'
  rw[d]at d'
  injection d' with d1 _
  have:its=its':=by simpa using congrArg Array.toList d1
  subst this
  exact r.inj r'
theorem Inv.tuple_inj (I:Inv X pins σ H s) (h:SqT X.K H a xs) (h':SqT X.K H a ys):xs=ys:=by
  obtain⟨its,r,⟨o,e,_,n,d⟩,_⟩:=I.tuple h
  obtain⟨its',r',⟨o',e',_,n',d'⟩,_⟩:=I.tuple h'
  rw[e]at e';cases e'
  rw[d]at d'
  injection d' with d1 _
  have:its=its':=by simpa using congrArg Array.toList d1
  subst this
  exact r.inj r'
end
abbrev Cx.wish (X:Cx) (E:Value→Shared→Prop):Cx:={X with xe:=E}
abbrev Cx.nox (X:Cx):Cx:=X.wish fun _ _=>False
theorem Cx.Ok.wish {X:Cx} (ok:X.Ok) (E:Value→Shared→Prop):(X.wish E).Ok:=
  ⟨ok.mod,ok.kind,ok.glob,ok.blt,ok.above,ok.inj,ok.has,ok.cab,ok.hd,ok.frames,ok.stk,ok.exf,ok.bs,ok.bsz,ok.noex,ok.exfs,ok.funs,ok.frf⟩
theorem Cx.Ok.unwish {X:Cx} {E:Value→Shared→Prop} (ok:(X.wish E).Ok):X.Ok:=
  ⟨ok.mod,ok.kind,ok.glob,ok.blt,ok.above,ok.inj,ok.has,ok.cab,ok.hd,ok.frames,ok.stk,ok.exf,ok.bs,ok.bsz,ok.noex,ok.exfs,ok.funs,ok.frf⟩
section
variable {X:Cx} {pins:List (Addr×Obj)} {σ:St} {H:Hp} {s:Shared} {E:Value→Shared→Prop}
theorem Inv.wish (I:Inv X pins σ H s) (E:Value→Shared→Prop):Inv (X.wish E) pins σ H s:=⟨I.ok.wish E,I.os,I.bare,I.base,I.loc,I.cell,I.free,I.freeC,I.pin,I.hok,I.len⟩
theorem Inv.unwish (I:Inv (X.wish E) pins σ H s):Inv X pins σ H s:=⟨I.ok.unwish,I.os,I.bare,I.base,I.loc,I.cell,I.free,I.freeC,I.pin,I.hok,I.len⟩
theorem SP.unwish {D:Ends} {f:Flow} {s':Shared} (h:SP (X.wish E) pins D f s'):SP X pins D f s':=by
  cases f with
  | next=>obtain⟨σ',H',I,q⟩:=h;exact⟨σ',H',I.unwish,q⟩
  | brk=>obtain⟨σ',H',I,q⟩:=h;exact⟨σ',H',I.unwish,q⟩
  | cont=>obtain⟨σ',H',I,q⟩:=h;exact⟨σ',H',I.unwish,q⟩
  | ret u=>obtain⟨v,σ',H',I,r,q⟩:=h;exact⟨v,σ',H',I.unwish,r,q⟩
theorem PSs.nox {st:List Stmt} {t:TS} (h:PSs X.nox st t):PSs X st t:=fun pins s σ H D I hw=>
  wpAny_mono (h pins s σ H D (I.wish _) hw) (fun _ _ q=>q.unwish) fun _ _ z=>False.elim z
end
section
variable {X:Cx} {st:Stmt} {rest:List Stmt} {t u:TS} {e:Expr} {te:TE} {pos:Pos}
def tNext:TS:=fun D σ H=>D.nx σ H
def tSeq (t u:TS):TS:=fun D σ H=>t {D with nx:=u D} σ H
theorem pss_nil:PSs X [] tNext:=fun _ _ σ H _ I h=>wpAny_execs_nil ⟨σ,H,I,h⟩
theorem pss_cons (h1:PS X st t) (h2:PSs X rest u):PSs X (st::rest) (tSeq t u):=by
  intro pins s σ H D I h
  refine wpAny_execs_cons (thn (h1 pins s σ H {D with nx:=u D} I h) fun f s1 q=>?_)
  cases f with
  | next =>
    obtain⟨σ',H',I',q⟩:=q
    exact h2 pins s1 σ' H' D I' q
  | ret v=>exact q
  | brk=>exact q
  | cont=>exact q
theorem pss_one (h1:PS X st t):PSs X [st] t:=by
  intro pins s σ H D I h
  refine wpAny_execs_cons (thn (h1 pins s σ H D I h) fun f s1 q=>?_)
  cases f with
  | next=>exact wpAny_execs_nil q
  | ret v=>exact q
  | brk=>exact q
  | cont=>exact q
theorem Inv.quiet {pins:List (Addr×Obj)} {σ:St} {H:Hp} {s:Shared} (I:Inv X pins σ H s):interactive X.env=false:=by simp[interactive,I.ok.kind]
def tDrop (te:TE):TS:=fun D σ H=>te σ H fun _ H1=>D.nx σ H1
theorem ps_expr (he:PE X e te) (hs:swapsWith e none pos.line X.env=pure false:=by rfl):PS X (.Expr e pos) (tDrop te):=by
  intro pins s σ H D I h
  exact wpAny_Expr_any (thn (he pins s σ H _ I h) fun v s1 ⟨x,H1,I1,r1,q1⟩=>⟨σ,H1,I1,q1⟩) I.quiet hs
def tRet (te:TE):TS:=fun D σ H=>te σ H D.rt
theorem ps_ret (he:PE X e te):PS X (.Return (some e) pos) (tRet te):=by
  intro pins s σ H D I h
  exact wpAny_Return_some (thn (he pins s σ H _ I h) fun v s1 ⟨x,H1,I1,r1,q1⟩=>⟨x,σ,H1,I1,r1,q1⟩)
def tIfS (c:TT) (t u:TS):TS:=fun D σ H=>c σ H fun b H1=>if b=true then t D σ H1 else u D σ H1
theorem ps_if {c:Expr} {a b:List Stmt} {tc:TT} (hc:PT X c tc) (ha:PSs X a t) (hb:PSs X b u):PS X (.If c a b pos) (tIfS tc t u):=by
  intro pins s σ H D I h
  refine wpAny_If (thn (hc pins s σ H _ I h) fun d s1 ⟨H1,I1,q1⟩=>?_)
  cases d with
  | true=>exact ha pins s1 σ H1 D I1 q1
  | false=>exact hb pins s1 σ H1 D I1 q1
end
abbrev TG:=V→St→Hp→(St→Hp→Prop)→Prop
abbrev TGs:=List V→St→Hp→(St→Hp→Prop)→Prop
def PG (X:Cx) (target:Expr) (t:TG):Prop:=
  ∀ (pins : List (Addr × Obj)) (s : Shared) (σ : St) (H : Hp) (v : V) (u : Value) (Q : St → Hp → Prop), Inv X pins σ H s → RelV v u → t v σ H Q →
    wpAny (model X.prog X.w) X.A (assign target X.env u) (fun _ s'=>∃σ' H',Inv X pins σ' H' s'∧Q σ' H') X.xe s
def PGs (X:Cx) (ts:List Expr) (t:TGs):Prop:=
  ∀ (pins : List (Addr × Obj)) (s : Shared) (σ : St) (H : Hp) (vs : List V) (us : List Value) (Q : St → Hp → Prop), Inv X pins σ H s → Vals vs us → t vs σ H Q →
    wpAny (model X.prog X.w) X.A (assignInOrder ((assignEach ts X.env).map (·.2)) us) (fun _ s'=>∃σ' H',Inv X pins σ' H' s'∧Q σ' H') X.xe s
abbrev TIp:=V→V→Hp→VK→Prop
def PIp (X:Cx) (op:Operator) (t:TIp):Prop:=
  ∀ (pins : List (Addr × Obj)) (s : Shared) (σ : St) (H : Hp) (x y : V) (v u : Value) (Q : VK), Inv X pins σ H s → RelV x v → RelV y u → t x y H Q →
    wpAny (model X.prog X.w) X.A (inplaceOp op v u) (EP X pins σ Q) X.xe s
section
variable {X:Cx} {pos:Pos}
def gName (i:Nat):TG:=fun v σ H Q=>Q (σ.set i (some v)) H
theorem pg_name {i:Nat} {x:Str} (hN:X.N.Nodup) (hi:X.N[i]? =some x) (hx:Loc X.env.scope x) (hf:X.fn x=true∨X.env.scope.names.lookup x=some .local:=by first | exact .inl rfl | exact .inr rfl | assumption):PG X (.Name x pos) (gName i):=by
  intro pins s σ H v u Q I r h
  exact wpAny_assign_Name (store_ok I hN hi hx r (fun s' I'=>⟨_,H,I',h⟩) hf)
def gNil:TGs:=fun vs σ H Q=>vs=[]∧Q σ H
def gCons (t:TG) (u:TGs):TGs:=fun vs σ H Q=>∃v r,vs=v::r∧t v σ H fun σ' H'=>u r σ' H' Q
theorem pgs_nil:PGs X [] gNil:=by
  intro pins s σ H vs us Q I r h
  obtain⟨e,h⟩:=h
  subst e
  cases r
  exact assignInOrder_nil ⟨σ,H,I,h⟩
theorem pgs_cons {e:Expr} {es:List Expr} {t:TG} {u:TGs} (h1:PG X e t) (h2:PGs X es u)
    (hs:(assignEach (e::es) X.env).map (·.2)=assign e X.env::(assignEach es X.env).map (·.2):=by rfl):PGs X (e::es) (gCons t u):=by
  intro pins s σ H vs us Q I r h
  obtain⟨v,vr,e1,h⟩:=h
  subst e1
  cases r with
  | cons r rr =>
    rw[hs]
    refine assignInOrder_cons (thn (h1 pins s σ H _ _ _ I r h) fun _ s1 ⟨σ1,H1,I1,q1⟩=>?_)
    exact h2 pins s1 σ1 H1 _ _ Q I1 rr q1
def gTup (K:PySem.W.Frag) (n:Nat) (t:TGs):TG:=fun v σ H Q=>∃a xs,v=.ref a∧SqT K H a xs∧xs.length=n∧t xs σ H Q
theorem pg_tup {es:List Expr} {k:Nat} {t:TGs} {n:Nat} (hc:X.calm=true) (h:PGs X es t)
    (hn:(assignEach es X.env).length=n:=by rfl) (hst:(assignEach es X.env).findIdx? (·.1)=none:=by rfl):PG X (.Tuple es k pos) (gTup X.K n t):=by
  intro pins s σ H v u Q I r hw
  obtain⟨a,xs,e1,hq,hl,hw⟩:=hw
  subst e1
  cases r
  obtain⟨its,rv,ht,hz⟩:=I.tuple hq
  refine assign_Tuple_tuple (I.ok.hd hc) ht (by simp[hn,←hl,rv.length]) hst fun h' hx=>?_
  have I1:Inv X pins σ H {s with heap:=h'} :=I.kept (t':=s.toks) fun b o e=>hx b o (Nat.ne_of_lt (Heap.lt_size e)) e
  exact h pins _ σ H xs _ Q I1 (by simpa using rv) hw
def tAsg (te:TE) (g:TG):TS:=fun D σ H=>te σ H fun x H1=>g x σ H1 D.nx
theorem ps_asg {tg e:Expr} {te:TE} {g:TG} (he:PE X e te) (hg:PG X tg g) (hs:swapsWithSole [tg] e pos.line X.env=pure false:=by rfl) (hw:swappedStores [tg] e X.env=pure none:=by rfl)
    (h1:(assignEach [tg] X.env).map (·.2)=[assign tg X.env]:=by rfl):PS X (.Assign [tg] e pos) (tAsg te g):=by
  intro pins s σ H D I h
  refine wpAny_Assign_stores (thn (he pins s σ H _ I h) fun v s1 ⟨x,H1,I1,r1,q1⟩=>?_) hs hw
  rw[h1]
  exact thn (hg pins s1 σ H1 x v _ I1 r1 q1) fun _ s2 q=>q
theorem ps_set {i:Nat} {x:Str} {e:Expr} {te:TE} {pos':Pos} (hN:X.N.Nodup) (hi:X.N[i]? =some x) (hx:Loc X.env.scope x) (he:PE X e te) (hs:swapsWith e (some (.Name x pos')) pos.line X.env=pure false:=by rfl) (hf:X.fn x=true∨X.env.scope.names.lookup x=some .local:=by first | exact .inl rfl | exact .inr rfl | assumption):
    PS X (.Assign [.Name x pos'] e pos) (tAsg te (gName i)):=by
  intro pins s σ H D I h
  refine wpAny_Assign_Name (thn (he pins s σ H _ I h) fun v s1 ⟨y,H1,I1,r1,q1⟩=>?_) hs
  exact store_ok I1 hN hi hx r1 (fun s2 I2=>⟨_,H1,I2,q1⟩) hf
def tAug (i:Nat) (te:TE) (ti:TIp):TS:=fun D σ H=>∃x,σ[i]? =some (some x)∧te σ H fun y H1=>ti x y H1 fun z H2=>D.nx (σ.set i (some z)) H2
theorem ps_aug {i:Nat} {x:Str} {e:Expr} {te:TE} {op:Operator} {ti:TIp} {pos':Pos} (hN:X.N.Nodup) (hi:X.N[i]? =some x) (hx:Loc X.env.scope x) (he:PE X e te) (ho:PIp X op ti) (hf:X.fn x=true∨X.env.scope.names.lookup x=some .local:=by first | exact .inl rfl | exact .inr rfl | assumption):
    PS X (.AugAssign (.Name x pos') op e pos) (tAug i te ti):=by
  intro pins s σ H D I h
  obtain⟨v,e1,h⟩:=h
  obtain⟨m,hn,hl⟩:=I.loc
  have vis:Vis X.env.scope x:=by rcases hx with k | k;exact .inl k;exact .inr (.inl k)
  obtain⟨u,r,l⟩:=hl i x v hi e1 vis
  refine wpAny_AugAssign_Name ?_
  have go:wpAny (model X.prog X.w) X.A (eval e X.env) (fun w s₂=>wpAny (model X.prog X.w) X.A (inplaceOp op u w) (fun r s₃=>wpAny (model X.prog X.w) X.A (storeName X.env x r) (fun _=>SP X pins D .next) X.xe s₃) X.xe s₂) X.xe s:=by
    refine thn (he pins s σ H _ I h) fun w s1 ⟨y,H1,I1,r1,q1⟩=>?_
    refine thn (ho pins s1 σ H1 v y u w _ I1 r r1 q1) fun z s2 ⟨zv,H2,I2,r2,q2⟩=>?_
    exact store_ok I2 hN hi hx r2 (fun s3 I3=>⟨_,H2,I3,q2⟩) hf
  rcases l with⟨hk,hm⟩ | ⟨hk,c,hc,hcell⟩
  · exact wpAny_loadName_local I.ok.kind hk hn hm go
  · rcases hk with hk | hk
    · exact wpAny_loadName_cell I.ok.kind hk hc hcell go
    · rcases hx with k | k
      · have:X.env.scope.names.lookup x=some .free:=hk
        rw[k]at this;cases this
      · have:X.env.scope.names.lookup x=some .free:=hk
        rw[k]at this;cases this
def ipI (f:Int→Int→Int):TIp:=fun x y H Q=>∃i j,x=.int i∧y=.int j∧Q (.int (f i j)) H
theorem ip_add:PIp X .Add (ipI fun i j=>i+j):=by
  intro pins s σ H x y v u Q I r1 r2 h
  obtain⟨i,j,e1,e2,q⟩:=h
  subst e1;subst e2
  obtain⟨t,rfl⟩:=r1
  obtain⟨t',rfl⟩:=r2
  exact iadd_int ⟨.int _,H,I.tok _,⟨_,rfl⟩,q⟩
end
section
variable {X:Cx} {pos:Pos}
def tWhile (c:TT) (tb:TS):TS:=fun D σ H=>∃W:Nat→St→Hp→Prop,(∃m,W m σ H)∧∀m σ H,W m σ H→
  c σ H fun b H1=>if b=true then ∃N:St→Hp→Prop,(∀σ' H',N σ' H'→∃m',m'< m∧W m' σ' H')∧tb {D with nx:=N,ct:=N,bk:=D.nx} σ H1 else D.nx σ H1
theorem ps_while {c:Expr} {body:List Stmt} {tc:TT} {tb:TS} (hp:PassesOwn (model X.prog X.w) X.A X.env X.xe) (hc:PT X c tc) (hb:PSs X body tb):PS X (.While c body [] pos) (tWhile tc tb):=by
  intro pins s σ H D I h
  obtain⟨W,⟨m0,w0⟩,turn⟩:=h
  refine wpAny_While (codeAny_whileLoop (fun n s'=>∃σ' H',Inv X pins σ' H' s'∧W n σ' H') ?_ m0 ⟨σ,H,I,w0⟩)
  rintro n s1 ⟨σ1,H1,I1,w1⟩
  refine wpAny_passesOwn hp (thn (hc pins s1 σ1 H1 _ I1 (turn n σ1 H1 w1)) fun b s2 ⟨H2,I2,q2⟩=>?_)
  cases b with
  | true =>
    obtain⟨N,hN,q2⟩:=q2
    rw[if_pos rfl]
    refine wpAny_passesOwn hp (thn (hb pins s2 σ1 H2 _ I2 q2) fun f s3 q3=>?_)
    cases f with
    | next =>
      obtain⟨σ3,H3,I3,n3⟩:=q3
      obtain⟨m',hm,w3⟩:=hN σ3 H3 n3
      exact⟨m',hm,σ3,H3,I3,w3⟩
    | cont =>
      obtain⟨σ3,H3,I3,n3⟩:=q3
      obtain⟨m',hm,w3⟩:=hN σ3 H3 n3
      exact⟨m',hm,σ3,H3,I3,w3⟩
    | brk=>exact q3
    | ret v=>exact q3
  | false =>
    rw[if_neg Bool.false_ne_true]
    exact wpAny_execs_nil ⟨σ1,H2,I2,q2⟩
end
structure It where
  go:Nat→Hp→Prop
  yld:Nat→Hp→V→Hp→Prop
  stop:Nat→Hp→Prop
def FpOk (X:Cx) (pins:List (Addr×Obj)) (H:Hp) (b:Addr):Prop:=
  H b=none∧b≠X.env.locals∧b∉X.fs∧(b∈X.ex∨X.s₀.heap.objs.size≤b)∧(∀x c,X.env.cells.lookup x=some c→c≠b)∧∀p∈X.pn++pins,p.1≠b
theorem Inv.fpOk {X:Cx} {pins:List (Addr×Obj)} {σ:St} {H H':Hp} {s:Shared} {b:Addr} (I:Inv X pins σ H s) (hb:s.heap.objs.size≤b) (hn:H' b=none):FpOk X pins H' b:=by
  refine⟨hn,Nat.ne_of_gt (Nat.lt_of_lt_of_le I.lt hb),I.nofs hb,.inr (Nat.le_trans I.sz hb),fun x c e z=>?_,fun p hp z=>?_⟩
  · obtain⟨v,q⟩:=I.cell x c e
    exact absurd (Nat.lt_of_lt_of_le q.lt (by rw[z];exact hb)) (Nat.lt_irrefl _)
  · exact absurd (Nat.lt_of_lt_of_le (Heap.lt_size (I.pin p hp).1) (by rw[z];exact hb)) (Nat.lt_irrefl _)
structure Turn (P:Program) (w:World) (K:PySem.W.Frag) (tg:Expr) (J:It) (fp:List Addr) (it:Addr) (tn:Nat→Heap→Prop):Prop where
  mem:it∈fp
  obj:∀i h,tn i h→∀b∈fp,∃o,h.get? b=some o∧∀v,o.data≠.cell v
  keep:∀i h h',tn i h→(∀b∈fp,∀o,h.get? b=some o→h'.get? b=some o)→tn i h'
  item:∀(X:Cx),X.prog=P→X.w=w→X.K=K→X.calm=true→∀(i:Nat) (pins:List (Addr×Obj)) (s:Shared) (σ:St) (H:Hp) (E:Value→Shared→Prop),Inv X pins σ H s→(∀b∈fp,FpOk X pins H b)→tn i s.heap→J.go i H→
    wpAny (model P w) X.A (pyNext (.ref it)) (fun r s1=>∃u,r=some u∧
      wpAny (model P w) X.A (letOwnedTupleGo tg (.ref it) u) (fun _ s2=>∃x H',Inv X pins σ H' s2∧RelV x u∧J.yld i H x H'∧tn (i+1) s2.heap∧∀b∈fp,H' b=none) E s1) E s
  done:∀(X:Cx),X.prog=P→X.w=w→X.K=K→X.calm=true→∀(i:Nat) (pins:List (Addr×Obj)) (s:Shared) (σ:St) (H:Hp) (E:Value→Shared→Prop),Inv X pins σ H s→(∀b∈fp,FpOk X pins H b)→tn i s.heap→J.stop i H→
    wpAny (model P w) X.A (pyNext (.ref it)) (fun r s1=>r=none∧Inv X pins σ H s1) E s
  self:∀(A:Around) (i:Nat) (s:Shared) (Q:Value→Shared→Prop) (E:Value→Shared→Prop),tn i s.heap→Q (.ref it) s→wpAny (model P w) A (pyIter (.ref it)) Q E s
abbrev TI:=St→Hp→(It→Hp→Prop)→Prop
def PIE (X:Cx) (pins:List (Addr×Obj)) (σ:St) (tg:Expr) (R:It→Hp→Prop) (itv:Value) (s2:Shared):Prop:=
  ∃(it:Addr) (fp:List Addr) (tn:Nat→Heap→Prop) (J:It) (H':Hp),itv=.ref it∧Inv X pins σ H' s2∧Turn X.prog X.w X.K tg J fp it tn∧tn 0 s2.heap∧(∀b∈fp,FpOk X pins H' b)∧R J H'
def PI (X:Cx) (tg iter:Expr) (wi:TI):Prop:=
  ∀ (pins : List (Addr × Obj)) (s : Shared) (σ : St) (H : Hp) (R : It → Hp → Prop), Inv X pins σ H s → wi σ H R →
    wpAny (model X.prog X.w) X.A (eval iter X.env) (fun v s1=>wpAny (model X.prog X.w) X.A (pyIter v) (PIE X pins σ tg R) X.xe s1) X.xe s
theorem go_of {M:Model} {A:Around} {E:Value→Shared→Prop} {s:Shared} {tg:Expr} {it:Addr} {u:Value} {o:Obj} {n:String} {vs:Array Value} {Q:Unit→Shared→Prop} (ho:s.heap.get? it=some o) (hc:o.cls=.type n) (hd:o.data=.fields vs)
    (hn: ["enumerate","zip","dict_itemiterator","dict_reverseitemiterator","odict_iterator","itertools.zip_longest","itertools.pairwise"].contains n=false) (hQ:Q () s):wpAny M A (letOwnedTupleGo tg (.ref it) u) Q E s:=by
  unfold letOwnedTupleGo
  cases tg <;> first
    | exact wpAny_pure hQ
    | (cases u <;> first
        | exact wpAny_pure hQ
        | (refine wpAny_bind (wpAny_load ho ?_)
           rw[hc,hd]
           show wpAny M A (if(["enumerate","zip","dict_itemiterator","dict_reverseitemiterator","odict_iterator","itertools.zip_longest","itertools.pairwise"].contains n && vs[0]? == some (rawInt _))=true then _ else _) Q E s
           rw[if_neg (by intro h;rw[hn,Bool.false_and]at h;cases h)]
           exact wpAny_pure hQ))
def Itl (K:PySem.W.Frag) (a:Addr):It:=
  ⟨fun i H=>∃xs x,SqL K H a xs∧xs[i]? =some x,fun i H x H'=>H'=H∧∀xs,SqL K H a xs→xs[i]? =some x,fun i H=>∃xs,SqL K H a xs∧xs.length≤i⟩
def Itr (lo:Int) (n:Nat):It:=⟨fun i _=>i< n,fun i H x H'=>H'=H∧x=.int (lo+i),fun i _=>n≤i⟩
theorem turn_list {P:Program} {w:World} {K:PySem.W.Frag} {tg:Expr} (a it:Addr):Turn P w K tg (Itl K a) [it] it (fun i h=>h.IsListIter it a i) where
  mem:=by simp
  obj:=fun i h st b hb=>by
    have e:b=it:=by simpa using hb
    subst e
    obtain⟨o,e,c,d⟩:=st
    exact⟨o,e,fun v z=>by rw[d]at z;cases z⟩
  keep:=fun i h h' st k=>st.at fun o e=>k it (by simp) o e
  item:=by
    intro X hP hw hK hc i pins s σ H E I hf st hg
    subst hP hw hK
    obtain⟨xs,x,hq,hx⟩:=hg
    obtain⟨its,rv,p,hz⟩:=I.list hq
    obtain⟨u,hu,ru⟩:=rv.get hx
    obtain⟨f0,f1,f2,f3,f4,f5⟩:=hf it (by simp)
    refine wpAny_pyNext_list_item st p.isList (x:=u) (by simpa using hu) fun h' st' sb=>?_
    have I1:Inv X pins σ H {s with heap:=h'} :=I.turned (t':=s.toks) (fun b o hb e=>(sb.2 b hb).trans e) f0 f1 f3 f4 f5
    obtain⟨o,e,c,d⟩:=id st'
    exact⟨u,rfl,go_of (s:={s with heap:=h'}) e c d (by decide) ⟨x,H,I1,ru,⟨rfl,fun ys hy=>by rw[I.list_inj hy hq];exact hx⟩,st',fun b hb=>(hf b hb).1⟩⟩
  done:=by
    intro X hP hw hK hc i pins s σ H E I hf st hg
    subst hP hw hK
    obtain⟨xs,hq,hx⟩:=hg
    obtain⟨its,rv,p,hz⟩:=I.list hq
    obtain⟨f0,f1,f2,f3,f4,f5⟩:=hf it (by simp)
    have hl:=rv.length
    exact wpAny_pyNext_list_end (I.ok.hd hc) st p.isList (by simp;omega) fun h' eb=>⟨rfl,I.turned (t':=s.toks) (fun b o hb e=>eb b o hb e) f0 f1 f3 f4 f5⟩
  self:=fun _ _ _ _ _ st h=>wpAny_pyIter_listiter st h
theorem turn_range {P:Program} {w:World} {K:PySem.W.Frag} {tg:Expr} (it:Addr) (lo:Int) (n:Nat):Turn P w K tg (Itr lo n) [it] it (fun i h=>IsRangeIter h it (lo+(i:Nat)*1) ((n:Int)- (i:Nat)) 1) where
  mem:=by simp
  obj:=fun i h st b hb=>by
    have e:b=it:=by simpa using hb
    subst e
    exact⟨_,st,fun v z=>by
      have z':Data.fields _=Data.cell v:=z
      cases z'⟩
  keep:=fun i h h' st k=>k it (by simp) _ st
  item:=by
    intro X hP hw hK hc i pins s σ H E I hf st hg
    subst hP hw hK
    obtain⟨f0,f1,f2,f3,f4,f5⟩:=hf it (by simp)
    have W:=Walks.range (prog:=X.prog) (w:=X.w) (I.ok.hd hc) it lo 1 n
    refine W.item i s _ _ hg st fun v h' tk hv st' kk=>?_
    obtain⟨t,rfl⟩:=hv
    have I1:Inv X pins σ H {s with heap:=h',toks:=tk} :=I.turned (fun b o hb e=>kk b o (by simpa using hb) e) f0 f1 f3 f4 f5
    refine⟨_,rfl,go_of (s:={s with heap:=h',toks:=tk}) (n:="range_iterator") st' rfl rfl (by decide) ⟨.int (lo+i),H,I1,⟨t,?_⟩,⟨rfl,rfl⟩,st',fun b hb=>(hf b hb).1⟩⟩
    rw[Int.mul_one]
  done:=by
    intro X hP hw hK hc i pins s σ H E I hf st hg
    subst hP hw hK
    obtain⟨f0,f1,f2,f3,f4,f5⟩:=hf it (by simp)
    exact wpAny_pyNext_range_end (I.ok.hd hc) st (by have:n≤i:=hg;omega) fun h' eb=>⟨rfl,I.turned (t':=s.toks) (fun b o hb e=>eb b o hb e) f0 f1 f3 f4 f5⟩
  self:=fun _ _ _ _ _ st h=>wpAny_pyIter_rangeiter st h
end L2
namespace L2
open PySem PySem.Spec PyProof.Rows
section
variable {X:Cx} {tg:Expr}
def iList (K:PySem.W.Frag) (tl:TE):TI:=fun σ H R=>tl σ H fun x H1=>∃a,x=.ref a∧(∃xs,SqL K H1 a xs)∧R (Itl K a) H1
theorem pi_list {l:Expr} {tl:TE} (hl:PE X l tl):PI X tg l (iList X.K tl):=by
  intro pins s σ H R I h
  refine thn (hl pins s σ H _ I h) fun v s1 ⟨x,H1,I1,r1,q1⟩=>?_
  obtain⟨a,e,⟨xs,hq⟩,q⟩:=q1
  subst e
  cases r1
  obtain⟨its,rv,p,hz⟩:=I1.list hq
  refine wpAny_pyIter_list p.isList ?_
  refine⟨s1.heap.objs.size,[s1.heap.objs.size],_,_,H1,rfl,I1.kept (t':=s1.toks) fun b o e=>Heap.get?_push_of_some _ e,turn_list a _,⟨_,Heap.get?_push_size _ rfl,rfl,rfl⟩,fun b hb=>?_,q⟩
  have e:b=s1.heap.objs.size:=by simpa using hb
  subst e
  exact I1.fpOk (Nat.le_refl _) (I1.hok.fresh (Nat.le_refl _))
theorem range_it {pins:List (Addr×Obj)} {σ:St} {H:Hp} {s:Shared} {R:It→Hp→Prop} {E:Value→Shared→Prop} {lo hi:Int} {t u v:Tok} {tk:Nat} (I:Inv X pins σ H s) (h1: -(2^62)≤lo) (h2:lo< 2^62) (h3: -(2^62)≤hi) (h4:hi< 2^62)
    (q:R (Itr lo (hi- lo).toNat) H):wpAny (model X.prog X.w) X.A (pyIter (.ref s.heap.objs.size)) (PIE X pins σ tg R) E {s with heap:=s.heap.push {cls:=.type "range",data:=.fields #[.int lo t,.int hi u,.int 1 v]},toks:=tk} :=by
  refine wpAny_pyIter_range (IsRange.new ..) (small_one h1 h2 h3 h4) ?_
  have I1:Inv X pins σ H {s with heap:=s.heap.push {cls:=.type "range",data:=.fields #[.int lo t,.int hi u,.int 1 v]},toks:=tk} :=I.kept fun b o e=>Heap.get?_push_of_some _ e
  refine⟨(s.heap.push {cls:=.type "range",data:=.fields #[.int lo t,.int hi u,.int 1 v]}).objs.size,[(s.heap.push {cls:=.type "range",data:=.fields #[.int lo t,.int hi u,.int 1 v]}).objs.size],_,_,H,rfl,
    I1.kept (t':=tk) fun b o e=>Heap.get?_push_of_some _ e,turn_range _ lo (hi- lo).toNat,?_,fun b hb=>?_,q⟩
  · have e1:lo+((0:Nat):Int)*1=lo:=by simp
    have e2:(((hi- lo).toNat:Nat):Int)- ((0:Nat):Int)=Builtin.Range.rangeSize lo hi 1:=by rw[rangeSize_one];split <;> omega
    show IsRangeIter _ _ (lo+((0:Nat):Int)*1) ((((hi- lo).toNat:Nat):Int)- ((0:Nat):Int)) 1
    rw[e1,e2]
    exact Heap.get?_push_size _ rfl
  · have e:b=(s.heap.push {cls:=.type "range",data:=.fields #[.int lo t,.int hi u,.int 1 v]}).objs.size:=by simpa using hb
    subst e
    exact I1.fpOk (Nat.le_refl _) (I1.hok.fresh (Nat.le_refl _))
def iRng1 (ta:TA):TI:=fun σ H R=>ta σ H fun vs H1=>∃j:Int,vs=[.int j]∧ -(2^62)≤j∧j< 2^62∧R (Itr 0 j.toNat) H1
def iRng2 (ta:TA):TI:=fun σ H R=>ta σ H fun vs H1=>∃i j:Int,vs=[.int i,.int j]∧(-(2^62)≤i∧i< 2^62∧ -(2^62)≤j∧j< 2^62)∧R (Itr i (j- i).toNat) H1
theorem pi_range1 {a:Expr} {ta:TA} {p pos:Pos} (hg:Gl X "range") (hm:X.mg "range" =none) (ha:PA X [a] ta) (hs:starEach [a] X.env=[(false,eval a X.env)]:=by rfl):PI X tg (.Call (.Name "range" p) [a] [] pos) (iRng1 ta):=by
  intro pins s σ H R I h
  refine Call_ (ld_blt I hg hm boot_range (PyProof.Rows.callWith_type1 (thn (ha pos pins s σ H _ I h) fun us s1 ⟨vs,H1,I1,r1,q1⟩=>?_) hs rfl))
  obtain⟨j,e,q1,q2,q⟩:=q1
  subst e
  cases r1 with
  | cons r rr =>
    cases rr
    obtain⟨t,rfl⟩:=r
    exact call_range_1 (range_it I1 (by omega) (by omega) q1 q2 (by simpa using q))
theorem pi_range2 {a b:Expr} {ta:TA} {p pos:Pos} (hg:Gl X "range") (hm:X.mg "range" =none) (ha:PA X [a,b] ta) (hs:starEach [a,b] X.env=[(false,eval a X.env),(false,eval b X.env)]:=by rfl) (hs2:starEach [b] X.env=[(false,eval b X.env)]:=by rfl):
    PI X tg (.Call (.Name "range" p) [a,b] [] pos) (iRng2 ta):=by
  intro pins s σ H R I h
  refine Call_ (ld_blt I hg hm boot_range (PyProof.Rows.callWith_type1 (thn (ha pos pins s σ H _ I h) fun us s1 ⟨vs,H1,I1,r1,q1⟩=>?_) (by rw[hs,hs2]) (by rw[hs2];rfl)))
  obtain⟨i,j,e,⟨q1,q2,q3,q4⟩,q⟩:=q1
  subst e
  cases r1 with
  | cons r rr =>
    cases rr with
    | cons r' rr =>
      cases rr
      obtain⟨t,rfl⟩:=r
      obtain⟨t',rfl⟩:=r'
      exact call_range_2 (range_it I1 q1 q2 q3 q4 q)
def tFor (wi:TI) (g:TG) (tb:TS):TS:=fun D σ H=>wi σ H fun J H1=>∃W:Nat→Nat→St→Hp→Prop,(∃m,W 0 m σ H1)∧∀i m σ H,W i m σ H→
  (J.stop i H∧D.nx σ H)∨(J.go i H∧∃N:St→Hp→Prop,(∀σ' H',N σ' H'→∃m',m'< m∧W (i+1) m' σ' H')∧∀x H',J.yld i H x H'→g x σ H' fun σ2 H2=>tb {D with nx:=N,ct:=N,bk:=D.nx} σ2 H2)
def pinsAt (fp:List Addr) (h:Heap):List (Addr×Obj):=fp.filterMap fun b=>(h.get? b).map fun o=>(b,o)
theorem mem_pinsAt {fp:List Addr} {h:Heap} {b:Addr} {o:Obj} (hb:b∈fp) (e:h.get? b=some o):(b,o)∈pinsAt fp h:=List.mem_filterMap.mpr ⟨b,hb,by rw[e];rfl⟩
theorem of_pinsAt {fp:List Addr} {h:Heap} {p:Addr×Obj} (hp:p∈pinsAt fp h):p.1∈fp∧h.get? p.1=some p.2:=by
  obtain⟨b,hb,e⟩:=List.mem_filterMap.mp hp
  cases q:h.get? b with
  | none=>rw[q]at e;cases e
  | some o =>
    rw[q]at e
    have e':(b,o)=p:=Option.some.inj e
    subst e'
    exact⟨hb,q⟩
theorem Inv.pinned {pins:List (Addr×Obj)} {σ:St} {H:Hp} {s:Shared} {fp:List Addr} (I:Inv X pins σ H s) (hf:∀b∈fp,FpOk X pins H b) (ho:∀b∈fp,∃o,s.heap.get? b=some o∧∀v,o.data≠.cell v):Inv X (pins++pinsAt fp s.heap) σ H s:=
  I.pins_of fun p hp=>(List.mem_append.mp hp).elim (fun z=>I.pin p (List.mem_append_right _ z)) fun z=>by
    obtain⟨hb,e⟩:=of_pinsAt z
    obtain⟨f0,f1,f2,_⟩:=hf p.1 hb
    obtain⟨o,e',d⟩:=ho p.1 hb
    rw[e]at e';cases e'
    exact⟨e,f0,f1,f2,d⟩
theorem Inv.unpinned {pins pl:List (Addr×Obj)} {σ:St} {H:Hp} {s:Shared} (I:Inv X (pins++pl) σ H s):Inv X pins σ H s:=I.pins_of fun p hp=>I.pin p (List.mem_append_right _ (List.mem_append_left _ hp))
theorem ps_for {iter:Expr} {body:List Stmt} {wi:TI} {g:TG} {tb:TS} {pos:Pos} (hp:PassesOwn (model X.prog X.w) X.A X.env X.xe) (hc:X.calm=true) (hi:PI X tg iter wi) (hg:PG X tg g) (hb:PSs X body tb)
    (hs:∀x,foldedSetIterable iter X.env x=pure x:=by intro _;rfl):PS X (.For tg iter body [] pos) (tFor wi g tb):=by
  intro pins s σ H D I h
  refine wpAny_For (thn (hi pins s σ H _ I h) fun v s1 h1=>thn h1 fun itv s2 h2=>?_) hs
  obtain⟨it,fp,tn,J,H2,e,I2,T,st2,f2,W,⟨m0,w0⟩,turn⟩:=h2
  subst e
  have stat:∀{H':Hp},(∀b∈fp,H' b=none)→∀b∈fp,FpOk X pins H' b:=fun hn b hb=>⟨hn b hb,(f2 b hb).2⟩
  refine codeAny_forLoop_any (fun n s'=>∃i σ' H',Inv X pins σ' H' s'∧tn i s'.heap∧(∀b∈fp,H' b=none)∧W i n σ' H') ?_ m0 ⟨0,σ,H2,I2,st2,fun b hb=>(f2 b hb).1,w0⟩
  rintro n s3 ⟨i,σ3,H3,I3,st3,fr3,w3⟩
  rcases turn i n σ3 H3 w3 with⟨stop,qn⟩ | ⟨go,N,hN,step⟩
  · refine wpAny_passesOwn hp (thn (T.done X rfl rfl rfl hc i pins s3 σ3 H3 X.xe I3 (stat fr3) st3 stop) fun r s4 ⟨hr,I4⟩=>?_)
    subst hr
    exact wpAny_execs_nil ⟨σ3,H3,I4,qn⟩
  · refine wpAny_passesOwn hp (thn (T.item X rfl rfl rfl hc i pins s3 σ3 H3 X.xe I3 (stat fr3) st3 go) fun r s4 ⟨u,hr,h4⟩=>?_)
    subst hr
    refine wpAny_passesOwn hp (thn h4 fun _ s5 ⟨x,H5,I5,r5,y5,st5,fr5⟩=>?_)
    have I5':=I5.pinned (stat fr5) (T.obj _ _ st5)
    refine wpAny_passesOwn hp (thn (hg _ s5 σ3 H5 x u _ I5' r5 (step x H5 y5)) fun _ s6 ⟨σ6,H6,I6,q6⟩=>?_)
    refine wpAny_passesOwn hp (thn (hb _ s6 σ6 H6 _ I6 q6) fun f s7 q7=>?_)
    have again:∀{σ7:St} {H7:Hp},Inv X (pins++pinsAt fp s5.heap) σ7 H7 s7→N σ7 H7→∃m,m< n∧∃i σ' H',Inv X pins σ' H' s7∧tn i s7.heap∧(∀b∈fp,H' b=none)∧W i m σ' H':=fun {σ7 H7} I7 n7=>by
      obtain⟨m',hm,w7⟩:=hN σ7 H7 n7
      refine⟨m',hm,i+1,σ7,H7,I7.unpinned,T.keep _ _ _ st5 fun b hb o e=>(I7.pin (b,o) (List.mem_append_right _ (List.mem_append_right _ (mem_pinsAt hb e)))).1,fun b hb=>?_,w7⟩
      obtain⟨o,e,d⟩:=T.obj _ _ st5 b hb
      exact(I7.pin (b,o) (List.mem_append_right _ (List.mem_append_right _ (mem_pinsAt hb e)))).2.1
    cases f with
    | next=>obtain⟨σ7,H7,I7,n7⟩:=q7;exact again I7 n7
    | cont=>obtain⟨σ7,H7,I7,n7⟩:=q7;exact again I7 n7
    | brk=>obtain⟨σ7,H7,I7,q7⟩:=q7;exact⟨σ7,H7,I7.unpinned,q7⟩
    | ret v=>obtain⟨x7,σ7,H7,I7,r7,q7⟩:=q7;exact⟨x7,σ7,H7,I7.unpinned,r7,q7⟩
end
end L2
namespace L2
open PySem PySem.Spec PyProof.Rows
abbrev R2:=V→V→Hp→VK→Prop
def OpR (X:Cx) (f:Value→Value→Sem Value) (r:R2):Prop:=
  ∀ (pins : List (Addr × Obj)) (s : Shared) (σ : St) (H : Hp) (x y : V) (v u : Value) (Q : VK), Inv X pins σ H s → RelV x v → RelV y u → r x y H Q →
    wpAny (model X.prog X.w) X.A (f v u) (EP X pins σ Q) X.xe s
def UnR (X:Cx) (f:Value→Sem Value) (r:V→Hp→VK→Prop):Prop:=
  ∀ (pins : List (Addr × Obj)) (s : Shared) (σ : St) (H : Hp) (x : V) (v : Value) (Q : VK), Inv X pins σ H s → RelV x v → r x H Q →
    wpAny (model X.prog X.w) X.A (f v) (EP X pins σ Q) X.xe s
def CallR (X:Cx) (f:Value) (r:List V→Hp→VK→Prop):Prop:=
  ∀ (pins : List (Addr × Obj)) (s : Shared) (σ : St) (H : Hp) (xs : List V) (us : List Value) (Q : VK), Inv X pins σ H s → Vals xs us → r xs H Q →
    wpAny (model X.prog X.w) X.A (call f us) (EP X pins σ Q) X.xe s
def tOp (r:R2) (ta tb:TE):TE:=fun σ H Q=>ta σ H fun x H1=>tb σ H1 fun y H2=>r x y H2 Q
def tUn (r:V→Hp→VK→Prop) (ta:TE):TE:=fun σ H Q=>ta σ H fun x H1=>r x H1 Q
def rI (C:Int→Int→Prop) (g:Int→Int→V):R2:=fun x y H Q=>∃i j,x=.int i∧y=.int j∧C i j∧Q (g i j) H
def rI0 (g:Int→Int→V):R2:=fun x y H Q=>∃i j,x=.int i∧y=.int j∧Q (g i j) H
def rU (g:Int→V):V→Hp→VK→Prop:=fun x H Q=>∃i,x=.int i∧Q (g i) H
section
variable {X:Cx} {a b c:Expr} {ta tb tc:TE} {pos:Pos}
theorem binT (ha:PE X a ta) (hb:PE X b tb) {pins:List (Addr×Obj)} {s:Shared} {σ:St} {H:Hp} {R:V→V→Hp→Prop} (I:Inv X pins σ H s)
    (h:ta σ H fun x H1=>tb σ H1 fun y H2=>R x y H2) {Q:Value→Shared→Prop} {f:Value→Value→Sem Value}
    (hf:∀v u s2 x y H2,Inv X pins σ H2 s2→RelV x v→RelV y u→R x y H2→wpAny (model X.prog X.w) X.A (f v u) Q X.xe s2):
    wpAny (model X.prog X.w) X.A (eval a X.env) (fun v s₁=>wpAny (model X.prog X.w) X.A (eval b X.env) (fun u s₂=>wpAny (model X.prog X.w) X.A (f v u) Q X.xe s₂) X.xe s₁) X.xe s:=by
  refine thn (ha pins s σ H _ I h) fun v s1 ⟨x,H1,I1,r1,q1⟩=>?_
  refine thn (hb pins s1 σ H1 _ I1 q1) fun u s2 ⟨y,H2,I2,r2,q2⟩=>?_
  exact hf v u s2 x y H2 I2 r1 r2 q2
theorem pe_op {op:Operator} {r:R2} (ho:OpR X (binaryOp op) r) (ha:PE X a ta) (hb:PE X b tb):PE X (.BinOp a op b pos) (tOp r ta tb):=by
  intro pins s σ H Q I h
  exact wpAny_BinOp (binT ha hb I h fun v u s2 x y H2 I2 rx ry q=>ho pins s2 σ H2 x y v u Q I2 rx ry q)
theorem pe_un {op:UnaryOp} {r:V→Hp→VK→Prop} (ho:UnR X (unaryOp op) r) (ha:PE X a ta):PE X (.UnaryOp op a pos) (tUn r ta):=by
  intro pins s σ H Q I h
  exact UnaryOp_ (thn (ha pins s σ H _ I h) fun v s1 ⟨x,H1,I1,r1,q1⟩=>ho pins s1 σ H1 x v Q I1 r1 q1)
theorem opI {f:Value→Value→Sem Value} {C:Int→Int→Prop} {g:Int→Int→Int}
    (rule:∀(i j:Int) (t u:Tok) (s:Shared) (Q:Value→Shared→Prop) (E:Value→Shared→Prop),C i j→Q (.int (g i j) s.toks) {s with toks:=s.toks+1}→wpAny (model X.prog X.w) X.A (f (.int i t) (.int j u)) Q E s):
    OpR X f (rI C fun i j=>.int (g i j)):=by
  intro pins s σ H x y v u Q I rx ry h
  obtain⟨i,j,rfl,rfl,hc,q⟩:=h
  obtain⟨t,rfl⟩:=rx
  obtain⟨t',rfl⟩:=ry
  exact rule i j t t' s _ _ hc ⟨.int (g i j),H,I.tok _,⟨_,rfl⟩,q⟩
theorem opI0 {f:Value→Value→Sem Value} {g:Int→Int→Int}
    (rule:∀(i j:Int) (t u:Tok) (s:Shared) (Q:Value→Shared→Prop) (E:Value→Shared→Prop),Q (.int (g i j) s.toks) {s with toks:=s.toks+1}→wpAny (model X.prog X.w) X.A (f (.int i t) (.int j u)) Q E s):
    OpR X f (rI0 fun i j=>.int (g i j)):=by
  intro pins s σ H x y v u Q I rx ry h
  obtain⟨i,j,rfl,rfl,q⟩:=h
  obtain⟨t,rfl⟩:=rx
  obtain⟨t',rfl⟩:=ry
  exact rule i j t t' s _ _ ⟨.int (g i j),H,I.tok _,⟨_,rfl⟩,q⟩
theorem opB0 {f:Value→Value→Sem Value} {g:Int→Int→Bool}
    (rule:∀(i j:Int) (t u:Tok) (s:Shared) (Q:Value→Shared→Prop) (E:Value→Shared→Prop),Q (.bool (g i j)) s→wpAny (model X.prog X.w) X.A (f (.int i t) (.int j u)) Q E s):
    OpR X f (rI0 fun i j=>.bl (g i j)):=by
  intro pins s σ H x y v u Q I rx ry h
  obtain⟨i,j,rfl,rfl,q⟩:=h
  obtain⟨t,rfl⟩:=rx
  obtain⟨t',rfl⟩:=ry
  exact rule i j t t' s _ _ ⟨.bl (g i j),H,I,rfl,q⟩
def CDiv (i j:Int):Prop:=0< j∧j< 1073741824
def CPow (i j:Int):Prop:=0≤j∧j≤1000000∧i.natAbs< 2^64
def CMul (i j:Int):Prop:=(-(2^64)< i∧i< 2^64)∨(-(2^64)< j∧j< 2^64)
theorem CMul.ok {i j:Int} (h:CMul i j):IntMulOk i j:=by
  rcases h with⟨h1,h2⟩ | ⟨h1,h2⟩
  · exact .of_left (intBits_le_64 h1 h2)
  · exact .of_right (intBits_le_64 h1 h2)
theorem op_add:OpR X (binaryOp .Add) (rI0 fun i j=>.int (i+j)):=opI0 fun _ _ _ _ _ _ _ q=>add_int q
theorem op_sub:OpR X (binaryOp .Sub) (rI0 fun i j=>.int (i- j)):=opI0 fun _ _ _ _ _ _ _ q=>sub_int q
theorem op_mul:OpR X (binaryOp .Mult) (rI CMul fun i j=>.int (i*j)):=opI fun _ _ _ _ _ _ _ hc q=>mul_int q hc.ok
theorem op_fdiv:OpR X (binaryOp .FloorDiv) (rI CDiv fun i j=>.int (i/ j)):=opI fun i j _ _ _ _ _ hc q=>by
  have h1:(0:Int)< j:=hc.1
  have h2:j< 1073741824:=hc.2
  exact floordiv_int (by omega) (by rw[Int.fdiv_eq_ediv_of_nonneg i (by omega)];exact q) (.inl (PyProof.noPylong_small (by omega)))
theorem op_mod:OpR X (binaryOp .Mod) (rI (fun _ j=>0< j) fun i j=>.int (i% j)):=opI fun i j _ _ _ _ _ hc q=>by
  have h1:(0:Int)< j:=hc
  exact mod_int' (by omega) (by rw[Int.fmod_eq_emod_of_nonneg i (by omega)];exact q)
theorem op_pow:OpR X (binaryOp .Pow) (rI CPow fun i j=>.int (i^j.toNat)):=opI fun _ _ _ _ _ _ _ hc q=>pow_int_small hc.1 hc.2.1 hc.2.2 q
theorem unI {f:Value→Sem Value} {g:Int→Int}
    (rule:∀(i:Int) (t:Tok) (s:Shared) (Q:Value→Shared→Prop) (E:Value→Shared→Prop),Q (.int (g i) s.toks) {s with toks:=s.toks+1}→wpAny (model X.prog X.w) X.A (f (.int i t)) Q E s):
    UnR X f (rU fun i=>.int (g i)):=by
  intro pins s σ H x v Q I rx h
  obtain⟨i,rfl,q⟩:=h
  obtain⟨t,rfl⟩:=rx
  exact rule i t s _ _ ⟨.int (g i),H,I.tok _,⟨_,rfl⟩,q⟩
theorem un_neg:UnR X (unaryOp .USub) (rU fun i=>.int (-i)):=unI fun _ _ _ _ _ q=>neg_int q
end
def scal:V→V→Bool
  | .non,.non=>true | .non,.int _=>true | .int _,.non=>true | .non,.bl _=>true | .bl _,.non=>true | .non,.str _=>true | .str _,.non=>true
  | .int _,.int _=>true | .bl _,.bl _=>true | .str _,.str _=>true | .byt _,.byt _=>true
  | .int _,.str _=>true | .str _,.int _=>true | .bl _,.str _=>true | .str _,.bl _=>true
  | _,_=>false
def rEq:R2:=fun x y H Q=>scal x y=true∧Q (.bl (decide (x=y))) H
def rNe:R2:=fun x y H Q=>scal x y=true∧Q (.bl (!decide (x=y))) H
theorem dec_int {i j:Int} :decide (V.int i=V.int j)=(i == j):=by
  rw[Bool.eq_iff_iff]
  simp
theorem dec_bl {i j:Bool} :decide (V.bl i=V.bl j)=(i == j):=by
  rw[Bool.eq_iff_iff]
  simp
theorem dec_str {i j:Str} :decide (V.str i=V.str j)=(i == j):=by
  rw[Bool.eq_iff_iff]
  simp
theorem dec_byt {i j:Array UInt8} :decide (V.byt i=V.byt j)=(i.toList == j.toList):=by
  rw[Bool.eq_iff_iff]
  cases i
  cases j
  simp
section
variable {X:Cx} {a b c:Expr} {ta tb tc:TE} {pos:Pos}
theorem fin_bl {pins:List (Addr×Obj)} {σ:St} {H:Hp} {s:Shared} {Q:VK} {k k':Bool} (I:Inv X pins σ H s) (q:Q (.bl k) H) (e:k=k'):EP X pins σ Q (.bool k') s:=by
  subst e
  exact⟨.bl k,H,I,rfl,q⟩
theorem op_eq:OpR X (compareOp .Eq) rEq:=by
  intro pins s σ H x y v u Q I rx ry h
  obtain⟨hs,q⟩:=h
  cases x with
  | non =>
    cases rx
    cases y with
    | non=>cases ry;exact PySem.EqNone.eq_none_none (fin_bl I q (by simp))
    | bl j=>cases ry;exact PySem.EqNone.eq_none_bool (fin_bl I q (by simp))
    | int j=>obtain⟨t',rfl⟩:=ry;exact PySem.EqNone.eq_none_int (fin_bl I q (by simp))
    | str j=>obtain⟨t',rfl⟩:=ry;exact PySem.EqNone.eq_none_str (fin_bl I q (by simp))
    | _=>exact absurd (show false=true from hs) Bool.false_ne_true
  | bl i =>
    cases rx
    cases y with
    | non=>cases ry;exact PySem.EqNone.eq_bool_none (fin_bl I q (by simp))
    | bl j=>cases ry;exact eq_bool (fin_bl I q dec_bl)
    | str j=>obtain⟨t',rfl⟩:=ry;exact PySem.EqMixed.eq_bool_str (fin_bl I q (by simp))
    | _=>exact absurd (show false=true from hs) Bool.false_ne_true
  | int i =>
    obtain⟨t,rfl⟩:=rx
    cases y with
    | non=>cases ry;exact PySem.EqNone.eq_int_none (fin_bl I q (by simp))
    | int j=>obtain⟨t',rfl⟩:=ry;exact eq_int (fin_bl I q dec_int)
    | str j=>obtain⟨t',rfl⟩:=ry;exact PySem.EqMixed.eq_int_str (fin_bl I q (by simp))
    | _=>exact absurd (show false=true from hs) Bool.false_ne_true
  | str i =>
    obtain⟨t,rfl⟩:=rx
    cases y with
    | non=>cases ry;exact PySem.EqNone.eq_str_none (fin_bl I q (by simp))
    | bl j=>cases ry;exact PySem.EqMixed.eq_str_bool (fin_bl I q (by simp))
    | int j=>obtain⟨t',rfl⟩:=ry;exact PySem.EqMixed.eq_str_int (fin_bl I q (by simp))
    | str j=>obtain⟨t',rfl⟩:=ry;exact eq_str (fin_bl I q dec_str)
    | _=>exact absurd (show false=true from hs) Bool.false_ne_true
  | byt i =>
    obtain⟨t,rfl⟩:=rx
    cases y with
    | byt j=>obtain⟨t',rfl⟩:=ry;exact PySem.W.eq_bytes (fin_bl I q dec_byt)
    | _=>exact absurd (show false=true from hs) Bool.false_ne_true
  | _=>cases y <;> exact absurd (show false=true from hs) Bool.false_ne_true
theorem op_ne:OpR X (compareOp .NotEq) rNe:=by
  intro pins s σ H x y v u Q I rx ry h
  obtain⟨hs,q⟩:=h
  cases x with
  | non =>
    cases rx
    cases y with
    | non=>cases ry;exact PySem.EqNone.ne_none_none (fin_bl I q (by simp))
    | bl j=>cases ry;exact PySem.EqNone.ne_none_bool (fin_bl I q (by simp))
    | int j=>obtain⟨t',rfl⟩:=ry;exact PySem.EqNone.ne_none_int (fin_bl I q (by simp))
    | str j=>obtain⟨t',rfl⟩:=ry;exact PySem.EqNone.ne_none_str (fin_bl I q (by simp))
    | _=>exact absurd (show false=true from hs) Bool.false_ne_true
  | bl i =>
    cases rx
    cases y with
    | non=>cases ry;exact PySem.EqNone.ne_bool_none (fin_bl I q (by simp))
    | bl j=>cases ry;exact ne_bool (fin_bl I q (congrArg not dec_bl))
    | str j=>obtain⟨t',rfl⟩:=ry;exact PySem.EqMixed.ne_bool_str (fin_bl I q (by simp))
    | _=>exact absurd (show false=true from hs) Bool.false_ne_true
  | int i =>
    obtain⟨t,rfl⟩:=rx
    cases y with
    | non=>cases ry;exact PySem.EqNone.ne_int_none (fin_bl I q (by simp))
    | int j=>obtain⟨t',rfl⟩:=ry;exact ne_int (fin_bl I q (congrArg not dec_int))
    | str j=>obtain⟨t',rfl⟩:=ry;exact PySem.EqMixed.ne_int_str (fin_bl I q (by simp))
    | _=>exact absurd (show false=true from hs) Bool.false_ne_true
  | str i =>
    obtain⟨t,rfl⟩:=rx
    cases y with
    | non=>cases ry;exact PySem.EqNone.ne_str_none (fin_bl I q (by simp))
    | bl j=>cases ry;exact PySem.EqMixed.ne_str_bool (fin_bl I q (by simp))
    | int j=>obtain⟨t',rfl⟩:=ry;exact PySem.EqMixed.ne_str_int (fin_bl I q (by simp))
    | str j=>obtain⟨t',rfl⟩:=ry;exact ne_str (fin_bl I q (congrArg not dec_str))
    | _=>exact absurd (show false=true from hs) Bool.false_ne_true
  | byt i =>
    obtain⟨t,rfl⟩:=rx
    cases y with
    | byt j=>obtain⟨t',rfl⟩:=ry;exact PySem.W.ne_bytes (fin_bl I q (congrArg not dec_byt))
    | _=>exact absurd (show false=true from hs) Bool.false_ne_true
  | _=>cases y <;> exact absurd (show false=true from hs) Bool.false_ne_true
theorem op_lt:OpR X (compareOp .Lt) (rI0 fun i j=>.bl (decide (i< j))):=opB0 fun _ _ _ _ _ _ _ q=>lt_int q
theorem op_gt:OpR X (compareOp .Gt) (rI0 fun i j=>.bl (decide (j< i))):=opB0 fun _ _ _ _ _ _ _ q=>gt_int q
theorem op_ge:OpR X (compareOp .GtE) (rI0 fun i j=>.bl (decide (j≤i))):=opB0 fun _ _ _ _ _ _ _ q=>ge_int q
theorem op_in_str:OpR X (compareOp .In) (fun x y H Q=>∃i j,x=.str i∧y=.str j∧Q (.bl (!(Builtin.Str.occurrences j i 0 j.length 1).isEmpty)) H):=by
  intro pins s σ H x y v u Q I rx ry h
  obtain⟨i,j,rfl,rfl,q⟩:=h
  obtain⟨t,rfl⟩:=rx
  obtain⟨t',rfl⟩:=ry
  exact in_str (fin_bl I q rfl)
theorem op_isN:OpR X (compareOp .Is) (fun x y H Q=>y=.non∧Q (.bl (decide (x=.non))) H):=by
  intro pins s σ H x y v u Q I rx ry h
  obtain⟨rfl,q⟩:=h
  cases ry
  refine is_none_gen (fin_bl I q ?_)
  cases x <;> first
    | (cases rx;rfl)
    | (obtain⟨t,rfl⟩:=rx;rfl)
theorem OpR.or {f:Value→Value→Sem Value} {r r':R2} (h:OpR X f r) (h':OpR X f r'):OpR X f (fun x y H Q=>r x y H Q∨r' x y H Q):=by
  intro pins s σ H x y v u Q I rx ry q
  rcases q with q | q
  · exact h pins s σ H x y v u Q I rx ry q
  · exact h' pins s σ H x y v u Q I rx ry q
theorem nomark (b:Expr) {op:CmpOp} (h:op≠.In:=by decide) (h2:op≠.NotIn:=by decide):behindInMarks op b=false:=by
  have e1:(op == CmpOp.In)=false:=by cases op <;> first | rfl | exact absurd rfl h
  have e2:(op == CmpOp.NotIn)=false:=by cases op <;> first | rfl | exact absurd rfl h2
  cases b <;> simp[behindInMarks,e1,e2]
theorem pe_cmpR {op:CmpOp} {r:R2} (ho:OpR X (compareOp op) r) (ha:PE X a ta) (hb:PE X b tb) (hm:behindInMarks op b=false):PE X (.Compare a [op] [b] pos) (tOp r ta tb):=by
  intro pins s σ H Q I h
  exact wpAny_Compare1 (binT ha hb I h fun v u s2 x y H2 I2 rx ry q=>ho pins s2 σ H2 x y v u Q I2 rx ry q) hm
def tTest (t:TE):TT:=fun σ H Q=>t σ H fun x H'=>∃k,x=.bl k∧Q k H'
theorem pt_cmpR {op:CmpOp} {r:R2} (ho:OpR X (compareOp op) r) (ha:PE X a ta) (hb:PE X b tb) (hm:behindInMarks op b=false):PT X (.Compare a [op] [b] pos) (tTest (tOp r ta tb)):=by
  intro pins s σ H Q I h
  refine wpAny_isTrue_Compare1 (thn (ha pins s σ H _ I h) fun v s1 ⟨x,H1,I1,r1,q1⟩=>thn (hb pins s1 σ H1 _ I1 q1) fun u s2 ⟨y,H2,I2,r2,q2⟩=>
    thn (ho pins s2 σ H2 x y v u _ I2 r1 r2 q2) fun c s3 ⟨z,H3,I3,r3,k,e,q3⟩=>?_) hm
  subst e
  cases r3
  exact wpAny_truthy_bool ⟨H3,I3,q3⟩
theorem line63:(sizeLine:Nat)< 2^63:=by rw[sizeLine_eq];decide
theorem op_add_str:OpR X (binaryOp .Add) (fun x y H Q=>∃i j,x=.str i∧y=.str j∧i.length+j.length≤sizeLine∧Q (.str (i++j)) H):=by
  intro pins s σ H x y v u Q I rx ry h
  obtain⟨i,j,rfl,rfl,hz,q⟩:=h
  obtain⟨t,rfl⟩:=rx
  obtain⟨t',rfl⟩:=ry
  exact add_str (fun t' tk=>⟨.str (i++j),H,I.tok _,⟨_,rfl⟩,q⟩) hz
theorem vals1 {x:V} {us:List Value} (r:Vals [x] us):∃u,us=[u]∧RelV x u:=by
  cases r with
  | cons r1 r2=>cases r2;exact⟨_,rfl,r1⟩
theorem vals2 {x y:V} {us:List Value} (r:Vals [x,y] us):∃u w',us=[u,w']∧RelV x u∧RelV y w':=by
  cases r with
  | cons r1 r2 =>
    cases r2 with
    | cons r3 r4=>cases r4;exact⟨_,_,rfl,r1,r3⟩
theorem call_abs:CallR X (.builtin "abs") (fun xs H Q=>∃i,xs=[.int i]∧Q (.int (if i< 0 then -i else i)) H):=by
  intro pins s σ H xs us Q I r h
  obtain⟨i,rfl,q⟩:=h
  obtain⟨u,rfl,t,rfl⟩:=vals1 r
  exact call_abs_int fun u tk=>⟨.int (if i< 0 then -i else i),H,I.tok _,⟨_,rfl⟩,q⟩
theorem call_int1:CallR X (.type "int") (fun xs H Q=>(∃i,xs=[.int i]∧Q (.int i) H)∨∃k,xs=[.bl k]∧Q (.int (if k then 1 else 0)) H):=by
  intro pins s σ H xs us Q I r h
  rcases h with⟨i,rfl,q⟩ | ⟨k,rfl,q⟩
  · obtain⟨u,rfl,t,rfl⟩:=vals1 r
    exact call_int_int ⟨.int i,H,I,⟨_,rfl⟩,q⟩
  · obtain⟨u,rfl,r1⟩:=vals1 r
    cases r1
    exact call_int_bool ⟨.int (if k then 1 else 0),H,I.tok _,⟨_,rfl⟩,q⟩
theorem call_str_int:CallR X (.type "str") (fun xs H Q=>∃i,xs=[.int i]∧i.natAbs.log2< 1920∧Q (.str (toString i)) H):=by
  intro pins s σ H xs us Q I r h
  obtain⟨i,rfl,hz,q⟩:=h
  obtain⟨u,rfl,t,rfl⟩:=vals1 r
  exact PySem.P.str_of_int hz ⟨.str _,H,I.tok _,⟨_,rfl⟩,q⟩
def LenV (K:PySem.W.Frag) (x:V) (H:Hp) (n:Nat):Prop:=
  match x with
  | .str y=>y.length≤sizeLine∧n=y.length
  | .byt y=>y.size≤sizeLine∧n=y.size
  | .ref p=>(∃xs,SqL K H p xs∧n=xs.length)∨∃xs,SqT K H p xs∧n=xs.length
  | _=>False
theorem call_len:CallR X (.builtin "len") (fun xs H Q=>∃x n,xs=[x]∧LenV X.K x H n∧Q (.int n) H):=by
  intro pins s σ H xs us Q I r h
  obtain⟨x,n,rfl,e,q⟩:=h
  obtain⟨u,rfl,rx⟩:=vals1 r
  have hl:=line63
  have hs:sizeLine=16777216:=sizeLine_eq
  cases x with
  | str y =>
    obtain⟨t,rfl⟩:=rx
    obtain⟨hy,e'⟩:y.length≤sizeLine∧n=y.length:=e
    subst e'
    exact len_str (by omega) ⟨.int _,H,I.tok _,⟨_,rfl⟩,q⟩
  | byt y =>
    obtain⟨t,rfl⟩:=rx
    obtain⟨hy,e'⟩:y.size≤sizeLine∧n=y.size:=e
    subst e'
    exact PySem.W.len_bytes (by omega) ⟨.int _,H,I.tok _,⟨_,rfl⟩,q⟩
  | ref p =>
    cases rx
    have e':(∃xs,SqL X.K H p xs∧n=xs.length)∨∃xs,SqT X.K H p xs∧n=xs.length:=e
    rcases e' with⟨xs,hx,e'⟩ | ⟨xs,hx,e'⟩
    · subst e'
      obtain⟨its,r',pl,hz⟩:=I.list hx
      have hlen:=r'.length
      exact Calls.call_len_list pl.isList (by simp only[List.size_toArray];omega) ⟨.int xs.length,H,I.tok _,⟨_,by simp only[List.size_toArray];rw[hlen]⟩,q⟩
    · subst e'
      obtain⟨its,r',pl,hz⟩:=I.tuple hx
      have hlen:=r'.length
      exact len_tuple pl (by simp only[List.size_toArray];omega) ⟨.int xs.length,H,I.tok _,⟨_,by simp only[List.size_toArray];rw[hlen]⟩,q⟩
  | _=>exact(show False from e).elim
end
end L2
namespace L2
open PySem PySem.Spec PyProof.Rows
structure ObjM (h:Heap) (x dx C:Addr) (mA:Str→Option Value):Prop where
  obj:h.get? x=some (PySem.W.instObj C dx)
  ns:h.Ns1 dx mA
  ne:dx≠x
theorem lookIn_ns {h:Heap} {dx:Addr} {mA:Str→Option Value} (n:h.Ns1 dx mA):∃od,h.get? dx=some od∧∀name,PySem.W.lookIn name od=some (mA name):=by
  obtain⟨o,es,ep,ho,hd,hk,_,hm⟩:=n
  refine⟨o,ho,fun name=>?_⟩
  have e:=hm name
  unfold nsFind findBy at e
  rw[←Array.find?_toList]at e
  unfold PySem.W.lookIn
  rw[hd]
  dsimp only
  split
  · rename_i y q
    rw[q]at e
    exact congrArg some e
  · rename_i q
    rw[q]at e
    have a:es.toList.any (·.refKey)=false:=by
      rw[List.any_eq_false]
      intro y hy
      obtain⟨z,t,hkey⟩:=hk y (Array.mem_toList_iff.mp hy)
      simp[DictEntry.refKey,hkey]
    have a':¬es.toList.any (·.refKey)=true:=by rw[a];exact Bool.false_ne_true
    rw[if_neg a']
    exact congrArg some e
theorem ObjM.look {h:Heap} {x dx C:Addr} {mA:Str→Option Value} (I:ObjM h x dx C mA):∃od,PySem.W.InstAt h x (PySem.W.instObj C dx) C (some od)∧∀name,PySem.W.lookIn name od=some (mA name):=
  let ⟨od,ho,hl⟩:=lookIn_ns I.ns
  ⟨od,⟨I.obj,rfl,rfl,ho⟩,hl⟩
theorem RelO.some_of {v:V} {o:Option Value} (r:RelO (some v) o):∃u,o=some u∧RelV v u:=by
  cases o with
  | none=>exact(show False from r).elim
  | some u=>exact⟨u,rfl,r⟩
section
variable {P:Program} {w:World} {H H':Hp} {h h':Heap} {a C dx:Addr} {fs fs':List (Str×V)}
theorem ins_get (hok:HOk P w H h) (e:H a=some (.ins C dx fs)):∃mA,ObjM h a dx C mA∧(∀f,RelO (fs.lookup f) (mA f))∧PySem.Within mA (fs.map (·.1))∧fs.length≤1000∧H dx=some (.own a):=by
  obtain⟨d,z,ne,ob,mA,n,r,q⟩:=(show ObjOk P w H h a (.ins C dx fs)from hok a _ e)
  exact⟨mA,⟨ob,n,ne⟩,r,q,z,d⟩
end
structure Cls (K:PySem.W.Frag) (C:Addr):Prop where
  pg:PySem.W.plainGet K C Str.empty=true
  hd:PySem.W.hasDictIn K C=true
  po:PySem.W.plainOver K C=true
  sa:PySem.W.findIn K (.ref C) "__setattr__" =some (some (.builtin "object.__setattr__"))
theorem Cls.get {K:PySem.W.Frag} {C:Addr} (c:Cls K C) (f:Str):PySem.W.plainGet K C f=true:=c.pg
section
variable {X:Cx} {pins:List (Addr×Obj)} {σ:St} {H:Hp} {s:Shared} {A:Around} {E:Value→Shared→Prop} {Q:Value→Shared→Prop} {c:Value} {b:Bool}
inductive TyOf (K:PySem.W.Frag) (H:Hp):V→Value→Prop where
  | non:TyOf K H .non (.type "NoneType")
  | bl (x:Bool):TyOf K H (.bl x) (.type "bool")
  | int (i:Int):TyOf K H (.int i) (.type "int")
  | str (x:Str):TyOf K H (.str x) (.type "str")
  | flt (x:UInt64):TyOf K H (.flt x) (.type "float")
  | lst {a:Addr} {xs:List V} (e:H a=some (.lst xs)):TyOf K H (.ref a) (.type "list")
  | frz {a:Addr} {o:Obj} {xs:List V} (e:H a=some (.frz o (.lst xs))):TyOf K H (.ref a) (.type "list")
  | tup {a:Addr} {xs:List V} (e:SqT K H a xs):TyOf K H (.ref a) (.type "tuple")
  | dK {a:Addr} {kvs:List (Key×V)} (e:H a=some (.dK kvs)):TyOf K H (.ref a) (.type "dict")
  | dT {a:Addr} {kvs:List (List Key×V)} (e:H a=some (.dT kvs)):TyOf K H (.ref a) (.type "dict")
  | ins {a C dx:Addr} {fs:List (Str×V)} (e:H a=some (.ins C dx fs)) (cl:Cls K C) (ha:PySem.W.findIn K (.ref C) "__class__" =some (some (.builtin "object.__class__")))
      (hn:PySem.W.specialIn K (.builtin "object.__class__") "__get__" =some (some (.builtin "getset_descriptor.__get__"))) (htk:PySem.W.takesIn K (.builtin "object.__class__")=some true)
      (hm:PySem.W.mroIn K C (.type "object")=some true):TyOf K H (.ref a) (.ref C)
theorem isinst_ok {x:V} {u t:Value} (I:Inv X pins σ H s) (rx:RelV x u) (ty:TyOf X.K H x t) (e:PySem.W.kitOne X.K t c=some b) (h:∀tk,Q (.bool b) {s with toks:=tk}):
    wpAny (model X.prog X.w) A (call (.builtin "isinstance") [u,c]) Q E s:=by
  cases ty with
  | non=>cases (show u=Value.none from rx);exact PySem.W.kia_one PySem.W.kitx_none I.kIn True.intro e (fun z=>nomatch z) h
  | bl y=>cases (show u=Value.bool y from rx);exact PySem.W.kia_one PySem.W.kitx_bool I.kIn True.intro e (fun z=>nomatch z) h
  | int i=>obtain⟨t,q⟩:=(show ∃t,u=Value.int i t from rx);cases q;exact PySem.W.kia_one PySem.W.kitx_int I.kIn True.intro e (fun z=>nomatch z) h
  | str y=>obtain⟨t,q⟩:=(show ∃t,u=Value.str y t from rx);cases q;exact PySem.W.kia_one PySem.W.kitx_str I.kIn True.intro e (fun z=>nomatch z) h
  | flt y=>obtain⟨t,q⟩:=(show ∃t,u=Value.float y t from rx);cases q;exact PySem.W.kia_one PySem.W.kitx_float I.kIn True.intro e (fun z=>nomatch z) h
  | @lst a xs ea =>
    cases (show u=Value.ref a from rx)
    obtain⟨_,_,n,_,h1⟩:=(show ObjOk X.prog X.w H s.heap a (.lst xs)from I.hok a _ ea)
    exact PySem.W.kia_one PySem.W.kitx_list I.kIn ⟨_,h1,rfl⟩ e (fun z=>nomatch z) h
  | @frz a ob xs ea =>
    cases (show u=Value.ref a from rx)
    obtain⟨_,_,_,n,_,h1⟩:=(show ObjOk X.prog X.w H s.heap a (.frz ob (.lst xs))from I.hok a _ ea)
    exact PySem.W.kia_one PySem.W.kitx_list I.kIn ⟨_,h1,rfl⟩ e (fun z=>nomatch z) h
  | @tup a xs ea =>
    cases (show u=Value.ref a from rx)
    obtain⟨_,_,p,_⟩:=I.tuple ea
    obtain⟨o,h1,h2,_⟩:=p
    exact PySem.W.kia_one PySem.W.kitx_tuple I.kIn ⟨o,h1,h2⟩ e (fun z=>nomatch z) h
  | @dK a kvs ea =>
    cases (show u=Value.ref a from rx)
    obtain⟨_,_,vs,_,p⟩:=(show ObjOk X.prog X.w H s.heap a (.dK kvs)from I.hok a _ ea)
    obtain⟨o,es,ep,h1,h2,_⟩:=p
    exact PySem.W.kia_one PySem.W.kitx_dict I.kIn ⟨o,h1,h2.1⟩ e (fun z=>nomatch z) h
  | @dT a kvs ea =>
    cases (show u=Value.ref a from rx)
    obtain⟨_,_,xs,_,o,es,ep,h1,h2,_⟩:=(show ObjOk X.prog X.w H s.heap a (.dT kvs)from I.hok a _ ea)
    exact PySem.W.kia_one PySem.W.kitx_dict I.kIn ⟨o,h1,h2.1⟩ e (fun z=>nomatch z) h
  | @ins a C dx fs ea cl ha hn htk hm =>
    cases (show u=Value.ref a from rx)
    obtain⟨mA,O,_⟩:=ins_get I.hok ea
    obtain⟨od,J,_⟩:=O.look
    exact PySem.W.kia_one (PySem.W.kitx_own (cl.get _) cl.hd ha hn htk hm) I.kIn J e (fun z=>nomatch z) h
end
end L2
namespace L2
open PySem PySem.Spec PyProof.Rows
structure Room (k:Nat) (A:Around):Prop where
  hd:A.handled=none
  dp:A.depth+3*k+5< recursionLimit
  un:A.units+16*k+200< cLine
theorem Room.mono {j k:Nat} {A:Around} (r:Room k A) (h:j≤k):Room j A:=⟨r.hd,by have:=r.dp;omega,by have:=r.un;omega⟩
theorem Room.deeper {k:Nat} {A:Around} (r:Room (k+1) A) (env:Env):Room k (A.deeper env):=
  ⟨r.hd,by have:=r.dp;show A.depth+1+3*k+5< _;omega,by have:=r.un;show A.units+3+16*k+200< _;omega⟩
theorem Room.depth {k:Nat} {A:Around} (r:Room k A):A.depth< recursionLimit:=by have:=r.dp;omega
def tNil:TA:=fun _ H Q=>Q [] H
def tCons (ta:TE) (tr:TA):TA:=fun σ H Q=>ta σ H fun x H1=>tr σ H1 fun xs H2=>Q (x::xs) H2
section
variable {X:Cx} {e:Expr} {es:List Expr} {te:TE} {t:TA} {pos:Pos}
theorem pa_nil:PA X [] tNil:=fun _ _ _ _ H Q I h=>Calls.spliced_nil ⟨[],H,I,.nil,h⟩
theorem pa_cons (ha:PE X e te) (hr:PA X es t) (hs:starEach (e::es) X.env=(false,eval e X.env)::starEach es X.env:=by rfl):PA X (e::es) (tCons te t):=by
  intro pos pins s σ H Q I h
  rw[hs]
  show wpAny _ _ (spliced ((false,eval e X.env)::backTo pos (starEach es X.env))) _ _ s
  refine Calls.spliced_cons (thn (ha pins s σ H _ I h) fun u s1 ⟨x,H1,I1,r1,q1⟩=>?_)
  exact thn (hr pos pins s1 σ H1 _ I1 q1) fun us s2 ⟨xs,H2,I2,r2,q2⟩=>⟨x::xs,H2,I2,.cons r1 r2,q2⟩
def tTup (t:TA):TE:=fun σ H Q=>t σ H fun xs H1=>xs.length≤sizeLine∧∀p,H1 p=none→Q (.ref p) (upd H1 p (.tup xs))
def tLst (t:TA):TE:=fun σ H Q=>t σ H fun xs H1=>xs.length≤sizeLine∧∀p,H1 p=none→Q (.ref p) (upd H1 p (.lst xs))
theorem pe_tup {x1} (h:PA X es t):PE X (.Tuple es x1 pos) (tTup t):=by
  intro pins s σ H Q I hq
  refine wpAny_Tuple_spliced (thn (h pos pins s σ H _ I hq) fun us s1 ⟨xs,H1,I1,r,z,q⟩=>⟨by rw[←r.length];exact z,?_⟩)
  have hf:H1 s1.heap.objs.size=none:=I1.hok.fresh (Nat.le_refl _)
  refine⟨.ref s1.heap.objs.size,upd H1 s1.heap.objs.size (.tup xs),I1.laid (t':=s1.toks) (fun b u e=>Heap.get?_push_of_some _ e) (Nat.le_refl _) ?_,rfl,q _ hf⟩
  exact⟨z,us,r,⟨_,Heap.get?_push_size _ rfl,rfl,_,rfl⟩⟩
theorem pe_lst (h:PA X es t):PE X (.List es pos) (tLst t):=by
  intro pins s σ H Q I hq
  refine wpAny_List_spliced (thn (h pos pins s σ H _ I hq) fun us s1 ⟨xs,H1,I1,r,z,q⟩=>⟨by rw[←r.length];exact z,?_⟩)
  have hf:H1 s1.heap.objs.size=none:=I1.hok.fresh (Nat.le_refl _)
  refine⟨.ref s1.heap.objs.size,upd H1 s1.heap.objs.size (.lst xs),I1.laid (t':=s1.toks) (fun b u e=>Heap.get?_push_of_some _ e) (Nat.le_refl _) ?_,rfl,q _ hf⟩
  exact⟨z,us,0,r,Heap.get?_push_size _ rfl⟩
end
abbrev Sp:=List V→Hp→VK→XK→Prop
abbrev CXT:=List Env→Hp→Shared→XK→Value→Shared→Prop
structure Env0 (P:Program) (w:World) (K:PySem.W.Frag) (mg:Str→Option Value) (base:Heap) (A:Around) (outer:List Env) (s:Shared) (H:Hp):Prop where
  frames:A.frames=some outer
  mod:Mod K mg base
  bs:∀b o,base.get? b=some o→s.heap.get? b=some o∧H b=none
  bsz:base.objs.size≤s.heap.objs.size
  funs:s.heap.FunFrames base outer
  frf:∀b∈frs outer,H b=none
  hok:HOk P w H s.heap
  bare:AllBare s.gens
def CE (outer:List Env) (P:Program) (w:World) (H:Hp) (s:Shared) (Q:VK) (u:Value) (s':Shared):Prop:=
  ∃v H',s'.os=s.os∧AllBare s'.gens∧Un (frs outer) [] H H' s.heap s'.heap∧HOk P w H' s'.heap∧RelV v u∧Q v H'
def CR (CX:CXT) (outer:List Env) (P:Program) (w:World) (H:Hp) (s:Shared) (Q:VK) (E:XK) (r:Result) (s':Shared):Prop:=
  match r with
  | .ok (.ret u)=>CE outer P w H s Q u s'
  | .ok _=>False
  | .error e=>CX outer H s E e s'
structure FnOk (P:Program) (w:World) (K:PySem.W.Frag) (mg:Str→Option Value) (base:Heap) (CX:CXT) (k:Nat) (f:Addr) (fd:FuncData) (ps:List Str) (sp:Sp):Prop where
  len:∀vs H Q E,sp vs H Q E→vs.length=ps.length
  run:∀(A:Around) (outer:List Env) (s:Shared) (H:Hp) (args:Args) (us:List Value) (vs:List V) (Q:VK) (E:XK),Room k A→Env0 P w K mg base A outer s H→BindsTo s fd args (ps.zip us)→Vals vs us→sp vs H Q E→
    codeAny (model P w) A (.call (.ref f) args) (CR CX outer P w H s Q E) s
theorem FnOk.imp {P:Program} {w:World} {K:PySem.W.Frag} {mg:Str→Option Value} {base:Heap} {CX:CXT} {k:Nat} {f:Addr} {fd:FuncData} {ps:List Str} {sp sp':Sp} (F:FnOk P w K mg base CX k f fd ps sp)
    (h:∀vs H Q E,sp' vs H Q E→sp vs H Q E):FnOk P w K mg base CX k f fd ps sp':=
  ⟨fun vs H Q E q=>F.len vs H Q E (h _ _ _ _ q),fun A outer s H args us vs Q E hr he hb hv hs=>F.run A outer s H args us vs Q E hr he hb hv (h _ _ _ _ hs)⟩
section
variable {X:Cx} {pins:List (Addr×Obj)} {σ:St} {H:Hp} {s s':Shared}
theorem Inv.env0 (I:Inv X pins σ H s):Env0 X.prog X.w X.K X.mg X.base X.A X.stack s H:=
  ⟨I.ok.frames,I.ok.mod,I.bs,Nat.le_trans I.ok.bsz I.sz,I.stack,I.stkFree,I.hok,I.bare⟩
theorem Inv.after {Q:VK} {u:Value} (I:Inv X pins σ H s) (h:CE X.stack X.prog X.w H s Q u s'):EP X pins σ Q u s':=by
  obtain⟨v,H',os,bare,un,hok,r,q⟩:=h
  obtain⟨hh,g,d,t,os'⟩:=s'
  obtain rfl:os'=s.os:=os
  exact⟨v,H',I.call (h':=hh) (g':=g) (d':=d) (t':=t) (ch:=[]) un hok bare (fun b z=>absurd z (by simp)),r,q⟩
end
def tCall (sp:Sp) (dvs:List V) (E:XK) (t:TA):TE:=fun σ H Q=>t σ H fun vs H1=>sp (vs++dvs) H1 Q E
def Binds (K:PySem.W.Frag) (fd:FuncData) (ps:List Str) (ds:List Value):Prop:=
  ∀(s:Shared) (us:List Value),K.In s.heap→(us++ds).length=ps.length→BindsTo s fd ⟨us,[]⟩ (ps.zip (us++ds))
theorem Binds.all {K:PySem.W.Frag} {fd:FuncData} {ps:List Str} (h:∀us:List Value,us.length=ps.length→bindArgs fd ⟨us,[]⟩=pure (ps.zip us)):Binds K fd ps []:=fun s us _ hl=>by
  rw[List.append_nil]at hl ⊢
  exact .of_eq (h us hl)
def Passes (CX:CXT) (X:Cx) (E:XK):Prop:=∀(pins:List (Addr×Obj)) (σ:St) (H:Hp) (s:Shared) (e:Value) (s':Shared),Inv X pins σ H s→CX X.stack H s E e s'→X.xe e s'
section
variable {X:Cx} {CX:CXT} {k:Nat} {f C:Addr} {fd:FuncData} {ps:List Str} {sp:Sp} {dvs:List V} {ds:List Value} {E:XK} {x m:Str} {p pos apos:Pos} {e o:Expr} {es:List Expr} {ta:TE} {t:TA}
theorem run_fn {pins:List (Addr×Obj)} {σ:St} {H:Hp} {s:Shared} {Q:VK} {us:List Value} {vs:List V} (F:FnOk X.prog X.w X.K X.mg X.base CX k f fd ps sp) (hr:Room k X.A) (hb:Binds X.K fd ps ds) (hd:Vals dvs ds) (hx:Passes CX X E)
    (I:Inv X pins σ H s) (r:Vals vs us) (h:sp (vs++dvs) H Q E):wpAny (model X.prog X.w) X.A (call (.ref f) us) (EP X pins σ Q) X.xe s:=by
  have r2:Vals (vs++dvs) (us++ds):=r.append hd
  have hl:(us++ds).length=ps.length:=by rw[←r2.length];exact F.len _ _ _ _ h
  refine wpAny_call (codeAny_mono (F.run X.A X.stack s H ⟨us,[]⟩ (us++ds) (vs++dvs) Q E hr I.env0 (hb s us I.kIn hl) r2 h) fun r s' hq=>?_)
  cases r with
  | error e=>exact hx pins σ H s e s' I hq
  | ok fl =>
    cases fl with
    | ret u=>exact I.after hq
    | next=>exact False.elim hq
    | brk=>exact False.elim hq
    | cont=>exact False.elim hq
theorem pe_call (F:FnOk X.prog X.w X.K X.mg X.base CX k f fd ps sp) (hr:Room k X.A) (hg:Gl X x) (hm:X.mg x=some (.ref f)) (hk:PySem.W.keepIn X.K (.ref f)=true) (hb:Binds X.K fd ps ds) (hd:Vals dvs ds) (hx:Passes CX X E)
    (ha:PA X (e::es) t) (hdb:(x == ("__debug__" :Str))=false:=by decide) (he:starEach (e::es) X.env=(false,eval e X.env)::starEach es X.env:=by rfl) (hpl:(backTo pos (starEach es X.env)).any (·.1)=false:=by rfl):
    PE X (.Call (.Name x p) (e::es) [] pos) (tCall sp dvs E t):=by
  intro pins s σ H Q I h
  refine wpAny_Call_Name_kw (ld_glob I hg hm ?_ hdb)
  refine PySem.W.callWith_K (h₀:=X.base) I.ok.mod.kin hk (thn (ha pos pins s σ H _ I h) fun us s1 ⟨vs,H1,I1,r,q⟩=>⟨I1.kIn,?_⟩) he hpl
  exact run_fn F hr hb hd hx I1 r q
end
structure FnScope (N P:List Str) (sc:Scope):Prop where
  kind:sc.kind=.function
  co:sc.isCoroutine=false
  gen:sc.isGenerator=false
  nd:N.Nodup
  pre:N.take P.length=P
  par:∀x∈P,sc.names.lookup x=some .local∨sc.names.lookup x=some .cell
  nofree:∀y∈sc.names,y.2≠.free
theorem bindL_out {kindOf:Str→Option NameKind} {x:Str} :∀{binds:List (Str×Value)} {m:Str→Option Value},(∀v,(x,v)∉binds)→bindL kindOf binds m x=m x
  | [],_,_=>rfl
  | (n, v) :: r, m, h => by
    unfold bindL
    rw[bindL_out fun w hw=>h w (List.mem_cons_of_mem _ hw)]
    split
    · have:x≠n:=by rintro rfl;exact h v List.mem_cons_self
      simp[this]
    · rfl
theorem bindC_out {kindOf:Str→Option NameKind} {x:Str} :∀{binds:List (Str×Value)} {m:Str→Option Value},(∀v,(x,v)∉binds)→bindC kindOf binds m x=m x
  | [],_,_=>rfl
  | (n, v) :: r, m, h => by
    unfold bindC
    rw[bindC_out fun w hw=>h w (List.mem_cons_of_mem _ hw)]
    split
    · rfl
    · have:x≠n:=by rintro rfl;exact h v List.mem_cons_self
      simp[this]
theorem bindL_get {kindOf:Str→Option NameKind} {x:Str} {v:Value} :∀{P:List Str} {vs:List Value} {i:Nat} {m:Str→Option Value},P.Nodup→P[i]? =some x→vs[i]? =some v→kindOf x=some .local→
    bindL kindOf (P.zip vs) m x=some v
  | [],_,_,_,_,h,_,_=>by simp at h
  | _::_,[],_,_,_,_,h,_=>by simp at h
  | p :: P, w :: vs, 0, m, nd, h1, h2, hk => by
    simp at h1 h2;subst h1;subst h2
    show bindL kindOf ((p,w)::P.zip vs) m p=_
    unfold bindL
    rw[bindL_out fun v hv=>(List.nodup_cons.mp nd).1 (List.of_mem_zip hv).1,if_pos hk]
    simp
  | p :: P, w :: vs, i + 1, m, nd, h1, h2, hk => by
    show bindL kindOf ((p,w)::P.zip vs) m x=_
    unfold bindL
    exact bindL_get (i:=i) (List.nodup_cons.mp nd).2 (by simpa using h1) (by simpa using h2) hk
theorem bindC_get {kindOf:Str→Option NameKind} {x:Str} {v:Value} :∀{P:List Str} {vs:List Value} {i:Nat} {m:Str→Option Value},P.Nodup→P[i]? =some x→vs[i]? =some v→kindOf x≠some .local→
    bindC kindOf (P.zip vs) m x=some v
  | [],_,_,_,_,h,_,_=>by simp at h
  | _::_,[],_,_,_,_,h,_=>by simp at h
  | p :: P, w :: vs, 0, m, nd, h1, h2, hk => by
    simp at h1 h2;subst h1;subst h2
    show bindC kindOf ((p,w)::P.zip vs) m p=_
    unfold bindC
    rw[bindC_out fun v hv=>(List.nodup_cons.mp nd).1 (List.of_mem_zip hv).1,if_neg hk]
    simp
  | p :: P, w :: vs, i + 1, m, nd, h1, h2, hk => by
    show bindC kindOf ((p,w)::P.zip vs) m x=_
    unfold bindC
    exact bindC_get (i:=i) (List.nodup_cons.mp nd).2 (by simpa using h1) (by simpa using h2) hk
def start (N:List Str) (vs:List V):St:=vs.map some++List.replicate (N.length- vs.length) none
def cxOf (CX:CXT) (P:Program) (w:World) (K:PySem.W.Frag) (mg:Str→Option Value) (base:Heap) (N:List Str) (qual:Str) (scope:Scope) (f:Addr) (cd:Value) (A:Around) (outer:List Env) (s:Shared) (H:Hp) (E:XK):Cx where
  prog:=P
  w:=w
  K:=K
  mg:=mg
  base:=base
  A:=A.deeper (envOfC qual scope s.heap.objs.size f cd)
  N:=N
  s₀:=s
  H₀:=H
  env:=envOfC qual scope s.heap.objs.size f cd
  outer:=outer
  stack:=envOfC qual scope s.heap.objs.size f cd::outer
  ex:=[]
  calm:=true
  fn:=fun _=>true
  pn:=[]
  xe:=fun e s'=>wpAny (model P w) (A.deeper (envOfC qual scope s.heap.objs.size f cd)) (leaving (envOfC qual scope s.heap.objs.size f cd) e) (fun _ s''=>CX outer H s E e s'') (fun e' s''=>CX outer H s E e' s'') s'
theorem cell_has {sc:Scope} {n:Nat} {x:Str} (h:sc.names.lookup x=some .cell):∃c,(cellsFrom n sc.names []).lookup x=some c:=by
  have q:=PySem.W.cellsFrom_some sc.names n [] (.inl h)
  exact Option.isSome_iff_exists.mp q
theorem inv_start {CX:CXT} {P:Program} {w:World} {K:PySem.W.Frag} {mg:Str→Option Value} {base:Heap} {N ps:List Str} {qual:Str} {scope:Scope} {f:Addr} {cd:Value} {A:Around} {outer:List Env} {s s1:Shared} {H:Hp} {E:XK} {us:List Value} {vs:List V}
    (S:FnScope N ps scope) (hd:A.handled=none) (e0:Env0 P w K mg base A outer s H) (hl:vs.length=ps.length) (r:Vals vs us)
    (x:InCallC s s.heap.objs.size (bindL (envOfC qual scope s.heap.objs.size f cd).kindOf (ps.zip us) fun _=>none) (cellsFrom (s.heap.objs.size+1) scope.names []) (bindC (envOfC qual scope s.heap.objs.size f cd).kindOf (ps.zip us) fun _=>none) s1):
    Inv (cxOf CX P w K mg base N qual scope f cd A outer s H E) [] (start N vs) H s1:=by
  have hpl:ps.length≤N.length:=by have:=congrArg List.length S.pre;rw[List.length_take]at this;omega
  obtain⟨h1,tk,rfl,hk⟩:=x.done
  have noA:∀b:Addr,b∉(cxOf CX P w K mg base N qual scope f cd A outer s H E).ex:=fun b z=>absurd (show b∈([]:List Addr)from z) (by simp)
  refine⟨⟨e0.mod,S.kind,rfl,rfl,Nat.le_refl _,fun y z c h1 h2=>?_,fun y hy=>?_,fun y c _ h=>?_,fun _=>hd,Around.frames_deeper e0.frames,.inr ⟨rfl,rfl⟩,fun b z=>absurd z (noA b),e0.bs,e0.bsz,fun b _ _=>noA b,fun b z=>absurd z (noA b),e0.funs,e0.frf⟩,
    rfl,e0.bare,Un.kept hk,⟨_,x.toInCall.ns,fun i y v h1 h2 h3=>?_⟩,fun y c h=>⟨_,x.cell y c h⟩,e0.hok.fresh (Nat.le_refl _),fun y c h=>?_,fun p hp=>absurd (show p∈([]:List (Addr×Obj))from hp) (by simp),e0.hok.kept hk,?_⟩
  · exact name_of_addr x.apart (PySem.mem_of_lookup h1) (PySem.mem_of_lookup h2)
  · have hy:scope.names.lookup y=some .cell∨scope.names.lookup y=some .free:=hy
    rcases hy with hy | hy
    · exact cell_has hy
    · exact absurd rfl (S.nofree _ (PySem.mem_of_lookup hy))
  · exact Nat.le_of_lt (x.above y c (PySem.mem_of_lookup h))
  · have hi:i< vs.length:=by
      unfold start at h2
      by_cases hi:i< vs.length
      · exact hi
      · rw[List.getElem?_append_right (by simpa using hi)]at h2
        rw[List.getElem?_replicate]at h2
        split at h2 <;> cases h2
    have ha:vs[i]? =some v:=by
      unfold start at h2
      rw[List.getElem?_append_left (by simpa using hi),List.getElem?_map]at h2
      cases e:vs[i]? with
      | none=>rw[e]at h2;cases h2
      | some a=>rw[e]at h2;cases h2;rfl
    obtain⟨u,hu,rv⟩:=r.get ha
    have hp:ps[i]? =some y:=by
      rw[←S.pre,List.getElem?_take_of_lt (by omega)];exact h1
    have ndP:ps.Nodup:=by rw[←S.pre];exact S.nd.sublist (List.take_sublist _ _)
    refine⟨u,rv,?_⟩
    rcases S.par y (List.mem_of_getElem? hp)with k | k
    · exact .inl ⟨k,bindL_get ndP hp hu k⟩
    · obtain⟨c,e⟩:=cell_has (n:=s.heap.objs.size+1) k
      refine .inr ⟨.inl k,c,e,?_⟩
      have q:=x.cell y c e
      rw[bindC_get ndP hp hu (by show scope.names.lookup y≠_;rw[k];decide)]at q
      exact q
  · exact e0.hok.fresh (Nat.le_of_lt (x.above y c (PySem.mem_of_lookup h)))
  · unfold start
    show _=N.length
    rw[List.length_append,List.length_map,List.length_replicate]
    omega
theorem fn_of {CX:CXT} {P:Program} {w:World} {K:PySem.W.Frag} {mg:Str→Option Value} {base:Heap} {k:Nat} {f:Addr} {name qual:Str} {params:Arguments} {body:List Stmt} {scope:Scope} {dV kV doc pm cdv ct oc:Value} {an od:Option Addr}
    {osl:Array (Option Value)} {N ps:List Str} {sp:Sp} (lk:K.lookup f=some ⟨oc,od,.func (PySem.W.fnOf name qual params body scope dV kV doc pm an cdv ct),osl⟩) (hcd:PySem.W.codeIn K cdv qual=true) (S:FnScope N ps scope)
    (len:∀vs H Q E,sp vs H Q E→vs.length=ps.length)
    (hbody:∀(A:Around) (outer:List Env) (s:Shared) (H:Hp) (vs:List V) (Q:VK) (E:XK),Room k (A.deeper (envOfC qual scope s.heap.objs.size f cdv))→sp vs H Q E→
      ∃t,PSs (cxOf CX P w K mg base N qual scope f cdv A outer s H E) body t∧t {nx:=fun _ H'=>Q .non H',rt:=Q} (start N vs) H):
    FnOk P w K mg base CX (k+1) f (PySem.W.fnOf name qual params body scope dV kV doc pm an cdv ct) ps sp:=by
  refine⟨len,fun A outer s H args us vs Q E hr e0 hb r hsp=>?_⟩
  have hl:=len _ _ _ _ hsp
  have KX:K.In s.heap:=e0.mod.kin.keeps fun b o e=>(e0.bs b o e).1
  have lim:s.heap.NoLimit:=e0.mod.nolimit.keeps fun b o e=>(e0.bs b o e).1
  have hkind:∀y∈ps.zip us,scope.names.lookup y.1=some .local∨(scope.names.lookup y.1=some .cell∧((cellsFrom (s.heap.objs.size+1) scope.names []).lookup y.1).isSome=true):=fun⟨n,v⟩ hy=>by
    rcases S.par n (List.of_mem_zip hy).1 with q | q
    · exact .inl q
    · exact .inr ⟨q,PySem.W.cellsFrom_some _ _ _ (.inl q)⟩
  refine codeAny_call_function hr.depth (KX _ _ lk) rfl S.co S.gen rfl (PySem.W.codeRec_of KX hcd) (hb _ _ _ _ ?_)
  refine wpAny_newFunctionEnv_cells S.kind hkind fun env he s1 x=>?_
  subst he
  refine⟨lim.keeps x.toInCall.keep,codeAny_func ?_⟩
  obtain⟨t,ht,hq⟩:=hbody A outer s H vs Q E (hr.deeper _) hsp
  have I:Inv (cxOf CX P w K mg base N qual scope f cdv A outer s H E) [] (start N vs) H s1:=inv_start S hr.hd e0 hl r x
  refine wpAny_mono (ht [] s1 (start N vs) H _ I hq) (fun fl s' hs=>?_) fun e s' hs=>hs
  have fin:∀{σ':St} {H':Hp} {v:V} {u:Value},Inv (cxOf CX P w K mg base N qual scope f cdv A outer s H E) [] σ' H' s'→RelV v u→Q v H'→CE outer P w H s Q u s':=
    fun {σ' H' v u} J rv q=>⟨v,H',J.os,J.bare,J.base,J.hok,rv,q⟩
  cases fl with
  | ret u =>
    obtain⟨v,σ',H',J,rv,q⟩:=hs
    exact fin J rv q
  | next =>
    obtain⟨σ',H',J,q⟩:=hs
    exact fin (v:=V.non) (u:=Value.none) J rfl q
  | brk =>
    obtain⟨_,_,_,q⟩:=hs
    exact False.elim q
  | cont =>
    obtain⟨_,_,_,q⟩:=hs
    exact False.elim q
end L2
namespace L2
open PySem PySem.Spec PyProof.Rows
section
variable {X:Cx} {x:Str} {p pos:Pos} {e:Expr} {es:List Expr} {t:TA} {id T:String} {r:List V→Hp→VK→Prop}
def tCB (r:List V→Hp→VK→Prop) (t:TA):TE:=fun σ H Q=>t σ H fun vs H1=>r vs H1 Q
theorem pe_callB (hc:CallR X (.builtin id) r) (hg:Gl X x) (hm:X.mg x=none) (hv:bootBuiltins x=some (.builtin id)) (ha:PA X (e::es) t) (hn:x≠"__name__" :=by decide) (hdb:(x == ("__debug__" :Str))=false:=by decide)
    (he:starEach (e::es) X.env=(false,eval e X.env)::starEach es X.env:=by rfl) (hpl:(backTo pos (starEach es X.env)).any (·.1)=false:=by rfl):PE X (.Call (.Name x p) (e::es) [] pos) (tCB r t):=by
  intro pins s σ H Q I h
  refine wpAny_Call_Name_kw (ld_blt I hg hm hv ?_ hn hdb)
  exact PyProof.Rows.callWith_builtin1 (thn (ha pos pins s σ H _ I h) fun us s1 ⟨vs,H1,I1,r1,q1⟩=>hc pins s1 σ H1 vs us Q I1 r1 q1) he hpl
theorem pe_callTy (hc:CallR X (.type T) r) (hg:Gl X x) (hm:X.mg x=none) (hv:bootBuiltins x=some (.type T)) (ha:PA X (e::es) t) (hn:x≠"__name__" :=by decide) (hdb:(x == ("__debug__" :Str))=false:=by decide)
    (he:starEach (e::es) X.env=(false,eval e X.env)::starEach es X.env:=by rfl) (hpl:(backTo pos (starEach es X.env)).any (·.1)=false:=by rfl):PE X (.Call (.Name x p) (e::es) [] pos) (tCB r t):=by
  intro pins s σ H Q I h
  refine wpAny_Call_Name_kw (ld_blt I hg hm hv ?_ hn hdb)
  exact PyProof.Rows.callWith_type1 (thn (ha pos pins s σ H _ I h) fun us s1 ⟨vs,H1,I1,r1,q1⟩=>hc pins s1 σ H1 vs us Q I1 r1 q1) he hpl
end
end L2
namespace HT
open PySem PyProof.Rows
section
open PySem.SeqAt
open PySem.AutoSeq1 (wpAny_loadPart')
open PySem.MeetsSeq PySem.MeetsSeq2 PySem.MeetsSeq3
end
section
variable {prog:Program} {w:World} {A:Around} {E:Value→Shared→Prop} {s:Shared}
def sIx (n d:Nat):Option Int→Nat
  | none=>d
  | some v=>if v< 0 then(v+(n:Int)).toNat else min v.toNat n
theorem sIx_le (n d:Nat) (hd:d≤n) (o:Option Int):sIx n d o≤n:=by
  cases o with
  | none=>exact hd
  | some v =>
    show(if v< 0 then(v+(n:Int)).toNat else min v.toNat n)≤n
    by_cases hv:v< 0
    · rw[if_pos hv];omega
    · rw[if_neg hv];exact Nat.min_le_right _ _
end
end HT
namespace L2
open PySem PySem.Spec PyProof.Rows
abbrev TO:=St→Hp→(Option Int→Hp→Prop)→Prop
def PO (X:Cx) (e:Option Expr) (t:TO):Prop:=
  ∀ (pins : List (Addr × Obj)) (s : Shared) (σ : St) (H : Hp) (Q : Option Int → Hp → Prop), Inv X pins σ H s → t σ H Q →
    wpAny (model X.prog X.w) X.A (evalPart e X.env) (fun u s'=>∃o H',Inv X pins σ H' s'∧IsPart u o∧Q o H') X.xe s
def tNoPart:TO:=fun _ H Q=>Q none H
def tPart (t:TE):TO:=fun σ H Q=>t σ H fun x H1=>∃i,x=.int i∧Q (some i) H1
section
variable {X:Cx} {e:Expr} {te:TE} {lo hi:Option Expr} {tl th:TO} {pos p2:Pos}
theorem po_none:PO X none tNoPart:=by
  intro pins s σ H Q I h
  rw[evalPart_none]
  exact wpAny_pure ⟨none,H,I,.none,h⟩
theorem po_some (h:PE X e te):PO X (some e) (tPart te):=by
  intro pins s σ H Q I hw
  rw[evalPart_some]
  refine thn (h pins s σ H _ I hw) fun u s1 ⟨x,H1,I1,r1,q1⟩=>?_
  obtain⟨i,rfl,q⟩:=q1
  obtain⟨t,rfl⟩:=r1
  exact⟨some i,H1,I1,.int i t,q⟩
def SlR (X:Cx) (r:V→Option Int→Option Int→Hp→VK→Prop):Prop:=
  ∀ (pins : List (Addr × Obj)) (s : Shared) (σ : St) (H : Hp) (x : V) (v vl vu : Value) (lo hi : Option Int) (sl : Addr) (Q : VK), Inv X pins σ H s → RelV x v → s.heap.IsSliceOf sl vl vu .none → IsPart vl lo → IsPart vu hi → r x lo hi H Q →
    ∃T id,typeLookup (.type T) "__getitem__" =pure (some (.builtin id))∧s.TypeIs v T∧wpAny (model X.prog X.w) X.A (getItem v (.ref sl)) (EP X pins σ Q) X.xe s
def tSl (r:V→Option Int→Option Int→Hp→VK→Prop) (te:TE) (tl th:TO):TE:=fun σ H Q=>te σ H fun x H1=>tl σ H1 fun l H2=>th σ H2 fun u H3=>r x l u H3 Q
theorem pe_slice {r:V→Option Int→Option Int→Hp→VK→Prop} (hr:SlR X r) (he:PE X e te) (hl:PO X lo tl) (hu:PO X hi th):PE X (.Subscript e (.Slice lo hi none p2) pos) (tSl r te tl th):=by
  intro pins s σ H Q I h
  refine Subscript_ (thn (he pins s σ H _ I h) fun v s1 ⟨x,H1,I1,r1,q1⟩=>?_)
  refine wpAny_Slice (thn (hl pins s1 σ H1 _ I1 q1) fun vl s2 ⟨l,H2,I2,pl,q2⟩=>thn (hu pins s2 σ H2 _ I2 q2) fun vu s3 ⟨u,H3,I3,pu,q3⟩=>?_)
  rw[evalPart_none]
  refine wpAny_pure ?_
  have I4:Inv X pins σ H3 {s3 with heap:=s3.heap.push {cls:=.type "slice",data:=.fields #[vl,vu,.none]}} :=I3.kept (t':=s3.toks) fun b ob q=>Heap.get?_push_of_some _ q
  obtain⟨T,id,hT,ht,hg⟩:=hr pins {s3 with heap:=s3.heap.push {cls:=.type "slice",data:=.fields #[vl,vu,.none]}} σ H3 x v vl vu l u s3.heap.objs.size Q I4 r1 (Heap.IsSliceOf.new ..) pl pu q3
  show wpAny (model X.prog X.w) X.A (subscriptTail e (.Slice lo hi none p2) v (.ref s3.heap.objs.size)) (EP X pins σ Q) X.xe {s3 with heap:=s3.heap.push {cls:=.type "slice",data:=.fields #[vl,vu,.none]}}
  exact tail_any (ops:=[.ref s3.heap.objs.size,v]) ht hT hg (by with_unfolding_all rfl)
end
end L2
namespace L2
open PySem PySem.Spec PyProof.Rows
def ixN (n:Nat) (i:Int):Option Nat:=if 0≤i then(if i< n then some i.toNat else none)else if -(n:Int)≤i then some (i+n).toNat else none
def atI {α:Type} (xs:List α) (i:Int):Option α:=(ixN xs.length i).bind fun j=>xs[j]?
theorem ixN_seq {n:Nat} {i:Int} {j:Nat} (h:ixN n i=some j):seqIndex? i n=some j∧j< n∧ -(n:Int)≤i∧i< n:=by
  unfold ixN at h
  by_cases h0:0≤i
  · rw[if_pos h0]at h
    by_cases h1:i< n
    · rw[if_pos h1]at h
      have e:i.toNat=j:=Option.some.inj h
      exact⟨by rw[seqIndex_of h0 h1,e],by omega,by omega,h1⟩
    · rw[if_neg h1]at h;cases h
  · rw[if_neg h0]at h
    by_cases h1: -(n:Int)≤i
    · rw[if_pos h1]at h
      have e:(i+n).toNat=j:=Option.some.inj h
      exact⟨by rw[seqIndex_neg (by omega) h1,e],by omega,h1,by omega⟩
    · rw[if_neg h1]at h;cases h
theorem atI_get {α:Type} {xs:List α} {i:Int} {v:α} (h:atI xs i=some v):∃j,seqIndex? i xs.length=some j∧xs[j]? =some v∧j< xs.length∧ -(xs.length:Int)≤i∧i< xs.length:=by
  unfold atI at h
  cases e:ixN xs.length i with
  | none=>rw[e]at h;cases h
  | some j =>
    rw[e]at h
    obtain⟨h1,h2,h3,h4⟩:=ixN_seq e
    exact⟨j,h1,h,h2,h3,h4⟩
def PlainIx (b:Expr):Prop:=∀o i,subscripted b false o i=operate [o,i] (getItem o i)
def IxR (X:Cx) (r:R2):Prop:=
  ∀ (value slice : Expr) (pins : List (Addr × Obj)) (s : Shared) (σ : St) (H : Hp) (x y : V) (v u : Value) (Q : VK), Inv X pins σ H s → RelV x v → RelV y u → r x y H Q →
    subscripted slice false v u=operate [v,u] (getItem v u)→wpAny (model X.prog X.w) X.A (subscriptTail value slice v u) (EP X pins σ Q) X.xe s
def MtR (X:Cx) (id:String) (r:V→List V→Hp→VK→Prop):Prop:=
  ∀ (pins : List (Addr × Obj)) (s : Shared) (σ : St) (H : Hp) (x : V) (xs : List V) (v : Value) (us : List Value) (Q : VK), Inv X pins σ H s → RelV x v → Vals xs us → r x xs H Q →
    wpAny (model X.prog X.w) X.A (call (.builtin id) (v::us)) (EP X pins σ Q) X.xe s
section
variable {X:Cx} {a b:Expr} {ta tb:TE} {pos:Pos}
theorem pe_ix {r:R2} (hr:IxR X r) (ha:PE X a ta) (hb:PE X b tb) (hs:PlainIx b):PE X (.Subscript a b pos) (tOp r ta tb):=by
  intro pins s σ H Q I h
  exact Subscript_ (binT ha hb I h fun v u s2 x y H2 I2 rx ry q=>hr a b pins s2 σ H2 x y v u Q I2 rx ry q (hs _ _))
def rIxL (K:PySem.W.Frag):R2:=fun x y H Q=>∃p xs i v,x=.ref p∧y=.int i∧SqL K H p xs∧atI xs i=some v∧Q v H
def rIxT (K:PySem.W.Frag):R2:=fun x y H Q=>∃p xs i v,x=.ref p∧y=.int i∧SqT K H p xs∧atI xs i=some v∧Q v H
def rIxS:R2:=fun x y H Q=>∃z i c,x=.str z∧y=.int i∧z.length≤sizeLine∧atI z.cps.toList i=some c∧Q (.str ⟨#[c]⟩) H
theorem ix_list:IxR X (rIxL X.K):=by
  intro value slice pins s σ H x y v u Q I rx ry h hs
  obtain⟨p,xs,i,z,rfl,rfl,hq,he,q⟩:=h
  cases rx
  obtain⟨t,rfl⟩:=ry
  obtain⟨its,r,pl,hz⟩:=I.list hq
  obtain⟨j,h1,h2,h3,h4,h5⟩:=atI_get he
  obtain⟨w,ew,rw'⟩:=r.get h2
  have hl:=r.length
  have hn:=line63
  have fin:EP X pins σ Q w s:=⟨z,H,I,rw',q⟩
  by_cases h0:0≤i
  · have hj:i.toNat=j:=by
      rw[seqIndex_of h0 h5]at h1
      exact Option.some.inj h1
    exact item_listR pl.isList h0 (by omega) (by rw[hj];simpa using ew) fin hs
  · have hj:(i+(its.toArray.size:Int)).toNat=j:=by
      rw[seqIndex_neg (by omega) h4]at h1
      rw[List.size_toArray,←hl]
      exact Option.some.inj h1
    exact subscriptTail_builtinR (x:=w) pl.isList.typeIs slot_list_getitem.lookup
      (wpAny_getItem_list_neg (Q:=fun r s'=>r=w∧EP X pins σ Q r s') pl.isList (by omega) (by rw[List.size_toArray] <;> omega) (by omega) (by rw[hj];simpa using ew) ⟨rfl,fin⟩) hs
theorem ix_tup:IxR X (rIxT X.K):=by
  intro value slice pins s σ H x y v u Q I rx ry h hs
  obtain⟨p,xs,i,z,rfl,rfl,hq,he,q⟩:=h
  cases rx
  obtain⟨t,rfl⟩:=ry
  obtain⟨its,r,pl,hz⟩:=I.tuple hq
  obtain⟨j,h1,h2,h3,h4,h5⟩:=atI_get he
  obtain⟨w,ew,rw'⟩:=r.get h2
  have hl:=r.length
  have hn:=line63
  have fin:EP X pins σ Q w s:=⟨z,H,I,rw',q⟩
  exact subscriptTail_builtinR (x:=w) pl.typeIs slot_tuple_getitem.lookup
    (getItem_tuple (j:=j) (Q:=fun r s'=>r=w∧EP X pins σ Q r s') pl (by omega) (by omega) (by rw[List.size_toArray,←hl];exact h1) (by simpa using ew) ⟨rfl,fin⟩) hs
theorem ix_str:IxR X rIxS:=by
  intro value slice pins s σ H x y v u Q I rx ry h hs
  obtain⟨z,i,c,rfl,rfl,hz,he,q⟩:=h
  obtain⟨t,rfl⟩:=rx
  obtain⟨t',rfl⟩:=ry
  obtain⟨j,h1,h2,h3,h4,h5⟩:=atI_get he
  have hl:z.cps.toList.length=z.length:=by simp[Str.length]
  rw[hl]at h1 h4 h5
  have hn:=line63
  exact tail_any (typeIs_str s z t) slot_str_getitem.lookup (getItem_str (c:=c) (by
    have e1:decide (i< -(2^63:Int))=false:=decide_eq_false (by omega)
    have e2:decide (i≥2^63)=false:=decide_eq_false (by omega)
    rw[e1,e2,Bool.or_false]) (by rw[h1];simpa using h2) ⟨.str ⟨#[c]⟩,H,I.tok _,⟨_,rfl⟩,q⟩) hs
def flatV:V→Bool
  | .non=>true
  | .bl _=>true
  | .int _=>true
  | .str _=>true
  | _=>false
def eqV:V→V→Bool
  | .non,.non=>true
  | .bl a,.bl b=>a == b
  | .bl a,.int b=>(if a then 1 else 0) == b
  | .int a,.bl b=>a == (if b then 1 else 0)
  | .int a,.int b=>a == b
  | .str a,.str b=>a == b
  | _,_=>false
theorem eqAt_V {A:Around} {s:Shared} {y x:V} {u v:Value} (ry:RelV y u) (rx:RelV x v) (fy:flatV y=true) (fx:flatV x=true):SeqAt.EqAt A s u v (eqV y x):=by
  cases y with
  | non =>
    cases ry
    cases x with
    | non=>cases rx;exact SeqAt.EqAt.same _
    | bl b=>cases rx;exact SeqAt.EqAt.none_bool b
    | int b=>obtain⟨t,rfl⟩:=rx;exact SeqAt.EqAt.none_int b t
    | str b=>obtain⟨t,rfl⟩:=rx;exact SeqAt.EqAt.none_str b t
    | _=>exact absurd (show false=true from fx) Bool.false_ne_true
  | bl a =>
    cases ry
    cases x with
    | non=>cases rx;exact SeqAt.EqAt.bool_none a
    | bl b=>cases rx;exact SeqAt.EqAt.bool_bool a b
    | int b=>obtain⟨t,rfl⟩:=rx;exact SeqAt.EqAt.bool_int a b t
    | str b=>obtain⟨t,rfl⟩:=rx;exact SeqAt.EqAt.bool_str a b t
    | _=>exact absurd (show false=true from fx) Bool.false_ne_true
  | int a =>
    obtain⟨t',rfl⟩:=ry
    cases x with
    | non=>cases rx;exact SeqAt.EqAt.int_none a t'
    | bl b=>cases rx;exact SeqAt.EqAt.int_bool a t' b
    | int b=>obtain⟨t,rfl⟩:=rx;exact SeqAt.EqAt.int_int a t' b t
    | str b=>obtain⟨t,rfl⟩:=rx;exact SeqAt.EqAt.int_str a t' b t
    | _=>exact absurd (show false=true from fx) Bool.false_ne_true
  | str a =>
    obtain⟨t',rfl⟩:=ry
    cases x with
    | non=>cases rx;exact SeqAt.EqAt.str_none a t'
    | bl b=>cases rx;exact SeqAt.EqAt.str_bool a t' b
    | int b=>obtain⟨t,rfl⟩:=rx;exact SeqAt.EqAt.str_int a t' b t
    | str b=>obtain⟨t,rfl⟩:=rx;exact SeqAt.EqAt.str_str a t' b t
    | _=>exact absurd (show false=true from fx) Bool.false_ne_true
  | _=>exact absurd (show false=true from fy) Bool.false_ne_true
def eqU (x:V) (u:Value):Bool:=match u with
  | .none=>eqV .non x
  | .bool b=>eqV (.bl b) x
  | .int i _=>eqV (.int i) x
  | .str z _=>eqV (.str z) x
  | _=>false
theorem eqU_of {x y:V} {u:Value} (r:RelV y u) (f:flatV y=true):eqU x u=eqV y x:=by
  cases y with
  | non=>cases r;rfl
  | bl b=>cases r;rfl
  | int i=>obtain⟨t,rfl⟩:=r;rfl
  | str z=>obtain⟨t,rfl⟩:=r;rfl
  | _=>exact absurd (show false=true from f) Bool.false_ne_true
theorem any_eqU {x:V} :∀{xs:List V} {us:List Value},Vals xs us→xs.all flatV=true→us.any (eqU x)=xs.any fun y=>eqV y x
  | _,_,.nil,_=>rfl
  | y :: xs, u :: us, .cons r t, f => by
    rw[List.all_cons,Bool.and_eq_true]at f
    rw[List.any_cons,List.any_cons,eqU_of r f.1,any_eqU t f.2]
theorem mem_eqAt {A:Around} {s:Shared} {x:V} {v:Value} (rx:RelV x v) (fx:flatV x=true):∀{xs:List V} {us:List Value},Vals xs us→xs.all flatV=true→∀u∈us,SeqAt.EqAt A s u v (eqU x u)
  | _,_,.nil,_=>fun u hu=>by cases hu
  | y :: xs, u :: us, .cons r t, f => fun u' hu => by
    rw[List.all_cons,Bool.and_eq_true]at f
    rcases List.mem_cons.mp hu with rfl | hu
    · rw[eqU_of r f.1];exact eqAt_V r rx f.1 fx
    · exact mem_eqAt rx fx t f.2 u' hu
def inV (x:V) (xs:List V):Bool:=xs.any fun y=>eqV y x
def rIn (K:PySem.W.Frag) (neg:Bool):R2:=fun x y H Q=>∃p xs,y=.ref p∧(SqL K H p xs∨SqT K H p xs)∧flatV x=true∧xs.all flatV=true∧Q (.bl (if neg then !inV x xs else inV x xs)) H
theorem op_in_seq:OpR X (compareOp .In) (rIn X.K false):=by
  intro pins s σ H x y v u Q I rx ry h
  obtain⟨p,xs,rfl,hq,fx,fs,q⟩:=h
  cases ry
  rcases hq with hq | hq
  · obtain⟨its,r,pl,hz⟩:=I.list hq
    refine SeqAt.in_listAt (eqU x) pl.isList (fun w hw=>mem_eqAt rx fx r fs w (by simpa using hw)) ⟨.bl _,H,I,rfl,?_⟩
    rw[show its.toArray.any (eqU x)=its.any (eqU x) by simp,any_eqU r fs]
    exact q
  · obtain⟨its,r,pl,hz⟩:=I.tuple hq
    refine SeqAt.in_tupleAt (eqU x) pl (fun w hw=>mem_eqAt rx fx r fs w (by simpa using hw)) ⟨.bl _,H,I,rfl,?_⟩
    rw[show its.toArray.any (eqU x)=its.any (eqU x) by simp,any_eqU r fs]
    exact q
def tyV (K:PySem.W.Frag) (T:String) (x:V) (H:Hp):Prop:=match x with
  | .str _=>T="str"
  | .int _=>T="int"
  | .ref p=>(T="list" ∧∃xs,SqL K H p xs)∨(T="tuple" ∧∃o,K.lookup p=some o∧o.cls=.type "tuple" ∧o.dict=none)∨
      (T="dict" ∧((∃kvs,H p=some (.dK kvs))∨∃kvs,H p=some (.dT kvs)))∨(T="set" ∧∃S n,H p=some (.set S n))
  | _=>False
theorem tyV_is {pins:List (Addr×Obj)} {σ:St} {H:Hp} {s:Shared} {T:String} {x:V} {v:Value} (I:Inv X pins σ H s) (r:RelV x v) (ty:tyV X.K T x H):
    s.TypeIs v T∧∀a,v=.ref a→∃ob,s.heap.get? a=some ob∧ob.dict=none:=by
  cases x with
  | str z =>
    obtain⟨t,rfl⟩:=r
    cases (show T="str" from ty)
    exact⟨typeIs_str s z t,fun _ e=>nomatch e⟩
  | int i =>
    obtain⟨t,rfl⟩:=r
    cases (show T="int" from ty)
    exact⟨typeIs_int s i t,fun _ e=>nomatch e⟩
  | ref p =>
    cases r
    rcases ty with⟨rfl,xs,hq⟩ | ⟨rfl,o,hk,hc,hd⟩ | ⟨rfl,hk⟩ | ⟨rfl,S,n,hk⟩
    · obtain⟨its,_,pl,_⟩:=I.list hq
      refine⟨pl.isList.typeIs,fun a e=>?_⟩
      cases e
      obtain⟨o,n,e,c,hd,_⟩:=pl
      exact⟨o,e,hd⟩
    · refine⟨⟨o,I.kIn p o hk,hc⟩,fun a e=>?_⟩
      cases e
      exact⟨o,I.kIn _ o hk,hd⟩
    · have z:∃o,s.heap.get? p=some o∧o.ExactDict:=by
        rcases hk with⟨kvs,hk⟩ | ⟨kvs,hk⟩
        · obtain⟨_,_,_,_,o,_,_,e,ex,_⟩:=I.hok p _ hk
          exact⟨o,e,ex⟩
        · obtain⟨_,_,_,_,o,_,_,e,ex,_⟩:=I.hok p _ hk
          exact⟨o,e,ex⟩
      obtain⟨o,e,ex⟩:=z
      refine⟨⟨o,e,ex.1⟩,fun a e2=>?_⟩
      cases e2
      exact⟨o,e,ex.2.1⟩
    · obtain⟨o,_,_,_,e,ex,_⟩:=I.hok p _ hk
      refine⟨⟨o,e,ex.1⟩,fun a e2=>?_⟩
      cases e2
      exact⟨o,e,ex.2.1⟩
  | _=>exact False.elim ty
def tBM0 (K:PySem.W.Frag) (T:String) (r:V→List V→Hp→VK→Prop) (to:TE):TE:=fun σ H Q=>to σ H fun x H1=>tyV K T x H1∧r x [] H1 Q
def tBM (K:PySem.W.Frag) (T:String) (r:V→List V→Hp→VK→Prop) (to:TE) (t:TA):TE:=fun σ H Q=>to σ H fun x H1=>tyV K T x H1∧t σ H1 fun xs H2=>r x xs H2 Q
variable {o e:Expr} {es:List Expr} {to:TE} {t:TA} {name:Str} {apos cpos:Pos} {T id:String} {r:V→List V→Hp→VK→Prop}
theorem pe_bm0 (pa:PlainAttrs T) (slot:Slot T name id) (hty:typeOf (.builtin id)=pure (.type "method_descriptor")) (hm:MtR X id r) (ho:PE X o to)
    (hbase:attributeBase o name X.env (eval o X.env)=eval o X.env:=by rfl) (hline:(apos.endLine == cpos.line)=true:=by rfl):PE X (.Call (.Attribute o name apos) [] [] cpos) (tBM0 X.K T r to):=by
  intro pins s σ H Q I h
  refine wpAny_Call_method0_late hbase hline (thn (ho pins s σ H _ I h) fun v s1 ⟨x,H1,I1,r1,ty,q1⟩=>?_)
  obtain⟨h1,h2⟩:=tyV_is I1 r1 ty
  exact⟨T,id,pa,slot,hty,h1,h2,Calls.callWith_builtin rfl (PySem.evalArgs_none (hm pins s1 σ H1 x [] v [] Q I1 r1 .nil q1))⟩
theorem pe_bm (pa:PlainAttrs T) (slot:Slot T name id) (hty:typeOf (.builtin id)=pure (.type "method_descriptor")) (hm:MtR X id r) (ho:PE X o to) (ha:PA X (e::es) t)
    (hbase:attributeBase o name X.env (eval o X.env)=eval o X.env:=by rfl)
    (hfew:((backTo cpos (starEach (e::es) X.env)).all (fun x=> !x.1) && (backToKw cpos (keywordEach [] X.env)).all (fun x=>x.1.isSome)
      && decide ((e::es).length+([]:List Keyword).length+(if([]:List Keyword).isEmpty then 0 else 1)< 30))=true:=by rfl)
    (hline:(apos.endLine == cpos.line)=true:=by rfl) (hs:starEach (e::es) X.env=(false,eval e X.env)::starEach es X.env:=by rfl) (hplain:(backTo cpos (starEach es X.env)).any (·.1)=false:=by rfl):
    PE X (.Call (.Attribute o name apos) (e::es) [] cpos) (tBM X.K T r to t):=by
  intro pins s σ H Q I h
  refine wpAny_Call_method_late hbase hfew hline rfl (thn (ho pins s σ H _ I h) fun v s1 ⟨x,H1,I1,r1,ty,q1⟩=>?_)
  obtain⟨h1,h2⟩:=tyV_is I1 r1 ty
  refine⟨T,id,pa,slot,hty,h1,h2,?_⟩
  have hA:=ha cpos pins s1 σ H1 _ I1 q1
  rw[hs]at hA ⊢
  refine Calls.callWith_builtin (by show(false || (backTo cpos (starEach es X.env)).any (·.1))=false;rw[hplain] <;> rfl) (Calls.evalArgs_plain ?_)
  exact thn hA fun us s2 ⟨vs,H2,I2,r2,q2⟩=>hm pins s2 σ H2 x vs v us Q I2 r1 r2 q2
end
end L2
namespace L2
open PySem PySem.Spec PyProof.Rows
def MtM (X:Cx) (id:String) (r:V→List V→Hp→VK→Prop):Prop:=
  ∀ (pins : List (Addr × Obj)) (s : Shared) (σ : St) (H : Hp) (x : V) (xs : List V) (v : Value) (us : List Value) (Q : VK), Inv X pins σ H s → RelV x v → Vals xs us → r x xs H Q →
    wpAny (model X.prog X.w) X.A (call (.builtin id) (v::us)) (EP X pins σ Q) X.xe s
theorem Vals.one:∀{x:V} {us:List Value},Vals [x] us→∃u,us=[u]∧RelV x u
  | _,_,.cons r .nil=>⟨_,rfl,r⟩
theorem Vals.zero:∀{us:List Value},Vals [] us→us=[]
  | _,.nil=>rfl
theorem Vals.dropLast {xs:List V} {us:List Value} (h:Vals xs us):Vals xs.dropLast us.dropLast:=by
  induction h with
  | nil=>exact .nil
  | cons r t ih =>
    cases t with
    | nil=>exact .nil
    | cons q t'=>exact .cons r ih
theorem erase_last {α:Type} (l:List α):l.eraseIdx (l.length- 1)=l.dropLast:=by
  induction l with
  | nil=>rfl
  | cons a r ih =>
    cases r with
    | nil=>rfl
    | cons b r =>
      have e:(a::b::r).length- 1=((b::r).length- 1)+1:=by
        have h1:(a::b::r).length=r.length+2:=rfl
        have h2:(b::r).length=r.length+1:=rfl
        omega
      rw[e,List.eraseIdx_cons_succ,ih]
      all_goals rfl
section
variable {X:Cx} {pins:List (Addr×Obj)} {σ:St} {H:Hp} {s:Shared} {l b:Addr} {xs ys zs:List V}
theorem Inv.lset {its its':List Value} {n:Nat} {f:Array Value→Array Value} {t':Nat} (I:Inv X pins σ H s) (hH:H l=some (.lst xs))
    (e:s.heap.get? l=some {cls:=.type "list",data:=.seq its.toArray n}) (hf:f its.toArray=its'.toArray) (hv:Vals ys its') (hz:ys.length≤sizeLine):
    Inv X pins σ (upd H l (.lst ys)) {s with heap:=s.heap.update l (Obj.mapSeq f),toks:=t'} :=by
  have q:=PySem.IsL.update e f
  rw[hf]at q
  refine I.write (x:=l) (e:=l) (by rw[hH];exact trivial) (.inl rfl) (fun b' u hb hu=>(Heap.get?_update_other s.heap (Obj.mapSeq f) (Ne.symm hb)).trans hu) ⟨_,q⟩ ?_
  exact⟨hz,its',_,hv,q⟩
theorem Inv.lnew {its:List Value} {t':Nat} (I:Inv X pins σ H s) (hv:Vals ys its) (hz:ys.length≤sizeLine):
    Inv X pins σ (upd H s.heap.objs.size (.lst ys)) {s with heap:=s.heap.push {cls:=.type "list",data:=.seq its.toArray},toks:=t'} :=
  I.laid (fun _ _ q=>Heap.get?_push_of_some _ q) (Nat.le_refl _) ⟨hz,its,0,hv,Heap.get?_push_size _ rfl⟩
theorem Inv.fresh (I:Inv X pins σ H s):H s.heap.objs.size=none:=I.hok.fresh (Nat.le_refl _)
theorem Inv.lstM (I:Inv X pins σ H s) (hH:H l=some (.lst xs)):xs.length≤sizeLine∧∃(its:List Value) (n:Nat),Vals xs its∧xs.length=its.length∧s.heap.get? l=some {cls:=.type "list",data:=.seq its.toArray n} :=by
  obtain⟨z,its,n,r,e⟩:=I.hok l _ hH
  exact⟨z,its,n,r,r.length,e⟩
end
section
variable {X:Cx}
def rAppend:V→List V→Hp→VK→Prop:=fun x vs H Q=>∃l xs y,x=.ref l∧vs=[y]∧H l=some (.lst xs)∧xs.length< sizeLine∧Q .non (upd H l (.lst (xs++ [y])))
theorem mt_append:MtM X "list.append" rAppend:=by
  intro pins s σ H x vs v us Q I rx rv h
  obtain⟨l,xs,y,rfl,rfl,hH,hz,q⟩:=h
  cases rx
  obtain⟨u,rfl,ru⟩:=rv.one
  obtain⟨z,its,n,r,hl,e⟩:=I.lstM hH
  refine call_meets F.slot_list_append ⟨_,e,rfl⟩ F.entry_list_append (F.args_list_append_2 _ _) (PySem.list_append l its.toArray n u (by rw[List.size_toArray];omega)) ⟨e,?_⟩
  refine⟨.non,_,I.lset (its':=its++ [u]) hH e (by simp) (r.append (.cons ru .nil)) ?_,rfl,q⟩
  rw[List.length_append,List.length_singleton]
  omega
def rPop:V→List V→Hp→VK→Prop:=fun x vs H Q=>∃l xs y,x=.ref l∧vs=[]∧H l=some (.lst xs)∧xs[xs.length- 1]? =some y∧Q y (upd H l (.lst xs.dropLast))
theorem mt_pop:MtM X "list.pop" rPop:=by
  intro pins s σ H x vs v us Q I rx rv h
  obtain⟨l,xs,y,rfl,rfl,hH,hy,q⟩:=h
  cases rx
  have hus:=rv.zero
  subst hus
  obtain⟨z,its,n,r,hl,e⟩:=I.lstM hH
  obtain⟨u,hu,ru⟩:=r.get hy
  have hy':its.toArray[its.toArray.size- 1]? =some u:=by
    show its.toArray[its.length- 1]? =some u
    rw[←Array.getElem?_toList,←hl]
    exact hu
  refine call_meets F.slot_list_pop ⟨_,e,rfl⟩ F.entry_list_pop (F.args_list_pop_1 _) (MeetsSeq.list_pop_last l its.toArray n u hy' (by rw[List.size_toArray];omega)) ⟨e,?_⟩
  refine⟨y,_,I.lset (its':=its.dropLast) hH e ?_ r.dropLast ?_,ru,q⟩
  · show its.toArray.eraseIdxIfInBounds (its.toArray.size- 1)=its.dropLast.toArray
    rw[List.size_toArray,List.eraseIdxIfInBounds_toArray,erase_last]
  · rw[List.length_dropLast]
    omega
def rCat:R2:=fun x y H Q=>∃l b xs zs,x=.ref l∧y=.ref b∧H l=some (.lst xs)∧H b=some (.lst zs)∧xs.length+zs.length≤sizeLine∧∀p,H p=none→Q (.ref p) (upd H p (.lst (xs++zs)))
theorem op_cat:OpR X (binaryOp .Add) rCat:=by
  intro pins s σ H x y v u Q I rx ry h
  obtain⟨l,b,xs,zs,rfl,rfl,hH,hB,hz,q⟩:=h
  cases rx
  cases ry
  obtain⟨z,its,n,r,hl,e⟩:=I.lstM hH
  obtain⟨z2,its2,n2,r2,hl2,e2⟩:=I.lstM hB
  refine PySem.P.add_list e e2 ?_ (by rw[List.size_toArray,List.size_toArray];omega)
  have ea:its.toArray++its2.toArray=(its++its2).toArray:=by simp
  rw[ea]
  exact⟨.ref _,_,I.lnew (t':=s.toks) (r.append r2) (by rw[List.length_append];omega),rfl,q _ I.fresh⟩
end
end L2
namespace L2
open PySem PySem.Spec PyProof.Rows
section
variable {κ:Type} [DecidableEq κ]
def valV (kvs:List (κ×V)) (k:κ):Option V:=(kvs.find? fun kv=>decide (kv.1=k)).map (·.2)
def putK (kvs:List (κ×V)) (k:κ) (v:V):List (κ×V):=
  if(kvs.any fun kv=>decide (kv.1=k))=true then kvs.map (fun kv=>if kv.1=k then(kv.1,v)else kv)else kvs++ [(k,v)]
theorem valV_pos {p:κ×V} {r:List (κ×V)} {k:κ} (e:p.1=k):valV (p::r) k=some p.2:=by simp[valV,List.find?_cons,e]
theorem valV_neg {p:κ×V} {r:List (κ×V)} {k:κ} (e:¬p.1=k):valV (p::r) k=valV r k:=by simp[valV,List.find?_cons,e]
theorem length_putK (kvs:List (κ×V)) (k:κ) (v:V):(putK kvs k v).length≤kvs.length+1:=by
  unfold putK
  split
  · rw[List.length_map];omega
  · rw[List.length_append,List.length_cons,List.length_nil];omega
theorem KV.val {kvs:List (κ×V)} {vs:List (κ×Value)} (r:KV kvs vs) (k:κ):RelO (valV kvs k) (valueAt vs k):=by
  unfold KV at r
  induction r with
  | nil=>exact True.intro
  | @cons p q ps qs h t ih =>
    obtain⟨h1,h2⟩:=h
    by_cases e:p.1=k
    · have e':q.1=k:=h1.symm.trans e
      have b:valueAt (q::qs) k=some q.2:=by simp[valueAt,List.find?_cons,e']
      rw[valV_pos e,b];exact h2
    · have e':¬q.1=k:=fun z=>e (h1.trans z)
      have b:valueAt (q::qs) k=valueAt qs k:=by simp[valueAt,List.find?_cons,e']
      rw[valV_neg e,b];exact ih
theorem KV.any {kvs:List (κ×V)} {vs:List (κ×Value)} (r:KV kvs vs) (k:κ):(kvs.any fun kv=>decide (kv.1=k))=vs.any fun kv=>decide (kv.1=k):=by
  unfold KV at r
  induction r with
  | nil=>rfl
  | cons h t ih=>rw[List.any_cons,List.any_cons,ih,h.1]
theorem KV.repl {kvs:List (κ×V)} {vs:List (κ×Value)} (r:KV kvs vs) (k:κ) {y:V} {u:Value} (ry:RelV y u):
    KV (kvs.map fun kv=>if kv.1=k then(kv.1,y)else kv) (vs.map fun kv=>if kv.1=k then(kv.1,u)else kv):=by
  unfold KV at r ⊢
  induction r with
  | nil=>exact .nil
  | @cons p q ps qs h t ih =>
    rw[List.map_cons,List.map_cons]
    refine .cons ?_ ih
    obtain⟨h1,h2⟩:=h
    by_cases e:p.1=k
    · rw[if_pos e,if_pos (h1.symm.trans e)];exact⟨h1,ry⟩
    · rw[if_neg e,if_neg (fun z=>e (h1.trans z))];exact⟨h1,h2⟩
theorem KV.put {kvs:List (κ×V)} {vs:List (κ×Value)} (r:KV kvs vs) (k:κ) {y:V} {u:Value} (ry:RelV y u):KV (putK kvs k y) (stored vs k u):=by
  unfold putK stored
  rw[r.any k]
  by_cases e:(vs.any fun kv=>decide (kv.1=k))=true
  · rw[if_pos e,if_pos e];exact r.repl k ry
  · rw[if_neg e,if_neg e];exact Paired.snoc r ⟨rfl,ry⟩
end
theorem kV_is {P:Program} {w:World} {k:Key} {u:Value} (r:RelV (kV k) u):(mixKind P w).is k u=true:=by
  cases k with
  | inl i=>obtain⟨t,e⟩:=(show ∃t,u=Value.int i t from r);subst e;exact mixKind_int P w i t
  | inr x=>obtain⟨t,e⟩:=(show ∃t,u=Value.str x t from r);subst e;exact mixKind_str P w x t
theorem items_are {P:Program} {w:World} :∀{ks:List Key} {us:List Value},Vals (ks.map kV) us→ItemsAre (mixKind P w) ks us
  | [],_,r=>by rw[List.map_nil]at r;cases r;exact .nil
  | k :: ks, _, r => by
    rw[List.map_cons]at r
    cases r with
    | cons h t=>exact .cons (kV_is h) (items_are t)
abbrev KT (H:Hp):List (List Key×V)→List (List Key×Addr×Value)→Prop:=Paired fun p q=>p.1=q.1∧H q.2.1=some (.tup (p.1.map kV))∧RelV p.2 q.2.2
theorem KT.val {H:Hp} {kvs:List (List Key×V)} {xs:List (List Key×Addr×Value)} (r:KT H kvs xs) (k:List Key):RelO (valV kvs k) ((atKey xs k).map (·.2)):=by
  induction r with
  | nil=>exact True.intro
  | @cons p q ps qs h t ih =>
    obtain⟨h1,_,h2⟩:=h
    by_cases e:p.1=k
    · have e':q.1=k:=h1.symm.trans e
      have b:atKey (q::qs) k=some q.2:=by simp[atKey,List.find?_cons,e']
      rw[valV_pos e,b];exact h2
    · have e':¬q.1=k:=fun z=>e (h1.trans z)
      have b:atKey (q::qs) k=atKey qs k:=by simp[atKey,List.find?_cons,e']
      rw[valV_neg e,b];exact ih
section
variable {P:Program} {w:World} {H:Hp} {h:Heap} {a:Addr}
theorem rd_of {u:HO} (ok:HOk P w H h) (e:Rd H a u):ObjOk P w H h a u:=e.ok ok
theorem dk_rd {kvs:List (Key×V)} (ok:HOk P w H h) (e:Rd H a (.dK kvs)):kvs.length≤sizeLine∧(a == sysModules)=false∧∃vs,KV kvs vs∧h.DictOf (mixKind P w) a vs:=
  show ObjOk P w H h a (.dK kvs)from rd_of ok e
theorem dk_of {kvs:List (Key×V)} (ok:HOk P w H h) (e:H a=some (.dK kvs)):kvs.length≤sizeLine∧(a == sysModules)=false∧∃vs,KV kvs vs∧h.DictOf (mixKind P w) a vs:=dk_rd ok (.inl e)
theorem key_of {ks:List Key} (ok:HOk P w H h) (e:H a=some (.tup (ks.map kV))):(tupleKind (mixKind P w)).is h ks a:=by
  obtain⟨_,its,r,o,h1,h2,n,h3⟩:=(show ObjOk P w H h a (.tup (ks.map kV))from ok a _ e)
  exact⟨o,its.toArray,n,h1,h2,h3,by simpa using items_are r⟩
theorem dt_rd {kvs:List (List Key×V)} (ok:HOk P w H h) (e:Rd H a (.dT kvs)):kvs.length≤sizeLine∧(a == sysModules)=false∧
    ∃xs,KT H kvs xs∧h.DictOfH (tupleKind (mixKind P w)) a xs:=by
  obtain⟨z,y,xs,r,o,es,ep,h1,h2,h3,h4,h5⟩:=(show ObjOk P w H h a (.dT kvs)from rd_of ok e)
  refine⟨z,y,xs,r,o,es,ep,h1,h2,h3,h4,fun x hx=>?_,h5⟩
  have all:∀{l:List (List Key×V)} {m:List (List Key×Addr×Value)},KT H l m→∀x∈m,(tupleKind (mixKind P w)).is h x.1 x.2.1:=by
    intro l m q
    induction q with
    | nil=>intro x hx;exact nomatch hx
    | @cons p q ps qs hq t ih =>
      intro x hx
      rcases List.mem_cons.mp hx with e | hx
      · subst e
        exact key_of ok (by rw[←hq.1];exact hq.2.1)
      · exact ih x hx
  exact all r x hx
end
def DGet (H:Hp) (a:Addr) (y:V) (r:Option V):Prop:=
  (∃kvs k,Rd H a (.dK kvs)∧y=kV k∧r=valV kvs k)∨∃kvs k b,Rd H a (.dT kvs)∧y=.ref b∧H b=some (.tup (k.map kV))∧r=valV kvs k
theorem DGet.k {H:Hp} {a:Addr} {kvs:List (Key×V)} {k:Key} (e:H a=some (.dK kvs)):DGet H a (kV k) (valV kvs k):=.inl ⟨kvs,k,.inl e,rfl,rfl⟩
section
variable {X:Cx} {pins:List (Addr×Obj)} {σ:St} {H:Hp} {s:Shared} {a:Addr} {y v:V} {u r:Value} {o:Option V} {A:Around} {E:Value→Shared→Prop}
theorem Inv.big (I:Inv X pins σ H s):sysModules< s.heap.objs.size:=by
  have h:mainGlobals< s.heap.objs.size:=(I.mod.glob.keeps I.bk).lt
  exact Nat.lt_trans (by decide) h
theorem d_getItem {Q:Value→Shared→Prop} (hu:A.units+1< cLine) (I:Inv X pins σ H s) (g:DGet H a y (some v)) (ry:RelV y u) (h:∀w' s',Inv X pins σ H s'→RelV v w'→Q w' s'):
    wpAny (model X.prog X.w) A (getItem (.ref a) u) Q E s:=by
  rcases g with⟨kvs,k,e,ey,l⟩ | ⟨kvs,k,b,e,ey,eb,l⟩
  · subst ey
    obtain⟨z,hd,vs,rel,dd⟩:=dk_rd I.hok e
    obtain⟨w',hw,rw'⟩:=RelO.some_of (v:=v) (o:=valueAt vs k) (by rw[l];exact rel.val k)
    exact wpAny_getItem_of (kV_is ry) dd.mapOf hw (h w' _ (I.tok _) rw')
  · subst ey
    cases (show u=Value.ref b from ry)
    obtain⟨z,hd,xs,rel,dd⟩:=dt_rd I.hok e
    obtain⟨w',hw,rw'⟩:=RelO.some_of (v:=v) (o:=(atKey xs k).map (·.2)) (by rw[l];exact rel.val k)
    obtain⟨p,hp,hp2⟩:=Option.map_eq_some_iff.mp hw
    refine wpAny_getItem_heap (tupleKind_room_in1 hu) (key_of I.hok eb) dd hp ?_
    rw[hp2]
    exact h w' _ (I.tok _) rw'
theorem d_write {h':Heap} {t':Nat} {ob:HO} (I:Inv X pins σ H s) (mu:Mut (H a)) (hs:Heap.SameBut a s.heap h') (he:∃q,h'.get? a=some q) (new:ObjOk X.prog X.w (upd H a ob) h' a ob):
    Inv X pins σ (upd H a ob) {s with heap:=h',toks:=t'} :=
  I.write (x:=a) (e:=a) mu (.inl rfl) (fun b q hb z=>(hs.2 b hb).trans z) he new
theorem dk_new {P:Program} {w:World} {H':Hp} {h':Heap} {kvs:List (Key×V)} {vs:List (Key×Value)} (z:kvs.length≤sizeLine) (hd:(a == sysModules)=false) (rel:KV kvs vs) (dd:h'.DictOf (mixKind P w) a vs):
    ObjOk P w H' h' a (.dK kvs):=⟨z,hd,vs,rel,dd⟩
end
def NoSl (i:Expr):Prop:=∀ov iv,subscripted i false ov iv=operate [ov,iv] (getItem ov iv)
theorem subD_of {prog:Program} {w:World} {A:Around} {E:Value→Shared→Prop} {s:Shared} {env:Env} {value slice:Expr} {pos:Pos} {T id:String} {Q:Value→Shared→Prop}
    (hl:typeLookup (.type T) "__getitem__" =pure (some (.builtin id))) (hs:NoSl slice)
    (h:wpAny (model prog w) A (eval value env) (fun o s₁=>wpAny (model prog w) A (eval slice env) (fun i s₂=>s₂.TypeIs o T∧wpAny (model prog w) A (getItem o i) Q E s₂) E s₁) E s):
    wpAny (model prog w) A (eval (.Subscript value slice pos) env) Q E s:=by
  refine Subscript_ (wpAny_mono h (fun o s₁ h₁=>wpAny_mono h₁ (fun i s₂ h₂=>?_) fun _ _ x=>x) fun _ _ x=>x)
  obtain⟨hT,h₂⟩:=h₂
  unfold subscriptTail
  refine wpAny_bind ?_
  rw[getitemInPython_of_ne hT.not_modules]
  refine wpAny_bind (wpAny_specialOf hT hl ?_)
  have fin:wpAny (model prog w) A (subscripted slice false o i) (fun r s₃=>wpAny (model prog w) A (letTemporaryGo value o r >>= fun _=>pure r) Q E s₃) E s₂:=by
    rw[hs o i]
    exact wpAny_operating (wpAny_mono h₂ (fun r s₃ h₃=>wpAny_bind (wpAny_letTemporaryGo (wpAny_pure h₃))) fun _ _ x=>x)
  first
    | exact wpAny_pure (wpAny_bind fin)
    | exact wpAny_bind (wpAny_pure (wpAny_bind fin))
    | exact wpAny_bind fin
theorem dict_typeIs {X:Cx} {pins:List (Addr×Obj)} {σ:St} {H:Hp} {s:Shared} {a:Addr} {y:V} {o:Option V} (I:Inv X pins σ H s) (g:DGet H a y o):s.TypeIs (.ref a) "dict" :=by
  rcases g with⟨kvs,k,e,_,_⟩ | ⟨kvs,k,b,e,_,_,_⟩
  · obtain⟨_,_,vs,_,dd⟩:=dk_rd I.hok e
    exact dd.typeIs
  · obtain⟨_,_,xs,_,dd⟩:=dt_rd I.hok e
    exact dd.typeIs
def tDGet (td ty:TE):TE:=fun σ H Q=>td σ H fun x H1=>ty σ H1 fun y H2=>∃a v,x=.ref a∧DGet H2 a y (some v)∧Q v H2
section
variable {X:Cx} {o i e value:Expr} {pos pos' tpos:Pos} {td ty tv:TE}
theorem pe_dget (hu:X.A.units+1< cLine) (ho:PE X o td) (hi:PE X i ty) (hs:NoSl i):PE X (.Subscript o i pos) (tDGet td ty):=by
  intro pins s σ H Q I h
  refine subD_of PySem.F.slot_dict_getitem.lookup hs (thn (ho pins s σ H _ I h) fun u s1 ⟨x,H1,I1,rx,q1⟩=>thn (hi pins s1 σ H1 _ I1 q1) fun iv s2 ⟨y,H2,I2,ry,a,v,ex,g,q2⟩=>?_)
  subst ex
  obtain rfl:u=Value.ref a:=rx
  exact⟨dict_typeIs I2 g,d_getItem hu I2 g ry fun w' s3 I3 rw'=>⟨v,H2,I3,rw',q2⟩⟩
end
theorem dk_empty {P:Program} {w:World} {H:Hp} (h:Heap) (hb:sysModules< h.objs.size):ObjOk P w H (h.push {cls:=.type "dict",data:=.dict #[]}) h.objs.size (.dK []):=
  ⟨Nat.zero_le _,beq_eq_false_iff_ne.mpr (Ne.symm (Nat.ne_of_lt hb)),[],.nil,Heap.DictOf.new h⟩
def tPairs:List (TE×TE)→St→Hp→(List (V×V)→Hp→Prop)→Prop
  | [],_,H,Q=>Q [] H
  | (tk,tv)::r,σ,H,Q=>tk σ H fun x H1=>tv σ H1 fun y H2=>tPairs r σ H2 fun ps H3=>Q ((x,y)::ps) H3
abbrev VV:List (V×V)→List (Value×Value)→Prop:=Paired fun p q=>RelV p.1 q.1∧RelV p.2 q.2
def PPs (X:Cx) (pos:Pos) (keys:List (Option Expr)) (values:List Expr) (trs:List (TE×TE)):Prop:=
  ∀ (pins : List (Addr × Obj)) (s : Shared) (σ : St) (H : Hp) (Q : List (V × V) → Hp → Prop), Inv X pins σ H s → tPairs trs σ H Q →
    wpAny (model X.prog X.w) X.A (evalPairs (pairTrees keys values X.env pos)) (fun vs s'=>∃ps H',Inv X pins σ H' s'∧VV ps vs∧Q ps H') X.xe s
theorem pps_nil {X:Cx} {pos:Pos} :PPs X pos [] [] []:=fun pins s σ H Q I h=>pairTrees_nil_walk ⟨[],H,I,.nil,h⟩
theorem pps_cons {X:Cx} {pos:Pos} {k v:Expr} {ks:List (Option Expr)} {vs:List Expr} {tk tv:TE} {trs:List (TE×TE)} (hk:PE X k tk) (hv:PE X v tv) (hr:PPs X pos ks vs trs):
    PPs X pos (some k::ks) (v::vs) ((tk,tv)::trs):=fun pins s σ H Q I h=>
  pairTrees_cons_walk (thn (hk pins s σ H _ I h) fun u s1 ⟨x,H1,I1,rx,q1⟩=>thn (hv pins s1 σ H1 _ I1 q1) fun w2 s2 ⟨y,H2,I2,ry,q2⟩=>
    thn (hr pins s2 σ H2 _ I2 q2) fun ws s3 ⟨ps,H3,I3,rel,q3⟩=>⟨(x,y)::ps,H3,I3,.cons ⟨rx,ry⟩ rel,q3⟩)
def mergeK (kvs more:List (Key×V)):List (Key×V):=more.foldl (fun acc kv=>putK acc kv.1 kv.2) kvs
theorem KV.merge:∀{more:List (Key×V)} {rs:List (Key×Value)} {kvs:List (Key×V)} {vs:List (Key×Value)},KV more rs→KV kvs vs→KV (mergeK kvs more) (merged vs rs):=by
  intro more rs kvs vs r
  unfold KV at r
  induction r generalizing kvs vs with
  | nil=>intro q;exact q
  | @cons p q ps qs h t ih =>
    intro r0
    have e:KV (putK kvs p.1 p.2) (stored vs q.1 q.2):=by
      have:=r0.put p.1 h.2
      rw[←h.1];exact this
    exact ih e
theorem length_mergeK:∀(more kvs:List (Key×V)),(mergeK kvs more).length≤kvs.length+more.length
  | [],kvs=>by show kvs.length≤kvs.length+0;omega
  | p :: r, kvs => by
    have h1:=length_mergeK r (putK kvs p.1 p.2)
    have h2:=length_putK kvs p.1 p.2
    show(mergeK (putK kvs p.1 p.2) r).length≤_
    rw[List.length_cons];omega
theorem carries_of {P:Program} {w:World} :∀{kvs:List (Key×V)} {ws:List (Value×Value)},VV (kvs.map fun kv=>(kV kv.1,kv.2)) ws→∃rs,Carries (mixKind P w) ws rs∧KV kvs rs
  | [],_,r=>by rw[List.map_nil]at r;cases r;exact⟨[],True.intro,.nil⟩
  | p :: kvs, _, r => by
    rw[List.map_cons]at r
    cases r with
    | @cons a b as bs h t =>
      obtain⟨rs,c,q⟩:=carries_of (P:=P) (w:=w) t
      obtain⟨b1,b2⟩:=b
      exact⟨(p.1,b2)::rs,⟨kV_is h.1,rfl,c⟩,.cons ⟨rfl,h.2⟩ q⟩
def tDisp (trs:List (TE×TE)):TE:=fun σ H Q=>∀p,H p=none→tPairs trs σ (upd H p (.dK [])) fun ps H2=>H2 p=some (.dK [])∧∃kvs:List (Key×V),ps=kvs.map (fun kv=>(kV kv.1,kv.2))∧kvs.length≤15∧Q (.ref p) (upd H2 p (.dK (mergeK [] kvs)))
theorem pe_disp {X:Cx} {pos:Pos} {keys:List (Option Expr)} {values:List Expr} {trs:List (TE×TE)} (h:PPs X pos keys values trs) (hall:keys.all (·.isSome)=true) (hl:keys.length=values.length) (h0:keys≠[])
    (h15:keys.length≤15):PE X (.Dict keys values pos) (tDisp trs):=by
  intro pins s σ H Q I q
  have hn:=I.hok.fresh (Nat.le_refl s.heap.objs.size)
  have I1:=I.laid (a:=s.heap.objs.size) (o:=.dK []) (h':=s.heap.push {cls:=.type "dict",data:=.dict #[]}) (t':=s.toks) (fun _ _ q=>Heap.get?_push_of_some _ q) (Nat.le_refl _) (dk_empty s.heap I.big)
  refine wpAny_Dict_walk (knd:=mixKind X.prog X.w) hall hl h0 h15 (thn (h pins _ σ _ _ I1 (q _ hn)) fun ws s2 ⟨ps,H2,I2,rel,e,kvs,ep,lk,q2⟩=>?_)
  subst ep
  obtain⟨rs,c,rk⟩:=carries_of (P:=X.prog) (w:=X.w) rel
  obtain⟨z,hd,vs0,r0,dd⟩:=dk_of I2.hok e
  cases r0
  refine⟨rs,c,dd,fun h' dd' hs=>⟨.ref s.heap.objs.size,_,?_,rfl,q2⟩⟩
  have hz:(mergeK [] kvs).length≤sizeLine:=by
    have h1:=length_mergeK kvs []
    rw[List.length_nil]at h1
    rw[sizeLine_eq];omega
  have he:∃q,h'.get? s.heap.objs.size=some q:=let ⟨q,_,_,hq,_⟩:=dd';⟨q,hq⟩
  exact d_write I2 (by rw[e];exact True.intro) hs he (dk_new hz hd (rk.merge .nil) dd')
end L2
namespace Att
open PySem PySem.W PySem.Calls PyProof.Rows
theorem ints_of_wellAll {P:Params} {h:Heap} :∀(ns:List Int) (vs:List Value),WellAll P h vs (ns.map WData.int)→IntsAre vs ns:=by
  intro ns
  induction ns with
  | nil =>
    intro vs w
    rw[List.map_nil]at w
    cases w
    exact .nil
  | cons n ns ih =>
    intro vs w
    rw[List.map_cons]at w
    cases w with
    | cons a b =>
      cases a
      exact .cons _ _ (ih _ b)
theorem script_of {l:OpenLaw} {n:Nat} (hn:l.most=some n) {P:Params} {h:Heap} {args:List WData} {vals:List Value}
    (hpre:l.row.toRowW.claim.pre args=true) (hwl:WellAll P h vals args):
    ∃a vs ns,vals=[Value.ref a]∧args=[WData.list (ns.map WData.int)]∧h.get? a=some {cls:=.type "list",data:=.seq vs.toArray}∧IntsAre vs ns∧ns.length≤n:=by
  have hsh:WShape.hasAll [] args [.list .int]=true:=(pre_splitW hpre).1
  have hc:l.pre.holds [] {args:=args} =true:=(pre_splitW hpre).2
  obtain⟨d,r,rfl,h1,h2⟩:=hasAllW_cons hsh
  obtain rfl:=hasAllW_nil h2
  obtain⟨xs,rfl,h3⟩:=hasW_list h1
  obtain⟨ns,rfl⟩:=items_int h3
  have hlen:ns.length≤n:=by
    unfold OpenLaw.pre at hc
    have h4:(WTm.not (.lt (.lit (.int (n:Int))) (.len (.arg 0)))).holds [] {args:=[.list (ns.map .int)]} =true:=by
      have h4:=(holds_andW hc).1
      rw[hn]at h4
      exact h4
    have h5:=condW_of h4 (w_not (w_lt w_lit (w_len_list (w_arg rfl))))
    rw[List.length_map]at h5
    refine Nat.le_of_not_lt fun q=>?_
    have q':(n:Int)< ((ns.length:Nat):Int):=by omega
    first
      | (rw[decide_eq_true q']at h5;exact absurd h5 (by decide))
      | (simp at h5;omega)
  cases hwl with
  | cons w1 w2 =>
    cases w2
    cases w1 with
    | list ho hall=>exact⟨_,_,ns,rfl,rfl,ho,ints_of_wellAll ns _ hall,hlen⟩
theorem post_true (l:OpenLaw) (args:List WData):l.row.toRowW.claim.post args (.bool true) args=true:=
  postW_of (r:=l.row.toRowW) (X:=(true == true))
    (show WShape.has [] (.bool true) .bool=true by first | rfl | decide | simp[WShape.has,WShape.arms,WShape.armsAll])
    (show(WTm.eq .res (.lit (.bool true))).value [] {args:=args,res:=some (.bool true),after:=args} =some (.bool (true == true))from w_eq_bool (w_res rfl) w_lit) rfl
theorem attach_call {l:OpenLaw} {n:Nat} {q:Program} {loose:List Str} {XP:(Str→Option Value)→Heap→Prop} {YP:World→Heap→Prop} {d:DefRec}
    (hn:l.most=some n) (hdf:d.params.defaults=[])
    (call:∀(w:World) (s₀ s₁:Shared) (mg mb:Str→Option Value) (fa:Addr) (o:Obj) (pm cd doc:Value) (a:Addr) (vs:List Value) (ns:List Int),
      Ground q loose [] XP w s₀ mg mb s₁.heap→YP w s₁.heap→
      s₁.heap.get? fa=some o→o.data=.func (docDef d.name d.params d.body d.scope pm cd doc)→s₁.heap.CodeRec cd d.name→mg d.name=some (.ref fa)→
      s₁.heap.get? a=some {cls:=.type "list",data:=.seq vs.toArray}→IntsAre vs ns→ns.length≤n→s₁.gens= #[]→
      codeAny (model l.prog w) callerA (.call (.ref fa) ⟨[.ref a],[]⟩) (fun r s'=>r=.ok (.ret (.bool true))∧OldK s₁.heap s'.heap∧s'.os=s₁.os∧AllBare s'.gens) s₁):
    WalkO q loose XP YP l.row.toRowW d [] (fun f vs=>PySem.call f vs):=by
  intro w s₀ s₁ mg mb G Y fa o pm cd doc dV kV ho hd hcd hD hmg hg args vals as hpre hlay hrd hwl hlo
  obtain rfl:dV=.none:=Dflts.none hD hdf
  obtain rfl:kV=.none:=Dflts.noKw hD
  obtain⟨a,vs,ns,rfl,rfl,hobj,hints,hlen⟩:=script_of hn hpre hwl
  refine enter_call (codeAny_mono (call w s₀ s₁ mg mb fa o pm cd doc a vs ns G Y ho (fd_plain hd) hcd hmg hobj hints hlen hg) fun r s' hq=>?_)
  obtain⟨rfl,h2,h3,h4⟩:=hq
  exact⟨.inl ⟨.bool true,.bool true,[],rfl,fun _=>rfl,.bool true,post_true l _,fun _=>⟨List.Pairwise.nil,fun _ hm=>(nomatch hm)⟩⟩,h2,h3,h4⟩
end Att
namespace L2
open PySem PySem.Spec PyProof.Rows
theorem vals_ints:∀{vs:List Value} {ns:List Int},IntsAre vs ns→Vals (ns.map V.int) vs
  | _,_,.nil=>.nil
  | _,_,.cons n t h=>.cons ⟨t,rfl⟩ (vals_ints h)
def Only (H:Hp):Prop:=∀b,H b=none∨∃o xs,H b=some (.frz o (.lst xs))
theorem law_call {P:Program} {w:World} {K:PySem.W.Frag} {mg mb:Str→Option Value} {CX:CXT} {k:Nat} {fa a:Addr} {fd:FuncData} {x:Str} {sp:Sp} {s₁:Shared} {vs:List Value} {ns:List Int}
    (KX:K.In s₁.heap) (hns:s₁.heap.Ns mainGlobals mg) (hb:s₁.heap.Ns builtinsNs mb) (hbb:∀x:Str,x≠"__name__" →mb x=bootBuiltins x) (hlim:s₁.heap.NoLimit) (hg:s₁.gens= #[])
    (ha:s₁.heap.get? a=some {cls:=.type "list",data:=.seq vs.toArray}) (hi:IntsAre vs ns) (hl:ns.length≤sizeLine) (hr:Room k callerA)
    (F:∀base:Heap,K.In base→base.Ns mainGlobals mg→FnOk P w K mg base CX k fa fd [x] sp) (hbind:∀(s:Shared) (u:Value),BindsTo s fd ⟨[u],[]⟩ [(x,u)])
    (hsp:∀H:Hp,Only H→SqL K H a (ns.map V.int)→sp [.ref a] H (fun v _=>v=.bl true) fun _ _ _=>False)
    (hCX:∀H e s',CX [] H s₁ (fun _ _ _=>False) e s'→False):
    codeAny (model P w) callerA (.call (.ref fa) ⟨[.ref a],[]⟩) (fun r s'=>r=.ok (.ret (.bool true))∧OldK s₁.heap s'.heap∧s'.os=s₁.os∧AllBare s'.gens) s₁:=by
  have rv:=vals_ints hi
  have lenV:=hi.length
  have core:∀H:Hp,Only H→SqL K H a (ns.map V.int)→HOk P w H s₁.heap→(∀b,H b≠none→b=a)→(H a≠none→K.lookup a=none)→
      codeAny (model P w) callerA (.call (.ref fa) ⟨[.ref a],[]⟩) (fun r s'=>r=.ok (.ret (.bool true))∧OldK s₁.heap s'.heap∧s'.os=s₁.os∧AllBare s'.gens) s₁:=by
    intro H hO hS hok hA hK
    have base_of:∀{b:Addr} {o:Obj},s₁.heap.get? b=some o→H b=none→(hidT s₁.heap H).get? b=some o:=fun e n=>hidT_get e n
    have noA:∀{b:Addr} {o:Obj} {es:Array DictEntry} {ep:Nat},s₁.heap.get? b=some o→o.data=.dict es ep→H b=none:=fun {b o es ep} e d=>by
      cases q:H b with
      | none=>rfl
      | some u =>
        have e':b=a:=hA b (by rw[q];simp)
        subst e'
        rw[ha]at e;cases e
        have d':Data.seq vs.toArray _=Data.dict es ep:=d
        cases d'
    have nsK:∀{b:Addr} {m:Str→Option Value},s₁.heap.Ns b m→(hidT s₁.heap H).Ns b m:=fun {b m} ⟨o,es,ep,e,d,r⟩=>⟨o,es,ep,base_of e (noA e d),d,r⟩
    have hKb:K.In (hidT s₁.heap H):=fun b o e=>base_of (KX b o e) (by
      cases q:H b with
      | none=>rfl
      | some u =>
        have e':b=a:=hA b (by rw[q];simp)
        subst e'
        rw[hK (by rw[q];simp)]at e;cases e)
    have hM:Mod K mg (hidT s₁.heap H):=⟨hKb,nsK hns,⟨mb,nsK hb,hbb⟩,let ⟨mc,h1,h2⟩:=hlim;⟨mc,nsK h1,h2⟩⟩
    have e0:Env0 P w K mg (hidT s₁.heap H) callerA [] s₁ H:=⟨rfl,hM,fun b o e=>of_hidT e,Nat.le_of_eq (hidT_size _ _),trivial,fun b hb=>absurd (show b∈([]:List Addr)from hb) (by simp),hok,.of_eq hg⟩
    refine codeAny_mono ((F _ hKb (nsK hns)).run callerA [] s₁ H ⟨[.ref a],[]⟩ [.ref a] [.ref a] _ _ hr e0 (hbind s₁ (.ref a)) (.cons rfl .nil) (hsp H hO hS)) fun r s' h=>?_
    cases r with
    | error e=>exact(hCX H e s' h).elim
    | ok fl =>
      cases fl with
      | next=>exact False.elim h
      | brk=>exact False.elim h
      | cont=>exact False.elim h
      | ret u =>
        obtain⟨v,H',os,bare,un,hok',r',q⟩:=h
        have q':v=.bl true:=q
        subst q'
        obtain rfl:u=Value.bool true:=r'
        refine⟨rfl,OldK.of_keep fun b o e=>?_,os,bare⟩
        cases q:H b with
        | none=>exact un.keep b o e q (by intro z;exact absurd (show b∈([]:List Addr)from z) (by simp)) (by simp)
        | some u =>
          rcases hO b with z | ⟨ob,xs,z⟩
          · rw[q]at z;cases z
          · have z2:=un.frzs b ob _ z
            obtain⟨e1,_⟩:=hok b _ z
            obtain⟨e2,_⟩:=hok' b _ z2
            rw[e]at e1;cases e1
            exact e2
  cases hk:K.lookup a with
  | some o =>
    have e:=KX a o hk
    rw[ha]at e
    cases e
    refine core (fun _=>none) (fun _=>.inl rfl) (.inr ⟨_,vs.toArray,_,hk,rfl,rfl,rfl,by rw[List.size_toArray,lenV];exact hl,by simpa using rv⟩) (fun b u z=>by have z':(none:Option HO)=some u:=z;cases z') (fun b z=>absurd rfl z) fun z=>absurd rfl z
  | none =>
    refine core (fun b=>if b=a then some (.frz {cls:=.type "list",data:=.seq vs.toArray} (.lst (ns.map V.int)))else none) (fun b=>?_) (.inl (.inr ⟨{cls:=.type "list",data:=.seq vs.toArray},if_pos rfl⟩)) (fun b u z=>?_) (fun b z=>?_) fun _=>hk
    · by_cases hb:b=a
      · exact .inr ⟨_,_,if_pos hb⟩
      · exact .inl (if_neg hb)
    · by_cases hb:b=a
      · have z':=(if_pos hb).symm.trans z
        cases z'
        subst hb
        exact⟨ha,by rw[List.length_map];exact hl,vs,_,rv,ha⟩
      · have z':=(if_neg hb).symm.trans z
        cases z'
    · by_cases hb:b=a
      · exact hb
      · exact absurd (if_neg hb) z
end L2
namespace L2
open PySem PySem.Spec PyProof.Rows
theorem walk_of {l:PySem.W.OpenLaw} {n k:Nat} {q:Program} {loose:List Str} {XP:(Str→Option Value)→Heap→Prop} {YP:World→Heap→Prop} {d:DefRec} {K:Params→PySem.W.Frag} {CX:World→CXT} {sp:World→Sp} {x:Str}
    (hn:l.most=some n) (hn2:n≤sizeLine) (hdf:d.params.defaults=[]) (hr:Room k callerA)
    (hY:∀(w:World) (h:Heap),YP w h→(K w.params).In h)
    (F:∀(w:World) (mg:Str→Option Value) (fa:Addr) (h:Heap),(K w.params).In h→h.Ns mainGlobals mg→mg d.name=some (.ref fa)→
      ∃ fd : FuncData, (∀ (s : Shared) (u : Value), BindsTo s fd ⟨[u], []⟩ [(x, u)]) ∧
        ∀base:Heap,(K w.params).In base→base.Ns mainGlobals mg→FnOk l.prog w (K w.params) mg base (CX w) k fa fd [x] (sp w))
    (hsp:∀(w:World) (H:Hp) (a:Addr) (ns:List Int),ns.length≤n→Only H→SqL (K w.params) H a (ns.map V.int)→sp w [.ref a] H (fun v _=>v=.bl true) fun _ _ _=>False)
    (hCX:∀(w:World) (H:Hp) (s:Shared) (e:Value) (s':Shared),CX w [] H s (fun _ _ _=>False) e s'→False):
    PySem.W.WalkO q loose XP YP l.row.toRowW d [] (fun f vs=>PySem.call f vs):=by
  refine Att.attach_call hn hdf fun w s₀ s₁ mg mb fa o pm cd doc a vs ns G Y ho hd hcd hmg hobj hints hlen hg=>?_
  have KX:=hY w _ Y
  obtain⟨fd,hb,hF⟩:=F w mg fa _ KX G.T.g hmg
  exact law_call KX G.T.g G.T.b G.T.builtins G.T.nolimit hg hobj hints (Nat.le_trans hlen hn2) hr hF hb (fun H hO hS=>hsp w H a ns hlen hO hS) fun H e s'=>hCX w H s₁ e s'
end L2
namespace L2
open PySem PySem.Spec PyProof.Rows
def defArgs (s:Stmt):Arguments:=match s with
  | .FunctionDef _ a _ _ _ _ _ _ _ _=>a
  | _=>{posonlyargs:=[],args:=[],vararg:=none,kwonlyargs:=[],kw_defaults:=[],kwarg:=none,defaults:=[]}
def defBody (s:Stmt):List Stmt:=match s with
  | .FunctionDef _ _ b _ _ _ _ _ _ _=>b
  | _=>[]
def defScope (s:Stmt):Scope:=match s with
  | .FunctionDef _ _ _ _ _ _ sc _ _ _=>sc
  | _=>{kind:=.function,names:=[],isGenerator:=false,isCoroutine:=false}
abbrev CX0:CXT:=fun _ _ _ _ _ _=>False
abbrev E0:XK:=fun _ _ _=>False
theorem pass0 {X:Cx} :Passes CX0 X E0:=fun _ _ _ _ _ _ _ h=>h.elim
structure Fun (K:PySem.W.Frag) (x qual:Str) (st:Stmt) (f:Addr) (fd:FuncData):Prop where
  ex:∃(oc:Value) (od:Option Addr) (kV doc pm:Value) (an:Option Addr) (cdv ct:Value) (osl:Array (Option Value)),
    fd=PySem.W.fnOf x qual (defArgs st) (defBody st) (defScope st) .none kV doc pm an cdv ct∧K.lookup f=some ⟨oc,od,.func fd,osl⟩∧PySem.W.codeIn K cdv qual=true
  kp:PySem.W.keepIn K (.ref f)=true
section
variable {P:Program} {w:World} {K:PySem.W.Frag} {mg:Str→Option Value} {base:Heap}
theorem Fun.ok {x qual:Str} {st:Stmt} {f:Addr} {fd:FuncData} {N ps:List Str} {k:Nat} {sp:Sp} (F:Fun K x qual st f fd) (S:FnScope N ps (defScope st)) (len:∀vs H Q E,sp vs H Q E→vs.length=ps.length)
    (hbody:∀(cdv:Value) (A:Around) (outer:List Env) (s:Shared) (H:Hp) (vs:List V) (Q:VK) (E:XK),Room k (A.deeper (envOfC qual (defScope st) s.heap.objs.size f cdv))→sp vs H Q E→
      ∃t,PSs (cxOf CX0 P w K mg base N qual (defScope st) f cdv A outer s H E).nox (defBody st) t∧t {nx:=fun _ H'=>Q .non H',rt:=Q} (start N vs) H):FnOk P w K mg base CX0 (k+1) f fd ps sp:=by
  obtain⟨oc,od,kV,doc,pm,an,cdv,ct,osl,rfl,lk,hcd⟩:=F.ex
  refine fn_of lk hcd S len fun A outer s H vs Q E hr hsp=>?_
  obtain⟨t,h,q⟩:=hbody cdv A outer s H vs Q E hr hsp
  exact⟨t,h.nox,q⟩
theorem Fun.binds {x qual:Str} {st:Stmt} {f:Addr} {fd:FuncData} {ps:List Str} (F:Fun K x qual st f fd)
    (h:∀(kV doc pm:Value) (an:Option Addr) (cdv ct:Value) (us:List Value),us.length=ps.length→bindArgs (PySem.W.fnOf x qual (defArgs st) (defBody st) (defScope st) .none kV doc pm an cdv ct) ⟨us,[]⟩=pure (ps.zip us)):Binds K fd ps []:=by
  obtain⟨oc,od,kV,doc,pm,an,cdv,ct,osl,rfl,lk,hcd⟩:=F.ex
  exact .all (h kV doc pm an cdv ct)
theorem fun_mk {x qual:Str} {st:Stmt} {f:Addr} {oc:Value} {od an:Option Addr} {osl:Array (Option Value)} {kV doc pm cdv ct:Value} (l:K.lookup f=some ⟨oc,od,.func (PySem.W.fnOf x qual (defArgs st) (defBody st) (defScope st) .none kV doc pm an cdv ct),osl⟩)
    (c:PySem.W.codeIn K cdv qual=true) (k:PySem.W.keepIn K (.ref f)=true):Fun K x qual st f (PySem.W.fnOf x qual (defArgs st) (defBody st) (defScope st) .none kV doc pm an cdv ct):=⟨⟨oc,od,kV,doc,pm,an,cdv,ct,osl,rfl,l,c⟩,k⟩
end
section
variable {X:Cx}
theorem pv (i:Nat) {x:Str} {pos:Pos} (hN:X.N[i]? =some x:=by rfl) (hv:Vis X.env.scope x:=by first | exact Or.inl rfl | exact Or.inr (Or.inl rfl) | exact Or.inr (Or.inr rfl)) (hd:(x == ("__debug__" :Str))=false:=by decide)
    (hcd:(x == ("__classdict__" :Str))=false:=by decide):PE X (.Name x pos) (tVar i):=pe_var hN hv hd hcd
end
def Same (H H':Hp):Prop:=∀b o,H b=some o→H' b=some o
theorem Same.refl (H:Hp):Same H H:=fun _ _ h=>h
theorem Same.trans {H H1 H2:Hp} (a:Same H H1) (b:Same H1 H2):Same H H2:=fun c o h=>b c o (a c o h)
theorem Same.seq {K:PySem.W.Frag} {H H':Hp} {a:Addr} {xs:List V} (e:Same H H') (h:SqL K H a xs):SqL K H' a xs:=by
  rcases h with(h | ⟨o,h⟩) | h
  · exact .inl (.inl (e _ _ h))
  · exact .inl (.inr ⟨o,e _ _ h⟩)
  · exact .inr h
end L2
set_option maxHeartbeats 4000000
namespace L2
open PySem PySem.Spec PyProof.Rows
abbrev sOf (l:List Nat):Str:=⟨l.toArray⟩
theorem sOf_len (l:List Nat):(sOf l).length=l.length:=by simp[Str.length,sOf]
theorem sOf_cps (l:List Nat):(sOf l).cps.toList=l:=by simp[sOf]
theorem sOf_append (a b:List Nat):sOf a++sOf b=sOf (a++b):=by
  apply PySem.Str.ext'
  rw[PySem.Str.cps_append]
  simp[sOf]
theorem sOf_inj {a b:List Nat} (h:sOf a=sOf b):a=b:=by
  have:=congrArg (fun x=>x.cps.toList) h
  simpa [sOf] using this
theorem of_sOf (x:Str):x=sOf x.cps.toList:=by cases x;simp[sOf]
section
variable {X:Cx}
theorem op_is_bl:OpR X (compareOp .Is) (fun x y H Q=>∃c,y=.bl c∧Q (.bl (decide (x=.bl c))) H):=by
  intro pins s σ H x y v u Q I rx ry h
  obtain⟨c,rfl,q⟩:=h
  cases ry
  cases x with
  | bl b=>cases rx;exact is_bool (fin_bl I q (by cases b <;> cases c <;> simp))
  | non=>cases rx;exact wpAny_pure (fin_bl I q (by simp))
  | int i=>obtain⟨t,rfl⟩:=rx;exact wpAny_pure (fin_bl I q (by simp))
  | str i=>obtain⟨t,rfl⟩:=rx;exact wpAny_pure (fin_bl I q (by simp))
  | byt i=>obtain⟨t,rfl⟩:=rx;exact wpAny_pure (fin_bl I q (by simp))
  | flt i=>obtain⟨t,rfl⟩:=rx;exact wpAny_pure (fin_bl I q (by simp))
  | ref a=>cases rx;exact wpAny_pure (fin_bl I q (by simp))
  | ty a=>cases rx;exact wpAny_pure (fin_bl I q (by simp))
theorem op_mul_str:OpR X (binaryOp .Mult) (fun x y H Q=>∃c n,x=.str (sOf [c])∧y=.int n∧0≤n∧n≤100000∧Q (.str (sOf (List.replicate n.toNat c))) H):=by
  intro pins s σ H x y v u Q I rx ry h
  obtain⟨c,n,rfl,rfl,h0,h1,q⟩:=h
  obtain⟨t,rfl⟩:=rx
  obtain⟨t',rfl⟩:=ry
  have hl:(sOf [c]).length=1:=sOf_len [c]
  refine SB.mul ?_ fun t' k=>?_
  · refine⟨?_,fun _ _=>?_,fun _ _=>?_⟩
    · have e1:decide (n< -(2^63:Int))=false:=decide_eq_false (by omega)
      have e2:decide (n≥2^63)=false:=decide_eq_false (by omega)
      rw[e1,e2];rfl
    · rw[hl]
      have h2:1≤n:=by omega
      have:(1:Int)≤(2^63- 1)/ n:=(Int.le_ediv_iff_mul_le (by omega)).mpr (by omega)
      omega
    · rw[hl]
      unfold Builtin.Str.tooLong
      have:=sizeLine_eq
      simp
      omega
  · have e:Txt.mul (sOf [c]) n=sOf (List.replicate n.toNat c):=by
      rw[of_sOf (Txt.mul (sOf [c]) n)]
      show sOf ((Txt.mul ⟨#[c]⟩ n).cps.toList)=_
      rw[mul_one_list]
    exact⟨.str _,H,I.tok _,⟨t',rfl⟩,by rw[e];exact q⟩
end
end L2
namespace L2
open PySem PySem.Spec PyProof.Rows
section
variable {X:Cx}
def cutN (l:List Nat) (lo hi:Option Int):List Nat:=(l.drop (HT.sIx l.length 0 lo)).take (HT.sIx l.length l.length hi- HT.sIx l.length 0 lo)
theorem str_bounds (lo hi:Option Int) (n:Nat):Builtin.Str.strSliceIndices lo hi 1 n=sliceRange ((HT.sIx n 0 lo:Nat):Int) ((HT.sIx n n hi:Nat):Int) 1:=by
  unfold Builtin.Str.strSliceIndices
  have e1:(match lo with | none=>(0:Int) | some i=>max 0 (min (if i< 0 then i+(n:Int)else i) n))=((HT.sIx n 0 lo:Nat):Int):=by
    cases lo with
    | none=>simp[HT.sIx]
    | some i=>simp only[HT.sIx];by_cases h:i< 0 <;> simp only[h,if_true,if_false] <;> omega
  have e2:(match hi with | none=>(n:Int) | some i=>max 0 (min (if i< 0 then i+(n:Int)else i) n))=((HT.sIx n n hi:Nat):Int):=by
    cases hi with
    | none=>simp[HT.sIx]
    | some i=>simp only[HT.sIx];by_cases h:i< 0 <;> simp only[h,if_true,if_false] <;> omega
  simp only[show(1:Int)> 0 by decide,if_true]
  rw[←e1,←e2]
  cases lo <;> cases hi <;> rfl
theorem slice_cut (l:List Nat) (lo hi:Option Int):Txt.slice (sOf l) lo hi=sOf (cutN l lo hi):=by
  have hn:(sOf l).length=l.length:=sOf_len l
  have hk:(Builtin.Str.strSliceIndices lo hi 1 l.length).filterMap ((sOf l).cps[·]?)=cutN l lo hi:=by
    rw[str_bounds,sliceRange_one,pick_run]
    simp[cutN]
  have hlen:(Builtin.Str.strSliceIndices lo hi 1 l.length).length=(cutN l lo hi).length:=by
    rw[str_bounds,sliceRange_one]
    have h1:=HT.sIx_le l.length 0 (Nat.zero_le _) lo
    have h2:=HT.sIx_le l.length l.length (Nat.le_refl _) hi
    simp[cutN]
    omega
  unfold Txt.slice
  rw[hn]
  split
  · rename_i h
    have h:(Builtin.Str.strSliceIndices lo hi 1 l.length).length=l.length:=by simpa using h
    have hl:=hlen.symm.trans h
    have e:cutN l lo hi=l:=by
      have h3:(cutN l lo hi).length≤(l.drop (HT.sIx l.length 0 lo)).length:=by unfold cutN;simp;omega
      have h4:HT.sIx l.length 0 lo=0∨l.length=0:=by
        rw[List.length_drop]at h3;omega
      rcases h4 with h4 | h4
      · unfold cutN at hl ⊢
        rw[h4]at hl ⊢
        rw[List.drop_zero]at hl ⊢
        rw[List.length_take]at hl
        exact List.take_of_length_le (by omega)
      · have:l=[]:=List.length_eq_zero_iff.mp h4
        subst this
        simp[cutN]
    rw[e]
  · rw[hk]
theorem sl_str:SlR X (fun x lo hi H Q=>∃l,x=.str (sOf l)∧l.length≤sizeLine∧Q (.str (sOf (cutN l lo hi))) H):=by
  intro pins s σ H x v vl vu lo hi sl Q I rx hs pl pu h
  obtain⟨l,rfl,hz,q⟩:=h
  obtain⟨t,rfl⟩:=rx
  obtain⟨a1,rfl,e1⟩:∃a:Option (Int×Tok),vl=partValue a∧a.map (·.1)=lo:=by
    cases pl with
    | none=>exact⟨none,rfl,rfl⟩
    | int i t=>exact⟨some (i,t),rfl,rfl⟩
  obtain⟨a2,rfl,e2⟩:∃a:Option (Int×Tok),vu=partValue a∧a.map (·.1)=hi:=by
    cases pu with
    | none=>exact⟨none,rfl,rfl⟩
    | int i t=>exact⟨some (i,t),rfl,rfl⟩
  have hle:(Txt.slice (sOf l) lo hi).length≤sizeLine:=Nat.le_trans (Txt.slice_le _ _ _) (by rw[sOf_len];exact hz)
  refine⟨"str",_,PySem.F.slot_str_getitem.lookup,typeIs_str _ _ _,wpAny_getItem_str_slice (l:=a1) (u:=a2) (st:=none) hs rfl ?_⟩
  subst e1 e2
  refine post_val_or_str ⟨hle,fun t' k=>⟨.str _,H,I.tok _,⟨t',rfl⟩,?_⟩⟩
  have:=slice_cut l (a1.map (·.1)) (a2.map (·.1))
  unfold Txt.slice at this
  show Q (.str (if _ then _ else _)) H
  exact this▸q
theorem strsAre_of {ys:List (List Nat)} :∀{us:List Value},Vals (ys.map fun y=>V.str (sOf y)) us→StrsAre us (ys.map sOf):=by
  induction ys with
  | nil=>intro us r;cases r;exact .nil
  | cons y ys ih =>
    intro us r
    cases r with
    | cons r1 r2 =>
      obtain⟨t,e⟩:=r1
      subst e
      exact .cons _ t (ih r2)
theorem join_empty (ys:List (List Nat)):Txt.join (sOf []) (ys.map sOf)=sOf ys.flatten:=by
  have key:∀(r:List (List Nat)) (acc:List Nat),(r.map sOf).foldl (fun acc p=>acc++(sOf []).cps++p.cps) acc.toArray=(acc++r.flatten).toArray:=by
    intro r
    induction r with
    | nil=>intro acc;simp
    | cons a r ih =>
      intro acc
      rw[List.map_cons,List.foldl_cons,List.flatten_cons,←List.append_assoc,←ih (acc++a)]
      simp[sOf]
  cases ys with
  | nil=>rfl
  | cons a r =>
    show Str.mk (((r.map sOf)).foldl (fun acc p=>acc++(sOf []).cps++p.cps) a.toArray)=_
    rw[key]
    rfl
theorem mt_join:MtR X "str.join" (fun x xs H Q=>∃(p:Addr) (ys:List (List Nat)),x=.str (sOf [])∧xs=[.ref p]∧SqL X.K H p (ys.map fun y=>V.str (sOf y))∧ys.flatten.length≤100000∧Q (.str (sOf ys.flatten)) H):=by
  intro pins s σ H x xs v us Q I rx rs h
  obtain⟨p,ys,rfl,rfl,hp,hl,q⟩:=h
  obtain⟨t,rfl⟩:=rx
  obtain⟨u,rfl,r1⟩:=vals1 rs
  cases r1
  obtain⟨its,r,pl,hz⟩:=I.list hp
  refine join_list pl.isList (by simpa using strsAre_of r) ?_ fun t' k=>⟨.str _,H,I.tok _,⟨t',rfl⟩,by rw[join_empty];exact q⟩
  have e:((ys.map sOf).map (·.length)).sum=ys.flatten.length:=by
    rw[List.map_map,List.length_flatten]
    congr 1
    all_goals exact List.map_congr_left fun y _=>sOf_len y
  have e2:(sOf []).length=0:=sOf_len []
  rw[e,e2]
  omega
theorem call_isinst:CallR X (.builtin "isinstance") (fun xs H Q=>∃x T t b,xs=[x,.ty T]∧TyOf X.K H x t∧PySem.W.kitOne X.K t (.type T)=some b∧Q (.bl b) H):=by
  intro pins s σ H xs us Q I r h
  obtain⟨x,T,t,b,rfl,ty,e,q⟩:=h
  obtain⟨u,w',rfl,rx,rT⟩:=vals2 r
  obtain rfl:w'=.type T:=rT
  exact isinst_ok I rx ty e fun tk=>⟨.bl b,H,I.tok _,rfl,q⟩
end
end L2
namespace L2
open PySem PySem.Spec PyProof.Rows
def closeOf (env:Env):List (Str×NameKind)→List (Str×Addr)→List (Str×Addr)
  | [],acc=>acc
  | (n,k)::r,acc=>closeOf env r (if(k == .free)=true then(n,(env.cells.lookup n).getD 0)::acc else acc)
theorem closureFor_eq {scope:Scope} {env:Env} (h:∀x∈scope.names,x.2=.free→∃c,env.cells.lookup x.1=some c):closureFor scope env=pure (closeOf env scope.names []):=by
  simp only[closureFor]
  have key:∀(names:List (Str×NameKind)) (acc:List (Str×Addr)),(∀x∈names,x.2=.free→∃c,env.cells.lookup x.1=some c)→
      (forIn names acc fun(x:Str×NameKind) (cs:List (Str×Addr))=>if(x.2 == .free)=true then(do let a ←cellOf env x.1;pure (ForInStep.yield ((x.1,a)::cs)))else pure (ForInStep.yield cs))=(pure (closeOf env names acc):Sem _):=by
    intro names
    induction names with
    | nil=>intro acc _;rfl
    | cons x r ih =>
      intro acc hx
      obtain⟨n,k⟩:=x
      rw[List.forIn_cons]
      have hr:∀y∈r,y.2=.free→∃c,env.cells.lookup y.1=some c:=fun y hy=>hx y (List.mem_cons_of_mem _ hy)
      unfold closeOf
      by_cases hk:(k == NameKind.free)=true
      · obtain⟨c,hc⟩:=hx (n,k) List.mem_cons_self (by simpa using hk)
        have hc:env.cells.lookup n=some c:=hc
        simp only[hk,if_true]
        unfold cellOf
        simp only[hc,Option.getD_some]
        exact ih _ hr
      · simp only[hk,if_false]
        exact ih _ hr
  have:=key scope.names [] h
  rw[this]
  rfl
theorem closeOf_lookup {env:Env} {x:Str} {c:Addr} :∀(names:List (Str×NameKind)) (acc:List (Str×Addr)),(∀y∈names,y.2=.free→∃c,env.cells.lookup y.1=some c)→(closeOf env names acc).lookup x=some c→
    ((x,NameKind.free)∈names∧env.cells.lookup x=some c)∨acc.lookup x=some c
  | [],_,_,h=>.inr h
  | (n, k) :: r, acc, hx, h => by
    unfold closeOf at h
    rcases closeOf_lookup r _ (fun y hy=>hx y (List.mem_cons_of_mem _ hy)) h with⟨q1,q2⟩ | q
    · exact .inl ⟨List.mem_cons_of_mem _ q1,q2⟩
    · by_cases hk:(k == NameKind.free)=true
      · rw[if_pos hk]at q
        have hk':k=.free:=by simpa using hk
        subst hk'
        rw[List.lookup_cons]at q
        cases hb:x == n with
        | true =>
          rw[hb]at q
          have e:x=n:=beq_iff_eq.mp hb
          subst e
          obtain⟨c',hc⟩:=hx (x,.free) List.mem_cons_self rfl
          have hc:env.cells.lookup x=some c':=hc
          rw[hc]at q
          simp at q
          subst q
          exact .inl ⟨List.mem_cons_self,hc⟩
        | false=>rw[hb]at q;exact .inr q
      · rw[if_neg hk]at q;exact .inr q
theorem closeOf_acc {env:Env} {x:Str} {c:Addr} :∀(names:List (Str×NameKind)) (acc:List (Str×Addr)),acc.lookup x=some c→env.cells.lookup x=some c→(closeOf env names acc).lookup x=some c
  | [],_,h,_=>h
  | (n, k) :: r, acc, h, he => by
    unfold closeOf
    refine closeOf_acc r _ ?_ he
    by_cases hk:(k == NameKind.free)=true
    · rw[if_pos hk,List.lookup_cons]
      cases hb:x == n with
      | true =>
        have e:x=n:=beq_iff_eq.mp hb
        subst e
        simp[he]
      | false=>exact h
    · rw[if_neg hk];exact h
theorem closeOf_has {env:Env} {x:Str} {c:Addr} :∀(names:List (Str×NameKind)) (acc:List (Str×Addr)),(x,NameKind.free)∈names→env.cells.lookup x=some c→(closeOf env names acc).lookup x=some c
  | (n, k) :: r, acc, h, he => by
    unfold closeOf
    rcases List.mem_cons.mp h with e | h
    · cases e
      exact closeOf_acc r _ (by simp[he]) he
    · exact closeOf_has r _ h he
theorem cellsFrom_app:∀(names:List (Str×NameKind)) (n:Nat) (acc:List (Str×Addr)),cellsFrom n names acc=cellsFrom n names []++acc
  | [],_,_=>rfl
  | (x, k) :: r, n, acc => by
    unfold cellsFrom
    split
    · rw[cellsFrom_app r _ ((x,n)::acc),cellsFrom_app r _ [(x,n)],List.append_assoc];rfl
    · exact cellsFrom_app r n acc
theorem cellsFrom_names:∀(names:List (Str×NameKind)) (n:Nat) {x:Str} {c:Addr},(x,c)∈cellsFrom n names []→(x,NameKind.cell)∈names
  | [],_,_,_,h=>by cases h
  | (y, k) :: r, n, x, c, h => by
    unfold cellsFrom at h
    split at h
    · rename_i hk
      rw[cellsFrom_app]at h
      rcases List.mem_append.mp h with h | h
      · exact List.mem_cons_of_mem _ (cellsFrom_names r _ h)
      · have e:(x,c)=(y,n):=by simpa using h
        cases e
        have hk':k=.cell:=by simpa using hk
        subst hk'
        exact List.mem_cons_self
    · exact List.mem_cons_of_mem _ (cellsFrom_names r _ h)
theorem newCompEnv {M:Model} {A:Around} {E:Value→Shared→Prop} {s:Shared} {scope:Scope} {env:Env} {cl:List (Str×Addr)} {Q:Env→Shared→Prop}
    (hQ:Q (newEnv scope s.heap.objs.size env.globals (cellsFrom (s.heap.objs.size+1) scope.names cl) env.qual none .none (some env) builtinsNs) {s with heap:=pushCells (s.heap.push {cls:=.type "dict",data:=.dict #[]}) scope.names}):
    wpAny M A (newFunctionEnv scope env.globals cl [] env.qual none .none (some env)) Q E s:=by
  simp only[newFunctionEnv,Option.isSome_some,if_true]
  refine wpAny_bind (wpAny_alloc ?_)
  refine wpAny_bind (wpAny_layCells _ (fun name kind cells=>by cases hkc:kind == NameKind.cell <;> simp[hkc]) _ _ _ _ ?_)
  rw[show({s with heap:=s.heap.push {cls:=.type "dict",data:=.dict #[]}} :Shared).heap.objs.size=s.heap.objs.size+1 from Heap.size_push ..]
  simp only[List.forIn_nil]
  exact wpAny_bind (wpAny_pure (wpAny_pure hQ))
section
variable {prog:Program} {w:World} {A:Around} {R:Result→Shared→Prop} {s:Shared}
theorem compLoop_gen {elt target iter:Expr} {ifs:List Expr} {scope:Scope} {pos:Pos} {it acc:Value} {env:Env} (I:Nat→Shared→Prop)
    (turn:∀n s,I n s→wpAny (model prog w) A (pyNext it) (fun r s₁=>match r with
      | none=>R (.ok .next) s₁
      | some v=>wpAny (model prog w) A (letOwnedTupleGo target it v) (fun _ s₁'=>wpAny (model prog w) A (assign target env v) (fun _ s₂=>
          wpAny (model prog w) A (forIn ifs true fun c r=>if r=true then do let ok ←isTrue c env (eval c env);pure (ForInStep.yield ok)else pure (ForInStep.yield r)) (fun ok s₃=>
            if ok=true then wpAny (model prog w) A (eval elt env) (fun x s₄=>
              wpAny (model prog w) A (call (.builtin "list.append") [acc,x]) (fun _ s₅=>∃m,m< n∧I m s₅) (fun _ _=>False) s₄) (fun _ _=>False) s₃
            else ∃m,m< n∧I m s₃) (fun _ _=>False) s₂) (fun _ _=>False) s₁') (fun _ _=>False) s₁) (fun _ _=>False) s)
    (n:Nat) (h:I n s):codeAny (model prog w) A (.compLoop (.ListComp elt [⟨target,iter,ifs,0⟩] scope pos) 0 it acc env) R s:=by
  refine codeAny_loop rfl I (fun n s hI=>?_) n h
  show wpAny _ A ((compTurn (.ListComp elt [⟨target,iter,ifs,0⟩] scope pos) 0 it acc env).onRaise (fun x=>do noteFrame x env;theTreesLotGoes x)) _ _ s
  refine wpAny_noted ?_
  rw[compTurn_list]
  refine wpAny_bind (wpAny_standAt (wpAny_bind (wpAny_mono (turn n s hI) (fun r s₁ h₁=>?_) fun _ _ h'=>h'.elim)))
  cases r with
  | none=>exact wpAny_pure h₁
  | some v =>
    refine wpAny_bind (wpAny_mono h₁ (fun _ s₁' h₁'=>?_) fun _ _ h'=>h'.elim)
    refine wpAny_bind (wpAny_mono h₁' (fun _ s₂ h₂=>wpAny_bind (wpAny_mono h₂ (fun ok s₃ h₃=>?_) fun _ _ h'=>h'.elim)) fun _ _ h'=>h'.elim)
    cases ok with
    | true =>
      rw[if_pos rfl]at h₃
      exact wpAny_bind (wpAny_bind (wpAny_mono h₃ (fun x s₄ h₄=>wpAny_bind (wpAny_mono h₄ (fun _ s₅ h₅=>wpAny_pure (wpAny_pure ⟨rfl,h₅⟩)) fun _ _ h'=>h'.elim)) fun _ _ h'=>h'.elim))
    | false =>
      rw[if_neg Bool.false_ne_true]at h₃
      exact wpAny_pure ⟨rfl,h₃⟩
end
def ownFn (scope:Scope) (x:Str):Bool:=scope.names.lookup x == some .local || scope.names.lookup x == some .cell
def compCx (X:Cx) (scope:Scope) (N:List Str) (s:Shared) (H:Hp) (C:Addr) (fp:List Addr):Cx:=
  {X with N:=N,s₀:=s,H₀:=H,env:=compEnvC scope (cellsFrom (C+1) scope.names (closeOf X.env scope.names [])) C X.env,outer:=X.stack,ex:=fp,fn:=ownFn scope,pn:=[],xe:=fun _ _=>False}
def capSt (cap:List (Option Nat)) (σ:St):St:=cap.map fun o=>o.bind fun j=>(σ[j]?).bind id
structure CompScope (X:Cx) (scope:Scope) (N:List Str) (cap:List (Option Nat)):Prop where
  kind:scope.kind=.function
  nd:N.Nodup
  len:cap.length=N.length
  uniq:(scope.names.map (·.1)).Nodup
  free:∀x∈scope.names,x.2=.free→(X.env.kindOf x.1=some .cell∨X.env.kindOf x.1=some .free)
  cap:∀(k:Nat) (x:Str) (j:Nat),N[k]? =some x→cap[k]? =some (some j)→X.N[j]? =some x∧(x,NameKind.free)∈scope.names
theorem lookup_nodup {α:Type} :∀{l:List (Str×α)} {x:Str} {k:α},(l.map (·.1)).Nodup→(x,k)∈l→l.lookup x=some k
  | (y, j) :: r, x, k, nd, h => by
    obtain⟨n1,n2⟩:=List.nodup_cons.mp (show(y::r.map (·.1)).Nodup from nd)
    rw[List.lookup_cons]
    rcases List.mem_cons.mp h with e | h
    · cases e;simp
    · have:(x == y)=false:=beq_eq_false_iff_ne.mpr fun e=>n1 (e▸List.mem_map.mpr ⟨(x,k),h,rfl⟩)
      rw[this]
      exact lookup_nodup n2 h
theorem relabel_lookup {env:Env} :∀{names:List (Str×NameKind)} {x:Str},(names.map fun(p:Str×NameKind)=>if(p.2 == NameKind.free && env.scope.kind == .function && env.kindOf p.1 == some .cell)=true then(p.1,NameKind.cell)else(p.1,p.2)).lookup x=
    (names.lookup x).map fun k=>if(k == NameKind.free && env.scope.kind == .function && env.kindOf x == some .cell)=true then .cell else k
  | [],_=>rfl
  | (n, k) :: r, x => by
    rw[List.map_cons]
    have ih:= @relabel_lookup env r x
    by_cases hx:x=n
    · subst hx
      by_cases hc:(k == NameKind.free && env.scope.kind == .function && env.kindOf x == some .cell)=true
      · simp only[hc,if_true,List.lookup_cons,beq_self_eq_true,Option.map_some]
      · rw[if_neg hc,List.lookup_cons,List.lookup_cons,beq_self_eq_true];simp only[Option.map_some];rw[if_neg hc]
    · have hb:(x == n)=false:=beq_eq_false_iff_ne.mpr hx
      by_cases hc:(k == NameKind.free && env.scope.kind == .function && env.kindOf n == some .cell)=true
      · simp only[hc,if_true,List.lookup_cons,hb];exact ih
      · rw[if_neg hc,List.lookup_cons,List.lookup_cons,hb];exact ih
end L2
namespace L2
open PySem PySem.Spec PyProof.Rows
def PTs (X:Cx) (ifs:List Expr) (t:TT):Prop:=
  ∀ (pins : List (Addr × Obj)) (s : Shared) (σ : St) (H : Hp) (Q : Bool → Hp → Prop), Inv X pins σ H s → t σ H Q →
    wpAny (model X.prog X.w) X.A (forIn ifs true fun c r=>if r=true then do let ok ←isTrue c X.env (eval c X.env);pure (ForInStep.yield ok)else pure (ForInStep.yield r)) (TP X pins σ Q) X.xe s
def tYes:TT:=fun _ H Q=>Q true H
theorem pts_nil {X:Cx} :PTs X [] tYes:=fun _ _ _ H _ I h=>wpAny_tests_nil ⟨H,I,h⟩
theorem pts_one {X:Cx} {c:Expr} {t:TT} (h:PT X c t):PTs X [c] t:=fun pins s σ H Q I hq=>wpAny_tests_one (h pins s σ H Q I hq)
def Keep:St→St→Prop
  | [],_=>True
  | none::a,_::b=>Keep a b
  | some v::a,some u::b=>v=u∧Keep a b
  | _,_=>False
theorem Keep.get:∀{a b:St} {j:Nat} {v:V},Keep a b→a[j]? =some (some v)→b[j]? =some (some v)
  | [],_,_,_,_,h=>by simp at h
  | none::a,_::b,0,_,_,h=>by simp at h
  | none::a,_::b,j+1,v,k,h=>Keep.get (j:=j) (a:=a) (b:=b) k h
  | some w :: a, some u :: b, 0, v, k, h => by
    have e:w=u:=k.1
    subst e
    exact h
  | some w::a,some u::b,j+1,v,k,h=>Keep.get (j:=j) (a:=a) (b:=b) k.2 h
  | none::_,[],_,_,k,_=>k.elim
  | some _::_,[],_,_,k,_=>k.elim
  | some _::_,none::_,_,_,k,_=>k.elim
def CompW (cap:List (Option Nat)) (g:TG) (tf:TT) (te:TE) (σ:St) (H1:Hp) (Q:VK) (J:It):Prop:=∃W:Nat→Nat→List V→Hp→Prop,(∃m,W 0 m [] H1)∧∀i m ys H,W i m ys H→ys.length< sizeLine∧
  ((J.stop i H∧∀D,H D=none→Q (.ref D) (upd H D (.lst ys)))∨
   (J.go i H∧∃N:List V→Hp→Prop,(∀ys' H',N ys' H'→∃m',m'< m∧W (i+1) m' ys' H')∧∀x H',J.yld i H x H'→g x (capSt cap σ) H' fun σ2 H2=>Keep (capSt cap σ) σ2∧tf σ2 H2 fun b H3=>if b=true then te σ2 H3 fun y H4=>N (ys++ [y]) H4 else N ys H3))
def tComp (cap:List (Option Nat)) (wi:TI) (g:TG) (tf:TT) (te:TE):TE:=fun σ H Q=>wi σ H fun J H1=>CompW cap g tf te σ H1 Q J
theorem comp_cells {X:Cx} {scope:Scope} {C:Addr} {x:Str} {c:Addr} (frc:∀x∈scope.names,x.2=.free→∃c,X.env.cells.lookup x.1=some c)
    (h:(cellsFrom (C+1) scope.names (closeOf X.env scope.names [])).lookup x=some c):(x,c)∈cellsFrom (C+1) scope.names []∨((x,NameKind.free)∈scope.names∧X.env.cells.lookup x=some c):=by
  rw[cellsFrom_app,List.lookup_append]at h
  cases e:(cellsFrom (C+1) scope.names []).lookup x with
  | some d =>
    rw[e]at h
    have h:some d=some c:=h
    cases h
    exact .inl (PySem.mem_of_lookup e)
  | none =>
    rw[e]at h
    have h:(closeOf X.env scope.names []).lookup x=some c:=h
    rcases closeOf_lookup _ _ frc h with q | q
    · exact .inr q
    · cases q
theorem comp_has {X:Cx} {scope:Scope} {C:Addr} {x:Str} {c:Addr} (uq:(scope.names.map (·.1)).Nodup) (hx:(x,NameKind.free)∈scope.names) (hc:X.env.cells.lookup x=some c):
    (cellsFrom (C+1) scope.names (closeOf X.env scope.names [])).lookup x=some c:=by
  rw[cellsFrom_app,List.lookup_append]
  cases e:(cellsFrom (C+1) scope.names []).lookup x with
  | some d =>
    have h1:=lookup_nodup uq (cellsFrom_names _ _ (PySem.mem_of_lookup e))
    have h2:=lookup_nodup uq hx
    rw[h1]at h2;cases h2
  | none=>exact closeOf_has _ _ hx hc
section
variable {X:Cx} {scope:Scope} {N:List Str} {cap:List (Option Nat)} {pins:List (Addr×Obj)} {σ:St} {H:Hp} {s:Shared} {C:Addr} {fp:List Addr}
theorem compCx_ok {h4:Heap} (S:CompScope X scope N cap) (I:Inv X pins σ H s) (hC:s.heap.objs.size≤C) (ck:CellsOk h4 (C+1) (cellsFrom (C+1) scope.names []))
    (hf:∀b∈fp,FpOk X pins H b) (hlt:∀b∈fp,b< C):(compCx X scope N s H C fp).Ok:=by
  have frc:∀x∈scope.names,x.2=.free→∃c,X.env.cells.lookup x.1=some c:=fun x hx hk=>I.ok.has x.1 (S.free x hx hk)
  have old:∀x c,X.env.cells.lookup x=some c→c< C:=fun x c e=>by
    obtain⟨v,q⟩:=I.cell x c e
    exact Nat.lt_of_lt_of_le q.lt hC
  have own:∀x c,(x,c)∈cellsFrom (C+1) scope.names []→C< c:=fun x c e=>(ck.empty x c e).2
  refine⟨I.ok.mod,S.kind,I.ok.glob,I.ok.blt,hC,fun x y c h1 h2=>?_,fun x hx=>?_,fun x c hfn h=>?_,I.ok.hd,I.ok.frames,.inl rfl,fun b hb=>⟨Nat.ne_of_lt (hlt b hb),fun x c h=>?_⟩,I.bs,Nat.le_trans I.ok.bsz I.sz,fun b o e hb=>?_,fun b hb z=>?_,I.stack,I.stkFree⟩
  · rcases comp_cells frc h1 with a | ⟨a1,a2⟩ <;> rcases comp_cells frc h2 with b | ⟨b1,b2⟩
    · exact name_of_addr ck.apart a b
    · exact absurd (Nat.lt_trans (own x c a) (old y c b2)) (Nat.lt_irrefl _)
    · exact absurd (Nat.lt_trans (own y c b) (old x c a2)) (Nat.lt_irrefl _)
    · exact I.ok.inj x y c a2 b2
  · have hx:(relabel scope X.env).names.lookup x=some .cell∨(relabel scope X.env).names.lookup x=some .free:=hx
    have e:(relabel scope X.env).names.lookup x=_:=relabel_lookup (env:=X.env) (names:=scope.names) (x:=x)
    rw[e]at hx
    cases q:scope.names.lookup x with
    | none=>rw[q]at hx;rcases hx with z | z <;> cases z
    | some k =>
      have hm:=PySem.mem_of_lookup q
      by_cases hk:k=.free
      · subst hk
        obtain⟨c,hc⟩:=frc _ hm rfl
        exact⟨c,comp_has S.uniq hm hc⟩
      · have hk':(k == NameKind.free)=false:=by simpa using hk
        rw[q]at hx
        simp only[Option.map_some,hk',Bool.false_and,Bool.false_eq_true,if_false]at hx
        have hkc:k=.cell:=by
          rcases hx with z | z
          · exact Option.some.inj z
          · exact absurd (Option.some.inj z) hk
        subst hkc
        exact Option.isSome_iff_exists.mp (PySem.W.cellsFrom_some scope.names (C+1) _ (.inl q))
  · rcases comp_cells frc h with a | ⟨a1,a2⟩
    · exact Nat.le_trans hC (Nat.le_of_lt (own x c a))
    · have q:=lookup_nodup S.uniq a1
      have z:ownFn scope x=true:=hfn
      unfold ownFn at z
      rw[q]at z
      exact absurd z (by decide)
  · rcases comp_cells frc h with a | ⟨a1,a2⟩
    · exact Nat.ne_of_gt (Nat.lt_trans (hlt b hb) (own x c a))
    · exact(hf b hb).2.2.2.2.1 x c a2
  · rcases (hf b hb).2.2.2.1 with z | z
    · exact I.ok.noex b o e z
    · exact absurd (Nat.lt_of_lt_of_le (Nat.lt_of_lt_of_le (Heap.lt_size e) I.ok.bsz) z) (Nat.lt_irrefl _)
  · rcases List.mem_cons.mp (I.stkSub b z)with q | q
    · exact(hf b hb).2.1 q
    · exact(hf b hb).2.2.1 q
theorem comp_start {s4:Shared} (S:CompScope X scope N cap) (I:Inv X pins σ H s) (hC:s.heap.objs.size≤C) (ck:CellsOk s4.heap (C+1) (cellsFrom (C+1) scope.names []))
    (hf:∀b∈fp,FpOk X pins H b) (hlt:∀b∈fp,b< C) (h4:∃h' tk,s4={s with heap:=h',toks:=tk}) (hn:s4.heap.Ns C fun _=>none) (hk:∀b o,s.heap.get? b=some o→s4.heap.get? b=some o):
    Inv (compCx X scope N s H C fp) [] (capSt cap σ) H s4:=by
  have frc:∀x∈scope.names,x.2=.free→∃c,X.env.cells.lookup x.1=some c:=fun x hx hk=>I.ok.has x.1 (S.free x hx hk)
  obtain⟨h',tk,rfl⟩:=h4
  refine⟨compCx_ok S I hC ck hf hlt,rfl,I.bare,Un.kept hk,⟨_,hn,fun i x v e1 e2 e3=>?_⟩,fun x c h=>?_,I.hok.fresh hC,fun x c h=>?_,fun p hp=>absurd (show p∈([]:List (Addr×Obj))from hp) (by simp),I.hok.kept hk,?_⟩
  · have e1:N[i]? =some x:=e1
    unfold capSt at e2
    rw[List.getElem?_map]at e2
    cases q:cap[i]? with
    | none=>rw[q]at e2;cases e2
    | some o =>
      cases o with
      | none=>rw[q]at e2;cases e2
      | some j =>
        rw[q]at e2
        obtain⟨hj,hm⟩:=S.cap i x j e1 q
        have e2:σ[j]?.bind id=some v:=Option.some.inj e2
        have e2':σ[j]? =some (some v):=by
          cases z:σ[j]? with
          | none=>rw[z]at e2;cases e2
          | some o=>rw[z]at e2;exact congrArg some e2
        have kd:=S.free _ hm rfl
        obtain⟨m,_,hl⟩:=I.loc
        obtain⟨u,r,lk⟩:=hl j x v hj e2' (by rcases kd with z | z;exact .inr (.inl z);exact .inr (.inr z))
        refine⟨u,r,.inr ?_⟩
        rcases lk with⟨z,_⟩ | ⟨_,c,hc,hcell⟩
        · rcases kd with q | q <;> · rw[show X.env.kindOf x=_ from q]at z;cases z
        · refine⟨?_,c,comp_has S.uniq hm hc,hcell.keeps hk⟩
          have e:(relabel scope X.env).names.lookup x=_:=relabel_lookup (env:=X.env) (names:=scope.names) (x:=x)
          rw[lookup_nodup S.uniq hm]at e
          simp only[Option.map_some]at e
          show(relabel scope X.env).names.lookup x=some .cell∨(relabel scope X.env).names.lookup x=some .free
          rw[e]
          split
          · exact .inl rfl
          · exact .inr rfl
  · rcases comp_cells frc h with a | ⟨a1,a2⟩
    · exact⟨_,(ck.empty x c a).1⟩
    · obtain⟨v,q⟩:=I.cell x c a2
      exact⟨v,q.keeps hk⟩
  · rcases comp_cells frc h with a | ⟨a1,a2⟩
    · exact I.hok.fresh (Nat.le_trans hC (Nat.le_of_lt (ck.empty x c a).2))
    · exact I.freeC x c a2
  · show(capSt cap σ).length=N.length
    unfold capSt
    rw[List.length_map,S.len]
end
end L2
namespace L2
open PySem PySem.Spec PyProof.Rows
abbrev lObj (its:List Value) (k:Nat):Obj:={cls:=.type "list",data:=.seq its.toArray k}
section
variable {X:Cx} {scope:Scope} {N:List Str} {cap:List (Option Nat)} {tg iter elt:Expr} {ifs:List Expr} {pos:Pos} {wi:TI} {g:TG} {tf:TT} {te:TE}
theorem comp_core (S:CompScope X scope N cap) (hc:X.calm=true)
    (hg:∀s H C fp,PG (compCx X scope N s H C fp) tg g) (hf:∀s H C fp,PTs (compCx X scope N s H C fp) ifs tf) (he:∀s H C fp,PE (compCx X scope N s H C fp) elt te)
    {pins:List (Addr×Obj)} {σ:St} {H2:Hp} {s2:Shared} {it:Addr} {fp:List Addr} {tn:Nat→Heap→Prop} {J:It} {Qv:VK} {E:Value→Shared→Prop} {RR:Value→Addr→Result→Shared→Prop}
    (I2:Inv X pins σ H2 s2) (T:Turn X.prog X.w X.K tg J fp it tn) (st2:tn 0 s2.heap) (f2:∀b∈fp,FpOk X pins H2 b) {W:Nat→Nat→List V→Hp→Prop} (w0:∃m,W 0 m [] H2)
    (turn:∀i m ys H,W i m ys H→ys.length< sizeLine∧((J.stop i H∧∀D,H D=none→Qv (.ref D) (upd H D (.lst ys)))∨
      (J.go i H∧∃N:List V→Hp→Prop,(∀ys' H',N ys' H'→∃m',m'< m∧W (i+1) m' ys' H')∧∀x H',J.yld i H x H'→g x (capSt cap σ) H' fun σ2 H2=>Keep (capSt cap σ) σ2∧tf σ2 H2 fun b H3=>if b=true then te σ2 H3 fun y H4=>N (ys++ [y]) H4 else N ys H3)))
    (fin:∀(D C:Addr) (σ':St) (H':Hp) (s':Shared) (its:List Value) (k:Nat) (ys:List V),s2.heap.objs.size≤D→s2.heap.objs.size≤C→D≠C→Inv (compCx X scope N s2 H2 C fp) [(D,lObj its k)] σ' H' s'→Vals ys its→ys.length≤sizeLine→
      Qv (.ref D) (upd H' D (.lst ys))→RR (.ref D) C (.ok .next) s'):
    wpAny (model X.prog X.w) X.A (newList []) (fun acc s₃=>wpAny (model X.prog X.w) X.A (newFunctionEnv scope X.env.globals (closeOf X.env scope.names []) [] X.env.qual none .none (some X.env)) (fun cenv s₄=>
      codeAny (model X.prog X.w) X.A (.compStart (.ListComp elt [⟨tg,iter,ifs,0⟩] scope pos) 0 (.ref it) acc {cenv with scope:=relabel scope X.env}) (RR acc cenv.locals) s₄) E s₃) E s2:=by
  refine wpAny_newObj_type (newCompEnv ?_)
  generalize hD:s2.heap.objs.size=D
  generalize hH3:s2.heap.push {cls:=.type "list",dict:=none,data:=.seq ([]:List Value).toArray} =h3
  have hz3:h3.objs.size=D+1:=by rw[←hH3,Heap.size_push,hD]
  dsimp only
  have eC:({s2 with heap:=h3} :Shared).heap.objs.size=D+1:=hz3
  rw[show h3.objs.size=D+1 from hz3]
  generalize hH4:pushCells (h3.push {cls:=.type "dict",data:=.dict #[]}) scope.names=h4
  have hz3':(h3.push {cls:=.type "dict",data:=.dict #[]}).objs.size=D+1+1:=by rw[Heap.size_push,hz3]
  have ck:CellsOk h4 (D+1+1) (cellsFrom (D+1+1) scope.names []):=by
    have:=cellsFrom_ok scope.names (h3.push {cls:=.type "dict",data:=.dict #[]}) (D+1+1) [] ⟨fun _ _ hm=>(nomatch hm),List.Pairwise.nil⟩ (by rw[hz3'];exact Nat.le_refl _)
    rw[hz3',hH4]at this
    exact this
  have k23:∀b o,s2.heap.get? b=some o→h3.get? b=some o:=fun b o e=>by rw[←hH3];exact Heap.get?_push_of_some _ e
  have k34:∀b o,h3.get? b=some o→h4.get? b=some o:=fun b o e=>by rw[←hH4];exact pushCells_keeps _ _ b o (Heap.get?_push_of_some _ e)
  have hD4:h4.get? D=some (lObj [] 0):=k34 _ _ (by rw[←hH3,←hD];exact Heap.get?_push_size _ rfl)
  have hn4:h4.Ns (D+1) fun _=>none:=by
    rw[←hH4,←hz3]
    exact(Heap.Ns.new h3 (.type "dict")).keeps (pushCells_keeps _ _)
  have fpD:∀b∈fp,b< D:=fun b hb=>by
    obtain⟨o,e,_⟩:=T.obj _ _ st2 b hb
    rw[←hD];exact Heap.lt_size e
  have hlt:∀b∈fp,b< D+1:=fun b hb=>Nat.lt_succ_of_lt (fpD b hb)
  have hDC:s2.heap.objs.size≤D+1:=by rw[hD];exact Nat.le_succ _
  have hDs:s2.heap.objs.size≤D:=by rw[hD];exact Nat.le_refl _
  have IC:Inv (compCx X scope N s2 H2 (D+1) fp) [] (capSt cap σ) H2 {s2 with heap:=h4} :=
    comp_start S I2 hDC ck f2 hlt ⟨_,_,rfl⟩ hn4 fun b o e=>k34 b o (k23 b o e)
  have okC:=IC.ok
  have nfs:∀{b:Addr},s2.heap.objs.size≤b→b∉frs X.stack:=fun {b} hb hm=>by
    obtain⟨_,o,ho,_⟩:=I2.stack.mem hm
    exact absurd (Nat.lt_of_lt_of_le (Heap.lt_size ho) hb) (Nat.lt_irrefl _)
  have frc:∀x∈scope.names,x.2=.free→∃c,X.env.cells.lookup x.1=some c:=fun x hx hk=>I2.ok.has x.1 (S.free x hx hk)
  have cellsD:∀x c,(compCx X scope N s2 H2 (D+1) fp).env.cells.lookup x=some c→c≠D:=fun x c e=>by
    rcases comp_cells frc e with a | ⟨_,a⟩
    · have q:D+1+1≤c:=(ck.empty x c a).2
      exact Nat.ne_of_gt (Nat.lt_of_lt_of_le (Nat.lt_of_lt_of_le (Nat.lt_succ_self D) (Nat.le_succ _)) q)
    · obtain⟨v,q⟩:=I2.cell x c a
      have:=q.lt
      rw[hD]at this
      exact Nat.ne_of_lt this
  have fpO:∀{H':Hp} {its:List Value} {k:Nat},(∀b∈fp,H' b=none)→∀b∈fp,FpOk (compCx X scope N s2 H2 (D+1) fp) [(D,lObj its k)] H' b:=fun {H' its k} hn b hb=>
    ⟨hn b hb,Nat.ne_of_lt (hlt b hb),okC.exfs b hb,.inl hb,(okC.exf b hb).2,fun p hp=>by
      have e:p=(D,lObj its k):=by simpa [compCx] using hp
      subst e
      exact Nat.ne_of_gt (fpD b hb)⟩
  have pinD:∀{σ':St} {H':Hp} {s':Shared} {its:List Value} {k:Nat},Inv (compCx X scope N s2 H2 (D+1) fp) [] σ' H' s'→s'.heap.get? D=some (lObj its k)→H' D=none→Inv (compCx X scope N s2 H2 (D+1) fp) [(D,lObj its k)] σ' H' s':=fun {σ' H' s' its k} J e n=>
    J.pins_of fun p hp=>by
      have e':p=(D,lObj its k):=by simpa using hp
      subst e'
      exact⟨e,n,Nat.ne_of_lt (Nat.lt_succ_self _),nfs hDs,fun v z=>by
        have z':Data.seq its.toArray k=Data.cell v:=z
        cases z'⟩
  have loop:codeAny (model X.prog X.w) X.A (.compLoop (.ListComp elt [⟨tg,iter,ifs,0⟩] scope pos) 0 (.ref it) (.ref D) (compCx X scope N s2 H2 (D+1) fp).env) (RR (.ref D) (D+1)) {s2 with heap:=h4} :=by
    obtain⟨m0,w0⟩:=w0
    refine compLoop_gen (fun n s'=>∃i ys its k σ' H',Inv (compCx X scope N s2 H2 (D+1) fp) [(D,lObj its k)] σ' H' s'∧tn i s'.heap∧(∀b∈fp,H' b=none)∧Vals ys its∧(∀(j:Nat) (v:V),(capSt cap σ)[j]? =some (some v)→σ'[j]? =some (some v))∧W i n ys H') ?_ m0
      ⟨0,[],[],0,capSt cap σ,H2,pinD IC hD4 (I2.hok.fresh hDs),T.keep _ _ _ st2 fun b hb o e=>k34 b o (k23 b o e),fun b hb=>(f2 b hb).1,.nil,fun _ _ e=>e,w0⟩
    rintro n s3 ⟨i,ys,its,k,σ3,H3,I3,st3,fr3,rv,kp,w3⟩
    obtain⟨hyl,tr⟩:=turn i n ys H3 w3
    have pin3:=I3.pin (D,lObj its k) (List.mem_append_right _ List.mem_cons_self)
    rcases tr with⟨stop,qn⟩ | ⟨go,NN,hNN,step⟩
    · refine thn (T.done (compCx X scope N s2 H2 (D+1) fp) rfl rfl rfl hc i _ s3 σ3 H3 _ I3 (fpO fr3) st3 stop) fun r s4 ⟨hr,I4⟩=>?_
      subst hr
      exact fin D (D+1) σ3 H3 s4 its k ys hDs hDC (Nat.ne_of_lt (Nat.lt_succ_self _)) I4 rv (Nat.le_of_lt hyl) (qn D pin3.2.1)
    · have I3':Inv (compCx X scope N s2 H2 (D+1) fp) [(D,lObj its k)] (capSt cap σ) H3 s3:=I3.weak (by rw[I3.len,IC.len]) kp
      refine thn (T.item (compCx X scope N s2 H2 (D+1) fp) rfl rfl rfl hc i _ s3 _ H3 _ I3' (fpO fr3) st3 go) fun r s4 ⟨u,hr,h4⟩=>?_
      subst hr
      refine thn h4 fun _ s5 ⟨x,H5,I5,r5,y5,st5,fr5⟩=>?_
      have I5':=I5.pinned (fpO fr5) (T.obj _ _ st5)
      refine thn (hg _ _ _ _ _ s5 _ H5 x u _ I5' r5 (step x H5 y5)) fun _ s6 ⟨σ6,H6,I6,kp6,q6⟩=>?_
      refine thn (hf _ _ _ _ _ s6 σ6 H6 _ I6 q6) fun ok s7 ⟨H7,I7,q7⟩=>?_
      have back:∀{s8:Shared} {H8:Hp},Inv (compCx X scope N s2 H2 (D+1) fp) ([(D,lObj its k)]++pinsAt fp s5.heap) σ6 H8 s8→tn (i+1) s8.heap∧(∀b∈fp,H8 b=none)∧s8.heap.get? D=some (lObj its k)∧H8 D=none:=fun {s8 H8} I8=>by
        have at_:∀b∈fp,∀o,s5.heap.get? b=some o→s8.heap.get? b=some o∧H8 b=none:=fun b hb o e=>by
          have z:=I8.pin (b,o) (List.mem_append_right _ (List.mem_append_right _ (mem_pinsAt hb e)))
          exact⟨z.1,z.2.1⟩
        have pd:=I8.pin (D,lObj its k) (List.mem_append_right _ (List.mem_append_left _ List.mem_cons_self))
        refine⟨T.keep _ _ _ st5 fun b hb o e=>(at_ b hb o e).1,fun b hb=>?_,pd.1,pd.2.1⟩
        obtain⟨o,e,d⟩:=T.obj _ _ st5 b hb
        exact(at_ b hb o e).2
      cases ok with
      | false =>
        rw[if_neg Bool.false_ne_true]at q7 ⊢
        obtain⟨m',hm,w'⟩:=hNN _ _ q7
        obtain⟨t7,f7,d7,n7⟩:=back I7
        exact⟨m',hm,i+1,ys,its,k,σ6,H7,I7.unpinned,t7,f7,rv,fun j v e=>Keep.get kp6 e,w'⟩
      | true =>
        rw[if_pos rfl]at q7 ⊢
        refine thn (he _ _ _ _ _ s7 σ6 H7 _ I7 q7) fun y8 s8 ⟨y,H8,I8,r8,q8⟩=>?_
        obtain⟨m',hm,w'⟩:=hNN _ _ q8
        obtain⟨t8,f8,d8,n8⟩:=back I8
        refine append_at (D:=D) (its:=its.toArray) (n:=k) d8 (fun h' hs' hD'=>?_) (by rw[List.size_toArray,←rv.length];exact Nat.le_of_lt hyl)
        have J0:Inv (compCx X scope N s2 H2 (D+1) fp) [] σ6 H8 s8:=I8.pins_of fun p hp=>by cases hp
        have J1:Inv (compCx X scope N s2 H2 (D+1) fp) [] σ6 H8 {s8 with heap:=h'} :=J0.turned (it:=D) (t':=s8.toks) (fun b o hb e=>(hs'.2 b hb).trans e) n8 (Nat.ne_of_lt (Nat.lt_succ_self _)) (.inr hDs) cellsD fun p hp=>by
          have:p∈([]:List (Addr×Obj)):=hp
          cases this
        refine⟨m',hm,i+1,ys++ [y],its++ [y8],k+1,σ6,H8,pinD J1 (by simpa using hD') n8,T.keep _ _ _ t8 fun b hb o e=>(hs'.2 b (Nat.ne_of_lt (fpD b hb))).trans e,f8,rv.append (.cons r8 .nil),fun j v e=>Keep.get kp6 e,w'⟩
  exact codeAny_compStart_list loop (wpAny_mono (T.self _ 0 _ _ _ (T.keep _ _ _ st2 fun b hb o e=>k34 b o (k23 b o e)) loop) (fun _ _ h=>h) fun _ _ h=>h)
end
end L2
namespace L2
open PySem PySem.Spec PyProof.Rows
section
variable {X:Cx} {scope:Scope} {N:List Str} {cap:List (Option Nat)} {tg iter elt:Expr} {ifs:List Expr} {pos:Pos} {wi:TI} {g:TG} {tf:TT} {te:TE}
theorem comp_out {pins:List (Addr×Obj)} {σ σ':St} {H2 H':Hp} {s2 s':Shared} {fp:List Addr} {D C:Addr} {its:List Value} {k:Nat} {ys:List V} {h':Heap} (I2:Inv X pins σ H2 s2) (f2:∀b∈fp,FpOk X pins H2 b)
    (hD:s2.heap.objs.size≤D) (hC:s2.heap.objs.size≤C) (hDC:D≠C) (I':Inv (compCx X scope N s2 H2 C fp) [(D,lObj its k)] σ' H' s') (rv:Vals ys its) (hl:ys.length≤sizeLine) (hs:Heap.SameBut C s'.heap h'):
    Inv X pins σ (upd H' D (.lst ys)) {s' with heap:=h'} :=by
  have pd:=I'.pin (D,lObj its k) (List.mem_append_right _ List.mem_cons_self)
  have nD:H' D=none:=pd.2.1
  have nC:H' C=none:=I'.free
  have lt2:∀b o,s2.heap.get? b=some o→b≠D∧b≠C:=fun b o e=>⟨Nat.ne_of_lt (Nat.lt_of_lt_of_le (Heap.lt_size e) hD),Nat.ne_of_lt (Nat.lt_of_lt_of_le (Heap.lt_size e) hC)⟩
  have hk:∀b o,b≠C→s'.heap.get? b=some o→h'.get? b=some o:=fun b o hb e=>(hs.2 b hb).trans e
  have B:Un (frs X.stack) fp H2 H' s2.heap s'.heap:=I'.base
  have tr:∀b u,H' b=some u→b≠D∧b≠C:=fun b u e=>⟨fun z=>(by rw[z,nD]at e;cases e),fun z=>(by rw[z,nC]at e;cases e)⟩
  refine I2.call' (ch:=fp) I'.os ⟨fun b o e n hb hx=>?_,fun b o e n hb hx=>?_,fun b o e n hx=>?_,fun b o e hx=>?_,fun b xs e=>?_,fun b o u e=>?_,fun b ps e=>?_⟩ (fun b u e=>?_) I'.bare fun b hb=>⟨(f2 b hb).2.2.2.1,(f2 b hb).2.1,(f2 b hb).2.2.2.2.1,(f2 b hb).2.2.2.2.2⟩
  · exact hk b o (lt2 b o e).2 (B.keep b o e n hb hx)
  · obtain⟨sl,q⟩:=B.slot b o e n hb hx
    exact⟨sl,hk b _ (lt2 b o e).2 q⟩
  · rw[upd_ne (lt2 b o e).1];exact B.free b o e n hx
  · obtain⟨o',q⟩:=B.there b o e hx
    exact⟨o',hk b _ (lt2 b o e).2 q⟩
  · rw[upd_ne (tr b _ (B.tups b xs e)).1];exact B.tups b xs e
  · rw[upd_ne (tr b _ (B.frzs b o u e)).1];exact B.frzs b o u e
  · obtain⟨more,q⟩:=B.tbls b ps e
    exact⟨more,by rw[upd_ne (tr b _ q).1];exact q⟩
  · by_cases hb:b=D
    · subst hb
      rw[upd_same]at e;cases e
      exact⟨hl,its,k,rv,hk _ _ hDC pd.1⟩
    · rw[upd_ne hb]at e
      refine(I'.hok b u e).stay (fun c w' hc q=>hk c w' ?_ q) (fun c q=>by rw[upd_ne (tr c _ q).1];exact q) fun c xs q=>by rw[upd_ne (tr c _ q).1];exact q
      rcases hc with z | z
      · rw[z];exact(tr b u e).2
      · exact(tr c _ z).2
theorem comp_names (S:CompScope X scope N cap):∀x∈scope.names,x.2=.local→scope.names.lookup x.1=some .local:=fun x hx hl=>lookup_nodup S.uniq (by rw[←hl];exact hx)
theorem pe_comp (S:CompScope X scope N cap) (hc:X.calm=true) (hi:PI X tg iter wi)
    (hg:∀s H C fp,PG (compCx X scope N s H C fp) tg g) (hf:∀s H C fp,PTs (compCx X scope N s H C fp) ifs tf) (he:∀s H C fp,PE (compCx X scope N s H C fp) elt te)
    (hs:∀x,foldedSetIterable iter X.env x=pure x:=by intro _;rfl):PE X (.ListComp elt [⟨tg,iter,ifs,0⟩] scope pos) (tComp cap wi g tf te):=by
  intro pins s σ H Q I h
  rw[eval_ListComp]
  have frc:∀x∈scope.names,x.2=.free→∃c,X.env.cells.lookup x.1=some c:=fun x hx hk=>I.ok.has x.1 (S.free x hx hk)
  refine wpAny_comprehension_free (use:=none) rfl hs (closureFor_eq frc) S.kind (comp_names S) (thn (hi pins s σ H _ I h) fun v s1 h1=>thn h1 fun itv s2 h2=>?_)
  obtain⟨it,fp,tn,J,H2,rfl,I2,T,st2,f2,W,w0,turn⟩:=h2
  refine comp_core (RR:=fun acc C=>compPost (model X.prog X.w) X.A X.xe none (EP X pins σ Q) acc C) S hc hg hf he I2 T st2 f2 w0 turn fun D C σ' H' s' its k ys hD hC hDC I' rv hl q=>?_
  obtain⟨m,hn,_⟩:=I'.loc
  exact⟨m,hn,fun h' hs'=>⟨.ref D,_,comp_out I2 f2 hD hC hDC I' rv hl hs',rfl,q⟩⟩
end
end L2
namespace L2
open PySem PySem.Spec PyProof.Rows
inductive Src where
  | lst (a:Addr) | tup (a:Addr) | str (l:List Nat)
def Src.has (K:PySem.W.Frag) (H:Hp):Src→List V→Prop
  | .lst a,xs=>SqL K H a xs
  | .tup a,xs=>SqT K H a xs
  | .str l,xs=>xs=l.map fun c=>V.str (sOf [c])
def Src.at (it:Addr) (i:Nat) (h:Heap):Src→Prop
  | .lst a=>h.IsListIter it a i
  | .tup a=>h.IsTupleIter it a i
  | .str l=>∃t,h.IsStrIter it "str_ascii_iterator" (sOf l) t i∨h.IsStrIter it "str_iterator" (sOf l) t i
def Src.val:Src→V
  | .lst a=>.ref a
  | .tup a=>.ref a
  | .str l=>.str (sOf l)
section
variable {P:Program} {w:World} {A:Around} {E:Value→Shared→Prop} {s:Shared}
theorem nextTup_item {j a:Addr} {k:Nat} {us:Array Value} {x:Value} {Q:Value→Shared→Prop} (g:s.heap.IsTupleIter j a k) (ga:s.heap.IsTuple a us) (gx:us[k]? =some x)
    (q:∀h',h'.IsTupleIter j a (k+1)→Heap.SameBut j s.heap h'→Q x {s with heap:=h'}):wpAny (model P w) A (Builtin.SmallTypes.nextOf (.ref j)) Q E s:=by
  obtain⟨ob,e1,e2,e3⟩:=id g;obtain⟨ot,f1,_,nn,f3⟩:=ga
  unfold Builtin.SmallTypes.nextOf
  refine wpAny_bind (wpAny_callSpecial?_slot (name:=Str.ofString "__next__") g.typeIs PySem.F.slot_tuple_iterator_next (wpAny_call_entry PySem.F.slot_tuple_iterator_next g.typeIs PySem.F.entry_tuple_iterator_next ?_ (PySem.F.args_tuple_iterator_next_1 _)))
  show wpAny (model P w) _ (field (.ref j) 0 >>= _) _ _ s
  refine wpAny_bind (wpAny_field e1 e3 (x:=.ref a) rfl ?_)
  show wpAny (model P w) _ (if(Value.ref a == Value.none)=true then _ else _) _ _ s
  rw[if_neg (show ¬((Value.ref a == Value.none)=true)from Bool.false_ne_true)]
  show wpAny (model P w) _ (field (.ref j) 1 >>= _) _ _ s
  refine wpAny_bind (wpAny_field e1 e3 (x:=.int k 0) rfl ?_)
  show wpAny (model P w) _ (seqItems? (.ref a) >>= _) _ _ s
  refine wpAny_bind (wpAny_seqItems f1 f3 ?_)
  simp only[Int.toNat_natCast,gx]
  refine wpAny_bind (wpAny_setField e1 e3 (by simp) (wpAny_pure ⟨x,rfl,wpAny_pure (q _ ⟨_,Heap.get?_update_self _ e1 (Obj.isFreed_of_fields (Obj.data_mapFields e3 _)),(Obj.cls_mapFields ..).trans e2,(by rw[Obj.data_mapFields e3];simp[rawInt])⟩ (Heap.SameBut.update ..))⟩))
theorem nextTup_end {j a:Addr} {k:Nat} {us:Array Value} {Q:Value→Shared→Prop} (hh:A.handled=none) (g:s.heap.IsTupleIter j a k) (ga:s.heap.IsTuple a us) (gx:us[k]? =none)
    (q:∀h' e,Heap.ExtBut j s.heap h'→(∃o,h'.get? e=some o∧o.cls=.type "StopIteration")→E (.ref e) {s with heap:=h'}):wpAny (model P w) A (Builtin.SmallTypes.nextOf (.ref j)) Q E s:=by
  obtain⟨ob,e1,e2,e3⟩:=id g;obtain⟨ot,f1,_,nn,f3⟩:=ga
  unfold Builtin.SmallTypes.nextOf
  refine wpAny_bind (wpAny_callSpecial?_slot (name:=Str.ofString "__next__") g.typeIs PySem.F.slot_tuple_iterator_next (wpAny_call_entry PySem.F.slot_tuple_iterator_next g.typeIs PySem.F.entry_tuple_iterator_next ?_ (PySem.F.args_tuple_iterator_next_1 _)))
  show wpAny (model P w) _ (field (.ref j) 0 >>= _) _ _ s
  refine wpAny_bind (wpAny_field e1 e3 (x:=.ref a) rfl ?_)
  show wpAny (model P w) _ (if(Value.ref a == Value.none)=true then _ else _) _ _ s
  rw[if_neg (show ¬((Value.ref a == Value.none)=true)from Bool.false_ne_true)]
  show wpAny (model P w) _ (field (.ref j) 1 >>= _) _ _ s
  refine wpAny_bind (wpAny_field e1 e3 (x:=.int k 0) rfl ?_)
  show wpAny (model P w) _ (seqItems? (.ref a) >>= _) _ _ s
  refine wpAny_bind (wpAny_seqItems f1 f3 ?_)
  simp only[Int.toNat_natCast,gx]
  refine wpAny_bind (wpAny_rule (wpAny_bind (wpAny_setField e1 e3 (by simp) ?_)))
  show wpAny (model P w) _ (newExc (.type "StopIteration") [] >>= _) _ _ _
  refine wpAny_bind ?_;simp only[newExc,newTuple]
  refine wpAny_bind (wpAny_newObj_type (wpAny_bind (m:=firstArgMember _ _) (wpAny_of_eq (a:=Value.none) (by first | rfl | (simp only[firstArgMember];rfl)) (wpAny_newObj_type ?_ (by size_fits)))) (by size_fits))
  simp only[raiseNew];refine wpAny_bind (wpAny_handled ?_)
  first | rw[show A.in1.handled=none from hh] | rw[hh]
  exact wpAny_bind (wpAny_pure (wpAny_throw (q _ _ (((Heap.SameBut.update ..).extBut.push _).push _) ⟨_,Heap.get?_push_size _ rfl,rfl⟩)))
theorem drawsTup (hh:A.handled=none) (j a:Addr) (ne:a≠j) (us:Array Value):Draws P w A j [j,a] us.size (fun k v=>us[k]? =some v) (fun k h=>h.IsTupleIter j a k∧h.IsTuple a us) where
  live:=fun _ _ st=>by obtain⟨⟨o,e,_⟩,_⟩:=st;exact⟨o,e⟩
  frame:=fun _ _ _ st hk=>⟨st.1.at fun o e=>hk j (by simp) o e,by obtain⟨o,e,r⟩:=st.2;exact⟨o,hk a (by simp) o e,r⟩⟩
  item:=fun k s Q E hk st q=>nextTup_item st.1 st.2 (x:=us[k]) (by simp[hk]) fun h' g' sb=>q _ h' s.toks (by simp[hk]) ⟨g',by obtain⟨o,e,r⟩:=st.2;exact⟨o,(sb.2 a ne).trans e,r⟩⟩ sb
  done:=fun s Q E st q=>nextTup_end hh st.1 st.2 (by simp) q
theorem Src.draws {X:Cx} {pins:List (Addr×Obj)} {σ:St} {H:Hp} {s0:Shared} {c:Src} {xs:List V} {it:Addr} {i:Nat} (hh:A.handled=none) (I:Inv X pins σ H s0) (hs:c.has X.K H xs) (ht:c.at it i s0.heap) (hit:H it=none):
    ∃ (fp : List Addr) (Pt : Nat → Value → Prop) (St : Nat → Heap → Prop), Draws X.prog X.w A it fp xs.length Pt St ∧ St i s0.heap ∧ (∀ k v, Pt k v → ∃ x, xs[k]? = some x ∧ RelV x v) ∧ (∀ k h, St k h → c.at it k h) ∧ it ∈ fp ∧
      ∀b∈fp,b=it∨H b≠none∨∃o,X.base.get? b=some o:=by
  cases c with
  | lst a =>
    obtain⟨its,rv,p,hz⟩:=I.list hs
    have ne:a≠it:=fun z=>by
      obtain⟨o,e,c1,_⟩:=(show s0.heap.IsListIter it a i from ht)
      obtain⟨o2,e2,c2,_⟩:=p.isList
      rw[z,e]at e2;cases e2;rw[c1]at c2;exact absurd c2 (by decide)
    have dr:=Draws.list (prog:=X.prog) (w:=X.w) hh it a ne its.toArray
    rw[List.size_toArray,←rv.length]at dr
    refine⟨_,_,_,dr,⟨ht,p.isList⟩,fun k v e=>?_,fun k h st=>st.1,by simp,fun b hb=>?_⟩
    · have e:its[k]? =some v:=by simpa using e
      have hk:k< xs.length:=by rw[rv.length];exact(List.getElem?_eq_some_iff.mp e).1
      obtain⟨u,hu,ru⟩:=rv.get (i:=k) (x:=xs[k]) (by simp[hk])
      rw[e]at hu;cases hu
      exact⟨_,by simp[hk],ru⟩
    · rcases List.mem_cons.mp hb with z | z
      · exact .inl z
      · have z:b=a:=by simpa using z
        subst z
        rcases (show SqL X.K H b xs from hs)with(z | ⟨o,z⟩) | ⟨o,_,_,z,_⟩
        · exact .inr (.inl (by rw[z];simp))
        · exact .inr (.inl (by rw[z];simp))
        · exact .inr (.inr ⟨_,I.mod.kin _ _ z⟩)
  | tup a =>
    obtain⟨its,rv,p,hz⟩:=I.tuple hs
    have p:s0.heap.IsTuple a its.toArray:=p
    have ne:a≠it:=fun z=>by
      obtain⟨o,e,c1,_⟩:=(show s0.heap.IsTupleIter it a i from ht)
      obtain⟨o2,e2,c2,_⟩:=id p
      rw[z,e]at e2;cases e2;rw[c1]at c2;exact absurd c2 (by decide)
    have dr:=drawsTup (P:=X.prog) (w:=X.w) hh it a ne its.toArray
    rw[List.size_toArray,←rv.length]at dr
    refine⟨_,_,_,dr,⟨ht,p⟩,fun k v e=>?_,fun k h st=>st.1,by simp,fun b hb=>?_⟩
    · have e:its[k]? =some v:=by simpa using e
      have hk:k< xs.length:=by rw[rv.length];exact(List.getElem?_eq_some_iff.mp e).1
      obtain⟨u,hu,ru⟩:=rv.get (i:=k) (x:=xs[k]) (by simp[hk])
      rw[e]at hu;cases hu
      exact⟨_,by simp[hk],ru⟩
    · rcases List.mem_cons.mp hb with z | z
      · exact .inl z
      · have z:b=a:=by simpa using z
        subst z
        rcases (show SqT X.K H b xs from hs)with(z | ⟨o,z⟩) | ⟨o,_,_,z,_⟩
        · exact .inr (.inl (by rw[z];simp))
        · exact .inr (.inl (by rw[z];simp))
        · exact .inr (.inr ⟨_,I.mod.kin _ _ z⟩)
  | str l =>
    have hs:xs=l.map fun c=>V.str (sOf [c]):=hs
    obtain⟨t,ht⟩:=(show ∃t,s0.heap.IsStrIter it "str_ascii_iterator" (sOf l) t i∨s0.heap.IsStrIter it "str_iterator" (sOf l) t i from ht)
    have hn:(sOf l).cps.size=xs.length:=by rw[hs];simp[sOf]
    have sg:∀(k:Nat) (v:Value),(∃c u,(sOf l).cps[k]? =some c∧v=.str ⟨#[c]⟩ u)→∃x,xs[k]? =some x∧RelV x v:=fun k v ⟨c,u,e,ev⟩=>by
      have e:l[k]? =some c:=by simpa [sOf] using e
      exact⟨.str (sOf [c]),by rw[hs];simp[e],⟨u,ev⟩⟩
    rcases ht with ht | ht
    · exact⟨_,_,_,hn▸Draws.strAscii hh it (sOf l) t,ht,sg,fun k h st=>⟨t,.inl st⟩,by simp,fun b hb=>.inl (by simpa using hb)⟩
    · exact⟨_,_,_,hn▸Draws.strWide hh it (sOf l) t,ht,sg,fun k h st=>⟨t,.inr st⟩,by simp,fun b hb=>.inl (by simpa using hb)⟩
end
end L2
namespace L2
open PySem PySem.Spec PyProof.Rows
def IterOf (v:Value) (h:Heap) (o:Obj):Prop:=∀(prog:Program) (w:World) (A:Around) (E:Value→Shared→Prop) (Q:Value→Shared→Prop) (s:Shared),s.heap=h→Q (.ref h.objs.size) {s with heap:=h.push o}→wpAny (model prog w) A (pyIter v) Q E s
def zp3 (h:Heap) (o1 o2:Obj):Heap:=((h.push o1).push o2).push {cls:=.type "tuple",data:=.seq #[.ref h.objs.size,.ref (h.push o1).objs.size]}
def zp4 (h:Heap) (o1 o2:Obj):Heap:=(zp3 h o1 o2).push {cls:=.type "tuple",data:=.seq #[.none,.none]}
def zp5 (h:Heap) (o1 o2:Obj):Heap:=(zp4 h o1 o2).push {cls:=.type "zip",data:=.fields #[.none,.bool false,.bool false,.ref ((h.push o1).push o2).objs.size,.ref (zp3 h o1 o2).objs.size]}
theorem zipNew_meets (v1 v2:Value) (o1 o2:Obj):Meets (Builtin.«zip.__new__» ⟨[.type "zip",v1,v2],[]⟩) (fun _ R s=>IterOf v1 s.heap o1∧IterOf v2 (s.heap.push o1) o2∧R (.ok (.ret (.ref (zp4 s.heap o1 o2).objs.size))) {s with heap:=zp5 s.heap o1 o2}):=
  .of_wp fun prog w A R s h=>by
    obtain⟨hp,g,d,tk,os⟩:=s;obtain⟨i1,i2,h⟩:=h
    have hsub:=sub_zip
    have j1:=fun(A:Around) (E:Value→Shared→Prop) (Q:Value→Shared→Prop) (q:Q _ _)=>i1 prog w A E Q ⟨hp,g,d,tk,os⟩ rfl q
    have j2:=fun(A:Around) (E:Value→Shared→Prop) (Q:Value→Shared→Prop) (q:Q _ _)=>i2 prog w A E Q ⟨hp.push o1,g,d,tk,os⟩ rfl q
    wp_walk using j1 _ _ _,j2 _ _ _
    exact⟨_,rfl,h⟩
theorem call_zipG {P:Program} {w:World} {A:Around} {E:Value→Shared→Prop} {s:Shared} {v1 v2:Value} {o1 o2:Obj} {Q:Value→Shared→Prop} (i1:IterOf v1 s.heap o1) (i2:IterOf v2 (s.heap.push o1) o2)
    (f1:o1.isFreed=false) (f2:o2.isFreed=false)
    (q:∀h',IsZip h' (s.heap.objs.size+4) (s.heap.objs.size+2) (s.heap.objs.size+3) .none→IsPair h' (s.heap.objs.size+2) (.ref s.heap.objs.size) (.ref (s.heap.objs.size+1))→IsPair h' (s.heap.objs.size+3) .none .none→
      h'.get? s.heap.objs.size=some o1→h'.get? (s.heap.objs.size+1)=some o2→(∀c o,s.heap.get? c=some o→h'.get? c=some o)→Q (.ref (s.heap.objs.size+4)) {s with heap:=h'}):
    wpAny (model P w) A (call (.type "zip") [v1,v2]) Q E s:=by
  refine callType_new PySem.F.called_zip (by decide) (PySem.F.typeCall_zip_2 _ _) (PySem.F.newCall_zip_2 _ _) (fun obj=>PySem.F.args_object_init_3 obj _ _) PySem.F.entry_zip_new (zipNew_meets v1 v2 o1 o2) ⟨i1,i2,?_⟩
  have z1:(s.heap.push o1).objs.size=s.heap.objs.size+1:=Heap.size_push ..
  have z2:((s.heap.push o1).push o2).objs.size=s.heap.objs.size+2:=by rw[Heap.size_push,z1]
  have z3:(zp3 s.heap o1 o2).objs.size=s.heap.objs.size+3:=by unfold zp3;rw[Heap.size_push,z2]
  have z4:(zp4 s.heap o1 o2).objs.size=s.heap.objs.size+4:=by unfold zp4;rw[Heap.size_push,z3]
  have g5:(zp5 s.heap o1 o2).get? (zp4 s.heap o1 o2).objs.size=some _:=Heap.get?_push_size _ rfl
  have g4:(zp5 s.heap o1 o2).get? (zp3 s.heap o1 o2).objs.size=some _:=Heap.get?_push_of_some _ (Heap.get?_push_size _ rfl)
  have g3:(zp5 s.heap o1 o2).get? ((s.heap.push o1).push o2).objs.size=some _:=Heap.get?_push_of_some _ (Heap.get?_push_of_some _ (Heap.get?_push_size _ rfl))
  have g2:(zp5 s.heap o1 o2).get? (s.heap.push o1).objs.size=some o2:=Heap.get?_push_of_some _ (Heap.get?_push_of_some _ (Heap.get?_push_of_some _ (Heap.get?_push_size _ f2)))
  have g1:(zp5 s.heap o1 o2).get? s.heap.objs.size=some o1:=Heap.get?_push_of_some _ (Heap.get?_push_of_some _ (Heap.get?_push_of_some _ (Heap.get?_push_of_some _ (Heap.get?_push_size _ f1))))
  show _∧_
  rw[z2,z3,z4]at g5
  rw[z1,z2]at g3
  rw[z3]at g4
  rw[z1]at g2
  rw[z4]
  exact⟨⟨_,g5,rfl⟩,q _ g5 g3 g4 g1 g2 fun c o x=>Heap.get?_push_of_some _ (Heap.get?_push_of_some _ (Heap.get?_push_of_some _ (Heap.get?_push_of_some _ (Heap.get?_push_of_some _ x))))⟩
theorem Src.iter {X:Cx} {pins:List (Addr×Obj)} {σ:St} {H:Hp} {s:Shared} {c:Src} {xs:List V} {v:Value} {h:Heap} (I:Inv X pins σ H s) (hs:c.has X.K H xs) (rv:RelV c.val v) (k:∀b o,s.heap.get? b=some o→h.get? b=some o):
    ∃o,IterOf v h o∧o.isFreed=false∧(∀h':Heap,h'.get? h.objs.size=some o→c.at h.objs.size 0 h'):=by
  cases c with
  | lst a =>
    obtain⟨its,r,p,hz⟩:=I.list hs
    cases (show v=.ref a from rv)
    obtain⟨o,e,r2⟩:=p.isList
    refine⟨{cls:=.type "list_iterator",data:=.fields #[.ref a,.int 0 0]},fun prog w A E Q s' e' q=>?_,rfl,fun h' e'=>⟨_,e',rfl,rfl⟩⟩
    subst e'
    exact wpAny_pyIter_list ⟨o,k a o e,r2⟩ q
  | tup a =>
    obtain⟨its,r,p,hz⟩:=I.tuple hs
    cases (show v=.ref a from rv)
    obtain⟨o,e,r2⟩:=p
    refine⟨{cls:=.type "tuple_iterator",data:=.fields #[.ref a,.int 0 0]},fun prog w A E Q s' e' q=>?_,rfl,fun h' e'=>⟨_,e',rfl,rfl⟩⟩
    subst e'
    exact wpAny_pyIter_tuple ⟨o,k a o e,r2⟩ q
  | str l =>
    obtain⟨t,rfl⟩:=(show ∃t,v=.str (sOf l) t from rv)
    cases ha:(sOf l).cps.all (· <128)
    · exact⟨{cls:=.type "str_iterator",data:=.fields #[.str (sOf l) t,.int 0 0]},fun prog w A E Q s' e' q=>by subst e';exact wpAny_pyIter_wide ha q,rfl,fun h' e'=>⟨t,.inr ⟨_,e',rfl,rfl⟩⟩⟩
    · exact⟨{cls:=.type "str_ascii_iterator",data:=.fields #[.str (sOf l) t,.int 0 0]},fun prog w A E Q s' e' q=>by subst e';exact wpAny_pyIter_ascii ha q,rfl,fun h' e'=>⟨t,.inl ⟨_,e',rfl,rfl⟩⟩⟩
end L2
namespace L2
open PySem PySem.Spec PyProof.Rows
section
variable {P:Program} {w:World} {A:Around} {E:Value→Shared→Prop} {s:Shared} {z TI TO i1 i2:Addr} {fp1 fp2:List Addr} {n1 n2 k:Nat} {P1 P2:Nat→Value→Prop} {S1 S2:Nat→Heap→Prop} {a b:Value}
structure ZApart (z TI TO i1 i2:Addr) (fp1 fp2:List Addr):Prop where
  c1:TI≠z
  c2:TO≠z
  c3:i1≠z
  c4:i2≠z
  c5:TI≠TO
  c6:TI≠i1
  c7:TI≠i2
  c8:TO≠i1
  c9:TO≠i2
  d1:z∉fp1∧TO∉fp1∧i2∉fp1
  d2:z∉fp2∧TO∉fp2∧i1∉fp2
theorem frame_of {n:Nat} {it:Addr} {fp:List Addr} {Pt:Nat→Value→Prop} {S:Nat→Heap→Prop} (D:Draws P w A it fp n Pt S) {j:Nat} {h h':Heap} {c:Addr} (st:S j h) (sb:Heap.SameBut c h h') (hc:c∉fp):S j h':=
  D.frame _ _ _ st fun b hb o e=>(sb.2 b fun q=>hc (q▸hb)).trans e
theorem zipG_item {Q:Option Value→Shared→Prop} (D1:Draws P w A.in1 i1 fp1 n1 P1 S1) (D2:Draws P w A.in1 i2 fp2 n2 P2 S2) (Z:ZApart z TI TO i1 i2 fp1 fp2) (h1:k< n1) (h2:k< n2) (hz:IsZip s.heap z TI TO .none)
    (hI:IsPair s.heap TI (.ref i1) (.ref i2)) (hO:IsPair s.heap TO a b) (t1:S1 k s.heap) (t2:S2 k s.heap)
    (q:∀x y h' tk T,P1 k x→P2 k y→T=s.heap.objs.size→IsZip h' z TI TO (rawInt T)→IsPair h' TO x y→S1 (k+1) h'→S2 (k+1) h'→IsPair h' T x y→
      (∀c o,c≠z→c≠TO→c≠i1→c≠i2→s.heap.get? c=some o→h'.get? c=some o)→Q (some (.ref T)) {s with heap:=h',toks:=tk}):
    wpAny (model P w) A (pyNext (.ref z)) Q E s:=by
  have hT:s.TypeIs (.ref z) "zip" :=⟨_,hz,rfl⟩
  unfold pyNext
  refine wpAny_bind (wpAny_attempt (wpAny_callSpecial?_slot (name:=Str.ofString "__next__") hT PySem.F.slot_zip_next (wpAny_call_entry PySem.F.slot_zip_next hT PySem.F.entry_zip_next ?_ (PySem.F.args_zip_next_1 _))))
  obtain⟨hp,gg,dd,tk0,os⟩:=s
  show wpAny (model P w) _ (field (.ref z) 2 >>= _) _ _ _
  refine wpAny_bind (wpAny_field hz rfl (x:=.bool false) rfl ?_)
  show wpAny (model P w) _ (field (.ref z) 3 >>= _) _ _ _
  refine wpAny_bind (wpAny_field hz rfl (x:=.ref TI) rfl (wpAny_bind (wpAny_seqItems hI rfl ?_)))
  show wpAny (model P w) _ (Builtin.SmallTypes.ownedTupleIsFree (.ref z) >>= _) _ _ _
  refine wpAny_bind ?_;unfold Builtin.SmallTypes.ownedTupleIsFree
  refine wpAny_bind (wpAny_field hz rfl (x:=.none) rfl (wpAny_pure ?_));simp only[if_true]
  refine wpAny_bind (wpAny_rule (wpAny_bind (wpAny_field hz rfl (x:=.ref TO) rfl (wpAny_bind (wpAny_setField_rec hz (by simp) fun g1 y1 b1=>?_)))))
  replace y1:IsZip g1 z TI TO .ellipsis:=y1
  replace b1:Heap.SameBut z hp g1:=b1
  refine wpAny_bind ?_;simp only[List.zipIdx_cons,List.zipIdx_nil,List.forIn_cons,List.forIn_nil]
  refine wpAny_bind (wpAny_bind (wpAny_onRaise ?_))
  show wpAny (model P w) _ (Builtin.SmallTypes.nextOf (.ref i1) >>= _) _ _ _
  refine wpAny_bind (D1.item k _ _ _ h1 (frame_of D1 t1 b1 Z.d1.1) fun x g2 tk2 px u1 b2=>wpAny_pure ?_)
  replace b2:Heap.SameBut i1 g1 g2:=b2
  have O2:IsPair g2 TO a b:=b2.extBut _ _ Z.c8 (b1.extBut _ _ Z.c2 hO)
  refine wpAny_bind (wpAny_seqItems O2 rfl (wpAny_bind (wpAny_updateSeq_pair O2 fun g3 O3 b3=>?_)))
  replace O3:IsPair g3 TO x b:=O3
  replace b3:Heap.SameBut TO g2 g3:=b3
  refine wpAny_bind (wpAny_letGo (wpAny_pure (wpAny_bind (wpAny_bind (wpAny_onRaise ?_)))))
  show wpAny (model P w) _ (Builtin.SmallTypes.nextOf (.ref i2) >>= _) _ _ _
  refine wpAny_bind (D2.item k _ _ _ h2 (frame_of D2 (frame_of D2 (frame_of D2 t2 b1 Z.d2.1) b2 Z.d2.2.2) b3 Z.d2.2.1) fun y g4 tk4 py u2 b4=>wpAny_pure ?_)
  replace b4:Heap.SameBut i2 g3 g4:=b4
  have O4:IsPair g4 TO x b:=b4.extBut _ _ Z.c9 O3
  refine wpAny_bind (wpAny_seqItems O4 rfl (wpAny_bind (wpAny_updateSeq_pair O4 fun g5 O5 b5=>?_)))
  replace O5:IsPair g5 TO x y:=O5
  replace b5:Heap.SameBut TO g4 g5:=b5
  refine wpAny_bind (wpAny_letGo (wpAny_pure (wpAny_pure (wpAny_bind (wpAny_seqItems O5 rfl (wpAny_bind (wpAny_newTuple ?_)))))))
  have sz:g5.objs.size=hp.objs.size:=by rw[b5.1,b4.1,b3.1,b2.1,b1.1]
  have y5:IsZip g5 z TI TO .ellipsis:=b5.extBut _ _ Z.c2.symm (b4.extBut _ _ Z.c4.symm (b3.extBut _ _ Z.c2.symm (b2.extBut _ _ Z.c3.symm y1)))
  have k5:∀c o,c≠z→c≠TO→c≠i1→c≠i2→hp.get? c=some o→g5.get? c=some o:=fun c o e1 e2 e3 e4 e=>b5.extBut _ _ e2 (b4.extBut _ _ e4 (b3.extBut _ _ e2 (b2.extBut _ _ e3 (b1.extBut _ _ e1 e))))
  have v1:S1 (k+1) g5:=frame_of D1 (frame_of D1 (frame_of D1 u1 b3 Z.d1.2.1) b4 Z.d1.2.2) b5 Z.d1.2.1
  have v2:S2 (k+1) g5:=frame_of D2 u2 b5 Z.d2.2.1
  have lz:z< g5.objs.size:=Heap.lt_size y5
  show wpAny (model P w) _ (Builtin.SmallTypes.ownedTupleHandOut (.ref z) (.ref g5.objs.size) >>= _) _ _ _
  refine wpAny_bind ?_;unfold Builtin.SmallTypes.ownedTupleHandOut
  have y6:IsZip (g5.push {cls:=.type "tuple",data:=.seq #[x,y]}) z TI TO .ellipsis:=Heap.get?_push_of_some _ y5
  refine wpAny_bind (wpAny_setField_rec y6 (by simp) fun g7 y7 b7=>?_)
  replace y7:IsZip g7 z TI TO (rawInt g5.objs.size):=y7
  replace b7:Heap.SameBut z (g5.push {cls:=.type "tuple",data:=.seq #[x,y]}) g7:=b7
  refine wpAny_setField_rec y7 (by simp) fun g8 y8 b8=>?_
  replace y8:IsZip g8 z TI TO (rawInt g5.objs.size):=y8
  replace b8:Heap.SameBut z g7 g8:=b8
  have up:∀c o,c≠z→g5.get? c=some o→g8.get? c=some o:=fun c o e1 e=>b8.extBut _ _ e1 (b7.extBut _ _ e1 (Heap.get?_push_of_some _ e))
  have T8:IsPair g8 g5.objs.size x y:=b8.extBut _ _ (Nat.ne_of_gt lz) (b7.extBut _ _ (Nat.ne_of_gt lz) (Heap.get?_push_size _ rfl))
  refine wpAny_pure ⟨_,rfl,wpAny_pure (q x y g8 _ g5.objs.size px py sz y8 (up _ _ Z.c2 O5) (D1.frame _ _ _ v1 fun b hb o e=>up b o (fun q=>Z.d1.1 (q▸hb)) e) (D2.frame _ _ _ v2 fun b hb o e=>up b o (fun q=>Z.d2.1 (q▸hb)) e) T8 fun c o e1 e2 e3 e4 e=>up c o e1 (k5 c o e1 e2 e3 e4 e))⟩
theorem zipG_end {Q:Option Value→Shared→Prop} (hh:A.handled=none) (D1:Draws P w A.in1 i1 fp1 n1 P1 S1) (D2:Draws P w A.in1 i2 fp2 n2 P2 S2) (Z:ZApart z TI TO i1 i2 fp1 fp2) (hk:k=n1∨(k< n1∧k=n2)) (hz:IsZip s.heap z TI TO .none)
    (hI:IsPair s.heap TI (.ref i1) (.ref i2)) (hO:IsPair s.heap TO a b) (t1:S1 k s.heap) (t2:S2 k s.heap)
    (q:∀h' tk,(∀c o,c≠z→c≠TO→c≠i1→c≠i2→s.heap.get? c=some o→h'.get? c=some o)→Q none {s with heap:=h',toks:=tk}):
    wpAny (model P w) A (pyNext (.ref z)) Q E s:=by
  have hT:s.TypeIs (.ref z) "zip" :=⟨_,hz,rfl⟩
  unfold pyNext
  refine wpAny_bind (wpAny_attempt (wpAny_callSpecial?_slot (name:=Str.ofString "__next__") hT PySem.F.slot_zip_next (wpAny_call_entry PySem.F.slot_zip_next hT PySem.F.entry_zip_next ?_ (PySem.F.args_zip_next_1 _))))
  obtain⟨hp,gg,dd,tk0,os⟩:=s
  show wpAny (model P w) _ (field (.ref z) 2 >>= _) _ _ _
  refine wpAny_bind (wpAny_field hz rfl (x:=.bool false) rfl ?_)
  show wpAny (model P w) _ (field (.ref z) 3 >>= _) _ _ _
  refine wpAny_bind (wpAny_field hz rfl (x:=.ref TI) rfl (wpAny_bind (wpAny_seqItems hI rfl ?_)))
  show wpAny (model P w) _ (Builtin.SmallTypes.ownedTupleIsFree (.ref z) >>= _) _ _ _
  refine wpAny_bind ?_;unfold Builtin.SmallTypes.ownedTupleIsFree
  refine wpAny_bind (wpAny_field hz rfl (x:=.none) rfl (wpAny_pure ?_));simp only[if_true]
  refine wpAny_bind (wpAny_rule (wpAny_bind (wpAny_field hz rfl (x:=.ref TO) rfl (wpAny_bind (wpAny_setField_rec hz (by simp) fun g1 y1 b1=>?_)))))
  replace y1:IsZip g1 z TI TO .ellipsis:=y1
  replace b1:Heap.SameBut z hp g1:=b1
  refine wpAny_bind ?_;simp only[List.zipIdx_cons,List.zipIdx_nil,List.forIn_cons,List.forIn_nil]
  refine wpAny_bind (wpAny_bind (wpAny_onRaise ?_))
  show wpAny (model P w) _ (Builtin.SmallTypes.nextOf (.ref i1) >>= _) _ _ _
  rcases hk with hk | ⟨hk1,hk2⟩
  · subst hk
    refine wpAny_bind (D1.done _ _ _ (frame_of D1 t1 b1 Z.d1.1) fun g2 e b2 he=>?_)
    obtain⟨oe,hoe,hce⟩:=he
    replace b2:Heap.ExtBut i1 g1 g2:=b2
    have y2:IsZip g2 z TI TO .ellipsis:=b2 _ _ Z.c3.symm y1
    have ez:e≠z:=fun x=>by subst x;rw[y2]at hoe;cases hoe;simp at hce
    refine wpAny_setField_rec y2 (by simp) fun g3 _ b3=>?_
    exact wpAny_bind (wpAny_isInstance (T:="StopIteration") (b:=true) ⟨oe,b3.extBut _ _ ez hoe,hce⟩ isSubtype_stop (wpAny_pure (q g3 _ fun c o e1 _ e3 _ x=>b3.extBut _ _ e1 (b2 _ _ e3 (b1.extBut _ _ e1 x)))))
  · subst hk2
    refine wpAny_bind (D1.item k _ _ _ hk1 (frame_of D1 t1 b1 Z.d1.1) fun x g2 tk2 px u1 b2=>wpAny_pure ?_)
    replace b2:Heap.SameBut i1 g1 g2:=b2
    have O2:IsPair g2 TO a b:=b2.extBut _ _ Z.c8 (b1.extBut _ _ Z.c2 hO)
    refine wpAny_bind (wpAny_seqItems O2 rfl (wpAny_bind (wpAny_updateSeq_pair O2 fun g3 O3 b3=>?_)))
    replace b3:Heap.SameBut TO g2 g3:=b3
    refine wpAny_bind (wpAny_letGo (wpAny_pure (wpAny_bind (wpAny_bind (wpAny_onRaise ?_)))))
    show wpAny (model P w) _ (Builtin.SmallTypes.nextOf (.ref i2) >>= _) _ _ _
    refine wpAny_bind (D2.done _ _ _ (frame_of D2 (frame_of D2 (frame_of D2 t2 b1 Z.d2.1) b2 Z.d2.2.2) b3 Z.d2.2.1) fun g4 e b4 he=>?_)
    obtain⟨oe,hoe,hce⟩:=he
    replace b4:Heap.ExtBut i2 g3 g4:=b4
    have y4:IsZip g4 z TI TO .ellipsis:=b4 _ _ Z.c4.symm (b3.extBut _ _ Z.c2.symm (b2.extBut _ _ Z.c3.symm y1))
    have ez:e≠z:=fun x=>by subst x;rw[y4]at hoe;cases hoe;simp at hce
    refine wpAny_setField_rec y4 (by simp) fun g5 _ b5=>?_
    exact wpAny_bind (wpAny_isInstance (T:="StopIteration") (b:=true) ⟨oe,b5.extBut _ _ ez hoe,hce⟩ isSubtype_stop (wpAny_pure (q g5 _ fun c o e1 e2 e3 e4 x=>b5.extBut _ _ e1 (b4 _ _ e4 (b3.extBut _ _ e2 (b2.extBut _ _ e3 (b1.extBut _ _ e1 x)))))))
end
end L2
namespace L2
open PySem PySem.Spec PyProof.Rows
def Itz (K:PySem.W.Frag) (c1 c2:Src):It:=
  ⟨fun i H=>∃xs ys x y,c1.has K H xs∧c2.has K H ys∧xs[i]? =some x∧ys[i]? =some y,
   fun i H v H'=>∃p x y,H p=none∧v=.ref p∧(∀xs,c1.has K H xs→xs[i]? =some x)∧(∀ys,c2.has K H ys→ys[i]? =some y)∧H'=upd H p (.tup [x,y]),
   fun i H=>∃xs ys,c1.has K H xs∧c2.has K H ys∧(i=xs.length∨(i< xs.length∧i=ys.length))⟩
theorem Src.inj {X:Cx} {pins:List (Addr×Obj)} {σ:St} {H:Hp} {s:Shared} {c:Src} {xs ys:List V} (I:Inv X pins σ H s) (h1:c.has X.K H xs) (h2:c.has X.K H ys):xs=ys:=by
  cases c with
  | lst a=>exact I.list_inj h1 h2
  | tup a=>exact I.tuple_inj h1 h2
  | str l=>exact Eq.trans h1 (Eq.symm h2)
theorem Src.at_keep {c:Src} {it:Addr} {i:Nat} {h h':Heap} (st:c.at it i h) (k:∀o,h.get? it=some o→h'.get? it=some o):c.at it i h':=by
  cases c with
  | lst a=>obtain⟨o,e,r⟩:=st;exact⟨o,k o e,r⟩
  | tup a=>obtain⟨o,e,r⟩:=st;exact⟨o,k o e,r⟩
  | str l =>
    obtain⟨t,st⟩:=st
    rcases st with⟨o,e,r⟩ | ⟨o,e,r⟩
    · exact⟨t,.inl ⟨o,k o e,r⟩⟩
    · exact⟨t,.inr ⟨o,k o e,r⟩⟩
theorem Src.at_obj {c:Src} {it:Addr} {i:Nat} {h:Heap} (st:c.at it i h):∃o,h.get? it=some o∧∃vs,o.data=.fields vs:=by
  cases c with
  | lst a=>obtain⟨o,e,_,r⟩:=st;exact⟨o,e,_,r⟩
  | tup a=>obtain⟨o,e,_,r⟩:=st;exact⟨o,e,_,r⟩
  | str l =>
    obtain⟨t,st⟩:=st
    rcases st with⟨o,e,_,r⟩ | ⟨o,e,_,r⟩
    · exact⟨o,e,_,r⟩
    · exact⟨o,e,_,r⟩
def zTn (c1 c2:Src) (z TI TO i1 i2:Addr) (i:Nat) (h:Heap):Prop:=IsZip h z TI TO .none∧IsPair h TI (.ref i1) (.ref i2)∧(∃a b,IsPair h TO a b)∧c1.at i1 i h∧c2.at i2 i h
structure ZIds (z TI TO i1 i2:Addr):Prop where
  c1:TI≠z
  c2:TO≠z
  c3:i1≠z
  c4:i2≠z
  c5:TI≠TO
  c6:TI≠i1
  c7:TI≠i2
  c8:TO≠i1
  c9:TO≠i2
  c10:i1≠i2
theorem zap_of {X:Cx} {pins:List (Addr×Obj)} {σ:St} {H:Hp} {s:Shared} {z TI TO i1 i2:Addr} {fp1 fp2:List Addr} (I:Inv X pins σ H s) (Z:ZIds z TI TO i1 i2) (hf:∀b∈[z,TI,TO,i1,i2],FpOk X pins H b)
    (g1:∀b∈fp1,b=i1∨H b≠none∨∃o,X.base.get? b=some o) (g2:∀b∈fp2,b=i2∨H b≠none∨∃o,X.base.get? b=some o):ZApart z TI TO i1 i2 fp1 fp2:=by
  have no:∀b∈[z,TI,TO,i1,i2],¬(H b≠none∨∃o,X.base.get? b=some o):=fun b hb q=>by
    rcases q with q | ⟨o,q⟩
    · exact q (hf b hb).1
    · rcases (hf b hb).2.2.2.1 with y | y
      · exact I.ok.noex b o q y
      · exact absurd (Nat.lt_of_lt_of_le (Nat.lt_of_lt_of_le (Heap.lt_size q) I.ok.bsz) y) (Nat.lt_irrefl _)
  refine⟨Z.c1,Z.c2,Z.c3,Z.c4,Z.c5,Z.c6,Z.c7,Z.c8,Z.c9,⟨fun m=>?_,fun m=>?_,fun m=>?_⟩,⟨fun m=>?_,fun m=>?_,fun m=>?_⟩⟩
  · exact(g1 _ m).elim (fun e=>Z.c3 e.symm) (no z (by simp))
  · exact(g1 _ m).elim (fun e=>Z.c8 e) (no TO (by simp))
  · exact(g1 _ m).elim (fun e=>Z.c10 e.symm) (no i2 (by simp))
  · exact(g2 _ m).elim (fun e=>Z.c4 e.symm) (no z (by simp))
  · exact(g2 _ m).elim (fun e=>Z.c9 e) (no TO (by simp))
  · exact(g2 _ m).elim (fun e=>Z.c10 e) (no i1 (by simp))
theorem turn_zip {P:Program} {w:World} {K:PySem.W.Frag} {elts:List Expr} {kk:Nat} {tp:Pos} (c1 c2:Src) (z TI TO i1 i2:Addr) (Z:ZIds z TI TO i1 i2):
    Turn P w K (.Tuple elts kk tp) (Itz K c1 c2) [z,TI,TO,i1,i2] z (zTn c1 c2 z TI TO i1 i2) where
  mem:=by simp
  obj:=fun i h st b hb=>by
    obtain⟨hz,hI,⟨a,b',hO⟩,t1,t2⟩:=st
    obtain⟨o1,e1,v1,d1⟩:=Src.at_obj t1
    obtain⟨o2,e2,v2,d2⟩:=Src.at_obj t2
    simp only[List.mem_cons,List.not_mem_nil,or_false]at hb
    rcases hb with rfl | rfl | rfl | rfl | rfl
    · exact⟨_,hz,fun v q=>by cases (show Data.fields _=Data.cell v from q)⟩
    · exact⟨_,hI,fun v q=>by cases (show Data.seq _ _=Data.cell v from q)⟩
    · exact⟨_,hO,fun v q=>by cases (show Data.seq _ _=Data.cell v from q)⟩
    · exact⟨_,e1,fun v q=>by rw[d1]at q;cases q⟩
    · exact⟨_,e2,fun v q=>by rw[d2]at q;cases q⟩
  keep:=fun i h h' st k=>by
    obtain⟨hz,hI,⟨a,b',hO⟩,t1,t2⟩:=st
    exact⟨k z (by simp) _ hz,k TI (by simp) _ hI,⟨a,b',k TO (by simp) _ hO⟩,Src.at_keep t1 (k i1 (by simp)),Src.at_keep t2 (k i2 (by simp))⟩
  item:=by
    intro X hP hw hK hc i pins s σ H E I hf st hg
    subst hP hw hK
    obtain⟨xs,ys,x,y,hx,hy,ex,ey⟩:=hg
    obtain⟨hz,hI,⟨a,b',hO⟩,t1,t2⟩:=st
    have hh:X.A.in1.handled=none:=I.ok.hd hc
    obtain⟨fp1,P1,S1,D1,u1,r1,a1,_,g1⟩:=Src.draws (A:=X.A.in1) hh I hx t1 (hf i1 (by simp)).1
    obtain⟨fp2,P2,S2,D2,u2,r2,a2,_,g2⟩:=Src.draws (A:=X.A.in1) hh I hy t2 (hf i2 (by simp)).1
    have ZA:=zap_of I Z hf g1 g2
    refine zipG_item D1 D2 ZA (List.getElem?_eq_some_iff.mp ex).1 (List.getElem?_eq_some_iff.mp ey).1 hz hI hO u1 u2 fun vx vy h' tk T px py hT hz' hO' w1 w2 hTp kp=>?_
    obtain⟨x',ex',rx⟩:=r1 i vx px
    obtain⟨y',ey',ry⟩:=r2 i vy py
    rw[ex]at ex';cases ex'
    rw[ey]at ey';cases ey'
    have nT:H T=none:=by rw[hT];exact I.hok.fresh (Nat.le_refl _)
    refine⟨_,rfl,wpAny_letOwnedTupleGo_zip hz' fun h2 hz2 sb=>?_⟩
    have lt:∀{c o},s.heap.get? c=some o→c≠T:=fun e=>by rw[hT];exact Nat.ne_of_lt (Heap.lt_size e)
    have up:∀c o,c≠z→h'.get? c=some o→h2.get? c=some o:=fun c o hc e=>(sb.2 c hc).trans e
    have kp2:∀b o,b∉[z,TO,i1,i2]→s.heap.get? b=some o→h2.get? b=some o:=fun b o hb e=>by
      simp only[List.mem_cons,List.not_mem_nil,or_false,not_or]at hb
      exact up b o hb.1 (kp b o hb.1 hb.2.1 hb.2.2.1 hb.2.2.2 e)
    have ch:∀b∈[z,TO,i1,i2],b∈[z,TI,TO,i1,i2]:=fun b hb=>by
      simp only[List.mem_cons,List.not_mem_nil,or_false]at hb ⊢
      rcases hb with h | h | h | h <;> simp[h]
    have trk:∀b u,H b=some u→b∉[z,TO,i1,i2]∧b≠T:=fun b u e=>⟨fun hb=>(by rw[(hf b (ch b hb)).1]at e;cases e),fun q=>(by rw[q,nT]at e;cases e)⟩
    have I2:Inv X pins σ (upd H T (.tup [x,y])) {s with heap:=h2,gens:=s.gens,drawn:=s.drawn,toks:=tk} :=by
      refine I.step (g':=s.gens) (d':=s.drawn) (t':=tk) (ch:=[z,TO,i1,i2]) (fun b hb=>⟨(hf b (ch b hb)).2.2.2.1,(hf b (ch b hb)).2.1,(hf b (ch b hb)).2.2.2.2.1,(hf b (ch b hb)).2.2.2.2.2⟩) (fun b o _ _ hb e _=>kp2 b o hb e) (fun b o _ _ hb e _=>⟨o.slots,kp2 b o hb e⟩)
        (fun b o hb e n=>by rw[upd_ne (lt e)];exact n) (fun b o hb e=>⟨o,kp2 b o hb e⟩) (fun b xs e=>by rw[upd_ne (trk b _ e).2];exact e) (fun b o u e=>by rw[upd_ne (trk b _ e).2];exact e) (fun b ps e=>⟨#[],by rw[upd_ne (trk b _ e).2,e];simp⟩) (fun m hm=>?_) (fun b u e=>?_) I.bare
      · obtain⟨o,es,ep,ho,r⟩:=hm
        exact⟨o,es,ep,kp2 _ o (fun hb=>(hf _ (ch _ hb)).2.1 rfl) ho,r⟩
      · by_cases hb:b=T
        · subst hb
          rw[upd_same]at e;cases e
          refine⟨(by show 2≤sizeLine;rw[sizeLine_eq];decide),[vx,vy],.cons rx (.cons ry .nil),⟨_,up _ _ ?_ hTp,rfl,_,rfl⟩⟩
          exact fun q=>lt hz q.symm
        · rw[upd_ne hb]at e
          refine(I.hok b u e).stay (fun c v hc q=>kp2 c v ?_ q) (fun c q=>by rw[upd_ne (trk c _ q).2];exact q) fun c xs q=>by rw[upd_ne (trk c _ q).2];exact q
          rcases hc with q | q
          · rw[q];exact(trk b u e).1
          · exact(trk c _ q).1
    refine⟨.ref T,_,I2,rfl,⟨T,x,y,nT,rfl,fun xs' h=>by rw[Src.inj I h hx];exact ex,fun ys' h=>by rw[Src.inj I h hy];exact ey,rfl⟩,⟨hz2,up _ _ Z.c1 (kp _ _ Z.c1 Z.c5 Z.c6 Z.c7 hI),⟨_,_,up _ _ Z.c2 hO'⟩,Src.at_keep (a1 _ _ w1) fun o e=>up _ o Z.c3 e,Src.at_keep (a2 _ _ w2) fun o e=>up _ o Z.c4 e⟩,fun b hb=>?_⟩
    have hbT:b≠T:=by
      obtain⟨o,e⟩:∃o,s.heap.get? b=some o:=by
        obtain⟨o1,e1,_⟩:=Src.at_obj t1
        obtain⟨o2,e2,_⟩:=Src.at_obj t2
        simp only[List.mem_cons,List.not_mem_nil,or_false]at hb
        rcases hb with rfl | rfl | rfl | rfl | rfl
        · exact⟨_,hz⟩
        · exact⟨_,hI⟩
        · exact⟨_,hO⟩
        · exact⟨_,e1⟩
        · exact⟨_,e2⟩
      exact lt e
    rw[upd_ne hbT]
    exact(hf b hb).1
  done:=by
    intro X hP hw hK hc i pins s σ H E I hf st hg
    subst hP hw hK
    obtain⟨xs,ys,hx,hy,hend⟩:=hg
    obtain⟨hz,hI,⟨a,b',hO⟩,t1,t2⟩:=st
    have hh:X.A.in1.handled=none:=I.ok.hd hc
    obtain⟨fp1,P1,S1,D1,u1,r1,a1,_,g1⟩:=Src.draws (A:=X.A.in1) hh I hx t1 (hf i1 (by simp)).1
    obtain⟨fp2,P2,S2,D2,u2,r2,a2,_,g2⟩:=Src.draws (A:=X.A.in1) hh I hy t2 (hf i2 (by simp)).1
    have ZA:=zap_of I Z hf g1 g2
    have ch:∀b∈[z,TO,i1,i2],b∈[z,TI,TO,i1,i2]:=fun b hb=>by
      simp only[List.mem_cons,List.not_mem_nil,or_false]at hb ⊢
      rcases hb with h | h | h | h <;> simp[h]
    refine zipG_end hh D1 D2 ZA hend hz hI hO u1 u2 fun h2 tk kp=>⟨rfl,?_⟩
    have kp2:∀b o,b∉[z,TO,i1,i2]→s.heap.get? b=some o→h2.get? b=some o:=fun b o hb e=>by
      simp only[List.mem_cons,List.not_mem_nil,or_false,not_or]at hb
      exact kp b o hb.1 hb.2.1 hb.2.2.1 hb.2.2.2 e
    refine I.step (g':=s.gens) (d':=s.drawn) (t':=tk) (ch:=[z,TO,i1,i2]) (fun b hb=>⟨(hf b (ch b hb)).2.2.2.1,(hf b (ch b hb)).2.1,(hf b (ch b hb)).2.2.2.2.1,(hf b (ch b hb)).2.2.2.2.2⟩) (fun b o _ _ hb e _=>kp2 b o hb e) (fun b o _ _ hb e _=>⟨o.slots,kp2 b o hb e⟩)
      (fun b o hb e n=>n) (fun b o hb e=>⟨o,kp2 b o hb e⟩) (fun b xs e=>e) (fun b o u e=>e) (fun b ps e=>⟨#[],by rw[e];simp⟩) (fun m hm=>?_) (fun b u e=>?_) I.bare
    · obtain⟨o,es,ep,ho,r⟩:=hm
      exact⟨o,es,ep,kp2 _ o (fun hb=>(hf _ (ch _ hb)).2.1 rfl) ho,r⟩
    · have trk:∀b u,H b=some u→b∉[z,TO,i1,i2]:=fun b u e hb=>by rw[(hf b (ch b hb)).1]at e;cases e
      refine(I.hok b u e).stay (fun c v hc q=>kp2 c v ?_ q) (fun c q=>q) fun c xs q=>q
      rcases hc with q | q
      · rw[q];exact trk b u e
      · exact trk c _ q
  self:=fun _ _ _ _ _ st h=>wpAny_pyIter_zip st.1 h
theorem ne2 (n a b:Nat) (h:a≠b): @Ne Nat (n+a) (n+b):=fun e=>h (Nat.add_left_cancel e)
def iZip (K:PySem.W.Frag) (t:TA):TI:=fun σ H R=>t σ H fun vs H1=>∃c1 c2 xs ys,vs=[c1.val,c2.val]∧c1.has K H1 xs∧c2.has K H1 ys∧R (Itz K c1 c2) H1
theorem pi_zip {X:Cx} {a b:Expr} {ta:TA} {p pos tp:Pos} {elts:List Expr} {kk:Nat} (hg:Gl X "zip") (hm:X.mg "zip" =none) (ha:PA X [a,b] ta)
    (hs:starEach [a,b] X.env=[(false,eval a X.env),(false,eval b X.env)]:=by rfl) (hs2:starEach [b] X.env=[(false,eval b X.env)]:=by rfl):PI X (.Tuple elts kk tp) (.Call (.Name "zip" p) [a,b] [] pos) (iZip X.K ta):=by
  intro pins s σ H R I h
  refine Call_ (ld_blt I hg hm boot_zip (PyProof.Rows.callWith_type1 (thn (ha pos pins s σ H _ I h) fun us s1 ⟨vs,H1,I1,r1,q1⟩=>?_) (by rw[hs,hs2]) (by rw[hs2];rfl)))
  obtain⟨c1,c2,xs,ys,e,h1,h2,q⟩:=q1
  subst e
  obtain⟨v1,v2,rfl,ra,rb⟩:=vals2 r1
  obtain⟨o1,i1,f1,n1⟩:=Src.iter I1 h1 ra fun _ _ e=>e
  obtain⟨o2,i2,f2,n2⟩:=Src.iter (h:=s1.heap.push o1) I1 h2 rb fun _ _ e=>Heap.get?_push_of_some _ e
  have z1:(s1.heap.push o1).objs.size=s1.heap.objs.size+1:=Heap.size_push ..
  rw[z1]at n2
  refine call_zipG i1 i2 f1 f2 fun h' hz hI hO e1 e2 kp=>?_
  refine wpAny_pyIter_zip hz ?_
  have zi:∀n:Nat,ZIds (n+4) (n+2) (n+3) n (n+1):=fun n=>⟨(ne2 n 2 4 (by decide)),(ne2 n 3 4 (by decide)),(ne2 n 0 4 (by decide)),(ne2 n 1 4 (by decide)),(ne2 n 2 3 (by decide)),(ne2 n 2 0 (by decide)),(ne2 n 2 1 (by decide)),(ne2 n 3 0 (by decide)),(ne2 n 3 1 (by decide)),(ne2 n 0 1 (by decide))⟩
  refine⟨s1.heap.objs.size+4,[s1.heap.objs.size+4,s1.heap.objs.size+2,s1.heap.objs.size+3,s1.heap.objs.size,s1.heap.objs.size+1],_,_,H1,rfl,I1.kept (t':=s1.toks) kp,turn_zip c1 c2 _ _ _ _ _ (zi s1.heap.objs.size),⟨hz,hI,⟨_,_,hO⟩,n1 h' e1,n2 h' e2⟩,fun b hb=>?_,q⟩
  have hb':s1.heap.objs.size≤b:=by
    simp only[List.mem_cons,List.not_mem_nil,or_false]at hb
    rcases hb with z | z | z | z | z <;> rw[z]
    · exact Nat.le_add_right _ 4
    · exact Nat.le_add_right _ 2
    · exact Nat.le_add_right _ 3
    · exact Nat.le_refl _
    · exact Nat.le_add_right _ 1
  exact I1.fpOk hb' (I1.hok.fresh hb')
theorem for_zip {K:PySem.W.Frag} {c1 c2:Src} {xs ys:List V} {g:TG} {tb:TS} {D:Ends} {σ:St} {H:Hp} (Pv:Nat→St→Hp→Prop) (h0:Pv 0 σ H) (hl:∀i σ H,Pv i σ H→c1.has K H xs∧c2.has K H ys) (hn:xs.length=ys.length)
    (hs:∀i x y p σ H,xs[i]? =some x→ys[i]? =some y→H p=none→Pv i σ H→g (.ref p) σ (upd H p (.tup [x,y])) fun σ2 H2=>tb {D with nx:=Pv (i+1),ct:=Pv (i+1),bk:=D.nx} σ2 H2) (hd:∀σ H,Pv xs.length σ H→D.nx σ H):
    ∃ W : Nat → Nat → St → Hp → Prop, (∃ m, W 0 m σ H) ∧ ∀ i m σ H, W i m σ H →
      ((Itz K c1 c2).stop i H∧D.nx σ H)∨((Itz K c1 c2).go i H∧∃N:St→Hp→Prop,(∀σ' H',N σ' H'→∃m',m'< m∧W (i+1) m' σ' H')∧∀x H',(Itz K c1 c2).yld i H x H'→g x σ H' fun σ2 H2=>tb {D with nx:=N,ct:=N,bk:=D.nx} σ2 H2):=by
  refine⟨fun i m σ H=>m=xs.length- i∧i≤xs.length∧Pv i σ H,⟨xs.length,by simp,Nat.zero_le _,h0⟩,?_⟩
  rintro i m σ H ⟨rfl,hi,p⟩
  obtain⟨q1,q2⟩:=hl i σ H p
  by_cases hlt:i< xs.length
  · refine .inr ⟨⟨xs,ys,xs[i],ys[i],q1,q2,by simp[hlt],by simp[←hn,hlt]⟩,Pv (i+1),fun σ' H' p'=>⟨xs.length- (i+1),by omega,rfl,hlt,p'⟩,fun v H' ⟨a,x,y,na,ev,ex,ey,eh⟩=>?_⟩
    subst ev eh
    exact hs i x y a σ H (ex xs q1) (ey ys q2) na p
  · have e:i=xs.length:=by omega
    subst e
    exact .inl ⟨⟨xs,ys,q1,q2,.inl rfl⟩,hd σ H p⟩
end L2
namespace L2
open PySem PySem.Spec PyProof.Rows
structure Cal (P:Program) (w:World) (K:PySem.W.Frag) (mg:Str→Option Value) (base:Heap) (x:Str) (ps:List Str) (k:Nat) (sp:Sp):Prop where
  ex:∃(f:Addr) (fd:FuncData),FnOk P w K mg base CX0 k f fd ps sp∧mg x=some (.ref f)∧PySem.W.keepIn K (.ref f)=true∧Binds K fd ps []
theorem pe_cal {X:Cx} {x:Str} {ps:List Str} {k:Nat} {sp:Sp} {p pos:Pos} {e:Expr} {es:List Expr} {t:TA} (C:Cal X.prog X.w X.K X.mg X.base x ps k sp) (hr:Room k X.A) (hg:Gl X x) (ha:PA X (e::es) t)
    (hdb:(x == ("__debug__" :Str))=false:=by decide) (he:starEach (e::es) X.env=(false,eval e X.env)::starEach es X.env:=by rfl) (hpl:(backTo pos (starEach es X.env)).any (·.1)=false:=by rfl):
    PE X (.Call (.Name x p) (e::es) [] pos) (tCall sp [] E0 t):=by
  obtain⟨f,fd,F,hm,hk,hb⟩:=C.ex
  exact pe_call F hr hg hm hk hb .nil pass0 ha hdb he hpl
theorem mkCS {X:Cx} {scope:Scope} {N:List Str} {cap:List (Option Nat)} (kind:scope.kind=.function) (nd:N.Nodup) (len:cap.length=N.length) (uniq:(scope.names.map (·.1)).Nodup)
    (fr:(scope.names.all fun x=>x.2 != .free || (X.env.kindOf x.1 == some .cell || X.env.kindOf x.1 == some .free))=true)
    (cp:((N.zip cap).all fun p=>match p.2 with | none=>true | some j=>X.N[j]? == some p.1 && scope.names.contains (p.1,NameKind.free))=true):CompScope X scope N cap:=by
  refine⟨kind,nd,len,uniq,fun x hx hk=>?_,fun k x j h1 h2=>?_⟩
  · have:=List.all_eq_true.mp fr x hx
    rw[hk]at this
    simpa using this
  · have hm:(x,some j)∈N.zip cap:=by
      rw[List.mem_iff_getElem?]
      exact⟨k,by rw[List.getElem?_zip_eq_some];exact⟨h1,h2⟩⟩
    have:=List.all_eq_true.mp cp _ hm
    simpa using this
def flat:V→Bool
  | .non=>true
  | .bl _=>true
  | .int _=>true
  | .str _=>true
  | _=>false
theorem same_upd {H:Hp} {p:Addr} {o:HO} (h:H p=none):Same H (upd H p o):=fun b u e=>by rw[upd_ne (ne_of_none e h)];exact e
end L2
namespace L2
open PySem PySem.Spec PyProof.Rows
theorem ofS (x:String) (l:List Nat) (h:(Str.ofString x).cps.toList=l):Str.ofString x=sOf l:=by rw[of_sOf (Str.ofString x),h]
end L2
namespace L2
open PySem PySem.Spec PyProof.Rows
section
variable {X:Cx} {K:PySem.W.Frag} {w:World}
theorem ix_tupK (h:X.K=K):IxR X (rIxT K):=h▸ix_tup
theorem ix_listK (h:X.K=K):IxR X (rIxL K):=h▸ix_list
theorem call_lenK (h:X.K=K):CallR X (.builtin "len") (fun xs H Q=>∃x n,xs=[x]∧LenV K x H n∧Q (.int n) H):=h▸call_len
theorem call_isinstK (h:X.K=K):CallR X (.builtin "isinstance") (fun xs H Q=>∃x T t b,xs=[x,.ty T]∧TyOf K H x t∧PySem.W.kitOne K t (.type T)=some b∧Q (.bl b) H):=h▸call_isinst
theorem mt_joinK (h:X.K=K):MtR X "str.join" (fun x xs H Q=>∃(p:Addr) (ys:List (List Nat)),x=.str (sOf [])∧xs=[.ref p]∧SqL K H p (ys.map fun y=>V.str (sOf y))∧ys.flatten.length≤100000∧Q (.str (sOf ys.flatten)) H):=h▸mt_join
theorem pg_tupK (h:X.K=K) {pos:Pos} {es:List Expr} {k:Nat} {t:TGs} {n:Nat} (hc:X.calm=true) (hg:PGs X es t) (hn:(assignEach es X.env).length=n:=by rfl) (hst:(assignEach es X.env).findIdx? (·.1)=none:=by rfl):PG X (.Tuple es k pos) (gTup K n t):=h▸pg_tup hc hg hn hst
theorem pi_listK (h:X.K=K) {tg l:Expr} {tl:TE} (hl:PE X l tl):PI X tg l (iList K tl):=h▸pi_list hl
theorem pi_zipK (h:X.K=K) {a b:Expr} {ta:TA} {p pos tp:Pos} {elts:List Expr} {kk:Nat} (hg:Gl X "zip") (hm:X.mg "zip" =none) (ha:PA X [a,b] ta)
    (hs:starEach [a,b] X.env=[(false,eval a X.env),(false,eval b X.env)]:=by rfl) (hs2:starEach [b] X.env=[(false,eval b X.env)]:=by rfl):PI X (.Tuple elts kk tp) (.Call (.Name "zip" p) [a,b] [] pos) (iZip K ta):=h▸pi_zip hg hm ha hs hs2
theorem pe_bmK (h:X.K=K) {o e:Expr} {es:List Expr} {to:TE} {t:TA} {name:Str} {apos cpos:Pos} {T id:String} {r:V→List V→Hp→VK→Prop} (pa:PlainAttrs T) (slot:Slot T name id) (hty:typeOf (.builtin id)=pure (.type "method_descriptor")) (hm:MtR X id r) (ho:PE X o to) (ha:PA X (e::es) t)
    (hbase:attributeBase o name X.env (eval o X.env)=eval o X.env:=by rfl)
    (hfew:((backTo cpos (starEach (e::es) X.env)).all (fun x=> !x.1) && (backToKw cpos (keywordEach [] X.env)).all (fun x=>x.1.isSome) && decide ((e::es).length+([]:List Keyword).length+(if([]:List Keyword).isEmpty then 0 else 1)< 30))=true:=by rfl)
    (hline:(apos.endLine == cpos.line)=true:=by rfl) (hs:starEach (e::es) X.env=(false,eval e X.env)::starEach es X.env:=by rfl) (hplain:(backTo cpos (starEach es X.env)).any (·.1)=false:=by rfl):
    PE X (.Call (.Attribute o name apos) (e::es) [] cpos) (tBM K T r to t):=h▸pe_bm pa slot hty hm ho ha hbase hfew hline hs hplain
end
end L2
namespace L2
open PySem PySem.Spec PyProof.Rows
end L2
namespace L2
open PySem PySem.Spec PyProof.Rows
end L2
namespace Wb
open PySem L2
abbrev Rp (α:Type):=Hp→α→V→Prop
class Mono {α:Type} (R:Rp α):Prop where
  mono:∀{H H':Hp} {m:α} {v:V},Same H H'→R H m v→R H' m v
def LR {α:Type} (R:Rp α) (H:Hp) (ms:List α) (vs:List V):Prop:=vs.length=ms.length∧∀(i:Nat) (v:V) (m:α),vs[i]? =some v→ms[i]? =some m→R H m v
theorem LR.nil {α:Type} {R:Rp α} {H:Hp} :LR R H [] []:=⟨rfl,fun i v m e=>by simp at e⟩
theorem LR.same {α:Type} {R:Rp α} [Mono R] {H H':Hp} {ms:List α} {vs:List V} (h:LR R H ms vs) (e:Same H H'):LR R H' ms vs:=⟨h.1,fun i v m a b=>Mono.mono e (h.2 i v m a b)⟩
theorem LR.snoc {α:Type} {R:Rp α} {H:Hp} {ms:List α} {vs:List V} {m:α} {v:V} (h:LR R H ms vs) (r:R H m v):LR R H (ms++ [m]) (vs++ [v]):=by
  refine⟨by simp[h.1],fun i v' m' a b=>?_⟩
  by_cases hi:i< vs.length
  · rw[List.getElem?_append_left hi]at a
    rw[List.getElem?_append_left (by rw[←h.1];exact hi)]at b
    exact h.2 i v' m' a b
  · rw[List.getElem?_append_right (by omega)]at a
    rw[List.getElem?_append_right (by rw[←h.1];omega)]at b
    rw[←h.1]at b
    cases e:i- vs.length with
    | zero=>rw[e]at a b;simp at a b;subst a b;exact r
    | succ n=>rw[e]at a;simp at a
theorem LR.get {α:Type} {R:Rp α} {H:Hp} {ms:List α} {vs:List V} {i:Nat} {m:α} (h:LR R H ms vs) (e:ms[i]? =some m):∃v,vs[i]? =some v∧R H m v:=by
  have hi:i< vs.length:=by rw[h.1];exact(List.getElem?_eq_some_iff.mp e).1
  exact⟨vs[i],by simp[hi],h.2 i _ m (by simp[hi]) e⟩
def isL {α:Type} (R:Rp α):Rp (List α):=fun H ms v=>∃p vs,v=.ref p∧H p=some (.lst vs)∧LR R H ms vs
instance zkeep1 {α:Type} {R:Rp α} [Mono R]:Mono (isL R):=⟨fun e ⟨p,vs,h1,h2,h3⟩=>⟨p,vs,h1,e _ _ h2,h3.same e⟩⟩
def isS:Rp (List Nat):=fun _ l v=>v=.str (sOf l)
instance zkeep2:Mono isS:=⟨fun _ h=>h⟩
def isI:Rp Int:=fun _ l v=>v=.int l
instance zkeep4:Mono isI:=⟨fun _ h=>h⟩
theorem LR.str {H:Hp} {ms:List (List Nat)} {vs:List V} (h:LR isS H ms vs):vs=ms.map fun l=>V.str (sOf l):=by
  refine List.ext_getElem? fun i=>?_
  rw[List.getElem?_map]
  cases e:ms[i]? with
  | none=>rw[List.getElem?_eq_none_iff]at e;rw[List.getElem?_eq_none_iff.mpr (by rw[h.1];exact e)];rfl
  | some m=>obtain⟨v,a,b⟩:=h.get e;rw[a];cases b;rfl
end Wb
namespace L2
open PySem PySem.Spec PyProof.Rows
section
variable {X:Cx} {K:PySem.W.Frag} {w:World}
theorem pe_bm0K (h:X.K=K) {o:Expr} {to:TE} {name:Str} {apos cpos:Pos} {T id:String} {r:V→List V→Hp→VK→Prop} (pa:PlainAttrs T) (slot:Slot T name id) (hty:typeOf (.builtin id)=pure (.type "method_descriptor")) (hm:MtR X id r) (ho:PE X o to)
    (hbase:attributeBase o name X.env (eval o X.env)=eval o X.env:=by rfl) (hline:(apos.endLine == cpos.line)=true:=by rfl):PE X (.Call (.Attribute o name apos) [] [] cpos) (tBM0 K T r to):=h▸pe_bm0 pa slot hty hm ho hbase hline
end
end L2
namespace Wb
open PySem L2
theorem none_of {H H':Hp} {p:Addr} (e:Same H H') (h:H' p=none):H p=none:=by
  cases z:H p with
  | none=>rfl
  | some x=>have:=e _ _ z;rw[h]at this;cases this
theorem same_keep {H H3:Hp} {p:Addr} {o:HO} (e:Same H H3) (h:H p=none):Same H (upd H3 p o):=fun a u z=>by
  rw[upd_ne (ne_of_none z h)];exact e _ _ z
end Wb
namespace L2
open PySem PySem.Spec PyProof.Rows
end L2
namespace L2
open PySem PySem.Spec PyProof.Rows
section
variable {X:Cx} {K:PySem.W.Frag} {w:World}
theorem op_in_seqK (h:X.K=K):OpR X (compareOp .In) (rIn K false):=h▸op_in_seq
end
end L2
namespace L2
theorem units1 {k:Nat} {A:PySem.Around} (r:Room k A):A.units+1< PySem.cLine:=by have:=r.un;omega
end L2
namespace L2
open PySem PySem.Spec PyProof.Rows
end L2
namespace L2
open PySem PySem.Spec PyProof.Rows
end L2
namespace Wb
open PySem L2
end Wb
namespace L2
open PySem PySem.Spec PyProof.Rows Wb
end L2
namespace L2
open PySem PySem.Spec PyProof.Rows
end L2
namespace L2
open PySem PySem.Spec PyProof.Rows
end L2
namespace L2
open PySem PySem.Spec PyProof.Rows
end L2
namespace Mi
inductive Res (α:Type) where
  | ok (a:α) | err (j:Nat) | stuck
namespace Res
variable {α β:Type}
def Ok (m:Res α) (P:α→Prop):Prop:=match m with | .ok a=>P a | _=>False
def bind (m:Res α) (f:α→Res β):Res β:=match m with | .ok a=>f a | .err j=>.err j | .stuck=>.stuck
theorem bind_ok {m:Res α} {f:α→Res β} {P:β→Prop} (h:m.Ok fun a=>(f a).Ok P):(m.bind f).Ok P:=by cases m <;> exact h
theorem Ok.imp {m:Res α} {P Q:α→Prop} (h:m.Ok P) (k:∀a,P a→Q a):m.Ok Q:=by cases m <;> first | exact k _ h | exact h
theorem Ok.ex {m:Res α} {P:α→Prop} (h:m.Ok P):∃a,m=.ok a∧P a:=by
  cases m with
  | ok a=>exact⟨a,rfl,h⟩
  | err j=>exact h.elim
  | stuck=>exact h.elim
def OkE (m:Res α) (Er:Nat→Prop) (P:α→Prop):Prop:=match m with | .ok a=>P a | .err j=>Er j | .stuck=>False
theorem okE_bind {m:Res α} {f:α→Res β} {Er:Nat→Prop} {P:β→Prop} (h:(m.bind f).OkE Er P):m.OkE Er fun a=>(f a).OkE Er P:=by cases m <;> exact h
theorem OkE.imp {m:Res α} {Er:Nat→Prop} {P Q:α→Prop} (h:m.OkE Er P) (k:∀a,P a→Q a):m.OkE Er Q:=by cases m <;> first | exact k _ h | exact h
theorem Ok.e {m:Res α} {Er:Nat→Prop} {P:α→Prop} (h:m.Ok P):m.OkE Er P:=by
  cases m with
  | ok a=>exact h
  | err j=>exact h.elim
  | stuck=>exact h.elim
def tryR (m:Res α):Res (α ⊕ Nat):=match m with | .ok a=>.ok (.inl a) | .err j=>.ok (.inr j) | .stuck=>.stuck
theorem tryR_OkE {m:Res α} {Er:Nat→Prop} {P:α ⊕ Nat→Prop} (h:(tryR m).OkE Er P):m.OkE (fun j=>P (.inr j)) fun a=>P (.inl a):=by cases m <;> exact h
@[simp] theorem bind_ok' (a:α) (f:α→Res β):(Res.ok a).bind f=f a:=rfl
end Res
abbrev cap:Nat:=100000
def must (b:Prop) [Decidable b] {α:Type} (a:α):Res α:=if b then .ok a else .stuck
theorem must_ok {b:Prop} [Decidable b] {α:Type} {a:α} (h:b):must b a=.ok a:=if_pos h
theorem must_OkE {b:Prop} [Decidable b] {α:Type} {a:α} {Er:Nat→Prop} {P:α→Prop} (h:(must b a).OkE Er P):b∧P a:=by
  unfold must at h
  by_cases hb:b
  · rw[if_pos hb]at h;exact⟨hb,h⟩
  · rw[if_neg hb]at h;exact h.elim
def ofO {α:Type} :Option α→Res α
  | some a=>.ok a
  | none=>.stuck
theorem ofO_OkE {α:Type} {o:Option α} {Er:Nat→Prop} {P:α→Prop} (h:(ofO o).OkE Er P):∃a,o=some a∧P a:=by
  cases o with
  | none=>exact h.elim
  | some a=>exact⟨a,rfl,h⟩
abbrev Tx:=List Nat
def absI (i:Int):Int:=if i< 0 then -i else i
def mulR (i j:Int):Res Int:=must ((-(2^64)< i∧i< 2^64)∨(-(2^64)< j∧j< 2^64)) (i*j)
def fdivR (i j:Int):Res Int:=must (0< j∧j< 1073741824) (i/ j)
def modR (i j:Int):Res Int:=must (0< j) (i% j)
def ixN (n:Nat) (i:Int):Option Nat:=if 0≤i then(if i< n then some i.toNat else none)else if -(n:Int)≤i then some (i+n).toNat else none
def atZ {α:Type} (xs:List α) (i:Int):Option α:=(ixN xs.length i).bind fun j=>xs[j]?
theorem atZ_nat {α:Type} {xs:List α} {j:Nat} {v:α} (h:xs[j]? =some v):atZ xs (j:Int)=some v:=by
  have hl:j< xs.length:=(List.getElem?_eq_some_iff.mp h).1
  unfold atZ ixN
  rw[if_pos (by omega),if_pos (by omega),Int.toNat_natCast]
  exact h
theorem atZ_of {α:Type} {xs:List α} {i:Int} (h0:0≤i) (h1:i< xs.length):∃h:i.toNat< xs.length,atZ xs i=some xs[i.toNat]:=by
  have h2:i.toNat< xs.length:=by omega
  refine⟨h2,?_⟩
  have:=atZ_nat (xs:=xs) (j:=i.toNat) (v:=xs[i.toNat]) (by simp[h2])
  rw[Int.toNat_of_nonneg h0]at this
  exact this
def ixL {α:Type} (xs:List α) (i:Int):Res α:=ofO (atZ xs i)
def ixS (x:Tx) (i:Int):Res Tx:=(must (x.length≤cap) x).bind fun x=>(ofO (atZ x i)).bind fun c=>.ok [c]
theorem ixS_ok {x:Tx} {j:Nat} {c:Nat} (h:x[j]? =some c) (hl:x.length≤cap):ixS x (j:Int)=.ok [c]:=by
  unfold ixS;rw[must_ok hl];show(ofO (atZ x (j:Int))).bind _=_;rw[atZ_nat h];rfl
def catS (a b:Tx):Res Tx:=must (a.length+b.length≤cap) (a++b)
def catL {α:Type} (a b:List α):Res (List α):=must (a.length+b.length≤cap) (a++b)
def appL {α:Type} (a:List α) (x:α):Res (List α):=must (a.length< cap) (a++ [x])
def repS (a:Tx) (n:Int):Res Tx:=match a with
  | [c]=>must (0≤n∧n≤cap) (List.replicate n.toNat c)
  | _=>.stuck
def lenS (x:Tx):Res Int:=must (x.length≤cap) (x.length:Int)
def sIx (n d:Nat):Option Int→Nat
  | none=>d
  | some v=>if v< 0 then(v+(n:Int)).toNat else min v.toNat n
def cut {α:Type} (l:List α) (lo hi:Option Int):List α:=(l.drop (sIx l.length 0 lo)).take (sIx l.length l.length hi- sIx l.length 0 lo)
def cutS (x:Tx) (lo hi:Option Int):Res Tx:=must (x.length≤cap) (cut x lo hi)
def joinE (xs:List Tx):Res Tx:=must (xs.flatten.length≤cap) xs.flatten
def look {κ α:Type} [DecidableEq κ] (kvs:List (κ×α)) (k:κ):Option α:=(kvs.find? fun p=>decide (p.1=k)).map (·.2)
def getD {κ α:Type} [DecidableEq κ] (kvs:List (κ×α)) (k:κ):Res α:=ofO (look kvs k)
def mapR {α β:Type} (f:α→Res β):List α→Res (List β)
  | []=>.ok []
  | a::r=>(f a).bind fun b=>(mapR f r).bind fun bs=>.ok (b::bs)
def compR {α β:Type} (xs:List α) (f:α→Res β):Res (List β):=(must (xs.length≤cap) xs).bind fun xs=>mapR f xs
def filtR {α β:Type} (f:α→Res (Option β)):List α→Res (List β)
  | []=>.ok []
  | a::r=>(f a).bind fun b=>(filtR f r).bind fun bs=>.ok (match b with | some b=>b::bs | none=>bs)
def compF {α β:Type} (xs:List α) (f:α→Res (Option β)):Res (List β):=(must (xs.length≤cap) xs).bind fun xs=>filtR f xs
def forR {α S:Type} (f:α→S→Res S):List α→S→Res S
  | [],s=>.ok s
  | a::r,s=>(f a s).bind fun s=>forR f r s
inductive Fl (γ S:Type) where
  | nx (s:S) | bk (s:S) | rt (r:γ)
def flGo {S γ:Type} (k:S→Res (Fl γ S)):Fl γ S→Res (Fl γ S)
  | .nx s=>k s
  | .bk s=>.ok (.nx s)
  | .rt x=>.ok (.rt x)
def rangeN (n:Int):List Int:=(List.range n.toNat).map fun(i:Nat)=>(i:Int)
def rangeR (n:Int):Res (List Int):=must (-(2^62)≤n∧n< 2^62) (rangeN n)
def inC (x y:Tx):Res Bool:=match x with
  | [c]=>.ok (y.contains c)
  | _=>.stuck
theorem mapR_ok {α β:Type} {f:α→Res β} {g:α→β} :∀{xs:List α},(∀x∈xs,f x=.ok (g x))→mapR f xs=.ok (xs.map g)
  | [],_=>rfl
  | a :: r, h => by
    unfold mapR
    rw[h a (List.mem_cons_self ..),Res.bind_ok',mapR_ok fun x hx=>h x (List.mem_cons_of_mem _ hx)]
    rfl
theorem compR_ok {α β:Type} {f:α→Res β} {g:α→β} {xs:List α} (hl:xs.length≤cap) (h:∀x∈xs,f x=.ok (g x)):compR xs f=.ok (xs.map g):=by
  unfold compR;rw[must_ok hl,Res.bind_ok',mapR_ok h]
end Mi
namespace Mi
end Mi
namespace Wb
open PySem L2 Mi
variable {Er:Nat→Prop}
structure Wd where
  G:Hp
  H:Hp
  ok:Same G H
structure Ext (W W':Wd):Prop where
  g:Same W.G W'.G
  h:Same W.H W'.H
  k:∀p,W.H p≠none→W'.G p=W.G p
theorem Ext.refl (W:Wd):Ext W W:=⟨.refl _,.refl _,fun _ _=>rfl⟩
theorem Ext.trans {W W1 W2:Wd} (a:Ext W W1) (b:Ext W1 W2):Ext W W2:=⟨a.g.trans b.g,a.h.trans b.h,fun p hp=>by
  obtain⟨o,ho⟩:=Option.ne_none_iff_exists'.mp hp
  rw[b.k p (by rw[a.h p o ho];exact fun z=>nomatch z),a.k p hp]⟩
theorem Same.upd2 {G H:Hp} (h:Same G H) (p:Addr) (o:HO):Same (upd G p o) (upd H p o):=fun a u e=>by
  by_cases z:a=p
  · subst z;rw[upd_same]at e ⊢;exact e
  · rw[upd_ne z]at e ⊢;exact h _ _ e
def Wd.new (W:Wd) (p:Addr) (o:HO):Wd:=⟨upd W.G p o,upd W.H p o,Same.upd2 W.ok p o⟩
theorem Wd.gnone (W:Wd) {p:Addr} (h:W.H p=none):W.G p=none:=none_of W.ok h
theorem Ext.new {W:Wd} {p:Addr} (o:HO) (h:W.H p=none):Ext W (W.new p o):=⟨same_upd (W.gnone h),same_upd h,fun q hq=>upd_ne fun z=>hq (z▸h)⟩
def Wd.mut (W:Wd) (p:Addr) (o:HO) (h:W.G p=none):Wd:=⟨W.G,upd W.H p o,same_keep W.ok h⟩
theorem Ext.own {W:Wd} {p:Addr} (o:HO) (h:W.H p=none):Ext W (W.mut p o (W.gnone h)):=⟨.refl _,same_upd h,fun _ _=>rfl⟩
def Wd.frz (W:Wd) (p:Addr) (o:HO) (h:W.H p=some o):Wd:=⟨upd W.G p o,W.H,fun a u e=>by
  by_cases z:a=p
  · subst z;rw[upd_same]at e;cases e;exact h
  · rw[upd_ne z]at e;exact W.ok _ _ e⟩
theorem Ext.mut {W0 W:Wd} {p:Addr} {o:HO} (e:Ext W0 W) (hp:W0.H p=none) (h:W.G p=none):Ext W0 (W.mut p o h):=
  ⟨e.g,fun a u z=>by show upd W.H p o a=_;rw[upd_ne (ne_of_none z hp)];exact e.h _ _ z,e.k⟩
theorem Ext.frz {W0 W:Wd} {p:Addr} {o:HO} (e:Ext W0 W) (hp:W0.H p=none) (h:W.H p=some o) (hg:W.G p=none):Ext W0 (W.frz p o h):=
  ⟨e.g.trans (same_upd hg),e.h,fun q hq=>by show upd W.G p o q=_;rw[upd_ne (fun z=>hq (by rw[z];exact hp))];exact e.k q hq⟩
abbrev Rw (α:Type):=Wd→α→V→Prop
class MonoW {α:Type} (R:Rw α):Prop where
  mono:∀{W W':Wd} {a:α} {v:V},Ext W W'→R W a v→R W' a v
def sh {α:Type} (R:Rp α):Rw α:=fun W a v=>R W.G a v
instance zkeep8 {α:Type} {R:Rp α} [Mono R]:MonoW (sh R):=⟨fun e h=>Mono.mono (R:=R) e.g h⟩
def pk {α:Type} (R:Rp α):Rw (List α):=fun W xs v=>∃p vs,v=.ref p∧W.H p=some (.lst vs)∧LR R W.G xs vs
instance zkeep9 {α:Type} {R:Rp α} [Mono R]:MonoW (pk R):=⟨fun e ⟨p,vs,a,b,c⟩=>⟨p,vs,a,e.h _ _ b,c.same e.g⟩⟩
theorem pk.of {α:Type} {R:Rp α} {W:Wd} {xs:List α} {v:V} (h:isL R W.G xs v):pk R W xs v:=by
  obtain⟨p,vs,a,b,c⟩:=h
  exact⟨p,vs,a,W.ok _ _ b,c⟩
structure Ow {α:Type} (R:Rp α) (W:Wd) (p:Addr) (xs:List α):Prop where
  g:W.G p=none
  h:∃vs,W.H p=some (.lst vs)∧LR R W.G xs vs
theorem Ow.mono {α:Type} {R:Rp α} [Mono R] {W W':Wd} {p:Addr} {xs:List α} (o:Ow R W p xs) (e:Ext W W'):Ow R W' p xs:=by
  obtain⟨vs,a,b⟩:=o.h
  exact⟨by rw[e.k p (by rw[a];exact fun z=>nomatch z)];exact o.g,vs,e.h _ _ a,b.same e.g⟩
theorem Ow.pk {α:Type} {R:Rp α} {W:Wd} {p:Addr} {xs:List α} (o:Ow R W p xs):pk R W xs (.ref p):=by
  obtain⟨vs,a,b⟩:=o.h
  exact⟨p,vs,rfl,a,b⟩
theorem Ow.frz {α:Type} {R:Rp α} [Mono R] {W0 W:Wd} {p:Addr} {xs:List α} (o:Ow R W p xs) (e:Ext W0 W) (hp:W0.H p=none):
    ∃W',W'.H=W.H∧Ext W0 W'∧Same W.G W'.G∧isL R W'.G xs (.ref p)∧∀q,q≠p→W'.G q=W.G q:=by
  obtain⟨vs,a,b⟩:=o.h
  exact⟨W.frz p _ a,rfl,e.frz hp a o.g,same_upd o.g,⟨p,vs,rfl,upd_same,b.same (same_upd o.g)⟩,fun q hq=>upd_ne hq⟩
theorem Ow.keep {α:Type} {R:Rp α} [Mono R] {W W':Wd} {q:Addr} {xs:List α} (o:Ow R W q xs) (hH:W'.H q=W.H q) (hs:Same W.G W'.G) (hg:W'.G q=W.G q):Ow R W' q xs:=by
  obtain⟨vs,a,b⟩:=o.h
  exact⟨by rw[hg];exact o.g,vs,by rw[hH];exact a,b.same hs⟩
def EV (Er:Nat→Prop) {α:Type} (t:TE) (σ:St) (W:Wd) (R:Rw α) (m:Res α):Prop:=∀W1,Ext W W1→∀Q:VK,m.OkE Er (fun a=>∀v W2,Ext W1 W2→R W2 a v→Q v W2.H)→t σ W1.H Q
def EVo (Er:Nat→Prop) {α:Type} (t:TE) (σ:St) (W:Wd) (R:Rp α) (m:Res (List α)):Prop:=∀W1,Ext W W1→∀Q:VK,m.OkE Er (fun xs=>∀p W2,Ext W1 W2→W1.H p=none→Ow R W2 p xs→Q (.ref p) W2.H)→t σ W1.H Q
def TV (Er:Nat→Prop) (t:TT) (σ:St) (W:Wd) (m:Res Bool):Prop:=∀W1,Ext W W1→∀Q:Bool→Hp→Prop,m.OkE Er (fun b=>∀W2,Ext W1 W2→Q b W2.H)→t σ W1.H Q
section
variable {α β γ:Type} {t ta tb:TE} {σ:St} {W W0 W':Wd} {K:PySem.W.Frag}
theorem EV.imp {R R':Rw α} {m:Res α} (h:EV Er t σ W R m) (f:∀W a v,R W a v→R' W a v):EV Er t σ W R' m:=fun W1 e1 Q k=>h W1 e1 Q (k.imp fun a ka v W2 e2 r=>ka v W2 e2 (f _ _ _ r))
theorem EVo.ev {R:Rp α} [Mono R] {m:Res (List α)} (h:EVo Er t σ W R m):EV Er t σ W (sh (isL R)) m:=fun W1 e1 Q k=>h W1 e1 Q (k.imp fun xs kx p W2 e2 hp o=>by
  obtain⟨W3,hH,e3,_,r,_⟩:=o.frz e2 hp
  rw[←hH]
  exact kx (.ref p) W3 e3 r)
theorem EVo.pk {R:Rp α} [Mono R] {m:Res (List α)} (h:EVo Er t σ W R m):EV Er t σ W (pk R) m:=fun W1 e1 Q k=>h W1 e1 Q (k.imp fun xs kx p W2 e2 hp o=>kx (.ref p) W2 e2 o.pk)
theorem EV.pk {R:Rp α} {m:Res (List α)} (h:EV Er t σ W (sh (isL R)) m):EV Er t σ W (pk R) m:=h.imp fun _ _ _ r=>pk.of r
theorem ev_var {R:Rw α} [MonoW R] {i:Nat} {v:V} {a:α} (r:R W a v) (h:σ[i]? =some (some v):=by rfl):EV Er (tVar i) σ W R (.ok a):=fun W1 e1 Q k=>⟨v,h,k v W1 (.refl _) (MonoW.mono e1 r)⟩
theorem ev_varO {R:Rp α} [Mono R] {i:Nat} {p:Addr} {a:List α} (r:Ow R W p a) (h:σ[i]? =some (some (.ref p)):=by rfl):EV Er (tVar i) σ W (pk R) (.ok a):=ev_var r.pk h
def isB:Rp Bool:=fun _ b v=>v=.bl b
instance zkeep10:Mono isB:=⟨fun _ h=>h⟩
def isO (R:Rp α):Rp (Option α):=fun H o v=>match o with | none=>v=.non | some a=>R H a v∧v≠.non
instance zkeep12 {R:Rp α} [Mono R]:Mono (isO R):=⟨fun {H H' m v} e h=>by
  cases m with
  | none=>exact h
  | some a=>exact⟨Mono.mono e h.1,h.2⟩⟩
theorem ev_int {i:Int} :EV Er (tC (.int i)) σ W (sh isI) (.ok i):=fun W1 _ Q k=>k _ W1 (.refl _) rfl
theorem ev_str {x:Str} {l:Tx} (h:x=sOf l):EV Er (tC (.str x)) σ W (sh isS) (.ok l):=fun W1 _ Q k=>k _ W1 (.refl _) (by rw[h];rfl)
theorem ev_bl {b:Bool} :EV Er (tC (.bl b)) σ W (sh isB) (.ok b):=fun W1 _ Q k=>k _ W1 (.refl _) rfl
theorem ev_none {R:Rp α} :EV Er (tC .non) σ W (sh (isO R)) (.ok none):=fun W1 _ Q k=>k _ W1 (.refl _) rfl
theorem ev2 {r:R2} {Ra:Rw α} [MonoW Ra] {Rb:Rw β} {R:Rw γ} {ma:Res α} {mb:Res β} {f:α→β→Res γ} (ha:EV Er ta σ W Ra ma) (hb:EV Er tb σ W Rb mb)
    (h:∀W a b x y Q,Ra W a x→Rb W b y→(f a b).OkE Er (fun c=>∀v W2,Ext W W2→R W2 c v→Q v W2.H)→r x y W.H Q):EV Er (tOp r ta tb) σ W R (ma.bind fun a=>mb.bind fun b=>f a b):=fun W1 e1 Q k=>by
  refine ha W1 e1 _ ((Res.okE_bind k).imp fun a ka x W2 e2 hx=>?_)
  refine hb W2 (e1.trans e2) _ ((Res.okE_bind ka).imp fun b kb y W3 e3 hy=>?_)
  exact h W3 a b x y Q (MonoW.mono e3 hx) hy (kb.imp fun c kc v W4 e4 hv=>kc v W4 ((e2.trans e3).trans e4) hv)
section
variable {ma mb:Res Int}
theorem ev_rI0 {g:Int→Int→Int} (ha:EV Er ta σ W (sh isI) ma) (hb:EV Er tb σ W (sh isI) mb):EV Er (tOp (rI0 fun i j=>.int (g i j)) ta tb) σ W (sh isI) (ma.bind fun a=>mb.bind fun b=>.ok (g a b)):=
  ev2 ha hb fun W a b x y Q hx hy k=>by cases hx;cases hy;exact⟨a,b,rfl,rfl,k _ W (.refl _) rfl⟩
theorem ev_rI {C:Int→Int→Prop} {g:Int→Int→Int} {f:Int→Int→Res Int} (hf:∀a b P,(f a b).OkE Er P→C a b∧P (g a b)) (ha:EV Er ta σ W (sh isI) ma) (hb:EV Er tb σ W (sh isI) mb):
    EV Er (tOp (rI C fun i j=>.int (g i j)) ta tb) σ W (sh isI) (ma.bind fun a=>mb.bind fun b=>f a b):=
  ev2 ha hb fun W a b x y Q hx hy k=>by cases hx;cases hy;exact⟨a,b,rfl,rfl,(hf a b _ k).1,(hf a b _ k).2 _ W (.refl _) rfl⟩
theorem ev_mul (ha:EV Er ta σ W (sh isI) ma) (hb:EV Er tb σ W (sh isI) mb):EV Er (tOp (rI CMul fun i j=>.int (i*j)) ta tb) σ W (sh isI) (ma.bind fun a=>mb.bind fun b=>mulR a b):=ev_rI (fun a b P h=>by unfold mulR at h;obtain⟨h1,h2⟩:=must_OkE h;exact⟨h1,h2⟩) ha hb
theorem ev_fdiv (ha:EV Er ta σ W (sh isI) ma) (hb:EV Er tb σ W (sh isI) mb):EV Er (tOp (rI CDiv fun i j=>.int (i/ j)) ta tb) σ W (sh isI) (ma.bind fun a=>mb.bind fun b=>fdivR a b):=ev_rI (fun a b P h=>by unfold fdivR at h;obtain⟨h1,h2⟩:=must_OkE h;exact⟨h1,h2⟩) ha hb
theorem ev_mod (ha:EV Er ta σ W (sh isI) ma) (hb:EV Er tb σ W (sh isI) mb):EV Er (tOp (rI (fun _ j=>0< j) fun i j=>.int (i% j)) ta tb) σ W (sh isI) (ma.bind fun a=>mb.bind fun b=>modR a b):=ev_rI (fun a b P h=>by unfold modR at h;obtain⟨h1,h2⟩:=must_OkE h;exact⟨h1,h2⟩) ha hb
theorem ev_rIk {C:Int→Int→Prop} {g:Int→Int→Int} {n:Int} (hn:∀a,C a n) (ha:EV Er ta σ W (sh isI) ma):EV Er (tOp (rI C fun i j=>.int (g i j)) ta (tC (.int n))) σ W (sh isI) (ma.bind fun a=>.ok (g a n)):=
  fun W1 e1 Q k=>ha W1 e1 _ ((Res.okE_bind k).imp fun a ka x W2 e2 hx=>by cases hx;exact⟨a,n,rfl,rfl,hn a,ka _ W2 e2 rfl⟩)
end
end
end Wb
namespace Wb
open PySem L2 Mi
variable {Er:Nat→Prop}
section
variable {α β γ δ:Type} {t ta tb tc:TE} {σ:St} {W W0 W':Wd} {K:PySem.W.Frag}
theorem capL {n:Nat} (h:n≤cap):n≤sizeLine:=by rw[sizeLine_eq];unfold cap at h;omega
section
variable {ma mb:Res Int}
theorem ev_cmp {g:Int→Int→Bool} (ha:EV Er ta σ W (sh isI) ma) (hb:EV Er tb σ W (sh isI) mb):EV Er (tOp (rI0 fun i j=>.bl (g i j)) ta tb) σ W (sh isB) (ma.bind fun a=>mb.bind fun b=>.ok (g a b)):=
  ev2 ha hb fun W a b x y Q hx hy k=>by cases hx;cases hy;exact⟨a,b,rfl,rfl,k _ W (.refl _) rfl⟩
end
theorem dI {a b:Int} :decide (V.int a=V.int b)=decide (a=b):=by rw[Bool.eq_iff_iff];simp
theorem dS {a b:Tx} :decide (V.str (sOf a)=V.str (sOf b))=decide (a=b):=by
  rw[Bool.eq_iff_iff,decide_eq_true_eq,decide_eq_true_eq]
  exact⟨fun h=>sOf_inj (V.str.inj h),fun h=>by rw[h]⟩
theorem ev_eqI {ma mb:Res Int} (ha:EV Er ta σ W (sh isI) ma) (hb:EV Er tb σ W (sh isI) mb):EV Er (tOp rEq ta tb) σ W (sh isB) (ma.bind fun a=>mb.bind fun b=>.ok (decide (a=b))):=
  ev2 ha hb fun W a b x y Q hx hy k=>by cases hx;cases hy;exact⟨rfl,by rw[dI];exact k _ W (.refl _) rfl⟩
theorem ev_eqS {ma mb:Res Tx} (ha:EV Er ta σ W (sh isS) ma) (hb:EV Er tb σ W (sh isS) mb):EV Er (tOp rEq ta tb) σ W (sh isB) (ma.bind fun a=>mb.bind fun b=>.ok (decide (a=b))):=
  ev2 ha hb fun W a b x y Q hx hy k=>by cases hx;cases hy;exact⟨rfl,by rw[dS];exact k _ W (.refl _) rfl⟩
theorem ev_neI {ma mb:Res Int} (ha:EV Er ta σ W (sh isI) ma) (hb:EV Er tb σ W (sh isI) mb):EV Er (tOp rNe ta tb) σ W (sh isB) (ma.bind fun a=>mb.bind fun b=>.ok (!decide (a=b))):=
  ev2 ha hb fun W a b x y Q hx hy k=>by cases hx;cases hy;exact⟨rfl,by rw[dI];exact k _ W (.refl _) rfl⟩
theorem ev_neS {ma mb:Res Tx} (ha:EV Er ta σ W (sh isS) ma) (hb:EV Er tb σ W (sh isS) mb):EV Er (tOp rNe ta tb) σ W (sh isB) (ma.bind fun a=>mb.bind fun b=>.ok (!decide (a=b))):=
  ev2 ha hb fun W a b x y Q hx hy k=>by cases hx;cases hy;exact⟨rfl,by rw[dS];exact k _ W (.refl _) rfl⟩
theorem ev_isN {R:Rp α} {ma:Res (Option α)} (ha:EV Er ta σ W (sh (isO R)) ma):EV Er (tOp (fun x y H Q=>y=.non∧Q (.bl (decide (x=.non))) H) ta (tC .non)) σ W (sh isB) (ma.bind fun a=>.ok a.isNone):=fun W1 e1 Q k=>
  ha W1 e1 _ ((Res.okE_bind k).imp fun a ka x W2 e2 hx=>⟨rfl,by
    have e:decide (x=V.non)=a.isNone:=by
      cases a with
      | none=>cases hx;rfl
      | some b=>rw[decide_eq_false hx.2];rfl
    rw[e];exact ka _ W2 e2 rfl⟩)
theorem tv_test {m:Res Bool} (h:EV Er t σ W (sh isB) m):TV Er (tTest t) σ W m:=fun W1 e1 Q k=>h W1 e1 _ (k.imp fun b kb v W2 e2 hv=>⟨b,hv,kb W2 e2⟩)
theorem tv_b {m:Res Bool} (h:EV Er t σ W (sh isB) m):TV Er (tB t) σ W m:=fun W1 e1 Q k=>h W1 e1 _ (k.imp fun b kb v W2 e2 hv=>⟨b,hv,kb W2 e2⟩)
theorem tv_not {t:TT} {m:Res Bool} (h:TV Er t σ W m):TV Er (tNot t) σ W (m.bind fun b=>.ok (!b)):=fun W1 e1 Q k=>h W1 e1 _ ((Res.okE_bind k).imp fun b kb W2 e2=>kb W2 e2)
theorem tv_and {t u:TT} {m n:Res Bool} (h:TV Er t σ W m) (g:TV Er u σ W n):TV Er (tAnd t u) σ W (m.bind fun b=>if b then n else .ok false):=fun W1 e1 Q k=>h W1 e1 _ ((Res.okE_bind k).imp fun b kb W2 e2=>by
  cases b with
  | true=>exact g W2 (e1.trans e2) _ (kb.imp fun c kc W3 e3=>kc W3 (e2.trans e3))
  | false=>exact kb W2 e2)
theorem tv_or {t u:TT} {m n:Res Bool} (h:TV Er t σ W m) (g:TV Er u σ W n):TV Er (tOr t u) σ W (m.bind fun b=>if b then .ok true else n):=fun W1 e1 Q k=>h W1 e1 _ ((Res.okE_bind k).imp fun b kb W2 e2=>by
  cases b with
  | true=>exact kb W2 e2
  | false=>exact g W2 (e1.trans e2) _ (kb.imp fun c kc W3 e3=>kc W3 (e2.trans e3)))
theorem ev_and {m n:Res Bool} (h:EV Er ta σ W (sh isB) m) (g:EV Er tb σ W (sh isB) n):EV Er (tAndV ta tb) σ W (sh isB) (m.bind fun b=>if b then n else .ok false):=fun W1 e1 Q k=>h W1 e1 _ ((Res.okE_bind k).imp fun b kb v W2 e2 hv=>⟨b,hv,by
  cases b with
  | true=>exact g W2 (e1.trans e2) _ (kb.imp fun c kc v W3 e3 hv=>kc v W3 (e2.trans e3) hv)
  | false=>exact kb _ W2 e2 rfl⟩)
theorem ev_or {m n:Res Bool} (h:EV Er ta σ W (sh isB) m) (g:EV Er tb σ W (sh isB) n):EV Er (tOrV ta tb) σ W (sh isB) (m.bind fun b=>if b then .ok true else n):=fun W1 e1 Q k=>h W1 e1 _ ((Res.okE_bind k).imp fun b kb v W2 e2 hv=>⟨b,hv,by
  cases b with
  | true=>exact kb _ W2 e2 rfl
  | false=>exact g W2 (e1.trans e2) _ (kb.imp fun c kc v W3 e3 hv=>kc v W3 (e2.trans e3) hv)⟩)
theorem ev_not {m:Res Bool} (h:EV Er ta σ W (sh isB) m):EV Er (tNotV ta) σ W (sh isB) (m.bind fun b=>.ok (!b)):=fun W1 e1 Q k=>h W1 e1 _ ((Res.okE_bind k).imp fun b kb v W2 e2 hv=>⟨b,hv,kb _ W2 e2 rfl⟩)
theorem ev_catS {ma mb:Res Tx} (ha:EV Er ta σ W (sh isS) ma) (hb:EV Er tb σ W (sh isS) mb):EV Er (tOp (fun x y H Q=>∃i j,x=.str i∧y=.str j∧i.length+j.length≤sizeLine∧Q (.str (i++j)) H) ta tb) σ W (sh isS) (ma.bind fun a=>mb.bind fun b=>catS a b):=
  ev2 ha hb fun W a b x y Q hx hy k=>by
    cases hx;cases hy
    obtain⟨h1,h2⟩:=must_OkE k
    exact⟨_,_,rfl,rfl,by rw[sOf_len,sOf_len];exact capL h1,by rw[sOf_append];exact h2 _ W (.refl _) rfl⟩
theorem ev_repS {ma:Res Tx} {mb:Res Int} (ha:EV Er ta σ W (sh isS) ma) (hb:EV Er tb σ W (sh isI) mb):EV Er (tOp (fun x y H Q=>∃c n,x=.str (sOf [c])∧y=.int n∧0≤n∧n≤100000∧Q (.str (sOf (List.replicate n.toNat c))) H) ta tb) σ W (sh isS) (ma.bind fun a=>mb.bind fun b=>repS a b):=
  ev2 ha hb fun W a b x y Q hx hy k=>by
    cases hx;cases hy
    match a,k with
    | [c], k =>
      obtain⟨h1,h2⟩:=must_OkE k
      exact⟨c,b,rfl,rfl,h1.1,h1.2,h2 _ W (.refl _) rfl⟩
theorem ev_ixS {ma:Res Tx} {mb:Res Int} (ha:EV Er ta σ W (sh isS) ma) (hb:EV Er tb σ W (sh isI) mb):EV Er (tOp rIxS ta tb) σ W (sh isS) (ma.bind fun a=>mb.bind fun b=>ixS a b):=
  ev2 ha hb fun W a b x y Q hx hy k=>by
    cases hx;cases hy
    obtain⟨h1,h2⟩:=must_OkE (Res.okE_bind k)
    obtain⟨c,h3,h4⟩:=ofO_OkE (Res.okE_bind h2)
    exact⟨_,b,c,rfl,rfl,by rw[sOf_len];exact capL h1,by rw[sOf_cps];exact h3,h4 _ W (.refl _) rfl⟩
theorem ev_sl {R:Rw α} {r:V→Option Int→Option Int→Hp→VK→Prop} {Ra:Rw β} [MonoW Ra] {ma:Res β} {tl th:TO} {ml mh:Res (Option Int)} {f:β→Option Int→Option Int→Res α} (ha:EV Er ta σ W Ra ma)
    (hl:∀W1,Ext W W1→∀Q:Option Int→Hp→Prop,ml.OkE Er (fun o=>∀W2,Ext W1 W2→Q o W2.H)→tl σ W1.H Q) (hh:∀W1,Ext W W1→∀Q:Option Int→Hp→Prop,mh.OkE Er (fun o=>∀W2,Ext W1 W2→Q o W2.H)→th σ W1.H Q)
    (h:∀W a x lo hi Q,Ra W a x→(f a lo hi).OkE Er (fun c=>∀v W2,Ext W W2→R W2 c v→Q v W2.H)→r x lo hi W.H Q):EV Er (tSl r ta tl th) σ W R (ma.bind fun a=>ml.bind fun lo=>mh.bind fun hi=>f a lo hi):=fun W1 e1 Q k=>
  ha W1 e1 _ ((Res.okE_bind k).imp fun a ka x W2 e2 hx=>hl W2 (e1.trans e2) _ ((Res.okE_bind ka).imp fun lo kl W3 e3=>hh W3 ((e1.trans e2).trans e3) _ ((Res.okE_bind kl).imp fun hi kh W4 e4=>
    h W4 a x lo hi Q (MonoW.mono (e3.trans e4) hx) (kh.imp fun c kc v W5 e5 hv=>kc v W5 (((e2.trans e3).trans e4).trans e5) hv))))
theorem po_no:∀W1,Ext W W1→∀Q:Option Int→Hp→Prop,(Res.ok (none:Option Int)).OkE Er (fun o=>∀W2,Ext W1 W2→Q o W2.H)→tNoPart σ W1.H Q:=fun W1 _ Q k=>k W1 (.refl _)
theorem po_at {m:Res Int} (h:EV Er t σ W (sh isI) m):∀W1,Ext W W1→∀Q:Option Int→Hp→Prop,(m.bind fun i=>.ok (some i)).OkE Er (fun o=>∀W2,Ext W1 W2→Q o W2.H)→tPart t σ W1.H Q:=fun W1 e1 Q k=>
  h W1 e1 _ ((Res.okE_bind k).imp fun i ki v W2 e2 hv=>⟨i,hv,ki W2 e2⟩)
theorem ev_cutS {ma:Res Tx} {tl th:TO} {ml mh:Res (Option Int)} (ha:EV Er ta σ W (sh isS) ma)
    (hl:∀W1,Ext W W1→∀Q:Option Int→Hp→Prop,ml.OkE Er (fun o=>∀W2,Ext W1 W2→Q o W2.H)→tl σ W1.H Q) (hh:∀W1,Ext W W1→∀Q:Option Int→Hp→Prop,mh.OkE Er (fun o=>∀W2,Ext W1 W2→Q o W2.H)→th σ W1.H Q):
    EV Er (tSl (fun x lo hi H Q=>∃l,x=.str (sOf l)∧l.length≤sizeLine∧Q (.str (sOf (cutN l lo hi))) H) ta tl th) σ W (sh isS) (ma.bind fun a=>ml.bind fun lo=>mh.bind fun hi=>cutS a lo hi):=
  ev_sl ha hl hh fun W a x lo hi Q hx k=>by
    cases hx
    obtain⟨h1,h2⟩:=must_OkE k
    exact⟨a,rfl,capL h1,h2 _ W (.refl _) rfl⟩
theorem ev_inS {ma mb:Res Tx} (ha:EV Er ta σ W (sh isS) ma) (hb:EV Er tb σ W (sh isS) mb):EV Er (tOp (fun x y H Q=>∃i j,x=.str i∧y=.str j∧Q (.bl (!(Builtin.Str.occurrences j i 0 j.length 1).isEmpty)) H) ta tb) σ W (sh isB) (ma.bind fun a=>mb.bind fun b=>inC a b):=
  ev2 ha hb fun W a b x y Q hx hy k=>by
    cases hx;cases hy
    match a,k with
    | [c], k =>
      refine⟨_,_,rfl,rfl,?_⟩
      have e:(!(Builtin.Str.occurrences (sOf b) (sOf [c]) 0 (sOf b).length 1).isEmpty)=b.contains c:=by
        have:=StrLaws.found_one (sOf b) c
        rw[sOf_cps]at this
        rw[this,Bool.eq_iff_iff];simp
      rw[e];exact k _ W (.refl _) rfl
theorem Same.tup {H H':Hp} {a:Addr} {xs:List V} (e:Same H H') (h:SqT K H a xs):SqT K H' a xs:=by
  rcases h with(h | ⟨o,h⟩) | h
  · exact .inl (.inl (e _ _ h))
  · exact .inl (.inr ⟨o,e _ _ h⟩)
  · exact .inr h
def isT2 (K:PySem.W.Frag) (R1:Rp α) (R2:Rp β):Rp (α×β):=fun H a v=>∃p x y,v=.ref p∧SqT K H p [x,y]∧R1 H a.1 x∧R2 H a.2 y
def isT3 (K:PySem.W.Frag) (R1:Rp α) (R2:Rp β) (R3:Rp γ):Rp (α×β×γ):=fun H a v=>∃p x y z,v=.ref p∧SqT K H p [x,y,z]∧R1 H a.1 x∧R2 H a.2.1 y∧R3 H a.2.2 z
instance zkeep14 {R1:Rp α} {R2:Rp β} [Mono R1] [Mono R2]:Mono (isT2 K R1 R2):=⟨fun e ⟨p,x,y,h0,h,h1,h2⟩=>⟨p,x,y,h0,Same.tup e h,Mono.mono e h1,Mono.mono e h2⟩⟩
theorem ev_tup2 {R1:Rp α} {R2:Rp β} [Mono R1] [Mono R2] {ma:Res α} {mb:Res β} (ha:EV Er ta σ W (sh R1) ma) (hb:EV Er tb σ W (sh R2) mb):EV Er (tTup (tCons ta (tCons tb tNil))) σ W (sh (isT2 K R1 R2)) (ma.bind fun a=>mb.bind fun b=>.ok (a,b)):=fun W1 e1 Q k=>
  ha W1 e1 _ ((Res.okE_bind k).imp fun a ka x W2 e2 hx=>hb W2 (e1.trans e2) _ ((Res.okE_bind ka).imp fun b kb y W3 e3 hy=>⟨(by show 2≤sizeLine;decide),fun p hp=>
    kb (.ref p) (W3.new p (.tup [x,y])) ((e2.trans e3).trans (.new _ hp)) ⟨p,x,y,rfl,SqT.of upd_same,Mono.mono (Ext.new _ hp).g (Mono.mono (R:=R1) e3.g hx),Mono.mono (R:=R2) (Ext.new _ hp).g hy⟩⟩))
theorem ev_tup3 {R1:Rp α} {R2:Rp β} {R3:Rp γ} [Mono R1] [Mono R2] [Mono R3] {ma:Res α} {mb:Res β} {mc:Res γ} (ha:EV Er ta σ W (sh R1) ma) (hb:EV Er tb σ W (sh R2) mb) (hc:EV Er tc σ W (sh R3) mc):
    EV Er (tTup (tCons ta (tCons tb (tCons tc tNil)))) σ W (sh (isT3 K R1 R2 R3)) (ma.bind fun a=>mb.bind fun b=>mc.bind fun c=>.ok (a,b,c)):=fun W1 e1 Q k=>
  ha W1 e1 _ ((Res.okE_bind k).imp fun a ka x W2 e2 hx=>hb W2 (e1.trans e2) _ ((Res.okE_bind ka).imp fun b kb y W3 e3 hy=>hc W3 ((e1.trans e2).trans e3) _ ((Res.okE_bind kb).imp fun c kc z W4 e4 hz=>⟨(by show 3≤sizeLine;decide),fun p hp=>
    kc (.ref p) (W4.new p (.tup [x,y,z])) (((e2.trans e3).trans e4).trans (.new _ hp)) ⟨p,x,y,z,rfl,SqT.of upd_same,Mono.mono (Ext.new _ hp).g (Mono.mono (R:=R1) (e3.trans e4).g hx),Mono.mono (R:=R2) (Ext.new _ hp).g (Mono.mono (R:=R2) e4.g hy),Mono.mono (R:=R3) (Ext.new _ hp).g hz⟩⟩)))
theorem ev_ixT {R:Rp α} {Rt:Rp β} {m:Res β} {i:Int} {f:β→α} (h:∀H b v,Rt H b v→∃p xs x,v=.ref p∧SqT K H p xs∧L2.atI xs i=some x∧R H (f b) x) (ha:EV Er ta σ W (sh Rt) m):EV Er (tOp (rIxT K) ta (tC (.int i))) σ W (sh R) (m.bind fun b=>.ok (f b)):=fun W1 e1 Q k=>
  ha W1 e1 _ ((Res.okE_bind k).imp fun b kb v W2 e2 hv=>by
    obtain⟨p,xs,x,h1,h2,h3,h4⟩:=h _ _ _ hv
    exact⟨p,xs,i,x,h1,rfl,Same.tup W2.ok h2,h3,kb _ W2 e2 h4⟩)
theorem ix20 {R1:Rp α} {R2:Rp β} :∀H b v,isT2 K R1 R2 H b v→∃p xs x,v=.ref p∧SqT K H p xs∧L2.atI xs 0=some x∧R1 H b.1 x:=fun _ _ _ ⟨p,x,y,h0,h,h1,h2⟩=>⟨p,_,x,h0,h,rfl,h1⟩
theorem ix21 {R1:Rp α} {R2:Rp β} :∀H b v,isT2 K R1 R2 H b v→∃p xs x,v=.ref p∧SqT K H p xs∧L2.atI xs 1=some x∧R2 H b.2 x:=fun _ _ _ ⟨p,x,y,h0,h,h1,h2⟩=>⟨p,_,y,h0,h,rfl,h2⟩
theorem atZ_rel {R:Rp α} {H:Hp} {as:List α} {xs:List V} (h:LR R H as xs) {i:Int} {a:α} (e:atZ as i=some a):∃x,L2.atI xs i=some x∧R H a x:=by
  unfold atZ at e
  unfold L2.atI
  rw[h.1]
  cases z:Mi.ixN as.length i with
  | none=>rw[z]at e;cases e
  | some j =>
    rw[z]at e
    obtain⟨x,h1,h2⟩:=h.get (i:=j) e
    exact⟨x,by show(L2.ixN as.length i).bind _=_;rw[show L2.ixN as.length i=Mi.ixN as.length i from rfl,z];exact h1,h2⟩
theorem ev_ixL {R:Rp α} [Mono R] {ma:Res (List α)} {mb:Res Int} (ha:EV Er ta σ W (pk R) ma) (hb:EV Er tb σ W (sh isI) mb):EV Er (tOp (rIxL K) ta tb) σ W (sh R) (ma.bind fun a=>mb.bind fun b=>ixL a b):=
  ev2 ha hb fun W a b x y Q hx hy k=>by
    cases hy
    obtain⟨p,vs,rfl,h,h1⟩:=hx
    obtain⟨c,h4,h5⟩:=ofO_OkE k
    obtain⟨z,h6,h7⟩:=atZ_rel h1 h4
    exact⟨p,_,b,z,rfl,rfl,SqL.of h,h6,h5 _ W (.refl _) h7⟩
theorem ev_lst0 {R:Rp α} :EVo Er (tLst tNil) σ W R (.ok []):=fun W1 e1 Q k=>⟨by decide,fun p hp=>k p (W1.mut p (.lst []) (W1.gnone hp)) (.own _ hp) hp ⟨W1.gnone hp,[],upd_same,.nil⟩⟩
def AV (Er:Nat→Prop) (t:TA) (σ:St) (W:Wd) (R:Rp α) (n:Nat) (m:Res (List α)):Prop:=∀W1,Ext W W1→∀Q:List V→Hp→Prop,m.OkE Er (fun as=>∀vs W2,Ext W1 W2→vs.length=n→LR R W2.G as vs→Q vs W2.H)→t σ W1.H Q
theorem av_nil {R:Rp α} :AV Er tNil σ W R 0 (.ok []):=fun W1 _ Q k=>k [] W1 (.refl _) rfl .nil
theorem LR.cons {R:Rp α} {H:Hp} {a:α} {v:V} {as:List α} {vs:List V} (h:R H a v) (r:LR R H as vs):LR R H (a::as) (v::vs):=⟨by simp[r.1],fun i x m e1 e2=>by
  cases i with
  | zero=>cases e1;cases e2;exact h
  | succ j=>exact r.2 j x m e1 e2⟩
theorem av_cons {R:Rp α} [Mono R] {n:Nat} {ts:TA} {m:Res α} {ms:Res (List α)} (h:EV Er t σ W (sh R) m) (g:AV Er ts σ W R n ms):AV Er (tCons t ts) σ W R (n+1) (m.bind fun a=>ms.bind fun as=>.ok (a::as)):=fun W1 e1 Q k=>
  h W1 e1 _ ((Res.okE_bind k).imp fun a ka v W2 e2 hv=>g W2 (e1.trans e2) _ ((Res.okE_bind ka).imp fun as kas vs W3 e3 hn hvs=>kas (v::vs) W3 (e2.trans e3) (by simp[hn]) (.cons (Mono.mono (R:=R) e3.g hv) hvs)))
theorem ev_lst {R:Rp α} [Mono R] {n:Nat} {ts:TA} {ms:Res (List α)} (g:AV Er ts σ W R n ms) (hn:n≤cap:=by decide):EVo Er (tLst ts) σ W R ms:=fun W1 e1 Q k=>
  g W1 e1 _ (k.imp fun as ka vs W2 e2 hv hvs=>⟨by rw[hv];exact capL hn,fun p hp=>ka p (W2.mut p (.lst vs) (W2.gnone hp)) (e2.trans (.own _ hp)) (none_of e2.h hp) ⟨W2.gnone hp,vs,upd_same,hvs⟩⟩)
theorem ev_catL {R:Rp α} [Mono R] {ma mb:Res (List α)} (ha:EV Er ta σ W (pk R) ma) (hb:EV Er tb σ W (pk R) mb):EVo Er (tOp rCat ta tb) σ W R (ma.bind fun a=>mb.bind fun b=>catL a b):=fun W1 e1 Q k=>
  ha W1 e1 _ ((Res.okE_bind k).imp fun a ka x W2 e2 hx=>hb W2 (e1.trans e2) _ ((Res.okE_bind ka).imp fun b kb y W3 e3 hy=>by
    obtain⟨p,vs,rfl,h1,h2⟩:=MonoW.mono e3 hx
    obtain⟨q,us,rfl,h3,h4⟩:=hy
    obtain⟨h5,h6⟩:=must_OkE kb
    refine⟨p,q,vs,us,rfl,rfl,h1,h3,by rw[h2.1,h4.1];exact capL h5,fun r hr=>h6 r (W3.mut r (.lst (vs++us)) (W3.gnone hr)) ((e2.trans e3).trans (.own _ hr)) (none_of (e2.trans e3).h hr) ⟨W3.gnone hr,_,upd_same,?_⟩⟩
    exact⟨by rw[List.length_append,List.length_append,h2.1,h4.1],fun i v m q1 q2=>by
      by_cases hi:i< vs.length
      · rw[List.getElem?_append_left hi]at q1
        rw[List.getElem?_append_left (by rw[←h2.1];exact hi)]at q2
        exact h2.2 i v m q1 q2
      · rw[List.getElem?_append_right (by omega)]at q1
        rw[List.getElem?_append_right (by rw[←h2.1];omega)]at q2
        rw[←h2.1]at q2
        exact h4.2 _ v m q1 q2⟩))
theorem ev_abs {ma:Res Int} (ha:EV Er ta σ W (sh isI) ma):EV Er (tCB (fun xs H Q=>∃i,xs=[.int i]∧Q (.int (if i< 0 then -i else i)) H) (tCons ta tNil)) σ W (sh isI) (ma.bind fun a=>.ok (absI a)):=fun W1 e1 Q k=>
  ha W1 e1 _ ((Res.okE_bind k).imp fun a ka x W2 e2 hx=>by cases hx;exact⟨a,rfl,ka _ W2 e2 rfl⟩)
theorem ev_lenS {ma:Res Tx} (ha:EV Er ta σ W (sh isS) ma):EV Er (tCB (fun xs H Q=>∃x n,xs=[x]∧LenV K x H n∧Q (.int n) H) (tCons ta tNil)) σ W (sh isI) (ma.bind fun a=>lenS a):=fun W1 e1 Q k=>
  ha W1 e1 _ ((Res.okE_bind k).imp fun a ka x W2 e2 hx=>by
    cases hx
    obtain⟨h1,h2⟩:=must_OkE ka
    exact⟨_,a.length,rfl,⟨by rw[sOf_len];exact capL h1,by rw[sOf_len]⟩,h2 _ W2 e2 rfl⟩)
theorem ev_join {ma:Res (List Tx)} {x:Str} (hx:x=sOf []) (ha:EV Er ta σ W (pk isS) ma):EV Er (tBM K "str" (fun x xs H Q=>∃(p:Addr) (ys:List (List Nat)),x=.str (sOf [])∧xs=[.ref p]∧SqL K H p (ys.map fun y=>V.str (sOf y))∧ys.flatten.length≤100000∧Q (.str (sOf ys.flatten)) H) (tC (.str x)) (tCons ta tNil)) σ W (sh isS) (ma.bind fun a=>joinE a):=fun W1 e1 Q k=>
  ⟨by show tyV K "str" (.str x) W1.H;rfl,ha W1 e1 _ ((Res.okE_bind k).imp fun a ka v W2 e2 hv=>by
    obtain⟨p,vs,rfl,h1,h2⟩:=hv
    obtain⟨h3,h4⟩:=must_OkE ka
    exact⟨p,a,by rw[hx],rfl,SqL.of (by rw[h1,h2.str]),h3,h4 _ W2 e2 rfl⟩)⟩
end
end Wb
namespace Wb
open PySem L2 Mi
variable {Er:Nat→Prop}
abbrev Rt (β:Type):=Wd→β→VK→Prop
def rs {β:Type} (R:Rp β):Rt β:=fun W r Q=>∀u W',Ext W W'→R W'.G r u→Q u W'.H
def ro {β:Type} (R:Rp β):Rt (List β):=fun W r Q=>∀p W',Ext W W'→W.H p=none→Ow R W' p r→Q (.ref p) W'.H
section
variable {α β γ δ ε ζ:Type}
def spM1 (R1:Rp α) (rt:Rt β) (m:α→Res β):Sp:=fun vs H Q _=>∃(W:Wd) (a:α) (v:V),W.H=H∧vs=[v]∧R1 W.G a v∧∃Er:Nat→Prop,(m a).OkE Er fun r=>rt W r Q
def spM2 (R1:Rp α) (R2:Rp γ) (rt:Rt β) (m:α→γ→Res β):Sp:=fun vs H Q _=>∃(W:Wd) (a:α) (b:γ) (v u:V),W.H=H∧vs=[v,u]∧R1 W.G a v∧R2 W.G b u∧∃Er:Nat→Prop,(m a b).OkE Er fun r=>rt W r Q
def spM3 (R1:Rp α) (R2:Rp γ) (R3:Rp δ) (rt:Rt β) (m:α→γ→δ→Res β):Sp:=fun vs H Q _=>∃(W:Wd) (a:α) (b:γ) (c:δ) (v u w:V),W.H=H∧vs=[v,u,w]∧R1 W.G a v∧R2 W.G b u∧R3 W.G c w∧∃Er:Nat→Prop,(m a b c).OkE Er fun r=>rt W r Q
variable {t t1 t2 t3 t4 t5:TE} {σ:St} {W W0 W':Wd} {K:PySem.W.Frag}
section
variable {R1:Rp α} {R2:Rp γ} {R3:Rp δ} {R4:Rp ε} {R5:Rp ζ} [Mono R1] [Mono R2] [Mono R3] [Mono R4] [Mono R5] {m1:Res α} {m2:Res γ} {m3:Res δ} {m4:Res ε} {m5:Res ζ} {E:XK}
theorem ev_call1 {R:Rp β} {m:α→Res β} (h1:EV Er t1 σ W (sh R1) m1):EV Er (tCall (spM1 R1 (rs R) m) [] E (tCons t1 tNil)) σ W (sh R) (m1.bind fun a=>m a):=fun W1 e1 Q k=>
  h1 W1 e1 _ ((Res.okE_bind k).imp fun a ka v W2 e2 hv=>⟨W2,a,v,rfl,rfl,hv,Er,ka.imp fun r kr u W' e hu=>kr u W' (e2.trans e) hu⟩)
theorem ev_call2 {R:Rp β} {m:α→γ→Res β} (h1:EV Er t1 σ W (sh R1) m1) (h2:EV Er t2 σ W (sh R2) m2):EV Er (tCall (spM2 R1 R2 (rs R) m) [] E (tCons t1 (tCons t2 tNil))) σ W (sh R) (m1.bind fun a=>m2.bind fun b=>m a b):=fun W1 e1 Q k=>
  h1 W1 e1 _ ((Res.okE_bind k).imp fun a ka v W2 e2 hv=>h2 W2 (e1.trans e2) _ ((Res.okE_bind ka).imp fun b kb u W3 e3 hu=>⟨W3,a,b,v,u,rfl,rfl,MonoW.mono (R:=sh R1) e3 hv,hu,Er,kb.imp fun r kr u W' e hu=>kr u W' ((e2.trans e3).trans e) hu⟩))
theorem ev_call2o {R:Rp β} {m:α→γ→Res (List β)} (h1:EV Er t1 σ W (sh R1) m1) (h2:EV Er t2 σ W (sh R2) m2):EVo Er (tCall (spM2 R1 R2 (ro R) m) [] E (tCons t1 (tCons t2 tNil))) σ W R (m1.bind fun a=>m2.bind fun b=>m a b):=fun W1 e1 Q k=>
  h1 W1 e1 _ ((Res.okE_bind k).imp fun a ka v W2 e2 hv=>h2 W2 (e1.trans e2) _ ((Res.okE_bind ka).imp fun b kb u W3 e3 hu=>⟨W3,a,b,v,u,rfl,rfl,MonoW.mono (R:=sh R1) e3 hv,hu,Er,kb.imp fun r kr p W' e hp o=>kr p W' ((e2.trans e3).trans e) (none_of (e2.trans e3).h hp) o⟩))
theorem ev_call3 {R:Rp β} {m:α→γ→δ→Res β} (h1:EV Er t1 σ W (sh R1) m1) (h2:EV Er t2 σ W (sh R2) m2) (h3:EV Er t3 σ W (sh R3) m3):EV Er (tCall (spM3 R1 R2 R3 (rs R) m) [] E (tCons t1 (tCons t2 (tCons t3 tNil)))) σ W (sh R) (m1.bind fun a=>m2.bind fun b=>m3.bind fun c=>m a b c):=fun W1 e1 Q k=>
  h1 W1 e1 _ ((Res.okE_bind k).imp fun a ka v W2 e2 hv=>h2 W2 (e1.trans e2) _ ((Res.okE_bind ka).imp fun b kb u W3 e3 hu=>h3 W3 ((e1.trans e2).trans e3) _ ((Res.okE_bind kb).imp fun c kc w W4 e4 hw=>
    ⟨W4,a,b,c,v,u,w,rfl,rfl,MonoW.mono (R:=sh R1) (e3.trans e4) hv,MonoW.mono (R:=sh R2) e4 hu,hw,Er,kc.imp fun r kr u W' e hu=>kr u W' (((e2.trans e3).trans e4).trans e) hu⟩)))
theorem ev_call3o {R:Rp β} {m:α→γ→δ→Res (List β)} (h1:EV Er t1 σ W (sh R1) m1) (h2:EV Er t2 σ W (sh R2) m2) (h3:EV Er t3 σ W (sh R3) m3):EVo Er (tCall (spM3 R1 R2 R3 (ro R) m) [] E (tCons t1 (tCons t2 (tCons t3 tNil)))) σ W R (m1.bind fun a=>m2.bind fun b=>m3.bind fun c=>m a b c):=fun W1 e1 Q k=>
  h1 W1 e1 _ ((Res.okE_bind k).imp fun a ka v W2 e2 hv=>h2 W2 (e1.trans e2) _ ((Res.okE_bind ka).imp fun b kb u W3 e3 hu=>h3 W3 ((e1.trans e2).trans e3) _ ((Res.okE_bind kb).imp fun c kc w W4 e4 hw=>
    ⟨W4,a,b,c,v,u,w,rfl,rfl,MonoW.mono (R:=sh R1) (e3.trans e4) hv,MonoW.mono (R:=sh R2) e4 hu,hw,Er,kc.imp fun r kr p W' e hp o=>kr p W' (((e2.trans e3).trans e4).trans e) (none_of ((e2.trans e3).trans e4).h hp) o⟩)))
end
def Yl (J:It) (W:Wd) (R:Rp α) (xs:List α):Prop:=∀W1:Wd,Same W.G W1.G→(∀(i:Nat) (a:α),xs[i]? =some a→J.go i W1.H∧∀x H',J.yld i W1.H x H'→∃W2:Wd,W2.H=H'∧Ext W1 W2∧R W2.G a x)∧J.stop xs.length W1.H
def IV (Er:Nat→Prop) (wi:TI) (σ:St) (W:Wd) (R:Rp α) (m:Res (List α)):Prop:=∀W1,Ext W W1→∀P:It→Hp→Prop,m.OkE Er (fun xs=>∀J W2,Ext W1 W2→Yl J W2 R xs→P J W2.H)→wi σ W1.H P
theorem iv_list {R:Rp α} [Mono R] {m:Res (List α)} (h:EV Er t σ W (sh (isL R)) m):IV Er (iList K t) σ W R m:=fun W1 e1 P k=>
  h W1 e1 _ (k.imp fun xs kx v W2 e2 hv => by
    obtain⟨p,vs,rfl,h1,h2⟩:=hv
    refine⟨p,rfl,⟨vs,SqL.of (W2.ok _ _ h1)⟩,kx _ W2 e2 fun W3 e3=>⟨fun i a ha=>?_,vs,SqL.of (W3.ok _ _ (e3 _ _ h1)),by rw[h2.1];exact Nat.le_refl _⟩⟩
    obtain⟨x,hx,hr⟩:=h2.get ha
    refine⟨⟨vs,x,SqL.of (W3.ok _ _ (e3 _ _ h1)),hx⟩,fun y H' ⟨z1,z2⟩=>⟨W3,z1.symm,.refl _,?_⟩⟩
    have:=z2 vs (SqL.of (W3.ok _ _ (e3 _ _ h1)))
    rw[hx]at this
    cases this
    exact Mono.mono e3 hr)
theorem iv_range {m:Res Int} (h:EV Er t σ W (sh isI) m):IV Er (iRng1 (tCons t tNil)) σ W isI (m.bind fun n=>rangeR n):=fun W1 e1 P k=>
  h W1 e1 _ ((Res.okE_bind k).imp fun n kn v W2 e2 hv => by
    cases hv
    obtain⟨hb,kn⟩:=must_OkE kn
    refine⟨n,rfl,hb.1,hb.2,kn _ W2 e2 fun W3 e3=>⟨fun i a ha=>?_,by show n.toNat≤(rangeN n).length;simp[rangeN]⟩⟩
    unfold rangeN at ha
    rw[List.getElem?_map]at ha
    have hi:i< n.toNat:=by
      refine Classical.byContradiction fun z=>?_
      rw[List.getElem?_eq_none_iff.mpr (by simp;omega)]at ha;cases ha
    rw[List.getElem?_range hi]at ha
    cases ha
    exact⟨hi,fun y H' ⟨z1,z2⟩=>⟨W3,z1.symm,.refl _,by rw[z2];show V.int (0+(i:Int))=.int (i:Int);rw[Int.zero_add]⟩⟩)
theorem mapR_drop {f:α→Res β} {xs:List α} {i:Nat} {a:α} (h:xs[i]? =some a):mapR f (xs.drop i)=(f a).bind fun b=>(mapR f (xs.drop (i+1))).bind fun bs=>.ok (b::bs):=by
  obtain⟨hi,e⟩:=List.getElem?_eq_some_iff.mp h
  rw[List.drop_eq_getElem_cons hi,e]
  rfl
theorem filtR_drop {f:α→Res (Option β)} {xs:List α} {i:Nat} {a:α} (h:xs[i]? =some a):filtR f (xs.drop i)=(f a).bind fun b=>(filtR f (xs.drop (i+1))).bind fun bs=>.ok (match b with | some b=>b::bs | none=>bs):=by
  obtain⟨hi,e⟩:=List.getElem?_eq_some_iff.mp h
  rw[List.drop_eq_getElem_cons hi,e]
  rfl
theorem ev_comp {cap:List (Option Nat)} {wi:TI} {g:TG} {te:TE} {R:Rp α} {R':Rp β} [Mono R'] {m:Res (List α)} {f:α→Res β} (hi:IV Er wi σ W R m)
    (hb:∀(W1:Wd) (a:α) (v:V),Ext W W1→R W1.G a v→∀Q:VK,(f a).OkE Er (fun b=>∀u W2,Ext W1 W2→R' W2.G b u→Q u W2.H)→g v (capSt cap σ) W1.H fun σ2 H2=>Keep (capSt cap σ) σ2∧te σ2 H2 Q):
    EVo Er (tComp cap wi g tYes te) σ W R' (m.bind fun xs=>compR xs f):=fun W1 e1 Q k=>by
  refine hi W1 e1 _ ((Res.okE_bind k).imp fun xs kx J W2 e2 hy=>?_)
  obtain⟨hl,kx⟩:=must_OkE (Res.okE_bind kx)
  refine⟨fun i n ys H=>n=xs.length- i∧i≤xs.length∧ys.length≤i∧∃(W3:Wd) (bs:List β),W3.H=H∧Ext W2 W3∧LR R' W3.G bs ys∧(mapR f (xs.drop i)).OkE Er (fun r=>∀p W4,Ext W1 W4→W1.H p=none→Ow R' W4 p (bs++r)→Q (.ref p) W4.H),⟨xs.length,by simp,by simp,by simp,W2,[],rfl,.refl _,.nil,?_⟩,?_⟩
  · simpa using kx
  · rintro i n ys H ⟨rfl,hi1,hyl,W3,bs,rfl,e3,lr,q⟩
    refine⟨by rw[sizeLine_eq];unfold Mi.cap at hl;omega,?_⟩
    by_cases hlt:i< xs.length
    · obtain⟨a,ha⟩:∃a,xs[i]? =some a:=⟨xs[i],by simp[hlt]⟩
      obtain⟨h1,h2⟩:=(hy W3 e3.g).1 i a ha
      refine .inr ⟨h1,fun ys' H'=>ys'.length≤i+1∧∃(W3:Wd) (bs:List β),W3.H=H'∧Ext W2 W3∧LR R' W3.G bs ys'∧(mapR f (xs.drop (i+1))).OkE Er (fun r=>∀p W4,Ext W1 W4→W1.H p=none→Ow R' W4 p (bs++r)→Q (.ref p) W4.H),fun ys' H' ⟨z1,z2⟩=>⟨xs.length- (i+1),by omega,rfl,hlt,z1,z2⟩,fun x H' hx=>?_⟩
      obtain⟨W4,rfl,e4,rx⟩:=h2 x H' hx
      rw[mapR_drop ha]at q
      have:=hb W4 a x (e1.trans ((e2.trans e3).trans e4)) rx (fun y H4=>(ys++ [y]).length≤i+1∧∃(W3:Wd) (bs:List β),W3.H=H4∧Ext W2 W3∧LR R' W3.G bs (ys++ [y])∧(mapR f (xs.drop (i+1))).OkE Er (fun r=>∀p W4,Ext W1 W4→W1.H p=none→Ow R' W4 p (bs++r)→Q (.ref p) W4.H))
        ((Res.okE_bind q).imp fun b kb u W5 e5 hu=>⟨by simp;exact hyl,W5,bs++ [b],rfl,(e3.trans e4).trans e5,(lr.same (e4.trans e5).g).snoc hu,(Res.okE_bind kb).imp fun r kr=>by rw[List.append_assoc];exact kr⟩)
      exact this
    · have e:i=xs.length:=by omega
      subst e
      rw[List.drop_length]at q
      refine .inl ⟨(hy W3 e3.g).2,fun D hD=>?_⟩
      have e13:=e2.trans e3
      have:=q D (W3.mut D (.lst ys) (W3.gnone hD)) (e13.trans (.own _ hD)) (none_of e13.h hD) ⟨W3.gnone hD,ys,upd_same,by rw[List.append_nil];exact lr⟩
      exact this
theorem ev_compF {cap:List (Option Nat)} {wi:TI} {g:TG} {tf:TT} {te:TE} {R:Rp α} {R':Rp β} [Mono R'] {m:Res (List α)} {f:α→Res (Option β)} (hi:IV Er wi σ W R m)
    (hb:∀(W1:Wd) (a:α) (v:V),Ext W W1→R W1.G a v→∀Q:Option V→Hp→Prop,(f a).OkE Er (fun b=>∀u W2,Ext W1 W2→(match b,u with | some b,some u=>R' W2.G b u | none,none=>True | _,_=>False)→Q u W2.H)→g v (capSt cap σ) W1.H fun σ2 H2=>Keep (capSt cap σ) σ2∧tf σ2 H2 fun b H3=>if b=true then te σ2 H3 (fun y H4=>Q (some y) H4)else Q none H3):
    EVo Er (tComp cap wi g tf te) σ W R' (m.bind fun xs=>compF xs f):=fun W1 e1 Q k=>by
  refine hi W1 e1 _ ((Res.okE_bind k).imp fun xs kx J W2 e2 hy=>?_)
  obtain⟨hl,kx⟩:=must_OkE (Res.okE_bind kx)
  refine⟨fun i n ys H=>n=xs.length- i∧i≤xs.length∧ys.length≤i∧∃(W3:Wd) (bs:List β),W3.H=H∧Ext W2 W3∧LR R' W3.G bs ys∧(filtR f (xs.drop i)).OkE Er (fun r=>∀p W4,Ext W1 W4→W1.H p=none→Ow R' W4 p (bs++r)→Q (.ref p) W4.H),⟨xs.length,by simp,by simp,by simp,W2,[],rfl,.refl _,.nil,?_⟩,?_⟩
  · simpa using kx
  · rintro i n ys H ⟨rfl,hi1,hyl,W3,bs,rfl,e3,lr,q⟩
    refine⟨by rw[sizeLine_eq];unfold Mi.cap at hl;omega,?_⟩
    by_cases hlt:i< xs.length
    · obtain⟨a,ha⟩:∃a,xs[i]? =some a:=⟨xs[i],by simp[hlt]⟩
      obtain⟨h1,h2⟩:=(hy W3 e3.g).1 i a ha
      refine .inr ⟨h1,fun ys' H'=>ys'.length≤i+1∧∃(W3:Wd) (bs:List β),W3.H=H'∧Ext W2 W3∧LR R' W3.G bs ys'∧(filtR f (xs.drop (i+1))).OkE Er (fun r=>∀p W4,Ext W1 W4→W1.H p=none→Ow R' W4 p (bs++r)→Q (.ref p) W4.H),fun ys' H' ⟨z1,z2⟩=>⟨xs.length- (i+1),by omega,rfl,hlt,z1,z2⟩,fun x H' hx=>?_⟩
      obtain⟨W4,rfl,e4,rx⟩:=h2 x H' hx
      rw[filtR_drop ha]at q
      have:=hb W4 a x (e1.trans ((e2.trans e3).trans e4)) rx (fun y H4=>(match y with | some y=>ys++ [y] | none=>ys).length≤i+1∧∃(W3:Wd) (bs:List β),W3.H=H4∧Ext W2 W3∧LR R' W3.G bs (match y with | some y=>ys++ [y] | none=>ys)∧(filtR f (xs.drop (i+1))).OkE Er (fun r=>∀p W4,Ext W1 W4→W1.H p=none→Ow R' W4 p (bs++r)→Q (.ref p) W4.H))
        ((Res.okE_bind q).imp fun b kb u W5 e5 hu=>by
          match b,u,hu,kb with
          | some b,some u,hu,kb=>exact⟨by simp;exact hyl,W5,bs++ [b],rfl,(e3.trans e4).trans e5,(lr.same (e4.trans e5).g).snoc hu,(Res.okE_bind kb).imp fun r kr=>by rw[List.append_assoc];exact kr⟩
          | none,none,hu,kb=>exact⟨by show ys.length≤i+1;omega,W5,bs,rfl,(e3.trans e4).trans e5,lr.same (e4.trans e5).g,(Res.okE_bind kb).imp fun r kr=>kr⟩)
      exact this
    · have e:i=xs.length:=by omega
      subst e
      rw[List.drop_length]at q
      refine .inl ⟨(hy W3 e3.g).2,fun D hD=>?_⟩
      have e13:=e2.trans e3
      have:=q D (W3.mut D (.lst ys) (W3.gnone hD)) (e13.trans (.own _ hD)) (none_of e13.h hD) ⟨W3.gnone hD,ys,upd_same,by rw[List.append_nil];exact lr⟩
      exact this
end
end Wb
namespace Wb
open PySem L2 Mi
variable {Er:Nat→Prop}
section
variable {α β γ δ:Type} {t u:TS} {te ti:TE} {g:TG} {D:Ends} {σ:St} {W W0 W':Wd} {K:PySem.W.Frag} {i j k n:Nat} {P:St→Hp→Prop} {H:Hp} {v:V}
theorem gn {σ':St} (h:P σ' H) (hσ:σ.set i (some v)=σ':=by rfl):gName i v σ H P:=by subst hσ;exact h
theorem gt2n {σ':V→V→St} {R1:Rp α} {R2:Rp β} {ab:α×β} (h:isT2 K R1 R2 W.G ab v) (q:∀x y,R1 W.G ab.1 x→R2 W.G ab.2 y→P (σ' x y) W.H) (hσ:∀x y,(σ.set i (some x)).set j (some y)=σ' x y:=by intro _ _;rfl):gTup K 2 (gCons (gName i) (gCons (gName j) gNil)) v σ W.H P:=by
  obtain⟨p,x,y,h0,h,h1,h2⟩:=h
  exact⟨p,_,h0,Same.tup W.ok h,rfl,x,_,rfl,y,_,rfl,rfl,by have:=q x y h1 h2;rw[←hσ]at this;exact this⟩
theorem sv_asg {σ':V→St} {R:Rw α} {m:Res α} (h:EV Er te σ W R m) (q:m.OkE Er fun a=>∀v W',Ext W W'→R W' a v→D.nx (σ' v) W'.H) (hσ:∀v,σ.set i (some v)=σ' v:=by intro _;rfl):tAsg te (gName i) D σ W.H:=h W (.refl _) _ (q.imp fun a k v W' e r=>by have:=k v W' e r;rw[←hσ]at this;exact this)
theorem sv_asgO {σ':Addr→St} {R:Rp α} {m:Res (List α)} (h:EVo Er te σ W R m) (q:m.OkE Er fun a=>∀p W',Ext W W'→W.H p=none→Ow R W' p a→D.nx (σ' p) W'.H) (hσ:∀p,σ.set i (some (.ref p))=σ' p:=by intro _;rfl):tAsg te (gName i) D σ W.H:=h W (.refl _) _ (q.imp fun a k p W' e hp r=>by have:=k p W' e hp r;rw[←hσ]at this;exact this)
theorem sv_ret {R:Rw α} {m:Res α} (h:EV Er te σ W R m) (q:m.OkE Er fun a=>∀v W',Ext W W'→R W' a v→D.rt v W'.H):tRet te D σ W.H:=h W (.refl _) _ q
theorem sv_retO {R:Rp α} {m:Res (List α)} (h:EVo Er te σ W R m) (q:m.OkE Er fun a=>∀p W',Ext W W'→W.H p=none→Ow R W' p a→D.rt (.ref p) W'.H):tRet te D σ W.H:=h W (.refl _) _ q
theorem sv_if {c:TT} {m:Res Bool} (h:TV Er c σ W m) (q:m.OkE Er fun b=>∀W',Ext W W'→if b=true then t D σ W'.H else u D σ W'.H):tIfS c t u D σ W.H:=h W (.refl _) _ q
theorem sv_ifj {S:Type} {c:TT} {m:Res Bool} {mA mB:Res S} {P:S→Prop} (Iv:S→Wd→St→Prop) (h:TV Er c σ W m) (q:(m.bind fun b=>if b then mA else mB).OkE Er P)
    (hA:∀W' (N:St→Hp→Prop),Ext W W'→(∀s W1 σ1,Same W.G W1.G→Iv s W1 σ1→P s→N σ1 W1.H)→mA.OkE Er P→t {D with nx:=N} σ W'.H)
    (hB:∀W' (N:St→Hp→Prop),Ext W W'→(∀s W1 σ1,Same W.G W1.G→Iv s W1 σ1→P s→N σ1 W1.H)→mB.OkE Er P→u {D with nx:=N} σ W'.H)
    (hd:∀s W1 σ1,Same W.G W1.G→Iv s W1 σ1→P s→D.nx σ1 W1.H):tIfS c t u D σ W.H:=h W (.refl _) _ ((Res.okE_bind q).imp fun b kb W' e=>by
  cases b with
  | true=>exact hA W' D.nx e hd kb
  | false=>exact hB W' D.nx e hd kb)
structure Mu (W W':Wd) (p:Addr):Prop where
  g:Same W.G W'.G
  e:∀W0:Wd,Ext W0 W→W0.H p=none→Ext W0 W'
  h:∀q,q≠p→W.H q≠none→W'.H q=W.H q∧W'.G q=W.G q
theorem Mu.of {W1:Wd} {p:Addr} {o:HO} (e1:Ext W W1) (hg:W1.G p=none):Mu W (W1.mut p o hg) p:=⟨e1.g,fun W0 e0 hp=>(e0.trans e1).mut hp hg,fun q hq hn=>by
  obtain⟨o',ho⟩:=Option.ne_none_iff_exists'.mp hn
  exact⟨by show upd W1.H p o q=_;rw[upd_ne hq,e1.h _ _ ho,ho],e1.k q hn⟩⟩
theorem sv_app {R:Rp α} [Mono R] {p:Addr} {xs:List α} {m:Res α} (o:Ow R W p xs) (h:EV Er te σ W (sh R) m) (q:(m.bind fun a=>appL xs a).OkE Er fun ys=>∀W',Mu W W' p→Ow R W' p ys→D.nx σ W'.H) (hi:σ[i]? =some (some (.ref p)):=by rfl):tDrop (tBM K "list" rAppend (tVar i) (tCons te tNil)) D σ W.H:=by
  obtain⟨vs,h1,h2⟩:=o.h
  refine⟨.ref p,hi,.inl ⟨rfl,vs,SqL.of h1⟩,h W (.refl _) _ ((Res.okE_bind q).imp fun a ka v W2 e2 hv=>?_)⟩
  obtain⟨h3,h4⟩:=must_OkE ka
  have hg:=(o.mono e2).g
  refine⟨p,vs,v,rfl,rfl,e2.h _ _ h1,by rw[h2.1,sizeLine_eq];unfold Mi.cap at h3;omega,h4 (W2.mut p (.lst (vs++ [v])) hg) (.of e2 hg) ⟨hg,_,upd_same,(h2.same e2.g).snoc hv⟩⟩
def nxF {S:Type} (W:Wd) (Iv:S→Wd→St→Prop) (P:S→Prop):St→Hp→Prop:=fun σ' H'=>∃s' W',W'.H=H'∧Same W.G W'.G∧Iv s' W' σ'∧P s'
theorem forR_drop {S:Type} {f:α→S→Res S} {xs:List α} {i:Nat} {a:α} {s:S} (h:xs[i]? =some a):forR f (xs.drop i) s=(f a s).bind fun s=>forR f (xs.drop (i+1)) s:=by
  obtain⟨hi,e⟩:=List.getElem?_eq_some_iff.mp h
  rw[List.drop_eq_getElem_cons hi,e]
  rfl
theorem sv_for {S:Type} {wi:TI} {tb:TS} {R:Rp α} {m:Res (List α)} {f:α→S→Res S} {s0:S} {P:S→Prop} (Iv:S→Wd→St→Prop) (hi:IV Er wi σ W R m) (q:(m.bind fun xs=>forR f xs s0).OkE Er P)
    (h0:∀W1,Ext W W1→Iv s0 W1 σ)
    (hs:∀Wb W1 W2 a v s σ1 P',Same W.G W1.G→Same Wb.G W1.G→Iv s W1 σ1→Ext W1 W2→R W2.G a v→(f a s).OkE Er P'→g v σ1 W2.H fun σ2 H2=>tb {D with nx:=nxF Wb Iv P',ct:=nxF Wb Iv P',bk:=D.nx} σ2 H2)
    (hd:∀s W1 σ1,Same W.G W1.G→Iv s W1 σ1→P s→D.nx σ1 W1.H):tFor wi g tb D σ W.H:=by
  refine hi W (.refl _) _ ((Res.okE_bind q).imp fun xs kx J W1 e1 hy=>?_)
  refine⟨fun i n σ' H'=>n=xs.length- i∧i≤xs.length∧∃s' W',W'.H=H'∧Same W1.G W'.G∧Iv s' W' σ'∧(forR f (xs.drop i) s').OkE Er P,⟨xs.length,by simp,by simp,s0,W1,rfl,.refl _,h0 W1 e1,by simpa using kx⟩,?_⟩
  rintro i n σ1 H1 ⟨rfl,hi1,s,W2,rfl,e2,iv,k⟩
  by_cases hlt:i< xs.length
  · obtain⟨a,ha⟩:∃a,xs[i]? =some a:=⟨xs[i],by simp[hlt]⟩
    obtain⟨h1,h2⟩:=(hy W2 e2).1 i a ha
    refine .inr ⟨h1,nxF W1 Iv fun s'=>(forR f (xs.drop (i+1)) s').OkE Er P,fun σ' H' ⟨s',W',z1,z2,z3,z4⟩=>⟨xs.length- (i+1),by omega,rfl,hlt,s',W',z1,z2,z3,z4⟩,fun x H' hx=>?_⟩
    obtain⟨W3,rfl,e3,rx⟩:=h2 x H' hx
    rw[forR_drop ha]at k
    exact hs W1 W2 W3 a x s σ1 (fun s'=>(forR f (xs.drop (i+1)) s').OkE Er P) (e1.g.trans e2) e2 iv e3 rx (Res.okE_bind k)
  · have e:i=xs.length:=by omega
    subst e
    rw[List.drop_length]at k
    exact .inl ⟨(hy W2 e2).2,hd s W2 σ1 (e1.g.trans e2) iv k⟩
section
variable {r:TS}
theorem sv_asg_s {σ':V→St} {R:Rw α} {m:Res α} (h:EV Er te σ W R m) (q:m.OkE Er fun a=>∀v W',Ext W W'→R W' a v→r D (σ' v) W'.H) (hσ:∀v,σ.set i (some v)=σ' v:=by intro _;rfl):tSeq (tAsg te (gName i)) r D σ W.H:=sv_asg (D:={D with nx:=r D}) h q hσ
theorem sv_asgO_s {σ':Addr→St} {R:Rp α} {m:Res (List α)} (h:EVo Er te σ W R m) (q:m.OkE Er fun a=>∀p W',Ext W W'→W.H p=none→Ow R W' p a→r D (σ' p) W'.H) (hσ:∀p,σ.set i (some (.ref p))=σ' p:=by intro _;rfl):tSeq (tAsg te (gName i)) r D σ W.H:=sv_asgO (D:={D with nx:=r D}) h q hσ
theorem sv_unp_s {R:Rw α} {m:Res α} (h:EV Er te σ W R m) (q:m.OkE Er fun a=>∀v W',Ext W W'→R W' a v→g v σ W'.H (r D)):tSeq (tAsg te g) r D σ W.H:=h W (.refl _) _ q
theorem sv_if_s {c:TT} {m:Res Bool} (h:TV Er c σ W m) (q:m.OkE Er fun b=>∀W',Ext W W'→if b=true then t {D with nx:=r D} σ W'.H else u {D with nx:=r D} σ W'.H):tSeq (tIfS c t u) r D σ W.H:=h W (.refl _) _ q
theorem sv_ifj_s {S:Type} {c:TT} {m:Res Bool} {mA mB:Res S} {P:S→Prop} (Iv:S→Wd→St→Prop) (h:TV Er c σ W m) (q:(m.bind fun b=>if b then mA else mB).OkE Er P)
    (hA:∀W' (N:St→Hp→Prop),Ext W W'→(∀s W1 σ1,Same W.G W1.G→Iv s W1 σ1→P s→N σ1 W1.H)→mA.OkE Er P→t {D with nx:=N} σ W'.H)
    (hB:∀W' (N:St→Hp→Prop),Ext W W'→(∀s W1 σ1,Same W.G W1.G→Iv s W1 σ1→P s→N σ1 W1.H)→mB.OkE Er P→u {D with nx:=N} σ W'.H)
    (hd:∀s W1 σ1,Same W.G W1.G→Iv s W1 σ1→P s→r D σ1 W1.H):tSeq (tIfS c t u) r D σ W.H:=sv_ifj (D:={D with nx:=r D}) Iv h q hA hB hd
theorem sv_app_s {R:Rp α} [Mono R] {p:Addr} {xs:List α} {m:Res α} (o:Ow R W p xs) (h:EV Er te σ W (sh R) m) (q:(m.bind fun a=>appL xs a).OkE Er fun ys=>∀W',Mu W W' p→Ow R W' p ys→r D σ W'.H) (hi:σ[i]? =some (some (.ref p)):=by rfl):tSeq (tDrop (tBM K "list" rAppend (tVar i) (tCons te tNil))) r D σ W.H:=sv_app (D:={D with nx:=r D}) o h q hi
theorem sv_for_s {S:Type} {wi:TI} {tb:TS} {R:Rp α} {m:Res (List α)} {f:α→S→Res S} {s0:S} {P:S→Prop} (Iv:S→Wd→St→Prop) (hi:IV Er wi σ W R m) (q:(m.bind fun xs=>forR f xs s0).OkE Er P)
    (h0:∀W1,Ext W W1→Iv s0 W1 σ)
    (hs:∀Wb W1 W2 a v s σ1 P',Same W.G W1.G→Same Wb.G W1.G→Iv s W1 σ1→Ext W1 W2→R W2.G a v→(f a s).OkE Er P'→g v σ1 W2.H fun σ2 H2=>tb {D with nx:=nxF Wb Iv P',ct:=nxF Wb Iv P',bk:=r D} σ2 H2)
    (hd:∀s W1 σ1,Same W.G W1.G→Iv s W1 σ1→P s→r D σ1 W1.H):tSeq (tFor wi g tb) r D σ W.H:=sv_for (D:={D with nx:=r D}) Iv hi q h0 hs hd
end
theorem nxF_of {S:Type} {Wb W:Wd} {Iv:S→Wd→St→Prop} {P:S→Prop} (s:S) (hs:Same Wb.G W.G) (iv:Iv s W σ) (hq:P s):nxF Wb Iv P σ W.H:=⟨s,W,rfl,hs,iv,hq⟩
end
end Wb
namespace L2
open PySem PySem.Spec PyProof.Rows
end L2
namespace Wb
open PySem L2 Mi
variable {Er:Nat→Prop}
section
variable {α β γ δ:Type} {t ta tb tc:TE} {σ:St} {W W0 W':Wd} {K:PySem.W.Frag} {w:World}
theorem ev_powc {a n r:Int} (hc:0≤n∧n≤1000000∧a.natAbs< 2^64) (hr:a^n.toNat=r):EV Er (tOp (rI CPow fun i j=>.int (i^j.toNat)) (tC (.int a)) (tC (.int n))) σ W (sh isI) (.ok r):=fun W1 e1 Q k=>⟨a,n,rfl,rfl,hc,by show Q (.int (a^n.toNat)) W1.H;rw[hr];exact k _ W1 (.refl _) rfl⟩
def isScr (K:PySem.W.Frag):Rp (List Int):=fun H ns v=>∃a,v=.ref a∧SqL K H a (ns.map V.int)
instance zkeep17:Mono (isScr K):=⟨fun e ⟨a,h1,h2⟩=>⟨a,h1,e.seq h2⟩⟩
theorem ev_lenScr {ma:Res (List Int)} (ha:EV Er ta σ W (sh (isScr K)) ma):EV Er (tCB (fun xs H Q=>∃x n,xs=[x]∧LenV K x H n∧Q (.int n) H) (tCons ta tNil)) σ W (sh isI) (ma.bind fun a=>.ok (a.length:Int)):=fun W1 e1 Q k=>
  ha W1 e1 _ ((Res.okE_bind k).imp fun a ka x W2 e2 hx=>by
    obtain⟨p,rfl,h1⟩:=hx
    exact⟨_,a.length,rfl,.inl ⟨_,W2.ok.seq h1,by simp⟩,ka _ W2 e2 rfl⟩)
theorem ev_ixScr {ma:Res (List Int)} {mb:Res Int} (ha:EV Er ta σ W (sh (isScr K)) ma) (hb:EV Er tb σ W (sh isI) mb):EV Er (tOp (rIxL K) ta tb) σ W (sh isI) (ma.bind fun a=>mb.bind fun b=>ixL a b):=
  ev2 ha hb fun W a b x y Q hx hy k=>by
    cases hy
    obtain⟨p,rfl,h1⟩:=hx
    obtain⟨c,h4,h5⟩:=ofO_OkE k
    have lr:LR isI W.G a (a.map V.int):=⟨by simp,fun i v m e1 e2=>by rw[List.getElem?_map,e2]at e1;cases e1;rfl⟩
    obtain⟨z,h6,h7⟩:=atZ_rel lr h4
    exact⟨p,_,b,z,rfl,rfl,W.ok.seq h1,h6,h5 _ W (.refl _) h7⟩
theorem ev_intB {ma:Res Bool} (ha:EV Er ta σ W (sh isB) ma):EV Er (tCB (fun xs H Q=>(∃i,xs=[.int i]∧Q (.int i) H)∨∃k,xs=[.bl k]∧Q (.int (if k then 1 else 0)) H) (tCons ta tNil)) σ W (sh isI) (ma.bind fun a=>.ok (if a then(1:Int)else 0)):=fun W1 e1 Q k=>
  ha W1 e1 _ ((Res.okE_bind k).imp fun a ka x W2 e2 hx=>by cases hx;exact .inr ⟨a,rfl,ka _ W2 e2 rfl⟩)
def EqK (K:PySem.W.Frag) (H:Hp):Nat→V→V→Prop
  | 0,v,u=>v=u∧flat v=true
  | n + 1, v, u => (v = u ∧ flat v = true) ∨ ∃ p q xs ys, v = .ref p ∧ u = .ref q ∧ ((H p = some (.lst xs) ∧ H q = some (.lst ys)) ∨ (SqT K H p xs ∧ SqT K H q ys)) ∧ xs.length = ys.length ∧
      ∀(i:Nat) (x y:V),xs[i]? =some x→ys[i]? =some y→EqK K H n x y
theorem EqK.same {H H':Hp} (e:Same H H'):∀{n:Nat} {v u:V},EqK K H n v u→EqK K H' n v u
  | 0,_,_,h=>h
  | n + 1, _, _, h => by
    rcases h with h | ⟨p,q,xs,ys,h1,h2,h3,h4,h5⟩
    · exact .inl h
    · refine .inr ⟨p,q,xs,ys,h1,h2,?_,h4,fun i x y e1 e2=>EqK.same e (h5 i x y e1 e2)⟩
      rcases h3 with⟨a,b⟩ | ⟨a,b⟩
      · exact .inl ⟨e _ _ a,e _ _ b⟩
      · exact .inr ⟨Same.tup e a,Same.tup e b⟩
theorem EqK.flat {H:Hp} {n:Nat} {v:V} (h:L2.flat v=true):EqK K H n v v:=by cases n with | zero=>exact⟨rfl,h⟩ | succ n=>exact .inl ⟨rfl,h⟩
end
end Wb
namespace L2
open PySem PySem.Spec PyProof.Rows
section
variable {X:Cx} {K:PySem.W.Frag} {w:World} {o e:Expr} {to:TE} {t:TA} {apos cpos:Pos}
def rJoin (K:PySem.W.Frag):V→List V→Hp→VK→Prop:=fun x xs H Q=>∃(p:Addr) (ys:List (List Nat)),x=.str (sOf [])∧xs=[.ref p]∧SqL K H p (ys.map fun y=>V.str (sOf y))∧ys.flatten.length≤100000∧Q (.str (sOf ys.flatten)) H
abbrev Few (X:Cx) (cpos:Pos) (e:Expr):Prop:=((backTo cpos (starEach [e] X.env)).all (fun x=> !x.1) && (backToKw cpos (keywordEach [] X.env)).all (fun x=>x.1.isSome) && decide ([e].length+([]:List Keyword).length+(if([]:List Keyword).isEmpty then 0 else 1)< 30))=true
theorem pe_join1 (h:X.K=K) (ho:PE X o to) (ha:PA X [e] t) (hbase:attributeBase o "join" X.env (eval o X.env)=eval o X.env:=by rfl) (hfew:Few X cpos e:=by rfl) (hline:(apos.endLine == cpos.line)=true:=by rfl) (hs:starEach [e] X.env=(false,eval e X.env)::starEach [] X.env:=by rfl) (hplain:(backTo cpos (starEach [] X.env)).any (·.1)=false:=by rfl):
    PE X (.Call (.Attribute o "join" apos) [e] [] cpos) (tBM K "str" (rJoin K) to t):=pe_bmK (K:=K) h PySem.F.plainAttrs_str PySem.F.slot_str_join PySem.F.type_str_join (mt_joinK (K:=K) h) ho ha hbase hfew hline hs hplain
theorem pe_append1 (h:X.K=K) (ho:PE X o to) (ha:PA X [e] t) (hbase:attributeBase o "append" X.env (eval o X.env)=eval o X.env:=by rfl) (hfew:Few X cpos e:=by rfl) (hline:(apos.endLine == cpos.line)=true:=by rfl) (hs:starEach [e] X.env=(false,eval e X.env)::starEach [] X.env:=by rfl) (hplain:(backTo cpos (starEach [] X.env)).any (·.1)=false:=by rfl):
    PE X (.Call (.Attribute o "append" apos) [e] [] cpos) (tBM K "list" rAppend to t):=pe_bmK (K:=K) h PySem.F.plainAttrs_list PySem.F.slot_list_append PySem.F.type_list_append mt_append ho ha hbase hfew hline hs hplain
end
end L2
namespace Wb
open PySem L2 Mi
variable {Er:Nat→Prop}
end Wb
namespace Mi
theorem modR_ok {a b:Int} (h:0< b):modR a b=.ok (a% b):=must_ok h
theorem fdivR_ok {a b:Int} (h1:0< b) (h2:b< 1073741824):fdivR a b=.ok (a/ b):=must_ok ⟨h1,h2⟩
theorem mulR_okL {a b:Int} (h1: -18446744073709551616< a) (h2:a< 18446744073709551616):mulR a b=.ok (a*b):=must_ok (.inl ⟨h1,h2⟩)
theorem mulR_okR {a b:Int} (h1: -18446744073709551616< b) (h2:b< 18446744073709551616):mulR a b=.ok (a*b):=must_ok (.inr ⟨h1,h2⟩)
theorem appL_ok {α:Type} {xs:List α} {x:α} (h:xs.length< 100000):appL xs x=.ok (xs++ [x]):=must_ok h
theorem catS_ok {a b:Tx} (h:a.length+b.length≤100000):catS a b=.ok (a++b):=must_ok h
theorem lenS_ok {a:Tx} (h:a.length≤100000):lenS a=.ok (a.length:Int):=must_ok h
theorem repS_ok {c:Nat} {n:Int} (h0:0≤n) (h1:n≤100000):repS [c] n=.ok (List.replicate n.toNat c):=must_ok ⟨h0,h1⟩
theorem cutS_ok {a:Tx} {lo hi:Option Int} (h:a.length≤100000):cutS a lo hi=.ok (cut a lo hi):=must_ok h
theorem joinE_ok {xs:List Tx} (h:xs.flatten.length≤100000):joinE xs=.ok xs.flatten:=must_ok h
theorem rangeR_ok {n:Nat} (h:n≤100000):rangeR (n:Int)=.ok ((List.range n).map fun(i:Nat)=>(i:Int)):=by
  unfold rangeR;rw[must_ok ⟨by omega,by omega⟩];simp[rangeN]
theorem ixL_get {α:Type} {xs:List α} {i:Int} (h0:0≤i) (h1:i< xs.length):∃x,ixL xs i=.ok x∧xs[i.toNat]? =some x:=by
  obtain⟨h,e⟩:=atZ_of h0 h1
  exact⟨xs[i.toNat],by unfold ixL;rw[e];rfl,by simp[h]⟩
theorem ixS_get {x:Tx} {i:Int} (h0:0≤i) (h1:i< x.length) (h2:x.length≤100000):∃c,ixS x i=.ok [c]∧x[i.toNat]? =some c:=by
  obtain⟨h,e⟩:=atZ_of h0 h1
  refine⟨x[i.toNat],?_,by simp[h]⟩
  unfold ixS;rw[must_ok h2];show(ofO (atZ x i)).bind _=_;rw[e];rfl
theorem forR_inv {α S:Type} {f:α→S→Res S} (I:List α→S→Prop) (xs:List α) (s0:S) (h0:I [] s0) (step:∀pre a post s,xs=pre++a::post→I pre s→∃s',f a s=.ok s'∧I (pre++ [a]) s'):
    ∃s,forR f xs s0=.ok s∧I xs s:=by
  have key:∀(post pre:List α) (s:S),xs=pre++post→I pre s→∃s',forR f post s=.ok s'∧I xs s':=by
    intro post
    induction post with
    | nil=>intro pre s e h;rw[List.append_nil]at e;subst e;exact⟨s,rfl,h⟩
    | cons a r ih =>
      intro pre s e h
      obtain⟨s1,e1,h1⟩:=step pre a r s e h
      obtain⟨s2,e2,h2⟩:=ih (pre++ [a]) s1 (by rw[e];simp) h1
      exact⟨s2,by unfold forR;rw[e1];exact e2,h2⟩
  exact key xs [] s0 rfl h0
theorem compR_ex {α β:Type} {f:α→Res β} {P:α→β→Prop} {xs:List α} (hl:xs.length≤100000) (h:∀x∈xs,∃y,f x=.ok y∧P x y):∃ys,compR xs f=.ok ys∧ys.length=xs.length∧∀(i:Nat) x y,xs[i]? =some x→ys[i]? =some y→P x y:=by
  unfold compR
  rw[must_ok hl,Res.bind_ok']
  clear hl
  induction xs with
  | nil=>exact⟨[],rfl,rfl,fun i x y e=>by simp at e⟩
  | cons a r ih =>
    obtain⟨b,e,hb⟩:=h a (List.mem_cons_self ..)
    obtain⟨bs,e2,hl2,h2⟩:=ih fun x hx=>h x (List.mem_cons_of_mem _ hx)
    refine⟨b::bs,by unfold mapR;rw[e,Res.bind_ok',e2];rfl,by simp[hl2],fun i x y e3 e4=>?_⟩
    cases i with
    | zero=>cases e3;cases e4;exact hb
    | succ j=>exact h2 j x y e3 e4
theorem flat1 (l:List Nat):((l.map fun c=>[c]):List Tx).flatten=l:=by induction l with | nil=>rfl | cons a r ih=>simp[ih]
theorem cut_take {α:Type} (l:List α) (k:Nat):cut l none (some (k:Int))=l.take k:=by
  unfold cut sIx;simp only[]
  rw[if_neg (by omega),Int.toNat_natCast];simp[List.take_eq_take_iff]
theorem cut_drop {α:Type} (l:List α) (k:Nat):cut l (some (k:Int)) none=l.drop k:=by
  unfold cut sIx;simp only[]
  rw[if_neg (by omega),Int.toNat_natCast]
  by_cases h:k≤l.length
  · rw[Nat.min_eq_left h,List.take_of_length_le (by simp)]
  · rw[Nat.min_eq_right (by omega),List.drop_eq_nil_of_le (by omega),List.drop_eq_nil_of_le (by omega)];simp
theorem absI_nn (a:Int):0≤absI a:=by unfold absI;split <;> omega
section
variable {α β:Type} {P:α→Prop} {Q:β→Prop}
theorem okB {m:Res α} {f:α→Res β} (h:m.Ok fun a=>(f a).Ok Q):(m.bind f).Ok Q:=Res.bind_ok h
theorem okD {c:Prop} [Decidable c] {A B:Res α} (h1:c→A.Ok P) (h2:¬c→B.Ok P):(if decide c=true then A else B).Ok P:=by
  by_cases h:c
  · rw[decide_eq_true h];exact h1 h
  · rw[decide_eq_false h];exact h2 h
theorem okR {a:α} (h:P a):(Res.ok a).Ok P:=h
end
theorem cut_len {α:Type} (x:List α) (lo hi:Option Int):(cut x lo hi).length≤x.length:=by
  unfold cut;rw[List.length_take,List.length_drop];omega
end Mi
namespace L2
open PySem PySem.Spec PyProof.Rows Wb
end L2
namespace L2
open PySem PySem.Spec PyProof.Rows
end L2
namespace Wb
open PySem L2 Mi
variable {Er:Nat→Prop}
end Wb
namespace Mi
inductive Dat where
  | n | b (x:Bool) | i (x:Int) | s (x:Tx) | t (xs:List Dat) | l (xs:List Dat)
noncomputable instance zkeep38:DecidableEq Dat:=fun _ _=>Classical.propDecidable _
def Dat.le:Nat→Dat→Prop
  | 0,d=>match d with | .t _=>False | .l _=>False | _=>True
  | k+1,d=>match d with | .t xs=>∀x∈xs,Dat.le k x | .l xs=>∀x∈xs,Dat.le k x | _=>True
open Classical in
noncomputable def eqD (a b:Dat):Res Bool:=if a=b∧a.le 24 then .ok true else .stuck
theorem eqD_ok {a b:Dat} (h:a=b) (hl:a.le 24):eqD a b=.ok true:=if_pos ⟨h,hl⟩
def ixU (d:Dat) (i:Int):Res Dat:=match d with | .t xs=>ofO (atZ xs i) | _=>.stuck
def ofI:Dat→Option Int | .i x=>some x | _=>none
def ofT:Dat→Option Tx | .s x=>some x | _=>none
def ofLU:Dat→Option (List Dat) | .l x=>some x | _=>none
def optD {α:Type} (f:α→Dat) (o:Option α):Dat:=match o with | none=>.n | some a=>f a
def sameS (a b:Tx):Res Bool:=.ok (decide (a=b))
end Mi
namespace PySem
open Sem (wp)
open AutoSeq1 (wpAny_loadPart')
end PySem
namespace L2
open PySem PySem.Spec PyProof.Rows
end L2
namespace L2
end L2
namespace Wb
open PySem L2 Mi
variable {Er:Nat→Prop}
inductive isU (K:PySem.W.Frag) (H:Hp):Dat→V→Prop where
  | n:isU K H .n .non
  | b {x:Bool} :isU K H (.b x) (.bl x)
  | i {x:Int} :isU K H (.i x) (.int x)
  | s {x:Tx} :isU K H (.s x) (.str (sOf x))
  | t {p:Addr} {xs:List Dat} {vs:List V} (h:SqT K H p vs) (hl:vs.length=xs.length) (r:∀(j:Nat) x v,xs[j]? =some x→vs[j]? =some v→isU K H x v):isU K H (.t xs) (.ref p)
  | l {p:Addr} {xs:List Dat} {vs:List V} (h:H p=some (.lst vs)) (hl:vs.length=xs.length) (r:∀(j:Nat) x v,xs[j]? =some x→vs[j]? =some v→isU K H x v):isU K H (.l xs) (.ref p)
section
variable {α β γ δ:Type} {t t1 t2 t3 t4 ta tb tc td:TE} {σ:St} {W W0 W':Wd} {K:PySem.W.Frag} {w:World}
theorem isU.same {H H':Hp} {d:Dat} {v:V} (e:Same H H') (h:isU K H d v):isU K H' d v:=by
  induction h with
  | n=>exact .n
  | b=>exact .b
  | i=>exact .i
  | s=>exact .s
  | t h hl r ih=>exact .t (Same.tup e h) hl ih
  | l h hl r ih=>exact .l (e _ _ h) hl ih
instance zkeep39:Mono (isU K):=⟨fun e h=>isU.same e h⟩
theorem isU.eqk {H:Hp} :∀(n:Nat) (d:Dat) (v u:V),d.le n→isU K H d v→isU K H d u→EqK K H n v u:=by
  intro n
  induction n with
  | zero =>
    intro d v u hd h1 h2
    cases h1 with
    | n=>cases h2;exact .flat rfl
    | b=>cases h2;exact .flat rfl
    | i=>cases h2;exact .flat rfl
    | s=>cases h2;exact .flat rfl
    | t h hl r=>exact hd.elim
    | l h hl r=>exact hd.elim
  | succ n ih =>
    intro d v u hd h1 h2
    cases h1 with
    | n=>cases h2;exact .flat rfl
    | b=>cases h2;exact .flat rfl
    | i=>cases h2;exact .flat rfl
    | s=>cases h2;exact .flat rfl
    | @t p xs vs h hl r =>
      cases h2 with
      | @t q _ us h' hl' r' =>
        refine .inr ⟨p,q,vs,us,rfl,rfl,.inr ⟨h,h'⟩,by rw[hl,hl'],fun i x y e1 e2=>?_⟩
        have hi:i< xs.length:=by rw[←hl];exact(List.getElem?_eq_some_iff.mp e1).1
        have e3:xs[i]? =some xs[i]:=List.getElem?_eq_getElem hi
        exact ih xs[i] x y (hd _ (List.getElem_mem hi)) (r i _ x e3 e1) (r' i _ y e3 e2)
    | @l p xs vs h hl r =>
      cases h2 with
      | @l q _ us h' hl' r' =>
        refine .inr ⟨p,q,vs,us,rfl,rfl,.inl ⟨h,h'⟩,by rw[hl,hl'],fun i x y e1 e2=>?_⟩
        have hi:i< xs.length:=by rw[←hl];exact(List.getElem?_eq_some_iff.mp e1).1
        have e3:xs[i]? =some xs[i]:=List.getElem?_eq_getElem hi
        exact ih xs[i] x y (hd _ (List.getElem_mem hi)) (r i _ x e3 e1) (r' i _ y e3 e2)
def ToU (K:PySem.W.Frag) (R:Rp α) (u:α→Dat):Prop:=∀H a v,R H a v→isU K H (u a) v
theorem toU_i:ToU K isI .i:=fun _ _ _ h=>by cases h;exact .i
theorem toU_s:ToU K isS .s:=fun _ _ _ h=>by cases h;exact .s
theorem toU_u:ToU K (isU K) id:=fun _ _ _ h=>h
theorem toU_o {R:Rp α} {u:α→Dat} (h:ToU K R u):ToU K (isO R) (fun o=>optD u o):=fun H o v r=>by
  cases o with
  | none=>cases r;exact .n
  | some a=>exact h _ _ _ r.1
theorem toU_l {R:Rp α} {u:α→Dat} (h:ToU K R u):ToU K (isL R) (fun xs=>.l (xs.map u)):=fun H xs v ⟨p,vs,h0,h1,h2⟩=>by
  subst h0
  refine .l h1 (by rw[List.length_map,h2.1]) fun j x v e1 e2=>?_
  rw[List.getElem?_map]at e1
  obtain⟨a,ha,rfl⟩:=Option.map_eq_some_iff.mp e1
  exact h _ _ _ (h2.2 j v a e2 ha)
theorem toU_2 {R1:Rp α} {R2:Rp β} {u1:α→Dat} {u2:β→Dat} (h1:ToU K R1 u1) (h2:ToU K R2 u2):ToU K (isT2 K R1 R2) (fun x=>.t [u1 x.1,u2 x.2]):=fun H a v ⟨p,x,y,h0,h,r1,r2⟩=>by
  subst h0
  refine .t h rfl fun j d v e1 e2=>?_
  match j,e1,e2 with
  | 0,e1,e2=>cases e1;cases e2;exact h1 _ _ _ r1
  | 1,e1,e2=>cases e1;cases e2;exact h2 _ _ _ r2
theorem toU_3 {R1:Rp α} {R2:Rp β} {R3:Rp γ} {u1:α→Dat} {u2:β→Dat} {u3:γ→Dat} (h1:ToU K R1 u1) (h2:ToU K R2 u2) (h3:ToU K R3 u3):ToU K (isT3 K R1 R2 R3) (fun x=>.t [u1 x.1,u2 x.2.1,u3 x.2.2]):=fun H a v ⟨p,x,y,z,h0,h,r1,r2,r3⟩=>by
  subst h0
  refine .t h rfl fun j d v e1 e2=>?_
  match j,e1,e2 with
  | 0,e1,e2=>cases e1;cases e2;exact h1 _ _ _ r1
  | 1,e1,e2=>cases e1;cases e2;exact h2 _ _ _ r2
  | 2,e1,e2=>cases e1;cases e2;exact h3 _ _ _ r3
theorem ev_toU {R:Rp α} {u:α→Dat} {m:Res α} (h:ToU K R u) (e:EV Er t σ W (sh R) m):EV Er t σ W (sh (isU K)) (m.bind fun a=>.ok (u a)):=fun W1 e1 Q k=>
  e W1 e1 _ ((Res.okE_bind k).imp fun a ka v W2 e2 hv=>ka v W2 e2 (h _ _ _ hv))
def OfU (K:PySem.W.Frag) (R:Rp α) (f:Dat→Option α):Prop:=∀H d v a,isU K H d v→f d=some a→R H a v
theorem ofU_i:OfU K isI ofI:=fun _ _ _ _ h e=>by cases h <;> cases e;rfl
theorem ofU_s:OfU K isS ofT:=fun _ _ _ _ h e=>by cases h <;> cases e;rfl
theorem ofU_l:OfU K (isL (isU K)) ofLU:=fun _ _ _ _ h e=>by
  cases h with
  | @l p xs vs h hl r=>cases e;exact⟨p,vs,rfl,h,hl,fun i v m e1 e2=>r i m v e2 e1⟩
  | _=>cases e
theorem ev_ofU {R:Rp α} {f:Dat→Option α} {m:Res Dat} (h:OfU K R f) (e:EV Er t σ W (sh (isU K)) m):EV Er t σ W (sh R) (m.bind fun d=>ofO (f d)):=fun W1 e1 Q k=>
  e W1 e1 _ ((Res.okE_bind k).imp fun d kd v W2 e2 hv => by
    obtain⟨a,h1,h2⟩:=ofO_OkE kd
    exact h2 v W2 e2 (h _ _ _ _ hv h1))
theorem ev_ixU {ma:Res Dat} {mb:Res Int} (ha:EV Er ta σ W (sh (isU K)) ma) (hb:EV Er tb σ W (sh isI) mb):EV Er (tOp (rIxT K) ta tb) σ W (sh (isU K)) (ma.bind fun a=>mb.bind fun b=>ixU a b):=
  ev2 ha hb fun W a b x y Q hx hy k=>by
    cases hy
    unfold ixU at k
    cases hx with
    | @t p xs vs h hl r =>
      obtain⟨c,h4,h5⟩:=ofO_OkE k
      obtain⟨z,h6,h7⟩:=atZ_rel (R:=isU K) (H:=W.G) (as:=xs) (xs:=vs) ⟨hl,fun i v m e1 e2=>r i m v e2 e1⟩ h4
      exact⟨p,_,b,z,rfl,rfl,Same.tup W.ok h,h6,h5 _ W (.refl _) h7⟩
    | _=>exact k.elim
def spSame2 (K:PySem.W.Frag):Nat→Sp
  | 0=>fun _ _ _ _=>False
  | n+1=>fun vs H Q _=>∃v u,vs=[v,u]∧((EqK K H n v u∧∀H',Same H H'→Q (.bl true) H')∨∃x y,v=.str x∧u=.str y∧Q (.bl (decide (V.str x=V.str y))) H)
theorem ev_sameU {N:Nat} {E:XK} {ma mb:Res Dat} (hn:24< N) (ha:EV Er ta σ W (sh (isU K)) ma) (hb:EV Er tb σ W (sh (isU K)) mb):EV Er (tCall (spSame2 K N) [] E (tCons ta (tCons tb tNil))) σ W (sh isB) (ma.bind fun a=>mb.bind fun b=>eqD a b):=fun W1 e1 Q k=>
  ha W1 e1 _ ((Res.okE_bind k).imp fun a ka x W2 e2 hx=>hb W2 (e1.trans e2) _ ((Res.okE_bind ka).imp fun b kb y W3 e3 hy=>by
    unfold eqD at kb
    by_cases z:a=b∧a.le 24
    · rw[if_pos z]at kb
      obtain⟨z,hz⟩:=z
      subst z
      cases N with
      | zero=>omega
      | succ N =>
        have up:∀(m n:Nat) (d:Dat),n≤m→d.le n→d.le m:=by
          intro m
          induction m with
          | zero => intro n d h1 h2; have : n = 0 := by omega
                    subst this;exact h2
          | succ m ih =>
            intro n d h1 h2
            cases n with
            | zero => cases d with
              | t xs=>exact h2.elim
              | l xs=>exact h2.elim
              | _=>trivial
            | succ n => cases d with
              | t xs=>exact fun x hx=>ih n x (by omega) (h2 x hx)
              | l xs=>exact fun x hx=>ih n x (by omega) (h2 x hx)
              | _=>trivial
        refine⟨x,y,rfl,.inl ⟨isU.eqk N a x y (up N 24 a (by omega) hz) (isU.same W3.ok (isU.same e3.g hx)) (isU.same W3.ok hy),fun H' hs=>?_⟩⟩
        exact kb (.bl true) ⟨W3.G,H',W3.ok.trans hs⟩ ⟨e2.g.trans e3.g,(e2.h.trans e3.h).trans hs,fun p hp=>(e2.trans e3).k p hp⟩ rfl
    · rw[if_neg z]at kb;exact kb.elim))
theorem ev_sameS {N:Nat} {E:XK} {ma mb:Res Tx} (hn:0< N) (ha:EV Er ta σ W (sh isS) ma) (hb:EV Er tb σ W (sh isS) mb):EV Er (tCall (spSame2 K N) [] E (tCons ta (tCons tb tNil))) σ W (sh isB) (ma.bind fun a=>mb.bind fun b=>sameS a b):=fun W1 e1 Q k=>
  ha W1 e1 _ ((Res.okE_bind k).imp fun a ka x W2 e2 hx=>hb W2 (e1.trans e2) _ ((Res.okE_bind ka).imp fun b kb y W3 e3 hy=>by
    cases hx;cases hy
    cases N with
    | zero=>omega
    | succ N=>exact⟨_,_,rfl,.inr ⟨_,_,rfl,rfl,by rw[dS];exact kb _ W3 (e2.trans e3) rfl⟩⟩))
theorem sv_augI {D:Ends} {i:Nat} {te:TE} {a:Int} {m:Res Int} {f:Int→Int→Int} {σ':Int→St} (h:EV Er te σ W (sh isI) m) (q:m.OkE Er fun b=>∀W',Ext W W'→D.nx (σ' (f a b)) W'.H) (hi:σ[i]? =some (some (.int a)):=by rfl) (hσ:∀c,σ.set i (some (.int c))=σ' c:=by intro _;rfl):tAug i te (ipI f) D σ W.H:=
  ⟨.int a,hi,h W (.refl _) _ (q.imp fun b kb v W' e hv=>by cases hv;exact⟨a,b,rfl,rfl,by have:=kb W' e;rw[←hσ]at this;exact this⟩)⟩
end
end Wb
namespace Mi
def kindN:List Tx:=[[66,97,100,84,97,98,108,101,116],[66,97,100,82,111,119],[66,97,100,84,101,120,116],[66,97,100,77,97,114,107],[84,111,111,76,111,110,103],[84,111,111,84,105,103,104,116],[83,112,111,111,108,68,114,121],[78,111,84,97,98,108,101,116],[78,111,116,104,105,110,103,76,101,102,116],[85,110,108,105,107,101],[83,101,101,110,84,104,114,101,97,100],[78,111,83,117,99,104,87,97,121],[66,97,114,114,101,100]]
def refD (s:Tx) (j:Nat):Dat:=.t [.s s,.l [.s (kindN.getD j [])]]
def numT (i:Int):Tx:=(toString i).toList.map Char.toNat
def fmtI (i:Int):Res Tx:=must (i.natAbs.log2< 1920) (numT i)
def capS (x:Tx):Res Tx:=must (x.length≤cap) x
end Mi
namespace L2
open PySem PySem.Spec PyProof.Rows
theorem dict_mapF {f:Array Value→Array Value} {o:Obj} :(Obj.mapFields f o).dict=o.dict:=by
  unfold Obj.mapFields
  split <;> rfl
structure Fly (h:Heap) (H:Hp) (lim:Heap) (e C:Addr):Prop where
  he:H e=none
  hl:lim.get? e=none
  ob:∃(oe:Obj) (vs:Array Value),h.get? e=some oe∧(oe.cls=.ref C∧oe.dict=none)∧oe.data=.fields vs∧vs[2]? =some .none∧
    (vs[1]? =some .none∨∃(T:Addr) (oT:Obj) (ts:Array Value),vs[1]? =some (.ref T)∧T≠e∧H T=none∧lim.get? T=none∧h.get? T=some oT∧oT.data=.fields ts∧ts[3]? =some .none)
structure Gone (fs:List Addr) (H:Hp) (lim:Heap) (e:Addr) (h h':Heap):Prop where
  keep:∀b o,h.get? b=some o→b∉fs→b≠e→(H b≠none∨lim.get? b≠none)→h'.get? b=some o
  slot:∀b o,h.get? b=some o→b∈fs→∃sl,h'.get? b=some {o with slots:=sl}
  there:∀b o,h.get? b=some o→∃o',h'.get? b=some o'
theorem Gone.trans {fs:List Addr} {H:Hp} {lim:Heap} {e:Addr} {h h1 h2:Heap} (a:Gone fs H lim e h h1) (b:Gone fs H lim e h1 h2):Gone fs H lim e h h2:=
  ⟨fun c o q n m k=>b.keep c o (a.keep c o q n m k) n m k,fun c o q n=>by
    obtain⟨sl,z⟩:=a.slot c o q n
    obtain⟨sl',z'⟩:=b.slot c _ z n
    exact⟨sl',z'⟩,fun c o q=>by
    obtain⟨o',z⟩:=a.there c o q
    exact b.there c o' z⟩
section
variable {M:Model} {A:Around} {E:Value→Shared→Prop} {s:Shared} {base lim:Heap} {H:Hp} {env:Env} {outer:List Env} {L e C:Addr}
abbrev trc (head:Value) (L:Addr) (pl:List Value):Obj:={cls:=.type "traceback",dict:=none,data:=.fields ([head,.ref L,.none,rawInt L,.none]++(if pl.isEmpty then List.replicate 6 Value.none else pl)).toArray}
theorem entry_x {head:Value} {hn:Bool} {oe:Obj} {vs:Array Value} {Q:Unit→Shared→Prop} (hfr:A.frames=some (env::outer)) (hfn:s.heap.FunFrames base (env::outer)) (hf:env.frame=some L)
    (he:s.heap.get? e=some oe) (hd:oe.data=.fields vs) (hc:oe.cls=.ref C∧oe.dict=none) (h2:vs[2]? =some .none) (hH:H e=none) (hlm:lim.get? e=none)
    (hfree:∀b,s.heap.objs.size≤b→H b=none∧lim.get? b=none)
    (h:∀h',Gone (frs (env::outer)) H lim e s.heap h'→Fly h' H lim e C→Q () {s with heap:=h'}):
    wpAny M A (do let a ←frameOf env;let pl ←entryPlaceOf L hn;let b ←EntryCells.newEntry head a .none (rawInt L) .none pl;setField (.ref e) 1 b) (fun _ s'=>wpAny M A (setFlight (.ref e) none) Q E s') E s:=by
  have hsz:1< vs.size:=by have:=(Array.getElem?_eq_some_iff.mp h2).1;omega
  have nfr:e∉(env::outer).filterMap (·.frame):=fun hm=>by
    obtain⟨_,o,ho,hnf⟩:=hfn.mem hm
    rw[he]at ho
    exact hnf vs (by rw[←Option.some.inj ho];exact hd)
  refine wpAny_bind (wpAny_frameOf_fun hfr hfn hf fun h1 hs1=>?_)
  refine wpAny_bind (wpAny_entryPlaceOf fun pl hpl=>?_)
  unfold EntryCells.newEntry newFields
  refine wpAny_bind (wpAny_newObj_type ?_ (hpl.sizeOk5 _ _ _ _ _))
  have g1:h1.get? e=some oe:=(hs1.2.1 e nfr).trans he
  have g2:(h1.push (trc head L pl)).get? e=some oe:=Heap.get?_push_of_some _ g1
  refine wpAny_setField g2 hd hsz ?_
  have ne:h1.objs.size≠e:=Nat.ne_of_gt (Heap.lt_size g1)
  have d3:=Obj.data_mapFields hd (·.setIfInBounds 1 (Value.ref h1.objs.size))
  have g3:=Heap.get?_update_self (Obj.mapFields (·.setIfInBounds 1 (Value.ref h1.objs.size))) g2 (Obj.isFreed_of_fields d3)
  have gT:=(Heap.get?_update_other (h1.push (trc head L pl)) (Obj.mapFields (·.setIfInBounds 1 (Value.ref h1.objs.size))) (Ne.symm ne)).trans (Heap.get?_push_size h1 rfl)
  unfold setFlight
  refine wpAny_bind (wpAny_field g3 d3 (x:=.ref h1.objs.size) (by simp[hsz]) ?_)
  rw[if_pos (show(Value.ref h1.objs.size != Value.none)=true from by simp)]
  refine wpAny_setField gT rfl (by simp only[List.size_toArray,List.length_append,List.length_cons,List.length_nil] <;> omega) ?_
  have keep1:∀b o,b≠e→h1.get? b=some o→(((h1.push (trc head L pl)).update e (Obj.mapFields (·.setIfInBounds 1 (Value.ref h1.objs.size)))).update h1.objs.size (Obj.mapFields (·.setIfInBounds 3 ((none:Option Addr).elim Value.none fun f=>rawInt f)))).get? b=some o:=fun b o hb hq=>by
    rw[Heap.get?_update_other _ _ (Nat.ne_of_gt (Heap.lt_size hq)),Heap.get?_update_other _ _ (Ne.symm hb)]
    exact Heap.get?_push_of_some _ hq
  have ge:(((h1.push (trc head L pl)).update e (Obj.mapFields (·.setIfInBounds 1 (Value.ref h1.objs.size)))).update h1.objs.size (Obj.mapFields (·.setIfInBounds 3 ((none:Option Addr).elim Value.none fun f=>rawInt f)))).get? e=some (Obj.mapFields (·.setIfInBounds 1 (Value.ref h1.objs.size)) oe):=by
    rw[Heap.get?_update_other _ _ ne];exact g3
  have big:s.heap.objs.size≤h1.objs.size:=hs1.1▸Nat.le_refl _
  refine h _ ⟨fun b o q n m _=>keep1 b o m ((hs1.2.1 b n).trans q),fun b o q n=>?_,fun b o q=>?_⟩ ⟨hH,hlm,_,_,ge,⟨by rw[Obj.cls_mapFields];exact hc.1,by rw[dict_mapF];exact hc.2⟩,d3,by rw[Array.getElem?_setIfInBounds_ne (by decide)];exact h2,.inr ⟨h1.objs.size,_,_,by simp[hsz],ne,(hfree _ big).1,(hfree _ big).2,Heap.get?_update_self _ gT (Obj.isFreed_of_fields (Obj.data_mapFields rfl _)),Obj.data_mapFields rfl _,?_⟩⟩
  · obtain⟨sl,z⟩:=hs1.2.2 b o q
    exact⟨sl,keep1 b _ (fun y=>nfr (y▸n)) z⟩
  · by_cases y:b=e
    · rw[y];exact⟨_,ge⟩
    · obtain⟨sl,z⟩:=hs1.2.2 b o q
      exact⟨_,keep1 b _ y z⟩
  · first | (simp;done) | (rcases hpl with rfl | ⟨_,_,_,_,_,_,_,rfl⟩ <;> simp)
theorem noted_x {Q:Unit→Shared→Prop} (hfr:A.frames=some (env::outer)) (hfn:s.heap.FunFrames base (env::outer)) (hf:env.frame=some L) (x:Fly s.heap H lim e C)
    (hfree:∀b,s.heap.objs.size≤b→H b=none∧lim.get? b=none)
    (h:∀h',Gone (frs (env::outer)) H lim e s.heap h'→Fly h' H lim e C→Q () {s with heap:=h'}):wpAny M A (noteFrame (.ref e) env) (fun _ s'=>wpAny M A (setFlight (.ref e) none) Q E s') E s:=by
  obtain⟨hH,hlm,oe,vs,he,hc,hd,h2,h1⟩:=x
  unfold noteFrame
  simp only[hf]
  rcases h1 with h1 | ⟨T,oT,ts,h1,hTe,hT0,hTl,hT,hdT,h3⟩
  · refine wpAny_bind (wpAny_field he hd h1 ?_)
    rw[if_neg (by decide)]
    exact entry_x hfr hfn hf he hd hc h2 hH hlm hfree h
  · refine wpAny_bind (wpAny_field he hd h1 ?_)
    rw[if_pos (show(Value.ref T != Value.none)=true from by simp)]
    refine wpAny_bind (wpAny_field hT hdT h3 ?_)
    rw[if_neg (show ¬((Value.none == rawInt L)=true)from by simp[rawInt])]
    refine wpAny_bind (wpAny_setField hT hdT (Array.getElem?_eq_some_iff.mp h3).1 ?_)
    have other:∀b,b≠T→(s.heap.update T (Obj.mapFields (·.setIfInBounds 3 Value.none))).get? b=s.heap.get? b:=fun b hb=>Heap.get?_update_other _ _ (Ne.symm hb)
    have nT:∀b o,s.heap.get? b=some o→(∀vs,o.data≠.fields vs)→b≠T:=fun b o q hn z=>by
      rw[z,hT]at q
      exact hn ts (by rw[←Option.some.inj q];exact hdT)
    have g0:Gone (frs (env::outer)) H lim e s.heap (s.heap.update T (Obj.mapFields (·.setIfInBounds 3 Value.none))):=⟨fun b o q n m k=>(other b fun z=>by
        rw[z,hT0,hTl]at k
        rcases k with k | k <;> exact k rfl).trans q,fun b o q n=>⟨o.slots,(other b (by
        obtain⟨_,o',ho,hnf⟩:=hfn.mem n
        exact nT b o' ho hnf)).trans q⟩,fun b o q=>by
        by_cases z:b=T
        · rw[z];exact⟨_,Heap.get?_update_self _ hT (Obj.isFreed_of_fields (Obj.data_mapFields hdT _))⟩
        · exact⟨o,(other b z).trans q⟩⟩
    have sz:(s.heap.update T (Obj.mapFields (·.setIfInBounds 3 Value.none))).objs.size=s.heap.objs.size:=Heap.size_update ..
    refine entry_x (s:={s with heap:=s.heap.update T (Obj.mapFields (·.setIfInBounds 3 Value.none))}) hfr (hfn.of_keeps fun b o q hn=>⟨o,(other b (nT b o q hn)).trans q,rfl⟩) hf ((other e (Ne.symm hTe)).trans he) hd hc h2 hH hlm (fun b hb=>hfree b (by rw[←sz];exact hb)) fun h' g1 f1=>h h' (g0.trans g1) f1
theorem leaving_x {Q:Unit→Shared→Prop} (hfr:A.frames=some (env::outer)) (hfn:s.heap.FunFrames base (env::outer)) (hf:env.frame=some L) (x:Fly s.heap H lim e C)
    (hfree:∀b,s.heap.objs.size≤b→H b=none∧lim.get? b=none)
    (h:∀h',Gone (frs (env::outer)) H lim e s.heap h'→Fly h' H lim e C→Q () {s with heap:=h'}):wpAny M A (leaving env (.ref e)) Q E s:=by
  unfold leaving
  exact wpAny_bind (noted_x hfr hfn hf x hfree h)
theorem flight_x {Q:Unit→Shared→Prop} (hfn:s.heap.FunFrames base (env::outer)) (x:Fly s.heap H lim e C)
    (h:∀h',Gone (frs (env::outer)) H lim e s.heap h'→Fly h' H lim e C→Q () {s with heap:=h'}):wpAny M A (setFlight (.ref e) none) Q E s:=by
  obtain⟨hH,hlm,oe,vs,he,hc,hd,h2,h1⟩:=x
  unfold setFlight
  rcases h1 with h1 | ⟨T,oT,ts,h1,hTe,hT0,hTl,hT,hdT,h3⟩
  · refine wpAny_bind (wpAny_field he hd h1 ?_)
    rw[if_neg (by decide)]
    exact wpAny_pure (h s.heap ⟨fun b o q _ _ _=>q,fun b o q _=>⟨o.slots,q⟩,fun b o q=>⟨o,q⟩⟩ ⟨hH,hlm,oe,vs,he,hc,hd,h2,.inl h1⟩)
  · refine wpAny_bind (wpAny_field he hd h1 ?_)
    rw[if_pos (show(Value.ref T != Value.none)=true from by simp)]
    refine wpAny_setField hT hdT (Array.getElem?_eq_some_iff.mp h3).1 ?_
    have other:∀b,b≠T→(s.heap.update T (Obj.mapFields (·.setIfInBounds 3 ((none:Option Addr).elim Value.none fun f=>rawInt f)))).get? b=s.heap.get? b:=fun b hb=>Heap.get?_update_other _ _ (Ne.symm hb)
    have gT:=Heap.get?_update_self (Obj.mapFields (·.setIfInBounds 3 ((none:Option Addr).elim Value.none fun f=>rawInt f))) hT (Obj.isFreed_of_fields (Obj.data_mapFields hdT _))
    refine h _ ⟨fun b o q n m k=>(other b fun z=>by
        rw[z,hT0,hTl]at k
        rcases k with k | k <;> exact k rfl).trans q,fun b o q n=>⟨o.slots,(other b (by
        obtain⟨_,o',ho,hnf⟩:=hfn.mem n
        intro z
        rw[z,hT]at ho
        exact hnf ts (by rw[←Option.some.inj ho];exact hdT))).trans q⟩,fun b o q=>by
        by_cases z:b=T
        · rw[z];exact⟨_,gT⟩
        · exact⟨o,(other b z).trans q⟩⟩ ⟨hH,hlm,oe,vs,(other e (Ne.symm hTe)).trans he,hc,hd,h2,.inr ⟨T,_,_,h1,hTe,hT0,hTl,gT,Obj.data_mapFields hdT _,?_⟩⟩
    have:=(Array.getElem?_eq_some_iff.mp h3).1
    simp[this]
end
end L2
namespace L2
open PySem PySem.Spec PyProof.Rows
def CXR (P:Program) (w:World):CXT:=fun outer H s E e s'=>∃(x C:Addr) (H':Hp),e=.ref x∧Fly s'.heap H' s.heap x C∧s'.os=s.os∧AllBare s'.gens∧Un (frs outer) [] H H' s.heap s'.heap∧HOk P w H' s'.heap∧E e (some C) H'
theorem Fly.lim {h l1 l2:Heap} {H:Hp} {e C:Addr} (f:Fly h H l1 e C) (k:∀b,l1.get? b=none→l2.get? b=none):Fly h H l2 e C:=by
  obtain⟨a,b,oe,vs,h1,h2,h3,h4,h5⟩:=f
  refine⟨a,k _ b,oe,vs,h1,h2,h3,h4,h5.imp id fun⟨T,oT,ts,q1,q2,q3,q4,q5⟩=>⟨T,oT,ts,q1,q2,q3,k _ q4,q5⟩⟩
section
variable {P:Program} {w:World} {K:PySem.W.Frag} {mg:Str→Option Value} {base:Heap} {N:List Str} {qual:Str} {scope:Scope} {f:Addr} {cd:Value} {A:Around} {outer:List Env} {s0 s:Shared} {H0 H:Hp} {E:XK} {pins:List (Addr×Obj)} {σ:St} {e C:Addr}
abbrev cxR (P:Program) (w:World) (K:PySem.W.Frag) (mg:Str→Option Value) (base:Heap) (N:List Str) (qual:Str) (scope:Scope) (f:Addr) (cd:Value) (A:Around) (outer:List Env) (s0:Shared) (H0:Hp) (E:XK):Cx:=cxOf (CXR P w) P w K mg base N qual scope f cd A outer s0 H0 E
theorem flies (I:Inv (cxR P w K mg base N qual scope f cd A outer s0 H0 E) pins σ H s) (x:Fly s.heap H s0.heap e C) (q:E (.ref e) (some C) H):(cxR P w K mg base N qual scope f cd A outer s0 H0 E).xe (.ref e) s:=by
  have hsz:s0.heap.objs.size≤s.heap.objs.size:=I.sz
  have hfree:∀b,s.heap.objs.size≤b→H b=none∧s0.heap.get? b=none:=fun b hb=>⟨I.hok.fresh hb,Heap.get?_none_of_le (Nat.le_trans hsz hb)⟩
  refine leaving_x (base:=base) (env:=envOfC qual scope s0.heap.objs.size f cd) (outer:=outer) (L:=s0.heap.objs.size) (H:=H) (lim:=s0.heap) I.ok.frames I.stack rfl x hfree fun h' g fl=>?_
  have stk:∀b,b∈frs (envOfC qual scope s0.heap.objs.size f cd::outer)→H b=none:=I.stkFree
  have low:∀b o,s0.heap.get? b=some o→b∉frs outer→b∉frs (envOfC qual scope s0.heap.objs.size f cd::outer):=fun b o q n m=>by
    have:b=s0.heap.objs.size∨b∈frs outer:=List.mem_cons.mp (show b∈s0.heap.objs.size::frs outer from m)
    rcases this with z | z
    · have:=Heap.lt_size q;rw[z]at this;exact Nat.lt_irrefl _ this
    · exact n z
  have sub:∀b,b∈frs outer→b∈frs (envOfC qual scope s0.heap.objs.size f cd::outer):=fun b m=>by
    show b∈s0.heap.objs.size::frs outer
    exact List.mem_cons_of_mem _ m
  have ne0:∀b o,s0.heap.get? b=some o→b≠e:=fun b o q z=>by rw[z,x.hl]at q;cases q
  have U:=I.base
  refine⟨e,C,H,rfl,fl,I.os,I.bare,⟨fun b o q1 n hb hx=>g.keep b o (U.keep b o q1 n hb hx) (low b o q1 hb) (ne0 b o q1) (.inr (by rw[q1];exact fun z=>nomatch z)),fun b o q1 n hb hx=>?_,U.free,fun b o q1 hx=>?_,U.tups,U.frzs,U.tbls⟩,fun b u hb=>?_,q⟩
  · obtain⟨sl,z⟩:=U.slot b o q1 n hb hx
    obtain⟨sl',z'⟩:=g.slot b _ z (sub b hb)
    exact⟨sl',z'⟩
  · obtain⟨o',z⟩:=U.there b o q1 hx
    exact g.there b o' z
  · refine(I.hok b u hb).stay (fun c v hc q1=>?_) (fun _ q1=>q1) fun _ _ q1=>q1
    have hn:H c≠none:=by
      rcases hc with z | z
      · rw[z,hb];exact fun z=>nomatch z
      · rw[z];exact fun z=>nomatch z
    exact g.keep c v q1 (fun m=>hn (stk c m)) (fun z=>hn (by rw[z];exact x.he)) (.inl hn)
theorem passR:Passes (CXR P w) (cxR P w K mg base N qual scope f cd A outer s0 H0 E) E:=fun pins σ H s e s' I ⟨x,C,H',he,fl,os,bare,un,hok,q⟩=>by
  subst he
  have I':=I.call' os un hok bare fun b z=>absurd z (by simp)
  refine flies I' (fl.lim fun b hb=>?_) q
  cases z:s0.heap.get? b with
  | none=>rfl
  | some o =>
    obtain⟨o',z'⟩:=I.base.there b o z (by simp[cxOf])
    rw[hb]at z';cases z'
end
end L2
namespace L2
open PySem PySem.Spec PyProof.Rows
theorem ObjOk.ex {P:Program} {w:World} {H:Hp} {h:Heap} {a:Addr} :∀{o:HO},ObjOk P w H h a o→∃ob,h.get? a=some ob:=by
  intro o
  induction o with
  | lst xs=>intro x;obtain⟨_,its,n,r,e⟩:=x;exact⟨_,e⟩
  | tup xs=>intro x;obtain⟨_,its,r,ob,e,c⟩:=x;exact⟨_,e⟩
  | dK kvs=>intro x;obtain⟨_,_,vs,r,ob,es,ep,e,c⟩:=x;exact⟨_,e⟩
  | dT kvs=>intro x;obtain⟨_,_,xs,r,ob,es,ep,e,c⟩:=x;exact⟨_,e⟩
  | set S n=>intro x;obtain⟨o,e,_⟩:=Heap.SetOf.objOf x;exact⟨_,e⟩
  | ins C dx fs=>intro x;obtain⟨_,_,_,e,_⟩:=x;exact⟨_,e⟩
  | own y=>intro x;exact x
  | xd fs=>intro x;obtain⟨mA,hn,_⟩:=x;obtain⟨o,es,ep,e,_⟩:=hn;exact⟨_,e⟩
  | rng lo hi=>intro x;obtain⟨t,u,v,e⟩:=x;exact⟨_,e⟩
  | frz o u=>intro x;exact⟨_,x.1⟩
  | tbl ps=>intro x;exact⟨_,x⟩
  | met f y=>intro x;exact⟨_,x⟩
  | ext φ=>intro x;exact x.2.1
def Ecl (h:Heap) (C:Addr):Prop:=∃nm q N bs bm hdct sn sub ab col dd k0 k1 k2 k3 k5 newId mN B initId bmB,h.get? C=some (excClassObj nm q C N bs bm hdct sn sub ab col dd k0 k1 k2 k3 k5 newId)∧h.Ns N mN∧mN "__init__" =none∧OwnTail h bmB bm∧ExcBaseFacts B newId initId bmB
def tRaise (E:XK) (C:Addr) (t:TA):TS:=fun _ σ H=>t σ H fun vs H1=>vs.length≤sizeLine∧∀x,H1 x=none→E (.ref x) (some C) H1
section
variable {P:Program} {w:World} {K:PySem.W.Frag} {mg:Str→Option Value} {base:Heap} {N:List Str} {qual:Str} {scope:Scope} {f:Addr} {cd:Value} {A:Around} {outer:List Env} {s0:Shared} {H0:Hp} {E:XK} {C:Addr}
theorem ps_raise {x:Str} {np cpos pos:Pos} {e:Expr} {es:List Expr} {t:TA} (cl:Ecl base C) (hg:Gl (cxR P w K mg base N qual scope f cd A outer s0 H0 E) x) (hm:mg x=some (.ref C)) (ha:PA (cxR P w K mg base N qual scope f cd A outer s0 H0 E) (e::es) t)
    (hdb:(x == ("__debug__" :Str))=false:=by decide) (he:starEach (e::es) (cxR P w K mg base N qual scope f cd A outer s0 H0 E).env=(false,eval e (cxR P w K mg base N qual scope f cd A outer s0 H0 E).env)::starEach es (cxR P w K mg base N qual scope f cd A outer s0 H0 E).env:=by rfl) (hpl:(backTo cpos (starEach es (cxR P w K mg base N qual scope f cd A outer s0 H0 E).env)).any (·.1)=false:=by rfl):
    PS (cxR P w K mg base N qual scope f cd A outer s0 H0 E) (.Raise (some (.Call (.Name x np) (e::es) [] cpos)) none pos) (tRaise E C t):=by
  intro pins s σ H D I h
  obtain⟨nm,q,Nn,bs,bm,hdct,sn,sub,ab,col,dd,k0,k1,k2,k3,k5,newId,mN,B,initId,bmB,hC,hN,hni,T,F⟩:=cl
  refine wpAny_Raise_call_subT (C:=C) (nm:=nm) (q:=q) (N:=Nn) (bs:=bs) (bm:=bm) (hdct:=hdct) (sn:=sn) (sub:=sub) (ab:=ab) (col:=col) (dd:=dd) (k0:=k0) (k1:=k1) (k2:=k2) (k3:=k3) (k5:=k5) F (mN:=mN) (T.hasType F.hasBase) (I.ok.hd rfl) (by rw[he];show(false || (backTo cpos (starEach es _)).any (·.1))=false;rw[hpl];rfl) hni (ld_glob I hg hm ⟨rfl,?_⟩ hdb)
  rw[he]
  refine Calls.evalArgs_plain ?_
  show wpAny _ _ (spliced (backTo cpos ((false,eval e (cxR P w K mg base N qual scope f cd A outer s0 H0 E).env)::starEach es (cxR P w K mg base N qual scope f cd A outer s0 H0 E).env))) _ _ _
  rw[←he]
  refine thn (ha cpos pins s σ H _ I h) fun us s1 ⟨vs,H1,I1,r,hz,q1⟩=>⟨rfl,by rw[←r.length];exact hz,I1.bk _ _ hC,hN.keeps I1.bk,T.keeps I1.bk,fun h' y hy=>?_⟩
  obtain⟨t0,h1,h2,h3⟩:=hy.there
  have I2:Inv (cxR P w K mg base N qual scope f cd A outer s0 H0 E) pins σ H1 {s1 with heap:=h'} :=I1.kept (t':=s1.toks) hy.keeps
  have n1:H1 y=none:=by
    cases z:H1 y with
    | none=>rfl
    | some o=>obtain⟨ob,hb⟩:=(I1.hok y o z).ex;rw[hy.new]at hb;cases hb
  have n2:s0.heap.get? y=none:=by
    cases z:s0.heap.get? y with
    | none=>rfl
    | some o=>obtain⟨ob,hb⟩:=I1.base.there y o z (by simp[cxOf]);rw[hy.new]at hb;cases hb
  exact flies I2 ⟨n1,n2,_,_,h1,⟨rfl,rfl⟩,rfl,rfl,.inl rfl⟩ (q1 y n1)
end
end L2
namespace L2
open PySem PySem.Spec PyProof.Rows
def Xcl (h:Heap) (C:Addr) (bm:List Value):Prop:=∃nm q N bs hdct sn sub ab col dd k0 k1 k2 k3 k5 newId,h.get? C=some (excClassObj nm q C N bs bm hdct sn sub ab col dd k0 k1 k2 k3 k5 newId)∧bm.contains (.type "BaseException")=true
theorem Xcl.keeps {h h':Heap} {C:Addr} {bm:List Value} (x:Xcl h C bm) (k:∀b o,h.get? b=some o→h'.get? b=some o):Xcl h' C bm:=by
  obtain⟨nm,q,N,bs,hdct,sn,sub,ab,col,dd,k0,k1,k2,k3,k5,newId,e,hb⟩:=x
  exact⟨nm,q,N,bs,hdct,sn,sub,ab,col,dd,k0,k1,k2,k3,k5,newId,k _ _ e,hb⟩
section
variable {M:Model} {A:Around} {E:Value→Shared→Prop}
theorem excMatches_up {s:Shared} {e C D:Addr} {bmC bmD:List Value} {oe:Obj} {Q:Bool→Shared→Prop} (hC:Xcl s.heap C bmC) (hD:Xcl s.heap D bmD) (he:s.heap.get? e=some oe) (hcls:oe.cls=.ref C) (hq:Q ((Value.ref C::bmC).contains (.ref D)) s):wpAny M A (excMatches (.ref e) (.ref D)) Q E s:=by
  obtain⟨h,g,d,t,os⟩:=s
  obtain⟨nm,q,N,bs,hdct,sn,sub,ab,col,dd,k0,k1,k2,k3,k5,newId,hC,hbase⟩:=hC
  obtain⟨nm',q',N',bs',hdct',sn',sub',ab',col',dd',k0',k1',k2',k3',k5',newId',hD,hbase'⟩:=hD
  have hcB:(Value.ref D::bmD).contains (.type "BaseException")=true:=by rw[List.contains_cons,hbase',Bool.or_true]
  have f:=tc_notTuple
  generalize hb:(Value.ref C::bmC).contains (.ref D)=b at hq
  unfold excMatches
  repeat (first | (with_reducible refine wpAny_loadPart_at he ?_;rw[hcls]) | with_reducible refine wpAny_loadPart_at hD ?_ | (with_reducible refine wpAny_isSubtype_exc hD ?_;rw[hcB]) | (with_reducible refine wpAny_isSubtype_exc hC ?_;rw[hb]) | wp_step)
  first | exact hq | (cases b <;> (wp_walk;exact hq))
end
end L2
namespace L2
open PySem PySem.Spec PyProof.Rows
structure Big (X:Cx) (pins:List (Addr×Obj)) (lim:Heap):Prop where
  old:∀b o,X.s₀.heap.get? b=some o→b∉X.ex→lim.get? b≠none
  loc:lim.get? X.env.locals≠none
  cell:∀x c,X.env.cells.lookup x=some c→lim.get? c≠none
  pin:∀p∈X.pn++pins,lim.get? p.1≠none
def Own (X:Cx):Prop:=X.stack=X.env::X.outer∧X.env.frame=some X.env.locals
section
variable {X:Cx} {pins:List (Addr×Obj)} {σ:St} {H:Hp} {s:Shared} {lim h':Heap} {e C:Addr} {oe:Obj}
theorem Own.frs (o:Own X):frs X.stack=X.env.locals::X.fs:=by
  rw[o.1];unfold L2.frs;rw[List.filterMap_cons,o.2];rfl
theorem Inv.bigX (I:Inv X pins σ H s):Big X pins s.heap:=by
  refine⟨fun b o q n=>?_,?_,fun x c q=>?_,fun p hp=>?_⟩
  · obtain⟨o',z⟩:=I.base.there b o q n
    rw[z];exact fun z=>nomatch z
  · obtain⟨m,⟨o,es,ep,ho,_⟩,_⟩:=I.loc
    rw[ho];exact fun z=>nomatch z
  · obtain⟨v,o,ho,_⟩:=I.cell x c q
    rw[ho];exact fun z=>nomatch z
  · rw[(I.pin p hp).1];exact fun z=>nomatch z
theorem Inv.gone (I:Inv X pins σ H s) (w:Own X) (x:Fly s.heap H lim e C) (B:Big X pins lim) (g:Gone (frs X.stack) H lim e s.heap h'):Inv X pins σ H {s with heap:=h'} :=by
  have hf:=w.frs
  have ne:∀b,lim.get? b≠none→b≠e:=fun b hb z=>hb (by rw[z];exact x.hl)
  have low:∀b o,X.s₀.heap.get? b=some o→b∉X.fs→b∉frs X.stack:=fun b o q n m=>by
    rw[hf]at m
    rcases List.mem_cons.mp m with z | z
    · have:=Heap.lt_size q;rw[z]at this;exact absurd (Nat.lt_of_lt_of_le this I.ok.above) (Nat.lt_irrefl _)
    · exact n z
  have cellK:∀y c,X.env.cells.lookup y=some c→∀v,s.heap.IsCell c v→h'.IsCell c v:=fun y c q v ⟨o,ho,hd⟩=>by
    by_cases m:c∈frs X.stack
    · obtain⟨sl,z⟩:=g.slot c o ho m
      exact⟨_,z,hd⟩
    · exact⟨o,g.keep c o ho m (ne c (B.cell y c q)) (.inr (B.cell y c q)),hd⟩
  refine⟨I.ok,I.os,I.bare,⟨fun b o q n hb hx=>?_,fun b o q n hb hx=>?_,I.base.free,fun b o q hx=>?_,I.base.tups,I.base.frzs,I.base.tbls⟩,?_,fun y c q=>?_,I.free,I.freeC,fun p hp=>?_,fun b u hb=>?_,I.len⟩
  · exact g.keep b o (I.base.keep b o q n hb hx) (low b o q hb) (ne b (B.old b o q hx)) (.inr (B.old b o q hx))
  · obtain⟨sl,z⟩:=I.base.slot b o q n hb hx
    obtain⟨sl',z'⟩:=g.slot b _ z (by rw[hf];exact List.mem_cons_of_mem _ hb)
    exact⟨sl',z'⟩
  · obtain⟨o',z⟩:=I.base.there b o q hx
    exact g.there b o' z
  · obtain⟨m,⟨o,es,ep,ho,hd,hk,hm⟩,hl⟩:=I.loc
    obtain⟨sl,z⟩:=g.slot _ o ho (by rw[hf];exact List.mem_cons_self ..)
    refine⟨m,⟨_,es,ep,z,hd,hk,hm⟩,fun i y v q1 q2 q3=>?_⟩
    obtain⟨u,r,l⟩:=hl i y v q1 q2 q3
    refine⟨u,r,?_⟩
    rcases l with l | ⟨k,c,q,z⟩
    · exact .inl l
    · exact .inr ⟨k,c,q,cellK y c q _ z⟩
  · obtain⟨v,z⟩:=I.cell y c q
    exact⟨v,cellK y c q v z⟩
  · obtain⟨q,n,nl,nf,d⟩:=I.pin p hp
    exact⟨g.keep p.1 p.2 q (fun m=>by
      rw[hf]at m
      rcases List.mem_cons.mp m with z | z
      · exact nl z
      · exact nf z) (ne _ (B.pin p hp)) (.inr (B.pin p hp)),n,nl,nf,d⟩
  · refine(I.hok b u hb).stay (fun c v hc q1=>?_) (fun _ q1=>q1) fun _ _ q1=>q1
    have hn:H c≠none:=by
      rcases hc with z | z
      · rw[z,hb];exact fun z=>nomatch z
      · rw[z];exact fun z=>nomatch z
    exact g.keep c v q1 (fun m=>hn (I.stkFree c m)) (fun z=>hn (by rw[z];exact x.he)) (.inl hn)
abbrev Cx.held (X:Cx) (e:Addr) (oe:Obj):Cx:={X with A:=X.A.mark (some (.ref e)),calm:=false,pn:=(e,oe)::X.pn,xe:=fun _ _=>False}
theorem Inv.held (I:Inv X pins σ H s) (q:s.heap.get? e=some oe) (n:H e=none) (nl:e≠X.env.locals) (nf:e∉X.fs) (d:∀v,oe.data≠.cell v):Inv (X.held e oe) pins σ H s:=
  ⟨⟨I.ok.mod,I.ok.kind,I.ok.glob,I.ok.blt,I.ok.above,I.ok.inj,I.ok.has,I.ok.cab,fun z=>(nomatch z),I.ok.frames,I.ok.stk,I.ok.exf,I.ok.bs,I.ok.bsz,I.ok.noex,I.ok.exfs,I.ok.funs,I.ok.frf⟩,I.os,I.bare,I.base,I.loc,I.cell,I.free,I.freeC,fun p hp=>by
    rcases List.mem_cons.mp hp with z | z
    · subst z;exact⟨q,n,nl,nf,d⟩
    · exact I.pin p z,I.hok,I.len⟩
theorem Inv.unheld (ok:X.Ok) (I:Inv (X.held e oe) pins σ H s):Inv X pins σ H s:=⟨ok,I.os,I.bare,I.base,I.loc,I.cell,I.free,I.freeC,fun p hp=>I.pin p (List.mem_cons_of_mem _ hp),I.hok,I.len⟩
abbrev Cx.pinsX (X:Cx) (ps:List (Addr×Obj)):Cx:={X with pn:=X.pn++ps}
theorem Inv.pinnedX (I:Inv X pins σ H s):Inv (X.pinsX pins) [] σ H s:=⟨⟨I.ok.mod,I.ok.kind,I.ok.glob,I.ok.blt,I.ok.above,I.ok.inj,I.ok.has,I.ok.cab,I.ok.hd,I.ok.frames,I.ok.stk,I.ok.exf,I.ok.bs,I.ok.bsz,I.ok.noex,I.ok.exfs,I.ok.funs,I.ok.frf⟩,I.os,I.bare,I.base,I.loc,I.cell,I.free,I.freeC,fun p hp=>I.pin p (by simpa using hp),I.hok,I.len⟩
theorem Inv.unpinnedX {pins':List (Addr×Obj)} (ok:X.Ok) (I:Inv (X.pinsX pins) pins' σ H s):Inv X pins σ H s:=⟨ok,I.os,I.bare,I.base,I.loc,I.cell,I.free,I.freeC,fun p hp=>I.pin p (List.mem_append_left _ hp),I.hok,I.len⟩
def Caught (X:Cx) (E:XK) (v:Value) (s:Shared):Prop:=∃(pins:List (Addr×Obj)) (σ:St) (H:Hp) (x C:Addr) (lim:Heap),v=.ref x∧Inv X pins σ H s∧Fly s.heap H lim x C∧Big X pins lim∧(∀b,s.heap.objs.size≤b→lim.get? b=none)∧E v (some C) H
theorem passC {E:XK} :Passes (CXR X.prog X.w) (X.wish (Caught X E)) E:=fun pins σ H s v s' I ⟨x,C,H',hv,fl,os,bare,un,hok,q⟩=>by
  subst hv
  have I0:Inv X pins σ H s:=I.unwish
  have I':Inv X pins σ H' s':=I0.call' os un hok bare fun b z=>absurd z (by simp)
  refine⟨pins,σ,H',x,C,s.heap,rfl,I',fl,I0.bigX,fun b hb=>?_,q⟩
  cases z:s.heap.get? b with
  | none=>rfl
  | some o =>
    obtain⟨o',z'⟩:=un.there b o z (by simp)
    exact absurd (Nat.lt_of_lt_of_le (Heap.lt_size z') hb) (Nat.lt_irrefl _)
end
end L2
namespace L2
open PySem PySem.Spec PyProof.Rows
section
variable {X:Cx} {pins:List (Addr×Obj)} {σ:St} {H:Hp} {s:Shared} {lim h':Heap} {e C:Addr} {oe:Obj} {M:Model} {A:Around} {E:Value→Shared→Prop}
theorem drop_ok {i:Nat} {x:Str} {pos:Pos} {Q:Unit→Shared→Prop} (I:Inv X pins σ H s) (hN:X.N.Nodup) (hi:X.N[i]? =some x) (hk:X.env.scope.names.lookup x=some .local)
    (h:∀s',Inv X pins (σ.set i none) H s'→Q () s'):wpAny M A (do bindName X.env x .none;unbindBehindTheSuite X.env x pos) Q E s:=by
  obtain⟨m,hn,hl⟩:=id I.loc
  have hcls:(X.env.scope.kind == .class || (X.env.scope.kind == .module && X.env.locals != X.env.globals))=false:=by rw[I.ok.kind];rfl
  have hiσ:i< σ.length:=by rw[I.len];exact(List.getElem?_eq_some_iff.mp hi).1
  have cne:=I.cne
  obtain⟨oL,_,_,hoL,_⟩:=id hn
  refine wpAny_nameGoes_keeps hk hn hcls fun h' v hn' hs=>?_
  have tracked:HOk X.prog X.w H h':=fun b ob q=>by
    refine(I.hok b ob q).stay (fun c w' hc q'=>(hs.2 c ?_).trans q') (fun _ q=>q) fun _ _ q=>q
    rintro rfl
    rcases hc with rfl | hc
    · rw[I.free]at q;cases q
    · rw[I.free]at hc;cases hc
  refine h _ ⟨I.ok,I.os,I.bare,⟨fun b o q n hb hx=>?_,fun b o q n hb hx=>?_,I.base.free,fun b o q hx=>?_,I.base.tups,I.base.frzs,I.base.tbls⟩,⟨_,hn',fun j y v' e1 e2 e3=>?_⟩,fun y c q=>?_,I.free,I.freeC,fun p hp=>?_,tracked,by simpa using I.len⟩
  · exact(hs.2 b (Nat.ne_of_lt (Nat.lt_of_lt_of_le (Heap.lt_size q) I.ok.above))).trans (I.base.keep b o q n hb hx)
  · obtain⟨sl,q1⟩:=I.base.slot b o q n hb hx
    exact⟨sl,(hs.2 b (Nat.ne_of_lt (Nat.lt_of_lt_of_le (Heap.lt_size q) I.ok.above))).trans q1⟩
  · obtain⟨o',q1⟩:=I.base.there b o q hx
    exact⟨o',(hs.2 b (Nat.ne_of_lt (Nat.lt_of_lt_of_le (Heap.lt_size q) I.ok.above))).trans q1⟩
  · by_cases hj:j=i
    · subst hj
      rw[List.getElem?_set_self hiσ]at e2
      cases e2
    · rw[List.getElem?_set_ne (Ne.symm hj)]at e2
      obtain⟨u',r',q⟩:=hl j y v' e1 e2 e3
      refine⟨u',r',?_⟩
      rcases q with⟨k,q⟩ | ⟨k,c,q,z⟩
      · refine .inl ⟨k,?_⟩
        have:y≠x:=fun z=>hj (nodup_ix hN e1 (z▸hi))
        simp[this,q]
      · exact .inr ⟨k,c,q,z.sameBut hs (cne y c q)⟩
  · obtain⟨w',z⟩:=I.cell y c q
    exact⟨w',z.sameBut hs (cne y c q)⟩
  · obtain⟨q,n,ne,nf,d⟩:=I.pin p hp
    exact⟨(hs.2 p.1 ne).trans q,n,ne,nf,d⟩
end
def Held (oe:Obj) (C:Addr):Prop:=(oe.cls=.ref C∧oe.dict=none)∧∃vs:Array Value,oe.data=.fields vs∧vs[2]? =some .none
def tTry (E:XK) (i:Nat) (tb:TS) (ts:Addr→Addr→Obj→TS):TS:=fun D σ H=>tb D σ H∧∀(x C:Addr) (oe:Obj) (σ':St) (H':Hp),E (.ref x) (some C) H'→H' x=none→Held oe C→σ'.length=σ.length→ts x C oe {nx:=fun σ'' H''=>D.nx (σ''.set i none) H'',rt:=D.rt,bk:=fun σ'' H''=>D.bk (σ''.set i none) H'',ct:=fun σ'' H''=>D.ct (σ''.set i none) H''} (σ'.set i (some (.ref x))) H'
section
variable {X:Cx} {E:XK} {D:Addr} {bmD:List Value} {body suite:List Stmt} {b₀:Stmt} {xn n:Str} {i:Nat} {np pos pos':Pos} {tb:TS} {ts:Addr→Addr→Obj→TS}
theorem ps_try (w:Own X) (hb:∀ps,PSs ((X.pinsX ps).wish (Caught (X.pinsX ps) E)) body tb) (hg:Gl X xn) (hm:X.mg xn=some (.ref D)) (hD:Xcl X.base D bmD)
    (hcl:∀v C H,E v (some C) H→∃bmC,Xcl X.base C bmC∧(Value.ref C::bmC).contains (.ref D)=true)
    (hN:X.N.Nodup) (hi:X.N[i]? =some n) (hk:X.env.scope.names.lookup n=some .local) (hsu:∀x C oe,Held oe C→PSs (X.held x oe) (b₀::suite) (ts x C oe))
    (hdb:(xn == ("__debug__" :Str))=false:=by decide):
    PS X (.Try body [.ExceptHandler (some (.Name xn np)) (some n) (b₀::suite) pos] [] [] pos') (tTry E i tb ts):=by
  intro pins s σ H Dn I h
  refine wpAny_Try_except (wpAny_mono (hb pins [] s σ H Dn (I.pinnedX.wish _) h.1) (fun f s1 q=>?_) fun v s1 q=>?_)
  · cases f with
    | next =>
      obtain⟨σ1,H1,J,z⟩:=q
      exact wpAny_execs_nil ⟨σ1,H1,J.unwish.unpinnedX I.ok,z⟩
    | brk=>obtain⟨σ1,H1,J,z⟩:=q;exact⟨σ1,H1,J.unwish.unpinnedX I.ok,z⟩
    | cont=>obtain⟨σ1,H1,J,z⟩:=q;exact⟨σ1,H1,J.unwish.unpinnedX I.ok,z⟩
    | ret u=>obtain⟨v,σ1,H1,J,r,z⟩:=q;exact⟨v,σ1,H1,J.unwish.unpinnedX I.ok,r,z⟩
  · obtain⟨pins1,σ1,H1,x,C,lim,rfl,J0,fl,B0,hsz,hE⟩:=q
    have J:Inv X pins σ1 H1 s1:=J0.unpinnedX I.ok
    have B:Big X pins lim:=⟨B0.old,B0.loc,B0.cell,fun p hp=>B0.pin p (List.mem_append_left _ hp)⟩
    have hfr:X.A.frames=some (X.env::X.outer):=w.1▸I.ok.frames
    refine noted_x (base:=X.base) (H:=H1) (lim:=lim) (C:=C) hfr (w.1▸J.stack) w.2 fl (fun b hb=>⟨J.hok.fresh hb,hsz b hb⟩) fun h2 g2 fl2=>?_
    have J2:Inv X pins σ1 H1 {s1 with heap:=h2} :=J.gone w fl B (by rw[w.1];exact g2)
    obtain⟨bmC,hC,hup⟩:=hcl _ _ _ hE
    have nl:x≠X.env.locals:=fun z=>B.loc (by rw[←z];exact fl.hl)
    have nf:x∉X.fs:=fun z=>by
      obtain⟨_,o,ho,_⟩:=I.ok.funs.mem z
      exact B.old x o ho (fun y=>I.ok.exfs x y z) fl.hl
    have held:∀{s':Shared},Inv X pins σ1 H1 s'→Fly s'.heap H1 lim x C→∃oe,Held oe C∧s'.heap.get? x=some oe∧Inv (X.held x oe) pins σ1 H1 s':=fun {s'} J' f'=>by
      obtain⟨_,_,oe,vs,h1,h2,h3,h4,_⟩:=id f'
      exact⟨oe,⟨h2,vs,h3,h4⟩,h1,J'.held h1 f'.he nl nf fun v z=>by rw[h3]at z;cases z⟩
    obtain⟨oe2,hh2,ge2,K2⟩:=held J2 fl2
    refine wpAny_handleBy_cons (codeAny_handlers_test ?_) (by intro q;cases q)
    refine ld_glob K2 hg hm ?_ hdb
    refine excMatches_up (C:=C) (D:=D) (bmC:=bmC) (bmD:=bmD) (hC.keeps J2.bk) (hD.keeps J2.bk) ge2 hh2.1.1 ?_
    rw[hup]
    refine codeAny_handlers_suite_as ?_
    refine flight_x (base:=X.base) (env:=X.env) (outer:=X.outer) (H:=H1) (lim:=lim) (C:=C) (w.1▸J2.stack) fl2 fun h3 g3 fl3=>?_
    have J3:Inv X pins σ1 H1 {s1 with heap:=h3} :=J2.gone w fl2 B (by rw[w.1];exact g3)
    obtain⟨oe,hh,ge,K3⟩:=held J3 fl3
    refine store_ok (X:=X.held x oe) (i:=i) (v:=.ref x) K3 hN hi (.inl hk) rfl (fun s4 K4=>?_) (.inr hk)
    refine wpAny_mono (hsu x C oe hh pins s4 _ H1 _ K4 (h.2 x C oe σ1 H1 hE fl.he hh (by rw[J.len,I.len]))) (fun f s5 q=>?_) fun _ _ z=>z.elim
    show wpAny _ _ (do bindName X.env n .none;unbindBehindTheSuite X.env n pos) _ _ _
    cases f with
    | next=>obtain⟨σ5,H5,K5,z⟩:=q;exact drop_ok (K5.unheld I.ok) hN hi hk fun s6 K6=>⟨_,H5,K6,z⟩
    | brk=>obtain⟨σ5,H5,K5,z⟩:=q;exact drop_ok (K5.unheld I.ok) hN hi hk fun s6 K6=>⟨_,H5,K6,z⟩
    | cont=>obtain⟨σ5,H5,K5,z⟩:=q;exact drop_ok (K5.unheld I.ok) hN hi hk fun s6 K6=>⟨_,H5,K6,z⟩
    | ret u=>obtain⟨v,σ5,H5,K5,r,z⟩:=q;exact drop_ok (K5.unheld I.ok) hN hi hk fun s6 K6=>⟨v,_,H5,K6,r,z⟩
end
end L2
namespace L2
open PySem PySem.Spec PyProof.Rows
theorem plain_unchain:plainId "proto.unchain" =true:=by decide +kernel
theorem entry_unchain:entryFor table "proto.unchain" =some Builtin.«proto.unchain» :=entryFor_of_fast (by kernel_rfl)
def Hdl (A:Around) (h:Heap):Prop:=∃(x C:Addr) (oe:Obj),A.handled=some (.ref x)∧h.get? x=some oe∧Held oe C
theorem Hdl.keeps {A:Around} {h h':Heap} (x:Hdl A h) (k:∀b o C,h.get? b=some o→o.cls=.ref C→h'.get? b=some o):Hdl A h':=by
  obtain⟨a,C,oe,h1,h2,h3⟩:=x
  exact⟨a,C,oe,h1,k a oe C h2 h3.1.1,h3⟩
section
variable {prog:Program} {w:World} {A:Around} {E:Value→Shared→Prop} {s:Shared}
theorem raiseNew_held {α:Type} {a:Addr} {oa:Obj} {vs:Array Value} {T:String} {Q:α→Shared→Prop} (hh:Hdl A s.heap) (ha:s.heap.get? a=some oa) (hc:oa.cls=.type T) (hd:oa.data=.fields vs) (h2:2< vs.size)
    (h:∀h',h'.get? a=some (Obj.mapFields (·.setIfInBounds 2 (A.handled.getD .none)) oa)→Heap.SameBut a s.heap h'→E (.ref a) {s with heap:=h'}):wpAny (model prog w) A (raiseNew (.ref a):Sem α) Q E s:=by
  obtain⟨x,C,oe,e1,e2,⟨e3,_⟩,us,e4,e5⟩:=hh
  have ne:x≠a:=fun z=>by
    rw[z,ha]at e2;rw[Option.some.inj e2,e3]at hc;cases hc
  unfold raiseNew
  refine wpAny_bind (wpAny_handled ?_)
  rw[e1]
  show wpAny _ _ (if(Value.ref x != Value.ref a)=true then _ else _) _ _ _
  rw[if_pos (bne_iff_ne.mpr fun z=>ne (Value.ref.inj z))]
  refine wpAny_bind (wpAny_holding (wpAny_runValue (codeAny_builtin entry_unchain ?_)))
  rw[Around.under_plainId plain_unchain _]
  unfold Builtin.«proto.unchain»
  refine wpAny_bind (wpAny_field e2 e4 e5 ?_)
  rw[if_pos (by decide)]
  refine wpAny_bind (wpAny_pure ?_)
  refine wpAny_pure ?_
  refine wpAny_bind (wpAny_setField ha hd h2 (wpAny_throw ?_))
  refine h _ ?_ (Heap.SameBut.update ..)
  rw[e1]
  exact Heap.get?_update_self _ ha (Obj.isFreed_of_fields (Obj.data_mapFields hd _))
theorem stop_held {α:Type} {Q:α→Shared→Prop} (hh:Hdl A s.heap)
    (h:∀a h',({s with heap:=h'} :Shared).TypeIs (.ref a) "StopIteration" →s.heap.get? a=none→(∀b o,s.heap.get? b=some o→h'.get? b=some o)→E (.ref a) {s with heap:=h'}):
    wpAny (model prog w) A (do let e ←newExc (.type "StopIteration") [];raiseNew e:Sem α) Q E s:=by
  refine wpAny_bind ?_
  simp only[newExc,newTuple]
  refine wpAny_bind (wpAny_newObj_type ?_ (by size_fits))
  refine wpAny_bind (m:=firstArgMember _ _) (wpAny_of_eq (a:=Value.none) (by first | rfl | (simp only[firstArgMember];rfl)) ?_)
  refine wpAny_newObj_type ?_ (by size_fits)
  generalize hg:s.heap.push _=h1
  have k1:∀b o,s.heap.get? b=some o→h1.get? b=some o:=fun b o q=>by rw[←hg];exact Heap.get?_push_of_some _ q
  have z1:s.heap.objs.size≤h1.objs.size:=by rw[←hg,Heap.size_push];exact Nat.le_succ _
  refine raiseNew_held (T:="StopIteration") (hh.keeps fun b o C q _=>Heap.get?_push_of_some _ (k1 b o q)) (Heap.get?_push_size _ rfl) rfl rfl (by simp[ownMembersOf]) fun h' e1 hs=>?_
  refine h _ _ ⟨_,e1,by rw[Obj.cls_mapFields]⟩ (Heap.get?_none_of_le z1) fun b o q=>(hs.2 b fun z=>?_).trans (Heap.get?_push_of_some _ (k1 b o q))
  exact absurd (Heap.lt_size (k1 b o q)) (by rw[z];exact Nat.lt_irrefl _)
theorem list_end_held {it l:Addr} {i:Nat} {items:Array Value} {Q:Option Value→Shared→Prop} (hh:Hdl A s.heap) (hit:s.heap.IsListIter it l i) (hl:s.heap.IsList l items) (hx:items[i]? =none)
    (hQ:∀h',Heap.ExtBut it s.heap h'→Q none {s with heap:=h'}):wpAny (model prog w) A (pyNext (.ref it)) Q E s:=by
  obtain⟨o,ho,hc,hd⟩:=id hit
  obtain⟨ol,hol,_,nl,hdl⟩:=hl
  unfold pyNext
  refine wpAny_bind (wpAny_attempt (wpAny_callSpecial?_slot (name:=Str.ofString "__next__") hit.typeIs slot_listiter_next (wpAny_call_entry slot_listiter_next hit.typeIs entry_listiter_next ?_ (args_listiter_next _))))
  show wpAny _ _ (field (.ref it) 0 >>= _) _ _ s
  refine wpAny_bind (wpAny_field ho hd (x:=.ref l) rfl ?_)
  show wpAny _ _ (if(Value.ref l == Value.none)=true then _ else _) _ _ s
  rw[if_neg (show ¬((Value.ref l == Value.none)=true)from Bool.false_ne_true)]
  show wpAny _ _ (field (.ref it) 1 >>= _) _ _ s
  refine wpAny_bind (wpAny_field ho hd (x:=.int i 0) rfl ?_)
  show wpAny _ _ (seqItems? (.ref l) >>= _) _ _ s
  refine wpAny_bind (wpAny_seqItems hol hdl ?_)
  simp only[Int.toNat_natCast,hx]
  refine wpAny_bind (wpAny_rule (wpAny_bind (wpAny_setField ho hd (by simp) ?_)))
  refine stop_held (A:=A.in1) ?_ fun a h' tp nw hk=>?_
  · exact Hdl.keeps (A:=A.in1) hh fun b ob C q z=>(Heap.get?_update_other _ _ fun y=>by
      rw[←y,ho]at q;rw[←Option.some.inj q,hc]at z;cases z).trans q
  · refine wpAny_bind (wpAny_isInstance (T:="StopIteration") (b:=true) tp isSubtype_stop ?_)
    exact wpAny_pure (hQ _ fun b ob hb q=>hk b ob ((Heap.get?_update_other _ _ (Ne.symm hb)).trans q))
theorem tuple_end_held {it l:Addr} {i:Nat} {items:Array Value} {Q:Option Value→Shared→Prop} (hh:Hdl A s.heap) (hit:IsTupIter s.heap it l i) (hl:IsTup s.heap l items) (hx:items[i]? =none)
    (hQ:∀h',Heap.ExtBut it s.heap h'→Q none {s with heap:=h'}):wpAny (model prog w) A (pyNext (.ref it)) Q E s:=by
  obtain⟨o,ho,hc,hd⟩:=id hit
  obtain⟨ol,hol,_,nl,hdl⟩:=hl
  unfold pyNext
  refine wpAny_bind (wpAny_attempt (wpAny_callSpecial?_slot (name:=Str.ofString "__next__") hit.typeIs slot_tupleiter_next (wpAny_call_entry slot_tupleiter_next hit.typeIs entry_tupleiter_next ?_ (args_tupleiter_next _))))
  show wpAny _ _ (field (.ref it) 0 >>= _) _ _ s
  refine wpAny_bind (wpAny_field ho hd (x:=.ref l) rfl ?_)
  show wpAny _ _ (if(Value.ref l == Value.none)=true then _ else _) _ _ s
  rw[if_neg (show ¬((Value.ref l == Value.none)=true)from Bool.false_ne_true)]
  show wpAny _ _ (field (.ref it) 1 >>= _) _ _ s
  refine wpAny_bind (wpAny_field ho hd (x:=.int i 0) rfl ?_)
  show wpAny _ _ (seqItems? (.ref l) >>= _) _ _ s
  refine wpAny_bind (wpAny_seqItems hol hdl ?_)
  simp only[Int.toNat_natCast,hx]
  refine wpAny_bind (wpAny_rule (wpAny_bind (wpAny_setField ho hd (by simp) ?_)))
  refine stop_held (A:=A.in1) ?_ fun a h' tp nw hk=>?_
  · exact Hdl.keeps (A:=A.in1) hh fun b ob C q z=>(Heap.get?_update_other _ _ fun y=>by
      rw[←y,ho]at q;rw[←Option.some.inj q,hc]at z;cases z).trans q
  · refine wpAny_bind (wpAny_isInstance (T:="StopIteration") (b:=true) tp isSubtype_stop ?_)
    exact wpAny_pure (hQ _ fun b ob hb q=>hk b ob ((Heap.get?_update_other _ _ (Ne.symm hb)).trans q))
theorem unpack_held {t:Addr} {items:Array Value} {Q:List Value→Shared→Prop} (hh:Hdl A s.heap) (ht:IsTup s.heap t items)
    (hQ:∀h',Heap.ExtBut s.heap.objs.size s.heap h'→Q items.toList {s with heap:=h'}):wpAny (model prog w) A (unpackItems (.ref t) items.size none) Q E s:=by
  have hlt:t≠s.heap.objs.size:=by obtain⟨o,ho,_⟩:=ht;exact Nat.ne_of_lt (Heap.lt_size ho)
  unfold unpackItems
  refine wpAny_bind ?_
  unfold notIterableAtAll
  refine wpAny_bind (wpAny_specialOf ht.typeIs slot_tuple_iter.lookup (wpAny_pure ?_))
  simp only[Bool.false_eq_true,if_false]
  refine wpAny_bind (wpAny_holding (iter_tuple ht ?_))
  refine wpAny_bind (wpAny_holding (draw_tuple hlt items.size 0 _ _ ⟨_,Heap.get?_push_size _ rfl,rfl,rfl⟩ (ht.push _) (by omega) fun h1 hit1 hs1=>?_))
  rw[show List.take items.size (List.drop 0 items.toList)=items.toList by rw[List.drop_zero];exact List.take_of_length_le (by simp),if_neg (by simp)]
  have kp:∀b o,s.heap.get? b=some o→h1.get? b=some o:=fun b o q=>(hs1.2 b (Nat.ne_of_lt (Heap.lt_size q))).trans (Heap.get?_push_of_some _ q)
  refine wpAny_bind (wpAny_holding (tuple_end_held (hh.keeps fun b o C q _=>kp b o q) hit1 ((ht.push _).extBut hs1.extBut hlt) (by simp) fun h2 he2=>?_))
  simp only[Option.isSome_none,Bool.false_eq_true,if_false]
  exact wpAny_pure (hQ h2 fun b o hb q=>he2 b o hb (kp b o q))
theorem assign_Tuple_held {env:Env} {elts:List Expr} {x1} {pos:Pos} {t:Addr} {items:Array Value} {Q:Unit→Shared→Prop} (hh:Hdl A s.heap) (ht:IsTup s.heap t items)
    (hn:(assignEach elts env).length=items.size) (hstar:(assignEach elts env).findIdx? (·.1)=none)
    (h:∀h',Heap.ExtBut s.heap.objs.size s.heap h'→wpAny (model prog w) A (assignInOrder ((assignEach elts env).map (·.2)) items.toList) Q E {s with heap:=h'}):
    wpAny (model prog w) A (assign (.Tuple elts x1 pos) env (.ref t)) Q E s:=by
  rw[assign_Tuple]
  refine wpAny_bind (wpAny_standAt ?_)
  unfold unpack
  rw[hn,hstar]
  exact wpAny_bind (wpAny_holding (unpack_held hh ht h))
end
end L2
namespace L2
open PySem PySem.Spec PyProof.Rows
def HdX (X:Cx):Prop:=∃(x C:Addr) (oe:Obj),X.A.handled=some (.ref x)∧Held oe C∧X.s₀.heap.get? x=some oe∧X.H₀ x=none∧x∉X.fs∧x∉X.ex
section
variable {X:Cx} {pins:List (Addr×Obj)} {σ:St} {H:Hp} {s:Shared}
theorem Inv.hdl (I:Inv X pins σ H s) (x:HdX X):Hdl X.A s.heap:=by
  obtain⟨a,C,oe,h1,h2,h3,h4,h5,h6⟩:=x
  exact⟨a,C,oe,h1,I.base.keep a oe h3 h4 h5 h6,h2⟩
theorem HdX.comp {scope:Scope} {N:List Str} {C:Addr} {fp:List Addr} (x:HdX X) (I:Inv X pins σ H s) (f:∀b∈fp,FpOk X pins H b):HdX (compCx X scope N s H C fp):=by
  obtain⟨a,C',oe,h1,h2,h3,h4,h5,h6⟩:=x
  refine⟨a,C',oe,h1,h2,I.base.keep a oe h3 h4 h5 h6,I.base.free a oe h3 h4 h6,fun m=>?_,fun m=>?_⟩
  · rcases List.mem_cons.mp (I.stkSub a m)with z | z
    · have:=Heap.lt_size h3
      rw[z]at this
      exact absurd (Nat.lt_of_lt_of_le this I.ok.above) (Nat.lt_irrefl _)
    · exact h5 z
  · rcases (f a m).2.2.2.1 with z | z
    · exact h6 z
    · exact absurd (Nat.lt_of_lt_of_le (Heap.lt_size h3) z) (Nat.lt_irrefl _)
end
structure TurnH (P:Program) (w:World) (K:PySem.W.Frag) (A:Around) (tg:Expr) (J:It) (fp:List Addr) (it:Addr) (tn:Nat→Heap→Prop):Prop where
  obj:∀i h,tn i h→∀b∈fp,∃o,h.get? b=some o∧∀v,o.data≠.cell v
  keep:∀i h h',tn i h→(∀b∈fp,∀o,h.get? b=some o→h'.get? b=some o)→tn i h'
  item:∀(X:Cx),X.prog=P→X.w=w→X.K=K→X.A=A→HdX X→∀(i:Nat) (pins:List (Addr×Obj)) (s:Shared) (σ:St) (H:Hp) (E:Value→Shared→Prop),Inv X pins σ H s→(∀b∈fp,FpOk X pins H b)→tn i s.heap→J.go i H→
    wpAny (model P w) X.A (pyNext (.ref it)) (fun r s1=>∃u,r=some u∧
      wpAny (model P w) X.A (letOwnedTupleGo tg (.ref it) u) (fun _ s2=>∃x H',Inv X pins σ H' s2∧RelV x u∧J.yld i H x H'∧tn (i+1) s2.heap∧∀b∈fp,H' b=none) E s1) E s
  done:∀(X:Cx),X.prog=P→X.w=w→X.K=K→X.A=A→HdX X→∀(i:Nat) (pins:List (Addr×Obj)) (s:Shared) (σ:St) (H:Hp) (E:Value→Shared→Prop),Inv X pins σ H s→(∀b∈fp,FpOk X pins H b)→tn i s.heap→J.stop i H→
    wpAny (model P w) X.A (pyNext (.ref it)) (fun r s1=>r=none∧Inv X pins σ H s1) E s
  self:∀(A:Around) (i:Nat) (s:Shared) (Q:Value→Shared→Prop) (E:Value→Shared→Prop),tn i s.heap→Q (.ref it) s→wpAny (model P w) A (pyIter (.ref it)) Q E s
theorem turnH_list {P:Program} {w:World} {K:PySem.W.Frag} {A:Around} {tg:Expr} (a it:Addr):TurnH P w K A tg (Itl K a) [it] it (fun i h=>h.IsListIter it a i) where
  obj:=(turn_list (P:=P) (w:=w) (K:=K) (tg:=tg) a it).obj
  keep:=(turn_list (P:=P) (w:=w) (K:=K) (tg:=tg) a it).keep
  self:=(turn_list (P:=P) (w:=w) (K:=K) (tg:=tg) a it).self
  item:=by
    intro X hP hw hK hA hx i pins s σ H E I hf st hg
    subst hP hw hK hA
    obtain⟨xs,x,hq,hx⟩:=hg
    obtain⟨its,rv,p,hz⟩:=I.list hq
    obtain⟨u,hu,ru⟩:=rv.get hx
    obtain⟨f0,f1,f2,f3,f4,f5⟩:=hf it (by simp)
    refine wpAny_pyNext_list_item st p.isList (x:=u) (by simpa using hu) fun h' st' sb=>?_
    have I1:Inv X pins σ H {s with heap:=h'} :=I.turned (t':=s.toks) (fun b o hb e=>(sb.2 b hb).trans e) f0 f1 f3 f4 f5
    obtain⟨o,e,c,d⟩:=id st'
    exact⟨u,rfl,go_of (s:={s with heap:=h'}) e c d (by decide) ⟨x,H,I1,ru,⟨rfl,fun ys hy=>by rw[I.list_inj hy hq];exact hx⟩,st',fun b hb=>(hf b hb).1⟩⟩
  done:=by
    intro X hP hw hK hA hx i pins s σ H E I hf st hg
    subst hP hw hK hA
    obtain⟨xs,hq,hl'⟩:=hg
    obtain⟨its,rv,p,hz⟩:=I.list hq
    obtain⟨f0,f1,f2,f3,f4,f5⟩:=hf it (by simp)
    have hl:=rv.length
    exact list_end_held (I.hdl hx) st p.isList (by simp;omega) fun h' eb=>⟨rfl,I.turned (t':=s.toks) (fun b o hb e=>eb b o hb e) f0 f1 f3 f4 f5⟩
def PIH (X:Cx) (tg iter:Expr) (wi:TI):Prop:=
  ∀ (pins : List (Addr × Obj)) (s : Shared) (σ : St) (H : Hp) (R : It → Hp → Prop), Inv X pins σ H s → wi σ H R →
    wpAny (model X.prog X.w) X.A (eval iter X.env) (fun v s1=>wpAny (model X.prog X.w) X.A (pyIter v) (fun itv s2=>∃(it:Addr) (fp:List Addr) (tn:Nat→Heap→Prop) (J:It) (H':Hp),itv=.ref it∧Inv X pins σ H' s2∧TurnH X.prog X.w X.K X.A tg J fp it tn∧tn 0 s2.heap∧(∀b∈fp,FpOk X pins H' b)∧R J H') X.xe s1) X.xe s
section
variable {X:Cx} {tg:Expr} {K:PySem.W.Frag}
theorem pi_listH {l:Expr} {tl:TE} (hK:X.K=K) (hl:PE X l tl):PIH X tg l (iList K tl):=by
  subst hK
  intro pins s σ H R I h
  refine thn (hl pins s σ H _ I h) fun v s1 ⟨x,H1,I1,r1,q1⟩=>?_
  obtain⟨a,e,⟨xs,hq⟩,q⟩:=q1
  subst e
  cases r1
  obtain⟨its,rv,p,hz⟩:=I1.list hq
  refine wpAny_pyIter_list p.isList ?_
  refine⟨s1.heap.objs.size,[s1.heap.objs.size],_,_,H1,rfl,I1.kept (t':=s1.toks) fun b o e=>Heap.get?_push_of_some _ e,turnH_list a _,⟨_,Heap.get?_push_size _ rfl,rfl,rfl⟩,fun b hb=>?_,q⟩
  have e:b=s1.heap.objs.size:=by simpa using hb
  subst e
  exact I1.fpOk (Nat.le_refl _) (I1.hok.fresh (Nat.le_refl _))
theorem pg_tupH {pos:Pos} {es:List Expr} {k:Nat} {t:TGs} {n:Nat} (hK:X.K=K) (hx:HdX X) (h:PGs X es t)
    (hn:(assignEach es X.env).length=n:=by rfl) (hst:(assignEach es X.env).findIdx? (·.1)=none:=by rfl):PG X (.Tuple es k pos) (gTup K n t):=by
  subst hK
  intro pins s σ H v u Q I r hw
  obtain⟨a,xs,e1,hq,hl,hw⟩:=hw
  subst e1
  cases r
  obtain⟨its,rv,ht,hz⟩:=I.tuple hq
  refine assign_Tuple_held (I.hdl hx) ht (by simp[hn,←hl,rv.length]) hst fun h' hx=>?_
  have I1:Inv X pins σ H {s with heap:=h'} :=I.kept (t':=s.toks) fun b o e=>hx b o (Nat.ne_of_lt (Heap.lt_size e)) e
  exact h pins _ σ H xs _ Q I1 (by simpa using rv) hw
end
section
variable {X:Cx} {scope:Scope} {N:List Str} {cap:List (Option Nat)} {tg iter elt:Expr} {ifs:List Expr} {pos:Pos} {wi:TI} {g:TG} {tf:TT} {te:TE}
theorem comp_coreH (S:CompScope X scope N cap) (hx:HdX X)
    (hg:∀s H C fp,HdX (compCx X scope N s H C fp)→PG (compCx X scope N s H C fp) tg g) (hf:∀s H C fp,PTs (compCx X scope N s H C fp) ifs tf) (he:∀s H C fp,PE (compCx X scope N s H C fp) elt te)
    {pins:List (Addr×Obj)} {σ:St} {H2:Hp} {s2:Shared} {it:Addr} {fp:List Addr} {tn:Nat→Heap→Prop} {J:It} {Qv:VK} {E:Value→Shared→Prop} {RR:Value→Addr→Result→Shared→Prop}
    (I2:Inv X pins σ H2 s2) (T:TurnH X.prog X.w X.K X.A tg J fp it tn) (st2:tn 0 s2.heap) (f2:∀b∈fp,FpOk X pins H2 b) {W:Nat→Nat→List V→Hp→Prop} (w0:∃m,W 0 m [] H2)
    (turn:∀i m ys H,W i m ys H→ys.length< sizeLine∧((J.stop i H∧∀D,H D=none→Qv (.ref D) (upd H D (.lst ys)))∨
      (J.go i H∧∃N:List V→Hp→Prop,(∀ys' H',N ys' H'→∃m',m'< m∧W (i+1) m' ys' H')∧∀x H',J.yld i H x H'→g x (capSt cap σ) H' fun σ2 H2=>Keep (capSt cap σ) σ2∧tf σ2 H2 fun b H3=>if b=true then te σ2 H3 fun y H4=>N (ys++ [y]) H4 else N ys H3)))
    (fin:∀(D C:Addr) (σ':St) (H':Hp) (s':Shared) (its:List Value) (k:Nat) (ys:List V),s2.heap.objs.size≤D→s2.heap.objs.size≤C→D≠C→Inv (compCx X scope N s2 H2 C fp) [(D,lObj its k)] σ' H' s'→Vals ys its→ys.length≤sizeLine→
      Qv (.ref D) (upd H' D (.lst ys))→RR (.ref D) C (.ok .next) s'):
    wpAny (model X.prog X.w) X.A (newList []) (fun acc s₃=>wpAny (model X.prog X.w) X.A (newFunctionEnv scope X.env.globals (closeOf X.env scope.names []) [] X.env.qual none .none (some X.env)) (fun cenv s₄=>
      codeAny (model X.prog X.w) X.A (.compStart (.ListComp elt [⟨tg,iter,ifs,0⟩] scope pos) 0 (.ref it) acc {cenv with scope:=relabel scope X.env}) (RR acc cenv.locals) s₄) E s₃) E s2:=by
  have frz:HdX X:=hx
  refine wpAny_newObj_type (newCompEnv ?_)
  generalize hD:s2.heap.objs.size=D
  generalize hH3:s2.heap.push {cls:=.type "list",dict:=none,data:=.seq ([]:List Value).toArray} =h3
  have hz3:h3.objs.size=D+1:=by rw[←hH3,Heap.size_push,hD]
  dsimp only
  have eC:({s2 with heap:=h3} :Shared).heap.objs.size=D+1:=hz3
  rw[show h3.objs.size=D+1 from hz3]
  generalize hH4:pushCells (h3.push {cls:=.type "dict",data:=.dict #[]}) scope.names=h4
  have hz3':(h3.push {cls:=.type "dict",data:=.dict #[]}).objs.size=D+1+1:=by rw[Heap.size_push,hz3]
  have ck:CellsOk h4 (D+1+1) (cellsFrom (D+1+1) scope.names []):=by
    have:=cellsFrom_ok scope.names (h3.push {cls:=.type "dict",data:=.dict #[]}) (D+1+1) [] ⟨fun _ _ hm=>(nomatch hm),List.Pairwise.nil⟩ (by rw[hz3'];exact Nat.le_refl _)
    rw[hz3',hH4]at this
    exact this
  have k23:∀b o,s2.heap.get? b=some o→h3.get? b=some o:=fun b o e=>by rw[←hH3];exact Heap.get?_push_of_some _ e
  have k34:∀b o,h3.get? b=some o→h4.get? b=some o:=fun b o e=>by rw[←hH4];exact pushCells_keeps _ _ b o (Heap.get?_push_of_some _ e)
  have hD4:h4.get? D=some (lObj [] 0):=k34 _ _ (by rw[←hH3,←hD];exact Heap.get?_push_size _ rfl)
  have hn4:h4.Ns (D+1) fun _=>none:=by
    rw[←hH4,←hz3]
    exact(Heap.Ns.new h3 (.type "dict")).keeps (pushCells_keeps _ _)
  have fpD:∀b∈fp,b< D:=fun b hb=>by
    obtain⟨o,e,_⟩:=T.obj _ _ st2 b hb
    rw[←hD];exact Heap.lt_size e
  have hlt:∀b∈fp,b< D+1:=fun b hb=>Nat.lt_succ_of_lt (fpD b hb)
  have hDC:s2.heap.objs.size≤D+1:=by rw[hD];exact Nat.le_succ _
  have hDs:s2.heap.objs.size≤D:=by rw[hD];exact Nat.le_refl _
  have IC:Inv (compCx X scope N s2 H2 (D+1) fp) [] (capSt cap σ) H2 {s2 with heap:=h4} :=
    comp_start S I2 hDC ck f2 hlt ⟨_,_,rfl⟩ hn4 fun b o e=>k34 b o (k23 b o e)
  have okC:=IC.ok
  have nfs:∀{b:Addr},s2.heap.objs.size≤b→b∉frs X.stack:=fun {b} hb hm=>by
    obtain⟨_,o,ho,_⟩:=I2.stack.mem hm
    exact absurd (Nat.lt_of_lt_of_le (Heap.lt_size ho) hb) (Nat.lt_irrefl _)
  have frc:∀x∈scope.names,x.2=.free→∃c,X.env.cells.lookup x.1=some c:=fun x hx hk=>I2.ok.has x.1 (S.free x hx hk)
  have cellsD:∀x c,(compCx X scope N s2 H2 (D+1) fp).env.cells.lookup x=some c→c≠D:=fun x c e=>by
    rcases comp_cells frc e with a | ⟨_,a⟩
    · have q:D+1+1≤c:=(ck.empty x c a).2
      exact Nat.ne_of_gt (Nat.lt_of_lt_of_le (Nat.lt_of_lt_of_le (Nat.lt_succ_self D) (Nat.le_succ _)) q)
    · obtain⟨v,q⟩:=I2.cell x c a
      have:=q.lt
      rw[hD]at this
      exact Nat.ne_of_lt this
  have fpO:∀{H':Hp} {its:List Value} {k:Nat},(∀b∈fp,H' b=none)→∀b∈fp,FpOk (compCx X scope N s2 H2 (D+1) fp) [(D,lObj its k)] H' b:=fun {H' its k} hn b hb=>
    ⟨hn b hb,Nat.ne_of_lt (hlt b hb),okC.exfs b hb,.inl hb,(okC.exf b hb).2,fun p hp=>by
      have e:p=(D,lObj its k):=by simpa [compCx] using hp
      subst e
      exact Nat.ne_of_gt (fpD b hb)⟩
  have pinD:∀{σ':St} {H':Hp} {s':Shared} {its:List Value} {k:Nat},Inv (compCx X scope N s2 H2 (D+1) fp) [] σ' H' s'→s'.heap.get? D=some (lObj its k)→H' D=none→Inv (compCx X scope N s2 H2 (D+1) fp) [(D,lObj its k)] σ' H' s':=fun {σ' H' s' its k} J e n=>
    J.pins_of fun p hp=>by
      have e':p=(D,lObj its k):=by simpa using hp
      subst e'
      exact⟨e,n,Nat.ne_of_lt (Nat.lt_succ_self _),nfs hDs,fun v z=>by
        have z':Data.seq its.toArray k=Data.cell v:=z
        cases z'⟩
  have loop:codeAny (model X.prog X.w) X.A (.compLoop (.ListComp elt [⟨tg,iter,ifs,0⟩] scope pos) 0 (.ref it) (.ref D) (compCx X scope N s2 H2 (D+1) fp).env) (RR (.ref D) (D+1)) {s2 with heap:=h4} :=by
    obtain⟨m0,w0⟩:=w0
    refine compLoop_gen (fun n s'=>∃i ys its k σ' H',Inv (compCx X scope N s2 H2 (D+1) fp) [(D,lObj its k)] σ' H' s'∧tn i s'.heap∧(∀b∈fp,H' b=none)∧Vals ys its∧(∀(j:Nat) (v:V),(capSt cap σ)[j]? =some (some v)→σ'[j]? =some (some v))∧W i n ys H') ?_ m0
      ⟨0,[],[],0,capSt cap σ,H2,pinD IC hD4 (I2.hok.fresh hDs),T.keep _ _ _ st2 fun b hb o e=>k34 b o (k23 b o e),fun b hb=>(f2 b hb).1,.nil,fun _ _ e=>e,w0⟩
    rintro n s3 ⟨i,ys,its,k,σ3,H3,I3,st3,fr3,rv,kp,w3⟩
    obtain⟨hyl,tr⟩:=turn i n ys H3 w3
    have pin3:=I3.pin (D,lObj its k) (List.mem_append_right _ List.mem_cons_self)
    rcases tr with⟨stop,qn⟩ | ⟨go,NN,hNN,step⟩
    · refine thn (T.done (compCx X scope N s2 H2 (D+1) fp) rfl rfl rfl rfl (hx.comp I2 f2) i _ s3 σ3 H3 _ I3 (fpO fr3) st3 stop) fun r s4 ⟨hr,I4⟩=>?_
      subst hr
      exact fin D (D+1) σ3 H3 s4 its k ys hDs hDC (Nat.ne_of_lt (Nat.lt_succ_self _)) I4 rv (Nat.le_of_lt hyl) (qn D pin3.2.1)
    · have I3':Inv (compCx X scope N s2 H2 (D+1) fp) [(D,lObj its k)] (capSt cap σ) H3 s3:=I3.weak (by rw[I3.len,IC.len]) kp
      refine thn (T.item (compCx X scope N s2 H2 (D+1) fp) rfl rfl rfl rfl (hx.comp I2 f2) i _ s3 _ H3 _ I3' (fpO fr3) st3 go) fun r s4 ⟨u,hr,h4⟩=>?_
      subst hr
      refine thn h4 fun _ s5 ⟨x,H5,I5,r5,y5,st5,fr5⟩=>?_
      have I5':=I5.pinned (fpO fr5) (T.obj _ _ st5)
      refine thn (hg _ _ _ _ (hx.comp I2 f2) _ s5 _ H5 x u _ I5' r5 (step x H5 y5)) fun _ s6 ⟨σ6,H6,I6,kp6,q6⟩=>?_
      refine thn (hf _ _ _ _ _ s6 σ6 H6 _ I6 q6) fun ok s7 ⟨H7,I7,q7⟩=>?_
      have back:∀{s8:Shared} {H8:Hp},Inv (compCx X scope N s2 H2 (D+1) fp) ([(D,lObj its k)]++pinsAt fp s5.heap) σ6 H8 s8→tn (i+1) s8.heap∧(∀b∈fp,H8 b=none)∧s8.heap.get? D=some (lObj its k)∧H8 D=none:=fun {s8 H8} I8=>by
        have at_:∀b∈fp,∀o,s5.heap.get? b=some o→s8.heap.get? b=some o∧H8 b=none:=fun b hb o e=>by
          have z:=I8.pin (b,o) (List.mem_append_right _ (List.mem_append_right _ (mem_pinsAt hb e)))
          exact⟨z.1,z.2.1⟩
        have pd:=I8.pin (D,lObj its k) (List.mem_append_right _ (List.mem_append_left _ List.mem_cons_self))
        refine⟨T.keep _ _ _ st5 fun b hb o e=>(at_ b hb o e).1,fun b hb=>?_,pd.1,pd.2.1⟩
        obtain⟨o,e,d⟩:=T.obj _ _ st5 b hb
        exact(at_ b hb o e).2
      cases ok with
      | false =>
        rw[if_neg Bool.false_ne_true]at q7 ⊢
        obtain⟨m',hm,w'⟩:=hNN _ _ q7
        obtain⟨t7,f7,d7,n7⟩:=back I7
        exact⟨m',hm,i+1,ys,its,k,σ6,H7,I7.unpinned,t7,f7,rv,fun j v e=>Keep.get kp6 e,w'⟩
      | true =>
        rw[if_pos rfl]at q7 ⊢
        refine thn (he _ _ _ _ _ s7 σ6 H7 _ I7 q7) fun y8 s8 ⟨y,H8,I8,r8,q8⟩=>?_
        obtain⟨m',hm,w'⟩:=hNN _ _ q8
        obtain⟨t8,f8,d8,n8⟩:=back I8
        refine append_at (D:=D) (its:=its.toArray) (n:=k) d8 (fun h' hs' hD'=>?_) (by rw[List.size_toArray,←rv.length];exact Nat.le_of_lt hyl)
        have J0:Inv (compCx X scope N s2 H2 (D+1) fp) [] σ6 H8 s8:=I8.pins_of fun p hp=>by cases hp
        have J1:Inv (compCx X scope N s2 H2 (D+1) fp) [] σ6 H8 {s8 with heap:=h'} :=J0.turned (it:=D) (t':=s8.toks) (fun b o hb e=>(hs'.2 b hb).trans e) n8 (Nat.ne_of_lt (Nat.lt_succ_self _)) (.inr hDs) cellsD fun p hp=>by
          have:p∈([]:List (Addr×Obj)):=hp
          cases this
        refine⟨m',hm,i+1,ys++ [y],its++ [y8],k+1,σ6,H8,pinD J1 (by simpa using hD') n8,T.keep _ _ _ t8 fun b hb o e=>(hs'.2 b (Nat.ne_of_lt (fpD b hb))).trans e,f8,rv.append (.cons r8 .nil),fun j v e=>Keep.get kp6 e,w'⟩
  exact codeAny_compStart_list loop (wpAny_mono (T.self _ 0 _ _ _ (T.keep _ _ _ st2 fun b hb o e=>k34 b o (k23 b o e)) loop) (fun _ _ h=>h) fun _ _ h=>h)
theorem pe_compH (S:CompScope X scope N cap) (hx:HdX X) (hi:PIH X tg iter wi)
    (hg:∀s H C fp,HdX (compCx X scope N s H C fp)→PG (compCx X scope N s H C fp) tg g) (hf:∀s H C fp,PTs (compCx X scope N s H C fp) ifs tf) (he:∀s H C fp,PE (compCx X scope N s H C fp) elt te)
    (hs:∀x,foldedSetIterable iter X.env x=pure x:=by intro _;rfl):PE X (.ListComp elt [⟨tg,iter,ifs,0⟩] scope pos) (tComp cap wi g tf te):=by
  intro pins s σ H Q I h
  rw[eval_ListComp]
  have frc:∀x∈scope.names,x.2=.free→∃c,X.env.cells.lookup x.1=some c:=fun x hx hk=>I.ok.has x.1 (S.free x hx hk)
  refine wpAny_comprehension_free (use:=none) rfl hs (closureFor_eq frc) S.kind (comp_names S) (thn (hi pins s σ H _ I h) fun v s1 h1=>thn h1 fun itv s2 h2=>?_)
  obtain⟨it,fp,tn,J,H2,rfl,I2,T,st2,f2,W,w0,turn⟩:=h2
  refine comp_coreH (RR:=fun acc C=>compPost (model X.prog X.w) X.A X.xe none (EP X pins σ Q) acc C) S hx hg hf he I2 T st2 f2 w0 turn fun D C σ' H' s' its k ys hD hC hDC I' rv hl q=>?_
  obtain⟨m,hn,_⟩:=I'.loc
  exact⟨m,hn,fun h' hs'=>⟨.ref D,_,comp_out I2 f2 hD hC hDC I' rv hl hs',rfl,q⟩⟩
end
end L2
namespace L2
open PySem PySem.Spec PySem.Calls PyProof.Rows
open PySem.W (findIn findObj mroIn looks_findIn looks_find looks_mroIn class_get KitX clsIn Frag)
structure XK1 (K:Frag) (C:Addr):Prop where
  ga:findIn K (.ref C) "__getattribute__" =some (some (.builtin "BaseException.__getattribute__"))
  gt:findIn K (.ref C) "__getattr__" =some none
  cl:findObj K C none "__class__" =some (.bind (.builtin "getset_descriptor.__get__") (.builtin "object.__class__"))
  ob:mroIn K C (.type "object")=some true
  be:mroIn K C (.type "BaseException")=some true
section
variable {prog:Program} {w:World} {A:Around} {E:Value→Shared→Prop} {s:Shared} {K:Frag} {x C:Addr} {ox:Obj}
theorem exc_class {Q:Option Value→Shared→Prop} (Z:XK1 K C) (X:K.In s.heap) (I:PySem.W.InstAt s.heap x ox C none) (h:Q (some (.ref C)) {s with toks:=s.toks+1}):wpAny (model prog w) A (getAttr? (.ref x) "__class__") Q E s:=by
  obtain⟨hh,g,d,t,os⟩:=s
  have L0:=I.type (M:=model prog w)
  have L1:=looks_findIn (M:=model prog w) X Z.ga
  have L2:=looks_findIn (M:=model prog w) X Z.gt
  have L3:=looks_find (M:=model prog w) X I Z.cl
  have L4:=looks_mroIn (M:=model prog w) X Z.be
  unfold getAttr? getAttrBy? getAttrBy
  refine wpAny_bind (wpAny_mkText (wpAny_bind (wpAny_attempt (wpAny_holding (wpAny_bind (L0.at (wpAny_bind (L1.at ?_))))))))
  dsimp only
  rw[show(Value.builtin "BaseException.__getattribute__" == Value.builtin "object.__getattribute__")=false from by decide +kernel,Bool.and_false,if_neg (by decide)]
  unfold getAttrByItsOwn hookBefore
  rw[if_pos (show onTheHeap (Value.ref C)=true from rfl)]
  refine wpAny_bind (L2.at ?_)
  refine wpAny_bind (wpAny_attempt (wpAny_holding ?_))
  unfold callGetattribute
  rw[if_neg (by simp)]
  unfold boundAndCalled
  rw[PySem.F.excAttr_ValueError.ga.bind]
  have LI:PySem.W.Looks (model prog w) hh (isInstance (.ref x) (.type "BaseException")) true:=L0.andThen L4
  have chk:∀{A':Around} {E':Value→Shared→Prop} {Q':Unit→Shared→Prop} {tk:Nat},Q' () ⟨hh,g,d,tk,os⟩→wpAny (model prog w) A' (checkBuiltinCall "BaseException.__getattribute__" ⟨[.ref x,.str "__class__" t],[]⟩) Q' E' ⟨hh,g,d,tk,os⟩:=fun {A' E' Q' tk} hq=>by
    have hk:builtinKind "BaseException.__getattribute__" =some .slot:=by decide +kernel
    have hsplit:splitId "BaseException.__getattribute__" =some ("BaseException","__getattribute__"):=by decide +kernel
    have ha:=F.args_bexc_ga (.ref x) (.str "__class__" t)
    simp only[checkBuiltinCall,hk,hsplit]
    refine wpAny_bind (LI.at ?_)
    repeat wp_step
    exact hq
  refine wpAny_bind (wpAny_pure (wpAny_call (codeAny_call_builtin PySem.F.excAttr_ValueError.ga.plain F.entry_bexc_ga (chk ?_))))
  refine wpAny_bind (m:=slotArgs _ _ _) (wpAny_pure ?_)
  refine wpAny_bind (wpAny_pure (wpAny_bind (L0.at (wpAny_bind (L3.at ?_)))))
  show wpAny _ _ (holding [.builtin "object.__class__"] (call (.builtin "getset_descriptor.__get__") [.builtin "object.__class__",.ref x,.ref C]) >>= ret) _ _ _
  refine wpAny_bind (wpAny_holding (wpAny_call (class_get (s:=⟨hh,g,d,t+1,os⟩) (ox:=ox) (od:=none) X I Z.ob (wpAny_pure ?_))))
  exact PySem.W.handed_on rfl (wpAny_pure h)
theorem kitx_exc (Z:XK1 K C):KitX K (.ref x) (.ref C) (fun h=>PySem.W.InstAt h x ox C none) where
  ty:=fun _ _ _ I=>I.type
  it:=fun _ _ X _=>by
    obtain⟨cd,a,_⟩:=Option.bind_eq_some_iff.mp Z.ob
    unfold clsIn at a
    split at a
    · rename_i c' d' cd' sl' ho
      intro A' Q' E' s' k q
      unfold isType loadHead
      exact wpAny_bind (wpAny_loadPart (k _ _ (X _ _ ho)) (wpAny_pure q))
    · cases a
  ne:=fun h tp dd its n sl X htp=>by
    obtain⟨cd,a,_⟩:=Option.bind_eq_some_iff.mp Z.ob
    refine Bool.eq_false_iff.mpr fun q=>?_
    have e:C=tp:=Value.ref.inj (beq_iff_eq.mp q)
    subst e
    unfold clsIn at a
    split at a
    · rename_i c' d' cd' sl' ho
      have z:=(X _ _ ho).symm.trans htp
      cases z
    · cases a
  ca:=fun X I k=>exc_class Z X I k
theorem isinst_exc {c:Value} {b:Bool} {Q:Value→Shared→Prop} (Z:XK1 K C) (X:K.In s.heap) (I:PySem.W.InstAt s.heap x ox C none) (e:PySem.W.kitOne K (.ref C) c=some b) (h:∀tk,Q (.bool b) {s with toks:=tk}):
    wpAny (model prog w) A (call (.builtin "isinstance") [.ref x,c]) Q E s:=PySem.W.kia_one (kitx_exc Z) X I e (fun z=>by cases z) h
end
end L2
namespace L2
open PySem PySem.Spec PySem.Calls PyProof.Rows
def HdE (X:Cx) (x C:Addr):Prop:=∃oe:Obj,X.A.handled=some (.ref x)∧Held oe C∧X.s₀.heap.get? x=some oe∧X.H₀ x=none∧x∉X.fs∧x∉X.ex
theorem HdE.hdx {X:Cx} {x C:Addr} (h:HdE X x C):HdX X:=let ⟨oe,z⟩:=h;⟨x,C,oe,z⟩
theorem Inv.inst {X:Cx} {pins:List (Addr×Obj)} {σ:St} {H:Hp} {s:Shared} {x C:Addr} (I:Inv X pins σ H s) (h:HdE X x C):∃ox,PySem.W.InstAt s.heap x ox C none:=by
  obtain⟨oe,h1,⟨⟨h2,h2'⟩,vs,h7,h8⟩,h3,h4,h5,h6⟩:=h
  refine⟨oe,⟨I.base.keep x oe h3 h4 h5 h6,h2,?_,?_⟩⟩
  · unfold PySem.W.notCls;rw[h7]
  · rw[h2'];trivial
def kv:V→Option Value
  | .ref D=>some (.ref D)
  | .ty T=>some (.type T)
  | _=>none
section
variable {X:Cx} {K:PySem.W.Frag} {x C:Addr}
theorem call_isinstE (hK:X.K=K) (h:HdE X x C) (Z:XK1 K C):CallR X (.builtin "isinstance") (fun xs H Q=>∃v c b,xs=[.ref x,v]∧kv v=some c∧PySem.W.kitOne K (.ref C) c=some b∧Q (.bl b) H):=by
  subst hK
  intro pins s σ H xs us Q I r q
  obtain⟨v,c,b,rfl,hv,e,q⟩:=q
  obtain⟨u,w',rfl,rx,rv⟩:=vals2 r
  obtain rfl:u=.ref x:=rx
  have hw:w'=c:=by
    unfold kv at hv
    split at hv
    · cases hv;exact rv
    · cases hv;exact rv
    · cases hv
  subst hw
  obtain⟨ox,J⟩:=I.inst h
  exact isinst_exc Z I.kIn J e fun tk=>⟨.bl b,H,I.tok _,rfl,q⟩
end
structure RoomH (k:Nat) (A:Around):Prop where
  dp:A.depth+3*k+5< recursionLimit
  un:A.units+16*k+200< cLine
theorem Room.h {k:Nat} {A:Around} (r:Room k A) (v:Option Value):RoomH k (A.mark v):=⟨r.dp,r.un⟩
abbrev cxH (P:Program) (w:World) (K:PySem.W.Frag) (mg:Str→Option Value) (base:Heap) (N:List Str) (qual:Str) (scope:Scope) (f:Addr) (cd:Value) (A:Around) (outer:List Env) (s0:Shared) (H0:Hp) (E:XK):Cx:={cxOf CX0 P w K mg base N qual scope f cd A outer s0 H0 E with calm:=false,xe:=fun _ _=>False}
structure FnOkH (P:Program) (w:World) (K:PySem.W.Frag) (mg:Str→Option Value) (base:Heap) (k:Nat) (f:Addr) (fd:FuncData) (ps:List Str) (sp:Addr→Addr→Sp):Prop where
  len:∀x C vs H Q E,sp x C vs H Q E→vs.length=ps.length
  run:∀(x C:Addr) (oe:Obj) (A:Around) (outer:List Env) (s:Shared) (H:Hp) (args:Args) (us:List Value) (vs:List V) (Q:VK) (E:XK),RoomH k A→A.handled=some (.ref x)→Held oe C→s.heap.get? x=some oe→H x=none→x∉frs outer→
    Env0 P w K mg base A outer s H→BindsTo s fd args (ps.zip us)→Vals vs us→sp x C vs H Q E→codeAny (model P w) A (.call (.ref f) args) (CR CX0 outer P w H s Q E) s
section
variable {P:Program} {w:World} {K:PySem.W.Frag} {mg:Str→Option Value} {base:Heap}
theorem Fun.okH {x0 qual:Str} {st:Stmt} {f:Addr} {fd:FuncData} {N ps:List Str} {k:Nat} {sp:Addr→Addr→Sp} (F:Fun K x0 qual st f fd) (S:FnScope N ps (defScope st)) (len:∀x C vs H Q E,sp x C vs H Q E→vs.length=ps.length)
    (hbody:∀(x C:Addr) (cdv:Value) (A:Around) (outer:List Env) (s:Shared) (H:Hp) (vs:List V) (Q:VK) (E:XK),HdE (cxH P w K mg base N qual (defScope st) f cdv A outer s H E) x C→RoomH k (A.deeper (envOfC qual (defScope st) s.heap.objs.size f cdv))→sp x C vs H Q E→
      ∃t,PSs (cxH P w K mg base N qual (defScope st) f cdv A outer s H E) (defBody st) t∧t {nx:=fun _ H'=>Q .non H',rt:=Q} (start N vs) H):FnOkH P w K mg base (k+1) f fd ps sp:=by
  obtain⟨oc,od,kV,doc,pm,an,cdv,ct,osl,rfl,lk,hcd⟩:=F.ex
  refine⟨len,fun x C oe A outer s H args us vs Q E hr hA hh hx hHx hxo e0 hb r hsp=>?_⟩
  have hl:=len _ _ _ _ _ _ hsp
  have KX:K.In s.heap:=e0.mod.kin.keeps fun b o e=>(e0.bs b o e).1
  have lim:s.heap.NoLimit:=e0.mod.nolimit.keeps fun b o e=>(e0.bs b o e).1
  have hkind:∀y∈ps.zip us,(defScope st).names.lookup y.1=some .local∨((defScope st).names.lookup y.1=some .cell∧((cellsFrom (s.heap.objs.size+1) (defScope st).names []).lookup y.1).isSome=true):=fun⟨n,v⟩ hy=>by
    rcases S.par n (List.of_mem_zip hy).1 with q | q
    · exact .inl q
    · exact .inr ⟨q,PySem.W.cellsFrom_some _ _ _ (.inl q)⟩
  refine codeAny_call_function (by have:=hr.dp;omega) (KX _ _ lk) rfl S.co S.gen rfl (PySem.W.codeRec_of KX hcd) (hb _ _ _ _ ?_)
  refine wpAny_newFunctionEnv_cells S.kind hkind fun env he s1 z=>?_
  subst he
  refine⟨lim.keeps z.toInCall.keep,codeAny_func ?_⟩
  have hE:HdE (cxH P w K mg base N qual (defScope st) f cdv A outer s H E) x C:=⟨oe,hA,hh,hx,hHx,hxo,fun m=>absurd (show x∈([]:List Addr)from m) (by simp)⟩
  obtain⟨t,ht,hq⟩:=hbody x C cdv A outer s H vs Q E hE ⟨by have:=hr.dp;show A.depth+1+3*k+5< _;omega,by have:=hr.un;show A.units+3+16*k+200< _;omega⟩ hsp
  have e0':Env0 P w K mg base {A with handled:=none} outer s H:=⟨e0.frames,e0.mod,e0.bs,e0.bsz,e0.funs,e0.frf,e0.hok,e0.bare⟩
  have I0:Inv (cxOf CX0 P w K mg base N qual (defScope st) f cdv {A with handled:=none} outer s H E) [] (start N vs) H s1:=inv_start S rfl e0' hl r z
  have I:Inv (cxH P w K mg base N qual (defScope st) f cdv A outer s H E) [] (start N vs) H s1:=
    ⟨⟨I0.ok.mod,I0.ok.kind,I0.ok.glob,I0.ok.blt,I0.ok.above,I0.ok.inj,I0.ok.has,I0.ok.cab,fun z=>(nomatch z),Around.frames_deeper e0.frames,I0.ok.stk,I0.ok.exf,I0.ok.bs,I0.ok.bsz,I0.ok.noex,I0.ok.exfs,I0.ok.funs,I0.ok.frf⟩,I0.os,I0.bare,I0.base,I0.loc,I0.cell,I0.free,I0.freeC,I0.pin,I0.hok,I0.len⟩
  refine wpAny_mono (ht [] s1 (start N vs) H _ I hq) (fun fl s' hs=>?_) fun e s' hs=>hs.elim
  have fin:∀{σ':St} {H':Hp} {v:V} {u:Value},Inv (cxH P w K mg base N qual (defScope st) f cdv A outer s H E) [] σ' H' s'→RelV v u→Q v H'→CE outer P w H s Q u s':=
    fun {σ' H' v u} J rv q=>⟨v,H',J.os,J.bare,J.base,J.hok,rv,q⟩
  cases fl with
  | ret u=>obtain⟨v,σ',H',J,rv,q⟩:=hs;exact fin J rv q
  | next=>obtain⟨σ',H',J,q⟩:=hs;exact fin (v:=V.non) (u:=Value.none) J rfl q
  | brk=>obtain⟨_,_,_,q⟩:=hs;exact False.elim q
  | cont=>obtain⟨_,_,_,q⟩:=hs;exact False.elim q
end
section
variable {X:Cx} {k:Nat} {f x C:Addr} {oe:Obj} {fd:FuncData} {ps:List Str} {sp:Addr→Addr→Sp} {xn:Str} {p pos:Pos} {e:Expr} {es:List Expr} {t:TA}
theorem pe_callH (F:FnOkH X.prog X.w X.K X.mg X.base k f fd ps sp) (hr:RoomH k X.A) (hA:X.A.handled=some (.ref x)) (hh:Held oe C) (hp:(x,oe)∈X.pn) (hg:Gl X xn) (hm:X.mg xn=some (.ref f)) (hk:PySem.W.keepIn X.K (.ref f)=true) (hb:Binds X.K fd ps [])
    (ha:PA X (e::es) t) (hdb:(xn == ("__debug__" :Str))=false:=by decide) (he:starEach (e::es) X.env=(false,eval e X.env)::starEach es X.env:=by rfl) (hpl:(backTo pos (starEach es X.env)).any (·.1)=false:=by rfl):
    PE X (.Call (.Name xn p) (e::es) [] pos) (tCall (sp x C) [] E0 t):=by
  intro pins s σ H Q I h
  refine wpAny_Call_Name_kw (ld_glob I hg hm ?_ hdb)
  refine PySem.W.callWith_K (h₀:=X.base) I.ok.mod.kin hk (thn (ha pos pins s σ H _ I h) fun us s1 ⟨vs,H1,I1,r,q⟩=>⟨I1.kIn,?_⟩) he hpl
  obtain⟨g1,g2,g3,g4,_⟩:=I1.pin (x,oe) (List.mem_append_left _ hp)
  have hfr:x∉frs X.stack:=fun m=>by
    rcases List.mem_cons.mp (I1.stkSub x m)with z | z
    · exact g3 z
    · exact g4 z
  have q:sp x C (vs++ []) H1 Q E0:=q
  rw[List.append_nil]at q
  rw[List.nil_append]
  have hl:us.length=ps.length:=by rw[←r.length];exact F.len _ _ _ _ _ _ q
  refine wpAny_call (codeAny_mono (F.run x C oe X.A X.stack s1 H1 ⟨us,[]⟩ us vs Q E0 hr hA hh g1 g2 hfr I1.env0 (by have:=hb s1 us I1.kIn (by simpa using hl);simpa using this) r q) fun r s' hq=>?_)
  cases r with
  | error e=>exact hq.elim
  | ok fl =>
    cases fl with
    | ret u=>exact I1.after hq
    | next=>exact False.elim hq
    | brk=>exact False.elim hq
    | cont=>exact False.elim hq
end
end L2
namespace L2
open PySem PySem.Spec PySem.Calls PyProof.Rows Mi
section
variable {P:Program} {w:World} {K:PySem.W.Frag} {mg:Str→Option Value} {base:Heap}
theorem Fun.okR {x qual:Str} {st:Stmt} {f:Addr} {fd:FuncData} {N ps:List Str} {k:Nat} {sp:Sp} (F:Fun K x qual st f fd) (S:FnScope N ps (defScope st)) (len:∀vs H Q E,sp vs H Q E→vs.length=ps.length)
    (hbody:∀(cdv:Value) (A:Around) (outer:List Env) (s:Shared) (H:Hp) (vs:List V) (Q:VK) (E:XK),Room k (A.deeper (envOfC qual (defScope st) s.heap.objs.size f cdv))→sp vs H Q E→
      ∃t,PSs (cxR P w K mg base N qual (defScope st) f cdv A outer s H E) (defBody st) t∧t {nx:=fun _ H'=>Q .non H',rt:=Q} (start N vs) H):FnOk P w K mg base (CXR P w) (k+1) f fd ps sp:=by
  obtain⟨oc,od,kV,doc,pm,an,cdv,ct,osl,rfl,lk,hcd⟩:=F.ex
  exact fn_of lk hcd S len fun A outer s H vs Q E hr hsp=>hbody cdv A outer s H vs Q E hr hsp
end
end L2
namespace Wb
open PySem L2 Mi
def Esc (Er:Nat→Prop) (cs:List Addr) (E:XK) (W:Wd):Prop:=∀j,Er j→∀x W',Ext W W'→W'.H x=none→E (.ref x) cs[j]? W'.H
theorem Esc.mono {Er:Nat→Prop} {cs:List Addr} {E:XK} {W W':Wd} (h:Esc Er cs E W) (e:Ext W W'):Esc Er cs E W':=fun j hj x W1 e1 hx=>h j hj x W1 (e.trans e1) hx
section
variable {Er:Nat→Prop} {α β γ δ ε ζ η:Type}
def spX1 (R1:Rp α) (cs:List Addr) (rt:Rt β) (m:α→Res β):Sp:=fun vs H Q E=>∃(W:Wd) (a:α) (v:V),W.H=H∧vs=[v]∧R1 W.G a v∧∃Er:Nat→Prop,Esc Er cs E W∧(m a).OkE Er fun r=>rt W r Q
def spX2 (R1:Rp α) (R2:Rp γ) (cs:List Addr) (rt:Rt β) (m:α→γ→Res β):Sp:=fun vs H Q E=>∃(W:Wd) (a:α) (b:γ) (v u:V),W.H=H∧vs=[v,u]∧R1 W.G a v∧R2 W.G b u∧∃Er:Nat→Prop,Esc Er cs E W∧(m a b).OkE Er fun r=>rt W r Q
def spX3 (R1:Rp α) (R2:Rp γ) (R3:Rp δ) (cs:List Addr) (rt:Rt β) (m:α→γ→δ→Res β):Sp:=fun vs H Q E=>∃(W:Wd) (a:α) (b:γ) (c:δ) (v u w:V),W.H=H∧vs=[v,u,w]∧R1 W.G a v∧R2 W.G b u∧R3 W.G c w∧∃Er:Nat→Prop,Esc Er cs E W∧(m a b c).OkE Er fun r=>rt W r Q
def spX4 (R1:Rp α) (R2:Rp γ) (R3:Rp δ) (R4:Rp ε) (cs:List Addr) (rt:Rt β) (m:α→γ→δ→ε→Res β):Sp:=fun vs H Q E=>∃(W:Wd) (a:α) (b:γ) (c:δ) (d:ε) (v u w x:V),W.H=H∧vs=[v,u,w,x]∧R1 W.G a v∧R2 W.G b u∧R3 W.G c w∧R4 W.G d x∧∃Er:Nat→Prop,Esc Er cs E W∧(m a b c d).OkE Er fun r=>rt W r Q
variable {t1 t2 t3 t4 t5 t6:TE} {σ:St} {W W0 W':Wd} {cs:List Addr} {E:XK} {R1:Rp α} {R2:Rp γ} {R3:Rp δ} {R4:Rp ε} {R5:Rp ζ} {R6:Rp η} [Mono R1] [Mono R2] [Mono R3] [Mono R4] [Mono R5] [Mono R6] {m1:Res α} {m2:Res γ} {m3:Res δ} {m4:Res ε} {m5:Res ζ} {m6:Res η}
theorem ev_callX1 {R:Rp β} {m:α→Res β} (hE:Esc Er cs E W) (h1:EV Er t1 σ W (sh R1) m1):EV Er (tCall (spX1 R1 cs (rs R) m) [] E (tCons t1 tNil)) σ W (sh R) (m1.bind fun a=>m a):=fun W1 e1 Q k=>
  h1 W1 e1 _ ((Res.okE_bind k).imp fun a0 ka v0 W2 e2 r1=>⟨W2,a0,v0,rfl,rfl,r1,Er,hE.mono (e1.trans e2),ka.imp fun r kr u W' e hu=>kr u W' (e2.trans e) hu⟩)
theorem ev_callX2 {R:Rp β} {m:α→γ→Res β} (hE:Esc Er cs E W) (h1:EV Er t1 σ W (sh R1) m1) (h2:EV Er t2 σ W (sh R2) m2):EV Er (tCall (spX2 R1 R2 cs (rs R) m) [] E (tCons t1 (tCons t2 tNil))) σ W (sh R) (m1.bind fun a=>m2.bind fun b=>m a b):=fun W1 e1 Q k=>
  h1 W1 e1 _ ((Res.okE_bind k).imp fun a0 ka v0 W2 e2 r1=>h2 W2 (e1.trans e2) _ ((Res.okE_bind ka).imp fun b0 kb u0 W3 e3 r2=>⟨W3,a0,b0,v0,u0,rfl,rfl,MonoW.mono (R:=sh R1) e3 r1,r2,Er,hE.mono ((e1.trans e2).trans e3),kb.imp fun r kr u W' e hu=>kr u W' ((e2.trans e3).trans e) hu⟩))
theorem ev_callX3 {R:Rp β} {m:α→γ→δ→Res β} (hE:Esc Er cs E W) (h1:EV Er t1 σ W (sh R1) m1) (h2:EV Er t2 σ W (sh R2) m2) (h3:EV Er t3 σ W (sh R3) m3):EV Er (tCall (spX3 R1 R2 R3 cs (rs R) m) [] E (tCons t1 (tCons t2 (tCons t3 tNil)))) σ W (sh R) (m1.bind fun a=>m2.bind fun b=>m3.bind fun c=>m a b c):=fun W1 e1 Q k=>
  h1 W1 e1 _ ((Res.okE_bind k).imp fun a0 ka v0 W2 e2 r1=>h2 W2 (e1.trans e2) _ ((Res.okE_bind ka).imp fun b0 kb u0 W3 e3 r2=>h3 W3 ((e1.trans e2).trans e3) _ ((Res.okE_bind kb).imp fun c0 kc w0 W4 e4 r3=>⟨W4,a0,b0,c0,v0,u0,w0,rfl,rfl,MonoW.mono (R:=sh R1) (e3.trans e4) r1,MonoW.mono (R:=sh R2) e4 r2,r3,Er,hE.mono (((e1.trans e2).trans e3).trans e4),kc.imp fun r kr u W' e hu=>kr u W' (((e2.trans e3).trans e4).trans e) hu⟩)))
theorem ev_callX4 {R:Rp β} {m:α→γ→δ→ε→Res β} (hE:Esc Er cs E W) (h1:EV Er t1 σ W (sh R1) m1) (h2:EV Er t2 σ W (sh R2) m2) (h3:EV Er t3 σ W (sh R3) m3) (h4:EV Er t4 σ W (sh R4) m4):EV Er (tCall (spX4 R1 R2 R3 R4 cs (rs R) m) [] E (tCons t1 (tCons t2 (tCons t3 (tCons t4 tNil))))) σ W (sh R) (m1.bind fun a=>m2.bind fun b=>m3.bind fun c=>m4.bind fun d=>m a b c d):=fun W1 e1 Q k=>
  h1 W1 e1 _ ((Res.okE_bind k).imp fun a0 ka v0 W2 e2 r1=>h2 W2 (e1.trans e2) _ ((Res.okE_bind ka).imp fun b0 kb u0 W3 e3 r2=>h3 W3 ((e1.trans e2).trans e3) _ ((Res.okE_bind kb).imp fun c0 kc w0 W4 e4 r3=>h4 W4 (((e1.trans e2).trans e3).trans e4) _ ((Res.okE_bind kc).imp fun d0 kd x0 W5 e5 r4=>⟨W5,a0,b0,c0,d0,v0,u0,w0,x0,rfl,rfl,MonoW.mono (R:=sh R1) ((e3.trans e4).trans e5) r1,MonoW.mono (R:=sh R2) (e4.trans e5) r2,MonoW.mono (R:=sh R3) e5 r3,r4,Er,hE.mono ((((e1.trans e2).trans e3).trans e4).trans e5),kd.imp fun r kr u W' e hu=>kr u W' ((((e2.trans e3).trans e4).trans e5).trans e) hu⟩))))
end
theorem sv_raise {α:Type} {Er:Nat→Prop} {cs:List Addr} {E:XK} {C:Addr} {te:TE} {R:Rw α} {m:Res α} {D:Ends} {σ:St} {W:Wd} {j:Nat} {β:Type} {P:β→Prop} (hE:Esc Er cs E W) (hc:cs[j]? =some C) (h:EV Er te σ W R m) (q:(m.bind fun _=>(Res.err j:Res β)).OkE Er P):tRaise E C (tCons te tNil) D σ W.H:=
  h W (.refl _) _ ((Res.okE_bind q).imp fun a (ka:Er j) v W2 e2 hv=>⟨show 1≤sizeLine by decide,fun x hx=>by rw[←hc];exact hE j ka x W2 e2 hx⟩)
end Wb
namespace Wb
open PySem L2 Mi
structure CalR (P:Program) (w:World) (K:PySem.W.Frag) (mg:Str→Option Value) (base:Heap) (x:Str) (ps:List Str) (k:Nat) (sp:Sp):Prop where
  ex:∃(f:Addr) (fd:FuncData),FnOk P w K mg base (CXR P w) k f fd ps sp∧mg x=some (.ref f)∧PySem.W.keepIn K (.ref f)=true∧Binds K fd ps []
theorem pe_calR {X:Cx} {x:Str} {ps:List Str} {k:Nat} {sp:Sp} {E:XK} {p pos:Pos} {e:Expr} {es:List Expr} {t:TA} (C:CalR X.prog X.w X.K X.mg X.base x ps k sp) (hx:Passes (CXR X.prog X.w) X E) (hr:Room k X.A) (hg:Gl X x) (ha:PA X (e::es) t)
    (hdb:(x == ("__debug__" :Str))=false:=by decide) (he:starEach (e::es) X.env=(false,eval e X.env)::starEach es X.env:=by rfl) (hpl:(backTo pos (starEach es X.env)).any (·.1)=false:=by rfl):
    PE X (.Call (.Name x p) (e::es) [] pos) (tCall sp [] E t):=by
  obtain⟨f,fd,F,hm,hk,hb⟩:=C.ex
  exact pe_call F hr hg hm hk hb .nil hx ha hdb he hpl
structure CalH (P:Program) (w:World) (K:PySem.W.Frag) (mg:Str→Option Value) (base:Heap) (x:Str) (ps:List Str) (k:Nat) (sp:Addr→Addr→Sp):Prop where
  ex:∃(f:Addr) (fd:FuncData),FnOkH P w K mg base k f fd ps sp∧mg x=some (.ref f)∧PySem.W.keepIn K (.ref f)=true∧Binds K fd ps []
theorem pe_calH {X:Cx} {xn:Str} {ps:List Str} {k:Nat} {sp:Addr→Addr→Sp} {x C:Addr} {oe:Obj} {p pos:Pos} {e:Expr} {es:List Expr} {t:TA} (F:CalH X.prog X.w X.K X.mg X.base xn ps k sp) (hh:Held oe C) (hr:RoomH k X.A) (hA:X.A.handled=some (.ref x)) (hp:(x,oe)∈X.pn) (hg:Gl X xn) (ha:PA X (e::es) t)
    (hdb:(xn == ("__debug__" :Str))=false:=by decide) (he:starEach (e::es) X.env=(false,eval e X.env)::starEach es X.env:=by rfl) (hpl:(backTo pos (starEach es X.env)).any (·.1)=false:=by rfl):
    PE X (.Call (.Name xn p) (e::es) [] pos) (tCall (sp x C) [] E0 t):=by
  obtain⟨f,fd,F,hm,hk,hb⟩:=F.ex
  exact pe_callH F hr hA hh hp hg hm hk hb ha hdb he hpl
def spKinds (K:PySem.W.Frag) (cs:List Addr) (aB:Addr) (x C:Addr):Sp:=fun vs H Q _=>∃(W:Wd) (j:Nat),W.H=H∧vs=[.ref x]∧XK1 K C∧j< 13∧(∀i a,cs[i]? =some a→PySem.W.kitOne K (.ref C) (.ref a)=some (decide (i=j)))∧PySem.W.kitOne K (.ref C) (.ref aB)=some true∧PySem.W.kitOne K (.ref C) (.type "ValueError")=some true∧∀p W',Ext W W'→W.H p=none→Ow isS W' p [kindN.getD j []]→Q (.ref p) W'.H
structure Kin (K:PySem.W.Frag) (base:Heap) (cs:List Addr) (aB:Addr):Prop where
  len:cs.length=13
  top:∃bm,Xcl base aB bm
  one:∀(j:Nat) (C:Addr),cs[j]? =some C→XK1 K C∧(∀(i:Nat) (a:Addr),cs[i]? =some a→PySem.W.kitOne K (.ref C) (.ref a)=some (decide (i=j)))∧PySem.W.kitOne K (.ref C) (.ref aB)=some true∧PySem.W.kitOne K (.ref C) (.type "ValueError")=some true∧∃bm,Xcl base C bm∧(Value.ref C::bm).contains (.ref aB)=true
def EX (K:PySem.W.Frag) (cs:List Addr) (s:Tx) (W0:Wd) (Q:VK):XK:=fun _ C H'=>∃(j:Nat) (W':Wd),C=cs[j]? ∧W'.H=H'∧Ext W0 W'∧rs (isU K) W0 (refD s j) Q
section
variable {K:PySem.W.Frag} {base:Heap} {cs:List Addr} {aB:Addr} {W0 W:Wd} {Q:VK} {s:Tx} {ie:Nat} {σ:St} {D:Ends}
theorem EX.cl (Z:Kin K base cs aB):∀v C H,EX K cs s W0 Q v (some C) H→∃bmC,Xcl base C bmC∧(Value.ref C::bmC).contains (.ref aB)=true:=fun v C H ⟨j,W',h,_⟩=>(Z.one j C h.symm).2.2.2.2
theorem suite_ok (Z:Kin K base cs aB) {x C:Addr} {H':Hp} {σ':St} {xs:Str} (hs:xs=sOf s) (hD:D.rt=Q) (h:EX K cs s W0 Q (.ref x) (some C) H') (hi:ie< σ'.length):
    tRet (tTup (tCons (tC (.str xs)) (tCons (tCall (spKinds K cs aB x C) [] E0 (tCons (tVar ie) tNil)) tNil))) D (σ'.set ie (some (.ref x))) H':=by
  obtain⟨j,W',hj,rfl,e,q⟩:=h
  obtain⟨z1,z2,z3,z4,_⟩:=Z.one j C hj.symm
  have hj':j< 13:=by rw[←Z.len];exact(List.getElem?_eq_some_iff.mp hj.symm).1
  have hk:EVo (fun _=>False) (tCall (spKinds K cs aB x C) [] E0 (tCons (tVar ie) tNil)) (σ'.set ie (some (.ref x))) W' isS (.ok [kindN.getD j []]):=fun W1 e1 Q1 k=>
    ⟨.ref x,by rw[List.getElem?_set_self hi],W1,j,rfl,rfl,z1,hj',z2,z3,z4,fun p W2 e2 hp o=>k p W2 e2 hp o⟩
  refine sv_ret (R:=sh (isU K)) (m:=.ok (refD s j)) (ev_toU (K:=K) (toU_2 toU_s (toU_l toU_s)) (ev_tup2 (K:=K) (ev_str (x:=xs) (l:=s) hs) (EVo.ev hk))) (fun v W2 e2 hv=>?_)
  rw[hD]
  exact q v W2 (e.trans e2) hv
end
end Wb
namespace Wb
open PySem L2 Mi
section
variable {α β γ δ:Type} {K:PySem.W.Frag} {base:Heap} {cs:List Addr} {aB:Addr} {W0 W:Wd} {Q:VK} {s:Tx} {ie i:Nat} {σ:St} {D:Ends} {t1 t2 t3:TE} {R1:Rp α} {R2:Rp γ} {R3:Rp δ} {R:Rp β} [Mono R1] [Mono R2] [Mono R3] {m1:Res α} {m2:Res γ} {m3:Res δ} {rest:TS} {σ':V→St} {xs:Str}
abbrev tSuite (K:PySem.W.Frag) (cs:List Addr) (aB:Addr) (ie:Nat) (xs:Str):Addr→Addr→Obj→TS:=fun x C _=>tRet (tTup (tCons (tC (.str xs)) (tCons (tCall (spKinds K cs aB x C) [] E0 (tCons (tVar ie) tNil)) tNil)))
def rTry (K:PySem.W.Frag) (W0 W:Wd) (Q:VK) (s:Tx) (R:Rp β) (D:Ends) (rest:TS) (σ':V→St):β ⊕ Nat→Prop
  | .inl y=>∀v W',Ext W W'→R W'.G y v→rest D (σ' v) W'.H
  | .inr j=>rs (isU K) W0 (refD s j) Q
theorem sv_tryA {Er:Nat→Prop} {te:TE} {m:Res β} (e0:Ext W0 W) (Z:Kin K base cs aB) (hs:xs=sOf s) (hD:D.rt=Q) (h:∀Er',Esc Er' cs (EX K cs s W0 Q) W→EV Er' te σ W (sh R) m)
    (q:(Res.tryR m).OkE Er (rTry K W0 W Q s R D rest σ')) (hi:ie< σ.length:=by first | decide | simp) (hσ:∀v,σ.set i (some v)=σ' v:=by intro _;rfl):
    tSeq (tTry (EX K cs s W0 Q) ie (tAsg te (gName i)) (tSuite K cs aB ie xs)) rest D σ W.H:=by
  refine⟨h (fun j=>rs (isU K) W0 (refD s j) Q) (fun j hj x W' e hx=>⟨j,W',rfl,rfl,e0.trans e,hj⟩) W (.refl _) _ ((Res.tryR_OkE q).imp fun y ky v W' e hr=>?_),fun x C oe σ1 H1 hE hx hh hl=>suite_ok Z hs hD hE (by rw[hl];exact hi)⟩
  have:=ky v W' e hr
  rw[←hσ]at this
  exact this
end
end Wb
namespace Wb
open PySem L2 Mi
end Wb
namespace Wb
open PySem L2 Mi
open PySem.W (findIn findObj mroIn kitOne kitCls clsIn typeIn subIn specialIn takesIn Frag)
def vE:List Value:=[.type "ValueError",.type "Exception",.type "BaseException",.type "object"]
def XcK (K:Frag) (C N:Addr) (bm:List Value):Prop:=∃nm q bs hdct sn sub ab col dd k0 k1 k2 k3 k5,K.lookup C=some (excClassObj nm q C N bs bm hdct sn sub ab col dd k0 k1 k2 k3 k5 "ValueError.__new__")
structure Cx1 (K:Frag) (aB C:Addr):Prop where
  at_:∃N,XcK K C N (.ref aB::vE)
  ga:findIn K (.ref C) "__getattribute__" =some (some (.builtin "BaseException.__getattribute__"))
  gt:findIn K (.ref C) "__getattr__" =some none
  cl:findIn K (.ref C) "__class__" =some (some (.builtin "object.__class__"))
section
variable {K:Frag} {base:Heap} {C D N:Addr} {bm bm':List Value}
theorem XcK.cls (x:XcK K C N bm):∃cd,clsIn K C=some cd∧cd.mro=.ref C::bm∧typeIn K (.ref C)=some (.type "type"):=by
  obtain⟨nm,q,bs,hdct,sn,sub,ab,col,dd,k0,k1,k2,k3,k5,e⟩:=x
  refine⟨{name:=nm,bases:=bs,mro:=.ref C::bm,ns:=N,qualname:=q,hasDict:=hdct,slotNames:=sn,subclasses:=sub,abstract:=ab,collection:=col,hasDel:=false},?_,rfl,?_⟩
  · unfold clsIn;rw[e]
  · show Option.map (fun x=>x.cls) (List.lookup C K)=_
    rw[e];rfl
theorem XcK.xcl (x:XcK K C N bm) (X:K.In base) (hb:bm.contains (.type "BaseException")=true):Xcl base C bm:=by
  obtain⟨nm,q,bs,hdct,sn,sub,ab,col,dd,k0,k1,k2,k3,k5,e⟩:=x
  exact⟨nm,q,N,bs,hdct,sn,sub,ab,col,dd,k0,k1,k2,k3,k5,_,X _ _ e,hb⟩
theorem XcK.mro (x:XcK K C N bm) (v:Value):mroIn K C v=some ((Value.ref C::bm).contains v):=by
  obtain⟨cd,h1,h2,_⟩:=x.cls
  unfold mroIn
  rw[h1,Option.bind_some,h2]
  rfl
theorem XcK.kit {N':Addr} (x:XcK K C N bm) (y:XcK K D N' bm'):kitOne K (.ref C) (.ref D)=some ((Value.ref C::bm).contains (.ref D)):=by
  obtain⟨cd,h1,h2,h3⟩:=y.cls
  unfold kitOne
  by_cases e:(Value.ref C == Value.ref D)=true
  · rw[if_pos e]
    rw[beq_iff_eq.mp e,List.contains_cons]
    simp
  · rw[if_neg e]
    show(if((clsIn K D).isSome && typeIn K (.ref D) == some (.type "type"))=true then subIn K (.ref C) (.ref D)else none)=_
    rw[h1,h3,if_pos (by simp)]
    exact x.mro _
theorem XcK.kitT {T:String} (x:XcK K C N bm) (hT:PySem.W.kitMeta T=true):kitOne K (.ref C) (.type T)=some ((Value.ref C::bm).contains (.type T)):=by
  unfold kitOne
  rw[if_neg (by intro z;cases beq_iff_eq.mp z)]
  show(if PySem.W.kitMeta T=true then subIn K (.ref C) (.type T)else none)=_
  rw[if_pos hT]
  exact x.mro _
end
theorem Cx1.xk {K:Frag} {aB C:Addr} (x:Cx1 K aB C) (hn:specialIn K (.builtin "object.__class__") "__get__" =some (some (.builtin "getset_descriptor.__get__"))) (ht:takesIn K (.builtin "object.__class__")=some true):XK1 K C:=by
  obtain⟨N,h⟩:=x.at_
  refine⟨x.ga,x.gt,?_,?_,?_⟩
  · obtain⟨cd,h1,h2,h3⟩:=h.cls
    unfold findObj
    rw[h1,Option.bind_some,x.cl,Option.bind_some]
    simp[hn,ht]
  · rw[h.mro];simp[vE]
  · rw[h.mro];simp[vE]
theorem nodup_ixA {α:Type} :∀{l:List α},l.Nodup→∀{i j:Nat} {x:α},l[i]? =some x→l[j]? =some x→i=j
  | [],_,i,j,x,a,_=>by simp at a
  | y::r,nd,0,0,x,a,b=>rfl
  | y :: r, nd, 0, j + 1, x, a, b => by
    simp at a b
    subst a
    exact absurd (List.mem_of_getElem? b) (List.nodup_cons.mp nd).1
  | y :: r, nd, i + 1, 0, x, a, b => by
    simp at a b
    subst b
    exact absurd (List.mem_of_getElem? a) (List.nodup_cons.mp nd).1
  | y :: r, nd, i + 1, j + 1, x, a, b => by
    simp at a b
    rw[nodup_ixA (List.nodup_cons.mp nd).2 a b]
theorem Kin.of {K:Frag} {base:Heap} {cs:List Addr} {aB NB:Addr} (X:K.In base) (hn:specialIn K (.builtin "object.__class__") "__get__" =some (some (.builtin "getset_descriptor.__get__"))) (ht:takesIn K (.builtin "object.__class__")=some true)
    (len:cs.length=13) (nd:(aB::cs).Nodup) (top:XcK K aB NB vE) (all:∀C∈cs,Cx1 K aB C):Kin K base cs aB:=by
  have one:∀(j:Nat) (C:Addr),cs[j]? =some C→C∈cs:=fun j C h=>List.mem_of_getElem? h
  refine⟨len,⟨vE,top.xcl X (by decide)⟩,fun j C h=>?_⟩
  have hC:=all C (one j C h)
  obtain⟨N,hx⟩:=hC.at_
  refine⟨hC.xk hn ht,fun i a hi=>?_,?_,?_,.ref aB::vE,hx.xcl X (by simp[vE]),by simp⟩
  · have ha:=all a (one i a hi)
    obtain⟨N',hy⟩:=ha.at_
    rw[hx.kit hy]
    have nB:a≠aB:=fun z=>(List.nodup_cons.mp nd).1 (z▸one i a hi)
    have nd':=(List.nodup_cons.mp nd).2
    have key:(a=C)↔i=j:=by
      constructor
      · intro z
        subst z
        obtain⟨l1,e1⟩:=List.getElem?_eq_some_iff.mp hi
        obtain⟨l2,e2⟩:=List.getElem?_eq_some_iff.mp h
        exact nodup_ixA nd' hi h
      · intro z
        subst z
        rw[hi]at h
        exact Option.some.inj h
    by_cases z:i=j
    · have:=key.mpr z
      subst this
      simp[z]
    · have:¬a=C:=fun y=>z (key.mp y)
      simp[z,this,nB,vE]
  · rw[hx.kit top];simp
  · rw[hx.kitT (by decide +kernel)];simp[vE]
theorem Ecl.of {K:Frag} {base:Heap} {aB C N NB:Addr} {o oB:Obj} {es eB:Array DictEntry} {ep pB:Nat} (X:K.In base) (h:XcK K C N (.ref aB::vE)) (hB:XcK K aB NB vE) (n:K.lookup N=some o) (d:o.data=.dict es ep) (k:StrKeys es) (i:nsFind es "__init__" =none)
    (nB:K.lookup NB=some oB) (dB:oB.data=.dict eB pB) (kB:StrKeys eB) (iB:nsFind eB "__init__" =none):Ecl base C:=by
  obtain⟨nm,q,bs,hdct,sn,sub,ab,col,dd,k0,k1,k2,k3,k5,e⟩:=h
  obtain⟨nm',q',bs',hdct',sn',sub',ab',col',dd',k0',k1',k2',k3',k5',e'⟩:=hB
  exact⟨nm,q,N,bs,.ref aB::vE,hdct,sn,sub,ab,col,dd,k0,k1,k2,k3,k5,_,fun x=>nsFind es x,"ValueError",_,vE,X _ _ e,⟨o,es,ep,X _ _ n,d,k,fun _=>rfl⟩,i,.own (X _ _ e') ⟨oB,eB,pB,X _ _ nB,dB,kB,fun _=>rfl⟩ iB .base,PySem.F.excBase_ValueError⟩
def isStrV:Value→Bool
  | .str _ _=>true
  | _=>false
theorem strKeys_of {es:Array DictEntry} (h:(es.toList.all fun e=>isStrV e.key)=true):StrKeys es:=fun e he=>by
  have:=List.all_eq_true.mp h e (Array.mem_toList_iff.mpr he)
  unfold isStrV at this
  split at this
  · rename_i n t q;exact⟨n,t,q⟩
  · cases this
end Wb
namespace Wb
open PySem L2 Mi
theorem inV_txts (a:Tx) (b:List Tx):inV (.str (sOf a)) (b.map fun x=>V.str (sOf x))=b.contains a:=by
  unfold inV
  rw[List.any_map,Bool.eq_iff_iff,List.any_eq_true,List.contains_iff_mem]
  constructor
  · rintro ⟨x,hx,e⟩
    have:sOf x=sOf a:=by simpa [L2.eqV] using e
    rw[←sOf_inj this];exact hx
  · intro h
    exact⟨a,h,by simp[L2.eqV]⟩
end Wb
namespace L2
open PySem PySem.Spec PyProof.Rows
abbrev TJ:=Str→St→Hp→(Str→Hp→Prop)→Prop
def PJ (X:Cx) (es:List Expr) (t:TJ):Prop:=∀(acc:Str) (pins:List (Addr×Obj)) (s:Shared) (σ:St) (H:Hp) (Q:Str→Hp→Prop),Inv X pins σ H s→t acc σ H Q→
  Joins (model X.prog X.w) X.A X.xe (evalEach es X.env) acc (fun out s1=>∃H1,Inv X pins σ H1 s1∧Q out H1) s
def jNil:TJ:=fun acc _ H Q=>Q acc H
def jStr (x:Str) (t:TJ):TJ:=fun acc σ H Q=>(acc++x).length≤sizeLine∧t (acc++x) σ H Q
def jVal (te:TE) (t:TJ):TJ:=fun acc σ H Q=>te σ H fun v H1=>∃y:Str,((v=.str y∧y.length≤sizeLine)∨∃i:Int,v=.int i∧i.natAbs.log2< 1920∧y=Str.ofString (toString i))∧(acc++y).length≤sizeLine∧t (acc++y) σ H1 Q
def tJoin (t:TJ):TE:=fun σ H Q=>t Str.empty σ H fun out H1=>out.length≤sizeLine∧Q (.str out) H1
section
variable {X:Cx} {e:Expr} {es:List Expr} {te:TE} {t:TJ} {pos:Pos}
theorem pj_nil:PJ X [] jNil:=fun acc pins s σ H Q I h=>⟨H,I,h⟩
theorem pj_str {x:Str} {k} (ht:PJ X es t):PJ X (.Constant (.str x) k pos::es) (jStr x t):=fun acc pins s σ H Q I h=>by
  have:=(pe_str (X:=X) (pos:=pos) (j:=k) (x:=x)) pins s σ H (fun v H1=>v=.str x∧H1=H) I ⟨rfl,rfl⟩
  refine thn this fun v s1 ⟨u,H1,I1,r,e1,e2⟩=>?_
  rw[e1]at r
  rw[e2]at I1
  obtain⟨tk,rfl⟩:=r
  exact⟨x,_,rfl,h.1,ht _ pins s1 σ H Q I1 h.2⟩
theorem pj_val (he:PE X e te) (ht:PJ X es t):PJ X (.FormattedValue e (-1) none pos::es) (jVal te t):=fun acc pins s σ H Q I h=>by
  show wpAny _ _ (eval (.FormattedValue e (-1) none pos) X.env) _ _ _
  refine wpAny_FormattedValue_plain (thn (he pins s σ H _ I h) fun v s1 ⟨u,H1,I1,r,y,hy,hl,q⟩=>?_)
  rcases hy with⟨rfl,hz⟩ | ⟨i,rfl,hz,rfl⟩
  · obtain⟨tk,rfl⟩:=r
    refine wpAny_formatField_str ?_ ?_ hz
    · exact⟨y,_,rfl,hl,ht _ pins _ σ H1 Q I1 q⟩
    · exact⟨y,_,rfl,hl,ht _ pins _ σ H1 Q (I1.tok _) q⟩
  · obtain⟨tk,rfl⟩:=r
    refine wpAny_formatField_int hz ?_
    exact⟨_,_,rfl,hl,ht _ pins _ σ H1 Q (I1.tok _) q⟩
theorem pe_joined {e1 e2:Expr} (ht:PJ X (e1::e2::es) t):PE X (.JoinedStr (e1::e2::es) pos) (tJoin t):=fun pins s σ H Q I h=>by
  refine wpAny_JoinedStr ?_
  have mono:∀(es:List (Sem Value)) (acc:Str) (P P':Str→Shared→Prop) (s:Shared),(∀o s,P o s→P' o s)→Joins (model X.prog X.w) X.A X.xe es acc P s→Joins (model X.prog X.w) X.A X.xe es acc P' s:=by
    intro es
    induction es with
    | nil=>intro acc P P' s k h;exact k _ _ h
    | cons a r ih=>intro acc P P' s k h;exact thn h fun v s1 ⟨y,t,e,l,q⟩=>⟨y,t,e,l,ih _ _ _ _ k q⟩
  refine mono _ _ _ _ _ (fun o s1 ⟨H1,I1,hz,q⟩=>⟨hz,.str o,H1,I1.tok _,⟨_,rfl⟩,q⟩) (ht Str.empty pins s σ H _ I h)
end
end L2
namespace Wb
open PySem L2 Mi
theorem numT_eq (i:Int):Str.ofString (toString i)=sOf (numT i):=by rw[Str.ofString_eq_toList];rfl
def JV (Er:Nat→Prop) (t:TJ) (σ:St) (W:Wd) (f:Tx→Res Tx):Prop:=∀W1,Ext W W1→∀(acc:Tx) (Q:Str→Hp→Prop),(f acc).OkE Er (fun out=>∀W2,Ext W1 W2→Q (sOf out) W2.H)→t (sOf acc) σ W1.H Q
section
variable {Er:Nat→Prop} {te:TE} {t:TJ} {σ:St} {W:Wd} {f:Tx→Res Tx}
theorem jv_nil:JV Er jNil σ W fun acc=>.ok acc:=fun W1 _ acc Q k=>k W1 (.refl _)
theorem jv_str {x:Str} {l:Tx} (hx:x=sOf l) (h:JV Er t σ W f):JV Er (jStr x t) σ W fun acc=>(catS acc l).bind f:=fun W1 e1 acc Q k=>by
  obtain⟨h1,h2⟩:=must_OkE (Res.okE_bind k)
  subst hx
  refine⟨?_,?_⟩ <;> rw[sOf_append]
  · rw[sOf_len,List.length_append];exact capL h1
  · exact h W1 e1 _ Q h2
theorem jv_valS {m:Res Tx} (he:EV Er te σ W (sh isS) m) (h:JV Er t σ W f):JV Er (jVal te t) σ W fun acc=>m.bind fun y=>(catS acc y).bind f:=fun W1 e1 acc Q k=>
  he W1 e1 _ ((Res.okE_bind k).imp fun y ky v W2 e2 hv=>by
    cases hv
    obtain⟨h1,h2⟩:=must_OkE (Res.okE_bind ky)
    refine⟨sOf y,.inl ⟨rfl,by rw[sOf_len];exact capL (by omega)⟩,?_,?_⟩ <;> rw[sOf_append]
    · rw[sOf_len,List.length_append];exact capL h1
    · exact h W2 (e1.trans e2) _ Q (h2.imp fun out ko W3 e3=>ko W3 (e2.trans e3)))
theorem jv_valI {m:Res Int} (he:EV Er te σ W (sh isI) m) (h:JV Er t σ W f):JV Er (jVal te t) σ W fun acc=>m.bind fun i=>(fmtI i).bind fun y=>(catS acc y).bind f:=fun W1 e1 acc Q k=>
  he W1 e1 _ ((Res.okE_bind k).imp fun i ki v W2 e2 hv=>by
    cases hv
    obtain⟨h0,ky⟩:=must_OkE (Res.okE_bind ki)
    obtain⟨h1,h2⟩:=must_OkE (Res.okE_bind ky)
    refine⟨Str.ofString (toString i),.inr ⟨i,rfl,h0,rfl⟩,?_,?_⟩ <;> rw[numT_eq,sOf_append]
    · rw[sOf_len,List.length_append];exact capL h1
    · exact h W2 (e1.trans e2) _ Q (h2.imp fun out ko W3 e3=>ko W3 (e2.trans e3)))
theorem ev_joined (h:JV Er t σ W f):EV Er (tJoin t) σ W (sh isS) ((f []).bind capS):=fun W1 e1 Q k=>
  h W1 e1 [] _ ((Res.okE_bind k).imp fun out ko W2 e2 => by
    obtain⟨h1,h2⟩:=must_OkE ko
    exact⟨by rw[sOf_len];exact capL h1,h2 _ W2 e2 rfl⟩)
end
end Wb
namespace Mi
abbrev Fr:=(Tx×Int)×List Dat
def pushS (s:List Fr) (a:Tx×Int):Res (List Fr):=must (s.length< cap) ((a,[])::s)
def appS (s:List Fr) (d:Dat):Res (List Fr):=match s with | []=>.stuck | f::r=>must (f.2.length< cap) ((f.1,f.2++ [d])::r)
def topS (s:List Fr):Res Unit:=match s with | []=>.stuck | _::_=>.ok ()
def popS (s:List Fr):Res (Fr×List Fr):=match s with | []=>.stuck | f::r=>.ok (f,r)
def lastS (s:List Fr):Res (List Dat):=match s.getLast? with | some f=>.ok f.2 | none=>.stuck
def whileR {S:Type} (c:S→Res Bool) (f:S→Res S):Nat→S→Res S
  | 0,_=>.stuck
  | n+1,s=>(c s).bind fun b=>if b then(f s).bind fun s'=>whileR c f n s' else .ok s
end Mi
namespace Mi
def glueT (sep:Tx):List Tx→Tx
  | []=>[]
  | [x]=>x
  | x::y::r=>x++(sep++glueT sep (y::r))
def joinS (sep:Tx) (xs:List Tx):Res Tx:=must (xs.flatten.length+xs.length*sep.length≤cap) (glueT sep xs)
end Mi
namespace Wb
open PySem L2 Mi
def FrR (K:PySem.W.Frag) (W0 W:Wd) (t q:Addr) (f:Fr):Prop:=(∃hv,SqT K W.G t [hv,.ref q]∧isT2 K isS isI W.G f.1 hv)∧Ow (isU K) W q f.2∧W0.H q=none
def FrsR (K:PySem.W.Frag) (W0 W:Wd):List Addr→List Addr→List Fr→Prop
  | [],[],[]=>True
  | t::ts,q::qs,f::fs=>FrR K W0 W t q f∧FrsR K W0 W ts qs fs
  | _,_,_=>False
structure OwS (K:PySem.W.Frag) (W0 W:Wd) (p:Addr) (s:List Fr):Prop where
  ex:∃ts qs:List Addr,W.G p=none∧W0.H p=none∧W.H p=some (.lst (ts.map V.ref).reverse)∧(p::qs).Nodup∧FrsR K W0 W ts qs s
section
variable {Er:Nat→Prop} {K:PySem.W.Frag} {W0 W W':Wd} {p:Addr} {s:List Fr} {te:TE} {σ:St} {D:Ends} {i a b:Nat} {r:TS} {E:XK}
theorem FrR.keep {t q:Addr} {f:Fr} (h:FrR K W0 W t q f) (hs:Same W.G W'.G) (h1:W'.H q=W.H q) (h2:W'.G q=W.G q):FrR K W0 W' t q f:=by
  obtain⟨⟨hv,a,b⟩,c,d⟩:=h
  exact⟨⟨hv,Same.tup hs a,Mono.mono hs b⟩,c.keep h1 hs h2,d⟩
theorem FrsR.keep:∀{ts qs:List Addr} {s:List Fr},FrsR K W0 W ts qs s→Same W.G W'.G→(∀q∈qs,W'.H q=W.H q∧W'.G q=W.G q)→FrsR K W0 W' ts qs s
  | [],[],[],_,_,_=>trivial
  | t::ts,q::qs,f::fs,h,hs,hq=>⟨h.1.keep hs (hq q (List.mem_cons_self ..)).1 (hq q (List.mem_cons_self ..)).2,FrsR.keep h.2 hs fun x hx=>hq x (List.mem_cons_of_mem _ hx)⟩
  | [],[],_::_,h,_,_=>h.elim
  | [],_::_,_,h,_,_=>h.elim
  | _::_,[],_,h,_,_=>h.elim
  | _::_,_::_,[],h,_,_=>h.elim
theorem FrsR.there:∀{ts qs:List Addr} {s:List Fr},FrsR K W0 W ts qs s→∀q∈qs,W.H q≠none∧W0.H q=none∧W.G q=none
  | [],[],[],_=>fun q h=>(List.not_mem_nil h).elim
  | t :: ts, q :: qs, f :: fs, h => fun x hx => by
    rcases List.mem_cons.mp hx with rfl | hx
    · obtain⟨vs,e,_⟩:=h.1.2.1.h
      exact⟨by rw[e];exact fun z=>(nomatch z),h.1.2.2,h.1.2.1.g⟩
    · exact FrsR.there h.2 x hx
  | [],[],_::_,h=>h.elim
  | [],_::_,_,h=>h.elim
  | _::_,[],_,h=>h.elim
  | _::_,_::_,[],h=>h.elim
theorem FrsR.ext {ts qs:List Addr} (h:FrsR K W0 W ts qs s) (e:Ext W W'):FrsR K W0 W' ts qs s:=h.keep e.g fun q hq=>by
  have hn:=(h.there q hq).1
  obtain⟨o,ho⟩:=Option.ne_none_iff_exists'.mp hn
  exact⟨by rw[e.h q o ho,ho],e.k q hn⟩
theorem FrsR.len:∀{ts qs:List Addr} {s:List Fr},FrsR K W0 W ts qs s→ts.length=s.length
  | [],[],[],_=>rfl
  | t::ts,q::qs,f::fs,h=>by simp[FrsR.len h.2]
  | [],[],_::_,h=>h.elim
  | [],_::_,_,h=>h.elim
  | _::_,[],_,h=>h.elim
  | _::_,_::_,[],h=>h.elim
theorem OwS.mono (o:OwS K W0 W p s) (e:Ext W W'):OwS K W0 W' p s:=by
  obtain⟨ts,qs,h1,h2,h3,h4,h5⟩:=o.ex
  have keep:∀q,W.H q≠none→W'.H q=W.H q∧W'.G q=W.G q:=fun q hq=>by
    obtain⟨o,ho⟩:=Option.ne_none_iff_exists'.mp hq
    exact⟨by rw[e.h q o ho,ho],e.k q hq⟩
  have hp:W.H p≠none:=by rw[h3];exact fun z=>nomatch z
  exact⟨ts,qs,by rw[(keep p hp).2];exact h1,h2,by rw[(keep p hp).1];exact h3,h4,h5.keep e.g fun q hq=>keep q (h5.there q hq).1⟩
theorem OwS.cons {f:Fr} (o:OwS K W0 W p (f::s)):∃(t q:Addr) (ts qs:List Addr),W.G p=none∧W0.H p=none∧W.H p=some (.lst ((ts.map V.ref).reverse++ [.ref t]))∧(p::q::qs).Nodup∧FrR K W0 W t q f∧FrsR K W0 W ts qs s:=by
  obtain⟨ts,qs,h1,h2,h3,h4,h5⟩:=o.ex
  match ts,qs,h5,h3,h4 with
  | t::ts,q::qs,h5,h3,h4=>exact⟨t,q,ts,qs,h1,h2,by rw[h3];simp,h4,h5.1,h5.2⟩
  | [],[],h5,_,_=>exact h5.elim
  | [],_::_,h5,_,_=>exact h5.elim
  | _::_,[],h5,_,_=>exact h5.elim
theorem atI_last {α:Type} (l:List α) (x:α):L2.atI (l++ [x]) (-1)=some x:=by
  unfold L2.atI L2.ixN
  rw[if_neg (by decide),if_pos (by simp;omega)]
  show(l++ [x])[((-1:Int)+((l++ [x]).length:Int)).toNat]? =_
  rw[show((-1:Int)+((l++ [x]).length:Int)).toNat=l.length by simp;omega]
  simp
theorem top_list {f:Fr} {Q:VK} (o:OwS K W0 W p (f::s)) (hi:σ[i]? =some (some (.ref p))) (q:∀q:Addr,(∃t ts qs,W.G p=none∧W0.H p=none∧W.H p=some (.lst ((ts.map V.ref).reverse++ [.ref t]))∧(p::q::qs).Nodup∧FrR K W0 W t q f∧FrsR K W0 W ts qs s)→Q (.ref q) W.H):
    tOp (rIxT K) (tOp (rIxL K) (tVar i) (tUn (rU fun i=>.int (-i)) (tC (.int 1)))) (tC (.int 1)) σ W.H Q:=by
  obtain⟨t,q',ts,qs,h1,h2,h3,h4,h5,h6⟩:=o.cons
  obtain⟨⟨hv,ht,hh⟩,ho,hq⟩:=h5
  refine⟨.ref p,hi,1,rfl,p,_, -1,.ref t,rfl,rfl,SqL.of h3,atI_last _ _,?_⟩
  exact⟨t,_,1,.ref q',rfl,rfl,Same.tup W.ok ht,rfl,q q' ⟨t,ts,qs,h1,h2,h3,h4,⟨⟨hv,ht,hh⟩,ho,hq⟩,h6⟩⟩
theorem ev_stkLen (o:OwS K W0 W p s) (hi:σ[i]? =some (some (.ref p)):=by rfl):EV Er (tCB (fun xs H Q=>∃x n,xs=[x]∧LenV K x H n∧Q (.int n) H) (tCons (tVar i) tNil)) σ W (sh isI) (.ok (s.length:Int)):=fun W1 e1 Q k=>by
  obtain⟨ts,qs,h1,h2,h3,h4,h5⟩:=(o.mono e1).ex
  exact⟨.ref p,hi,_,s.length,rfl,.inl ⟨_,SqL.of h3,by rw[List.length_reverse,List.length_map,h5.len]⟩,k _ W1 (.refl _) rfl⟩
theorem sv_stkNew {σ':Addr→St} {m:Res (Tx×Int)} (e0:Ext W0 W) (h:EV Er te σ W (sh (isT2 K isS isI)) m) (q:m.OkE Er fun a=>∀p W',Ext W W'→OwS K W0 W' p [(a,[])]→D.nx (σ' p) W'.H) (hσ:∀p,σ.set i (some (.ref p))=σ' p:=by intro _;rfl):
    tAsg (tLst (tCons (tTup (tCons te (tCons (tLst tNil) tNil))) tNil)) (gName i) D σ W.H:=by
  refine h W (.refl _) _ (q.imp fun a ka hv W1 e1 hh=>⟨by decide,fun q1 hq1=>⟨by show 2≤sizeLine;decide,fun t ht=>⟨by show 1≤sizeLine;decide,fun p hp=>?_⟩⟩⟩)
  have x1:Ext W1 (W1.mut q1 (.lst []) (W1.gnone hq1)):=.own _ hq1
  have x2:Ext (W1.mut q1 (.lst []) (W1.gnone hq1)) ((W1.mut q1 (.lst []) (W1.gnone hq1)).new t (.tup [hv,.ref q1])):=.new _ ht
  have x3:Ext ((W1.mut q1 (.lst []) (W1.gnone hq1)).new t (.tup [hv,.ref q1])) (((W1.mut q1 (.lst []) (W1.gnone hq1)).new t (.tup [hv,.ref q1])).mut p (.lst [.ref t]) (Wd.gnone _ hp)):=.own _ hp
  have x:=((e1.trans x1).trans x2).trans x3
  have:=ka p _ x ⟨[t],[q1],Wd.gnone ((W1.mut q1 (.lst []) (W1.gnone hq1)).new t (.tup [hv,.ref q1])) hp,none_of (((e0.trans e1).trans x1).trans x2).h hp,upd_same,?_,⟨⟨hv,SqT.of upd_same,Mono.mono ((x1.trans x2).trans x3).g hh⟩,?_,none_of (e0.trans e1).h hq1⟩,trivial⟩
  · rw[←hσ]at this;exact this
  · have ne:p≠q1:=fun z=>by
      rw[z]at hp
      have:=x2.h q1 (.lst []) upd_same
      exact nomatch this.symm.trans hp
    simp[ne]
  · have:Ow (isU K) (W1.mut q1 (.lst []) (W1.gnone hq1)) q1 ([]:List Dat):=⟨W1.gnone hq1,[],upd_same,.nil⟩
    exact this.mono (x2.trans x3)
theorem sv_stkPush {m:Res (Tx×Int)} (e0:Ext W0 W) (o:OwS K W0 W p s) (h:EV Er te σ W (sh (isT2 K isS isI)) m) (q:(m.bind fun a=>pushS s a).OkE Er fun s'=>∀W',Ext W0 W'→Same W.G W'.G→OwS K W0 W' p s'→D.nx σ W'.H) (hi:σ[i]? =some (some (.ref p)):=by rfl):
    tDrop (tBM K "list" rAppend (tVar i) (tCons (tTup (tCons te (tCons (tLst tNil) tNil))) tNil)) D σ W.H:=by
  obtain⟨ts0,qs0,_,_,h30,_,_⟩:=o.ex
  refine⟨.ref p,hi,.inl ⟨rfl,_,SqL.of h30⟩,h W (.refl _) _ ((Res.okE_bind q).imp fun a ka hv W1 e1 hh=>⟨by decide,fun q1 hq1=>⟨by show 2≤sizeLine;decide,fun t ht=>?_⟩⟩)⟩
  obtain⟨hc,ka⟩:=must_OkE ka
  have x1:Ext W1 (W1.mut q1 (.lst []) (W1.gnone hq1)):=.own _ hq1
  have x2:Ext (W1.mut q1 (.lst []) (W1.gnone hq1)) ((W1.mut q1 (.lst []) (W1.gnone hq1)).new t (.tup [hv,.ref q1])):=.new _ ht
  obtain⟨ts,qs,h1,h2,h3,h4,h5⟩:=(o.mono e1).ex
  have E2:=((e0.trans e1).trans x1).trans x2
  have X12:=x1.trans x2
  have hsq:SqT K ((W1.mut q1 (.lst []) (W1.gnone hq1)).new t (.tup [hv,.ref q1])).G t [hv,.ref q1]:=SqT.of upd_same
  have oq:Ow (isU K) ((W1.mut q1 (.lst []) (W1.gnone hq1)).new t (.tup [hv,.ref q1])) q1 ([]:List Dat):=Ow.mono (W:=W1.mut q1 (.lst []) (W1.gnone hq1)) ⟨W1.gnone hq1,[],upd_same,.nil⟩ x2
  have n1:W1.H p≠none:=by rw[h3];exact fun z=>nomatch z
  have nep:p≠q1:=fun z=>n1 (by rw[z];exact hq1)
  have neq:∀y∈qs,y≠q1:=fun y hy z=>(h5.there y hy).1 (by rw[z];exact hq1)
  have h3:=X12.h _ _ h3
  have h1:((W1.mut q1 (.lst []) (W1.gnone hq1)).new t (.tup [hv,.ref q1])).G p=none:=by rw[X12.k p n1];exact h1
  have h5:=h5.ext X12
  have G12:=(e1.trans X12).g
  have hh:=Mono.mono (R:=isT2 K isS isI) X12.g hh
  change rAppend (.ref p) [V.ref t] ((W1.mut q1 (.lst []) (W1.gnone hq1)).new t (.tup [hv,.ref q1])).H (fun _ H1=>D.nx σ H1)
  generalize ((W1.mut q1 (.lst []) (W1.gnone hq1)).new t (.tup [hv,.ref q1]))=W2 at*
  have gp:W2.G p=none:=h1
  refine⟨p,_,.ref t,rfl,rfl,h3,by rw[List.length_reverse,List.length_map,h5.len,sizeLine_eq];unfold Mi.cap at hc;omega,?_⟩
  refine ka (W2.mut p (.lst ((ts.map V.ref).reverse++ [.ref t])) gp) (E2.mut h2 gp) G12 ⟨t::ts,q1::qs,gp,h2,?_,?_,⟨⟨hv,?_,?_⟩,?_,none_of (e0.trans e1).h hq1⟩,?_⟩
  · show upd W2.H p _ p=_;rw[upd_same];simp
  · rw[List.nodup_cons]at h4 ⊢
    refine⟨fun z=>?_,List.nodup_cons.mpr ⟨fun z=>neq q1 z rfl,h4.2⟩⟩
    rcases List.mem_cons.mp z with z | z
    · exact nep z
    · exact h4.1 z
  · exact hsq
  · exact hh
  · exact oq.keep (W':=W2.mut p _ gp) (upd_ne (Ne.symm nep)) (.refl _) rfl
  · refine h5.keep (W':=W2.mut p _ gp) (.refl _) fun y hy=>⟨upd_ne fun z=>?_,rfl⟩
    rw[List.nodup_cons]at h4
    exact h4.1 (z▸hy)
theorem sv_stkApp {m:Res Dat} (e0:Ext W0 W) (o:OwS K W0 W p s) (h:EV Er te σ W (sh (isU K)) m) (q:((topS s).bind fun _=>m.bind fun a=>appS s a).OkE Er fun s'=>∀W',Ext W0 W'→Same W.G W'.G→OwS K W0 W' p s'→D.nx σ W'.H) (hi:σ[i]? =some (some (.ref p)):=by rfl):
    tDrop (tBM K "list" rAppend (tOp (rIxT K) (tOp (rIxL K) (tVar i) (tUn (rU fun i=>.int (-i)) (tC (.int 1)))) (tC (.int 1))) (tCons te tNil)) D σ W.H:=by
  match s,o,q with
  | [],o,q=>exact q.elim
  | f :: r, o, q =>
    replace q:(m.bind fun a=>appS (f::r) a).OkE Er _:=q
    refine top_list o hi fun q1 ⟨t,ts,qs,h1,h2,h3,h4,h5,h6⟩=>?_
    obtain⟨vs,hvs,lr⟩:=h5.2.1.h
    refine⟨.inl ⟨rfl,vs,SqL.of hvs⟩,h W (.refl _) _ ((Res.okE_bind q).imp fun a ka v W1 e1 hv=>?_)⟩
    obtain⟨hc,ka⟩:=must_OkE ka
    have np:W.H p≠none:=by rw[h3];exact fun z=>(nomatch z)
    have nq:W.H q1≠none:=by rw[hvs];exact fun z=>(nomatch z)
    have g1:W1.G q1=none:=by rw[e1.k q1 nq];exact h5.2.1.g
    have nd:=List.nodup_cons.mp h4
    have nep:p≠q1:=fun z=>nd.1 (z▸List.mem_cons_self ..)
    have neq:∀y∈qs,y≠q1:=fun y hy z=>(List.nodup_cons.mp nd.2).1 (z▸hy)
    have E1:=e0.trans e1
    obtain⟨⟨hv',a1,a2⟩,a3,a4⟩:=h5
    refine⟨q1,vs,v,rfl,rfl,e1.h _ _ hvs,by rw[lr.1,sizeLine_eq];unfold Mi.cap at hc;omega,ka (W1.mut q1 (.lst (vs++ [v])) g1) (E1.mut a4 g1) e1.g ⟨t::ts,q1::qs,?_,h2,?_,h4,⟨⟨hv',Same.tup e1.g a1,Mono.mono e1.g a2⟩,⟨g1,_,upd_same,(lr.same e1.g).snoc hv⟩,a4⟩,?_⟩⟩
    · show W1.G p=none;rw[e1.k p np];exact h1
    · show upd W1.H q1 _ p=_;rw[upd_ne nep,e1.h _ _ h3];simp
    · exact(h6.ext e1).keep (W':=W1.mut q1 _ g1) (.refl _) fun y hy=>⟨upd_ne (neq y hy),rfl⟩
theorem sv_stkPop {σ':V→V→St} {g1 g2:Nat} (e0:Ext W0 W) (o:OwS K W0 W p s) (q:(popS s).OkE Er fun fr=>∀hv bv W',Ext W0 W'→Same W.G W'.G→isT2 K isS isI W'.G fr.1.1 hv→isL (isU K) W'.G fr.1.2 bv→OwS K W0 W' p fr.2→D.nx (σ' hv bv) W'.H) (hi:σ[i]? =some (some (.ref p)):=by rfl)
    (hσ:∀x y,(σ.set g1 (some x)).set g2 (some y)=σ' x y:=by intro _ _;rfl):
    tAsg (tBM0 K "list" rPop (tVar i)) (gTup K 2 (gCons (gName g1) (gCons (gName g2) gNil))) D σ W.H:=by
  match s,o,q with
  | [],o,q=>exact q.elim
  | f :: r, o, q =>
    obtain⟨t,q1,ts,qs,h1,h2,h3,h4,⟨⟨hv,a1,a2⟩,a3,a4⟩,h6⟩:=o.cons
    refine⟨.ref p,hi,.inl ⟨rfl,_,SqL.of h3⟩,p,_,.ref t,rfl,rfl,h3,by simp,?_⟩
    rw[List.dropLast_concat]
    have nd:=List.nodup_cons.mp h4
    have nep:p≠q1:=fun z=>nd.1 (z▸List.mem_cons_self ..)
    have neq:∀y∈qs,y≠q1:=fun y hy z=>(List.nodup_cons.mp nd.2).1 (z▸hy)
    have np:∀y∈qs,y≠p:=fun y hy z=>nd.1 (List.mem_cons_of_mem _ (z▸hy))
    have E1:Ext W0 (W.mut p (.lst (ts.map V.ref).reverse) h1):=e0.mut h2 h1
    have o1:Ow (isU K) (W.mut p (.lst (ts.map V.ref).reverse) h1) q1 f.2:=a3.keep (upd_ne (Ne.symm nep)) (.refl _) rfl
    obtain⟨W2,hH,E2,hS,hl,hk⟩:=o1.frz E1 a4
    have k6:FrsR K W0 W2 ts qs r:=h6.keep hS fun y hy=>⟨by rw[hH];exact upd_ne (np y hy),hk y (neq y hy)⟩
    have:=q hv (.ref q1) W2 E2 hS (Mono.mono hS a2) hl ⟨ts,qs,by rw[hk p nep];exact h1,h2,by rw[hH];exact upd_same,List.nodup_cons.mpr ⟨fun z=>nd.1 (List.mem_cons_of_mem _ z),(List.nodup_cons.mp nd.2).2⟩,k6⟩
    rw[←hσ]at this
    show gTup K 2 _ (.ref t) σ (W.mut p (.lst (ts.map V.ref).reverse) h1).H _
    rw[←hH]
    exact⟨t,_,rfl,Same.tup (hS.trans W2.ok) a1,rfl,hv,_,rfl,.ref q1,_,rfl,rfl,this⟩
theorem FrsR.last:∀{ts qs:List Addr} {s:List Fr} {f:Fr},FrsR K W0 W ts qs s→s.getLast? =some f→∃t q,(ts.map V.ref).reverse[0]? =some (V.ref t)∧FrR K W0 W t q f
  | [t],[q],[f'],f,h,e=>by cases e;exact⟨t,q,rfl,h.1⟩
  | t :: t2 :: ts, q :: q2 :: qs, f1 :: f2 :: fs, f, h, e => by
    obtain⟨t',q',a,b⟩:=FrsR.last h.2 (by simpa using e)
    refine⟨t',q',?_,b⟩
    rw[List.map_cons,List.reverse_cons,List.getElem?_append_left (by simp)]
    exact a
  | [],[],[],_,_,e=>by cases e
  | [],[],_::_,_,h,_=>h.elim
  | [],_::_,_,_,h,_=>h.elim
  | _::_,[],_,_,h,_=>h.elim
  | _::_,_::_,[],_,h,_=>h.elim
  | [_],[_],_::_::_,_,h,_=>h.2.elim
  | [_], _ :: _ :: _, _ :: _, _, h, _ => by
    rename_i fs _;cases fs <;> exact h.2.elim
  | _ :: _ :: _, [_], _ :: _, _, h, _ => by
    rename_i fs _;cases fs <;> exact h.2.elim
  | _::_::_,_::_::_,[_],_,h,_=>h.2.elim
theorem sv_retS (e0:Ext W0 W) (o:OwS K W0 W p s) (q:(lastS s).OkE Er fun b=>∀q W',Ext W0 W'→W0.H q=none→Ow (isU K) W' q b→D.rt (.ref q) W'.H) (hi:σ[i]? =some (some (.ref p)):=by rfl):
    tRet (tOp (rIxT K) (tOp (rIxL K) (tVar i) (tC (.int 0))) (tC (.int 1))) D σ W.H:=by
  obtain⟨ts,qs,h1,h2,h3,h4,h5⟩:=o.ex
  unfold lastS at q
  cases z:s.getLast? with
  | none=>rw[z]at q;exact q.elim
  | some f =>
    rw[z]at q
    obtain⟨t,q1,a,⟨hv,a1,a2⟩,a3,a4⟩:=h5.last z
    have hl:0< (ts.map V.ref).reverse.length:=by
      cases e:(ts.map V.ref).reverse with
      | nil=>rw[e]at a;cases a
      | cons _ _=>simp
    refine⟨.ref p,hi,p,_,0,.ref t,rfl,rfl,SqL.of h3,?_,t,_,1,.ref q1,rfl,rfl,Same.tup W.ok a1,rfl,q q1 W e0 a4 a3⟩
    unfold L2.atI L2.ixN
    rw[if_pos (by decide),if_pos (by omega)]
    exact a
def spS (K:PySem.W.Frag) (m:List Fr→Res (List Fr)):Sp:=fun vs H Q _=>∃(W0 W:Wd) (p:Addr) (s:List Fr),Ext W0 W∧W.H=H∧vs=[.ref p]∧OwS K W0 W p s∧∃Er:Nat→Prop,(m s).OkE Er fun s'=>∀W',Ext W0 W'→Same W.G W'.G→OwS K W0 W' p s'→Q .non W'.H
theorem sv_callS {m:List Fr→Res (List Fr)} (e0:Ext W0 W) (o:OwS K W0 W p s) (q:(m s).OkE Er fun s'=>∀W',Ext W0 W'→Same W.G W'.G→OwS K W0 W' p s'→D.nx σ W'.H) (hi:σ[i]? =some (some (.ref p)):=by rfl):
    tDrop (tCall (spS K m) [] E (tCons (tVar i) tNil)) D σ W.H:=⟨.ref p,hi,W0,W,p,s,e0,rfl,rfl,o,Er,q⟩
theorem sv_while {S:Type} {tc:TT} {tb:TS} {c:S→Res Bool} {f:S→Res S} {s0:S} {P:S→Prop} {n:Nat} (Iv:S→Wd→St→Prop) (q:(whileR c f n s0).OkE Er P) (h0:Iv s0 W σ)
    (hm:∀W1 W2 s σ1,Ext W1 W2→Iv s W1 σ1→Iv s W2 σ1)
    (hc:∀W1 s σ1,Same W.G W1.G→Iv s W1 σ1→TV Er tc σ1 W1 (c s))
    (hs:∀Wb W1 s σ1 P',Same W.G W1.G→Same Wb.G W1.G→Iv s W1 σ1→(f s).OkE Er P'→tb {D with nx:=nxF Wb Iv P',ct:=nxF Wb Iv P',bk:=D.nx} σ1 W1.H)
    (hd:∀s W1 σ1,Same W.G W1.G→Iv s W1 σ1→P s→D.nx σ1 W1.H):tWhile tc tb D σ W.H:=by
  refine⟨fun m σ' H'=>∃s' W',W'.H=H'∧Same W.G W'.G∧Iv s' W' σ'∧(whileR c f m s').OkE Er P,⟨n,s0,W,rfl,.refl _,h0,q⟩,?_⟩
  rintro m σ1 H1 ⟨s,W1,rfl,e1,iv,k⟩
  cases m with
  | zero=>exact k.elim
  | succ m =>
    refine hc W1 s σ1 e1 iv W1 (.refl _) _ ((Res.okE_bind k).imp fun b kb W2 e2=>?_)
    cases b with
    | true =>
      refine⟨nxF W Iv fun s'=>(whileR c f m s').OkE Er P,fun σ' H' ⟨s',W',z1,z2,z3,z4⟩=>⟨m,Nat.lt_succ_self _,s',W',z1,z2,z3,z4⟩,?_⟩
      exact hs W W2 s σ1 _ (e1.trans e2.g) (e1.trans e2.g) (hm W1 W2 s σ1 e2 iv) (Res.okE_bind kb)
    | false=>exact hd s W2 σ1 (e1.trans e2.g) (hm W1 W2 s σ1 e2 iv) kb
section
variable {r:TS}
theorem sv_stkNew_s {σ':Addr→St} {m:Res (Tx×Int)} (e0:Ext W0 W) (h:EV Er te σ W (sh (isT2 K isS isI)) m) (q:m.OkE Er fun a=>∀p W',Ext W W'→OwS K W0 W' p [(a,[])]→r D (σ' p) W'.H) (hσ:∀p,σ.set i (some (.ref p))=σ' p:=by intro _;rfl):
    tSeq (tAsg (tLst (tCons (tTup (tCons te (tCons (tLst tNil) tNil))) tNil)) (gName i)) r D σ W.H:=sv_stkNew (D:={D with nx:=r D}) e0 h q hσ
theorem sv_stkPush_s {m:Res (Tx×Int)} (e0:Ext W0 W) (o:OwS K W0 W p s) (h:EV Er te σ W (sh (isT2 K isS isI)) m) (q:(m.bind fun a=>pushS s a).OkE Er fun s'=>∀W',Ext W0 W'→Same W.G W'.G→OwS K W0 W' p s'→r D σ W'.H) (hi:σ[i]? =some (some (.ref p)):=by rfl):
    tSeq (tDrop (tBM K "list" rAppend (tVar i) (tCons (tTup (tCons te (tCons (tLst tNil) tNil))) tNil))) r D σ W.H:=sv_stkPush (D:={D with nx:=r D}) e0 o h q hi
theorem sv_stkPop_s {σ':V→V→St} {g1 g2:Nat} (e0:Ext W0 W) (o:OwS K W0 W p s) (q:(popS s).OkE Er fun fr=>∀hv bv W',Ext W0 W'→Same W.G W'.G→isT2 K isS isI W'.G fr.1.1 hv→isL (isU K) W'.G fr.1.2 bv→OwS K W0 W' p fr.2→r D (σ' hv bv) W'.H) (hi:σ[i]? =some (some (.ref p)):=by rfl)
    (hσ:∀x y,(σ.set g1 (some x)).set g2 (some y)=σ' x y:=by intro _ _;rfl):
    tSeq (tAsg (tBM0 K "list" rPop (tVar i)) (gTup K 2 (gCons (gName g1) (gCons (gName g2) gNil)))) r D σ W.H:=sv_stkPop (D:={D with nx:=r D}) e0 o q hi hσ
theorem sv_stkApp_s {m:Res Dat} (e0:Ext W0 W) (o:OwS K W0 W p s) (h:EV Er te σ W (sh (isU K)) m) (q:((topS s).bind fun _=>m.bind fun a=>appS s a).OkE Er fun s'=>∀W',Ext W0 W'→Same W.G W'.G→OwS K W0 W' p s'→r D σ W'.H) (hi:σ[i]? =some (some (.ref p)):=by rfl):
    tSeq (tDrop (tBM K "list" rAppend (tOp (rIxT K) (tOp (rIxL K) (tVar i) (tUn (rU fun i=>.int (-i)) (tC (.int 1)))) (tC (.int 1))) (tCons te tNil))) r D σ W.H:=sv_stkApp (D:={D with nx:=r D}) e0 o h q hi
theorem sv_while_s {S:Type} {tc:TT} {tb:TS} {c:S→Res Bool} {f:S→Res S} {s0:S} {P:S→Prop} {n:Nat} (Iv:S→Wd→St→Prop) (q:(whileR c f n s0).OkE Er P) (h0:Iv s0 W σ)
    (hm:∀W1 W2 s σ1,Ext W1 W2→Iv s W1 σ1→Iv s W2 σ1)
    (hc:∀W1 s σ1,Same W.G W1.G→Iv s W1 σ1→TV Er tc σ1 W1 (c s))
    (hs:∀Wb W1 s σ1 P',Same W.G W1.G→Same Wb.G W1.G→Iv s W1 σ1→(f s).OkE Er P'→tb {D with nx:=nxF Wb Iv P',ct:=nxF Wb Iv P',bk:=r D} σ1 W1.H)
    (hd:∀s W1 σ1,Same W.G W1.G→Iv s W1 σ1→P s→r D σ1 W1.H):tSeq (tWhile tc tb) r D σ W.H:=sv_while (D:={D with nx:=r D}) Iv q h0 hm hc hs hd
end
end
end Wb
namespace Wb
open PySem L2 Mi
section
variable {Er:Nat→Prop} {α:Type} {K:PySem.W.Frag} {W:Wd} {p:Addr} {ta tb:TE} {σ:St}
theorem in3 (x a b c:Tx):inV (.str (sOf x)) [.str (sOf a),.str (sOf b),.str (sOf c)]=[a,b,c].contains x:=by
  have:=inV_txts x [a,b,c];exact this
theorem ev_inT3 {ma:Res Tx} {mb:Res (Tx×Tx×Tx)} (ha:EV Er ta σ W (sh isS) ma) (hb:EV Er tb σ W (sh (isT3 K isS isS isS)) mb):EV Er (tOp (rIn K false) ta tb) σ W (sh isB) (ma.bind fun a=>mb.bind fun b=>.ok ([b.1,b.2.1,b.2.2].contains a)):=
  ev2 ha hb fun W a b x y Q hx hy k=>by
    cases hx
    obtain⟨p,u,v,w,rfl,h1,h2,h3,h4⟩:=hy
    cases h2;cases h3;cases h4
    refine⟨p,_,rfl,.inr (Same.tup W.ok h1),rfl,by simp[L2.flatV],?_⟩
    rw[if_neg Bool.false_ne_true,in3]
    exact k _ W (.refl _) rfl
end
section
variable {P:Program} {w:World} {K:PySem.W.Frag} {mg:Str→Option Value} {base:Heap} {CX:CXT} {f:Addr} {fd:FuncData} {ps:List Str} {k:Nat} {sp:Sp}
theorem fn_vac (h:∀vs H Q E,¬sp vs H Q E):FnOk P w K mg base CX k f fd ps sp:=⟨fun _ _ _ _ x=>(h _ _ _ _ x).elim,fun _ _ _ _ _ _ _ _ _ _ _ _ _ x=>(h _ _ _ _ x).elim⟩
end
end Wb
namespace L2
open PySem PySem.Spec PyProof.Rows
end L2
namespace Wb
open PySem L2 Mi
end Wb
namespace L2
open PySem PySem.Spec PySem.Calls PyProof.Rows Mi
theorem glue_txt (sep:Tx) (ys:List Tx):Txt.join (sOf sep) (ys.map sOf)=sOf (glueT sep ys):=by
  have key:∀(r:List (List Nat)) (acc:List Nat),(r.map sOf).foldl (fun acc p=>acc++(sOf sep).cps++p.cps) acc.toArray=(match r with | []=>acc | _=>acc++sep++glueT sep r).toArray:=by
    intro r
    induction r with
    | nil=>intro acc;rfl
    | cons a r ih =>
      intro acc
      rw[List.map_cons,List.foldl_cons]
      have e:acc.toArray++(sOf sep).cps++(sOf a).cps=(acc++sep++a).toArray:=by simp[sOf]
      rw[e,ih (acc++sep++a)]
      cases r with
      | nil=>simp[glueT]
      | cons b r=>simp[glueT,List.append_assoc]
  cases ys with
  | nil=>rfl
  | cons a r =>
    show Str.mk ((r.map sOf).foldl (fun acc p=>acc++(sOf sep).cps++p.cps) a.toArray)=_
    rw[key r a]
    cases r with
    | nil=>rfl
    | cons b r=>show sOf _=sOf _;simp[glueT,List.append_assoc]
theorem sum_lens (ys:List Tx):((ys.map sOf).map (·.length)).sum=ys.flatten.length:=by
  rw[List.map_map,List.length_flatten]
  congr 1
  all_goals exact List.map_congr_left fun y _=>sOf_len y
def rJoinS (K:PySem.W.Frag):V→List V→Hp→VK→Prop:=fun x xs H Q=>∃(p:Addr) (sep:Tx) (ys:List Tx),x=.str (sOf sep)∧xs=[.ref p]∧(SqL K H p (ys.map fun y=>V.str (sOf y))∨SqT K H p (ys.map fun y=>V.str (sOf y)))∧ys.flatten.length+ys.length*sep.length≤100000∧Q (.str (sOf (glueT sep ys))) H
section
variable {X:Cx} {K:PySem.W.Frag}
theorem mt_joinS (h:X.K=K):MtR X "str.join" (rJoinS K):=by
  subst h
  intro pins s σ H x xs v us Q I rx rs h
  obtain⟨p,sep,ys,rfl,rfl,hp,hl,q⟩:=h
  obtain⟨t,rfl⟩:=rx
  obtain⟨u,rfl,r1⟩:=vals1 rs
  cases r1
  have fit:((ys.map sOf).map (·.length)).sum+(ys.map sOf).length*(sOf sep).length≤16777216:=by rw[sum_lens,sOf_len,List.length_map];omega
  rcases hp with hp | hp
  · obtain⟨its,r,pl,hz⟩:=I.list hp
    exact join_list pl.isList (by simpa using strsAre_of r) fit fun t' k=>⟨.str _,H,I.tok _,⟨t',rfl⟩,by rw[glue_txt];exact q⟩
  · obtain⟨its,r,pl,hz⟩:=I.tuple hp
    exact join_tuple pl (by simpa using strsAre_of r) fit fun t' k=>⟨.str _,H,I.tok _,⟨t',rfl⟩,by rw[glue_txt];exact q⟩
end
end L2
namespace Wb
open PySem L2 Mi
section
variable {Er:Nat→Prop} {α β γ:Type} {K:PySem.W.Frag} {W Wq W0:Wd} {p:Addr} {t t1 ta tb te:TE} {σ:St} {D:Ends} {i j:Nat} {r:TS} {Hb:Hp} {E:XK}
theorem ev_joinS {ma:Res (List Tx)} {x:Str} {l:Tx} (hx:x=sOf l) (ha:EV Er ta σ W (pk isS) ma):EV Er (tBM K "str" (rJoinS K) (tC (.str x)) (tCons ta tNil)) σ W (sh isS) (ma.bind fun a=>joinS l a):=fun W1 e1 Q k=>
  ⟨by show tyV K "str" (.str x) W1.H;rfl,ha W1 e1 _ ((Res.okE_bind k).imp fun a ka v W2 e2 hv=>by
    obtain⟨p,vs,rfl,h1,h2⟩:=hv
    obtain⟨h3,h4⟩:=must_OkE ka
    exact⟨p,l,a,by rw[hx],rfl,.inl (SqL.of (by rw[h1,h2.str])),h3,h4 _ W2 e2 rfl⟩)⟩
theorem ev_strI {ma:Res Int} (ha:EV Er ta σ W (sh isI) ma):EV Er (tCB (fun xs H Q=>∃i:Int,xs=[.int i]∧i.natAbs.log2< 1920∧Q (.str (toString i)) H) (tCons ta tNil)) σ W (sh isS) (ma.bind fun i=>fmtI i):=fun W1 e1 Q k=>
  ha W1 e1 _ ((Res.okE_bind k).imp fun a ka x W2 e2 hx=>by
    cases hx
    obtain⟨h1,h2⟩:=must_OkE ka
    exact⟨a,rfl,h1,h2 _ W2 e2 (congrArg V.str (numT_eq a))⟩)
end
end Wb
namespace L2
open PySem PySem.Spec PyProof.Rows
end L2
namespace L2
open PySem PySem.Spec PyProof.Rows
end L2
namespace Wb
open PySem L2 Mi
end Wb
namespace L2
open PySem PySem.Spec PyProof.Rows
end L2
namespace Wb
open PySem L2 Mi
end Wb
namespace Wb
open PySem L2 Mi
end Wb
namespace Mi
def rangeN2 (i j:Int):List Int:=(List.range (j- i).toNat).map fun(n:Nat)=>i+(n:Int)
def rangeR2 (i j:Int):Res (List Int):=must (-(2^62)≤i∧i< 2^62∧ -(2^62)≤j∧j< 2^62) (rangeN2 i j)
end Mi
namespace Wb
open PySem L2 Mi
end Wb
namespace Wb
open PySem L2 Mi
end Wb
namespace Wb
open PySem L2 Mi
section
variable {Er:Nat→Prop} {α β γ:Type} {K:PySem.W.Frag} {W W' W0 W1 W2:Wd} {F F' F1:FS} {cs:List TC} {σ:St} {t ta tb te ti tp:TE} {D:Ends} {i k:Nat} {r:TS}
theorem iv_range2 {m n:Res Int} (h:EV Er ta σ W (sh isI) m) (g:EV Er tb σ W (sh isI) n):IV Er (iRng2 (tCons ta (tCons tb tNil))) σ W isI (m.bind fun i=>n.bind fun j=>rangeR2 i j):=fun W1 e1 P k=>
  h W1 e1 _ ((Res.okE_bind k).imp fun a ka v W2 e2 hv => g W2 (e1.trans e2) _ ((Res.okE_bind ka).imp fun b kb u W3 e3 hu => by
    cases hv;cases hu
    obtain⟨hb,kn⟩:=must_OkE kb
    refine⟨a,b,rfl,hb,kn _ W3 (e2.trans e3) fun W4 e4=>⟨fun i x ha=>?_,by show(b- a).toNat≤(rangeN2 a b).length;simp[rangeN2]⟩⟩
    unfold rangeN2 at ha
    rw[List.getElem?_map]at ha
    have hi:i< (b- a).toNat:=by
      refine Classical.byContradiction fun z=>?_
      rw[List.getElem?_eq_none_iff.mpr (by simp;omega)]at ha;cases ha
    rw[List.getElem?_range hi]at ha
    cases ha
    exact⟨hi,fun y H' ⟨z1,z2⟩=>⟨W4,z1.symm,.refl _,z2⟩⟩))
end
end Wb
namespace L2
open PySem PySem.Spec PyProof.Rows
end L2
namespace L2
open PySem PySem.Spec PyProof.Rows
end L2
namespace Wb
open PySem L2 Mi
end Wb
namespace Mi
end Mi
namespace Wb
open PySem L2 Mi
end Wb
namespace Mi
def two (x:Tx):Res (Tx×Tx):=match x with | [a,b]=>must (a< 128∧b< 128) ([a],[b]) | _=>.stuck
end Mi
namespace Wb
open PySem L2 Mi
section
open PyProof PyProof.Rows
variable {X:Cx} {pos:Pos}
def gStr (t:TGs):TG:=fun v σ H Q=>∃a b:Nat,v=.str ⟨#[a,b]⟩∧a< 128∧b< 128∧t [.str ⟨#[a]⟩,.str ⟨#[b]⟩] σ H Q
theorem pg_str {es:List Expr} {k:Nat} {t:TGs} (hc:X.calm=true) (h:PGs X es t)
    (hn:(assignEach es X.env).length=2:=by rfl) (hst:(assignEach es X.env).findIdx? (·.1)=none:=by rfl):PG X (.Tuple es k pos) (gStr t):=by
  intro pins s σ H v u Q I r hw
  obtain⟨a,b,rfl,ha,hb,hw⟩:=hw
  obtain⟨tk,rfl⟩:=r
  rw[PyProof.Rows.assign_Tuple]
  refine wpAny_bind (wpAny_standAt ?_)
  unfold unpack
  rw[hn,hst]
  refine wpAny_bind (wpAny_holding ?_)
  unfold unpackItems
  refine wpAny_bind ?_
  unfold notIterableAtAll
  refine wpAny_bind (wpAny_specialOf (typeIs_str s _ tk) F.slot_str_iter.lookup ?_)
  refine wpAny_pure ?_
  simp only[Bool.false_eq_true,if_false]
  refine wpAny_bind (wpAny_holding (wpAny_pyIter_ascii (by simp[ha,hb]) ?_))
  refine wpAny_bind (wpAny_holding ?_)
  show wpAny _ _ (pyNext (.ref s.heap.objs.size) >>= _) _ _ _
  refine wpAny_bind (wpAny_pyNext_ascii_item (i:=0) (c:=a) ⟨_,Heap.get?_push_size _ rfl,rfl,rfl⟩ rfl fun h1 y1 s1=>?_)
  refine wpAny_bind (wpAny_holding ?_)
  show wpAny _ _ (pyNext (.ref s.heap.objs.size) >>= _) _ _ _
  refine wpAny_bind (wpAny_pyNext_ascii_item (c:=b) y1 rfl fun h2 y2 s2=>?_)
  refine wpAny_bind (wpAny_holding ?_)
  refine wpAny_pure (wpAny_pure (wpAny_pure ?_))
  simp only[List.length_cons,List.length_nil,Nat.reduceAdd,Nat.lt_irrefl,if_false]
  refine wpAny_bind (wpAny_holding (wpAny_pyNext_ascii_end (I.ok.hd hc) y2 rfl fun h3 e3=>?_))
  simp only[Option.isSome_none,Bool.false_eq_true,if_false]
  refine wpAny_pure ?_
  have I1:Inv X pins σ H {s with heap:=h3,toks:=s.toks+1+1} :=I.kept (t':=s.toks+1+1) fun b o e=>e3 b o (Nat.ne_of_lt (Heap.lt_size e)) (s2.extBut b o (Nat.ne_of_lt (Heap.lt_size e)) (s1.extBut b o (Nat.ne_of_lt (Heap.lt_size e)) (Heap.get?_push_of_some _ e)))
  exact h pins _ σ H [.str ⟨#[a]⟩,.str ⟨#[b]⟩] _ Q I1 (.cons ⟨_,rfl⟩ (.cons ⟨_,rfl⟩ .nil)) hw
end
section
variable {Er:Nat→Prop} {W:Wd} {σ:St} {ta te:TE} {D:Ends} {i j:Nat} {r:TS}
theorem sv_two {σ':Tx→Tx→St} {m:Res Tx} (h:EV Er te σ W (sh isS) m) (q:(m.bind fun x=>two x).OkE Er fun ab=>∀W',Ext W W'→D.nx (σ' ab.1 ab.2) W'.H) (hσ:∀a b:Tx,(σ.set i (some (.str (sOf a)))).set j (some (.str (sOf b)))=σ' a b:=by intro _ _;rfl):tAsg te (gStr (gCons (gName i) (gCons (gName j) gNil))) D σ W.H:=h W (.refl _) _ ((Res.okE_bind q).imp fun x kx v W' e hv=>by
  cases hv
  match x,kx with
  | [a, b], kx =>
    obtain⟨⟨h1,h2⟩,k⟩:=must_OkE kx
    refine⟨a,b,rfl,h1,h2,_,_,rfl,_,_,rfl,rfl,?_⟩
    have:=k W' e
    rw[←hσ]at this
    exact this)
theorem sv_two_s {σ':Tx→Tx→St} {m:Res Tx} (h:EV Er te σ W (sh isS) m) (q:(m.bind fun x=>two x).OkE Er fun ab=>∀W',Ext W W'→r D (σ' ab.1 ab.2) W'.H) (hσ:∀a b:Tx,(σ.set i (some (.str (sOf a)))).set j (some (.str (sOf b)))=σ' a b:=by intro _ _;rfl):tSeq (tAsg te (gStr (gCons (gName i) (gCons (gName j) gNil)))) r D σ W.H:=sv_two (D:={D with nx:=r D}) h q hσ
end
end Wb
namespace Wb
open PySem L2 Mi
end Wb
namespace Mi
def whileF {S γ:Type} (c:S→Res Bool) (f:S→Res (Fl γ S)):Nat→S→Res (Fl γ S)
  | 0,_=>.stuck
  | n+1,s=>(c s).bind fun b=>if b then(f s).bind (flGo (whileF c f n))else .ok (.nx s)
def tagS (s:List Fr):Res Tx:=match s with | f::_=>.ok f.1.1 | []=>.stuck
def tabN:List (Tx×Int):=(List.range 10).map (fun(n:Nat)=>([48+n],(n:Int)))++(List.range 100).map fun(n:Nat)=>([48+n/ 10,48+n% 10],(n:Int))
def intW (x:Tx):Res Int:=ofO ((tabN.find? fun e=>e.1 == x).map (·.2))
end Mi
namespace Wb
open PySem L2 Mi
section
variable {X:Cx}
theorem tab_reads:∀e∈tabN,PySem.intText? (sOf e.1)=some e.2:=by decide +kernel
theorem call_intW:CallR X (.type "int") (fun xs H Q=>∃(x:Tx) (n:Int),(x,n)∈tabN∧xs=[.str (sOf x)]∧Q (.int n) H):=by
  intro pins s σ H xs us Q I r h
  obtain⟨x,n,h0,rfl,q⟩:=h
  obtain⟨u,rfl,t,rfl⟩:=vals1 r
  have hl:(sOf x).length≤640:=by
    have:∀e∈tabN,e.1.length≤640:=by decide +kernel
    have:=this _ h0
    simpa [sOf,Str.length] using this
  exact PySem.W.KIN.call_text (tab_reads _ h0) hl ⟨.int n,H,I.tok _,⟨_,rfl⟩,q⟩
end
section
variable {Er:Nat→Prop} {α β ρ γ:Type} {K:PySem.W.Frag} {W0 W:Wd} {p:Addr} {s:List Fr} {σ:St} {ta te t1 t2:TE} {D:Ends} {i:Nat} {r t u:TS} {E:XK}
theorem ev_intW {ma:Res Tx} (ha:EV Er ta σ W (sh isS) ma):EV Er (tCB (fun xs H Q=>∃(x:Tx) (n:Int),(x,n)∈tabN∧xs=[.str (sOf x)]∧Q (.int n) H) (tCons ta tNil)) σ W (sh isI) (ma.bind fun x=>intW x):=fun W1 e1 Q k=>
  ha W1 e1 _ ((Res.okE_bind k).imp fun x kx v W2 e2 hv=>by
    obtain⟨n,h1,q⟩:=ofO_OkE kx
    cases hv
    obtain⟨e,he,rfl⟩:=Option.map_eq_some_iff.mp h1
    have h3:=List.find?_some he
    have h4:e.1=x:=by simpa using h3
    exact⟨x,e.2,by rw[←h4];exact List.mem_of_find?_eq_some he,rfl,q _ W2 e2 rfl⟩)
theorem ev_stkTag (o:OwS K W0 W p s) (hi:σ[i]? =some (some (.ref p)):=by rfl):EV Er (tOp (rIxT K) (tOp (rIxT K) (tOp (rIxL K) (tVar i) (tUn (rU fun i=>.int (-i)) (tC (.int 1)))) (tC (.int 0))) (tC (.int 0))) σ W (sh isS) (tagS s):=fun W1 e1 Q k=>by
  match s,o,k with
  | [],o,k=>exact k.elim
  | f :: r, o, k =>
    obtain⟨t,q',ts,qs,h1,h2,h3,h4,⟨⟨hv,ht,hh⟩,ho,hq⟩,h6⟩:=(o.mono e1).cons
    obtain⟨a,x,y,rfl,hsq,hx,hy⟩:=hh
    cases hx
    exact⟨.ref p,hi,1,rfl,p,_, -1,.ref t,rfl,rfl,SqL.of h3,atI_last _ _,t,_,0,.ref a,rfl,rfl,Same.tup W1.ok ht,rfl,a,_,0,_,rfl,rfl,Same.tup W1.ok hsq,rfl,k _ W1 (.refl _) rfl⟩
theorem ev_disp2 {a b x y:Tx} {xa xb xx xy:Str} (hab:a≠b) (h1:xa=sOf a) (h2:xx=sOf x) (h3:xb=sOf b) (h4:xy=sOf y) {m:Res Tx} (h:EV Er te σ W (sh isS) m):
    EV Er (tDGet (tDisp [(tC (.str xa),tC (.str xx)),(tC (.str xb),tC (.str xy))]) te) σ W (sh isS) (m.bind fun k=>getD [(a,x),(b,y)] k):=fun W1 e1 Q k p hp=>by
  subst h1;subst h2;subst h3;subst h4
  have nab:¬sOf a=sOf b:=fun z=>hab (sOf_inj z)
  refine⟨upd_same,[(.inr (sOf a),.str (sOf x)),(.inr (sOf b),.str (sOf y))],rfl,by show 2≤15;decide,?_⟩
  have mk:mergeK [] [(Sum.inr (sOf a),V.str (sOf x)),(Sum.inr (sOf b),V.str (sOf y))]=[(Sum.inr (sOf a),V.str (sOf x)),(Sum.inr (sOf b),V.str (sOf y))]:=by
    simp[mergeK,putK,nab]
  rw[mk]
  have hu:upd (upd W1.H p (.dK [])) p (.dK [(Sum.inr (sOf a),V.str (sOf x)),(Sum.inr (sOf b),V.str (sOf y))])=upd W1.H p (.dK [(Sum.inr (sOf a),V.str (sOf x)),(Sum.inr (sOf b),V.str (sOf y))]):=by
    funext q;unfold upd;split <;> rfl
  rw[hu]
  have e2:Ext W1 (W1.mut p (.dK [(Sum.inr (sOf a),V.str (sOf x)),(Sum.inr (sOf b),V.str (sOf y))]) (W1.gnone hp)):=.own _ hp
  refine h (W1.mut p _ (W1.gnone hp)) (e1.trans e2) _ ((Res.okE_bind k).imp fun c kc v W2 e3 hv=>?_)
  cases hv
  have hd:W2.H p=some (.dK [(Sum.inr (sOf a),V.str (sOf x)),(Sum.inr (sOf b),V.str (sOf y))]):=e3.h p _ upd_same
  obtain⟨z,g1,g2⟩:=ofO_OkE kc
  refine⟨p,.str (sOf z),rfl,?_,g2 _ W2 (e2.trans e3) rfl⟩
  by_cases ca:a=c
  · subst ca
    simp[look]at g1
    subst g1
    have:=DGet.k (k:=Sum.inr (sOf a)) hd
    rw[show valV [(Sum.inr (sOf a),V.str (sOf x)),(Sum.inr (sOf b),V.str (sOf y))] (Sum.inr (sOf a))=some (V.str (sOf x))from by simp[valV]]at this
    exact this
  · by_cases cb:b=c
    · subst cb
      simp[look,ca]at g1
      subst g1
      have:=DGet.k (k:=Sum.inr (sOf b)) hd
      rw[show valV [(Sum.inr (sOf a),V.str (sOf x)),(Sum.inr (sOf b),V.str (sOf y))] (Sum.inr (sOf b))=some (V.str (sOf y))from by simp[valV,nab,Ne.symm nab]]at this
      exact this
    · simp[look,ca,cb]at g1
def spR1 (K:PySem.W.Frag) (R1:Rp α) (Rr:Rp ρ) (m:List Fr→α→Res (List Fr×ρ)):Sp:=fun vs H Q _=>∃(W0 W:Wd) (p:Addr) (s:List Fr) (a:α) (v:V),Ext W0 W∧W.H=H∧vs=[.ref p,v]∧OwS K W0 W p s∧R1 W.G a v∧∃Er:Nat→Prop,(m s a).OkE Er fun r=>∀W' u,Ext W0 W'→Same W.G W'.G→OwS K W0 W' p r.1→Rr W'.G r.2 u→Q u W'.H
def spR2 (K:PySem.W.Frag) (R1:Rp α) (R2:Rp β) (Rr:Rp ρ) (m:List Fr→α→β→Res (List Fr×ρ)):Sp:=fun vs H Q _=>∃(W0 W:Wd) (p:Addr) (s:List Fr) (a:α) (b:β) (v w:V),Ext W0 W∧W.H=H∧vs=[.ref p,v,w]∧OwS K W0 W p s∧R1 W.G a v∧R2 W.G b w∧∃Er:Nat→Prop,(m s a b).OkE Er fun r=>∀W' u,Ext W0 W'→Same W.G W'.G→OwS K W0 W' p r.1→Rr W'.G r.2 u→Q u W'.H
theorem sv_ifR1 {R1:Rp α} {m:List Fr→α→Res (List Fr×Bool)} {m1:Res α} (e0:Ext W0 W) (o:OwS K W0 W p s) (h1:EV Er t1 σ W (sh R1) m1) (q:(m1.bind fun a=>m s a).OkE Er fun y=>∀W',Ext W0 W'→Same W.G W'.G→OwS K W0 W' p y.1→if y.2=true then u D σ W'.H else t D σ W'.H) (hi:σ[i]? =some (some (.ref p)):=by rfl):
    tIfS (tNot (tB (tCall (spR1 K R1 isB m) [] E (tCons (tVar i) (tCons t1 tNil))))) t u D σ W.H:=
  ⟨.ref p,hi,h1 W (.refl _) _ ((Res.okE_bind q).imp fun a ka v W1 e1 hv=>⟨W0,W1,p,s,a,v,e0.trans e1,rfl,rfl,o.mono e1,hv,Er,ka.imp fun y ky W' x e' sm o' hx=>by
    cases hx
    refine⟨y.2,rfl,?_⟩
    have:=ky W' e' (e1.g.trans sm) o'
    cases z:y.2 with
    | true=>rw[z,if_pos rfl]at this;exact this
    | false=>rw[z,if_neg (by decide)]at this;exact this⟩)⟩
theorem sv_ifR1_s {R1:Rp α} {m:List Fr→α→Res (List Fr×Bool)} {m1:Res α} (e0:Ext W0 W) (o:OwS K W0 W p s) (h1:EV Er t1 σ W (sh R1) m1) (q:(m1.bind fun a=>m s a).OkE Er fun y=>∀W',Ext W0 W'→Same W.G W'.G→OwS K W0 W' p y.1→if y.2=true then u {D with nx:=r D} σ W'.H else t {D with nx:=r D} σ W'.H) (hi:σ[i]? =some (some (.ref p)):=by rfl):
    tSeq (tIfS (tNot (tB (tCall (spR1 K R1 isB m) [] E (tCons (tVar i) (tCons t1 tNil))))) t u) r D σ W.H:=sv_ifR1 (D:={D with nx:=r D}) e0 o h1 q hi
theorem sv_asgR2 {R1:Rp α} {R2:Rp β} [Mono R1] {Rr:Rp ρ} {m:List Fr→α→β→Res (List Fr×ρ)} {m1:Res α} {m2:Res β} {j:Nat} {σ':V→St} (e0:Ext W0 W) (o:OwS K W0 W p s) (h1:EV Er t1 σ W (sh R1) m1) (h2:EV Er t2 σ W (sh R2) m2) (q:(m1.bind fun a=>m2.bind fun b=>m s a b).OkE Er fun y=>∀v W',Ext W0 W'→Same W.G W'.G→OwS K W0 W' p y.1→Rr W'.G y.2 v→D.nx (σ' v) W'.H) (hi:σ[i]? =some (some (.ref p)):=by rfl) (hσ:∀v,σ.set j (some v)=σ' v:=by intro _;rfl):
    tAsg (tCall (spR2 K R1 R2 Rr m) [] E (tCons (tVar i) (tCons t1 (tCons t2 tNil)))) (gName j) D σ W.H:=
  ⟨.ref p,hi,h1 W (.refl _) _ ((Res.okE_bind q).imp fun a ka v W1 e1 hv=>h2 W1 e1 _ ((Res.okE_bind ka).imp fun b kb w W2 e2 hw=>⟨W0,W2,p,s,a,b,v,w,(e0.trans e1).trans e2,rfl,rfl,o.mono (e1.trans e2),MonoW.mono (R:=sh R1) e2 hv,hw,Er,kb.imp fun y ky W' x e' sm o' hx=>by
    have:=ky x W' e' ((e1.trans e2).g.trans sm) o' hx
    rw[←hσ]at this
    exact this⟩))⟩
theorem sv_asgR2_s {R1:Rp α} {R2:Rp β} [Mono R1] {Rr:Rp ρ} {m:List Fr→α→β→Res (List Fr×ρ)} {m1:Res α} {m2:Res β} {j:Nat} {σ':V→St} (e0:Ext W0 W) (o:OwS K W0 W p s) (h1:EV Er t1 σ W (sh R1) m1) (h2:EV Er t2 σ W (sh R2) m2) (q:(m1.bind fun a=>m2.bind fun b=>m s a b).OkE Er fun y=>∀v W',Ext W0 W'→Same W.G W'.G→OwS K W0 W' p y.1→Rr W'.G y.2 v→r D (σ' v) W'.H) (hi:σ[i]? =some (some (.ref p)):=by rfl) (hσ:∀v,σ.set j (some v)=σ' v:=by intro _;rfl):
    tSeq (tAsg (tCall (spR2 K R1 R2 Rr m) [] E (tCons (tVar i) (tCons t1 (tCons t2 tNil)))) (gName j)) r D σ W.H:=sv_asgR2 (D:={D with nx:=r D}) e0 o h1 h2 q hi hσ
theorem sv_retSO (e0:Ext W0 W) (o:OwS K W0 W p s) (q:((lastS s).bind fun b=>.ok (some b)).OkE Er fun b=>∀v W',Ext W0 W'→isO (isL (isU K)) W'.G b v→D.rt v W'.H) (hi:σ[i]? =some (some (.ref p)):=by rfl):
    tRet (tOp (rIxT K) (tOp (rIxL K) (tVar i) (tC (.int 0))) (tC (.int 1))) D σ W.H:=sv_retS e0 o ((Res.okE_bind q).imp fun b kb q W' e' hq o'=>by
  obtain⟨W2,h1,h2,h3,h4,_⟩:=o'.frz e' hq
  rw[←h1]
  exact(kb:∀v W',Ext W0 W'→isO (isL (isU K)) W'.G (some b) v→D.rt v W'.H) _ W2 h2 ⟨h4,fun z=>nomatch z⟩) hi
theorem sv_whileF {S:Type} {tc:TT} {tb:TS} {c:S→Res Bool} {f:S→Res (Fl γ S)} {s0:S} {P:Fl γ S→Prop} {n:Nat} (Iv:S→Wd→St→Prop) (q:(whileF c f n s0).OkE Er P) (h0:Iv s0 W σ)
    (hm:∀W1 W2 s σ1,Ext W1 W2→Iv s W1 σ1→Iv s W2 σ1)
    (hc:∀W1 s σ1,Same W.G W1.G→Iv s W1 σ1→TV Er tc σ1 W1 (c s))
    (hs:∀Wb W1 s σ1 P',Same W.G W1.G→Same Wb.G W1.G→Iv s W1 σ1→(∀r,P' (.rt r)→P (.rt r))→(f s).OkE Er P'→tb {D with nx:=nxF Wb Iv fun s'=>P' (.nx s'),ct:=nxF Wb Iv fun s'=>P' (.nx s'),bk:=D.nx} σ1 W1.H)
    (hd:∀s W1 σ1,Same W.G W1.G→Iv s W1 σ1→P (.nx s)→D.nx σ1 W1.H):tWhile tc tb D σ W.H:=by
  refine⟨fun m σ' H'=>∃s' W',W'.H=H'∧Same W.G W'.G∧Iv s' W' σ'∧(whileF c f m s').OkE Er P,⟨n,s0,W,rfl,.refl _,h0,q⟩,?_⟩
  rintro m σ1 H1 ⟨s,W1,rfl,e1,iv,k⟩
  cases m with
  | zero=>exact k.elim
  | succ m =>
    refine hc W1 s σ1 e1 iv W1 (.refl _) _ ((Res.okE_bind k).imp fun b kb W2 e2=>?_)
    cases b with
    | true =>
      refine⟨nxF W Iv fun s'=>(whileF c f m s').OkE Er P,fun σ' H' ⟨s',W',z1,z2,z3,z4⟩=>⟨m,Nat.lt_succ_self _,s',W',z1,z2,z3,z4⟩,?_⟩
      exact hs W W2 s σ1 (fun fl=>match fl with | .nx s'=>(whileF c f m s').OkE Er P | .bk s'=>P (.nx s') | .rt r=>P (.rt r)) (e1.trans e2.g) (e1.trans e2.g) (hm W1 W2 s σ1 e2 iv) (fun r h=>h) ((Res.okE_bind kb).imp fun fl h=>by cases fl <;> exact h)
    | false=>exact hd s W2 σ1 (e1.trans e2.g) (hm W1 W2 s σ1 e2 iv) kb
theorem sv_whileF_s {S:Type} {tc:TT} {tb:TS} {c:S→Res Bool} {f:S→Res (Fl γ S)} {s0:S} {P:Fl γ S→Prop} {n:Nat} (Iv:S→Wd→St→Prop) (q:(whileF c f n s0).OkE Er P) (h0:Iv s0 W σ)
    (hm:∀W1 W2 s σ1,Ext W1 W2→Iv s W1 σ1→Iv s W2 σ1)
    (hc:∀W1 s σ1,Same W.G W1.G→Iv s W1 σ1→TV Er tc σ1 W1 (c s))
    (hs:∀Wb W1 s σ1 P',Same W.G W1.G→Same Wb.G W1.G→Iv s W1 σ1→(∀r,P' (.rt r)→P (.rt r))→(f s).OkE Er P'→tb {D with nx:=nxF Wb Iv fun s'=>P' (.nx s'),ct:=nxF Wb Iv fun s'=>P' (.nx s'),bk:=r D} σ1 W1.H)
    (hd:∀s W1 σ1,Same W.G W1.G→Iv s W1 σ1→P (.nx s)→r D σ1 W1.H):tSeq (tWhile tc tb) r D σ W.H:=sv_whileF (D:={D with nx:=r D}) Iv q h0 hm hc hs hd
end
end Wb
namespace Mi
def repT (x:Tx) (n:Int):Res Tx:=must (0≤n∧n≤1000∧x.length≤100) (List.replicate n.toNat x).flatten
end Mi
namespace Wb
open PySem L2 Mi
section
variable {X:Cx}
theorem fold_reps (a:Array Nat):∀(k:Nat) (b:Array Nat),((List.replicate k a).foldl (· ++ ·) b).toList=b.toList++(List.replicate k a.toList).flatten
  | 0,b=>by simp
  | k + 1, b => by
    rw[List.replicate_succ,List.foldl_cons,fold_reps a k,List.replicate_succ,List.flatten_cons]
    simp
theorem mul_txt (l:Tx) (n:Int) (h0:0≤n):Txt.mul (sOf l) n=sOf (List.replicate n.toNat l).flatten:=by
  unfold Txt.mul
  by_cases h1:n< 1
  · rw[if_pos h1]
    have:n=0:=by omega
    subst this
    rfl
  · rw[if_neg h1]
    by_cases h2:(n == 1 || (sOf l).length == 0)=true
    · rw[if_pos h2]
      rw[sOf_len]at h2
      simp at h2
      rcases h2 with rfl | h2
      · simp
      · subst h2;simp
    · rw[if_neg h2,of_sOf (Str.mk _)]
      show sOf ((List.replicate n.toNat (sOf l).cps).foldl (· ++ ·) #[]).toList=_
      rw[fold_reps]
      simp[sOf]
theorem op_mul_txt:OpR X (binaryOp .Mult) (fun x y H Q=>∃(l:Tx) (n:Int),x=.str (sOf l)∧y=.int n∧0≤n∧n≤1000∧l.length≤100∧Q (.str (sOf (List.replicate n.toNat l).flatten)) H):=by
  intro pins s σ H x y v u Q I rx ry h
  obtain⟨l,n,rfl,rfl,h0,h1,hl2,q⟩:=h
  obtain⟨t,rfl⟩:=rx
  obtain⟨t',rfl⟩:=ry
  have hl:(sOf l).length=l.length:=sOf_len l
  have hm:(l.length:Int)*n≤100*1000:=Int.mul_le_mul (by omega) h1 h0 (by decide)
  refine SB.mul ?_ fun t' k=>?_
  · refine⟨?_,fun _ _=>?_,fun _ _=>?_⟩
    · have e1:decide (n< -(2^63:Int))=false:=decide_eq_false (by omega)
      have e2:decide (n≥2^63)=false:=decide_eq_false (by omega)
      rw[e1,e2];rfl
    · rw[hl]
      have:(l.length:Int)≤(2^63- 1)/ n:=(Int.le_ediv_iff_mul_le (by omega)).mpr (by omega)
      omega
    · rw[hl]
      unfold Builtin.Str.tooLong
      have:=sizeLine_eq
      have hm2:l.length*n.toNat≤100*1000:=Nat.mul_le_mul hl2 (by omega)
      generalize l.length*n.toNat=z at*
      simp
      omega
  · exact⟨.str _,H,I.tok _,⟨t',rfl⟩,by rw[mul_txt l n h0];exact q⟩
end
section
variable {Er:Nat→Prop} {W:Wd} {σ:St} {ta tb:TE}
theorem ev_repT {ma:Res Tx} {mb:Res Int} (ha:EV Er ta σ W (sh isS) ma) (hb:EV Er tb σ W (sh isI) mb):EV Er (tOp (fun x y H Q=>∃(l:Tx) (n:Int),x=.str (sOf l)∧y=.int n∧0≤n∧n≤1000∧l.length≤100∧Q (.str (sOf (List.replicate n.toNat l).flatten)) H) ta tb) σ W (sh isS) (ma.bind fun a=>mb.bind fun b=>repT a b):=
  ev2 ha hb fun W a b x y Q hx hy k=>by
    cases hx;cases hy
    obtain⟨⟨h1,h2,h3⟩,h4⟩:=must_OkE k
    exact⟨a,b,rfl,rfl,h1,h2,h3,h4 _ W (.refl _) rfl⟩
end
end Wb
namespace Mi
noncomputable section
@[irreducible] def Z7F (Z0l:List Int) (l_k:Int):Res Int:=if(decide (l_k< (Z0l.length:Int)))then ixL Z0l l_k else(mulR ((l_k*48271)+(11:Int)) ((Z0l.length:Int)+(7:Int))).bind fun y8=>Res.ok (y8% 1000003)
def Z0u (Z0l:List Int) (l_k:Int):Res Int:=Z7F Z0l l_k
@[irreducible] def Z4n (Z0u:List Int→Int→Res Int) (Z0l:List Int) (Z04:Int):Res (List Int):=((Z0u Z0l Z04).bind fun y3=>Res.ok (y3% 16)).bind fun y4=>(((((Z0u Z0l Z04).bind fun y7=>Res.ok (y7/ 16)).bind fun y8=>Res.ok (y8% 6)).bind fun y9=>Res.ok (decide (y9=(1:Int)))).bind fun y10=>(if y10 then((((Z0u Z0l Z04).bind fun y19=>Res.ok (y19/ 96)).bind fun y20=>Res.ok (y20% 20)).bind fun y21=>Res.ok ((40:Int)+y21)).bind fun y22=>Res.ok y22 else Res.ok y4:Res Int)).bind fun s26=>(rangeR s26).bind fun y43=>compR y43 (fun(a33:Int)=>Z0u Z0l ((Z04+(1:Int))+a33))
def Z17 (Z0l:List Int) (Z04:Int):Res (List Int):=Z4n Z0u Z0l Z04
@[irreducible] def Z1J (Z01:Int) (Z0x:Int) (a19:Int) (s20:(Int×Int×(List Int))):Res (Int×Int×(List Int)):=((if(decide ((1000000000000000000:Int)≤absI Z01))then Res.ok (decide ((0:Int)< s20.2.1))else Res.ok false).bind fun y45=>(if y45 then((modR s20.2.1 Z0x).bind fun y56=>appL s20.2.2 y56).bind fun y55=>(fdivR s20.2.1 Z0x).bind fun y59=>Res.ok (y59,y55)else((((mulR ((((s20.1*48271)+(7919:Int))+a19)% 2147483647) ((((s20.1*48271)+(7919:Int))+a19)% 2147483647)).bind fun y63=>Res.ok (y63% 1000003)).bind fun y64=>modR y64 Z0x).bind fun y69=>appL s20.2.2 y69).bind fun y68=>Res.ok (s20.2.1,y68):Res (Int×(List Int)))).bind fun s70=>Res.ok (((((s20.1*48271)+(7919:Int))+a19)% 2147483647),s70.1,s70.2)
@[irreducible] def Z71 (Z01:Int) (Z0t:Int) (Z0x:Int):Res (List Int):=((rangeR Z0t).bind fun y78=>forR (Z1J Z01 Z0x) y78 (((absI Z01)% 2147483647),absI Z01,([]:List Int))).bind fun s79=>Res.ok s79.2.2
def Z1K (Z01:Int) (Z0t:Int) (Z0x:Int):Res (List Int):=Z71 Z01 Z0t Z0x
@[irreducible] def Z4o (Z1K:Int→Int→Int→Res (List Int)) (Z01:Int) (Z0t:Int):Res Tx:=if(decide ((Z01% 7)=(3:Int)))then(ixS ([102,98,105]:Tx) ((Z01/ 7)% 3)).bind fun y3=>repS y3 Z0t else((Z1K (Z01/ 7) Z0t (3:Int)).bind fun y18=>compR y18 (fun(a9:Int)=>ixS ([102,98,105]:Tx) a9)).bind fun y19=>joinE y19
def Z0L (Z01:Int) (Z0t:Int):Res Tx:=Z4o Z1K Z01 Z0t
@[irreducible] def Z1L (Z0Q:(List Dat)→Res Int) (a5:Dat) (s6:Int):Res Int:=((((ixU a5 (0:Int)).bind fun y26=>ofO (ofT y26)).bind fun y27=>Res.ok (decide (y27=([116,105,109,101,115]:Tx)))).bind fun y28=>(if y28 then((((ixU a5 (1:Int)).bind fun y37=>ofO (ofI y37)).bind fun y40=>(((ixU a5 (2:Int)).bind fun y38=>ofO (ofLU y38)).bind fun y39=>Z0Q y39).bind fun y41=>mulR y40 y41).bind fun y42=>Res.ok (s6+y42)).bind fun y43=>Res.ok y43 else((((ixU a5 (0:Int)).bind fun y47=>ofO (ofT y47)).bind fun y48=>Res.ok (decide (y48=([109,105,114,114,111,114]:Tx)))).bind fun y49=>(if y49 then(((((ixU a5 (1:Int)).bind fun y58=>ofO (ofLU y58)).bind fun y59=>Z0Q y59).bind fun y60=>mulR (2:Int) y60).bind fun y61=>Res.ok (s6+y61)).bind fun y62=>Res.ok y62 else Res.ok (s6+(1:Int)):Res Int)).bind fun s70=>Res.ok s70:Res Int)).bind fun s77=>Res.ok s77
@[irreducible] def Z5g (Z0Q:(List Dat)→Res Int) (Z0I:List Dat):Res Int:=(forR (Z1L Z0Q) Z0I (0:Int)).bind fun s84=>Res.ok s84
def Z30:Nat→(List Dat)→Res Int
  | 0=>fun _=>.stuck
  | i+1=>Z5g (Z30 i)
def Z0Q (Z0I:List Dat):Res Int:=Z30 20 Z0I
@[irreducible] def Z3x (Z0Q:(List Dat)→Res Int) (Z0m:(List Fr)):Res (List Fr):=if(decide ((1:Int)< (Z0m.length:Int)))then(popS Z0m).bind fun y3=>(((Z0Q y3.1.2).bind fun y15=>Res.ok (decide (y15=(0:Int)))).bind fun y16=>(if y16 then Res.ok (y3.1.1.2% 4)else Res.ok y3.1.1.2:Res Int)).bind fun s28=>((if(decide (s28=(0:Int)))then(Z0Q y3.1.2).bind fun y36=>Res.ok (decide ((3000:Int)< y36))else Res.ok false).bind fun y37=>(if y37 then Res.ok (1:Int)else Res.ok s28:Res Int)).bind fun s49=>if(decide (y3.1.1.1=([116,105,109,101,115]:Tx)))then((topS y3.2).bind fun _=>appS y3.2 ((fun(z:Tx×Int×(List Dat))=>Dat.t [Dat.s z.1,Dat.i z.2.1,Dat.l (z.2.2.map fun(z:Dat)=>z)]) (([116,105,109,101,115]:Tx),s49,y3.1.2))).bind fun y59=>Res.ok y59 else((topS y3.2).bind fun _=>appS y3.2 ((fun(z:Tx×(List Dat))=>Dat.t [Dat.s z.1,Dat.l (z.2.map fun(z:Dat)=>z)]) (([109,105,114,114,111,114]:Tx),y3.1.2))).bind fun y63=>Res.ok y63 else Res.ok Z0m
def Z0q (Z0m:(List Fr)):Res (List Fr):=Z3x Z0Q Z0m
@[irreducible] def Z19 (Z0L:Int→Int→Res Tx) (Z0q:List Fr→Res (List Fr)) (Z0z:Int) (Z0K:Int) (a5:Int) (s6:(List Fr)):Res (List Fr):=(if(decide ((a5% 6)< (2:Int)))then((topS s6).bind fun _=>(((Z0L (a5/ 6) Z0z).bind fun y34=>Res.ok (([114,111,119]:Tx),y34)).bind fun y35=>Res.ok (Dat.t [Dat.s y35.1,Dat.s y35.2])).bind fun y36=>appS s6 y36).bind fun y37=>Res.ok y37 else(if(decide ((a5% 6)=(2:Int)))then((topS s6).bind fun _=>(((ixS ([102,98,105]:Tx) ((a5/ 6)% 3)).bind fun y48=>Res.ok (([97,108,108]:Tx),y48)).bind fun y49=>Res.ok (Dat.t [Dat.s y49.1,Dat.s y49.2])).bind fun y50=>appS s6 y50).bind fun y51=>Res.ok y51 else((if(decide ((a5% 6)=(5:Int)))then Res.ok true else Res.ok (decide ((s6.length:Int)=Z0K))).bind fun y56=>(if y56 then(Z0q s6).bind fun y63=>Res.ok y63 else(if(decide ((a5% 6)=(3:Int)))then(if(decide (((a5/ 24)% 5)=(1:Int)))then Res.ok ((a5/ 120)% 100)else Res.ok ((a5/ 6)% 4):Res Int).bind fun s89=>(pushS s6 (([116,105,109,101,115]:Tx),s89)).bind fun y97=>Res.ok y97 else(pushS s6 (([109,105,114,114,111,114]:Tx),(0:Int))).bind fun y102=>Res.ok y102:Res (List Fr)).bind fun s106=>Res.ok s106:Res (List Fr))).bind fun s115=>Res.ok s115:Res (List Fr)).bind fun s124=>Res.ok s124:Res (List Fr)).bind fun s133=>Res.ok s133
@[irreducible] def Z0Z (s147:(List Fr)):Res Bool:=Res.ok (decide ((1:Int)< (s147.length:Int)))
@[irreducible] def Z1a (Z0q:List Fr→Res (List Fr)) (s147:(List Fr)):Res (List Fr):=(Z0q s147).bind fun y160=>Res.ok y160
@[irreducible] def Z2N (Z0L:Int→Int→Res Tx) (Z0q:List Fr→Res (List Fr)) (Z2a:List Int) (Z0z:Int) (Z0K:Int):Res (List Dat):=(forR (Z19 Z0L Z0q Z0z Z0K) Z2a [((([116,111,112]:Tx),(0:Int)),[])]).bind fun s142=>(whileR Z0Z (Z1a Z0q) cap s142).bind fun s164=>lastS s164
def Z0S (Z2a:List Int) (Z0z:Int) (Z0K:Int):Res (List Dat):=Z2N Z0L Z0q Z2a Z0z Z0K
@[irreducible] def Z1n (Z0D:(List Dat)→Res Tx) (a7:Dat) (s8:(List Tx)):Res (List Tx):=((((ixU a7 (0:Int)).bind fun y29=>ofO (ofT y29)).bind fun y30=>Res.ok (decide (y30=([116,105,109,101,115]:Tx)))).bind fun y31=>(if y31 then(((((((ixU a7 (1:Int)).bind fun y38=>ofO (ofI y38)).bind fun y39=>fmtI y39).bind fun y40=>catS y40 ([40]:Tx)).bind fun y43=>(((ixU a7 (2:Int)).bind fun y41=>ofO (ofLU y41)).bind fun y42=>Z0D y42).bind fun y44=>catS y43 y44).bind fun y45=>catS y45 ([41]:Tx)).bind fun y50=>appL s8 y50).bind fun y49=>Res.ok y49 else((((ixU a7 (0:Int)).bind fun y52=>ofO (ofT y52)).bind fun y53=>Res.ok (decide (y53=([109,105,114,114,111,114]:Tx)))).bind fun y54=>(if y54 then((((((ixU a7 (1:Int)).bind fun y61=>ofO (ofLU y61)).bind fun y62=>Z0D y62).bind fun y63=>catS ([60]:Tx) y63).bind fun y64=>catS y64 ([62]:Tx)).bind fun y69=>appL s8 y69).bind fun y68=>Res.ok y68 else((((ixU a7 (0:Int)).bind fun y71=>ofO (ofT y71)).bind fun y72=>Res.ok (decide (y72=([97,108,108]:Tx)))).bind fun y73=>(if y73 then((((ixU a7 (1:Int)).bind fun y80=>ofO (ofT y80)).bind fun y81=>catS ([42]:Tx) y81).bind fun y86=>appL s8 y86).bind fun y85=>Res.ok y85 else(((ixU a7 (1:Int)).bind fun y88=>ofO (ofT y88)).bind fun y93=>appL s8 y93).bind fun y92=>Res.ok y92:Res (List Tx))).bind fun s94=>Res.ok s94:Res (List Tx))).bind fun s102=>Res.ok s102:Res (List Tx))).bind fun s110=>Res.ok s110
@[irreducible] def Z31 (Z0D:(List Dat)→Res Tx) (Z0I:List Dat):Res Tx:=(forR (Z1n Z0D) Z0I ([]:List Tx)).bind fun s118=>joinS [32] s118
def Z1P:Nat→(List Dat)→Res Tx
  | 0=>fun _=>.stuck
  | i+1=>Z31 (Z1P i)
def Z0D (Z0I:List Dat):Res Tx:=Z1P 20 Z0I
@[irreducible] def Z5n (Z01:Int):Res Tx:=(cutS ([102,98,105,102,98,105,102,98,105,102,98]:Tx) none (some ((Z01/ 39)% 12))).bind fun y11=>if(decide (((Z01/ 13)% 3)=(0:Int)))then((repS ([60]:Tx) (Z01% 13)).bind fun y16=>catS y16 y11).bind fun y17=>(repS ([62]:Tx) (Z01% 13)).bind fun y18=>catS y17 y18 else if(decide (((Z01/ 13)% 3)=(1:Int)))then((repT ([51,40]:Tx) (Z01% 13)).bind fun y26=>catS y26 y11).bind fun y27=>(repS ([41]:Tx) (Z01% 13)).bind fun y28=>catS y27 y28 else((((repT ([49,48,40,60]:Tx) ((Z01% 13)/ 2)).bind fun y38=>catS ([42,102,32]:Tx) y38).bind fun y39=>catS y39 y11).bind fun y40=>(repT ([62,41]:Tx) ((Z01% 13)/ 2)).bind fun y41=>catS y40 y41).bind fun y42=>catS y42 ([32,42,98]:Tx)
def Z1u (Z01:Int):Res Tx:=Z5n Z01
@[irreducible] def Z5o (Z01:Int):Res Tx:=(catS ([32,33,34,35,36,38,39,40,41,42,43,44,45,46,47,48,49,50,51,52,53,54,55,56,57,58,59,60,61,62,63,64,65,66,67,68,69,70,71,72,73,74,75,76,77,78,79,80,81,82,83,84,85,86,87,88,89,90,91,92,93,94,95,96]:Tx) ([97,98,99,100,101,102,103,104,105,106,107,108,109,110,111,112,113,114,115,116,117,118,119,120,121,122,123,124,125,126,10]:Tx)).bind fun y7=>ixS y7 (Z01% 95)
def Z1v (Z01:Int):Res Tx:=Z5o Z01
@[irreducible] def Z4p (Z1v:Int→Res Tx) (Z00:Tx) (Z01:Int):Res Tx:=(((lenS Z00).bind fun y3=>Res.ok (y3+(1:Int))).bind fun y4=>modR (Z01/ 5) y4).bind fun y5=>(Z1v (Z01/ 7)).bind fun y10=>if(decide ((Z01% 5)=(0:Int)))then((cutS Z00 none (some y5)).bind fun y15=>catS y15 y10).bind fun y16=>(cutS Z00 (some y5) none).bind fun y17=>catS y16 y17 else if(decide ((Z01% 5)=(1:Int)))then(cutS Z00 none (some y5)).bind fun y25=>(cutS Z00 (some (y5+(1:Int))) none).bind fun y26=>catS y25 y26 else if(decide ((Z01% 5)=(2:Int)))then((cutS Z00 none (some y5)).bind fun y34=>catS y34 y10).bind fun y35=>(cutS Z00 (some (y5+(1:Int))) none).bind fun y36=>catS y35 y36 else if(decide ((Z01% 5)=(3:Int)))then((cutS Z00 none (some y5)).bind fun y44=>(cutS Z00 (some y5) (some (y5+(1:Int)))).bind fun y45=>catS y44 y45).bind fun y46=>(cutS Z00 (some y5) none).bind fun y47=>catS y46 y47 else((cutS Z00 (some (y5+(1:Int))) (some (y5+(2:Int)))).bind fun y55=>(cutS Z00 (some y5) (some (y5+(1:Int)))).bind fun y56=>catS y55 y56).bind fun y57=>((cutS Z00 none (some y5)).bind fun y60=>catS y60 y57).bind fun y61=>(cutS Z00 (some (y5+(2:Int))) none).bind fun y62=>catS y61 y62
def Z0M (Z00:Tx) (Z01:Int):Res Tx:=Z4p Z1v Z00 Z01
@[irreducible] def Z1o (Z0u:List Int→Int→Res Int) (Z0M:Tx→Int→Res Tx) (Z0l:List Int) (a74:Int) (s75:Tx):Res Tx:=((((Z0u Z0l a74).bind fun y95=>Res.ok (y95% 2)).bind fun y96=>Res.ok (decide (y96=(1:Int)))).bind fun y97=>(if y97 then(((Z0u Z0l a74).bind fun y106=>Res.ok (y106/ 2)).bind fun y107=>Z0M s75 y107).bind fun y108=>Res.ok y108 else Res.ok s75:Res Tx)).bind fun s112=>Res.ok s112
@[irreducible] def Z4q (Z0u:List Int→Int→Res Int) (Z0D:(List Dat)→Res Tx) (Z0S:(List Int)→Int→Int→Res (List Dat)) (Z17:List Int→Int→Res (List Int)) (Z1u:Int→Res Tx) (Z0M:Tx→Int→Res Tx) (Z0l:List Int):Res Tx:=(Z0u Z0l (0:Int)).bind fun y3=>(((Z17 Z0l (4:Int)).bind fun y8=>Z0S y8 ((1:Int)+((y3/ 12)% 8)) (8:Int)).bind fun y9=>Z0D y9).bind fun y10=>(if(decide ((y3% 6)=(1:Int)))then(Z1u (y3/ 6)).bind fun y21=>Res.ok y21 else Res.ok y10:Res Tx).bind fun s25=>(if(decide ((y3% 6)=(2:Int)))then((((fmtI ((y3/ 6)% 1200)).bind fun y40=>catS y40 ([40]:Tx)).bind fun y41=>catS y41 s25).bind fun y42=>catS y42 ([41]:Tx)).bind fun y43=>Res.ok y43 else Res.ok s25:Res Tx).bind fun s47=>(if(decide ((y3% 6)=(3:Int)))then((ixL [([32]:Tx),([10]:Tx),([41]:Tx),([32,42,102]:Tx),([62]:Tx),([40,41]:Tx)] ((y3/ 6)% 6)).bind fun y62=>catS s47 y62).bind fun y63=>Res.ok y63 else Res.ok s47:Res Tx).bind fun s67=>((rangeR2 (1:Int) (4:Int)).bind fun y119=>forR (Z1o Z0u Z0M Z0l) y119 s67).bind fun s120=>Res.ok s120
def Z1i (Z0l:List Int):Res Tx:=Z4q Z0u Z0D Z0S Z17 Z1u Z0M Z0l
@[irreducible] def Z3q (Z0m:(List Fr)) (Z0C:Tx):Res (List Fr×Bool):=(if(decide ((Z0m.length:Int)< (2:Int)))then Res.ok true else(tagS Z0m).bind fun y1=>(getD ([([41],[116,105,109,101,115]),([62],[109,105,114,114,111,114])]:List (Tx×Tx)) Z0C).bind fun y2=>Res.ok (!decide (y1=y2))).bind fun y3=>if y3 then Res.ok (Z0m,false)else(popS Z0m).bind fun y10=>(if(decide (Z0C=([41]:Tx)))then((topS y10.2).bind fun _=>appS y10.2 ((fun(z:Tx×Int×(List Dat))=>Dat.t [Dat.s z.1,Dat.i z.2.1,Dat.l (z.2.2.map fun(z:Dat)=>z)]) (([116,105,109,101,115]:Tx),y10.1.1.2,y10.1.2))).bind fun y24=>Res.ok y24 else((topS y10.2).bind fun _=>appS y10.2 ((fun(z:Tx×(List Dat))=>Dat.t [Dat.s z.1,Dat.l (z.2.map fun(z:Dat)=>z)]) (([109,105,114,114,111,114]:Tx),y10.1.2))).bind fun y29=>Res.ok y29:Res (List Fr)).bind fun s33=>Res.ok (s33,true)
def Z0s (Z0m:(List Fr)) (Z0C:Tx):Res (List Fr×Bool):=Z3q Z0m Z0C
@[irreducible] def Z3r (Z0m:(List Fr)) (Z7G:Tx×Int):Res (List Fr×Bool):=if(decide ((Z0m.length:Int)=(8:Int)))then Res.ok (Z0m,false)else(pushS Z0m Z7G).bind fun y7=>Res.ok (y7,true)
def Z10 (Z0m:(List Fr)) (Z7G:Tx×Int):Res (List Fr×Bool):=Z3r Z0m Z7G
@[irreducible] def Z2b (Z00:Tx) (Z15:Tx) (s6:Int):Res Bool:=((lenS Z00).bind fun y18=>Res.ok (decide (s6< y18))).bind fun y20=>if y20 then(ixS Z00 s6).bind fun y19=>inC y19 Z15 else Res.ok false
@[irreducible] def Z2c (s6:Int):Res Int:=Res.ok (s6+(1:Int))
@[irreducible] def Z72 (Z00:Tx) (Z04:Int) (Z15:Tx):Res Tx:=(whileR (Z2b Z00 Z15) Z2c cap Z04).bind fun s25=>cutS Z00 (some Z04) (some s25)
def Z1p (Z00:Tx) (Z04:Int) (Z15:Tx):Res Tx:=Z72 Z00 Z04 Z15
@[irreducible] def Z5p (Z10:List Fr→(Tx×Int)→Res (List Fr×Bool)) (Z1p:Tx→Int→Tx→Res Tx) (Z0m:(List Fr)) (Z00:Tx) (Z04:Int):Res (List Fr×Int):=((ixS Z00 Z04).bind fun y1=>Res.ok (decide (y1=([60]:Tx)))).bind fun y2=>if y2 then(Z10 Z0m (([109,105,114,114,111,114]:Tx),(0:Int))).bind fun y5=>if y5.2 then Res.ok (y5.1,(1:Int))else Res.ok (y5.1,(0:Int))else(Z1p Z00 Z04 ([48,49,50,51,52,53,54,55,56,57]:Tx)).bind fun y20=>if(!decide (y20=([]:Tx)))then(((lenS y20).bind fun y27=>Res.ok (decide (y27=(1:Int)))).bind fun y31=>if y31 then Res.ok true else((lenS y20).bind fun y28=>Res.ok (decide (y28=(2:Int)))).bind fun y30=>if y30 then(ixS y20 (0:Int)).bind fun y29=>Res.ok (!decide (y29=([48]:Tx)))else Res.ok false).bind fun y32=>(if(!y32)then Res.ok true else((((lenS y20).bind fun y35=>Res.ok (Z04+y35)).bind fun y36=>Res.ok (some y36)).bind fun y40=>((((lenS y20).bind fun y37=>Res.ok (Z04+y37)).bind fun y38=>Res.ok (y38+(1:Int))).bind fun y39=>Res.ok (some y39)).bind fun y41=>cutS Z00 y40 y41).bind fun y42=>Res.ok (!decide (y42=([40]:Tx)))).bind fun y43=>if y43 then Res.ok (Z0m,(0:Int))else(((intW y20).bind fun y50=>Res.ok (([116,105,109,101,115]:Tx),y50)).bind fun y51=>Z10 Z0m y51).bind fun y52=>if y52.2 then((lenS y20).bind fun y57=>Res.ok (y57+(1:Int))).bind fun y58=>Res.ok (y52.1,y58)else Res.ok (y52.1,(0:Int))else((ixS Z00 Z04).bind fun y67=>Res.ok (decide (y67=([42]:Tx)))).bind fun y68=>if y68 then((Z1p Z00 (Z04+(1:Int)) ([102,98,105]:Tx)).bind fun y73=>cutS y73 none (some (1:Int))).bind fun y74=>((topS Z0m).bind fun _=>appS Z0m (Dat.t [Dat.s (([97,108,108]:Tx),y74).1,Dat.s (([97,108,108]:Tx),y74).2])).bind fun y77=>((lenS y74).bind fun y81=>mulR (2:Int) y81).bind fun y82=>Res.ok (y77,y82)else(Z1p Z00 Z04 ([102,98,105]:Tx)).bind fun y89=>((lenS y89).bind fun y92=>Res.ok (decide ((8:Int)< y92))).bind fun y93=>if y93 then Res.ok (Z0m,(0:Int))else((topS Z0m).bind fun _=>appS Z0m (Dat.t [Dat.s (([114,111,119]:Tx),y89).1,Dat.s (([114,111,119]:Tx),y89).2])).bind fun y100=>(lenS y89).bind fun y104=>Res.ok (y100,y104)
def Z0r (Z0m:(List Fr)) (Z00:Tx) (Z04:Int):Res (List Fr×Int):=Z5p Z10 Z1p Z0m Z00 Z04
@[irreducible] def Z11 (Z00:Tx) (s14:(Int×Int×(List Fr))):Res Bool:=(lenS Z00).bind fun y29=>Res.ok (decide (s14.2.1< y29))
@[irreducible] def Z0B (Z0s:List Fr→Tx→Res (List Fr×Bool)) (Z0r:List Fr→Tx→Int→Res (List Fr×Int)) (Z00:Tx) (s14:(Int×Int×(List Fr))):Res (Fl (Option (List Dat)) (Int×Int×(List Fr))):=(if(!decide (s14.1=(2:Int)))then(ixS Z00 s14.2.1).bind fun y30=>inC y30 ([41,62]:Tx)else Res.ok false).bind fun y31=>if y31 then((ixS Z00 s14.2.1).bind fun y35=>Z0s s14.2.2 y35).bind fun y36=>if y36.2 then if(decide ((1:Int)=(0:Int)))then Res.ok (.rt (none:Option (List Dat)))else Res.ok (.nx ((1:Int),(s14.2.1+(1:Int)),y36.1))else Res.ok (.rt (none:Option (List Dat)))else if(decide (s14.1=(1:Int)))then(((ixS Z00 s14.2.1).bind fun y67=>Res.ok (decide (y67=([32]:Tx)))).bind fun y68=>Res.ok (if y68 then(1:Int)else 0)).bind fun y69=>if(decide (y69=(0:Int)))then Res.ok (.rt (none:Option (List Dat)))else Res.ok (.nx ((2:Int),(s14.2.1+y69),s14.2.2))else(Z0r s14.2.2 Z00 s14.2.1).bind fun y90=>if(decide (y90.2=(0:Int)))then Res.ok (.rt (none:Option (List Dat)))else Res.ok (.nx ((if(decide ((y90.1.length:Int)=(s14.2.2.length:Int)))then(1:Int)else 0),(s14.2.1+y90.2),y90.1))
@[irreducible] def Z4r (Z0s:List Fr→Tx→Res (List Fr×Bool)) (Z0r:List Fr→Tx→Int→Res (List Fr×Int)) (Z00:Tx):Res (Option (List Dat)):=(whileF (Z11 Z00) (Z0B Z0s Z0r Z00) cap ((0:Int),(0:Int),[((([116,111,112]:Tx),(0:Int)),[])])).bind (fun | .nx s110=>((if(decide ((1:Int)< (s110.2.2.length:Int)))then Res.ok true else Res.ok (decide (s110.1=(2:Int)))).bind fun y114=>if y114 then Res.ok (none:Option (List Dat))else(lastS s110.2.2).bind fun y121=>Res.ok (some y121)) | .rt r=>Res.ok r | .bk _=>Res.stuck)
def Z18 (Z00:Tx):Res (Option (List Dat)):=Z4r Z0s Z0r Z00
@[irreducible] def Z0T (text:Tx) (signs:Tx) (s2:Int):Res Bool:=((lenS text).bind fun y14=>Res.ok (decide (s2< y14))).bind fun y16=>if y16 then(ixS text s2).bind fun y15=>inC y15 signs else Res.ok false
@[irreducible] def Z12 (s2:Int):Res Int:=Res.ok (s2+(1:Int))
@[irreducible] def Z32 (text:Tx) (at_:Int) (signs:Tx):Res Int:=(whileR (Z0T text signs) Z12 cap at_).bind fun s19=>Res.ok s19
def Z0y (text:Tx) (at_:Int) (signs:Tx):Res Int:=Z32 text at_ signs
@[irreducible] def Z2d (Z0y:Tx→Int→Tx→Res Int) (text:Tx) (at_:Int) (most:Int):Res (Tx×Int):=(Z0y text at_ ([102,98,105]:Tx)).bind fun y3=>(if(decide (y3=at_))then Res.ok true else Res.ok (decide (most< (y3- at_)))).bind fun y6=>if y6 then(((catS ([]:Tx) [49,32,116,111,32]).bind fun y9=>(fmtI most).bind fun y11=>(catS y9 y11).bind fun y10=>(catS y10 [32,116,117,114,110,115,32,97,114,101,32,119,97,110,116,101,100,32,97,116,32,115,105,103,110,32]).bind fun y12=>(fmtI at_).bind fun y14=>(catS y12 y14).bind fun y13=>Res.ok y13).bind capS).bind fun y15=>Res.err 2 else(cutS text (some at_) (some y3)).bind fun y16=>Res.ok (y16,y3)
def Z0N (text:Tx) (at_:Int) (most:Int):Res (Tx×Int):=Z2d Z0y text at_ most
@[irreducible] def Z5q (text:Tx) (at_:Int) (sign:Tx):Res Int:=((cutS text (some at_) (some (at_+(1:Int)))).bind fun y1=>Res.ok (!decide (y1=sign))).bind fun y2=>if y2 then(((catS ([]:Tx) sign).bind fun y5=>(catS y5 [32,105,115,32,119,97,110,116,101,100,32,97,116,32,115,105,103,110,32]).bind fun y7=>(fmtI at_).bind fun y9=>(catS y7 y9).bind fun y8=>Res.ok y8).bind capS).bind fun y10=>Res.err 2 else Res.ok (at_+(1:Int))
def Z1k (text:Tx) (at_:Int) (sign:Tx):Res Int:=Z5q text at_ sign
@[irreducible] def Z2O (Z0o:Tx→Int→Int→Res ((List Dat)×Int)) (Z1k:Tx→Int→Tx→Res Int) (text:Tx) (at_:Int) (brackets:Tx) (deep:Int):Res ((List Dat)×Int):=(two brackets).bind fun y1=>((Z1k text at_ y1.1).bind fun y4=>Z0o text y4 (deep+(1:Int))).bind fun y5=>(Z1k text y5.2 y1.2).bind fun y14=>Res.ok (y5.1,y14)
def Z1F (Z0o:Tx→Int→Int→Res ((List Dat)×Int)) (text:Tx) (at_:Int) (brackets:Tx) (deep:Int):Res ((List Dat)×Int):=Z2O Z0o Z1k text at_ brackets deep
@[irreducible] def Z1W (Z0y:Tx→Int→Tx→Res Int) (text:Tx) (at_:Int):Res (Int×Int):=(Z0y text at_ ([48,49,50,51,52,53,54,55,56,57]:Tx)).bind fun y3=>(cutS text (some at_) (some y3)).bind fun y8=>(((lenS y8).bind fun y11=>Res.ok (decide ((2:Int)< y11))).bind fun y14=>if y14 then Res.ok true else((intW y8).bind fun y12=>fmtI y12).bind fun y13=>Res.ok (!decide (y8=y13))).bind fun y15=>if y15 then(((catS ([]:Tx) [97,32,110,117,109,98,101,114,32,102,114,111,109,32,48,32,116,111,32,57,57,32,105,115,32,119,97,110,116,101,100,32,97,116,32,115,105,103,110,32]).bind fun y18=>(fmtI at_).bind fun y20=>(catS y18 y20).bind fun y19=>Res.ok y19).bind capS).bind fun y21=>Res.err 2 else(intW y8).bind fun y22=>Res.ok (y22,y3)
def Z0O (text:Tx) (at_:Int):Res (Int×Int):=Z1W Z0y text at_
@[irreducible] def Z1w (Z0N:Tx→Int→Int→Res (Tx×Int)) (Z1Q:Tx→Int→Tx→Int→Res ((List Dat)×Int)) (Z0O:Tx→Int→Res (Int×Int)) (text:Tx) (at_:Int) (deep:Int):Res (Dat×Int):=(cutS text (some at_) (some (at_+(1:Int)))).bind fun y3=>if(decide (y3=([42]:Tx)))then(Z0N text (at_+(1:Int)) (1:Int)).bind fun y8=>Res.ok (Dat.t [Dat.s (([97,108,108]:Tx),y8.1).1,Dat.s (([97,108,108]:Tx),y8.1).2],y8.2)else if(decide (y3=([60]:Tx)))then(Z1Q text at_ ([60,62]:Tx) deep).bind fun y23=>Res.ok ((fun(z:Tx×(List Dat))=>Dat.t [Dat.s z.1,Dat.l (z.2.map fun(z:Dat)=>z)]) (([109,105,114,114,111,114]:Tx),y23.1),y23.2)else(if(!decide (y3=([]:Tx)))then inC y3 ([48,49,50,51,52,53,54,55,56,57]:Tx)else Res.ok false).bind fun y36=>if y36 then(Z0O text at_).bind fun y39=>(Z1Q text y39.2 ([40,41]:Tx) deep).bind fun y48=>Res.ok ((fun(z:Tx×Int×(List Dat))=>Dat.t [Dat.s z.1,Dat.i z.2.1,Dat.l (z.2.2.map fun(z:Dat)=>z)]) (([116,105,109,101,115]:Tx),y39.1,y48.1),y48.2)else(Z0N text at_ (8:Int)).bind fun y61=>Res.ok (Dat.t [Dat.s (([114,111,119]:Tx),y61.1).1,Dat.s (([114,111,119]:Tx),y61.1).2],y61.2)
def Z0E (Z0o:Tx→Int→Int→Res ((List Dat)×Int)) (text:Tx) (at_:Int) (deep:Int):Res (Dat×Int):=Z1w Z0N (Z1F Z0o) Z0O text at_ deep
@[irreducible] def Z0U (text:Tx) (s27:(Dat×Int×(List Dat))):Res Bool:=(cutS text (some s27.2.1) (some (s27.2.1+(1:Int)))).bind fun y42=>Res.ok (decide (y42=([32]:Tx)))
@[irreducible] def Z0V (Z0F:Tx→Int→Int→Res (Dat×Int)) (text:Tx) (deep:Int) (s27:(Dat×Int×(List Dat))):Res (Dat×Int×(List Dat)):=(Z0F text (s27.2.1+(1:Int)) deep).bind fun y43=>(appL s27.2.2 y43.1).bind fun y55=>Res.ok (y43.1,y43.2,y55)
@[irreducible] def Z1q (Z0F:Tx→Int→Int→Res (Dat×Int)) (text:Tx) (at_:Int) (deep:Int):Res ((List Dat)×Int):=if(decide ((8:Int)< deep))then Res.err 2 else((cutS text (some at_) (some (at_+(1:Int)))).bind fun y3=>Res.ok ([(([]:Tx),([41]:Tx),([62]:Tx)).1,(([]:Tx),([41]:Tx),([62]:Tx)).2.1,(([]:Tx),([41]:Tx),([62]:Tx)).2.2].contains y3)).bind fun y4=>if y4 then Res.ok (([]:List Dat),at_)else(Z0F text at_ deep).bind fun y11=>(whileR (Z0U text) (Z0V Z0F text deep) cap (y11.1,y11.2,[y11.1])).bind fun s56=>Res.ok (s56.2.2,s56.2.1)
def Z0A:Nat→Tx→Int→Int→Res ((List Dat)×Int)
  | 0=>fun _ _ _=>.stuck
  | i+1=>Z1q (Z0E (Z0A i))
def Z0o (text:Tx) (at_:Int) (deep:Int):Res ((List Dat)×Int):=Z0A 20 text at_ deep
@[irreducible] def Z7H (Z0o:Tx→Int→Int→Res ((List Dat)×Int)) (text:Tx):Res (List Dat):=(Z0o text (0:Int) (1:Int)).bind fun y1=>((lenS text).bind fun y10=>Res.ok (!decide (y1.2=y10))).bind fun y11=>if y11 then(((catS ([]:Tx) [110,111,116,104,105,110,103,32,119,114,105,116,116,101,110,32,103,111,101,115,32,111,110,32,115,111,32,97,116,32,115,105,103,110,32]).bind fun y14=>(fmtI y1.2).bind fun y16=>(catS y14 y16).bind fun y15=>Res.ok y15).bind capS).bind fun y17=>Res.err 2 else Res.ok y1.1
def Z2e (text:Tx):Res (List Dat):=Z7H Z0o text
@[irreducible] def Z4s (Z2e:Tx→Res (List Dat)) (Z00:Tx):Res Dat:=(Res.tryR (Z2e Z00)).bind fun r2=>match r2 with | .inr j4=>Res.ok (refD [114,101,102,117,115,101,100] j4) | .inl y3=>Res.ok ((fun(z:Tx×(List Dat))=>Dat.t [Dat.s z.1,Dat.l (z.2.map fun(z:Dat)=>z)]) (([114,101,97,100]:Tx),y3))
def Z1t (Z00:Tx):Res Dat:=Z4s Z2e Z00
@[irreducible] def Z1f (Z0G:(List Dat)→Res Tx) (statement:Dat):Res Tx:=(((ixU statement (0:Int)).bind fun y1=>ofO (ofT y1)).bind fun y2=>Res.ok (decide (y2=([114,111,119]:Tx)))).bind fun y3=>if y3 then(ixU statement (1:Int)).bind fun y6=>ofO (ofT y6)else(((ixU statement (0:Int)).bind fun y12=>ofO (ofT y12)).bind fun y13=>Res.ok (decide (y13=([97,108,108]:Tx)))).bind fun y14=>if y14 then((ixU statement (1:Int)).bind fun y17=>ofO (ofT y17)).bind fun y18=>catS ([42]:Tx) y18 else(((ixU statement (0:Int)).bind fun y24=>ofO (ofT y24)).bind fun y25=>Res.ok (decide (y25=([116,105,109,101,115]:Tx)))).bind fun y26=>if y26 then(((ixU statement (1:Int)).bind fun y30=>ofO (ofI y30)).bind fun y39=>(fmtI y39).bind fun y31=>(catS ([]:Tx) y31).bind fun y29=>(catS y29 [40]).bind fun y32=>(((ixU statement (2:Int)).bind fun y34=>ofO (ofLU y34)).bind fun y35=>Z0G y35).bind fun y38=>(catS y32 y38).bind fun y33=>(catS y33 [41]).bind fun y37=>Res.ok y37).bind capS else((catS ([]:Tx) [60]).bind fun y45=>(((ixU statement (1:Int)).bind fun y47=>ofO (ofLU y47)).bind fun y48=>Z0G y48).bind fun y51=>(catS y45 y51).bind fun y46=>(catS y46 [62]).bind fun y50=>Res.ok y50).bind capS
def Z0J (Z0G:(List Dat)→Res Tx) (statement:Dat):Res Tx:=Z1f Z0G statement
@[irreducible] def Z33 (Z0W:Dat→Res Tx) (program:List Dat):Res Tx:=(compR program (fun(a1:Dat)=>Z0W a1)).bind fun y10=>joinS [32] y10
def Z1l:Nat→(List Dat)→Res Tx
  | 0=>fun _=>.stuck
  | i+1=>Z33 (Z0J (Z1l i))
def Z0G (program:List Dat):Res Tx:=Z1l 20 program
@[irreducible] def M_law (Z1i:List Int→Res Tx) (Z18:Tx→Res (Option (List Dat))) (Z1t:Tx→Res Dat) (Z0G:(List Dat)→Res Tx) (Z0l:List Int):Res Bool:=(Z1i Z0l).bind fun y3=>(Z18 y3).bind fun y8=>(Z1t y3).bind fun y13=>if y8.isNone then eqD y13 ((fun(z:Tx×(List Tx))=>Dat.t [Dat.s z.1,Dat.l (z.2.map fun(z:Tx)=>Dat.s z)]) (([114,101,102,117,115,101,100]:Tx),[([66,97,100,84,101,120,116]:Tx)]))else((eqD y13 ((fun(z:Tx×(Option (List Dat)))=>Dat.t [Dat.s z.1,optD (fun(z:List Dat)=>Dat.l (z.map fun(z:Dat)=>z)) z.2]) (([114,101,97,100]:Tx),y8))).bind fun y23=>Res.ok (!y23)).bind fun y24=>if y24 then Res.ok false else(((ixU y13 (1:Int)).bind fun y31=>ofO (ofLU y31)).bind fun y32=>Z0G y32).bind fun y33=>sameS y33 y3
def m_law (Z0l:List Int):Res Bool:=M_law Z1i Z18 Z1t Z0G Z0l
end
end Mi
namespace Wb
open PySem L2 Mi
def tp (i:Nat):Stmt:=PySem.Challenge.pw_wornband_k16_whole_reading.main.body.getD i (.Pass ⟨0,0,0,0⟩)
end Wb
namespace Wb
open PySem L2 Mi
theorem boot_ValueError:bootBuiltins "ValueError" =some (.type "ValueError"):=by decide +kernel
section
variable {P:Program} {w:World} {K:PySem.W.Frag} {mg:Str→Option Value} {base:Heap}
def knownN (j n:Nat):List (Tx×Bool):=List.take n [([66,97,100,84,97,98,108,101,116],decide (0=j)),([66,97,100,82,111,119],decide (1=j)),([66,97,100,84,101,120,116],decide (2=j)),([66,97,100,77,97,114,107],decide (3=j)),([84,111,111,76,111,110,103],decide (4=j)),([84,111,111,84,105,103,104,116],decide (5=j)),([83,112,111,111,108,68,114,121],decide (6=j)),([78,111,84,97,98,108,101,116],decide (7=j)),([78,111,116,104,105,110,103,76,101,102,116],decide (8=j)),([85,110,108,105,107,101],decide (9=j)),([83,101,101,110,84,104,114,101,97,100],decide (10=j)),([78,111,83,117,99,104,87,97,121],decide (11=j)),([66,97,114,114,101,100],decide (12=j)),([110,111,32,66,97,110,100,69,114,114,111,114],false),([110,111,32,86,97,108,117,101,69,114,114,111,114],false)]
theorem ev_isi {Er:Nat→Prop} {K:PySem.W.Frag} {x C:Addr} {σ:St} {W:Wd} {v:V} {c:Value} {b:Bool} (h0:σ[0]? =some (some (.ref x))) (hv:kv v=some c) (hk:PySem.W.kitOne K (.ref C) c=some b):
    EV Er (tCB (fun xs H Q=>∃v c b,xs=[.ref x,v]∧kv v=some c∧PySem.W.kitOne K (.ref C) c=some b∧Q (.bl b) H) (tCons (tVar 0) (tCons (tC v) tNil))) σ W (sh isB) (.ok b):=fun W1 e1 Q k=>
  ⟨.ref x,h0,v,c,b,rfl,hv,hk,k (.bl b) W1 (.refl _) rfl⟩
def kfil (a:Tx×Bool):Res (Option Tx):=if a.2 then Res.ok (some a.1)else Res.ok none
theorem kinds_pure:∀j,j< 13→compF (knownN j 15) kfil=.ok [kindN.getD j []]:=by
  intro j hj
  match j,hj with
  | 0,_=>rfl
  | 1,_=>rfl
  | 2,_=>rfl
  | 3,_=>rfl
  | 4,_=>rfl
  | 5,_=>rfl
  | 6,_=>rfl
  | 7,_=>rfl
  | 8,_=>rfl
  | 9,_=>rfl
  | 10,_=>rfl
  | 11,_=>rfl
  | 12,_=>rfl
theorem ok_kinds {f:Addr} {fd:FuncData} (F:Fun K "_law_kinds" "_law_kinds" (tp 48) f fd) (h_isinstance:mg "isinstance" =none) (h_ValueError:mg "ValueError" =none) {Z06 Z0f Z08 Z0d Z0e Z09 Z0a Z0b Z03 Z0g Z05 Z07 Z0h Z0c:Addr} (Z4A:mg "BadTablet" =some (.ref Z06)) (Z7q:mg "BadRow" =some (.ref Z0f)) (Z0v:mg "BadText" =some (.ref Z08)) (Z6i:mg "BadMark" =some (.ref Z0d)) (Z6j:mg "TooLong" =some (.ref Z0e)) (Z5r:mg "TooTight" =some (.ref Z09)) (Z5s:mg "SpoolDry" =some (.ref Z0a)) (Z5t:mg "NoTablet" =some (.ref Z0b)) (Z36:mg "NothingLeft" =some (.ref Z03)) (Z7r:mg "Unlike" =some (.ref Z0g)) (Z3y:mg "SeenThread" =some (.ref Z05)) (Z4B:mg "NoSuchWay" =some (.ref Z07)) (Z7s:mg "Barred" =some (.ref Z0h)) (Z1A:mg "BandError" =some (.ref Z0c)):
    FnOkH P w K mg base 1 f fd ["_law_e"] (spKinds K [Z06,Z0f,Z08,Z0d,Z0e,Z09,Z0a,Z0b,Z03,Z0g,Z05,Z07,Z0h] Z0c):=by
  have SC:FnScope ["_law_e","_law_known"] ["_law_e"] (defScope (tp 48)):=⟨rfl,rfl,rfl,by decide +kernel,rfl,by decide +kernel,by decide +kernel⟩
  refine Fun.okH F SC (fun x C vs H Q E h=>?_) (fun x C cdv A outer s H vs Q E hE hr h=>?_)
  · obtain⟨_,_,_,rfl,_⟩:=h;rfl
  · obtain⟨W0,j,rfl,rfl,hZ,hj,hc,hB,hV,hq⟩:=h
    refine⟨_,(pss_cons (ps_set (i:=1) SC.nd rfl (by first | exact Or.inl rfl | exact Or.inr rfl) (pe_lst (pa_cons (pe_tup (pa_cons pe_str (pa_cons (pe_callB (call_isinstE (K:=K) rfl hE hZ) (by rfl) h_isinstance PyProof.Rows.boot_isinstance (pa_cons (pv 0) (pa_cons (pe_glob (v:=.ref Z06) (by rfl) Z4A rfl) pa_nil))) pa_nil))) (pa_cons (pe_tup (pa_cons pe_str (pa_cons (pe_callB (call_isinstE (K:=K) rfl hE hZ) (by rfl) h_isinstance PyProof.Rows.boot_isinstance (pa_cons (pv 0) (pa_cons (pe_glob (v:=.ref Z0f) (by rfl) Z7q rfl) pa_nil))) pa_nil))) pa_nil))))
      (pss_cons (ps_set (i:=1) SC.nd rfl (by first | exact Or.inl rfl | exact Or.inr rfl) (pe_op op_cat (pv 1) (pe_lst (pa_cons (pe_tup (pa_cons pe_str (pa_cons (pe_callB (call_isinstE (K:=K) rfl hE hZ) (by rfl) h_isinstance PyProof.Rows.boot_isinstance (pa_cons (pv 0) (pa_cons (pe_glob (v:=.ref Z08) (by rfl) Z0v rfl) pa_nil))) pa_nil))) (pa_cons (pe_tup (pa_cons pe_str (pa_cons (pe_callB (call_isinstE (K:=K) rfl hE hZ) (by rfl) h_isinstance PyProof.Rows.boot_isinstance (pa_cons (pv 0) (pa_cons (pe_glob (v:=.ref Z0d) (by rfl) Z6i rfl) pa_nil))) pa_nil))) pa_nil)))))
      (pss_cons (ps_set (i:=1) SC.nd rfl (by first | exact Or.inl rfl | exact Or.inr rfl) (pe_op op_cat (pv 1) (pe_lst (pa_cons (pe_tup (pa_cons pe_str (pa_cons (pe_callB (call_isinstE (K:=K) rfl hE hZ) (by rfl) h_isinstance PyProof.Rows.boot_isinstance (pa_cons (pv 0) (pa_cons (pe_glob (v:=.ref Z0e) (by rfl) Z6j rfl) pa_nil))) pa_nil))) (pa_cons (pe_tup (pa_cons pe_str (pa_cons (pe_callB (call_isinstE (K:=K) rfl hE hZ) (by rfl) h_isinstance PyProof.Rows.boot_isinstance (pa_cons (pv 0) (pa_cons (pe_glob (v:=.ref Z09) (by rfl) Z5r rfl) pa_nil))) pa_nil))) pa_nil)))))
      (pss_cons (ps_set (i:=1) SC.nd rfl (by first | exact Or.inl rfl | exact Or.inr rfl) (pe_op op_cat (pv 1) (pe_lst (pa_cons (pe_tup (pa_cons pe_str (pa_cons (pe_callB (call_isinstE (K:=K) rfl hE hZ) (by rfl) h_isinstance PyProof.Rows.boot_isinstance (pa_cons (pv 0) (pa_cons (pe_glob (v:=.ref Z0a) (by rfl) Z5s rfl) pa_nil))) pa_nil))) (pa_cons (pe_tup (pa_cons pe_str (pa_cons (pe_callB (call_isinstE (K:=K) rfl hE hZ) (by rfl) h_isinstance PyProof.Rows.boot_isinstance (pa_cons (pv 0) (pa_cons (pe_glob (v:=.ref Z0b) (by rfl) Z5t rfl) pa_nil))) pa_nil))) pa_nil)))))
      (pss_cons (ps_set (i:=1) SC.nd rfl (by first | exact Or.inl rfl | exact Or.inr rfl) (pe_op op_cat (pv 1) (pe_lst (pa_cons (pe_tup (pa_cons pe_str (pa_cons (pe_callB (call_isinstE (K:=K) rfl hE hZ) (by rfl) h_isinstance PyProof.Rows.boot_isinstance (pa_cons (pv 0) (pa_cons (pe_glob (v:=.ref Z03) (by rfl) Z36 rfl) pa_nil))) pa_nil))) (pa_cons (pe_tup (pa_cons pe_str (pa_cons (pe_callB (call_isinstE (K:=K) rfl hE hZ) (by rfl) h_isinstance PyProof.Rows.boot_isinstance (pa_cons (pv 0) (pa_cons (pe_glob (v:=.ref Z0g) (by rfl) Z7r rfl) pa_nil))) pa_nil))) pa_nil)))))
      (pss_cons (ps_set (i:=1) SC.nd rfl (by first | exact Or.inl rfl | exact Or.inr rfl) (pe_op op_cat (pv 1) (pe_lst (pa_cons (pe_tup (pa_cons pe_str (pa_cons (pe_callB (call_isinstE (K:=K) rfl hE hZ) (by rfl) h_isinstance PyProof.Rows.boot_isinstance (pa_cons (pv 0) (pa_cons (pe_glob (v:=.ref Z05) (by rfl) Z3y rfl) pa_nil))) pa_nil))) (pa_cons (pe_tup (pa_cons pe_str (pa_cons (pe_callB (call_isinstE (K:=K) rfl hE hZ) (by rfl) h_isinstance PyProof.Rows.boot_isinstance (pa_cons (pv 0) (pa_cons (pe_glob (v:=.ref Z07) (by rfl) Z4B rfl) pa_nil))) pa_nil))) pa_nil)))))
      (pss_cons (ps_set (i:=1) SC.nd rfl (by first | exact Or.inl rfl | exact Or.inr rfl) (pe_op op_cat (pv 1) (pe_lst (pa_cons (pe_tup (pa_cons pe_str (pa_cons (pe_callB (call_isinstE (K:=K) rfl hE hZ) (by rfl) h_isinstance PyProof.Rows.boot_isinstance (pa_cons (pv 0) (pa_cons (pe_glob (v:=.ref Z0h) (by rfl) Z7s rfl) pa_nil))) pa_nil))) (pa_cons (pe_tup (pa_cons pe_str (pa_cons (pe_not (pe_callB (call_isinstE (K:=K) rfl hE hZ) (by rfl) h_isinstance PyProof.Rows.boot_isinstance (pa_cons (pv 0) (pa_cons (pe_glob (v:=.ref Z0c) (by rfl) Z1A rfl) pa_nil)))) pa_nil))) pa_nil)))))
      (pss_cons (ps_set (i:=1) SC.nd rfl (by first | exact Or.inl rfl | exact Or.inr rfl) (pe_op op_cat (pv 1) (pe_lst (pa_cons (pe_tup (pa_cons pe_str (pa_cons (pe_not (pe_callB (call_isinstE (K:=K) rfl hE hZ) (by rfl) h_isinstance PyProof.Rows.boot_isinstance (pa_cons (pv 0) (pa_cons (pe_bltn (v:=.ty "ValueError") (by rfl) h_ValueError boot_ValueError rfl) pa_nil)))) pa_nil))) pa_nil))))
      (pss_one (ps_ret (pe_compH (N:=["_law_name","_law_so"]) (cap:=[none,none]) (mkCS rfl (by decide +kernel) rfl (by decide +kernel) (by rfl) (by rfl)) hE.hdx (pi_listH (K:=K) rfl (pv 1)) (fun _ _ _ _ hx=>(pg_tupH (K:=K) (n:=2) rfl hx (pgs_cons (pg_name (i:=0) (show List.Nodup (["_law_name","_law_so"]:List Str) by decide +kernel) rfl (by first | exact Or.inl rfl | exact Or.inr rfl)) (pgs_cons (pg_name (i:=1) (show List.Nodup (["_law_name","_law_so"]:List Str) by decide +kernel) rfl (by first | exact Or.inl rfl | exact Or.inr rfl)) pgs_nil)))) (fun _ _ _ _=>(pts_one (pt_val (pv 1)))) (fun _ _ _ _=>(pv 0))))))))))))),?_⟩
    have E0:Ext W0 W0:=.refl W0
    rw[show L2.start ["_law_e","_law_known"] [.ref x]=[some (.ref x),none]from rfl]
    refine sv_asg_s (Er:=fun _=>False) (i:=1) (R:=sh (isL (isT2 K isS isB))) (m:=.ok (knownN j 2)) (σ':=fun v=>[some (.ref x),some v]) (EVo.ev (ev_lst (av_cons (ev_tup2 (K:=K) (ev_str (x:=Str.ofString "BadTablet") (l:=[66,97,100,84,97,98,108,101,116]) (ofS _ _ (by decide +kernel))) (ev_isi (K:=K) (C:=C) (v:=.ref Z06) (c:=.ref Z06) (b:=decide (0=j)) rfl rfl (hc 0 _ rfl))) (av_cons (ev_tup2 (K:=K) (ev_str (x:=Str.ofString "BadRow") (l:=[66,97,100,82,111,119]) (ofS _ _ (by decide +kernel))) (ev_isi (K:=K) (C:=C) (v:=.ref Z0f) (c:=.ref Z0f) (b:=decide (1=j)) rfl rfl (hc 1 _ rfl))) (av_nil (R:=isT2 K isS isB)))))) (fun v0 W1 e0 h0=>?_)
    have E0:=E0.trans e0
    refine sv_asg_s (Er:=fun _=>False) (i:=1) (R:=sh (isL (isT2 K isS isB))) (m:=.ok (knownN j 4)) (σ':=fun v=>[some (.ref x),some v]) (EVo.ev (ev_catL (EV.pk (ev_var (R:=sh (isL (isT2 K isS isB))) h0)) (EVo.pk (ev_lst (av_cons (ev_tup2 (K:=K) (ev_str (x:=Str.ofString "BadText") (l:=[66,97,100,84,101,120,116]) (ofS _ _ (by decide +kernel))) (ev_isi (K:=K) (C:=C) (v:=.ref Z08) (c:=.ref Z08) (b:=decide (2=j)) rfl rfl (hc 2 _ rfl))) (av_cons (ev_tup2 (K:=K) (ev_str (x:=Str.ofString "BadMark") (l:=[66,97,100,77,97,114,107]) (ofS _ _ (by decide +kernel))) (ev_isi (K:=K) (C:=C) (v:=.ref Z0d) (c:=.ref Z0d) (b:=decide (3=j)) rfl rfl (hc 3 _ rfl))) (av_nil (R:=isT2 K isS isB)))))))) (fun v1 W2 e1 h1=>?_)
    have E0:=E0.trans e1
    refine sv_asg_s (Er:=fun _=>False) (i:=1) (R:=sh (isL (isT2 K isS isB))) (m:=.ok (knownN j 6)) (σ':=fun v=>[some (.ref x),some v]) (EVo.ev (ev_catL (EV.pk (ev_var (R:=sh (isL (isT2 K isS isB))) h1)) (EVo.pk (ev_lst (av_cons (ev_tup2 (K:=K) (ev_str (x:=Str.ofString "TooLong") (l:=[84,111,111,76,111,110,103]) (ofS _ _ (by decide +kernel))) (ev_isi (K:=K) (C:=C) (v:=.ref Z0e) (c:=.ref Z0e) (b:=decide (4=j)) rfl rfl (hc 4 _ rfl))) (av_cons (ev_tup2 (K:=K) (ev_str (x:=Str.ofString "TooTight") (l:=[84,111,111,84,105,103,104,116]) (ofS _ _ (by decide +kernel))) (ev_isi (K:=K) (C:=C) (v:=.ref Z09) (c:=.ref Z09) (b:=decide (5=j)) rfl rfl (hc 5 _ rfl))) (av_nil (R:=isT2 K isS isB)))))))) (fun v2 W3 e2 h2=>?_)
    have E0:=E0.trans e2
    refine sv_asg_s (Er:=fun _=>False) (i:=1) (R:=sh (isL (isT2 K isS isB))) (m:=.ok (knownN j 8)) (σ':=fun v=>[some (.ref x),some v]) (EVo.ev (ev_catL (EV.pk (ev_var (R:=sh (isL (isT2 K isS isB))) h2)) (EVo.pk (ev_lst (av_cons (ev_tup2 (K:=K) (ev_str (x:=Str.ofString "SpoolDry") (l:=[83,112,111,111,108,68,114,121]) (ofS _ _ (by decide +kernel))) (ev_isi (K:=K) (C:=C) (v:=.ref Z0a) (c:=.ref Z0a) (b:=decide (6=j)) rfl rfl (hc 6 _ rfl))) (av_cons (ev_tup2 (K:=K) (ev_str (x:=Str.ofString "NoTablet") (l:=[78,111,84,97,98,108,101,116]) (ofS _ _ (by decide +kernel))) (ev_isi (K:=K) (C:=C) (v:=.ref Z0b) (c:=.ref Z0b) (b:=decide (7=j)) rfl rfl (hc 7 _ rfl))) (av_nil (R:=isT2 K isS isB)))))))) (fun v3 W4 e3 h3=>?_)
    have E0:=E0.trans e3
    refine sv_asg_s (Er:=fun _=>False) (i:=1) (R:=sh (isL (isT2 K isS isB))) (m:=.ok (knownN j 10)) (σ':=fun v=>[some (.ref x),some v]) (EVo.ev (ev_catL (EV.pk (ev_var (R:=sh (isL (isT2 K isS isB))) h3)) (EVo.pk (ev_lst (av_cons (ev_tup2 (K:=K) (ev_str (x:=Str.ofString "NothingLeft") (l:=[78,111,116,104,105,110,103,76,101,102,116]) (ofS _ _ (by decide +kernel))) (ev_isi (K:=K) (C:=C) (v:=.ref Z03) (c:=.ref Z03) (b:=decide (8=j)) rfl rfl (hc 8 _ rfl))) (av_cons (ev_tup2 (K:=K) (ev_str (x:=Str.ofString "Unlike") (l:=[85,110,108,105,107,101]) (ofS _ _ (by decide +kernel))) (ev_isi (K:=K) (C:=C) (v:=.ref Z0g) (c:=.ref Z0g) (b:=decide (9=j)) rfl rfl (hc 9 _ rfl))) (av_nil (R:=isT2 K isS isB)))))))) (fun v4 W5 e4 h4=>?_)
    have E0:=E0.trans e4
    refine sv_asg_s (Er:=fun _=>False) (i:=1) (R:=sh (isL (isT2 K isS isB))) (m:=.ok (knownN j 12)) (σ':=fun v=>[some (.ref x),some v]) (EVo.ev (ev_catL (EV.pk (ev_var (R:=sh (isL (isT2 K isS isB))) h4)) (EVo.pk (ev_lst (av_cons (ev_tup2 (K:=K) (ev_str (x:=Str.ofString "SeenThread") (l:=[83,101,101,110,84,104,114,101,97,100]) (ofS _ _ (by decide +kernel))) (ev_isi (K:=K) (C:=C) (v:=.ref Z05) (c:=.ref Z05) (b:=decide (10=j)) rfl rfl (hc 10 _ rfl))) (av_cons (ev_tup2 (K:=K) (ev_str (x:=Str.ofString "NoSuchWay") (l:=[78,111,83,117,99,104,87,97,121]) (ofS _ _ (by decide +kernel))) (ev_isi (K:=K) (C:=C) (v:=.ref Z07) (c:=.ref Z07) (b:=decide (11=j)) rfl rfl (hc 11 _ rfl))) (av_nil (R:=isT2 K isS isB)))))))) (fun v5 W6 e5 h5=>?_)
    have E0:=E0.trans e5
    refine sv_asg_s (Er:=fun _=>False) (i:=1) (R:=sh (isL (isT2 K isS isB))) (m:=.ok (knownN j 14)) (σ':=fun v=>[some (.ref x),some v]) (EVo.ev (ev_catL (EV.pk (ev_var (R:=sh (isL (isT2 K isS isB))) h5)) (EVo.pk (ev_lst (av_cons (ev_tup2 (K:=K) (ev_str (x:=Str.ofString "Barred") (l:=[66,97,114,114,101,100]) (ofS _ _ (by decide +kernel))) (ev_isi (K:=K) (C:=C) (v:=.ref Z0h) (c:=.ref Z0h) (b:=decide (12=j)) rfl rfl (hc 12 _ rfl))) (av_cons (ev_tup2 (K:=K) (ev_str (x:=Str.ofString "no BandError") (l:=[110,111,32,66,97,110,100,69,114,114,111,114]) (ofS _ _ (by decide +kernel))) (ev_not (ev_isi (K:=K) (C:=C) (v:=.ref Z0c) (c:=.ref Z0c) (b:=true) rfl rfl hB))) (av_nil (R:=isT2 K isS isB)))))))) (fun v6 W7 e6 h6=>?_)
    have E0:=E0.trans e6
    refine sv_asg_s (Er:=fun _=>False) (i:=1) (R:=sh (isL (isT2 K isS isB))) (m:=.ok (knownN j 15)) (σ':=fun v=>[some (.ref x),some v]) (EVo.ev (ev_catL (EV.pk (ev_var (R:=sh (isL (isT2 K isS isB))) h6)) (EVo.pk (ev_lst (av_cons (ev_tup2 (K:=K) (ev_str (x:=Str.ofString "no ValueError") (l:=[110,111,32,86,97,108,117,101,69,114,114,111,114]) (ofS _ _ (by decide +kernel))) (ev_not (ev_isi (K:=K) (C:=C) (v:=.ty "ValueError") (c:=.type "ValueError") (b:=true) rfl rfl hV))) (av_nil (R:=isT2 K isS isB))))))) (fun v7 W8 e7 h7=>?_)
    have E0:=E0.trans e7
    refine sv_retO (Er:=fun _=>False) (m:=.ok [kindN.getD j []]) (kinds_pure j hj▸(ev_compF (R:=isT2 K isS isB) (R':=isS) (m:=.ok (knownN j 15)) (f:=kfil) (iv_list (ev_var (R:=sh (isL (isT2 K isS isB))) h7)) fun W3 a1 v2 e4 h5 Q12 k13=>?_:EVo (fun _=>False) _ _ _ isS ((Res.ok (knownN j 15)).bind fun xs=>compF xs kfil))) (fun p W e hp o=>hq p W (E0.trans e) (none_of E0.h hp) o)
    refine gt2n h5 fun v6 v8 h7 h9=>?_
    cases h7
    cases h9
    refine⟨by simp[Keep,capSt],((tv_b (ev_var (R:=sh isB) (a:=a1.2) (v:=.bl a1.2) rfl)):TV (fun _=>False) _ [some (.str (sOf a1.1)),some (.bl a1.2)] _ _) _ (.refl _) _ ?_⟩
    intro W15 e16
    unfold kfil at k13
    cases hb:a1.2 with
    | false=>rw[hb]at k13;exact k13 none _ e16 trivial
    | true =>
      rw[hb]at k13
      rw[if_pos rfl]
      exact((ev_var (R:=sh isS) (a:=a1.1) (v:=.str (sOf a1.1)) rfl):EV (fun _=>False) _ [some (.str (sOf a1.1)),some (.bl true)] _ _ _) W15 (.refl _) _ (fun u W18 e19 h21=>k13 (some u) _ (e16.trans e19) h21)
end
end Wb
namespace Wb
open PySem L2 Mi
section
variable {P:Program} {w:World} {K:PySem.W.Frag} {mg:Str→Option Value} {base:Heap}
theorem Zgh {f:Addr} {fd:FuncData} (F:Fun K "_law_at" "_law_at" (tp 37) f fd) (h_len:mg "len" =none):FnOk P w K mg base CX0 (1) f fd ["_law_script","_law_k"] (spM2 (isScr K) isI (rs isI) (Z7F)):=by
  have SC:FnScope ["_law_script","_law_k"] ["_law_script","_law_k"] (defScope (tp 37)):=⟨rfl,rfl,rfl,by decide +kernel,rfl,by decide +kernel,by decide +kernel⟩
  refine F.ok SC (fun vs H Q E h=>?_) (fun cdv A outer s H vs Q E hr h=>?_)
  · obtain⟨_,_,_,_,_,_,rfl,_⟩:=h;rfl
  · obtain⟨W0,Z0l,l_k,Z0k,_,rfl,rfl,Z02,z_l_k,Er,hq⟩:=h
    cases z_l_k
    refine⟨_,(pss_cons (ps_if (pt_cmpR op_lt (pv 1) (pe_callB (call_lenK (K:=K) rfl) (by rfl) h_len PySem.boot_len (pa_cons (pv 0) pa_nil)) (nomark _)) (pss_one (ps_ret (pe_ix (ix_listK (K:=K) rfl) (pv 0) (pv 1) (fun _ _=>rfl)))) pss_nil)
      (pss_one (ps_ret (pe_op op_mod (pe_op op_mul (pe_op op_add (pe_op op_mul (pv 1) pe_int) pe_int) (pe_op op_add (pe_callB (call_lenK (K:=K) rfl) (by rfl) h_len PySem.boot_len (pa_cons (pv 0) pa_nil)) pe_int)) pe_int)))),?_⟩
    have E0:Ext W0 W0:=.refl W0
    rw[show L2.start ["_law_script","_law_k"] [Z0k,.int l_k]=[some Z0k,some (.int l_k)]from rfl]
    unfold Z7F at hq
    refine sv_if_s (Er:=Er) (tv_test (ev_cmp (ev_var (R:=sh isI) (a:=l_k) (v:=.int l_k) rfl) (ev_lenScr (ev_var (R:=sh (isScr K)) Z02)))) (fun W1 e2=>?_)
    have E0:=E0.trans e2
    have Z02:=Mono.mono (R:=(isScr K)) e2.g Z02
    by_cases hb13:(decide (l_k< (Z0l.length:Int)))=true
    · rw[if_pos hb13]at hq ⊢
      exact sv_ret (Er:=Er) (R:=sh isI) (ev_ixScr (ev_var (R:=sh (isScr K)) Z02) (ev_var (R:=sh isI) (a:=l_k) (v:=.int l_k) rfl)) (Res.OkE.imp hq fun y3 hq v4 W5 e6 h7=>hq v4 W5 (E0.trans e6) h7)
    · rw[if_neg hb13]at hq ⊢
      try dsimp only[tNext]
      exact sv_ret (Er:=Er) (R:=sh isI) (ev_rIk (fun _=>by decide) (ev_mul (ev_rI0 (ev_rIk (fun _=>.inr ⟨by decide,by decide⟩) (ev_var (R:=sh isI) (a:=l_k) (v:=.int l_k) rfl)) ev_int) (ev_rI0 (ev_lenScr (ev_var (R:=sh (isScr K)) Z02)) ev_int))) (Res.OkE.imp hq fun y9 hq v10 W11 e12 h13=>hq v10 W11 (E0.trans e12) h13)
theorem ZeL {f:Addr} {fd:FuncData} (F:Fun K "_law_draws" "_law_draws" (tp 38) f fd) {Z0u:List Int→Int→Res Int} (Z13:Cal P w K mg base "_law_at" ["_law_script","_law_k"] (1) (spM2 (isScr K) isI (rs isI) Z0u)) (h_range:mg "range" =none):FnOk P w K mg base CX0 (2) f fd ["_law_script","_law_at_here"] (spM2 (isScr K) isI (ro isI) (Z4n Z0u)):=by
  have SC:FnScope ["_law_script","_law_at_here","_law_many"] ["_law_script","_law_at_here"] (defScope (tp 38)):=⟨rfl,rfl,rfl,by decide +kernel,rfl,by decide +kernel,by decide +kernel⟩
  refine F.ok SC (fun vs H Q E h=>?_) (fun cdv A outer s H vs Q E hr h=>?_)
  · obtain⟨_,_,_,_,_,_,rfl,_⟩:=h;rfl
  · obtain⟨W0,Z0l,Z04,Z0k,_,rfl,rfl,Z02,Z1R,Er,hq⟩:=h
    cases Z1R
    refine⟨_,(pss_cons (ps_set (i:=2) SC.nd rfl (by first | exact Or.inl rfl | exact Or.inr rfl) (pe_op op_mod (pe_cal Z13 (hr.mono (by decide)) (by rfl) (pa_cons (pv 0) (pa_cons (pv 1) pa_nil))) pe_int))
      (pss_cons (ps_if (pt_cmpR op_eq (pe_op op_mod (pe_op op_fdiv (pe_cal Z13 (hr.mono (by decide)) (by rfl) (pa_cons (pv 0) (pa_cons (pv 1) pa_nil))) pe_int) pe_int) pe_int (nomark _)) (pss_one (ps_set (i:=2) SC.nd rfl (by first | exact Or.inl rfl | exact Or.inr rfl) (pe_op op_add pe_int (pe_op op_mod (pe_op op_fdiv (pe_cal Z13 (hr.mono (by decide)) (by rfl) (pa_cons (pv 0) (pa_cons (pv 1) pa_nil))) pe_int) pe_int)))) pss_nil)
      (pss_one (ps_ret (pe_comp (N:=["_law_k","_law_script","_law_at_here"]) (cap:=[none,some 0,some 1]) (mkCS rfl (by decide +kernel) rfl (by decide +kernel) (by rfl) (by rfl)) rfl (pi_range1 rfl h_range (pa_cons (pv 2) pa_nil)) (fun _ _ _ _=>(pg_name (i:=0) (show List.Nodup (["_law_k","_law_script","_law_at_here"]:List Str) by decide +kernel) rfl (by first | exact Or.inl rfl | exact Or.inr rfl))) (fun _ _ _ _=>pts_nil) (fun _ _ _ _=>(pe_cal Z13 (hr.mono (by decide)) (by rfl) (pa_cons (pv 1) (pa_cons (pe_op op_add (pe_op op_add (pv 2) pe_int) (pv 0)) pa_nil))))))))),?_⟩
    have E0:Ext W0 W0:=.refl W0
    rw[show L2.start ["_law_script","_law_at_here","_law_many"] [Z0k,.int Z04]=[some Z0k,some (.int Z04),none]from rfl]
    unfold Z4n at hq
    refine sv_asg_s (Er:=Er) (i:=2) (R:=sh isI) (σ':=fun v5=>[some Z0k,some (.int Z04),some v5]) (ev_rIk (fun _=>by decide) (ev_call2 (ev_var (R:=sh (isScr K)) Z02) (ev_var (R:=sh isI) (a:=Z04) (v:=.int Z04) rfl))) ((Res.okE_bind hq).imp fun y4 hq v5 W1 e2 h6=>?_)
    cases h6
    have E0:=E0.trans e2
    have Z02:=Mono.mono (R:=(isScr K)) e2.g Z02
    refine sv_ifj_s (Er:=Er) (Iv:=fun(s30:Int) (W31:Wd) (g32:St)=>g32=[some Z0k,some (.int Z04),some (.int s30)]∧Ext W0 W31) (tv_test (ev_eqI (ev_rIk (fun _=>by decide) (ev_rIk (fun _=>⟨by decide,by decide⟩) (ev_call2 (ev_var (R:=sh (isScr K)) Z02) (ev_var (R:=sh isI) (a:=Z04) (v:=.int Z04) rfl)))) ev_int)) (Res.okE_bind hq) ?_ ?_ ?_
    · intro W11 N14 e12 hN15 hq
      have hs16:=e12.g
      have E0:=E0.trans e12
      have Z02:=Mono.mono (R:=(isScr K)) e12.g Z02
      refine sv_asg (Er:=Er) (i:=2) (R:=sh isI) (σ':=fun v23=>[some Z0k,some (.int Z04),some v23]) (ev_rI0 ev_int (ev_rIk (fun _=>by decide) (ev_rIk (fun _=>⟨by decide,by decide⟩) (ev_call2 (ev_var (R:=sh (isScr K)) Z02) (ev_var (R:=sh isI) (a:=Z04) (v:=.int Z04) rfl))))) ((Res.okE_bind hq).imp fun y22 hq v23 W17 e18 h24=>?_)
      cases h24
      have E0:=E0.trans e18
      have hs16:=hs16.trans e18.g
      have Z02:=Mono.mono (R:=(isScr K)) e18.g Z02
      exact hN15 y22 W17 _ hs16 ⟨rfl,E0⟩ hq
    · intro W11 N14 e12 hN15 hq
      have hs25:=e12.g
      have E0:=E0.trans e12
      have Z02:=Mono.mono (R:=(isScr K)) e12.g Z02
      try dsimp only[tNext]
      exact hN15 y4 W11 _ hs25 ⟨rfl,E0⟩ hq
    · intro s26 W27 sg28 hS29 iv hq
      obtain⟨rfl,E0⟩:=iv
      have Z02:=Mono.mono (R:=(isScr K)) hS29 Z02
      exact sv_retO (Er:=Er) (ev_comp (f:=fun(a33:Int)=>Z0u Z0l ((Z04+(1:Int))+a33)) (iv_range (ev_var (R:=sh isI) (a:=s26) (v:=.int s26) rfl)) fun W35 a33 v34 e36 h37 Q41 k42=>by
        have h38:=MonoW.mono (R:=sh (isScr K)) e36 Z02
        cases h37
        refine gn ?_
        exact⟨by simp[Keep,capSt],((ev_call2 (ev_var (R:=sh (isScr K)) h38) (ev_rI0 (ev_rI0 (ev_var (R:=sh isI) (a:=Z04) (v:=.int Z04) rfl) ev_int) (ev_var (R:=sh isI) (a:=a33) (v:=.int a33) rfl))):EV Er _ [some (.int a33),some Z0k,some (.int Z04)] _ _ _) _ (.refl _) _ k42⟩) (Res.OkE.imp hq fun y44 hq p45 W46 e47 hp48 o49=>hq p45 W46 (E0.trans e47) (none_of E0.h hp48) o49)
theorem Zg5 {f:Addr} {fd:FuncData} (F:Fun K "_law_row" "_law_row" (tp 32) f fd) (h_abs:mg "abs" =none) (h_range:mg "range" =none):FnOk P w K mg base CX0 (1) f fd ["_law_cell","_law_many","_law_base"] (spM3 isI isI isI (ro isI) (Z71)):=by
  have SC:FnScope ["_law_cell","_law_many","_law_base","_law_now","_law_far","_law_mix","_law_out","_law_k"] ["_law_cell","_law_many","_law_base"] (defScope (tp 32)):=⟨rfl,rfl,rfl,by decide +kernel,rfl,by decide +kernel,by decide +kernel⟩
  refine F.ok SC (fun vs H Q E h=>?_) (fun cdv A outer s H vs Q E hr h=>?_)
  · obtain⟨_,_,_,_,_,_,_,_,rfl,_⟩:=h;rfl
  · obtain⟨W0,Z01,Z0t,Z0x,_,_,_,rfl,rfl,Z1x,Z7t,ZfR,Er,hq⟩:=h
    cases Z1x
    cases Z7t
    cases ZfR
    refine⟨_,(pss_cons (ps_set (i:=3) SC.nd rfl (by first | exact Or.inl rfl | exact Or.inr rfl) (pe_callB call_abs (by rfl) h_abs PyProof.Rows.boot_abs (pa_cons (pv 0) pa_nil)))
      (pss_cons (ps_set (i:=4) SC.nd rfl (by first | exact Or.inl rfl | exact Or.inr rfl) (pe_cmpR op_ge (pv 3) (pe_op op_pow pe_int pe_int) (nomark _)))
      (pss_cons (ps_set (i:=5) SC.nd rfl (by first | exact Or.inl rfl | exact Or.inr rfl) (pe_op op_mod (pv 3) pe_int))
      (pss_cons (ps_set (i:=6) SC.nd rfl (by first | exact Or.inl rfl | exact Or.inr rfl) (pe_lst pa_nil))
      (pss_cons (ps_for PassesOwn.never rfl (pi_range1 rfl h_range (pa_cons (pv 1) pa_nil)) (pg_name (i:=7) SC.nd rfl (by first | exact Or.inl rfl | exact Or.inr rfl)) (pss_cons (ps_set (i:=5) SC.nd rfl (by first | exact Or.inl rfl | exact Or.inr rfl) (pe_op op_mod (pe_op op_add (pe_op op_add (pe_op op_mul (pv 5) pe_int) pe_int) (pv 7)) pe_int))
      (pss_one (ps_if (PW.pt (pw_and (pt_val (pv 4)) (pw_and1 (pt_cmpR op_gt (pv 3) pe_int (nomark _))))) (pss_cons (ps_expr (pe_append1 (K:=K) rfl (pv 6) (pa_cons (pe_op op_mod (pv 3) (pv 2)) pa_nil)))
      (pss_one (ps_set (i:=3) SC.nd rfl (by first | exact Or.inl rfl | exact Or.inr rfl) (pe_op op_fdiv (pv 3) (pv 2))))) (pss_one (ps_expr (pe_append1 (K:=K) rfl (pv 6) (pa_cons (pe_op op_mod (pe_op op_mod (pe_op op_mul (pv 5) (pv 5)) pe_int) (pv 2)) pa_nil))))))))
      (pss_one (ps_ret (pv 6)))))))),?_⟩
    have E0:Ext W0 W0:=.refl W0
    rw[show L2.start ["_law_cell","_law_many","_law_base","_law_now","_law_far","_law_mix","_law_out","_law_k"] [.int Z01,.int Z0t,.int Z0x]=[some (.int Z01),some (.int Z0t),some (.int Z0x),none,none,none,none,none]from rfl]
    unfold Z71 at hq
    refine sv_asg_s (Er:=Er) (i:=3) (R:=sh isI) (σ':=fun v3=>[some (.int Z01),some (.int Z0t),some (.int Z0x),some v3,none,none,none,none]) (ev_abs (ev_var (R:=sh isI) (a:=Z01) (v:=.int Z01) rfl)) (fun v3 W1 e2 h4=>?_)
    cases h4
    have E0:=E0.trans e2
    refine sv_asg_s (Er:=Er) (i:=4) (R:=sh isB) (σ':=fun v7=>[some (.int Z01),some (.int Z0t),some (.int Z0x),some (.int (absI Z01)),some v7,none,none,none]) (ev_cmp (ev_var (R:=sh isI) (a:=(absI Z01)) (v:=.int (absI Z01)) rfl) (ev_powc (r:=1000000000000000000) (by decide) (by decide))) (fun v7 W5 e6 h8=>?_)
    cases h8
    have E0:=E0.trans e6
    refine sv_asg_s (Er:=Er) (i:=5) (R:=sh isI) (σ':=fun v11=>[some (.int Z01),some (.int Z0t),some (.int Z0x),some (.int (absI Z01)),some (.bl (decide ((1000000000000000000:Int)≤absI Z01))),some v11,none,none]) (ev_rIk (fun _=>by decide) (ev_var (R:=sh isI) (a:=(absI Z01)) (v:=.int (absI Z01)) rfl)) (fun v11 W9 e10 h12=>?_)
    cases h12
    have E0:=E0.trans e10
    refine sv_asgO_s (Er:=Er) (i:=6) (σ':=fun p15=>[some (.int Z01),some (.int Z0t),some (.int Z0x),some (.int (absI Z01)),some (.bl (decide ((1000000000000000000:Int)≤absI Z01))),some (.int ((absI Z01)% 2147483647)),some (.ref p15),none]) (ev_lst0 (R:=isI)) (fun p15 W13 e14 hp16 o17=>?_)
    have fr18:=none_of E0.h hp16
    have E0:=E0.trans e14
    refine sv_for_s (Er:=Er) (f:=(Z1J Z01 Z0x)) (s0:=(((absI Z01)% 2147483647),absI Z01,([]:List Int))) (Iv:=fun(s21:(Int×Int×(List Int))) (W22:Wd) (g23:St)=>∃(d25:Option V),g23=[some (.int Z01),some (.int Z0t),some (.int Z0x),some (.int s21.2.1),some (.bl (decide ((1000000000000000000:Int)≤absI Z01))),some (.int s21.1),some (.ref p15),d25]∧Ext W0 W22∧Ow isI W22 p15 s21.2.2) (iv_range (ev_var (R:=sh isI) (a:=Z0t) (v:=.int Z0t) rfl)) (Res.okE_bind hq) ?_ ?_ ?_
    · intro W37 e38
      have E0:=E0.trans e38
      have o17:=o17.mono e38
      exact⟨_,rfl,E0,o17⟩
    · intro Wb26 W27 W28 a19 v29 s20 sg30 P31 hW32 hB33 iv e34 h35 hq
      obtain⟨d25,rfl,E0,o24⟩:=iv
      have E0:=E0.trans e34
      have hB33:=hB33.trans e34.g
      have o24:=o24.mono e34
      cases h35
      refine gn (σ':=[some (.int Z01),some (.int Z0t),some (.int Z0x),some (.int s20.2.1),some (.bl (decide ((1000000000000000000:Int)≤absI Z01))),some (.int s20.1),some (.ref p15),some (.int a19)]) ?_
      unfold Z1J at hq
      refine sv_asg_s (Er:=Er) (i:=5) (R:=sh isI) (σ':=fun v43=>[some (.int Z01),some (.int Z0t),some (.int Z0x),some (.int s20.2.1),some (.bl (decide ((1000000000000000000:Int)≤absI Z01))),some v43,some (.ref p15),some (.int a19)]) (ev_rIk (fun _=>by decide) (ev_rI0 (ev_rI0 (ev_rIk (fun _=>.inr ⟨by decide,by decide⟩) (ev_var (R:=sh isI) (a:=s20.1) (v:=.int s20.1) rfl)) ev_int) (ev_var (R:=sh isI) (a:=a19) (v:=.int a19) rfl))) (fun v43 W41 e42 h44=>?_)
      cases h44
      have E0:=E0.trans e42
      have hB33:=hB33.trans e42.g
      have o24:=o24.mono e42
      refine sv_ifj (Er:=Er) (Iv:=fun(s74:(Int×(List Int))) (W75:Wd) (g76:St)=>g76=[some (.int Z01),some (.int Z0t),some (.int Z0x),some (.int s74.1),some (.bl (decide ((1000000000000000000:Int)≤absI Z01))),some (.int ((((s20.1*48271)+(7919:Int))+a19)% 2147483647)),some (.ref p15),some (.int a19)]∧Ext W0 W75∧Ow isI W75 p15 s74.2) (tv_and (tv_b (ev_var (R:=sh isB) (a:=(decide ((1000000000000000000:Int)≤absI Z01))) (v:=.bl (decide ((1000000000000000000:Int)≤absI Z01))) rfl)) (tv_test (ev_cmp (ev_var (R:=sh isI) (a:=s20.2.1) (v:=.int s20.2.1) rfl) ev_int))) (Res.okE_bind hq) ?_ ?_ ?_
      · intro W46 N49 e47 hN50 hq
        have hs51:=e47.g
        have E0:=E0.trans e47
        have hB33:=hB33.trans e47.g
        have o24:=o24.mono e47
        refine sv_app_s (Er:=Er) o24 (ev_mod (ev_var (R:=sh isI) (a:=s20.2.1) (v:=.int s20.2.1) rfl) (ev_var (R:=sh isI) (a:=Z0x) (v:=.int Z0x) rfl)) ((Res.okE_bind hq).imp fun y55 hq W52 mu53 o54=>?_)
        have E0:=mu53.e _ E0 fr18
        have hB33:=hB33.trans mu53.g
        have hs51:=hs51.trans mu53.g
        refine sv_asg (Er:=Er) (i:=3) (R:=sh isI) (σ':=fun v60=>[some (.int Z01),some (.int Z0t),some (.int Z0x),some v60,some (.bl (decide ((1000000000000000000:Int)≤absI Z01))),some (.int ((((s20.1*48271)+(7919:Int))+a19)% 2147483647)),some (.ref p15),some (.int a19)]) (ev_fdiv (ev_var (R:=sh isI) (a:=s20.2.1) (v:=.int s20.2.1) rfl) (ev_var (R:=sh isI) (a:=Z0x) (v:=.int Z0x) rfl)) ((Res.okE_bind hq).imp fun y59 hq v60 W57 e58 h61=>?_)
        cases h61
        have E0:=E0.trans e58
        have hB33:=hB33.trans e58.g
        have hs51:=hs51.trans e58.g
        have o54:=o54.mono e58
        exact hN50 (y59,y55) W57 _ hs51 ⟨rfl,E0,o54⟩ hq
      · intro W46 N49 e47 hN50 hq
        have hs62:=e47.g
        have E0:=E0.trans e47
        have hB33:=hB33.trans e47.g
        have o24:=o24.mono e47
        refine sv_app (Er:=Er) o24 (ev_mod (ev_rIk (fun _=>by decide) (ev_mul (ev_var (R:=sh isI) (a:=((((s20.1*48271)+(7919:Int))+a19)% 2147483647)) (v:=.int ((((s20.1*48271)+(7919:Int))+a19)% 2147483647)) rfl) (ev_var (R:=sh isI) (a:=((((s20.1*48271)+(7919:Int))+a19)% 2147483647)) (v:=.int ((((s20.1*48271)+(7919:Int))+a19)% 2147483647)) rfl))) (ev_var (R:=sh isI) (a:=Z0x) (v:=.int Z0x) rfl)) ((Res.okE_bind hq).imp fun y68 hq W65 mu66 o67=>?_)
        have E0:=mu66.e _ E0 fr18
        have hB33:=hB33.trans mu66.g
        have hs62:=hs62.trans mu66.g
        exact hN50 (s20.2.1,y68) W65 _ hs62 ⟨rfl,E0,o67⟩ hq
      · intro s70 W71 sg72 hS73 iv hq
        obtain⟨rfl,E0,o77⟩:=iv
        have hB33:=hB33.trans hS73
        try dsimp only
        refine nxF_of (W:=W71) (((((s20.1*48271)+(7919:Int))+a19)% 2147483647),s70.1,s70.2) hB33 ?_ hq
        exact⟨_,rfl,E0,o77⟩
    · intro s79 W80 sg81 hS82 iv hq
      obtain⟨d25,rfl,E0,o24⟩:=iv
      exact⟨.ref p15,rfl,hq p15 W80 E0 fr18 o24⟩
theorem ZeM {f:Addr} {fd:FuncData} (F:Fun K "_law_turns" "_law_turns" (tp 33) f fd) {Z1K:Int→Int→Int→Res (List Int)} (Z5u:Cal P w K mg base "_law_row" ["_law_cell","_law_many","_law_base"] (1) (spM3 isI isI isI (ro isI) Z1K)):FnOk P w K mg base CX0 (2) f fd ["_law_cell","_law_many"] (spM2 isI isI (rs isS) (Z4o Z1K)):=by
  have SC:FnScope ["_law_cell","_law_many"] ["_law_cell","_law_many"] (defScope (tp 33)):=⟨rfl,rfl,rfl,by decide +kernel,rfl,by decide +kernel,by decide +kernel⟩
  refine F.ok SC (fun vs H Q E h=>?_) (fun cdv A outer s H vs Q E hr h=>?_)
  · obtain⟨_,_,_,_,_,_,rfl,_⟩:=h;rfl
  · obtain⟨W0,Z01,Z0t,_,_,rfl,rfl,Z1x,Z7t,Er,hq⟩:=h
    cases Z1x
    cases Z7t
    refine⟨_,(pss_cons (ps_if (pt_cmpR op_eq (pe_op op_mod (pv 0) pe_int) pe_int (nomark _)) (pss_one (ps_ret (pe_op op_mul_str (pe_ix ix_str pe_str (pe_op op_mod (pe_op op_fdiv (pv 0) pe_int) pe_int) (fun _ _=>rfl)) (pv 1)))) pss_nil)
      (pss_one (ps_ret (pe_join1 (K:=K) rfl pe_str (pa_cons (pe_comp (N:=["_law_d"]) (cap:=[none]) (mkCS rfl (by decide +kernel) rfl (by decide +kernel) (by rfl) (by rfl)) rfl (pi_listK (K:=K) rfl (pe_cal Z5u (hr.mono (by decide)) (by rfl) (pa_cons (pe_op op_fdiv (pv 0) pe_int) (pa_cons (pv 1) (pa_cons pe_int pa_nil))))) (fun _ _ _ _=>(pg_name (i:=0) (show List.Nodup (["_law_d"]:List Str) by decide +kernel) rfl (by first | exact Or.inl rfl | exact Or.inr rfl))) (fun _ _ _ _=>pts_nil) (fun _ _ _ _=>(pe_ix ix_str pe_str (pv 0) (fun _ _=>rfl)))) pa_nil))))),?_⟩
    have E0:Ext W0 W0:=.refl W0
    rw[show L2.start ["_law_cell","_law_many"] [.int Z01,.int Z0t]=[some (.int Z01),some (.int Z0t)]from rfl]
    unfold Z4o at hq
    refine sv_if_s (Er:=Er) (tv_test (ev_eqI (ev_rIk (fun _=>by decide) (ev_var (R:=sh isI) (a:=Z01) (v:=.int Z01) rfl)) ev_int)) (fun W1 e2=>?_)
    have E0:=E0.trans e2
    by_cases hb24:(decide ((Z01% 7)=(3:Int)))=true
    · rw[if_pos hb24]at hq ⊢
      exact sv_ret (Er:=Er) (R:=sh isS) (ev_repS (ev_ixS (ev_str (x:=Str.ofString "fbi") (l:=[102,98,105]) (ofS _ _ (by decide +kernel))) (ev_rIk (fun _=>by decide) (ev_rIk (fun _=>⟨by decide,by decide⟩) (ev_var (R:=sh isI) (a:=Z01) (v:=.int Z01) rfl)))) (ev_var (R:=sh isI) (a:=Z0t) (v:=.int Z0t) rfl)) (Res.OkE.imp hq fun y4 hq v5 W6 e7 h8=>hq v5 W6 (E0.trans e7) h8)
    · rw[if_neg hb24]at hq ⊢
      try dsimp only[tNext]
      exact sv_ret (Er:=Er) (R:=sh isS) (ev_join (ofS _ _ (by decide +kernel)) (EVo.pk (ev_comp (f:=fun(a9:Int)=>ixS ([102,98,105]:Tx) a9) (iv_list (EVo.ev (ev_call3o (ev_rIk (fun _=>⟨by decide,by decide⟩) (ev_var (R:=sh isI) (a:=Z01) (v:=.int Z01) rfl)) (ev_var (R:=sh isI) (a:=Z0t) (v:=.int Z0t) rfl) ev_int))) fun W11 a9 v10 e12 h13 Q16 k17=>by
        cases h13
        refine gn ?_
        exact⟨by simp[Keep,capSt],((ev_ixS (ev_str (x:=Str.ofString "fbi") (l:=[102,98,105]) (ofS _ _ (by decide +kernel))) (ev_var (R:=sh isI) (a:=a9) (v:=.int a9) rfl)):EV Er _ [some (.int a9)] _ _ _) _ (.refl _) _ k17⟩))) (Res.OkE.imp hq fun y20 hq v21 W22 e23 h24=>hq v21 W22 (E0.trans e23) h24)
theorem Zg6 {f:Addr} {fd:FuncData} (F:Fun K "_law_sum" "_law_sum" (tp 34) f fd) {Z0Q:(List Dat)→Res Int} {n:Nat} (Z16:Cal P w K mg base "_law_sum" ["_law_program_here"] (n) (spM1 (isL (isU K)) (rs isI) Z0Q)):FnOk P w K mg base CX0 (n+1) f fd ["_law_program_here"] (spM1 (isL (isU K)) (rs isI) (Z5g Z0Q)):=by
  have SC:FnScope ["_law_program_here","_law_many","_law_one"] ["_law_program_here"] (defScope (tp 34)):=⟨rfl,rfl,rfl,by decide +kernel,rfl,by decide +kernel,by decide +kernel⟩
  refine F.ok SC (fun vs H Q E h=>?_) (fun cdv A outer s H vs Q E hr h=>?_)
  · obtain⟨_,_,_,_,rfl,_⟩:=h;rfl
  · obtain⟨W0,Z0I,Z0j,rfl,rfl,Z0P,Er,hq⟩:=h
    refine⟨_,(pss_cons (ps_set (i:=1) SC.nd rfl (by first | exact Or.inl rfl | exact Or.inr rfl) pe_int)
      (pss_cons (ps_for PassesOwn.never rfl (pi_listK (K:=K) rfl (pv 0)) (pg_name (i:=2) SC.nd rfl (by first | exact Or.inl rfl | exact Or.inr rfl)) (pss_one (ps_if (pt_cmpR op_eq (pe_ix (ix_tupK (K:=K) rfl) (pv 2) pe_int (fun _ _=>rfl)) pe_str (nomark _)) (pss_one (ps_set (i:=1) SC.nd rfl (by first | exact Or.inl rfl | exact Or.inr rfl) (pe_op op_add (pv 1) (pe_op op_mul (pe_ix (ix_tupK (K:=K) rfl) (pv 2) pe_int (fun _ _=>rfl)) (pe_cal Z16 (hr.mono (by omega)) (by rfl) (pa_cons (pe_ix (ix_tupK (K:=K) rfl) (pv 2) pe_int (fun _ _=>rfl)) pa_nil)))))) (pss_one (ps_if (pt_cmpR op_eq (pe_ix (ix_tupK (K:=K) rfl) (pv 2) pe_int (fun _ _=>rfl)) pe_str (nomark _)) (pss_one (ps_set (i:=1) SC.nd rfl (by first | exact Or.inl rfl | exact Or.inr rfl) (pe_op op_add (pv 1) (pe_op op_mul pe_int (pe_cal Z16 (hr.mono (by omega)) (by rfl) (pa_cons (pe_ix (ix_tupK (K:=K) rfl) (pv 2) pe_int (fun _ _=>rfl)) pa_nil)))))) (pss_one (ps_set (i:=1) SC.nd rfl (by first | exact Or.inl rfl | exact Or.inr rfl) (pe_op op_add (pv 1) pe_int))))))))
      (pss_one (ps_ret (pv 1))))),?_⟩
    have E0:Ext W0 W0:=.refl W0
    rw[show L2.start ["_law_program_here","_law_many","_law_one"] [Z0j]=[some Z0j,none,none]from rfl]
    unfold Z5g at hq
    refine sv_asg_s (Er:=Er) (i:=1) (R:=sh isI) (σ':=fun v3=>[some Z0j,some v3,none]) ev_int (fun v3 W1 e2 h4=>?_)
    cases h4
    have E0:=E0.trans e2
    have Z0P:=Mono.mono (R:=(isL (isU K))) e2.g Z0P
    refine sv_for_s (Er:=Er) (f:=(Z1L Z0Q)) (s0:=(0:Int)) (Iv:=fun(s7:Int) (W8:Wd) (g9:St)=>∃(d10:Option V),g9=[some Z0j,some (.int s7),d10]∧Ext W0 W8) (iv_list (ev_var (R:=sh (isL (isU K))) Z0P)) (Res.okE_bind hq) ?_ ?_ ?_
    · intro W22 e23
      have E0:=E0.trans e23
      exact⟨_,rfl,E0⟩
    · intro Wb11 W12 W13 a5 v14 s6 sg15 P16 hW17 hB18 iv e19 h20 hq
      obtain⟨d10,rfl,E0⟩:=iv
      have E0:=E0.trans e19
      have hB18:=hB18.trans e19.g
      refine gn (σ':=[some Z0j,some (.int s6),some v14]) ?_
      unfold Z1L at hq
      refine sv_ifj (Er:=Er) (Iv:=fun(s81:Int) (W82:Wd) (g83:St)=>g83=[some Z0j,some (.int s81),some v14]∧Ext W0 W82) (tv_test (ev_eqS (ev_ofU (K:=K) ofU_s (ev_ixU (ev_var (R:=sh (isU K)) h20) ev_int)) (ev_str (x:=Str.ofString "times") (l:=[116,105,109,101,115]) (ofS _ _ (by decide +kernel))))) (Res.okE_bind hq) ?_ ?_ ?_
      · intro W29 N32 e30 hN33 hq
        have hs34:=e30.g
        have E0:=E0.trans e30
        have hB18:=hB18.trans e30.g
        have h20:=Mono.mono (R:=(isU K)) e30.g h20
        refine sv_asg (Er:=Er) (i:=1) (R:=sh isI) (σ':=fun v44=>[some Z0j,some v44,some v14]) (ev_rI0 (ev_var (R:=sh isI) (a:=s6) (v:=.int s6) rfl) (ev_mul (ev_ofU (K:=K) ofU_i (ev_ixU (ev_var (R:=sh (isU K)) h20) ev_int)) (ev_call1 (ev_ofU (K:=K) ofU_l (ev_ixU (ev_var (R:=sh (isU K)) h20) ev_int))))) ((Res.okE_bind hq).imp fun y43 hq v44 W35 e36 h45=>?_)
        cases h45
        have E0:=E0.trans e36
        have hB18:=hB18.trans e36.g
        have hs34:=hs34.trans e36.g
        have h20:=Mono.mono (R:=(isU K)) e36.g h20
        exact hN33 y43 W35 _ hs34 ⟨rfl,E0⟩ hq
      · intro W29 N32 e30 hN33 hq
        have hs46:=e30.g
        have E0:=E0.trans e30
        have hB18:=hB18.trans e30.g
        have h20:=Mono.mono (R:=(isU K)) e30.g h20
        refine sv_ifj (Er:=Er) (Iv:=fun(s74:Int) (W75:Wd) (g76:St)=>g76=[some Z0j,some (.int s74),some v14]∧Ext W0 W75) (tv_test (ev_eqS (ev_ofU (K:=K) ofU_s (ev_ixU (ev_var (R:=sh (isU K)) h20) ev_int)) (ev_str (x:=Str.ofString "mirror") (l:=[109,105,114,114,111,114]) (ofS _ _ (by decide +kernel))))) (Res.okE_bind hq) ?_ ?_ ?_
        · intro W50 N53 e51 hN54 hq
          have hs55:=e51.g
          have E0:=E0.trans e51
          have hB18:=hB18.trans e51.g
          have hs46:=hs46.trans e51.g
          have h20:=Mono.mono (R:=(isU K)) e51.g h20
          refine sv_asg (Er:=Er) (i:=1) (R:=sh isI) (σ':=fun v63=>[some Z0j,some v63,some v14]) (ev_rI0 (ev_var (R:=sh isI) (a:=s6) (v:=.int s6) rfl) (ev_mul ev_int (ev_call1 (ev_ofU (K:=K) ofU_l (ev_ixU (ev_var (R:=sh (isU K)) h20) ev_int))))) ((Res.okE_bind hq).imp fun y62 hq v63 W56 e57 h64=>?_)
          cases h64
          have E0:=E0.trans e57
          have hB18:=hB18.trans e57.g
          have hs46:=hs46.trans e57.g
          have hs55:=hs55.trans e57.g
          have h20:=Mono.mono (R:=(isU K)) e57.g h20
          exact hN54 y62 W56 _ hs55 ⟨rfl,E0⟩ hq
        · intro W50 N53 e51 hN54 hq
          have hs65:=e51.g
          have E0:=E0.trans e51
          have hB18:=hB18.trans e51.g
          have hs46:=hs46.trans e51.g
          have h20:=Mono.mono (R:=(isU K)) e51.g h20
          refine sv_asg (Er:=Er) (i:=1) (R:=sh isI) (σ':=fun v68=>[some Z0j,some v68,some v14]) (ev_rI0 (ev_var (R:=sh isI) (a:=s6) (v:=.int s6) rfl) ev_int) (fun v68 W66 e67 h69=>?_)
          cases h69
          have E0:=E0.trans e67
          have hB18:=hB18.trans e67.g
          have hs46:=hs46.trans e67.g
          have hs65:=hs65.trans e67.g
          have h20:=Mono.mono (R:=(isU K)) e67.g h20
          exact hN54 (s6+(1:Int)) W66 _ hs65 ⟨rfl,E0⟩ hq
        · intro s70 W71 sg72 hS73 iv hq
          obtain⟨rfl,E0⟩:=iv
          have hB18:=hB18.trans hS73
          have hs46:=hs46.trans hS73
          have h20:=Mono.mono (R:=(isU K)) hS73 h20
          exact hN33 s70 W71 _ hs46 ⟨rfl,E0⟩ hq
      · intro s77 W78 sg79 hS80 iv hq
        obtain⟨rfl,E0⟩:=iv
        have hB18:=hB18.trans hS80
        have h20:=Mono.mono (R:=(isU K)) hS80 h20
        try dsimp only
        refine nxF_of (W:=W78) s77 hB18 ?_ hq
        exact⟨_,rfl,E0⟩
    · intro s84 W85 sg86 hS87 iv hq
      obtain⟨d10,rfl,E0⟩:=iv
      exact sv_ret (Er:=Er) (R:=sh isI) (ev_var (R:=sh isI) (a:=s84) (v:=.int s84) rfl) (fun v88 W89 e90 h91=>hq v88 W89 (E0.trans e90) h91)
theorem ZfS {f:Addr} {fd:FuncData} (F:Fun K "_law_fold" "_law_fold" (tp 35) f fd) {Z0Q:(List Dat)→Res Int} (Z16:Cal P w K mg base "_law_sum" ["_law_program_here"] (20) (spM1 (isL (isU K)) (rs isI) Z0Q)) (h_len:mg "len" =none):FnOk P w K mg base CX0 (21) f fd ["_law_stack"] (spS K (Z3x Z0Q)):=by
  have SC:FnScope ["_law_stack","_law_head","_law_body","_law_many"] ["_law_stack"] (defScope (tp 35)):=⟨rfl,rfl,rfl,by decide +kernel,rfl,by decide +kernel,by decide +kernel⟩
  refine F.ok SC (fun vs H Q E h=>?_) (fun cdv A outer s H vs Q E hr h=>?_)
  · obtain⟨_,_,_,_,_,_,rfl,_⟩:=h;rfl
  · obtain⟨W0,W,Z0n,Z0m,E0,rfl,rfl,Z0i,Er,hq⟩:=h
    refine⟨_,(pss_one (ps_if (pt_cmpR op_gt (pe_callB (call_lenK (K:=K) rfl) (by rfl) h_len PySem.boot_len (pa_cons (pv 0) pa_nil)) pe_int (nomark _)) (pss_cons (ps_asg (pe_bm0K (K:=K) rfl PySem.F.plainAttrs_list PySem.F.slot_list_pop PySem.F.type_list_pop mt_pop (pv 0)) (pg_tupK (K:=K) (n:=2) rfl rfl (pgs_cons (pg_name (i:=1) SC.nd rfl (by first | exact Or.inl rfl | exact Or.inr rfl)) (pgs_cons (pg_name (i:=2) SC.nd rfl (by first | exact Or.inl rfl | exact Or.inr rfl)) pgs_nil))))
      (pss_cons (ps_set (i:=3) SC.nd rfl (by first | exact Or.inl rfl | exact Or.inr rfl) (pe_ix (ix_tupK (K:=K) rfl) (pv 1) pe_int (fun _ _=>rfl)))
      (pss_cons (ps_if (pt_cmpR op_eq (pe_cal Z16 (hr.mono (by decide)) (by rfl) (pa_cons (pv 2) pa_nil)) pe_int (nomark _)) (pss_one (ps_set (i:=3) SC.nd rfl (by first | exact Or.inl rfl | exact Or.inr rfl) (pe_op op_mod (pv 3) pe_int))) pss_nil)
      (pss_cons (ps_if (PW.pt (pw_and (pt_cmpR op_eq (pv 3) pe_int (nomark _)) (pw_and1 (pt_cmpR op_gt (pe_cal Z16 (hr.mono (by decide)) (by rfl) (pa_cons (pv 2) pa_nil)) pe_int (nomark _))))) (pss_one (ps_set (i:=3) SC.nd rfl (by first | exact Or.inl rfl | exact Or.inr rfl) pe_int)) pss_nil)
      (pss_one (ps_if (pt_cmpR op_eq (pe_ix (ix_tupK (K:=K) rfl) (pv 1) pe_int (fun _ _=>rfl)) pe_str (nomark _)) (pss_one (ps_expr (pe_append1 (K:=K) rfl (pe_ix (ix_tupK (K:=K) rfl) (pe_ix (ix_listK (K:=K) rfl) (pv 0) (pe_un un_neg pe_int) (fun _ _=>rfl)) pe_int (fun _ _=>rfl)) (pa_cons (pe_tup (pa_cons pe_str (pa_cons (pv 3) (pa_cons (pv 2) pa_nil)))) pa_nil)))) (pss_one (ps_expr (pe_append1 (K:=K) rfl (pe_ix (ix_tupK (K:=K) rfl) (pe_ix (ix_listK (K:=K) rfl) (pv 0) (pe_un un_neg pe_int) (fun _ _=>rfl)) pe_int (fun _ _=>rfl)) (pa_cons (pe_tup (pa_cons pe_str (pa_cons (pv 2) pa_nil))) pa_nil)))))))))) pss_nil)),?_⟩
    have hS0:Same W.G W.G:=.refl _
    rw[show L2.start ["_law_stack","_law_head","_law_body","_law_many"] [.ref Z0n]=[some (.ref Z0n),none,none,none]from rfl]
    unfold Z3x at hq
    refine sv_if (Er:=Er) (tv_test (ev_cmp (ev_stkLen Z0i) ev_int)) (fun W1 e2=>?_)
    have E0:=E0.trans e2
    have hS0:=hS0.trans e2.g
    have Z0i:=Z0i.mono e2
    by_cases hb66:(decide ((1:Int)< (Z0m.length:Int)))=true
    · rw[if_pos hb66]at hq ⊢
      refine sv_stkPop_s (Er:=Er) (K:=K) (g1:=1) (g2:=2) (σ':=fun v4 v5=>[some (.ref Z0n),some v4,some v5,none]) E0 Z0i ((Res.okE_bind hq).imp fun y3 hq v4 v5 W6 E0 hS7 h8 h9 o10=>?_)
      have hS0:=hS0.trans hS7
      refine sv_asg_s (Er:=Er) (i:=3) (R:=sh isI) (σ':=fun v13=>[some (.ref Z0n),some v4,some v5,some v13]) (ev_ixT (f:=fun(b:Tx×Int)=>b.2) ix21 (ev_var (R:=sh (isT2 K isS isI)) h8)) (fun v13 W11 e12 h14=>?_)
      cases h14
      have E0:=E0.trans e12
      have hS0:=hS0.trans e12.g
      have o10:=o10.mono e12
      have h8:=Mono.mono (R:=(isT2 K isS isI)) e12.g h8
      have h9:=Mono.mono (R:=(isL (isU K))) e12.g h9
      refine sv_ifj_s (Er:=Er) (Iv:=fun(s32:Int) (W33:Wd) (g34:St)=>g34=[some (.ref Z0n),some v4,some v5,some (.int s32)]∧Ext W0 W33∧OwS K W0 W33 Z0n y3.2) (tv_test (ev_eqI (ev_call1 (ev_var (R:=sh (isL (isU K))) h9)) ev_int)) (Res.okE_bind hq) ?_ ?_ ?_
      · intro W17 N20 e18 hN21 hq
        have hs22:=e18.g
        have E0:=E0.trans e18
        have hS0:=hS0.trans e18.g
        have o10:=o10.mono e18
        have h8:=Mono.mono (R:=(isT2 K isS isI)) e18.g h8
        have h9:=Mono.mono (R:=(isL (isU K))) e18.g h9
        refine sv_asg (Er:=Er) (i:=3) (R:=sh isI) (σ':=fun v25=>[some (.ref Z0n),some v4,some v5,some v25]) (ev_rIk (fun _=>by decide) (ev_var (R:=sh isI) (a:=y3.1.1.2) (v:=.int y3.1.1.2) rfl)) (fun v25 W23 e24 h26=>?_)
        cases h26
        have E0:=E0.trans e24
        have hS0:=hS0.trans e24.g
        have hs22:=hs22.trans e24.g
        have o10:=o10.mono e24
        have h8:=Mono.mono (R:=(isT2 K isS isI)) e24.g h8
        have h9:=Mono.mono (R:=(isL (isU K))) e24.g h9
        exact hN21 (y3.1.1.2% 4) W23 _ hs22 ⟨rfl,E0,o10⟩ hq
      · intro W17 N20 e18 hN21 hq
        have hs27:=e18.g
        have E0:=E0.trans e18
        have hS0:=hS0.trans e18.g
        have o10:=o10.mono e18
        have h8:=Mono.mono (R:=(isT2 K isS isI)) e18.g h8
        have h9:=Mono.mono (R:=(isL (isU K))) e18.g h9
        try dsimp only[tNext]
        exact hN21 y3.1.1.2 W17 _ hs27 ⟨rfl,E0,o10⟩ hq
      · intro s28 W29 sg30 hS31 iv hq
        obtain⟨rfl,E0,o35⟩:=iv
        have hS0:=hS0.trans hS31
        have h8:=Mono.mono (R:=(isT2 K isS isI)) hS31 h8
        have h9:=Mono.mono (R:=(isL (isU K))) hS31 h9
        refine sv_ifj_s (Er:=Er) (Iv:=fun(s53:Int) (W54:Wd) (g55:St)=>g55=[some (.ref Z0n),some v4,some v5,some (.int s53)]∧Ext W0 W54∧OwS K W0 W54 Z0n y3.2) (tv_and (tv_test (ev_eqI (ev_var (R:=sh isI) (a:=s28) (v:=.int s28) rfl) ev_int)) (tv_test (ev_cmp (ev_call1 (ev_var (R:=sh (isL (isU K))) h9)) ev_int))) (Res.okE_bind hq) ?_ ?_ ?_
        · intro W38 N41 e39 hN42 hq
          have hs43:=e39.g
          have E0:=E0.trans e39
          have hS0:=hS0.trans e39.g
          have o35:=o35.mono e39
          have h8:=Mono.mono (R:=(isT2 K isS isI)) e39.g h8
          have h9:=Mono.mono (R:=(isL (isU K))) e39.g h9
          refine sv_asg (Er:=Er) (i:=3) (R:=sh isI) (σ':=fun v46=>[some (.ref Z0n),some v4,some v5,some v46]) ev_int (fun v46 W44 e45 h47=>?_)
          cases h47
          have E0:=E0.trans e45
          have hS0:=hS0.trans e45.g
          have hs43:=hs43.trans e45.g
          have o35:=o35.mono e45
          have h8:=Mono.mono (R:=(isT2 K isS isI)) e45.g h8
          have h9:=Mono.mono (R:=(isL (isU K))) e45.g h9
          exact hN42 (1:Int) W44 _ hs43 ⟨rfl,E0,o35⟩ hq
        · intro W38 N41 e39 hN42 hq
          have hs48:=e39.g
          have E0:=E0.trans e39
          have hS0:=hS0.trans e39.g
          have o35:=o35.mono e39
          have h8:=Mono.mono (R:=(isT2 K isS isI)) e39.g h8
          have h9:=Mono.mono (R:=(isL (isU K))) e39.g h9
          try dsimp only[tNext]
          exact hN42 s28 W38 _ hs48 ⟨rfl,E0,o35⟩ hq
        · intro s49 W50 sg51 hS52 iv hq
          obtain⟨rfl,E0,o56⟩:=iv
          have hS0:=hS0.trans hS52
          have h8:=Mono.mono (R:=(isT2 K isS isI)) hS52 h8
          have h9:=Mono.mono (R:=(isL (isU K))) hS52 h9
          refine sv_if (Er:=Er) (tv_test (ev_eqS (ev_ixT (f:=fun(b:Tx×Int)=>b.1) ix20 (ev_var (R:=sh (isT2 K isS isI)) h8)) (ev_str (x:=Str.ofString "times") (l:=[116,105,109,101,115]) (ofS _ _ (by decide +kernel))))) (fun W57 e58=>?_)
          have E0:=E0.trans e58
          have hS0:=hS0.trans e58.g
          have o56:=o56.mono e58
          have h8:=Mono.mono (R:=(isT2 K isS isI)) e58.g h8
          have h9:=Mono.mono (R:=(isL (isU K))) e58.g h9
          by_cases hb66:(decide (y3.1.1.1=([116,105,109,101,115]:Tx)))=true
          · rw[if_pos hb66]at hq ⊢
            refine sv_stkApp (Er:=Er) (K:=K) E0 o56 (ev_toU (K:=K) (u:=fun(z:Tx×Int×(List Dat))=>Dat.t [Dat.s z.1,Dat.i z.2.1,Dat.l (z.2.2.map fun(z:Dat)=>z)]) (toU_3 toU_s toU_i (toU_l (u:=fun(z:Dat)=>z) toU_u)) (ev_tup3 (K:=K) (ev_str (x:=Str.ofString "times") (l:=[116,105,109,101,115]) (ofS _ _ (by decide +kernel))) (ev_var (R:=sh isI) (a:=s49) (v:=.int s49) rfl) (ev_var (R:=sh (isL (isU K))) h9))) ((Res.okE_bind hq).imp fun y59 hq W60 E0 hS61 o62=>?_)
            have hS0:=hS0.trans hS61
            exact hq W60 E0 hS0 o62
          · rw[if_neg hb66]at hq ⊢
            refine sv_stkApp (Er:=Er) (K:=K) E0 o56 (ev_toU (K:=K) (u:=fun(z:Tx×(List Dat))=>Dat.t [Dat.s z.1,Dat.l (z.2.map fun(z:Dat)=>z)]) (toU_2 toU_s (toU_l (u:=fun(z:Dat)=>z) toU_u)) (ev_tup2 (K:=K) (ev_str (x:=Str.ofString "mirror") (l:=[109,105,114,114,111,114]) (ofS _ _ (by decide +kernel))) (ev_var (R:=sh (isL (isU K))) h9))) ((Res.okE_bind hq).imp fun y63 hq W64 E0 hS65 o66=>?_)
            have hS0:=hS0.trans hS65
            exact hq W64 E0 hS0 o66
    · rw[if_neg hb66]at hq ⊢
      try dsimp only[tNext]
      exact hq W1 E0 hS0 Z0i
theorem Zci {f:Addr} {fd:FuncData} (F:Fun K "_law_program" "_law_program" (tp 36) f fd) {Z0L:Int→Int→Res Tx} {Z0q:List Fr→Res (List Fr)} (Z3z:Cal P w K mg base "_law_turns" ["_law_cell","_law_many"] (2) (spM2 isI isI (rs isS) Z0L)) (Z2P:Cal P w K mg base "_law_fold" ["_law_stack"] (21) (spS K Z0q)) (h_len:mg "len" =none):FnOk P w K mg base CX0 (22) f fd ["_law_draws_here","_law_width","_law_most"] (spM3 (isL isI) isI isI (ro (isU K)) (Z2N Z0L Z0q)):=by
  have SC:FnScope ["_law_draws_here","_law_width","_law_most","_law_stack","_law_d","_law_many"] ["_law_draws_here","_law_width","_law_most"] (defScope (tp 36)):=⟨rfl,rfl,rfl,by decide +kernel,rfl,by decide +kernel,by decide +kernel⟩
  refine F.ok SC (fun vs H Q E h=>?_) (fun cdv A outer s H vs Q E hr h=>?_)
  · obtain⟨_,_,_,_,_,_,_,_,rfl,_⟩:=h;rfl
  · obtain⟨W0,Z2a,Z0z,Z0K,Z0p,_,_,rfl,rfl,Z2D,ZeN,ZfT,Er,hq⟩:=h
    cases ZeN
    cases ZfT
    refine⟨_,(pss_cons (ps_set (i:=3) SC.nd rfl (by first | exact Or.inl rfl | exact Or.inr rfl) (pe_lst (pa_cons (pe_tup (pa_cons (pe_tup (pa_cons pe_str (pa_cons pe_int pa_nil))) (pa_cons (pe_lst pa_nil) pa_nil))) pa_nil)))
      (pss_cons (ps_for PassesOwn.never rfl (pi_listK (K:=K) rfl (pv 0)) (pg_name (i:=4) SC.nd rfl (by first | exact Or.inl rfl | exact Or.inr rfl)) (pss_one (ps_if (pt_cmpR op_lt (pe_op op_mod (pv 4) pe_int) pe_int (nomark _)) (pss_one (ps_expr (pe_append1 (K:=K) rfl (pe_ix (ix_tupK (K:=K) rfl) (pe_ix (ix_listK (K:=K) rfl) (pv 3) (pe_un un_neg pe_int) (fun _ _=>rfl)) pe_int (fun _ _=>rfl)) (pa_cons (pe_tup (pa_cons pe_str (pa_cons (pe_cal Z3z (hr.mono (by decide)) (by rfl) (pa_cons (pe_op op_fdiv (pv 4) pe_int) (pa_cons (pv 1) pa_nil))) pa_nil))) pa_nil)))) (pss_one (ps_if (pt_cmpR op_eq (pe_op op_mod (pv 4) pe_int) pe_int (nomark _)) (pss_one (ps_expr (pe_append1 (K:=K) rfl (pe_ix (ix_tupK (K:=K) rfl) (pe_ix (ix_listK (K:=K) rfl) (pv 3) (pe_un un_neg pe_int) (fun _ _=>rfl)) pe_int (fun _ _=>rfl)) (pa_cons (pe_tup (pa_cons pe_str (pa_cons (pe_ix ix_str pe_str (pe_op op_mod (pe_op op_fdiv (pv 4) pe_int) pe_int) (fun _ _=>rfl)) pa_nil))) pa_nil)))) (pss_one (ps_if (PW.pt (pw_or (pt_cmpR op_eq (pe_op op_mod (pv 4) pe_int) pe_int (nomark _)) (pw_or1 (pt_cmpR op_eq (pe_callB (call_lenK (K:=K) rfl) (by rfl) h_len PySem.boot_len (pa_cons (pv 3) pa_nil)) (pv 2) (nomark _))))) (pss_one (ps_expr (pe_cal Z2P (hr.mono (by decide)) (by rfl) (pa_cons (pv 3) pa_nil)))) (pss_one (ps_if (pt_cmpR op_eq (pe_op op_mod (pv 4) pe_int) pe_int (nomark _)) (pss_cons (ps_set (i:=5) SC.nd rfl (by first | exact Or.inl rfl | exact Or.inr rfl) (pe_op op_mod (pe_op op_fdiv (pv 4) pe_int) pe_int))
      (pss_cons (ps_if (pt_cmpR op_eq (pe_op op_mod (pe_op op_fdiv (pv 4) pe_int) pe_int) pe_int (nomark _)) (pss_one (ps_set (i:=5) SC.nd rfl (by first | exact Or.inl rfl | exact Or.inr rfl) (pe_op op_mod (pe_op op_fdiv (pv 4) pe_int) pe_int))) pss_nil)
      (pss_one (ps_expr (pe_append1 (K:=K) rfl (pv 3) (pa_cons (pe_tup (pa_cons (pe_tup (pa_cons pe_str (pa_cons (pv 5) pa_nil))) (pa_cons (pe_lst pa_nil) pa_nil))) pa_nil)))))) (pss_one (ps_expr (pe_append1 (K:=K) rfl (pv 3) (pa_cons (pe_tup (pa_cons (pe_tup (pa_cons pe_str (pa_cons pe_int pa_nil))) (pa_cons (pe_lst pa_nil) pa_nil))) pa_nil)))))))))))))
      (pss_cons (ps_while PassesOwn.never (pt_cmpR op_gt (pe_callB (call_lenK (K:=K) rfl) (by rfl) h_len PySem.boot_len (pa_cons (pv 3) pa_nil)) pe_int (nomark _)) (pss_one (ps_expr (pe_cal Z2P (hr.mono (by decide)) (by rfl) (pa_cons (pv 3) pa_nil)))))
      (pss_one (ps_ret (pe_ix (ix_tupK (K:=K) rfl) (pe_ix (ix_listK (K:=K) rfl) (pv 3) pe_int (fun _ _=>rfl)) pe_int (fun _ _=>rfl))))))),?_⟩
    have E0:Ext W0 W0:=.refl W0
    rw[show L2.start ["_law_draws_here","_law_width","_law_most","_law_stack","_law_d","_law_many"] [Z0p,.int Z0z,.int Z0K]=[some Z0p,some (.int Z0z),some (.int Z0K),none,none,none]from rfl]
    unfold Z2N at hq
    refine sv_stkNew_s (Er:=Er) (K:=K) (i:=3) (σ':=fun p1=>[some Z0p,some (.int Z0z),some (.int Z0K),some (.ref p1),none,none]) E0 (ev_tup2 (K:=K) (ev_str (x:=Str.ofString "top") (l:=[116,111,112]) (ofS _ _ (by decide +kernel))) ev_int) (fun p1 W2 e3 o4=>?_)
    have E0:=E0.trans e3
    have Z2D:=Mono.mono (R:=(isL isI)) e3.g Z2D
    refine sv_for_s (Er:=Er) (f:=(Z19 Z0L Z0q Z0z Z0K)) (s0:=[((([116,111,112]:Tx),(0:Int)),[])]) (Iv:=fun(s7:(List Fr)) (W8:Wd) (g9:St)=>∃(d11:Option V) (d12:Option V),g9=[some Z0p,some (.int Z0z),some (.int Z0K),some (.ref p1),d12,d11]∧Ext W0 W8∧OwS K W0 W8 p1 s7) (iv_list (ev_var (R:=sh (isL isI)) Z2D)) (Res.okE_bind hq) ?_ ?_ ?_
    · intro W24 e25
      have E0:=E0.trans e25
      have o4:=o4.mono e25
      exact⟨_,_,rfl,E0,o4⟩
    · intro Wb13 W14 W15 a5 v16 s6 sg17 P18 hW19 hB20 iv e21 h22 hq
      obtain⟨d11,d12,rfl,E0,o10⟩:=iv
      have E0:=E0.trans e21
      have hB20:=hB20.trans e21.g
      have o10:=o10.mono e21
      cases h22
      refine gn (σ':=[some Z0p,some (.int Z0z),some (.int Z0K),some (.ref p1),some (.int a5),d11]) ?_
      unfold Z19 at hq
      refine sv_ifj (Er:=Er) (Iv:=fun(s137:(List Fr)) (W138:Wd) (g139:St)=>∃(d141:Option V),g139=[some Z0p,some (.int Z0z),some (.int Z0K),some (.ref p1),some (.int a5),d141]∧Ext W0 W138∧OwS K W0 W138 p1 s137) (tv_test (ev_cmp (ev_rIk (fun _=>by decide) (ev_var (R:=sh isI) (a:=a5) (v:=.int a5) rfl)) ev_int)) (Res.okE_bind hq) ?_ ?_ ?_
      · intro W28 N31 e29 hN32 hq
        have hs33:=e29.g
        have E0:=E0.trans e29
        have hB20:=hB20.trans e29.g
        have o10:=o10.mono e29
        refine sv_stkApp (Er:=Er) (K:=K) E0 o10 (ev_toU (K:=K) (toU_2 toU_s toU_s) (ev_tup2 (K:=K) (ev_str (x:=Str.ofString "row") (l:=[114,111,119]) (ofS _ _ (by decide +kernel))) (ev_call2 (ev_rIk (fun _=>⟨by decide,by decide⟩) (ev_var (R:=sh isI) (a:=a5) (v:=.int a5) rfl)) (ev_var (R:=sh isI) (a:=Z0z) (v:=.int Z0z) rfl)))) ((Res.okE_bind hq).imp fun y37 hq W38 E0 hS39 o40=>?_)
        have hB20:=hB20.trans hS39
        have hs33:=hs33.trans hS39
        exact hN32 y37 W38 _ hs33 ⟨_,rfl,E0,o40⟩ hq
      · intro W28 N31 e29 hN32 hq
        have hs41:=e29.g
        have E0:=E0.trans e29
        have hB20:=hB20.trans e29.g
        have o10:=o10.mono e29
        refine sv_ifj (Er:=Er) (Iv:=fun(s128:(List Fr)) (W129:Wd) (g130:St)=>∃(d132:Option V),g130=[some Z0p,some (.int Z0z),some (.int Z0K),some (.ref p1),some (.int a5),d132]∧Ext W0 W129∧OwS K W0 W129 p1 s128) (tv_test (ev_eqI (ev_rIk (fun _=>by decide) (ev_var (R:=sh isI) (a:=a5) (v:=.int a5) rfl)) ev_int)) (Res.okE_bind hq) ?_ ?_ ?_
        · intro W42 N45 e43 hN46 hq
          have hs47:=e43.g
          have E0:=E0.trans e43
          have hB20:=hB20.trans e43.g
          have hs41:=hs41.trans e43.g
          have o10:=o10.mono e43
          refine sv_stkApp (Er:=Er) (K:=K) E0 o10 (ev_toU (K:=K) (toU_2 toU_s toU_s) (ev_tup2 (K:=K) (ev_str (x:=Str.ofString "all") (l:=[97,108,108]) (ofS _ _ (by decide +kernel))) (ev_ixS (ev_str (x:=Str.ofString "fbi") (l:=[102,98,105]) (ofS _ _ (by decide +kernel))) (ev_rIk (fun _=>by decide) (ev_rIk (fun _=>⟨by decide,by decide⟩) (ev_var (R:=sh isI) (a:=a5) (v:=.int a5) rfl)))))) ((Res.okE_bind hq).imp fun y51 hq W52 E0 hS53 o54=>?_)
          have hB20:=hB20.trans hS53
          have hs41:=hs41.trans hS53
          have hs47:=hs47.trans hS53
          exact hN46 y51 W52 _ hs47 ⟨_,rfl,E0,o54⟩ hq
        · intro W42 N45 e43 hN46 hq
          have hs55:=e43.g
          have E0:=E0.trans e43
          have hB20:=hB20.trans e43.g
          have hs41:=hs41.trans e43.g
          have o10:=o10.mono e43
          refine sv_ifj (Er:=Er) (Iv:=fun(s119:(List Fr)) (W120:Wd) (g121:St)=>∃(d123:Option V),g121=[some Z0p,some (.int Z0z),some (.int Z0K),some (.ref p1),some (.int a5),d123]∧Ext W0 W120∧OwS K W0 W120 p1 s119) (tv_or (tv_test (ev_eqI (ev_rIk (fun _=>by decide) (ev_var (R:=sh isI) (a:=a5) (v:=.int a5) rfl)) ev_int)) (tv_test (ev_eqI (ev_stkLen o10) (ev_var (R:=sh isI) (a:=Z0K) (v:=.int Z0K) rfl)))) (Res.okE_bind hq) ?_ ?_ ?_
          · intro W57 N60 e58 hN61 hq
            have hs62:=e58.g
            have E0:=E0.trans e58
            have hB20:=hB20.trans e58.g
            have hs41:=hs41.trans e58.g
            have hs55:=hs55.trans e58.g
            have o10:=o10.mono e58
            refine sv_callS (Er:=Er) (K:=K) E0 o10 ((Res.okE_bind hq).imp fun y63 hq W64 E0 hS65 o66=>?_)
            have hB20:=hB20.trans hS65
            have hs41:=hs41.trans hS65
            have hs55:=hs55.trans hS65
            have hs62:=hs62.trans hS65
            exact hN61 y63 W64 _ hs62 ⟨_,rfl,E0,o66⟩ hq
          · intro W57 N60 e58 hN61 hq
            have hs67:=e58.g
            have E0:=E0.trans e58
            have hB20:=hB20.trans e58.g
            have hs41:=hs41.trans e58.g
            have hs55:=hs55.trans e58.g
            have o10:=o10.mono e58
            refine sv_ifj (Er:=Er) (Iv:=fun(s110:(List Fr)) (W111:Wd) (g112:St)=>∃(d114:Option V),g112=[some Z0p,some (.int Z0z),some (.int Z0K),some (.ref p1),some (.int a5),d114]∧Ext W0 W111∧OwS K W0 W111 p1 s110) (tv_test (ev_eqI (ev_rIk (fun _=>by decide) (ev_var (R:=sh isI) (a:=a5) (v:=.int a5) rfl)) ev_int)) (Res.okE_bind hq) ?_ ?_ ?_
            · intro W68 N71 e69 hN72 hq
              have hs73:=e69.g
              have E0:=E0.trans e69
              have hB20:=hB20.trans e69.g
              have hs41:=hs41.trans e69.g
              have hs55:=hs55.trans e69.g
              have hs67:=hs67.trans e69.g
              have o10:=o10.mono e69
              refine sv_asg_s (Er:=Er) (i:=5) (R:=sh isI) (σ':=fun v76=>[some Z0p,some (.int Z0z),some (.int Z0K),some (.ref p1),some (.int a5),some v76]) (ev_rIk (fun _=>by decide) (ev_rIk (fun _=>⟨by decide,by decide⟩) (ev_var (R:=sh isI) (a:=a5) (v:=.int a5) rfl))) (fun v76 W74 e75 h77=>?_)
              cases h77
              have E0:=E0.trans e75
              have hB20:=hB20.trans e75.g
              have hs41:=hs41.trans e75.g
              have hs55:=hs55.trans e75.g
              have hs67:=hs67.trans e75.g
              have hs73:=hs73.trans e75.g
              have o10:=o10.mono e75
              refine sv_ifj_s (Er:=Er) (Iv:=fun(s93:Int) (W94:Wd) (g95:St)=>g95=[some Z0p,some (.int Z0z),some (.int Z0K),some (.ref p1),some (.int a5),some (.int s93)]∧Ext W0 W94∧OwS K W0 W94 p1 s6) (tv_test (ev_eqI (ev_rIk (fun _=>by decide) (ev_rIk (fun _=>⟨by decide,by decide⟩) (ev_var (R:=sh isI) (a:=a5) (v:=.int a5) rfl))) ev_int)) (Res.okE_bind hq) ?_ ?_ ?_
              · intro W78 N81 e79 hN82 hq
                have hs83:=e79.g
                have E0:=E0.trans e79
                have hB20:=hB20.trans e79.g
                have hs41:=hs41.trans e79.g
                have hs55:=hs55.trans e79.g
                have hs67:=hs67.trans e79.g
                have hs73:=hs73.trans e79.g
                have o10:=o10.mono e79
                refine sv_asg (Er:=Er) (i:=5) (R:=sh isI) (σ':=fun v86=>[some Z0p,some (.int Z0z),some (.int Z0K),some (.ref p1),some (.int a5),some v86]) (ev_rIk (fun _=>by decide) (ev_rIk (fun _=>⟨by decide,by decide⟩) (ev_var (R:=sh isI) (a:=a5) (v:=.int a5) rfl))) (fun v86 W84 e85 h87=>?_)
                cases h87
                have E0:=E0.trans e85
                have hB20:=hB20.trans e85.g
                have hs41:=hs41.trans e85.g
                have hs55:=hs55.trans e85.g
                have hs67:=hs67.trans e85.g
                have hs73:=hs73.trans e85.g
                have hs83:=hs83.trans e85.g
                have o10:=o10.mono e85
                exact hN82 ((a5/ 120)% 100) W84 _ hs83 ⟨rfl,E0,o10⟩ hq
              · intro W78 N81 e79 hN82 hq
                have hs88:=e79.g
                have E0:=E0.trans e79
                have hB20:=hB20.trans e79.g
                have hs41:=hs41.trans e79.g
                have hs55:=hs55.trans e79.g
                have hs67:=hs67.trans e79.g
                have hs73:=hs73.trans e79.g
                have o10:=o10.mono e79
                try dsimp only[tNext]
                exact hN82 ((a5/ 6)% 4) W78 _ hs88 ⟨rfl,E0,o10⟩ hq
              · intro s89 W90 sg91 hS92 iv hq
                obtain⟨rfl,E0,o96⟩:=iv
                have hB20:=hB20.trans hS92
                have hs41:=hs41.trans hS92
                have hs55:=hs55.trans hS92
                have hs67:=hs67.trans hS92
                have hs73:=hs73.trans hS92
                refine sv_stkPush (Er:=Er) (K:=K) E0 o96 (ev_tup2 (K:=K) (ev_str (x:=Str.ofString "times") (l:=[116,105,109,101,115]) (ofS _ _ (by decide +kernel))) (ev_var (R:=sh isI) (a:=s89) (v:=.int s89) rfl)) ((Res.okE_bind hq).imp fun y97 hq W98 E0 hS99 o100=>?_)
                have hB20:=hB20.trans hS99
                have hs41:=hs41.trans hS99
                have hs55:=hs55.trans hS99
                have hs67:=hs67.trans hS99
                have hs73:=hs73.trans hS99
                exact hN72 y97 W98 _ hs73 ⟨_,rfl,E0,o100⟩ hq
            · intro W68 N71 e69 hN72 hq
              have hs101:=e69.g
              have E0:=E0.trans e69
              have hB20:=hB20.trans e69.g
              have hs41:=hs41.trans e69.g
              have hs55:=hs55.trans e69.g
              have hs67:=hs67.trans e69.g
              have o10:=o10.mono e69
              refine sv_stkPush (Er:=Er) (K:=K) E0 o10 (ev_tup2 (K:=K) (ev_str (x:=Str.ofString "mirror") (l:=[109,105,114,114,111,114]) (ofS _ _ (by decide +kernel))) ev_int) ((Res.okE_bind hq).imp fun y102 hq W103 E0 hS104 o105=>?_)
              have hB20:=hB20.trans hS104
              have hs41:=hs41.trans hS104
              have hs55:=hs55.trans hS104
              have hs67:=hs67.trans hS104
              have hs101:=hs101.trans hS104
              exact hN72 y102 W103 _ hs101 ⟨_,rfl,E0,o105⟩ hq
            · intro s106 W107 sg108 hS109 iv hq
              obtain⟨d114,rfl,E0,o113⟩:=iv
              have hB20:=hB20.trans hS109
              have hs41:=hs41.trans hS109
              have hs55:=hs55.trans hS109
              have hs67:=hs67.trans hS109
              exact hN61 s106 W107 _ hs67 ⟨_,rfl,E0,o113⟩ hq
          · intro s115 W116 sg117 hS118 iv hq
            obtain⟨d123,rfl,E0,o122⟩:=iv
            have hB20:=hB20.trans hS118
            have hs41:=hs41.trans hS118
            have hs55:=hs55.trans hS118
            exact hN46 s115 W116 _ hs55 ⟨_,rfl,E0,o122⟩ hq
        · intro s124 W125 sg126 hS127 iv hq
          obtain⟨d132,rfl,E0,o131⟩:=iv
          have hB20:=hB20.trans hS127
          have hs41:=hs41.trans hS127
          exact hN32 s124 W125 _ hs41 ⟨_,rfl,E0,o131⟩ hq
      · intro s133 W134 sg135 hS136 iv hq
        obtain⟨d141,rfl,E0,o140⟩:=iv
        have hB20:=hB20.trans hS136
        try dsimp only
        refine nxF_of (W:=W134) s133 hB20 ?_ hq
        exact⟨_,_,rfl,E0,o140⟩
    · intro s142 W143 sg144 hS145 iv hq
      obtain⟨d11,d12,rfl,E0,o10⟩:=iv
      refine sv_while_s (Er:=Er) (c:=Z0Z) (f:=(Z1a Z0q)) (s0:=s142) (n:=cap) (Iv:=fun(s148:(List Fr)) (W149:Wd) (g150:St)=>g150=[some Z0p,some (.int Z0z),some (.int Z0K),some (.ref p1),d12,d11]∧Ext W0 W149∧OwS K W0 W149 p1 s148) (Res.okE_bind hq) ?_ ?_ ?_ ?_ ?_
      · exact⟨rfl,E0,o10⟩
      · intro W153 W154 s147 sg155 e159 iv
        obtain⟨rfl,E0,o151⟩:=iv
        have E0:=E0.trans e159
        have o151:=o151.mono e159
        exact⟨rfl,E0,o151⟩
      · intro W153 s147 sg155 hW157 iv
        obtain⟨rfl,E0,o151⟩:=iv
        unfold Z0Z
        exact(tv_test (ev_cmp (ev_stkLen o151) ev_int))
      · intro Wb152 W153 s147 sg155 P156 hW157 hB158 iv hq
        obtain⟨rfl,E0,o151⟩:=iv
        unfold Z1a at hq
        refine sv_callS (Er:=Er) (K:=K) E0 o151 ((Res.okE_bind hq).imp fun y160 hq W161 E0 hS162 o163=>?_)
        have hB158:=hB158.trans hS162
        try dsimp only
        refine nxF_of (W:=W161) y160 hB158 ?_ hq
        exact⟨rfl,E0,o163⟩
      · intro s164 W165 sg166 hS167 iv hq
        obtain⟨rfl,E0,o151⟩:=iv
        exact sv_retS (Er:=Er) (K:=K) E0 o151 (Res.OkE.imp hq fun y168 hq q169 W170 E0 hp171 o172=>hq q169 W170 E0 hp171 o172)
theorem ZeO {f:Addr} {fd:FuncData} (F:Fun K "_law_write" "_law_write" (tp 39) f fd) {Z0D:(List Dat)→Res Tx} {n:Nat} (Z14:Cal P w K mg base "_law_write" ["_law_program_here"] (n) (spM1 (isL (isU K)) (rs isS) Z0D)) (h_str:mg "str" =none):FnOk P w K mg base CX0 (n+1) f fd ["_law_program_here"] (spM1 (isL (isU K)) (rs isS) (Z31 Z0D)):=by
  have SC:FnScope ["_law_program_here","_law_words","_law_one"] ["_law_program_here"] (defScope (tp 39)):=⟨rfl,rfl,rfl,by decide +kernel,rfl,by decide +kernel,by decide +kernel⟩
  refine F.ok SC (fun vs H Q E h=>?_) (fun cdv A outer s H vs Q E hr h=>?_)
  · obtain⟨_,_,_,_,rfl,_⟩:=h;rfl
  · obtain⟨W0,Z0I,Z0j,rfl,rfl,Z0P,Er,hq⟩:=h
    refine⟨_,(pss_cons (ps_set (i:=1) SC.nd rfl (by first | exact Or.inl rfl | exact Or.inr rfl) (pe_lst pa_nil))
      (pss_cons (ps_for PassesOwn.never rfl (pi_listK (K:=K) rfl (pv 0)) (pg_name (i:=2) SC.nd rfl (by first | exact Or.inl rfl | exact Or.inr rfl)) (pss_one (ps_if (pt_cmpR op_eq (pe_ix (ix_tupK (K:=K) rfl) (pv 2) pe_int (fun _ _=>rfl)) pe_str (nomark _)) (pss_one (ps_expr (pe_append1 (K:=K) rfl (pv 1) (pa_cons (pe_op op_add_str (pe_op op_add_str (pe_op op_add_str (pe_callTy call_str_int (by rfl) h_str PyProof.Rows.boot_str (pa_cons (pe_ix (ix_tupK (K:=K) rfl) (pv 2) pe_int (fun _ _=>rfl)) pa_nil)) pe_str) (pe_cal Z14 (hr.mono (by omega)) (by rfl) (pa_cons (pe_ix (ix_tupK (K:=K) rfl) (pv 2) pe_int (fun _ _=>rfl)) pa_nil))) pe_str) pa_nil)))) (pss_one (ps_if (pt_cmpR op_eq (pe_ix (ix_tupK (K:=K) rfl) (pv 2) pe_int (fun _ _=>rfl)) pe_str (nomark _)) (pss_one (ps_expr (pe_append1 (K:=K) rfl (pv 1) (pa_cons (pe_op op_add_str (pe_op op_add_str pe_str (pe_cal Z14 (hr.mono (by omega)) (by rfl) (pa_cons (pe_ix (ix_tupK (K:=K) rfl) (pv 2) pe_int (fun _ _=>rfl)) pa_nil))) pe_str) pa_nil)))) (pss_one (ps_if (pt_cmpR op_eq (pe_ix (ix_tupK (K:=K) rfl) (pv 2) pe_int (fun _ _=>rfl)) pe_str (nomark _)) (pss_one (ps_expr (pe_append1 (K:=K) rfl (pv 1) (pa_cons (pe_op op_add_str pe_str (pe_ix (ix_tupK (K:=K) rfl) (pv 2) pe_int (fun _ _=>rfl))) pa_nil)))) (pss_one (ps_expr (pe_append1 (K:=K) rfl (pv 1) (pa_cons (pe_ix (ix_tupK (K:=K) rfl) (pv 2) pe_int (fun _ _=>rfl)) pa_nil)))))))))))
      (pss_one (ps_ret (pe_bmK (K:=K) rfl PySem.F.plainAttrs_str PySem.F.slot_str_join PySem.F.type_str_join (mt_joinS (K:=K) rfl) pe_str (pa_cons (pv 1) pa_nil)))))),?_⟩
    have E0:Ext W0 W0:=.refl W0
    rw[show L2.start ["_law_program_here","_law_words","_law_one"] [Z0j]=[some Z0j,none,none]from rfl]
    unfold Z31 at hq
    refine sv_asgO_s (Er:=Er) (i:=1) (σ':=fun p3=>[some Z0j,some (.ref p3),none]) (ev_lst0 (R:=isS)) (fun p3 W1 e2 hp4 o5=>?_)
    have fr6:=none_of E0.h hp4
    have E0:=E0.trans e2
    have Z0P:=Mono.mono (R:=(isL (isU K))) e2.g Z0P
    refine sv_for_s (Er:=Er) (f:=(Z1n Z0D)) (s0:=([]:List Tx)) (Iv:=fun(s9:(List Tx)) (W10:Wd) (g11:St)=>∃(d13:Option V),g11=[some Z0j,some (.ref p3),d13]∧Ext W0 W10∧Ow isS W10 p3 s9) (iv_list (ev_var (R:=sh (isL (isU K))) Z0P)) (Res.okE_bind hq) ?_ ?_ ?_
    · intro W25 e26
      have E0:=E0.trans e26
      have o5:=o5.mono e26
      exact⟨_,rfl,E0,o5⟩
    · intro Wb14 W15 W16 a7 v17 s8 sg18 P19 hW20 hB21 iv e22 h23 hq
      obtain⟨d13,rfl,E0,o12⟩:=iv
      have E0:=E0.trans e22
      have hB21:=hB21.trans e22.g
      have o12:=o12.mono e22
      refine gn (σ':=[some Z0j,some (.ref p3),some v17]) ?_
      unfold Z1n at hq
      refine sv_ifj (Er:=Er) (Iv:=fun(s114:(List Tx)) (W115:Wd) (g116:St)=>g116=[some Z0j,some (.ref p3),some v17]∧Ext W0 W115∧Ow isS W115 p3 s114) (tv_test (ev_eqS (ev_ofU (K:=K) ofU_s (ev_ixU (ev_var (R:=sh (isU K)) h23) ev_int)) (ev_str (x:=Str.ofString "times") (l:=[116,105,109,101,115]) (ofS _ _ (by decide +kernel))))) (Res.okE_bind hq) ?_ ?_ ?_
      · intro W32 N35 e33 hN36 hq
        have hs37:=e33.g
        have E0:=E0.trans e33
        have hB21:=hB21.trans e33.g
        have o12:=o12.mono e33
        have h23:=Mono.mono (R:=(isU K)) e33.g h23
        refine sv_app (Er:=Er) o12 (ev_catS (ev_catS (ev_catS (ev_strI (ev_ofU (K:=K) ofU_i (ev_ixU (ev_var (R:=sh (isU K)) h23) ev_int))) (ev_str (x:=Str.ofString "(") (l:=[40]) (ofS _ _ (by decide +kernel)))) (ev_call1 (ev_ofU (K:=K) ofU_l (ev_ixU (ev_var (R:=sh (isU K)) h23) ev_int)))) (ev_str (x:=Str.ofString ")") (l:=[41]) (ofS _ _ (by decide +kernel)))) ((Res.okE_bind hq).imp fun y49 hq W46 mu47 o48=>?_)
        have E0:=mu47.e _ E0 fr6
        have hB21:=hB21.trans mu47.g
        have hs37:=hs37.trans mu47.g
        have h23:=Mono.mono (R:=(isU K)) mu47.g h23
        exact hN36 y49 W46 _ hs37 ⟨rfl,E0,o48⟩ hq
      · intro W32 N35 e33 hN36 hq
        have hs51:=e33.g
        have E0:=E0.trans e33
        have hB21:=hB21.trans e33.g
        have o12:=o12.mono e33
        have h23:=Mono.mono (R:=(isU K)) e33.g h23
        refine sv_ifj (Er:=Er) (Iv:=fun(s106:(List Tx)) (W107:Wd) (g108:St)=>g108=[some Z0j,some (.ref p3),some v17]∧Ext W0 W107∧Ow isS W107 p3 s106) (tv_test (ev_eqS (ev_ofU (K:=K) ofU_s (ev_ixU (ev_var (R:=sh (isU K)) h23) ev_int)) (ev_str (x:=Str.ofString "mirror") (l:=[109,105,114,114,111,114]) (ofS _ _ (by decide +kernel))))) (Res.okE_bind hq) ?_ ?_ ?_
        · intro W55 N58 e56 hN59 hq
          have hs60:=e56.g
          have E0:=E0.trans e56
          have hB21:=hB21.trans e56.g
          have hs51:=hs51.trans e56.g
          have o12:=o12.mono e56
          have h23:=Mono.mono (R:=(isU K)) e56.g h23
          refine sv_app (Er:=Er) o12 (ev_catS (ev_catS (ev_str (x:=Str.ofString "<") (l:=[60]) (ofS _ _ (by decide +kernel))) (ev_call1 (ev_ofU (K:=K) ofU_l (ev_ixU (ev_var (R:=sh (isU K)) h23) ev_int)))) (ev_str (x:=Str.ofString ">") (l:=[62]) (ofS _ _ (by decide +kernel)))) ((Res.okE_bind hq).imp fun y68 hq W65 mu66 o67=>?_)
          have E0:=mu66.e _ E0 fr6
          have hB21:=hB21.trans mu66.g
          have hs51:=hs51.trans mu66.g
          have hs60:=hs60.trans mu66.g
          have h23:=Mono.mono (R:=(isU K)) mu66.g h23
          exact hN59 y68 W65 _ hs60 ⟨rfl,E0,o67⟩ hq
        · intro W55 N58 e56 hN59 hq
          have hs70:=e56.g
          have E0:=E0.trans e56
          have hB21:=hB21.trans e56.g
          have hs51:=hs51.trans e56.g
          have o12:=o12.mono e56
          have h23:=Mono.mono (R:=(isU K)) e56.g h23
          refine sv_ifj (Er:=Er) (Iv:=fun(s98:(List Tx)) (W99:Wd) (g100:St)=>g100=[some Z0j,some (.ref p3),some v17]∧Ext W0 W99∧Ow isS W99 p3 s98) (tv_test (ev_eqS (ev_ofU (K:=K) ofU_s (ev_ixU (ev_var (R:=sh (isU K)) h23) ev_int)) (ev_str (x:=Str.ofString "all") (l:=[97,108,108]) (ofS _ _ (by decide +kernel))))) (Res.okE_bind hq) ?_ ?_ ?_
          · intro W74 N77 e75 hN78 hq
            have hs79:=e75.g
            have E0:=E0.trans e75
            have hB21:=hB21.trans e75.g
            have hs51:=hs51.trans e75.g
            have hs70:=hs70.trans e75.g
            have o12:=o12.mono e75
            have h23:=Mono.mono (R:=(isU K)) e75.g h23
            refine sv_app (Er:=Er) o12 (ev_catS (ev_str (x:=Str.ofString "*") (l:=[42]) (ofS _ _ (by decide +kernel))) (ev_ofU (K:=K) ofU_s (ev_ixU (ev_var (R:=sh (isU K)) h23) ev_int))) ((Res.okE_bind hq).imp fun y85 hq W82 mu83 o84=>?_)
            have E0:=mu83.e _ E0 fr6
            have hB21:=hB21.trans mu83.g
            have hs51:=hs51.trans mu83.g
            have hs70:=hs70.trans mu83.g
            have hs79:=hs79.trans mu83.g
            have h23:=Mono.mono (R:=(isU K)) mu83.g h23
            exact hN78 y85 W82 _ hs79 ⟨rfl,E0,o84⟩ hq
          · intro W74 N77 e75 hN78 hq
            have hs87:=e75.g
            have E0:=E0.trans e75
            have hB21:=hB21.trans e75.g
            have hs51:=hs51.trans e75.g
            have hs70:=hs70.trans e75.g
            have o12:=o12.mono e75
            have h23:=Mono.mono (R:=(isU K)) e75.g h23
            refine sv_app (Er:=Er) o12 (ev_ofU (K:=K) ofU_s (ev_ixU (ev_var (R:=sh (isU K)) h23) ev_int)) ((Res.okE_bind hq).imp fun y92 hq W89 mu90 o91=>?_)
            have E0:=mu90.e _ E0 fr6
            have hB21:=hB21.trans mu90.g
            have hs51:=hs51.trans mu90.g
            have hs70:=hs70.trans mu90.g
            have hs87:=hs87.trans mu90.g
            have h23:=Mono.mono (R:=(isU K)) mu90.g h23
            exact hN78 y92 W89 _ hs87 ⟨rfl,E0,o91⟩ hq
          · intro s94 W95 sg96 hS97 iv hq
            obtain⟨rfl,E0,o101⟩:=iv
            have hB21:=hB21.trans hS97
            have hs51:=hs51.trans hS97
            have hs70:=hs70.trans hS97
            have h23:=Mono.mono (R:=(isU K)) hS97 h23
            exact hN59 s94 W95 _ hs70 ⟨rfl,E0,o101⟩ hq
        · intro s102 W103 sg104 hS105 iv hq
          obtain⟨rfl,E0,o109⟩:=iv
          have hB21:=hB21.trans hS105
          have hs51:=hs51.trans hS105
          have h23:=Mono.mono (R:=(isU K)) hS105 h23
          exact hN36 s102 W103 _ hs51 ⟨rfl,E0,o109⟩ hq
      · intro s110 W111 sg112 hS113 iv hq
        obtain⟨rfl,E0,o117⟩:=iv
        have hB21:=hB21.trans hS113
        have h23:=Mono.mono (R:=(isU K)) hS113 h23
        try dsimp only
        refine nxF_of (W:=W111) s110 hB21 ?_ hq
        exact⟨_,rfl,E0,o117⟩
    · intro s118 W119 sg120 hS121 iv hq
      obtain⟨d13,rfl,E0,o12⟩:=iv
      exact sv_ret (Er:=Er) (R:=sh isS) (ev_joinS (l:=[32]) (ofS _ _ (by decide +kernel)) (ev_varO o12)) (Res.OkE.imp hq fun y122 hq v123 W124 e125 h126=>hq v123 W124 (E0.trans e125) h126)
theorem ZfU {f:Addr} {fd:FuncData} (F:Fun K "_law_nest" "_law_nest" (tp 49) f fd):FnOk P w K mg base CX0 (1) f fd ["_law_cell"] (spM1 isI (rs isS) (Z5n)):=by
  have SC:FnScope ["_law_cell","_law_deep","_law_mark","_law_inner","_law_half"] ["_law_cell"] (defScope (tp 49)):=⟨rfl,rfl,rfl,by decide +kernel,rfl,by decide +kernel,by decide +kernel⟩
  refine F.ok SC (fun vs H Q E h=>?_) (fun cdv A outer s H vs Q E hr h=>?_)
  · obtain⟨_,_,_,_,rfl,_⟩:=h;rfl
  · obtain⟨W0,Z01,_,rfl,rfl,Z1x,Er,hq⟩:=h
    cases Z1x
    refine⟨_,(pss_cons (ps_set (i:=1) SC.nd rfl (by first | exact Or.inl rfl | exact Or.inr rfl) (pe_op op_mod (pv 0) pe_int))
      (pss_cons (ps_set (i:=2) SC.nd rfl (by first | exact Or.inl rfl | exact Or.inr rfl) (pe_op op_mod (pe_op op_fdiv (pv 0) pe_int) pe_int))
      (pss_cons (ps_set (i:=3) SC.nd rfl (by first | exact Or.inl rfl | exact Or.inr rfl) (pe_slice sl_str pe_str po_none (po_some (pe_op op_mod (pe_op op_fdiv (pv 0) pe_int) pe_int))))
      (pss_cons (ps_if (pt_cmpR op_eq (pv 2) pe_int (nomark _)) (pss_one (ps_ret (pe_op op_add_str (pe_op op_add_str (pe_op op_mul_str pe_str (pv 1)) (pv 3)) (pe_op op_mul_str pe_str (pv 1))))) pss_nil)
      (pss_cons (ps_if (pt_cmpR op_eq (pv 2) pe_int (nomark _)) (pss_one (ps_ret (pe_op op_add_str (pe_op op_add_str (pe_op op_mul_txt pe_str (pv 1)) (pv 3)) (pe_op op_mul_str pe_str (pv 1))))) pss_nil)
      (pss_cons (ps_set (i:=4) SC.nd rfl (by first | exact Or.inl rfl | exact Or.inr rfl) (pe_op op_fdiv (pv 1) pe_int))
      (pss_one (ps_ret (pe_op op_add_str (pe_op op_add_str (pe_op op_add_str (pe_op op_add_str pe_str (pe_op op_mul_txt pe_str (pv 4))) (pv 3)) (pe_op op_mul_txt pe_str (pv 4))) pe_str))))))))),?_⟩
    have E0:Ext W0 W0:=.refl W0
    rw[show L2.start ["_law_cell","_law_deep","_law_mark","_law_inner","_law_half"] [.int Z01]=[some (.int Z01),none,none,none,none]from rfl]
    unfold Z5n at hq
    refine sv_asg_s (Er:=Er) (i:=1) (R:=sh isI) (σ':=fun v3=>[some (.int Z01),some v3,none,none,none]) (ev_rIk (fun _=>by decide) (ev_var (R:=sh isI) (a:=Z01) (v:=.int Z01) rfl)) (fun v3 W1 e2 h4=>?_)
    cases h4
    have E0:=E0.trans e2
    refine sv_asg_s (Er:=Er) (i:=2) (R:=sh isI) (σ':=fun v7=>[some (.int Z01),some (.int (Z01% 13)),some v7,none,none]) (ev_rIk (fun _=>by decide) (ev_rIk (fun _=>⟨by decide,by decide⟩) (ev_var (R:=sh isI) (a:=Z01) (v:=.int Z01) rfl))) (fun v7 W5 e6 h8=>?_)
    cases h8
    have E0:=E0.trans e6
    refine sv_asg_s (Er:=Er) (i:=3) (R:=sh isS) (σ':=fun v12=>[some (.int Z01),some (.int (Z01% 13)),some (.int ((Z01/ 13)% 3)),some v12,none]) (ev_cutS (ev_str (x:=Str.ofString "fbifbifbifb") (l:=[102,98,105,102,98,105,102,98,105,102,98]) (ofS _ _ (by decide +kernel))) po_no (po_at (ev_rIk (fun _=>by decide) (ev_rIk (fun _=>⟨by decide,by decide⟩) (ev_var (R:=sh isI) (a:=Z01) (v:=.int Z01) rfl))))) ((Res.okE_bind hq).imp fun y11 hq v12 W9 e10 h13=>?_)
    cases h13
    have E0:=E0.trans e10
    refine sv_if_s (Er:=Er) (tv_test (ev_eqI (ev_var (R:=sh isI) (a:=((Z01/ 13)% 3)) (v:=.int ((Z01/ 13)% 3)) rfl) ev_int)) (fun W14 e15=>?_)
    have E0:=E0.trans e15
    by_cases hb47:(decide (((Z01/ 13)% 3)=(0:Int)))=true
    · rw[if_pos hb47]at hq ⊢
      exact sv_ret (Er:=Er) (R:=sh isS) (ev_catS (ev_catS (ev_repS (ev_str (x:=Str.ofString "<") (l:=[60]) (ofS _ _ (by decide +kernel))) (ev_var (R:=sh isI) (a:=(Z01% 13)) (v:=.int (Z01% 13)) rfl)) (ev_var (R:=sh isS) (a:=y11) (v:=.str (sOf y11)) rfl)) (ev_repS (ev_str (x:=Str.ofString ">") (l:=[62]) (ofS _ _ (by decide +kernel))) (ev_var (R:=sh isI) (a:=(Z01% 13)) (v:=.int (Z01% 13)) rfl))) (Res.OkE.imp hq fun y19 hq v20 W21 e22 h23=>hq v20 W21 (E0.trans e22) h23)
    · rw[if_neg hb47]at hq ⊢
      try dsimp only[tNext]
      refine sv_if_s (Er:=Er) (tv_test (ev_eqI (ev_var (R:=sh isI) (a:=((Z01/ 13)% 3)) (v:=.int ((Z01/ 13)% 3)) rfl) ev_int)) (fun W24 e25=>?_)
      have E0:=E0.trans e25
      by_cases hb47:(decide (((Z01/ 13)% 3)=(1:Int)))=true
      · rw[if_pos hb47]at hq ⊢
        exact sv_ret (Er:=Er) (R:=sh isS) (ev_catS (ev_catS (ev_repT (ev_str (x:=Str.ofString "3(") (l:=[51,40]) (ofS _ _ (by decide +kernel))) (ev_var (R:=sh isI) (a:=(Z01% 13)) (v:=.int (Z01% 13)) rfl)) (ev_var (R:=sh isS) (a:=y11) (v:=.str (sOf y11)) rfl)) (ev_repS (ev_str (x:=Str.ofString ")") (l:=[41]) (ofS _ _ (by decide +kernel))) (ev_var (R:=sh isI) (a:=(Z01% 13)) (v:=.int (Z01% 13)) rfl))) (Res.OkE.imp hq fun y29 hq v30 W31 e32 h33=>hq v30 W31 (E0.trans e32) h33)
      · rw[if_neg hb47]at hq ⊢
        try dsimp only[tNext]
        refine sv_asg_s (Er:=Er) (i:=4) (R:=sh isI) (σ':=fun v36=>[some (.int Z01),some (.int (Z01% 13)),some (.int ((Z01/ 13)% 3)),some (.str (sOf y11)),some v36]) (ev_rIk (fun _=>⟨by decide,by decide⟩) (ev_var (R:=sh isI) (a:=(Z01% 13)) (v:=.int (Z01% 13)) rfl)) (fun v36 W34 e35 h37=>?_)
        cases h37
        have E0:=E0.trans e35
        exact sv_ret (Er:=Er) (R:=sh isS) (ev_catS (ev_catS (ev_catS (ev_catS (ev_str (x:=Str.ofString "*f ") (l:=[42,102,32]) (ofS _ _ (by decide +kernel))) (ev_repT (ev_str (x:=Str.ofString "10(<") (l:=[49,48,40,60]) (ofS _ _ (by decide +kernel))) (ev_var (R:=sh isI) (a:=((Z01% 13)/ 2)) (v:=.int ((Z01% 13)/ 2)) rfl))) (ev_var (R:=sh isS) (a:=y11) (v:=.str (sOf y11)) rfl)) (ev_repT (ev_str (x:=Str.ofString ">)") (l:=[62,41]) (ofS _ _ (by decide +kernel))) (ev_var (R:=sh isI) (a:=((Z01% 13)/ 2)) (v:=.int ((Z01% 13)/ 2)) rfl))) (ev_str (x:=Str.ofString " *b") (l:=[32,42,98]) (ofS _ _ (by decide +kernel)))) (Res.OkE.imp hq fun y43 hq v44 W45 e46 h47=>hq v44 W45 (E0.trans e46) h47)
theorem ZfV {f:Addr} {fd:FuncData} (F:Fun K "_law_sign" "_law_sign" (tp 45) f fd):FnOk P w K mg base CX0 (1) f fd ["_law_cell"] (spM1 isI (rs isS) (Z5o)):=by
  have SC:FnScope ["_law_cell","_law_some"] ["_law_cell"] (defScope (tp 45)):=⟨rfl,rfl,rfl,by decide +kernel,rfl,by decide +kernel,by decide +kernel⟩
  refine F.ok SC (fun vs H Q E h=>?_) (fun cdv A outer s H vs Q E hr h=>?_)
  · obtain⟨_,_,_,_,rfl,_⟩:=h;rfl
  · obtain⟨W0,Z01,_,rfl,rfl,Z1x,Er,hq⟩:=h
    cases Z1x
    refine⟨_,(pss_cons (ps_set (i:=1) SC.nd rfl (by first | exact Or.inl rfl | exact Or.inr rfl) pe_str)
      (pss_cons (ps_set (i:=1) SC.nd rfl (by first | exact Or.inl rfl | exact Or.inr rfl) (pe_op op_add_str (pv 1) pe_str))
      (pss_one (ps_ret (pe_ix ix_str (pv 1) (pe_op op_mod (pv 0) pe_int) (fun _ _=>rfl)))))),?_⟩
    have E0:Ext W0 W0:=.refl W0
    rw[show L2.start ["_law_cell","_law_some"] [.int Z01]=[some (.int Z01),none]from rfl]
    unfold Z5o at hq
    refine sv_asg_s (Er := Er) (i := 1) (R := sh isS) (σ' := fun v3 => [some (.int Z01), some v3]) (ev_str (x := Str.ofString " !\"#$&'()*+,-./0123456789:;<=>?@ABCDEFGHIJKLMNOPQRSTUVWXYZ[\\]^_`") (l := [32, 33, 34, 35, 36, 38, 39, 40, 41, 42, 43, 44, 45, 46, 47, 48, 49, 50, 51, 52, 53, 54, 55, 56, 57, 58, 59, 60, 61, 62, 63, 64, 65, 66, 67, 68, 69, 70, 71, 72, 73, 74, 75, 76, 77, 78, 79, 80, 81, 82, 83, 84, 85, 86, 87, 88, 89, 90, 91, 92, 93, 94, 95, 96]) (ofS _ _ (by decide +kernel))) (fun v3 W1 e2 h4 => ?_)
    cases h4
    have E0:=E0.trans e2
    refine sv_asg_s (Er:=Er) (i:=1) (R:=sh isS) (σ':=fun v8=>[some (.int Z01),some v8]) (ev_catS (ev_var (R:=sh isS) (a:=([32,33,34,35,36,38,39,40,41,42,43,44,45,46,47,48,49,50,51,52,53,54,55,56,57,58,59,60,61,62,63,64,65,66,67,68,69,70,71,72,73,74,75,76,77,78,79,80,81,82,83,84,85,86,87,88,89,90,91,92,93,94,95,96]:Tx)) (v:=.str (sOf ([32,33,34,35,36,38,39,40,41,42,43,44,45,46,47,48,49,50,51,52,53,54,55,56,57,58,59,60,61,62,63,64,65,66,67,68,69,70,71,72,73,74,75,76,77,78,79,80,81,82,83,84,85,86,87,88,89,90,91,92,93,94,95,96]:Tx))) rfl) (ev_str (x:=Str.ofString "abcdefghijklmnopqrstuvwxyz{|}~\n") (l:=[97,98,99,100,101,102,103,104,105,106,107,108,109,110,111,112,113,114,115,116,117,118,119,120,121,122,123,124,125,126,10]) (ofS _ _ (by decide +kernel)))) ((Res.okE_bind hq).imp fun y7 hq v8 W5 e6 h9=>?_)
    cases h9
    have E0:=E0.trans e6
    exact sv_ret (Er:=Er) (R:=sh isS) (ev_ixS (ev_var (R:=sh isS) (a:=y7) (v:=.str (sOf y7)) rfl) (ev_rIk (fun _=>by decide) (ev_var (R:=sh isI) (a:=Z01) (v:=.int Z01) rfl))) (Res.OkE.imp hq fun y10 hq v11 W12 e13 h14=>hq v11 W12 (E0.trans e13) h14)
theorem ZeP {f:Addr} {fd:FuncData} (F:Fun K "_law_spoil" "_law_spoil" (tp 46) f fd) {Z1v:Int→Res Tx} (Z4C:Cal P w K mg base "_law_sign" ["_law_cell"] (1) (spM1 isI (rs isS) Z1v)) (h_len:mg "len" =none):FnOk P w K mg base CX0 (2) f fd ["_law_text","_law_cell"] (spM2 isS isI (rs isS) (Z4p Z1v)):=by
  have SC:FnScope ["_law_text","_law_cell","_law_at_here","_law_sign_here","_law_twin"] ["_law_text","_law_cell"] (defScope (tp 46)):=⟨rfl,rfl,rfl,by decide +kernel,rfl,by decide +kernel,by decide +kernel⟩
  refine F.ok SC (fun vs H Q E h=>?_) (fun cdv A outer s H vs Q E hr h=>?_)
  · obtain⟨_,_,_,_,_,_,rfl,_⟩:=h;rfl
  · obtain⟨W0,Z00,Z01,_,_,rfl,rfl,Z1y,Z1x,Er,hq⟩:=h
    cases Z1y
    cases Z1x
    refine⟨_,(pss_cons (ps_set (i:=2) SC.nd rfl (by first | exact Or.inl rfl | exact Or.inr rfl) (pe_op op_mod (pe_op op_fdiv (pv 1) pe_int) (pe_op op_add (pe_callB (call_lenK (K:=K) rfl) (by rfl) h_len PySem.boot_len (pa_cons (pv 0) pa_nil)) pe_int)))
      (pss_cons (ps_set (i:=3) SC.nd rfl (by first | exact Or.inl rfl | exact Or.inr rfl) (pe_cal Z4C (hr.mono (by decide)) (by rfl) (pa_cons (pe_op op_fdiv (pv 1) pe_int) pa_nil)))
      (pss_cons (ps_if (pt_cmpR op_eq (pe_op op_mod (pv 1) pe_int) pe_int (nomark _)) (pss_one (ps_ret (pe_op op_add_str (pe_op op_add_str (pe_slice sl_str (pv 0) po_none (po_some (pv 2))) (pv 3)) (pe_slice sl_str (pv 0) (po_some (pv 2)) po_none)))) pss_nil)
      (pss_cons (ps_if (pt_cmpR op_eq (pe_op op_mod (pv 1) pe_int) pe_int (nomark _)) (pss_one (ps_ret (pe_op op_add_str (pe_slice sl_str (pv 0) po_none (po_some (pv 2))) (pe_slice sl_str (pv 0) (po_some (pe_op op_add (pv 2) pe_int)) po_none)))) pss_nil)
      (pss_cons (ps_if (pt_cmpR op_eq (pe_op op_mod (pv 1) pe_int) pe_int (nomark _)) (pss_one (ps_ret (pe_op op_add_str (pe_op op_add_str (pe_slice sl_str (pv 0) po_none (po_some (pv 2))) (pv 3)) (pe_slice sl_str (pv 0) (po_some (pe_op op_add (pv 2) pe_int)) po_none)))) pss_nil)
      (pss_cons (ps_if (pt_cmpR op_eq (pe_op op_mod (pv 1) pe_int) pe_int (nomark _)) (pss_one (ps_ret (pe_op op_add_str (pe_op op_add_str (pe_slice sl_str (pv 0) po_none (po_some (pv 2))) (pe_slice sl_str (pv 0) (po_some (pv 2)) (po_some (pe_op op_add (pv 2) pe_int)))) (pe_slice sl_str (pv 0) (po_some (pv 2)) po_none)))) pss_nil)
      (pss_cons (ps_set (i:=4) SC.nd rfl (by first | exact Or.inl rfl | exact Or.inr rfl) (pe_op op_add_str (pe_slice sl_str (pv 0) (po_some (pe_op op_add (pv 2) pe_int)) (po_some (pe_op op_add (pv 2) pe_int))) (pe_slice sl_str (pv 0) (po_some (pv 2)) (po_some (pe_op op_add (pv 2) pe_int)))))
      (pss_one (ps_ret (pe_op op_add_str (pe_op op_add_str (pe_slice sl_str (pv 0) po_none (po_some (pv 2))) (pv 4)) (pe_slice sl_str (pv 0) (po_some (pe_op op_add (pv 2) pe_int)) po_none))))))))))),?_⟩
    have E0:Ext W0 W0:=.refl W0
    rw[show L2.start ["_law_text","_law_cell","_law_at_here","_law_sign_here","_law_twin"] [.str (sOf Z00),.int Z01]=[some (.str (sOf Z00)),some (.int Z01),none,none,none]from rfl]
    unfold Z4p at hq
    refine sv_asg_s (Er:=Er) (i:=2) (R:=sh isI) (σ':=fun v6=>[some (.str (sOf Z00)),some (.int Z01),some v6,none,none]) (ev_mod (ev_rIk (fun _=>⟨by decide,by decide⟩) (ev_var (R:=sh isI) (a:=Z01) (v:=.int Z01) rfl)) (ev_rI0 (ev_lenS (ev_var (R:=sh isS) (a:=Z00) (v:=.str (sOf Z00)) rfl)) ev_int)) ((Res.okE_bind hq).imp fun y5 hq v6 W1 e2 h7=>?_)
    cases h7
    have E0:=E0.trans e2
    refine sv_asg_s (Er:=Er) (i:=3) (R:=sh isS) (σ':=fun v11=>[some (.str (sOf Z00)),some (.int Z01),some (.int y5),some v11,none]) (ev_call1 (ev_rIk (fun _=>⟨by decide,by decide⟩) (ev_var (R:=sh isI) (a:=Z01) (v:=.int Z01) rfl))) ((Res.okE_bind hq).imp fun y10 hq v11 W8 e9 h12=>?_)
    cases h12
    have E0:=E0.trans e9
    refine sv_if_s (Er:=Er) (tv_test (ev_eqI (ev_rIk (fun _=>by decide) (ev_var (R:=sh isI) (a:=Z01) (v:=.int Z01) rfl)) ev_int)) (fun W13 e14=>?_)
    have E0:=E0.trans e14
    by_cases hb67:(decide ((Z01% 5)=(0:Int)))=true
    · rw[if_pos hb67]at hq ⊢
      exact sv_ret (Er:=Er) (R:=sh isS) (ev_catS (ev_catS (ev_cutS (ev_var (R:=sh isS) (a:=Z00) (v:=.str (sOf Z00)) rfl) po_no (po_at (ev_var (R:=sh isI) (a:=y5) (v:=.int y5) rfl))) (ev_var (R:=sh isS) (a:=y10) (v:=.str (sOf y10)) rfl)) (ev_cutS (ev_var (R:=sh isS) (a:=Z00) (v:=.str (sOf Z00)) rfl) (po_at (ev_var (R:=sh isI) (a:=y5) (v:=.int y5) rfl)) po_no)) (Res.OkE.imp hq fun y18 hq v19 W20 e21 h22=>hq v19 W20 (E0.trans e21) h22)
    · rw[if_neg hb67]at hq ⊢
      try dsimp only[tNext]
      refine sv_if_s (Er:=Er) (tv_test (ev_eqI (ev_rIk (fun _=>by decide) (ev_var (R:=sh isI) (a:=Z01) (v:=.int Z01) rfl)) ev_int)) (fun W23 e24=>?_)
      have E0:=E0.trans e24
      by_cases hb67:(decide ((Z01% 5)=(1:Int)))=true
      · rw[if_pos hb67]at hq ⊢
        exact sv_ret (Er:=Er) (R:=sh isS) (ev_catS (ev_cutS (ev_var (R:=sh isS) (a:=Z00) (v:=.str (sOf Z00)) rfl) po_no (po_at (ev_var (R:=sh isI) (a:=y5) (v:=.int y5) rfl))) (ev_cutS (ev_var (R:=sh isS) (a:=Z00) (v:=.str (sOf Z00)) rfl) (po_at (ev_rI0 (ev_var (R:=sh isI) (a:=y5) (v:=.int y5) rfl) ev_int)) po_no)) (Res.OkE.imp hq fun y27 hq v28 W29 e30 h31=>hq v28 W29 (E0.trans e30) h31)
      · rw[if_neg hb67]at hq ⊢
        try dsimp only[tNext]
        refine sv_if_s (Er:=Er) (tv_test (ev_eqI (ev_rIk (fun _=>by decide) (ev_var (R:=sh isI) (a:=Z01) (v:=.int Z01) rfl)) ev_int)) (fun W32 e33=>?_)
        have E0:=E0.trans e33
        by_cases hb67:(decide ((Z01% 5)=(2:Int)))=true
        · rw[if_pos hb67]at hq ⊢
          exact sv_ret (Er:=Er) (R:=sh isS) (ev_catS (ev_catS (ev_cutS (ev_var (R:=sh isS) (a:=Z00) (v:=.str (sOf Z00)) rfl) po_no (po_at (ev_var (R:=sh isI) (a:=y5) (v:=.int y5) rfl))) (ev_var (R:=sh isS) (a:=y10) (v:=.str (sOf y10)) rfl)) (ev_cutS (ev_var (R:=sh isS) (a:=Z00) (v:=.str (sOf Z00)) rfl) (po_at (ev_rI0 (ev_var (R:=sh isI) (a:=y5) (v:=.int y5) rfl) ev_int)) po_no)) (Res.OkE.imp hq fun y37 hq v38 W39 e40 h41=>hq v38 W39 (E0.trans e40) h41)
        · rw[if_neg hb67]at hq ⊢
          try dsimp only[tNext]
          refine sv_if_s (Er:=Er) (tv_test (ev_eqI (ev_rIk (fun _=>by decide) (ev_var (R:=sh isI) (a:=Z01) (v:=.int Z01) rfl)) ev_int)) (fun W42 e43=>?_)
          have E0:=E0.trans e43
          by_cases hb67:(decide ((Z01% 5)=(3:Int)))=true
          · rw[if_pos hb67]at hq ⊢
            exact sv_ret (Er:=Er) (R:=sh isS) (ev_catS (ev_catS (ev_cutS (ev_var (R:=sh isS) (a:=Z00) (v:=.str (sOf Z00)) rfl) po_no (po_at (ev_var (R:=sh isI) (a:=y5) (v:=.int y5) rfl))) (ev_cutS (ev_var (R:=sh isS) (a:=Z00) (v:=.str (sOf Z00)) rfl) (po_at (ev_var (R:=sh isI) (a:=y5) (v:=.int y5) rfl)) (po_at (ev_rI0 (ev_var (R:=sh isI) (a:=y5) (v:=.int y5) rfl) ev_int)))) (ev_cutS (ev_var (R:=sh isS) (a:=Z00) (v:=.str (sOf Z00)) rfl) (po_at (ev_var (R:=sh isI) (a:=y5) (v:=.int y5) rfl)) po_no)) (Res.OkE.imp hq fun y48 hq v49 W50 e51 h52=>hq v49 W50 (E0.trans e51) h52)
          · rw[if_neg hb67]at hq ⊢
            try dsimp only[tNext]
            refine sv_asg_s (Er:=Er) (i:=4) (R:=sh isS) (σ':=fun v58=>[some (.str (sOf Z00)),some (.int Z01),some (.int y5),some (.str (sOf y10)),some v58]) (ev_catS (ev_cutS (ev_var (R:=sh isS) (a:=Z00) (v:=.str (sOf Z00)) rfl) (po_at (ev_rI0 (ev_var (R:=sh isI) (a:=y5) (v:=.int y5) rfl) ev_int)) (po_at (ev_rI0 (ev_var (R:=sh isI) (a:=y5) (v:=.int y5) rfl) ev_int))) (ev_cutS (ev_var (R:=sh isS) (a:=Z00) (v:=.str (sOf Z00)) rfl) (po_at (ev_var (R:=sh isI) (a:=y5) (v:=.int y5) rfl)) (po_at (ev_rI0 (ev_var (R:=sh isI) (a:=y5) (v:=.int y5) rfl) ev_int)))) ((Res.okE_bind hq).imp fun y57 hq v58 W53 e54 h59=>?_)
            cases h59
            have E0:=E0.trans e54
            exact sv_ret (Er:=Er) (R:=sh isS) (ev_catS (ev_catS (ev_cutS (ev_var (R:=sh isS) (a:=Z00) (v:=.str (sOf Z00)) rfl) po_no (po_at (ev_var (R:=sh isI) (a:=y5) (v:=.int y5) rfl))) (ev_var (R:=sh isS) (a:=y57) (v:=.str (sOf y57)) rfl)) (ev_cutS (ev_var (R:=sh isS) (a:=Z00) (v:=.str (sOf Z00)) rfl) (po_at (ev_rI0 (ev_var (R:=sh isI) (a:=y5) (v:=.int y5) rfl) ev_int)) po_no)) (Res.OkE.imp hq fun y63 hq v64 W65 e66 h67=>hq v64 W65 (E0.trans e66) h67)
theorem ZeQ {f:Addr} {fd:FuncData} (F:Fun K "_law_built" "_law_built" (tp 50) f fd) {Z0u:List Int→Int→Res Int} {Z0D:(List Dat)→Res Tx} {Z0S:(List Int)→Int→Int→Res (List Dat)} {Z17:List Int→Int→Res (List Int)} {Z1u:Int→Res Tx} {Z0M:Tx→Int→Res Tx} (Z13:Cal P w K mg base "_law_at" ["_law_script","_law_k"] (1) (spM2 (isScr K) isI (rs isI) Z0u)) (Z14:Cal P w K mg base "_law_write" ["_law_program_here"] (20) (spM1 (isL (isU K)) (rs isS) Z0D)) (Z2E:Cal P w K mg base "_law_program" ["_law_draws_here","_law_width","_law_most"] (22) (spM3 (isL isI) isI isI (ro (isU K)) Z0S)) (Z3A:Cal P w K mg base "_law_draws" ["_law_script","_law_at_here"] (2) (spM2 (isScr K) isI (ro isI) Z17)) (Z4D:Cal P w K mg base "_law_nest" ["_law_cell"] (1) (spM1 isI (rs isS) Z1u)) (Z3B:Cal P w K mg base "_law_spoil" ["_law_text","_law_cell"] (2) (spM2 isS isI (rs isS) Z0M)) (h_range:mg "range" =none) (h_str:mg "str" =none):FnOk P w K mg base CX0 (23) f fd ["_law_script"] (spM1 (isScr K) (rs isS) (Z4q Z0u Z0D Z0S Z17 Z1u Z0M)):=by
  have SC:FnScope ["_law_script","_law_mode","_law_text","_law_k"] ["_law_script"] (defScope (tp 50)):=⟨rfl,rfl,rfl,by decide +kernel,rfl,by decide +kernel,by decide +kernel⟩
  refine F.ok SC (fun vs H Q E h=>?_) (fun cdv A outer s H vs Q E hr h=>?_)
  · obtain⟨_,_,_,_,rfl,_⟩:=h;rfl
  · obtain⟨W0,Z0l,Z0k,rfl,rfl,Z02,Er,hq⟩:=h
    refine⟨_,(pss_cons (ps_set (i:=1) SC.nd rfl (by first | exact Or.inl rfl | exact Or.inr rfl) (pe_cal Z13 (hr.mono (by decide)) (by rfl) (pa_cons (pv 0) (pa_cons pe_int pa_nil))))
      (pss_cons (ps_set (i:=2) SC.nd rfl (by first | exact Or.inl rfl | exact Or.inr rfl) (pe_cal Z14 (hr.mono (by decide)) (by rfl) (pa_cons (pe_cal Z2E (hr.mono (by decide)) (by rfl) (pa_cons (pe_cal Z3A (hr.mono (by decide)) (by rfl) (pa_cons (pv 0) (pa_cons pe_int pa_nil))) (pa_cons (pe_op op_add pe_int (pe_op op_mod (pe_op op_fdiv (pv 1) pe_int) pe_int)) (pa_cons pe_int pa_nil)))) pa_nil)))
      (pss_cons (ps_if (pt_cmpR op_eq (pe_op op_mod (pv 1) pe_int) pe_int (nomark _)) (pss_one (ps_set (i:=2) SC.nd rfl (by first | exact Or.inl rfl | exact Or.inr rfl) (pe_cal Z4D (hr.mono (by decide)) (by rfl) (pa_cons (pe_op op_fdiv (pv 1) pe_int) pa_nil)))) pss_nil)
      (pss_cons (ps_if (pt_cmpR op_eq (pe_op op_mod (pv 1) pe_int) pe_int (nomark _)) (pss_one (ps_set (i:=2) SC.nd rfl (by first | exact Or.inl rfl | exact Or.inr rfl) (pe_op op_add_str (pe_op op_add_str (pe_op op_add_str (pe_callTy call_str_int (by rfl) h_str PyProof.Rows.boot_str (pa_cons (pe_op op_mod (pe_op op_fdiv (pv 1) pe_int) pe_int) pa_nil)) pe_str) (pv 2)) pe_str))) pss_nil)
      (pss_cons (ps_if (pt_cmpR op_eq (pe_op op_mod (pv 1) pe_int) pe_int (nomark _)) (pss_one (ps_set (i:=2) SC.nd rfl (by first | exact Or.inl rfl | exact Or.inr rfl) (pe_op op_add_str (pv 2) (pe_ix (ix_listK (K:=K) rfl) (pe_lst (pa_cons pe_str (pa_cons pe_str (pa_cons pe_str (pa_cons pe_str (pa_cons pe_str (pa_cons pe_str pa_nil))))))) (pe_op op_mod (pe_op op_fdiv (pv 1) pe_int) pe_int) (fun _ _=>rfl))))) pss_nil)
      (pss_cons (ps_for PassesOwn.never rfl (pi_range2 rfl h_range (pa_cons pe_int (pa_cons pe_int pa_nil))) (pg_name (i:=3) SC.nd rfl (by first | exact Or.inl rfl | exact Or.inr rfl)) (pss_one (ps_if (pt_cmpR op_eq (pe_op op_mod (pe_cal Z13 (hr.mono (by decide)) (by rfl) (pa_cons (pv 0) (pa_cons (pv 3) pa_nil))) pe_int) pe_int (nomark _)) (pss_one (ps_set (i:=2) SC.nd rfl (by first | exact Or.inl rfl | exact Or.inr rfl) (pe_cal Z3B (hr.mono (by decide)) (by rfl) (pa_cons (pv 2) (pa_cons (pe_op op_fdiv (pe_cal Z13 (hr.mono (by decide)) (by rfl) (pa_cons (pv 0) (pa_cons (pv 3) pa_nil))) pe_int) pa_nil))))) pss_nil)))
      (pss_one (ps_ret (pv 2))))))))),?_⟩
    have E0:Ext W0 W0:=.refl W0
    rw[show L2.start ["_law_script","_law_mode","_law_text","_law_k"] [Z0k]=[some Z0k,none,none,none]from rfl]
    unfold Z4q at hq
    refine sv_asg_s (Er:=Er) (i:=1) (R:=sh isI) (σ':=fun v4=>[some Z0k,some v4,none,none]) (ev_call2 (ev_var (R:=sh (isScr K)) Z02) ev_int) ((Res.okE_bind hq).imp fun y3 hq v4 W1 e2 h5=>?_)
    cases h5
    have E0:=E0.trans e2
    have Z02:=Mono.mono (R:=(isScr K)) e2.g Z02
    refine sv_asg_s (Er:=Er) (i:=2) (R:=sh isS) (σ':=fun v11=>[some Z0k,some (.int y3),some v11,none]) (ev_call1 (EVo.ev (ev_call3o (EVo.ev (ev_call2o (ev_var (R:=sh (isScr K)) Z02) ev_int)) (ev_rI0 ev_int (ev_rIk (fun _=>by decide) (ev_rIk (fun _=>⟨by decide,by decide⟩) (ev_var (R:=sh isI) (a:=y3) (v:=.int y3) rfl)))) ev_int))) ((Res.okE_bind hq).imp fun y10 hq v11 W6 e7 h12=>?_)
    cases h12
    have E0:=E0.trans e7
    have Z02:=Mono.mono (R:=(isScr K)) e7.g Z02
    refine sv_ifj_s (Er:=Er) (Iv:=fun(s29:Tx) (W30:Wd) (g31:St)=>g31=[some Z0k,some (.int y3),some (.str (sOf s29)),none]∧Ext W0 W30) (tv_test (ev_eqI (ev_rIk (fun _=>by decide) (ev_var (R:=sh isI) (a:=y3) (v:=.int y3) rfl)) ev_int)) (Res.okE_bind hq) ?_ ?_ ?_
    · intro W13 N16 e14 hN17 hq
      have hs18:=e14.g
      have E0:=E0.trans e14
      have Z02:=Mono.mono (R:=(isScr K)) e14.g Z02
      refine sv_asg (Er:=Er) (i:=2) (R:=sh isS) (σ':=fun v22=>[some Z0k,some (.int y3),some v22,none]) (ev_call1 (ev_rIk (fun _=>⟨by decide,by decide⟩) (ev_var (R:=sh isI) (a:=y3) (v:=.int y3) rfl))) ((Res.okE_bind hq).imp fun y21 hq v22 W19 e20 h23=>?_)
      cases h23
      have E0:=E0.trans e20
      have hs18:=hs18.trans e20.g
      have Z02:=Mono.mono (R:=(isScr K)) e20.g Z02
      exact hN17 y21 W19 _ hs18 ⟨rfl,E0⟩ hq
    · intro W13 N16 e14 hN17 hq
      have hs24:=e14.g
      have E0:=E0.trans e14
      have Z02:=Mono.mono (R:=(isScr K)) e14.g Z02
      try dsimp only[tNext]
      exact hN17 y10 W13 _ hs24 ⟨rfl,E0⟩ hq
    · intro s25 W26 sg27 hS28 iv hq
      obtain⟨rfl,E0⟩:=iv
      have Z02:=Mono.mono (R:=(isScr K)) hS28 Z02
      refine sv_ifj_s (Er:=Er) (Iv:=fun(s51:Tx) (W52:Wd) (g53:St)=>g53=[some Z0k,some (.int y3),some (.str (sOf s51)),none]∧Ext W0 W52) (tv_test (ev_eqI (ev_rIk (fun _=>by decide) (ev_var (R:=sh isI) (a:=y3) (v:=.int y3) rfl)) ev_int)) (Res.okE_bind hq) ?_ ?_ ?_
      · intro W32 N35 e33 hN36 hq
        have hs37:=e33.g
        have E0:=E0.trans e33
        have Z02:=Mono.mono (R:=(isScr K)) e33.g Z02
        refine sv_asg (Er:=Er) (i:=2) (R:=sh isS) (σ':=fun v44=>[some Z0k,some (.int y3),some v44,none]) (ev_catS (ev_catS (ev_catS (ev_strI (ev_rIk (fun _=>by decide) (ev_rIk (fun _=>⟨by decide,by decide⟩) (ev_var (R:=sh isI) (a:=y3) (v:=.int y3) rfl)))) (ev_str (x:=Str.ofString "(") (l:=[40]) (ofS _ _ (by decide +kernel)))) (ev_var (R:=sh isS) (a:=s25) (v:=.str (sOf s25)) rfl)) (ev_str (x:=Str.ofString ")") (l:=[41]) (ofS _ _ (by decide +kernel)))) ((Res.okE_bind hq).imp fun y43 hq v44 W38 e39 h45=>?_)
        cases h45
        have E0:=E0.trans e39
        have hs37:=hs37.trans e39.g
        have Z02:=Mono.mono (R:=(isScr K)) e39.g Z02
        exact hN36 y43 W38 _ hs37 ⟨rfl,E0⟩ hq
      · intro W32 N35 e33 hN36 hq
        have hs46:=e33.g
        have E0:=E0.trans e33
        have Z02:=Mono.mono (R:=(isScr K)) e33.g Z02
        try dsimp only[tNext]
        exact hN36 s25 W32 _ hs46 ⟨rfl,E0⟩ hq
      · intro s47 W48 sg49 hS50 iv hq
        obtain⟨rfl,E0⟩:=iv
        have Z02:=Mono.mono (R:=(isScr K)) hS50 Z02
        refine sv_ifj_s (Er:=Er) (Iv:=fun(s71:Tx) (W72:Wd) (g73:St)=>g73=[some Z0k,some (.int y3),some (.str (sOf s71)),none]∧Ext W0 W72) (tv_test (ev_eqI (ev_rIk (fun _=>by decide) (ev_var (R:=sh isI) (a:=y3) (v:=.int y3) rfl)) ev_int)) (Res.okE_bind hq) ?_ ?_ ?_
        · intro W54 N57 e55 hN58 hq
          have hs59:=e55.g
          have E0:=E0.trans e55
          have Z02:=Mono.mono (R:=(isScr K)) e55.g Z02
          refine sv_asg (Er:=Er) (i:=2) (R:=sh isS) (σ':=fun v64=>[some Z0k,some (.int y3),some v64,none]) (ev_catS (ev_var (R:=sh isS) (a:=s47) (v:=.str (sOf s47)) rfl) (ev_ixL (EVo.pk (ev_lst (av_cons (ev_str (x:=Str.ofString " ") (l:=[32]) (ofS _ _ (by decide +kernel))) (av_cons (ev_str (x:=Str.ofString "\n") (l:=[10]) (ofS _ _ (by decide +kernel))) (av_cons (ev_str (x:=Str.ofString ")") (l:=[41]) (ofS _ _ (by decide +kernel))) (av_cons (ev_str (x:=Str.ofString " *f") (l:=[32,42,102]) (ofS _ _ (by decide +kernel))) (av_cons (ev_str (x:=Str.ofString ">") (l:=[62]) (ofS _ _ (by decide +kernel))) (av_cons (ev_str (x:=Str.ofString "()") (l:=[40,41]) (ofS _ _ (by decide +kernel))) (av_nil (R:=isS)))))))))) (ev_rIk (fun _=>by decide) (ev_rIk (fun _=>⟨by decide,by decide⟩) (ev_var (R:=sh isI) (a:=y3) (v:=.int y3) rfl))))) ((Res.okE_bind hq).imp fun y63 hq v64 W60 e61 h65=>?_)
          cases h65
          have E0:=E0.trans e61
          have hs59:=hs59.trans e61.g
          have Z02:=Mono.mono (R:=(isScr K)) e61.g Z02
          exact hN58 y63 W60 _ hs59 ⟨rfl,E0⟩ hq
        · intro W54 N57 e55 hN58 hq
          have hs66:=e55.g
          have E0:=E0.trans e55
          have Z02:=Mono.mono (R:=(isScr K)) e55.g Z02
          try dsimp only[tNext]
          exact hN58 s47 W54 _ hs66 ⟨rfl,E0⟩ hq
        · intro s67 W68 sg69 hS70 iv hq
          obtain⟨rfl,E0⟩:=iv
          have Z02:=Mono.mono (R:=(isScr K)) hS70 Z02
          refine sv_for_s (Er:=Er) (f:=(Z1o Z0u Z0M Z0l)) (s0:=s67) (Iv:=fun(s76:Tx) (W77:Wd) (g78:St)=>∃(d79:Option V),g78=[some Z0k,some (.int y3),some (.str (sOf s76)),d79]∧Ext W0 W77) (iv_range2 ev_int ev_int) (Res.okE_bind hq) ?_ ?_ ?_
          · intro W91 e92
            have E0:=E0.trans e92
            have Z02:=Mono.mono (R:=(isScr K)) e92.g Z02
            exact⟨_,rfl,E0⟩
          · intro Wb80 W81 W82 a74 v83 s75 sg84 P85 hW86 hB87 iv e88 h89 hq
            obtain⟨d79,rfl,E0⟩:=iv
            have Z02:=Mono.mono (R:=(isScr K)) hW86 Z02
            have E0:=E0.trans e88
            have hB87:=hB87.trans e88.g
            have Z02:=Mono.mono (R:=(isScr K)) e88.g Z02
            cases h89
            refine gn (σ':=[some Z0k,some (.int y3),some (.str (sOf s75)),some (.int a74)]) ?_
            unfold Z1o at hq
            refine sv_ifj (Er:=Er) (Iv:=fun(s116:Tx) (W117:Wd) (g118:St)=>g118=[some Z0k,some (.int y3),some (.str (sOf s116)),some (.int a74)]∧Ext W0 W117) (tv_test (ev_eqI (ev_rIk (fun _=>by decide) (ev_call2 (ev_var (R:=sh (isScr K)) Z02) (ev_var (R:=sh isI) (a:=a74) (v:=.int a74) rfl))) ev_int)) (Res.okE_bind hq) ?_ ?_ ?_
            · intro W98 N101 e99 hN102 hq
              have hs103:=e99.g
              have E0:=E0.trans e99
              have hB87:=hB87.trans e99.g
              have Z02:=Mono.mono (R:=(isScr K)) e99.g Z02
              refine sv_asg (Er:=Er) (i:=2) (R:=sh isS) (σ':=fun v109=>[some Z0k,some (.int y3),some v109,some (.int a74)]) (ev_call2 (ev_var (R:=sh isS) (a:=s75) (v:=.str (sOf s75)) rfl) (ev_rIk (fun _=>⟨by decide,by decide⟩) (ev_call2 (ev_var (R:=sh (isScr K)) Z02) (ev_var (R:=sh isI) (a:=a74) (v:=.int a74) rfl)))) ((Res.okE_bind hq).imp fun y108 hq v109 W104 e105 h110=>?_)
              cases h110
              have E0:=E0.trans e105
              have hB87:=hB87.trans e105.g
              have hs103:=hs103.trans e105.g
              have Z02:=Mono.mono (R:=(isScr K)) e105.g Z02
              exact hN102 y108 W104 _ hs103 ⟨rfl,E0⟩ hq
            · intro W98 N101 e99 hN102 hq
              have hs111:=e99.g
              have E0:=E0.trans e99
              have hB87:=hB87.trans e99.g
              have Z02:=Mono.mono (R:=(isScr K)) e99.g Z02
              try dsimp only[tNext]
              exact hN102 s75 W98 _ hs111 ⟨rfl,E0⟩ hq
            · intro s112 W113 sg114 hS115 iv hq
              obtain⟨rfl,E0⟩:=iv
              have hB87:=hB87.trans hS115
              have Z02:=Mono.mono (R:=(isScr K)) hS115 Z02
              try dsimp only
              refine nxF_of (W:=W113) s112 hB87 ?_ hq
              exact⟨_,rfl,E0⟩
          · intro s120 W121 sg122 hS123 iv hq
            obtain⟨d79,rfl,E0⟩:=iv
            exact sv_ret (Er:=Er) (R:=sh isS) (ev_var (R:=sh isS) (a:=s120) (v:=.str (sOf s120)) rfl) (fun v124 W125 e126 h127=>hq v124 W125 (E0.trans e126) h127)
theorem Zdu {f:Addr} {fd:FuncData} (F:Fun K "_law_closed" "_law_closed" (tp 42) f fd) (h_len:mg "len" =none):FnOk P w K mg base CX0 (1) f fd ["_law_stack","_law_sign_here"] (spR1 K isS isB (Z3q)):=by
  have SC:FnScope ["_law_stack","_law_sign_here","_law_head","_law_body"] ["_law_stack","_law_sign_here"] (defScope (tp 42)):=⟨rfl,rfl,rfl,by decide +kernel,rfl,by decide +kernel,by decide +kernel⟩
  refine F.ok SC (fun vs H Q E h=>?_) (fun cdv A outer s H vs Q E hr h=>?_)
  · obtain⟨_,_,_,_,_,_,_,_,rfl,_⟩:=h;rfl
  · obtain⟨W0,W,Z0n,Z0m,Z0C,_,E0,rfl,rfl,Z0i,Z90,Er,hq⟩:=h
    cases Z90
    refine⟨_,(pss_cons (ps_if (PW.pt (pw_or (pt_cmpR op_lt (pe_callB (call_lenK (K:=K) rfl) (by rfl) h_len PySem.boot_len (pa_cons (pv 0) pa_nil)) pe_int (nomark _)) (pw_or1 (pt_cmpR op_ne (pe_ix (ix_tupK (K:=K) rfl) (pe_ix (ix_tupK (K:=K) rfl) (pe_ix (ix_listK (K:=K) rfl) (pv 0) (pe_un un_neg pe_int) (fun _ _=>rfl)) pe_int (fun _ _=>rfl)) pe_int (fun _ _=>rfl)) (pe_dget (units1 hr) (pe_disp (pps_cons pe_str pe_str (pps_cons pe_str pe_str pps_nil)) rfl rfl (by simp) (by decide)) (pv 1) (fun _ _=>rfl)) (nomark _))))) (pss_one (ps_ret pe_bl)) pss_nil)
      (pss_cons (ps_asg (pe_bm0K (K:=K) rfl PySem.F.plainAttrs_list PySem.F.slot_list_pop PySem.F.type_list_pop mt_pop (pv 0)) (pg_tupK (K:=K) (n:=2) rfl rfl (pgs_cons (pg_name (i:=2) SC.nd rfl (by first | exact Or.inl rfl | exact Or.inr rfl)) (pgs_cons (pg_name (i:=3) SC.nd rfl (by first | exact Or.inl rfl | exact Or.inr rfl)) pgs_nil))))
      (pss_cons (ps_if (pt_cmpR op_eq (pv 1) pe_str (nomark _)) (pss_one (ps_expr (pe_append1 (K:=K) rfl (pe_ix (ix_tupK (K:=K) rfl) (pe_ix (ix_listK (K:=K) rfl) (pv 0) (pe_un un_neg pe_int) (fun _ _=>rfl)) pe_int (fun _ _=>rfl)) (pa_cons (pe_tup (pa_cons pe_str (pa_cons (pe_ix (ix_tupK (K:=K) rfl) (pv 2) pe_int (fun _ _=>rfl)) (pa_cons (pv 3) pa_nil)))) pa_nil)))) (pss_one (ps_expr (pe_append1 (K:=K) rfl (pe_ix (ix_tupK (K:=K) rfl) (pe_ix (ix_listK (K:=K) rfl) (pv 0) (pe_un un_neg pe_int) (fun _ _=>rfl)) pe_int (fun _ _=>rfl)) (pa_cons (pe_tup (pa_cons pe_str (pa_cons (pv 3) pa_nil))) pa_nil)))))
      (pss_one (ps_ret pe_bl))))),?_⟩
    have hS0:Same W.G W.G:=.refl _
    rw[show L2.start ["_law_stack","_law_sign_here","_law_head","_law_body"] [.ref Z0n,.str (sOf Z0C)]=[some (.ref Z0n),some (.str (sOf Z0C)),none,none]from rfl]
    unfold Z3q at hq
    refine sv_if_s (Er:=Er) (tv_or (tv_test (ev_cmp (ev_stkLen Z0i) ev_int)) (tv_test (ev_neS (ev_stkTag Z0i) (ev_disp2 (a:=[41]) (x:=[116,105,109,101,115]) (b:=[62]) (y:=[109,105,114,114,111,114]) (by decide) (ofS _ _ (by decide +kernel)) (ofS _ _ (by decide +kernel)) (ofS _ _ (by decide +kernel)) (ofS _ _ (by decide +kernel)) (ev_var (R:=sh isS) (a:=Z0C) (v:=.str (sOf Z0C)) rfl))))) ((Res.okE_bind hq).imp fun y3 hq W4 e5=>?_)
    have E0:=E0.trans e5
    have hS0:=hS0.trans e5.g
    have Z0i:=Z0i.mono e5
    by_cases hb44:y3=true
    · rw[if_pos hb44]at hq ⊢
      exact sv_ret (Er:=Er) (R:=sh isB) ev_bl (fun v6 W7 e8 h9=>hq W7 v6 (E0.trans e8) (hS0.trans e8.g) (Z0i.mono e8) h9)
    · rw[if_neg hb44]at hq ⊢
      try dsimp only[tNext]
      refine sv_stkPop_s (Er:=Er) (K:=K) (g1:=2) (g2:=3) (σ':=fun v11 v12=>[some (.ref Z0n),some (.str (sOf Z0C)),some v11,some v12]) E0 Z0i ((Res.okE_bind hq).imp fun y10 hq v11 v12 W13 E0 hS14 h15 h16 o17=>?_)
      have hS0:=hS0.trans hS14
      refine sv_ifj_s (Er:=Er) (Iv:=fun(s37:(List Fr)) (W38:Wd) (g39:St)=>g39=[some (.ref Z0n),some (.str (sOf Z0C)),some v11,some v12]∧Ext W0 W38∧OwS K W0 W38 Z0n s37) (tv_test (ev_eqS (ev_var (R:=sh isS) (a:=Z0C) (v:=.str (sOf Z0C)) rfl) (ev_str (x:=Str.ofString ")") (l:=[41]) (ofS _ _ (by decide +kernel))))) (Res.okE_bind hq) ?_ ?_ ?_
      · intro W18 N21 e19 hN22 hq
        have hs23:=e19.g
        have E0:=E0.trans e19
        have hS0:=hS0.trans e19.g
        have o17:=o17.mono e19
        have h15:=Mono.mono (R:=(isT2 K isS isI)) e19.g h15
        have h16:=Mono.mono (R:=(isL (isU K))) e19.g h16
        refine sv_stkApp (Er:=Er) (K:=K) E0 o17 (ev_toU (K:=K) (u:=fun(z:Tx×Int×(List Dat))=>Dat.t [Dat.s z.1,Dat.i z.2.1,Dat.l (z.2.2.map fun(z:Dat)=>z)]) (toU_3 toU_s toU_i (toU_l (u:=fun(z:Dat)=>z) toU_u)) (ev_tup3 (K:=K) (ev_str (x:=Str.ofString "times") (l:=[116,105,109,101,115]) (ofS _ _ (by decide +kernel))) (ev_ixT (f:=fun(b:Tx×Int)=>b.2) ix21 (ev_var (R:=sh (isT2 K isS isI)) h15)) (ev_var (R:=sh (isL (isU K))) h16))) ((Res.okE_bind hq).imp fun y24 hq W25 E0 hS26 o27=>?_)
        have hS0:=hS0.trans hS26
        have hs23:=hs23.trans hS26
        exact hN22 y24 W25 _ hs23 ⟨rfl,E0,o27⟩ hq
      · intro W18 N21 e19 hN22 hq
        have hs28:=e19.g
        have E0:=E0.trans e19
        have hS0:=hS0.trans e19.g
        have o17:=o17.mono e19
        have h15:=Mono.mono (R:=(isT2 K isS isI)) e19.g h15
        have h16:=Mono.mono (R:=(isL (isU K))) e19.g h16
        refine sv_stkApp (Er:=Er) (K:=K) E0 o17 (ev_toU (K:=K) (u:=fun(z:Tx×(List Dat))=>Dat.t [Dat.s z.1,Dat.l (z.2.map fun(z:Dat)=>z)]) (toU_2 toU_s (toU_l (u:=fun(z:Dat)=>z) toU_u)) (ev_tup2 (K:=K) (ev_str (x:=Str.ofString "mirror") (l:=[109,105,114,114,111,114]) (ofS _ _ (by decide +kernel))) (ev_var (R:=sh (isL (isU K))) h16))) ((Res.okE_bind hq).imp fun y29 hq W30 E0 hS31 o32=>?_)
        have hS0:=hS0.trans hS31
        have hs28:=hs28.trans hS31
        exact hN22 y29 W30 _ hs28 ⟨rfl,E0,o32⟩ hq
      · intro s33 W34 sg35 hS36 iv hq
        obtain⟨rfl,E0,o40⟩:=iv
        have hS0:=hS0.trans hS36
        exact sv_ret (Er:=Er) (R:=sh isB) ev_bl (fun v41 W42 e43 h44=>hq W42 v41 (E0.trans e43) (hS0.trans e43.g) (o40.mono e43) h44)
theorem Zdv {f:Addr} {fd:FuncData} (F:Fun K "_law_opened" "_law_opened" (tp 41) f fd) (h_len:mg "len" =none):FnOk P w K mg base CX0 (1) f fd ["_law_stack","_law_head"] (spR1 K (isT2 K isS isI) isB (Z3r)):=by
  have SC:FnScope ["_law_stack","_law_head"] ["_law_stack","_law_head"] (defScope (tp 41)):=⟨rfl,rfl,rfl,by decide +kernel,rfl,by decide +kernel,by decide +kernel⟩
  refine F.ok SC (fun vs H Q E h=>?_) (fun cdv A outer s H vs Q E hr h=>?_)
  · obtain⟨_,_,_,_,_,_,_,_,rfl,_⟩:=h;rfl
  · obtain⟨W0,W,Z0n,Z0m,Z7G,Zau,E0,rfl,rfl,Z0i,Z7u,Er,hq⟩:=h
    refine⟨_,(pss_cons (ps_if (pt_cmpR op_eq (pe_callB (call_lenK (K:=K) rfl) (by rfl) h_len PySem.boot_len (pa_cons (pv 0) pa_nil)) pe_int (nomark _)) (pss_one (ps_ret pe_bl)) pss_nil)
      (pss_cons (ps_expr (pe_append1 (K:=K) rfl (pv 0) (pa_cons (pe_tup (pa_cons (pv 1) (pa_cons (pe_lst pa_nil) pa_nil))) pa_nil)))
      (pss_one (ps_ret pe_bl)))),?_⟩
    have hS0:Same W.G W.G:=.refl _
    rw[show L2.start ["_law_stack","_law_head"] [.ref Z0n,Zau]=[some (.ref Z0n),some Zau]from rfl]
    unfold Z3r at hq
    refine sv_if_s (Er:=Er) (tv_test (ev_eqI (ev_stkLen Z0i) ev_int)) (fun W1 e2=>?_)
    have E0:=E0.trans e2
    have hS0:=hS0.trans e2.g
    have Z0i:=Z0i.mono e2
    have Z7u:=Mono.mono (R:=(isT2 K isS isI)) e2.g Z7u
    by_cases hb14:(decide ((Z0m.length:Int)=(8:Int)))=true
    · rw[if_pos hb14]at hq ⊢
      exact sv_ret (Er:=Er) (R:=sh isB) ev_bl (fun v3 W4 e5 h6=>hq W4 v3 (E0.trans e5) (hS0.trans e5.g) (Z0i.mono e5) h6)
    · rw[if_neg hb14]at hq ⊢
      try dsimp only[tNext]
      refine sv_stkPush_s (Er:=Er) (K:=K) E0 Z0i (ev_var (R:=sh (isT2 K isS isI)) Z7u) ((Res.okE_bind hq).imp fun y7 hq W8 E0 hS9 o10=>?_)
      have hS0:=hS0.trans hS9
      exact sv_ret (Er:=Er) (R:=sh isB) ev_bl (fun v11 W12 e13 h14=>hq W12 v11 (E0.trans e13) (hS0.trans e13.g) (o10.mono e13) h14)
theorem Zg7 {f:Addr} {fd:FuncData} (F:Fun K "_law_run" "_law_run" (tp 40) f fd) (h_len:mg "len" =none):FnOk P w K mg base CX0 (1) f fd ["_law_text","_law_at_here","_law_signs"] (spM3 isS isI isS (rs isS) (Z72)):=by
  have SC:FnScope ["_law_text","_law_at_here","_law_signs","_law_end"] ["_law_text","_law_at_here","_law_signs"] (defScope (tp 40)):=⟨rfl,rfl,rfl,by decide +kernel,rfl,by decide +kernel,by decide +kernel⟩
  refine F.ok SC (fun vs H Q E h=>?_) (fun cdv A outer s H vs Q E hr h=>?_)
  · obtain⟨_,_,_,_,_,_,_,_,rfl,_⟩:=h;rfl
  · obtain⟨W0,Z00,Z04,Z15,_,_,_,rfl,rfl,Z1y,Z1R,ZeR,Er,hq⟩:=h
    cases Z1y
    cases Z1R
    cases ZeR
    refine⟨_,(pss_cons (ps_set (i:=3) SC.nd rfl (by first | exact Or.inl rfl | exact Or.inr rfl) (pv 1))
      (pss_cons (ps_while PassesOwn.never (PW.pt (pw_and (pt_cmpR op_lt (pv 3) (pe_callB (call_lenK (K:=K) rfl) (by rfl) h_len PySem.boot_len (pa_cons (pv 0) pa_nil)) (nomark _)) (pw_and1 (pt_cmpR op_in_str (pe_ix ix_str (pv 0) (pv 3) (fun _ _=>rfl)) (pv 2) (by with_unfolding_all rfl))))) (pss_one (ps_set (i:=3) SC.nd rfl (by first | exact Or.inl rfl | exact Or.inr rfl) (pe_op op_add (pv 3) pe_int))))
      (pss_one (ps_ret (pe_slice sl_str (pv 0) (po_some (pv 1)) (po_some (pv 3))))))),?_⟩
    have E0:Ext W0 W0:=.refl W0
    rw[show L2.start ["_law_text","_law_at_here","_law_signs","_law_end"] [.str (sOf Z00),.int Z04,.str (sOf Z15)]=[some (.str (sOf Z00)),some (.int Z04),some (.str (sOf Z15)),none]from rfl]
    unfold Z72 at hq
    refine sv_asg_s (Er:=Er) (i:=3) (R:=sh isI) (σ':=fun v3=>[some (.str (sOf Z00)),some (.int Z04),some (.str (sOf Z15)),some v3]) (ev_var (R:=sh isI) (a:=Z04) (v:=.int Z04) rfl) (fun v3 W1 e2 h4=>?_)
    cases h4
    have E0:=E0.trans e2
    refine sv_while_s (Er:=Er) (c:=(Z2b Z00 Z15)) (f:=Z2c) (s0:=Z04) (n:=cap) (Iv:=fun(s7:Int) (W8:Wd) (g9:St)=>g9=[some (.str (sOf Z00)),some (.int Z04),some (.str (sOf Z15)),some (.int s7)]∧Ext W0 W8) (Res.okE_bind hq) ?_ ?_ ?_ ?_ ?_
    · exact⟨rfl,E0⟩
    · intro W11 W12 s6 sg13 e17 iv
      obtain⟨rfl,E0⟩:=iv
      have E0:=E0.trans e17
      exact⟨rfl,E0⟩
    · intro W11 s6 sg13 hW15 iv
      obtain⟨rfl,E0⟩:=iv
      unfold Z2b
      exact(tv_and (tv_test (ev_cmp (ev_var (R:=sh isI) (a:=s6) (v:=.int s6) rfl) (ev_lenS (ev_var (R:=sh isS) (a:=Z00) (v:=.str (sOf Z00)) rfl)))) (tv_test (ev_inS (ev_ixS (ev_var (R:=sh isS) (a:=Z00) (v:=.str (sOf Z00)) rfl) (ev_var (R:=sh isI) (a:=s6) (v:=.int s6) rfl)) (ev_var (R:=sh isS) (a:=Z15) (v:=.str (sOf Z15)) rfl))))
    · intro Wb10 W11 s6 sg13 P14 hW15 hB16 iv hq
      obtain⟨rfl,E0⟩:=iv
      unfold Z2c at hq
      refine sv_asg (Er:=Er) (i:=3) (R:=sh isI) (σ':=fun v23=>[some (.str (sOf Z00)),some (.int Z04),some (.str (sOf Z15)),some v23]) (ev_rI0 (ev_var (R:=sh isI) (a:=s6) (v:=.int s6) rfl) ev_int) (fun v23 W21 e22 h24=>?_)
      cases h24
      have E0:=E0.trans e22
      have hB16:=hB16.trans e22.g
      try dsimp only
      refine nxF_of (W:=W21) (s6+(1:Int)) hB16 ?_ hq
      exact⟨rfl,E0⟩
    · intro s25 W26 sg27 hS28 iv hq
      obtain⟨rfl,E0⟩:=iv
      exact sv_ret (Er:=Er) (R:=sh isS) (ev_cutS (ev_var (R:=sh isS) (a:=Z00) (v:=.str (sOf Z00)) rfl) (po_at (ev_var (R:=sh isI) (a:=Z04) (v:=.int Z04) rfl)) (po_at (ev_var (R:=sh isI) (a:=s25) (v:=.int s25) rfl))) (Res.OkE.imp hq fun y29 hq v30 W31 e32 h33=>hq v30 W31 (E0.trans e32) h33)
theorem ZfW {f:Addr} {fd:FuncData} (F:Fun K "_law_word" "_law_word" (tp 43) f fd) {Z10:List Fr→(Tx×Int)→Res (List Fr×Bool)} {Z1p:Tx→Int→Tx→Res Tx} (Z1X:Cal P w K mg base "_law_opened" ["_law_stack","_law_head"] (1) (spR1 K (isT2 K isS isI) isB Z10)) (Z2f:Cal P w K mg base "_law_run" ["_law_text","_law_at_here","_law_signs"] (1) (spM3 isS isI isS (rs isS) Z1p)) (h_int:mg "int" =none) (h_len:mg "len" =none):FnOk P w K mg base CX0 (2) f fd ["_law_stack","_law_text","_law_at_here"] (spR2 K isS isI isI (Z5p Z10 Z1p)):=by
  have SC:FnScope ["_law_stack","_law_text","_law_at_here","_law_figures","_law_good","_law_turn","_law_turns_here"] ["_law_stack","_law_text","_law_at_here"] (defScope (tp 43)):=⟨rfl,rfl,rfl,by decide +kernel,rfl,by decide +kernel,by decide +kernel⟩
  refine F.ok SC (fun vs H Q E h=>?_) (fun cdv A outer s H vs Q E hr h=>?_)
  · obtain⟨_,_,_,_,_,_,_,_,_,_,rfl,_⟩:=h;rfl
  · obtain⟨W0,W,Z0n,Z0m,Z00,Z04,_,_,E0,rfl,rfl,Z0i,Z1y,Z1R,Er,hq⟩:=h
    cases Z1y
    cases Z1R
    refine⟨_,(pss_cons (ps_if (pt_cmpR op_eq (pe_ix ix_str (pv 1) (pv 2) (fun _ _=>rfl)) pe_str (nomark _)) (pss_cons (ps_if (pt_not (pt_val (pe_cal Z1X (hr.mono (by decide)) (by rfl) (pa_cons (pv 0) (pa_cons (pe_tup (pa_cons pe_str (pa_cons pe_int pa_nil))) pa_nil))))) (pss_one (ps_ret pe_int)) pss_nil)
      (pss_one (ps_ret pe_int))) pss_nil)
      (pss_cons (ps_set (i:=3) SC.nd rfl (by first | exact Or.inl rfl | exact Or.inr rfl) (pe_cal Z2f (hr.mono (by decide)) (by rfl) (pa_cons (pv 1) (pa_cons (pv 2) (pa_cons pe_str pa_nil)))))
      (pss_cons (ps_if (pt_cmpR op_ne (pv 3) pe_str (nomark _)) (pss_cons (ps_set (i:=4) SC.nd rfl (by first | exact Or.inl rfl | exact Or.inr rfl) (pe_or (pe_cmpR op_eq (pe_callB (call_lenK (K:=K) rfl) (by rfl) h_len PySem.boot_len (pa_cons (pv 3) pa_nil)) pe_int (nomark _)) (pe_one (pe_and (pe_cmpR op_eq (pe_callB (call_lenK (K:=K) rfl) (by rfl) h_len PySem.boot_len (pa_cons (pv 3) pa_nil)) pe_int (nomark _)) (pe_one (pe_cmpR op_ne (pe_ix ix_str (pv 3) pe_int (fun _ _=>rfl)) pe_str (nomark _)))))))
      (pss_cons (ps_if (PW.pt (pw_or (pt_not (pt_val (pv 4))) (pw_or1 (pt_cmpR op_ne (pe_slice sl_str (pv 1) (po_some (pe_op op_add (pv 2) (pe_callB (call_lenK (K:=K) rfl) (by rfl) h_len PySem.boot_len (pa_cons (pv 3) pa_nil)))) (po_some (pe_op op_add (pe_op op_add (pv 2) (pe_callB (call_lenK (K:=K) rfl) (by rfl) h_len PySem.boot_len (pa_cons (pv 3) pa_nil))) pe_int))) pe_str (nomark _))))) (pss_one (ps_ret pe_int)) pss_nil)
      (pss_cons (ps_if (pt_not (pt_val (pe_cal Z1X (hr.mono (by decide)) (by rfl) (pa_cons (pv 0) (pa_cons (pe_tup (pa_cons pe_str (pa_cons (pe_callTy call_intW (by rfl) h_int PyProof.Rows.boot_int (pa_cons (pv 3) pa_nil)) pa_nil))) pa_nil))))) (pss_one (ps_ret pe_int)) pss_nil)
      (pss_one (ps_ret (pe_op op_add (pe_callB (call_lenK (K:=K) rfl) (by rfl) h_len PySem.boot_len (pa_cons (pv 3) pa_nil)) pe_int)))))) pss_nil)
      (pss_cons (ps_if (pt_cmpR op_eq (pe_ix ix_str (pv 1) (pv 2) (fun _ _=>rfl)) pe_str (nomark _)) (pss_cons (ps_set (i:=5) SC.nd rfl (by first | exact Or.inl rfl | exact Or.inr rfl) (pe_slice sl_str (pe_cal Z2f (hr.mono (by decide)) (by rfl) (pa_cons (pv 1) (pa_cons (pe_op op_add (pv 2) pe_int) (pa_cons pe_str pa_nil)))) po_none (po_some pe_int)))
      (pss_cons (ps_expr (pe_append1 (K:=K) rfl (pe_ix (ix_tupK (K:=K) rfl) (pe_ix (ix_listK (K:=K) rfl) (pv 0) (pe_un un_neg pe_int) (fun _ _=>rfl)) pe_int (fun _ _=>rfl)) (pa_cons (pe_tup (pa_cons pe_str (pa_cons (pv 5) pa_nil))) pa_nil)))
      (pss_one (ps_ret (pe_op op_mul pe_int (pe_callB (call_lenK (K:=K) rfl) (by rfl) h_len PySem.boot_len (pa_cons (pv 5) pa_nil))))))) pss_nil)
      (pss_cons (ps_set (i:=6) SC.nd rfl (by first | exact Or.inl rfl | exact Or.inr rfl) (pe_cal Z2f (hr.mono (by decide)) (by rfl) (pa_cons (pv 1) (pa_cons (pv 2) (pa_cons pe_str pa_nil)))))
      (pss_cons (ps_if (pt_cmpR op_gt (pe_callB (call_lenK (K:=K) rfl) (by rfl) h_len PySem.boot_len (pa_cons (pv 6) pa_nil)) pe_int (nomark _)) (pss_one (ps_ret pe_int)) pss_nil)
      (pss_cons (ps_expr (pe_append1 (K:=K) rfl (pe_ix (ix_tupK (K:=K) rfl) (pe_ix (ix_listK (K:=K) rfl) (pv 0) (pe_un un_neg pe_int) (fun _ _=>rfl)) pe_int (fun _ _=>rfl)) (pa_cons (pe_tup (pa_cons pe_str (pa_cons (pv 6) pa_nil))) pa_nil)))
      (pss_one (ps_ret (pe_callB (call_lenK (K:=K) rfl) (by rfl) h_len PySem.boot_len (pa_cons (pv 6) pa_nil))))))))))),?_⟩
    have hS0:Same W.G W.G:=.refl _
    rw[show L2.start ["_law_stack","_law_text","_law_at_here","_law_figures","_law_good","_law_turn","_law_turns_here"] [.ref Z0n,.str (sOf Z00),.int Z04]=[some (.ref Z0n),some (.str (sOf Z00)),some (.int Z04),none,none,none,none]from rfl]
    unfold Z5p at hq
    refine sv_if_s (Er:=Er) (tv_test (ev_eqS (ev_ixS (ev_var (R:=sh isS) (a:=Z00) (v:=.str (sOf Z00)) rfl) (ev_var (R:=sh isI) (a:=Z04) (v:=.int Z04) rfl)) (ev_str (x:=Str.ofString "<") (l:=[60]) (ofS _ _ (by decide +kernel))))) ((Res.okE_bind hq).imp fun y2 hq W3 e4=>?_)
    have E0:=E0.trans e4
    have hS0:=hS0.trans e4.g
    have Z0i:=Z0i.mono e4
    by_cases hb108:y2=true
    · rw[if_pos hb108]at hq ⊢
      refine sv_ifR1_s (Er:=Er) (K:=K) (i:=0) E0 Z0i (ev_tup2 (K:=K) (ev_str (x:=Str.ofString "mirror") (l:=[109,105,114,114,111,114]) (ofS _ _ (by decide +kernel))) ev_int) ((Res.okE_bind hq).imp fun y5 hq W6 E0 hS7 o8=>?_)
      have hS0:=hS0.trans hS7
      by_cases hb9:y5.2=true
      · rw[if_pos hb9]at hq ⊢
        try dsimp only[tNext]
        exact sv_ret (Er:=Er) (R:=sh isI) ev_int (fun v10 W11 e12 h13=>hq W11 v10 (E0.trans e12) (hS0.trans e12.g) (o8.mono e12) h13)
      · rw[if_neg hb9]at hq ⊢
        exact sv_ret (Er:=Er) (R:=sh isI) ev_int (fun v14 W15 e16 h17=>hq W15 v14 (E0.trans e16) (hS0.trans e16.g) (o8.mono e16) h17)
    · rw[if_neg hb108]at hq ⊢
      try dsimp only[tNext]
      refine sv_asg_s (Er:=Er) (i:=3) (R:=sh isS) (σ':=fun v21=>[some (.ref Z0n),some (.str (sOf Z00)),some (.int Z04),some v21,none,none,none]) (ev_call3 (ev_var (R:=sh isS) (a:=Z00) (v:=.str (sOf Z00)) rfl) (ev_var (R:=sh isI) (a:=Z04) (v:=.int Z04) rfl) (ev_str (x:=Str.ofString "0123456789") (l:=[48,49,50,51,52,53,54,55,56,57]) (ofS _ _ (by decide +kernel)))) ((Res.okE_bind hq).imp fun y20 hq v21 W18 e19 h22=>?_)
      cases h22
      have E0:=E0.trans e19
      have hS0:=hS0.trans e19.g
      have Z0i:=Z0i.mono e19
      refine sv_if_s (Er:=Er) (tv_test (ev_neS (ev_var (R:=sh isS) (a:=y20) (v:=.str (sOf y20)) rfl) (ev_str (x:=Str.ofString "") (l:=[]) (ofS _ _ (by decide +kernel))))) (fun W23 e24=>?_)
      have E0:=E0.trans e24
      have hS0:=hS0.trans e24.g
      have Z0i:=Z0i.mono e24
      by_cases hb108:(!decide (y20=([]:Tx)))=true
      · rw[if_pos hb108]at hq ⊢
        refine sv_asg_s (Er:=Er) (i:=4) (R:=sh isB) (σ':=fun v33=>[some (.ref Z0n),some (.str (sOf Z00)),some (.int Z04),some (.str (sOf y20)),some v33,none,none]) (ev_or (ev_eqI (ev_lenS (ev_var (R:=sh isS) (a:=y20) (v:=.str (sOf y20)) rfl)) ev_int) (ev_and (ev_eqI (ev_lenS (ev_var (R:=sh isS) (a:=y20) (v:=.str (sOf y20)) rfl)) ev_int) (ev_neS (ev_ixS (ev_var (R:=sh isS) (a:=y20) (v:=.str (sOf y20)) rfl) ev_int) (ev_str (x:=Str.ofString "0") (l:=[48]) (ofS _ _ (by decide +kernel)))))) ((Res.okE_bind hq).imp fun y32 hq v33 W25 e26 h34=>?_)
        cases h34
        have E0:=E0.trans e26
        have hS0:=hS0.trans e26.g
        have Z0i:=Z0i.mono e26
        refine sv_if_s (Er:=Er) (tv_or (tv_not (tv_b (ev_var (R:=sh isB) (a:=y32) (v:=.bl y32) rfl))) (tv_test (ev_neS (ev_cutS (ev_var (R:=sh isS) (a:=Z00) (v:=.str (sOf Z00)) rfl) (po_at (ev_rI0 (ev_var (R:=sh isI) (a:=Z04) (v:=.int Z04) rfl) (ev_lenS (ev_var (R:=sh isS) (a:=y20) (v:=.str (sOf y20)) rfl)))) (po_at (ev_rI0 (ev_rI0 (ev_var (R:=sh isI) (a:=Z04) (v:=.int Z04) rfl) (ev_lenS (ev_var (R:=sh isS) (a:=y20) (v:=.str (sOf y20)) rfl))) ev_int))) (ev_str (x:=Str.ofString "(") (l:=[40]) (ofS _ _ (by decide +kernel)))))) ((Res.okE_bind hq).imp fun y43 hq W44 e45=>?_)
        have E0:=E0.trans e45
        have hS0:=hS0.trans e45.g
        have Z0i:=Z0i.mono e45
        by_cases hb66:y43=true
        · rw[if_pos hb66]at hq ⊢
          exact sv_ret (Er:=Er) (R:=sh isI) ev_int (fun v46 W47 e48 h49=>hq W47 v46 (E0.trans e48) (hS0.trans e48.g) (Z0i.mono e48) h49)
        · rw[if_neg hb66]at hq ⊢
          try dsimp only[tNext]
          refine sv_ifR1_s (Er:=Er) (K:=K) (i:=0) E0 Z0i (ev_tup2 (K:=K) (ev_str (x:=Str.ofString "times") (l:=[116,105,109,101,115]) (ofS _ _ (by decide +kernel))) (ev_intW (ev_var (R:=sh isS) (a:=y20) (v:=.str (sOf y20)) rfl))) ((Res.okE_bind hq).imp fun y52 hq W53 E0 hS54 o55=>?_)
          have hS0:=hS0.trans hS54
          by_cases hb56:y52.2=true
          · rw[if_pos hb56]at hq ⊢
            try dsimp only[tNext]
            exact sv_ret (Er:=Er) (R:=sh isI) (ev_rI0 (ev_lenS (ev_var (R:=sh isS) (a:=y20) (v:=.str (sOf y20)) rfl)) ev_int) ((Res.okE_bind hq).imp fun y58 hq v59 W60 e61 h62=>hq W60 v59 (E0.trans e61) (hS0.trans e61.g) (o55.mono e61) h62)
          · rw[if_neg hb56]at hq ⊢
            exact sv_ret (Er:=Er) (R:=sh isI) ev_int (fun v63 W64 e65 h66=>hq W64 v63 (E0.trans e65) (hS0.trans e65.g) (o55.mono e65) h66)
      · rw[if_neg hb108]at hq ⊢
        try dsimp only[tNext]
        refine sv_if_s (Er:=Er) (tv_test (ev_eqS (ev_ixS (ev_var (R:=sh isS) (a:=Z00) (v:=.str (sOf Z00)) rfl) (ev_var (R:=sh isI) (a:=Z04) (v:=.int Z04) rfl)) (ev_str (x:=Str.ofString "*") (l:=[42]) (ofS _ _ (by decide +kernel))))) ((Res.okE_bind hq).imp fun y68 hq W69 e70=>?_)
        have E0:=E0.trans e70
        have hS0:=hS0.trans e70.g
        have Z0i:=Z0i.mono e70
        by_cases hb108:y68=true
        · rw[if_pos hb108]at hq ⊢
          refine sv_asg_s (Er:=Er) (i:=5) (R:=sh isS) (σ':=fun v75=>[some (.ref Z0n),some (.str (sOf Z00)),some (.int Z04),some (.str (sOf y20)),none,some v75,none]) (ev_cutS (ev_call3 (ev_var (R:=sh isS) (a:=Z00) (v:=.str (sOf Z00)) rfl) (ev_rI0 (ev_var (R:=sh isI) (a:=Z04) (v:=.int Z04) rfl) ev_int) (ev_str (x:=Str.ofString "fbi") (l:=[102,98,105]) (ofS _ _ (by decide +kernel)))) po_no (po_at ev_int)) ((Res.okE_bind hq).imp fun y74 hq v75 W71 e72 h76=>?_)
          cases h76
          have E0:=E0.trans e72
          have hS0:=hS0.trans e72.g
          have Z0i:=Z0i.mono e72
          refine sv_stkApp_s (Er:=Er) (K:=K) E0 Z0i (ev_toU (K:=K) (toU_2 toU_s toU_s) (ev_tup2 (K:=K) (ev_str (x:=Str.ofString "all") (l:=[97,108,108]) (ofS _ _ (by decide +kernel))) (ev_var (R:=sh isS) (a:=y74) (v:=.str (sOf y74)) rfl))) ((Res.okE_bind hq).imp fun y77 hq W78 E0 hS79 o80=>?_)
          have hS0:=hS0.trans hS79
          exact sv_ret (Er:=Er) (R:=sh isI) (ev_mul ev_int (ev_lenS (ev_var (R:=sh isS) (a:=y74) (v:=.str (sOf y74)) rfl))) ((Res.okE_bind hq).imp fun y82 hq v83 W84 e85 h86=>hq W84 v83 (E0.trans e85) (hS0.trans e85.g) (o80.mono e85) h86)
        · rw[if_neg hb108]at hq ⊢
          try dsimp only[tNext]
          refine sv_asg_s (Er:=Er) (i:=6) (R:=sh isS) (σ':=fun v90=>[some (.ref Z0n),some (.str (sOf Z00)),some (.int Z04),some (.str (sOf y20)),none,none,some v90]) (ev_call3 (ev_var (R:=sh isS) (a:=Z00) (v:=.str (sOf Z00)) rfl) (ev_var (R:=sh isI) (a:=Z04) (v:=.int Z04) rfl) (ev_str (x:=Str.ofString "fbi") (l:=[102,98,105]) (ofS _ _ (by decide +kernel)))) ((Res.okE_bind hq).imp fun y89 hq v90 W87 e88 h91=>?_)
          cases h91
          have E0:=E0.trans e88
          have hS0:=hS0.trans e88.g
          have Z0i:=Z0i.mono e88
          refine sv_if_s (Er:=Er) (tv_test (ev_cmp (ev_lenS (ev_var (R:=sh isS) (a:=y89) (v:=.str (sOf y89)) rfl)) ev_int)) ((Res.okE_bind hq).imp fun y93 hq W94 e95=>?_)
          have E0:=E0.trans e95
          have hS0:=hS0.trans e95.g
          have Z0i:=Z0i.mono e95
          by_cases hb108:y93=true
          · rw[if_pos hb108]at hq ⊢
            exact sv_ret (Er:=Er) (R:=sh isI) ev_int (fun v96 W97 e98 h99=>hq W97 v96 (E0.trans e98) (hS0.trans e98.g) (Z0i.mono e98) h99)
          · rw[if_neg hb108]at hq ⊢
            try dsimp only[tNext]
            refine sv_stkApp_s (Er:=Er) (K:=K) E0 Z0i (ev_toU (K:=K) (toU_2 toU_s toU_s) (ev_tup2 (K:=K) (ev_str (x:=Str.ofString "row") (l:=[114,111,119]) (ofS _ _ (by decide +kernel))) (ev_var (R:=sh isS) (a:=y89) (v:=.str (sOf y89)) rfl))) ((Res.okE_bind hq).imp fun y100 hq W101 E0 hS102 o103=>?_)
            have hS0:=hS0.trans hS102
            exact sv_ret (Er:=Er) (R:=sh isI) (ev_lenS (ev_var (R:=sh isS) (a:=y89) (v:=.str (sOf y89)) rfl)) ((Res.okE_bind hq).imp fun y104 hq v105 W106 e107 h108=>hq W106 v105 (E0.trans e107) (hS0.trans e107.g) (o103.mono e107) h108)
theorem ZeS {f:Addr} {fd:FuncData} (F:Fun K "_law_parse" "_law_parse" (tp 44) f fd) {Z0s:List Fr→Tx→Res (List Fr×Bool)} {Z0r:List Fr→Tx→Int→Res (List Fr×Int)} (Z37:Cal P w K mg base "_law_closed" ["_law_stack","_law_sign_here"] (1) (spR1 K isS isB Z0s)) (Z4E:Cal P w K mg base "_law_word" ["_law_stack","_law_text","_law_at_here"] (2) (spR2 K isS isI isI Z0r)) (h_int:mg "int" =none) (h_len:mg "len" =none):FnOk P w K mg base CX0 (3) f fd ["_law_text"] (spM1 isS (rs (isO (isL (isU K)))) (Z4r Z0s Z0r)):=by
  have SC:FnScope ["_law_text","_law_stack","_law_state","_law_at_here","_law_step","_law_deep"] ["_law_text"] (defScope (tp 44)):=⟨rfl,rfl,rfl,by decide +kernel,rfl,by decide +kernel,by decide +kernel⟩
  refine F.ok SC (fun vs H Q E h=>?_) (fun cdv A outer s H vs Q E hr h=>?_)
  · obtain⟨_,_,_,_,rfl,_⟩:=h;rfl
  · obtain⟨W0,Z00,_,rfl,rfl,Z1y,Er,hq⟩:=h
    cases Z1y
    refine⟨_,(pss_cons (ps_set (i:=1) SC.nd rfl (by first | exact Or.inl rfl | exact Or.inr rfl) (pe_lst (pa_cons (pe_tup (pa_cons (pe_tup (pa_cons pe_str (pa_cons pe_int pa_nil))) (pa_cons (pe_lst pa_nil) pa_nil))) pa_nil)))
      (pss_cons (ps_set (i:=2) SC.nd rfl (by first | exact Or.inl rfl | exact Or.inr rfl) pe_int)
      (pss_cons (ps_set (i:=3) SC.nd rfl (by first | exact Or.inl rfl | exact Or.inr rfl) pe_int)
      (pss_cons (ps_while PassesOwn.never (pt_cmpR op_lt (pv 3) (pe_callB (call_lenK (K:=K) rfl) (by rfl) h_len PySem.boot_len (pa_cons (pv 0) pa_nil)) (nomark _)) (pss_cons (ps_if (PW.pt (pw_and (pt_cmpR op_ne (pv 2) pe_int (nomark _)) (pw_and1 (pt_cmpR op_in_str (pe_ix ix_str (pv 0) (pv 3) (fun _ _=>rfl)) pe_str (by with_unfolding_all rfl))))) (pss_cons (ps_if (pt_not (pt_val (pe_cal Z37 (hr.mono (by decide)) (by rfl) (pa_cons (pv 1) (pa_cons (pe_ix ix_str (pv 0) (pv 3) (fun _ _=>rfl)) pa_nil))))) (pss_one (ps_ret pe_non)) pss_nil)
      (pss_cons (ps_set (i:=4) SC.nd rfl (by first | exact Or.inl rfl | exact Or.inr rfl) pe_int)
      (pss_one (ps_set (i:=2) SC.nd rfl (by first | exact Or.inl rfl | exact Or.inr rfl) pe_int)))) (pss_one (ps_if (pt_cmpR op_eq (pv 2) pe_int (nomark _)) (pss_cons (ps_set (i:=4) SC.nd rfl (by first | exact Or.inl rfl | exact Or.inr rfl) (pe_callTy call_int1 (by rfl) h_int PyProof.Rows.boot_int (pa_cons (pe_cmpR op_eq (pe_ix ix_str (pv 0) (pv 3) (fun _ _=>rfl)) pe_str (nomark _)) pa_nil)))
      (pss_one (ps_set (i:=2) SC.nd rfl (by first | exact Or.inl rfl | exact Or.inr rfl) pe_int))) (pss_cons (ps_set (i:=5) SC.nd rfl (by first | exact Or.inl rfl | exact Or.inr rfl) (pe_callB (call_lenK (K:=K) rfl) (by rfl) h_len PySem.boot_len (pa_cons (pv 1) pa_nil)))
      (pss_cons (ps_set (i:=4) SC.nd rfl (by first | exact Or.inl rfl | exact Or.inr rfl) (pe_cal Z4E (hr.mono (by decide)) (by rfl) (pa_cons (pv 1) (pa_cons (pv 0) (pa_cons (pv 3) pa_nil)))))
      (pss_one (ps_set (i:=2) SC.nd rfl (by first | exact Or.inl rfl | exact Or.inr rfl) (pe_callTy call_int1 (by rfl) h_int PyProof.Rows.boot_int (pa_cons (pe_cmpR op_eq (pe_callB (call_lenK (K:=K) rfl) (by rfl) h_len PySem.boot_len (pa_cons (pv 1) pa_nil)) (pv 5) (nomark _)) pa_nil)))))))))
      (pss_cons (ps_if (pt_cmpR op_eq (pv 4) pe_int (nomark _)) (pss_one (ps_ret pe_non)) pss_nil)
      (pss_one (ps_set (i:=3) SC.nd rfl (by first | exact Or.inl rfl | exact Or.inr rfl) (pe_op op_add (pv 3) (pv 4)))))))
      (pss_cons (ps_if (PW.pt (pw_or (pt_cmpR op_gt (pe_callB (call_lenK (K:=K) rfl) (by rfl) h_len PySem.boot_len (pa_cons (pv 1) pa_nil)) pe_int (nomark _)) (pw_or1 (pt_cmpR op_eq (pv 2) pe_int (nomark _))))) (pss_one (ps_ret pe_non)) pss_nil)
      (pss_one (ps_ret (pe_ix (ix_tupK (K:=K) rfl) (pe_ix (ix_listK (K:=K) rfl) (pv 1) pe_int (fun _ _=>rfl)) pe_int (fun _ _=>rfl))))))))),?_⟩
    have E0:Ext W0 W0:=.refl W0
    rw[show L2.start ["_law_text","_law_stack","_law_state","_law_at_here","_law_step","_law_deep"] [.str (sOf Z00)]=[some (.str (sOf Z00)),none,none,none,none,none]from rfl]
    unfold Z4r at hq
    refine sv_stkNew_s (Er:=Er) (K:=K) (i:=1) (σ':=fun p1=>[some (.str (sOf Z00)),some (.ref p1),none,none,none,none]) E0 (ev_tup2 (K:=K) (ev_str (x:=Str.ofString "top") (l:=[116,111,112]) (ofS _ _ (by decide +kernel))) ev_int) (fun p1 W2 e3 o4=>?_)
    have E0:=E0.trans e3
    refine sv_asg_s (Er:=Er) (i:=2) (R:=sh isI) (σ':=fun v7=>[some (.str (sOf Z00)),some (.ref p1),some v7,none,none,none]) ev_int (fun v7 W5 e6 h8=>?_)
    cases h8
    have E0:=E0.trans e6
    have o4:=o4.mono e6
    refine sv_asg_s (Er:=Er) (i:=3) (R:=sh isI) (σ':=fun v11=>[some (.str (sOf Z00)),some (.ref p1),some (.int (0:Int)),some v11,none,none]) ev_int (fun v11 W9 e10 h12=>?_)
    cases h12
    have E0:=E0.trans e10
    have o4:=o4.mono e10
    refine sv_whileF_s (Er:=Er) (c:=(Z11 Z00)) (f:=(Z0B Z0s Z0r Z00)) (s0:=((0:Int),(0:Int),[((([116,111,112]:Tx),(0:Int)),[])])) (n:=cap) (Iv:=fun(s15:(Int×Int×(List Fr))) (W16:Wd) (g17:St)=>∃(d19:Option V) (d20:Option V),g17=[some (.str (sOf Z00)),some (.ref p1),some (.int s15.1),some (.int s15.2.1),d19,d20]∧Ext W0 W16∧OwS K W0 W16 p1 s15.2.2) (Res.okE_bind hq) ?_ ?_ ?_ ?_ ?_
    · exact⟨_,_,rfl,E0,o4⟩
    · intro W22 W23 s14 sg24 e28 iv
      obtain⟨d19,d20,rfl,E0,o18⟩:=iv
      have E0:=E0.trans e28
      have o18:=o18.mono e28
      exact⟨_,_,rfl,E0,o18⟩
    · intro W22 s14 sg24 hW26 iv
      obtain⟨d19,d20,rfl,E0,o18⟩:=iv
      unfold Z11
      exact(tv_test (ev_cmp (ev_var (R:=sh isI) (a:=s14.2.1) (v:=.int s14.2.1) rfl) (ev_lenS (ev_var (R:=sh isS) (a:=Z00) (v:=.str (sOf Z00)) rfl))))
    · intro Wb21 W22 s14 sg24 P25 hW26 hB27 iv hrt13 hq
      obtain⟨d19,d20,rfl,E0,o18⟩:=iv
      unfold Z0B at hq
      refine sv_if_s (Er:=Er) (tv_and (tv_test (ev_neI (ev_var (R:=sh isI) (a:=s14.1) (v:=.int s14.1) rfl) ev_int)) (tv_test (ev_inS (ev_ixS (ev_var (R:=sh isS) (a:=Z00) (v:=.str (sOf Z00)) rfl) (ev_var (R:=sh isI) (a:=s14.2.1) (v:=.int s14.2.1) rfl)) (ev_str (x:=Str.ofString ")>") (l:=[41,62]) (ofS _ _ (by decide +kernel)))))) ((Res.okE_bind hq).imp fun y31 hq W32 e33=>?_)
      have E0:=E0.trans e33
      have hB27:=hB27.trans e33.g
      have o18:=o18.mono e33
      by_cases hb34:y31=true
      · rw[if_pos hb34]at hq ⊢
        refine sv_ifR1_s (Er:=Er) (K:=K) (i:=1) E0 o18 (ev_ixS (ev_var (R:=sh isS) (a:=Z00) (v:=.str (sOf Z00)) rfl) (ev_var (R:=sh isI) (a:=s14.2.1) (v:=.int s14.2.1) rfl)) ((Res.okE_bind hq).imp fun y36 hq W37 E0 hS38 o39=>?_)
        have hB27:=hB27.trans hS38
        by_cases hb40:y36.2=true
        · rw[if_pos hb40]at hq ⊢
          try dsimp only[tNext]
          refine sv_asg_s (Er:=Er) (i:=4) (R:=sh isI) (σ':=fun v43=>[some (.str (sOf Z00)),some (.ref p1),some (.int s14.1),some (.int s14.2.1),some v43,d20]) ev_int (fun v43 W41 e42 h44=>?_)
          cases h44
          have E0:=E0.trans e42
          have hB27:=hB27.trans e42.g
          have o39:=o39.mono e42
          refine sv_asg (Er:=Er) (i:=2) (R:=sh isI) (σ':=fun v47=>[some (.str (sOf Z00)),some (.ref p1),some v47,some (.int s14.2.1),some (.int (1:Int)),d20]) ev_int (fun v47 W45 e46 h48=>?_)
          cases h48
          have E0:=E0.trans e46
          have hB27:=hB27.trans e46.g
          have o39:=o39.mono e46
          try dsimp only
          refine sv_if_s (Er:=Er) (tv_test (ev_eqI (ev_var (R:=sh isI) (a:=(1:Int)) (v:=.int (1:Int)) rfl) ev_int)) (fun W49 e50=>?_)
          have E0:=E0.trans e50
          have hB27:=hB27.trans e50.g
          have o39:=o39.mono e50
          by_cases hb58:(decide ((1:Int)=(0:Int)))=true
          · rw[if_pos hb58]at hq ⊢
            exact sv_ret (Er:=Er) (R:=sh (isO (isL (isU K)))) (ev_none (R:=(isL (isU K)))) (fun v51 W52 e53 h54=>(hrt13 _ hq) v51 W52 (E0.trans e53) h54)
          · rw[if_neg hb58]at hq ⊢
            try dsimp only[tNext]
            refine sv_asg (Er:=Er) (i:=3) (R:=sh isI) (σ':=fun v57=>[some (.str (sOf Z00)),some (.ref p1),some (.int (1:Int)),some v57,some (.int (1:Int)),d20]) (ev_rI0 (ev_var (R:=sh isI) (a:=s14.2.1) (v:=.int s14.2.1) rfl) (ev_var (R:=sh isI) (a:=(1:Int)) (v:=.int (1:Int)) rfl)) (fun v57 W55 e56 h58=>?_)
            cases h58
            have E0:=E0.trans e56
            have hB27:=hB27.trans e56.g
            have o39:=o39.mono e56
            try dsimp only
            refine nxF_of (W:=W55) ((1:Int),(s14.2.1+(1:Int)),y36.1) hB27 ?_ hq
            exact⟨_,_,rfl,E0,o39⟩
        · rw[if_neg hb40]at hq ⊢
          exact sv_ret (Er:=Er) (R:=sh (isO (isL (isU K)))) (ev_none (R:=(isL (isU K)))) (fun v59 W60 e61 h62=>(hrt13 _ hq) v59 W60 (E0.trans e61) h62)
      · rw[if_neg hb34]at hq ⊢
        refine sv_if (Er:=Er) (tv_test (ev_eqI (ev_var (R:=sh isI) (a:=s14.1) (v:=.int s14.1) rfl) ev_int)) (fun W63 e64=>?_)
        have E0:=E0.trans e64
        have hB27:=hB27.trans e64.g
        have o18:=o18.mono e64
        by_cases hb109:(decide (s14.1=(1:Int)))=true
        · rw[if_pos hb109]at hq ⊢
          refine sv_asg_s (Er:=Er) (i:=4) (R:=sh isI) (σ':=fun v70=>[some (.str (sOf Z00)),some (.ref p1),some (.int s14.1),some (.int s14.2.1),some v70,d20]) (ev_intB (ev_eqS (ev_ixS (ev_var (R:=sh isS) (a:=Z00) (v:=.str (sOf Z00)) rfl) (ev_var (R:=sh isI) (a:=s14.2.1) (v:=.int s14.2.1) rfl)) (ev_str (x:=Str.ofString " ") (l:=[32]) (ofS _ _ (by decide +kernel))))) ((Res.okE_bind hq).imp fun y69 hq v70 W65 e66 h71=>?_)
          cases h71
          have E0:=E0.trans e66
          have hB27:=hB27.trans e66.g
          have o18:=o18.mono e66
          refine sv_asg (Er:=Er) (i:=2) (R:=sh isI) (σ':=fun v74=>[some (.str (sOf Z00)),some (.ref p1),some v74,some (.int s14.2.1),some (.int y69),d20]) ev_int (fun v74 W72 e73 h75=>?_)
          cases h75
          have E0:=E0.trans e73
          have hB27:=hB27.trans e73.g
          have o18:=o18.mono e73
          try dsimp only
          refine sv_if_s (Er:=Er) (tv_test (ev_eqI (ev_var (R:=sh isI) (a:=y69) (v:=.int y69) rfl) ev_int)) (fun W76 e77=>?_)
          have E0:=E0.trans e77
          have hB27:=hB27.trans e77.g
          have o18:=o18.mono e77
          by_cases hb85:(decide (y69=(0:Int)))=true
          · rw[if_pos hb85]at hq ⊢
            exact sv_ret (Er:=Er) (R:=sh (isO (isL (isU K)))) (ev_none (R:=(isL (isU K)))) (fun v78 W79 e80 h81=>(hrt13 _ hq) v78 W79 (E0.trans e80) h81)
          · rw[if_neg hb85]at hq ⊢
            try dsimp only[tNext]
            refine sv_asg (Er:=Er) (i:=3) (R:=sh isI) (σ':=fun v84=>[some (.str (sOf Z00)),some (.ref p1),some (.int (2:Int)),some v84,some (.int y69),d20]) (ev_rI0 (ev_var (R:=sh isI) (a:=s14.2.1) (v:=.int s14.2.1) rfl) (ev_var (R:=sh isI) (a:=y69) (v:=.int y69) rfl)) (fun v84 W82 e83 h85=>?_)
            cases h85
            have E0:=E0.trans e83
            have hB27:=hB27.trans e83.g
            have o18:=o18.mono e83
            try dsimp only
            refine nxF_of (W:=W82) ((2:Int),(s14.2.1+y69),s14.2.2) hB27 ?_ hq
            exact⟨_,_,rfl,E0,o18⟩
        · rw[if_neg hb109]at hq ⊢
          refine sv_asg_s (Er:=Er) (i:=5) (R:=sh isI) (σ':=fun v88=>[some (.str (sOf Z00)),some (.ref p1),some (.int s14.1),some (.int s14.2.1),d19,some v88]) (ev_stkLen o18) (fun v88 W86 e87 h89=>?_)
          cases h89
          have E0:=E0.trans e87
          have hB27:=hB27.trans e87.g
          have o18:=o18.mono e87
          refine sv_asgR2_s (Er:=Er) (K:=K) (i:=1) (j:=4) (σ':=fun v91=>[some (.str (sOf Z00)),some (.ref p1),some (.int s14.1),some (.int s14.2.1),some v91,some (.int (s14.2.2.length:Int))]) E0 o18 (ev_var (R:=sh isS) (a:=Z00) (v:=.str (sOf Z00)) rfl) (ev_var (R:=sh isI) (a:=s14.2.1) (v:=.int s14.2.1) rfl) ((Res.okE_bind hq).imp fun y90 hq v91 W92 E0 hS93 o94 h95=>?_)
          cases h95
          have hB27:=hB27.trans hS93
          refine sv_asg (Er:=Er) (i:=2) (R:=sh isI) (σ':=fun v98=>[some (.str (sOf Z00)),some (.ref p1),some v98,some (.int s14.2.1),some (.int y90.2),some (.int (s14.2.2.length:Int))]) (ev_intB (ev_eqI (ev_stkLen o94) (ev_var (R:=sh isI) (a:=(s14.2.2.length:Int)) (v:=.int (s14.2.2.length:Int)) rfl))) (fun v98 W96 e97 h99=>?_)
          cases h99
          have E0:=E0.trans e97
          have hB27:=hB27.trans e97.g
          have o94:=o94.mono e97
          try dsimp only
          refine sv_if_s (Er:=Er) (tv_test (ev_eqI (ev_var (R:=sh isI) (a:=y90.2) (v:=.int y90.2) rfl) ev_int)) (fun W100 e101=>?_)
          have E0:=E0.trans e101
          have hB27:=hB27.trans e101.g
          have o94:=o94.mono e101
          by_cases hb109:(decide (y90.2=(0:Int)))=true
          · rw[if_pos hb109]at hq ⊢
            exact sv_ret (Er:=Er) (R:=sh (isO (isL (isU K)))) (ev_none (R:=(isL (isU K)))) (fun v102 W103 e104 h105=>(hrt13 _ hq) v102 W103 (E0.trans e104) h105)
          · rw[if_neg hb109]at hq ⊢
            try dsimp only[tNext]
            refine sv_asg (Er:=Er) (i:=3) (R:=sh isI) (σ':=fun v108=>[some (.str (sOf Z00)),some (.ref p1),some (.int (if(decide ((y90.1.length:Int)=(s14.2.2.length:Int)))then(1:Int)else 0)),some v108,some (.int y90.2),some (.int (s14.2.2.length:Int))]) (ev_rI0 (ev_var (R:=sh isI) (a:=s14.2.1) (v:=.int s14.2.1) rfl) (ev_var (R:=sh isI) (a:=y90.2) (v:=.int y90.2) rfl)) (fun v108 W106 e107 h109=>?_)
            cases h109
            have E0:=E0.trans e107
            have hB27:=hB27.trans e107.g
            have o94:=o94.mono e107
            try dsimp only
            refine nxF_of (W:=W106) ((if(decide ((y90.1.length:Int)=(s14.2.2.length:Int)))then(1:Int)else 0),(s14.2.1+y90.2),y90.1) hB27 ?_ hq
            exact⟨_,_,rfl,E0,o94⟩
    · intro s110 W111 sg112 hS113 iv hq
      obtain⟨d19,d20,rfl,E0,o18⟩:=iv
      refine sv_if_s (Er:=Er) (tv_or (tv_test (ev_cmp (ev_stkLen o18) ev_int)) (tv_test (ev_eqI (ev_var (R:=sh isI) (a:=s110.1) (v:=.int s110.1) rfl) ev_int))) ((Res.okE_bind hq).imp fun y114 hq W115 e116=>?_)
      have E0:=E0.trans e116
      have o18:=o18.mono e116
      by_cases hb125:y114=true
      · rw[if_pos hb125]at hq ⊢
        exact sv_ret (Er:=Er) (R:=sh (isO (isL (isU K)))) (ev_none (R:=(isL (isU K)))) (fun v117 W118 e119 h120=>hq v117 W118 (E0.trans e119) h120)
      · rw[if_neg hb125]at hq ⊢
        try dsimp only[tNext]
        exact sv_retSO (Er:=Er) (K:=K) E0 o18 (Res.OkE.imp hq fun y121 hq v122 W123 e124 h125=>hq v122 W123 e124 h125)
theorem ZeT {f:Addr} {fd:FuncData} (F:Fun K "run_end" "run_end" (tp 30) f fd) (h_len:mg "len" =none):FnOk P w K mg base CX0 (1) f fd ["text","at","signs"] (spM3 isS isI isS (rs isI) (Z32)):=by
  have SC:FnScope ["text","at","signs"] ["text","at","signs"] (defScope (tp 30)):=⟨rfl,rfl,rfl,by decide +kernel,rfl,by decide +kernel,by decide +kernel⟩
  refine F.ok SC (fun vs H Q E h=>?_) (fun cdv A outer s H vs Q E hr h=>?_)
  · obtain⟨_,_,_,_,_,_,_,_,rfl,_⟩:=h;rfl
  · obtain⟨W0,text,at_,signs,_,_,_,rfl,rfl,Z1b,z_at_,Zg8,Er,hq⟩:=h
    cases Z1b
    cases z_at_
    cases Zg8
    refine⟨_,(pss_cons (ps_while PassesOwn.never (PW.pt (pw_and (pt_cmpR op_lt (pv 1) (pe_callB (call_lenK (K:=K) rfl) (by rfl) h_len PySem.boot_len (pa_cons (pv 0) pa_nil)) (nomark _)) (pw_and1 (pt_cmpR op_in_str (pe_ix ix_str (pv 0) (pv 1) (fun _ _=>rfl)) (pv 2) (by with_unfolding_all rfl))))) (pss_one (ps_aug (i:=1) SC.nd rfl (by first | exact Or.inl rfl | exact Or.inr rfl) pe_int ip_add)))
      (pss_one (ps_ret (pv 1)))),?_⟩
    have E0:Ext W0 W0:=.refl W0
    rw[show L2.start ["text","at","signs"] [.str (sOf text),.int at_,.str (sOf signs)]=[some (.str (sOf text)),some (.int at_),some (.str (sOf signs))]from rfl]
    unfold Z32 at hq
    refine sv_while_s (Er:=Er) (c:=(Z0T text signs)) (f:=Z12) (s0:=at_) (n:=cap) (Iv:=fun(s3:Int) (W4:Wd) (g5:St)=>g5=[some (.str (sOf text)),some (.int s3),some (.str (sOf signs))]∧Ext W0 W4) (Res.okE_bind hq) ?_ ?_ ?_ ?_ ?_
    · exact⟨rfl,E0⟩
    · intro W7 W8 s2 sg9 e13 iv
      obtain⟨rfl,E0⟩:=iv
      have E0:=E0.trans e13
      exact⟨rfl,E0⟩
    · intro W7 s2 sg9 hW11 iv
      obtain⟨rfl,E0⟩:=iv
      unfold Z0T
      exact(tv_and (tv_test (ev_cmp (ev_var (R:=sh isI) (a:=s2) (v:=.int s2) rfl) (ev_lenS (ev_var (R:=sh isS) (a:=text) (v:=.str (sOf text)) rfl)))) (tv_test (ev_inS (ev_ixS (ev_var (R:=sh isS) (a:=text) (v:=.str (sOf text)) rfl) (ev_var (R:=sh isI) (a:=s2) (v:=.int s2) rfl)) (ev_var (R:=sh isS) (a:=signs) (v:=.str (sOf signs)) rfl))))
    · intro Wb6 W7 s2 sg9 P10 hW11 hB12 iv hq
      obtain⟨rfl,E0⟩:=iv
      unfold Z12 at hq
      refine sv_augI (Er:=Er) (i:=1) (a:=s2) (σ':=fun c=>[some (.str (sOf text)),some (.int c),some (.str (sOf signs))]) ev_int (fun W17 e18=>?_)
      have E0:=E0.trans e18
      have hB12:=hB12.trans e18.g
      try dsimp only
      refine nxF_of (W:=W17) (s2+(1:Int)) hB12 ?_ hq
      exact⟨rfl,E0⟩
    · intro s19 W20 sg21 hS22 iv hq
      obtain⟨rfl,E0⟩:=iv
      exact sv_ret (Er:=Er) (R:=sh isI) (ev_var (R:=sh isI) (a:=s19) (v:=.int s19) rfl) (fun v23 W24 e25 h26=>hq v23 W24 (E0.trans e25) h26)
theorem Zav {f:Addr} {fd:FuncData} (F:Fun K "read_turns" "read_turns" (tp 26) f fd) {Z0y:Tx→Int→Tx→Res Int} {Z06 Z0f Z08 Z0d Z0e Z09 Z0a Z0b Z03 Z0g Z05 Z07 Z0h:Addr} (Z29:Cal P w K mg base "run_end" ["text","at","signs"] (1) (spM3 isS isI isS (rs isI) Z0y)) {Z8a:Tok} (Z8b:mg "TURNS" =some (.str (Str.ofString "fbi") Z8a)) (Z0v:mg "BadText" =some (.ref Z08)) (Z0H:Ecl base Z08):FnOk P w K mg base (CXR P w) (2) f fd ["text","at","most"] (spX3 isS isI isI [Z06,Z0f,Z08,Z0d,Z0e,Z09,Z0a,Z0b,Z03,Z0g,Z05,Z07,Z0h] (rs (isT2 K isS isI)) (Z2d Z0y)):=by
  have SC:FnScope ["text","at","most","end"] ["text","at","most"] (defScope (tp 26)):=⟨rfl,rfl,rfl,by decide +kernel,rfl,by decide +kernel,by decide +kernel⟩
  refine F.okR SC (fun vs H Q E h=>?_) (fun cdv A outer s H vs Q E hr h=>?_)
  · obtain⟨_,_,_,_,_,_,_,_,rfl,_⟩:=h;rfl
  · obtain⟨W0,text,at_,most,_,_,_,rfl,rfl,Z1b,z_at_,Zgi,Er,hEr,hq⟩:=h
    cases Z1b
    cases z_at_
    cases Zgi
    refine⟨_,(pss_cons (ps_set (i:=3) SC.nd rfl (by first | exact Or.inl rfl | exact Or.inr rfl) (pe_cal Z29 (hr.mono (by decide)) (by rfl) (pa_cons (pv 0) (pa_cons (pv 1) (pa_cons (pe_glob (v:=.str (Str.ofString "fbi")) (by rfl) Z8b ⟨_,rfl⟩) pa_nil)))))
      (pss_cons (ps_if (PW.pt (pw_or (pt_cmpR op_eq (pv 3) (pv 1) (nomark _)) (pw_or1 (pt_cmpR op_gt (pe_op op_sub (pv 3) (pv 1)) (pv 2) (nomark _))))) (pss_one (ps_raise Z0H (by rfl) Z0v (pa_cons (pe_joined (pj_str (pj_val (pv 2) (pj_str (pj_val (pv 1) pj_nil))))) pa_nil))) pss_nil)
      (pss_one (ps_ret (pe_tup (pa_cons (pe_slice sl_str (pv 0) (po_some (pv 1)) (po_some (pv 3))) (pa_cons (pv 3) pa_nil))))))),?_⟩
    have E0:Ext W0 W0:=.refl W0
    rw[show L2.start ["text","at","most","end"] [.str (sOf text),.int at_,.int most]=[some (.str (sOf text)),some (.int at_),some (.int most),none]from rfl]
    unfold Z2d at hq
    refine sv_asg_s (Er:=Er) (i:=3) (R:=sh isI) (σ':=fun v4=>[some (.str (sOf text)),some (.int at_),some (.int most),some v4]) (ev_call3 (ev_var (R:=sh isS) (a:=text) (v:=.str (sOf text)) rfl) (ev_var (R:=sh isI) (a:=at_) (v:=.int at_) rfl) (ev_str (x:=Str.ofString "fbi") (l:=[102,98,105]) (ofS _ _ (by decide +kernel)))) ((Res.okE_bind hq).imp fun y3 hq v4 W1 e2 h5=>?_)
    cases h5
    have E0:=E0.trans e2
    refine sv_if_s (Er:=Er) (tv_or (tv_test (ev_eqI (ev_var (R:=sh isI) (a:=y3) (v:=.int y3) rfl) (ev_var (R:=sh isI) (a:=at_) (v:=.int at_) rfl))) (tv_test (ev_cmp (ev_rI0 (ev_var (R:=sh isI) (a:=y3) (v:=.int y3) rfl) (ev_var (R:=sh isI) (a:=at_) (v:=.int at_) rfl)) (ev_var (R:=sh isI) (a:=most) (v:=.int most) rfl)))) ((Res.okE_bind hq).imp fun y6 hq W7 e8=>?_)
    have E0:=E0.trans e8
    by_cases hb21:y6=true
    · rw[if_pos hb21]at hq ⊢
      exact sv_raise (Er:=Er) (j:=2) (hEr.mono E0) rfl (ev_joined (jv_str (x:=Str.ofString "1 to ") (l:=[49,32,116,111,32]) (ofS _ _ (by decide +kernel)) (jv_valI (ev_var (R:=sh isI) (a:=most) (v:=.int most) rfl) (jv_str (x:=Str.ofString " turns are wanted at sign ") (l:=[32,116,117,114,110,115,32,97,114,101,32,119,97,110,116,101,100,32,97,116,32,115,105,103,110,32]) (ofS _ _ (by decide +kernel)) (jv_valI (ev_var (R:=sh isI) (a:=at_) (v:=.int at_) rfl) jv_nil))))) hq
    · rw[if_neg hb21]at hq ⊢
      try dsimp only[tNext]
      exact sv_ret (Er:=Er) (R:=sh (isT2 K isS isI)) (ev_tup2 (K:=K) (ev_cutS (ev_var (R:=sh isS) (a:=text) (v:=.str (sOf text)) rfl) (po_at (ev_var (R:=sh isI) (a:=at_) (v:=.int at_) rfl)) (po_at (ev_var (R:=sh isI) (a:=y3) (v:=.int y3) rfl))) (ev_var (R:=sh isI) (a:=y3) (v:=.int y3) rfl)) (Res.OkE.imp hq fun y17 hq v18 W19 e20 h21=>hq v18 W19 (E0.trans e20) h21)
theorem ZfX {f:Addr} {fd:FuncData} (F:Fun K "behind" "behind" (tp 29) f fd) {Z06 Z0f Z08 Z0d Z0e Z09 Z0a Z0b Z03 Z0g Z05 Z07 Z0h:Addr} (Z0v:mg "BadText" =some (.ref Z08)) (Z0H:Ecl base Z08):FnOk P w K mg base (CXR P w) (1) f fd ["text","at","sign"] (spX3 isS isI isS [Z06,Z0f,Z08,Z0d,Z0e,Z09,Z0a,Z0b,Z03,Z0g,Z05,Z07,Z0h] (rs isI) (Z5q)):=by
  have SC:FnScope ["text","at","sign"] ["text","at","sign"] (defScope (tp 29)):=⟨rfl,rfl,rfl,by decide +kernel,rfl,by decide +kernel,by decide +kernel⟩
  refine F.okR SC (fun vs H Q E h=>?_) (fun cdv A outer s H vs Q E hr h=>?_)
  · obtain⟨_,_,_,_,_,_,_,_,rfl,_⟩:=h;rfl
  · obtain⟨W0,text,at_,sign,_,_,_,rfl,rfl,Z1b,z_at_,Zgj,Er,hEr,hq⟩:=h
    cases Z1b
    cases z_at_
    cases Zgj
    refine⟨_,(pss_cons (ps_if (pt_cmpR op_ne (pe_slice sl_str (pv 0) (po_some (pv 1)) (po_some (pe_op op_add (pv 1) pe_int))) (pv 2) (nomark _)) (pss_one (ps_raise Z0H (by rfl) Z0v (pa_cons (pe_joined (pj_val (pv 2) (pj_str (pj_val (pv 1) pj_nil)))) pa_nil))) pss_nil)
      (pss_one (ps_ret (pe_op op_add (pv 1) pe_int)))),?_⟩
    have E0:Ext W0 W0:=.refl W0
    rw[show L2.start ["text","at","sign"] [.str (sOf text),.int at_,.str (sOf sign)]=[some (.str (sOf text)),some (.int at_),some (.str (sOf sign))]from rfl]
    unfold Z5q at hq
    refine sv_if_s (Er:=Er) (tv_test (ev_neS (ev_cutS (ev_var (R:=sh isS) (a:=text) (v:=.str (sOf text)) rfl) (po_at (ev_var (R:=sh isI) (a:=at_) (v:=.int at_) rfl)) (po_at (ev_rI0 (ev_var (R:=sh isI) (a:=at_) (v:=.int at_) rfl) ev_int))) (ev_var (R:=sh isS) (a:=sign) (v:=.str (sOf sign)) rfl))) ((Res.okE_bind hq).imp fun y2 hq W3 e4=>?_)
    have E0:=E0.trans e4
    by_cases hb14:y2=true
    · rw[if_pos hb14]at hq ⊢
      exact sv_raise (Er:=Er) (j:=2) (hEr.mono E0) rfl (ev_joined (jv_valS (ev_var (R:=sh isS) (a:=sign) (v:=.str (sOf sign)) rfl) (jv_str (x:=Str.ofString " is wanted at sign ") (l:=[32,105,115,32,119,97,110,116,101,100,32,97,116,32,115,105,103,110,32]) (ofS _ _ (by decide +kernel)) (jv_valI (ev_var (R:=sh isI) (a:=at_) (v:=.int at_) rfl) jv_nil)))) hq
    · rw[if_neg hb14]at hq ⊢
      try dsimp only[tNext]
      exact sv_ret (Er:=Er) (R:=sh isI) (ev_rI0 (ev_var (R:=sh isI) (a:=at_) (v:=.int at_) rfl) ev_int) (fun v11 W12 e13 h14=>hq v11 W12 (E0.trans e13) h14)
theorem Z7b {f:Addr} {fd:FuncData} (F:Fun K "read_body" "read_body" (tp 28) f fd) {Z0o:Tx→Int→Int→Res ((List Dat)×Int)} {Z1k:Tx→Int→Tx→Res Int} {n:Nat} {Z06 Z0f Z08 Z0d Z0e Z09 Z0a Z0b Z03 Z0g Z05 Z07 Z0h:Addr} (Z0R:CalR P w K mg base "read_program" ["text","at","deep"] (n) (spX3 isS isI isI [Z06,Z0f,Z08,Z0d,Z0e,Z09,Z0a,Z0b,Z03,Z0g,Z05,Z07,Z0h] (rs (isT2 K (isL (isU K)) isI)) Z0o)) (Z3C:CalR P w K mg base "behind" ["text","at","sign"] (1) (spX3 isS isI isS [Z06,Z0f,Z08,Z0d,Z0e,Z09,Z0a,Z0b,Z03,Z0g,Z05,Z07,Z0h] (rs isI) Z1k)):FnOk P w K mg base (CXR P w) (n+2) f fd ["text","at","brackets","deep"] (spX4 isS isI isS isI [Z06,Z0f,Z08,Z0d,Z0e,Z09,Z0a,Z0b,Z03,Z0g,Z05,Z07,Z0h] (rs (isT2 K (isL (isU K)) isI)) (Z2O Z0o Z1k)):=by
  have SC:FnScope ["text","at","brackets","deep","opening","closing","body","end"] ["text","at","brackets","deep"] (defScope (tp 28)):=⟨rfl,rfl,rfl,by decide +kernel,rfl,by decide +kernel,by decide +kernel⟩
  refine F.okR SC (fun vs H Q E h=>?_) (fun cdv A outer s H vs Q E hr h=>?_)
  · obtain⟨_,_,_,_,_,_,_,_,_,_,rfl,_⟩:=h;rfl
  · obtain⟨W0,text,at_,brackets,deep,_,_,_,_,rfl,rfl,Z1b,z_at_,Zdw,Z6k,Er,hEr,hq⟩:=h
    cases Z1b
    cases z_at_
    cases Zdw
    cases Z6k
    refine⟨_,(pss_cons (ps_asg (pv 2) (pg_str rfl (pgs_cons (pg_name (i:=4) SC.nd rfl (by first | exact Or.inl rfl | exact Or.inr rfl)) (pgs_cons (pg_name (i:=5) SC.nd rfl (by first | exact Or.inl rfl | exact Or.inr rfl)) pgs_nil))))
      (pss_cons (ps_asg (pe_calR Z0R passR (hr.mono (by omega)) (by rfl) (pa_cons (pv 0) (pa_cons (pe_calR Z3C passR (hr.mono (by omega)) (by rfl) (pa_cons (pv 0) (pa_cons (pv 1) (pa_cons (pv 4) pa_nil)))) (pa_cons (pe_op op_add (pv 3) pe_int) pa_nil)))) (pg_tupK (K:=K) (n:=2) rfl rfl (pgs_cons (pg_name (i:=6) SC.nd rfl (by first | exact Or.inl rfl | exact Or.inr rfl)) (pgs_cons (pg_name (i:=7) SC.nd rfl (by first | exact Or.inl rfl | exact Or.inr rfl)) pgs_nil))))
      (pss_one (ps_ret (pe_tup (pa_cons (pv 6) (pa_cons (pe_calR Z3C passR (hr.mono (by omega)) (by rfl) (pa_cons (pv 0) (pa_cons (pv 7) (pa_cons (pv 5) pa_nil)))) pa_nil))))))),?_⟩
    have E0:Ext W0 W0:=.refl W0
    rw[show L2.start ["text","at","brackets","deep","opening","closing","body","end"] [.str (sOf text),.int at_,.str (sOf brackets),.int deep]=[some (.str (sOf text)),some (.int at_),some (.str (sOf brackets)),some (.int deep),none,none,none,none]from rfl]
    unfold Z2O at hq
    refine sv_two_s (Er:=Er) (i:=4) (j:=5) (σ':=fun a b=>[some (.str (sOf text)),some (.int at_),some (.str (sOf brackets)),some (.int deep),some (.str (sOf a)),some (.str (sOf b)),none,none]) (ev_var (R:=sh isS) (a:=brackets) (v:=.str (sOf brackets)) rfl) (Res.OkE.imp (Res.okE_bind hq) fun y1 hq W2 e3=>?_)
    have E0:=E0.trans e3
    refine sv_unp_s (Er:=Er) (R:=sh (isT2 K (isL (isU K)) isI)) (ev_callX3 (hEr.mono E0) (ev_var (R:=sh isS) (a:=text) (v:=.str (sOf text)) rfl) (ev_callX3 (hEr.mono E0) (ev_var (R:=sh isS) (a:=text) (v:=.str (sOf text)) rfl) (ev_var (R:=sh isI) (a:=at_) (v:=.int at_) rfl) (ev_var (R:=sh isS) (a:=y1.1) (v:=.str (sOf y1.1)) rfl)) (ev_rI0 (ev_var (R:=sh isI) (a:=deep) (v:=.int deep) rfl) ev_int)) ((Res.okE_bind hq).imp fun y5 hq v6 W7 e8 h9=>?_)
    have E0:=E0.trans e8
    refine gt2n (σ':=fun v10 v12=>[some (.str (sOf text)),some (.int at_),some (.str (sOf brackets)),some (.int deep),some (.str (sOf y1.1)),some (.str (sOf y1.2)),some v10,some v12]) h9 fun v10 v12 h11 h13=>?_
    cases h13
    exact sv_ret (Er:=Er) (R:=sh (isT2 K (isL (isU K)) isI)) (ev_tup2 (K:=K) (ev_var (R:=sh (isL (isU K))) h11) (ev_callX3 (hEr.mono E0) (ev_var (R:=sh isS) (a:=text) (v:=.str (sOf text)) rfl) (ev_var (R:=sh isI) (a:=y5.2) (v:=.int y5.2) rfl) (ev_var (R:=sh isS) (a:=y1.2) (v:=.str (sOf y1.2)) rfl))) (Res.OkE.imp hq fun y15 hq v16 W17 e18 h19=>hq v16 W17 (E0.trans e18) h19)
theorem Z91 {f:Addr} {fd:FuncData} (F:Fun K "read_number" "read_number" (tp 27) f fd) {Z0y:Tx→Int→Tx→Res Int} {Z06 Z0f Z08 Z0d Z0e Z09 Z0a Z0b Z03 Z0g Z05 Z07 Z0h:Addr} (Z29:Cal P w K mg base "run_end" ["text","at","signs"] (1) (spM3 isS isI isS (rs isI) Z0y)) (h_int:mg "int" =none) (h_len:mg "len" =none) (h_str:mg "str" =none) {Z3D:Tok} (Z25:mg "DIGITS" =some (.str (Str.ofString "0123456789") Z3D)) {Z38:Tok} (Z39:mg "MOST_DIGITS" =some (.int 2 Z38)) (Z0v:mg "BadText" =some (.ref Z08)) (Z0H:Ecl base Z08):FnOk P w K mg base (CXR P w) (2) f fd ["text","at"] (spX2 isS isI [Z06,Z0f,Z08,Z0d,Z0e,Z09,Z0a,Z0b,Z03,Z0g,Z05,Z07,Z0h] (rs (isT2 K isI isI)) (Z1W Z0y)):=by
  have SC:FnScope ["text","at","end","digits"] ["text","at"] (defScope (tp 27)):=⟨rfl,rfl,rfl,by decide +kernel,rfl,by decide +kernel,by decide +kernel⟩
  refine F.okR SC (fun vs H Q E h=>?_) (fun cdv A outer s H vs Q E hr h=>?_)
  · obtain⟨_,_,_,_,_,_,rfl,_⟩:=h;rfl
  · obtain⟨W0,text,at_,_,_,rfl,rfl,Z1b,z_at_,Er,hEr,hq⟩:=h
    cases Z1b
    cases z_at_
    refine⟨_,(pss_cons (ps_set (i:=2) SC.nd rfl (by first | exact Or.inl rfl | exact Or.inr rfl) (pe_cal Z29 (hr.mono (by decide)) (by rfl) (pa_cons (pv 0) (pa_cons (pv 1) (pa_cons (pe_glob (v:=.str (Str.ofString "0123456789")) (by rfl) Z25 ⟨_,rfl⟩) pa_nil)))))
      (pss_cons (ps_set (i:=3) SC.nd rfl (by first | exact Or.inl rfl | exact Or.inr rfl) (pe_slice sl_str (pv 0) (po_some (pv 1)) (po_some (pv 2))))
      (pss_cons (ps_if (PW.pt (pw_or (pt_cmpR op_gt (pe_callB (call_lenK (K:=K) rfl) (by rfl) h_len PySem.boot_len (pa_cons (pv 3) pa_nil)) (pe_glob (v:=.int 2) (by rfl) Z39 ⟨_,rfl⟩) (nomark _)) (pw_or1 (pt_cmpR op_ne (pv 3) (pe_callTy call_str_int (by rfl) h_str PyProof.Rows.boot_str (pa_cons (pe_callTy call_intW (by rfl) h_int PyProof.Rows.boot_int (pa_cons (pv 3) pa_nil)) pa_nil)) (nomark _))))) (pss_one (ps_raise Z0H (by rfl) Z0v (pa_cons (pe_joined (pj_str (pj_val (pv 1) pj_nil))) pa_nil))) pss_nil)
      (pss_one (ps_ret (pe_tup (pa_cons (pe_callTy call_intW (by rfl) h_int PyProof.Rows.boot_int (pa_cons (pv 3) pa_nil)) (pa_cons (pv 2) pa_nil)))))))),?_⟩
    have E0:Ext W0 W0:=.refl W0
    rw[show L2.start ["text","at","end","digits"] [.str (sOf text),.int at_]=[some (.str (sOf text)),some (.int at_),none,none]from rfl]
    unfold Z1W at hq
    refine sv_asg_s (Er:=Er) (i:=2) (R:=sh isI) (σ':=fun v4=>[some (.str (sOf text)),some (.int at_),some v4,none]) (ev_call3 (ev_var (R:=sh isS) (a:=text) (v:=.str (sOf text)) rfl) (ev_var (R:=sh isI) (a:=at_) (v:=.int at_) rfl) (ev_str (x:=Str.ofString "0123456789") (l:=[48,49,50,51,52,53,54,55,56,57]) (ofS _ _ (by decide +kernel)))) ((Res.okE_bind hq).imp fun y3 hq v4 W1 e2 h5=>?_)
    cases h5
    have E0:=E0.trans e2
    refine sv_asg_s (Er:=Er) (i:=3) (R:=sh isS) (σ':=fun v9=>[some (.str (sOf text)),some (.int at_),some (.int y3),some v9]) (ev_cutS (ev_var (R:=sh isS) (a:=text) (v:=.str (sOf text)) rfl) (po_at (ev_var (R:=sh isI) (a:=at_) (v:=.int at_) rfl)) (po_at (ev_var (R:=sh isI) (a:=y3) (v:=.int y3) rfl))) ((Res.okE_bind hq).imp fun y8 hq v9 W6 e7 h10=>?_)
    cases h10
    have E0:=E0.trans e7
    refine sv_if_s (Er:=Er) (tv_or (tv_test (ev_cmp (ev_lenS (ev_var (R:=sh isS) (a:=y8) (v:=.str (sOf y8)) rfl)) ev_int)) (tv_test (ev_neS (ev_var (R:=sh isS) (a:=y8) (v:=.str (sOf y8)) rfl) (ev_strI (ev_intW (ev_var (R:=sh isS) (a:=y8) (v:=.str (sOf y8)) rfl)))))) ((Res.okE_bind hq).imp fun y15 hq W16 e17=>?_)
    have E0:=E0.trans e17
    by_cases hb27:y15=true
    · rw[if_pos hb27]at hq ⊢
      exact sv_raise (Er:=Er) (j:=2) (hEr.mono E0) rfl (ev_joined (jv_str (x:=Str.ofString "a number from 0 to 99 is wanted at sign ") (l:=[97,32,110,117,109,98,101,114,32,102,114,111,109,32,48,32,116,111,32,57,57,32,105,115,32,119,97,110,116,101,100,32,97,116,32,115,105,103,110,32]) (ofS _ _ (by decide +kernel)) (jv_valI (ev_var (R:=sh isI) (a:=at_) (v:=.int at_) rfl) jv_nil))) hq
    · rw[if_neg hb27]at hq ⊢
      try dsimp only[tNext]
      exact sv_ret (Er:=Er) (R:=sh (isT2 K isI isI)) (ev_tup2 (K:=K) (ev_intW (ev_var (R:=sh isS) (a:=y8) (v:=.str (sOf y8)) rfl)) (ev_var (R:=sh isI) (a:=y3) (v:=.int y3) rfl)) (Res.OkE.imp hq fun y23 hq v24 W25 e26 h27=>hq v24 W25 (E0.trans e26) h27)
theorem Z3E {f:Addr} {fd:FuncData} (F:Fun K "read_statement" "read_statement" (tp 25) f fd) {Z0N:Tx→Int→Int→Res (Tx×Int)} {Z1Q:Tx→Int→Tx→Int→Res ((List Dat)×Int)} {Z0O:Tx→Int→Res (Int×Int)} {n:Nat} {Z06 Z0f Z08 Z0d Z0e Z09 Z0a Z0b Z03 Z0g Z05 Z07 Z0h:Addr} (Z1G:CalR P w K mg base "read_turns" ["text","at","most"] (2) (spX3 isS isI isI [Z06,Z0f,Z08,Z0d,Z0e,Z09,Z0a,Z0b,Z03,Z0g,Z05,Z07,Z0h] (rs (isT2 K isS isI)) Z0N)) (Z1B:CalR P w K mg base "read_body" ["text","at","brackets","deep"] (n+2) (spX4 isS isI isS isI [Z06,Z0f,Z08,Z0d,Z0e,Z09,Z0a,Z0b,Z03,Z0g,Z05,Z07,Z0h] (rs (isT2 K (isL (isU K)) isI)) Z1Q)) (Z1Y:CalR P w K mg base "read_number" ["text","at"] (2) (spX2 isS isI [Z06,Z0f,Z08,Z0d,Z0e,Z09,Z0a,Z0b,Z03,Z0g,Z05,Z07,Z0h] (rs (isT2 K isI isI)) Z0O)) {Z3D:Tok} (Z25:mg "DIGITS" =some (.str (Str.ofString "0123456789") Z3D)) {Z3F:Tok} (Z2g:mg "MOST_TURNS" =some (.int 8 Z3F)):FnOk P w K mg base (CXR P w) (n+3) f fd ["text","at","deep"] (spX3 isS isI isI [Z06,Z0f,Z08,Z0d,Z0e,Z09,Z0a,Z0b,Z03,Z0g,Z05,Z07,Z0h] (rs (isT2 K (isU K) isI)) (Z1w Z0N Z1Q Z0O)):=by
  have SC:FnScope ["text","at","deep","sign","turns","end","body","many"] ["text","at","deep"] (defScope (tp 25)):=⟨rfl,rfl,rfl,by decide +kernel,rfl,by decide +kernel,by decide +kernel⟩
  refine F.okR SC (fun vs H Q E h=>?_) (fun cdv A outer s H vs Q E hr h=>?_)
  · obtain⟨_,_,_,_,_,_,_,_,rfl,_⟩:=h;rfl
  · obtain⟨W0,text,at_,deep,_,_,_,rfl,rfl,Z1b,z_at_,Z6k,Er,hEr,hq⟩:=h
    cases Z1b
    cases z_at_
    cases Z6k
    refine⟨_,(pss_cons (ps_set (i:=3) SC.nd rfl (by first | exact Or.inl rfl | exact Or.inr rfl) (pe_slice sl_str (pv 0) (po_some (pv 1)) (po_some (pe_op op_add (pv 1) pe_int))))
      (pss_cons (ps_if (pt_cmpR op_eq (pv 3) pe_str (nomark _)) (pss_cons (ps_asg (pe_calR Z1G passR (hr.mono (by omega)) (by rfl) (pa_cons (pv 0) (pa_cons (pe_op op_add (pv 1) pe_int) (pa_cons pe_int pa_nil)))) (pg_tupK (K:=K) (n:=2) rfl rfl (pgs_cons (pg_name (i:=4) SC.nd rfl (by first | exact Or.inl rfl | exact Or.inr rfl)) (pgs_cons (pg_name (i:=5) SC.nd rfl (by first | exact Or.inl rfl | exact Or.inr rfl)) pgs_nil))))
      (pss_one (ps_ret (pe_tup (pa_cons (pe_tup (pa_cons pe_str (pa_cons (pv 4) pa_nil))) (pa_cons (pv 5) pa_nil)))))) pss_nil)
      (pss_cons (ps_if (pt_cmpR op_eq (pv 3) pe_str (nomark _)) (pss_cons (ps_asg (pe_calR Z1B passR (hr.mono (by omega)) (by rfl) (pa_cons (pv 0) (pa_cons (pv 1) (pa_cons pe_str (pa_cons (pv 2) pa_nil))))) (pg_tupK (K:=K) (n:=2) rfl rfl (pgs_cons (pg_name (i:=6) SC.nd rfl (by first | exact Or.inl rfl | exact Or.inr rfl)) (pgs_cons (pg_name (i:=5) SC.nd rfl (by first | exact Or.inl rfl | exact Or.inr rfl)) pgs_nil))))
      (pss_one (ps_ret (pe_tup (pa_cons (pe_tup (pa_cons pe_str (pa_cons (pv 6) pa_nil))) (pa_cons (pv 5) pa_nil)))))) pss_nil)
      (pss_cons (ps_if (PW.pt (pw_and (pt_cmpR op_ne (pv 3) pe_str (nomark _)) (pw_and1 (pt_cmpR op_in_str (pv 3) (pe_glob (v:=.str (Str.ofString "0123456789")) (by rfl) Z25 ⟨_,rfl⟩) (by with_unfolding_all rfl))))) (pss_cons (ps_asg (pe_calR Z1Y passR (hr.mono (by omega)) (by rfl) (pa_cons (pv 0) (pa_cons (pv 1) pa_nil))) (pg_tupK (K:=K) (n:=2) rfl rfl (pgs_cons (pg_name (i:=7) SC.nd rfl (by first | exact Or.inl rfl | exact Or.inr rfl)) (pgs_cons (pg_name (i:=5) SC.nd rfl (by first | exact Or.inl rfl | exact Or.inr rfl)) pgs_nil))))
      (pss_cons (ps_asg (pe_calR Z1B passR (hr.mono (by omega)) (by rfl) (pa_cons (pv 0) (pa_cons (pv 5) (pa_cons pe_str (pa_cons (pv 2) pa_nil))))) (pg_tupK (K:=K) (n:=2) rfl rfl (pgs_cons (pg_name (i:=6) SC.nd rfl (by first | exact Or.inl rfl | exact Or.inr rfl)) (pgs_cons (pg_name (i:=5) SC.nd rfl (by first | exact Or.inl rfl | exact Or.inr rfl)) pgs_nil))))
      (pss_one (ps_ret (pe_tup (pa_cons (pe_tup (pa_cons pe_str (pa_cons (pv 7) (pa_cons (pv 6) pa_nil)))) (pa_cons (pv 5) pa_nil))))))) pss_nil)
      (pss_cons (ps_asg (pe_calR Z1G passR (hr.mono (by omega)) (by rfl) (pa_cons (pv 0) (pa_cons (pv 1) (pa_cons (pe_glob (v:=.int 8) (by rfl) Z2g ⟨_,rfl⟩) pa_nil)))) (pg_tupK (K:=K) (n:=2) rfl rfl (pgs_cons (pg_name (i:=4) SC.nd rfl (by first | exact Or.inl rfl | exact Or.inr rfl)) (pgs_cons (pg_name (i:=5) SC.nd rfl (by first | exact Or.inl rfl | exact Or.inr rfl)) pgs_nil))))
      (pss_one (ps_ret (pe_tup (pa_cons (pe_tup (pa_cons pe_str (pa_cons (pv 4) pa_nil))) (pa_cons (pv 5) pa_nil)))))))))),?_⟩
    have E0:Ext W0 W0:=.refl W0
    rw[show L2.start ["text","at","deep","sign","turns","end","body","many"] [.str (sOf text),.int at_,.int deep]=[some (.str (sOf text)),some (.int at_),some (.int deep),none,none,none,none,none]from rfl]
    unfold Z1w at hq
    refine sv_asg_s (Er:=Er) (i:=3) (R:=sh isS) (σ':=fun v4=>[some (.str (sOf text)),some (.int at_),some (.int deep),some v4,none,none,none,none]) (ev_cutS (ev_var (R:=sh isS) (a:=text) (v:=.str (sOf text)) rfl) (po_at (ev_var (R:=sh isI) (a:=at_) (v:=.int at_) rfl)) (po_at (ev_rI0 (ev_var (R:=sh isI) (a:=at_) (v:=.int at_) rfl) ev_int))) ((Res.okE_bind hq).imp fun y3 hq v4 W1 e2 h5=>?_)
    cases h5
    have E0:=E0.trans e2
    refine sv_if_s (Er:=Er) (tv_test (ev_eqS (ev_var (R:=sh isS) (a:=y3) (v:=.str (sOf y3)) rfl) (ev_str (x:=Str.ofString "*") (l:=[42]) (ofS _ _ (by decide +kernel))))) (fun W6 e7=>?_)
    have E0:=E0.trans e7
    by_cases hb73:(decide (y3=([42]:Tx)))=true
    · rw[if_pos hb73]at hq ⊢
      refine sv_unp_s (Er:=Er) (R:=sh (isT2 K isS isI)) (ev_callX3 (hEr.mono E0) (ev_var (R:=sh isS) (a:=text) (v:=.str (sOf text)) rfl) (ev_rI0 (ev_var (R:=sh isI) (a:=at_) (v:=.int at_) rfl) ev_int) ev_int) ((Res.okE_bind hq).imp fun y8 hq v9 W10 e11 h12=>?_)
      have E0:=E0.trans e11
      refine gt2n (σ':=fun v13 v15=>[some (.str (sOf text)),some (.int at_),some (.int deep),some (.str (sOf y3)),some v13,some v15,none,none]) h12 fun v13 v15 h14 h16=>?_
      cases h14
      cases h16
      exact sv_ret (Er:=Er) (R:=sh (isT2 K (isU K) isI)) (ev_tup2 (K:=K) (ev_toU (K:=K) (toU_2 toU_s toU_s) (ev_tup2 (K:=K) (ev_str (x:=Str.ofString "all") (l:=[97,108,108]) (ofS _ _ (by decide +kernel))) (ev_var (R:=sh isS) (a:=y8.1) (v:=.str (sOf y8.1)) rfl))) (ev_var (R:=sh isI) (a:=y8.2) (v:=.int y8.2) rfl)) (fun v17 W18 e19 h20=>hq v17 W18 (E0.trans e19) h20)
    · rw[if_neg hb73]at hq ⊢
      try dsimp only[tNext]
      refine sv_if_s (Er:=Er) (tv_test (ev_eqS (ev_var (R:=sh isS) (a:=y3) (v:=.str (sOf y3)) rfl) (ev_str (x:=Str.ofString "<") (l:=[60]) (ofS _ _ (by decide +kernel))))) (fun W21 e22=>?_)
      have E0:=E0.trans e22
      by_cases hb73:(decide (y3=([60]:Tx)))=true
      · rw[if_pos hb73]at hq ⊢
        refine sv_unp_s (Er:=Er) (R:=sh (isT2 K (isL (isU K)) isI)) (ev_callX4 (hEr.mono E0) (ev_var (R:=sh isS) (a:=text) (v:=.str (sOf text)) rfl) (ev_var (R:=sh isI) (a:=at_) (v:=.int at_) rfl) (ev_str (x:=Str.ofString "<>") (l:=[60,62]) (ofS _ _ (by decide +kernel))) (ev_var (R:=sh isI) (a:=deep) (v:=.int deep) rfl)) ((Res.okE_bind hq).imp fun y23 hq v24 W25 e26 h27=>?_)
        have E0:=E0.trans e26
        refine gt2n (σ':=fun v28 v30=>[some (.str (sOf text)),some (.int at_),some (.int deep),some (.str (sOf y3)),none,some v30,some v28,none]) h27 fun v28 v30 h29 h31=>?_
        cases h31
        exact sv_ret (Er:=Er) (R:=sh (isT2 K (isU K) isI)) (ev_tup2 (K:=K) (ev_toU (K:=K) (u:=fun(z:Tx×(List Dat))=>Dat.t [Dat.s z.1,Dat.l (z.2.map fun(z:Dat)=>z)]) (toU_2 toU_s (toU_l (u:=fun(z:Dat)=>z) toU_u)) (ev_tup2 (K:=K) (ev_str (x:=Str.ofString "mirror") (l:=[109,105,114,114,111,114]) (ofS _ _ (by decide +kernel))) (ev_var (R:=sh (isL (isU K))) h29))) (ev_var (R:=sh isI) (a:=y23.2) (v:=.int y23.2) rfl)) (fun v32 W33 e34 h35=>hq v32 W33 (E0.trans e34) h35)
      · rw[if_neg hb73]at hq ⊢
        try dsimp only[tNext]
        refine sv_if_s (Er:=Er) (tv_and (tv_test (ev_neS (ev_var (R:=sh isS) (a:=y3) (v:=.str (sOf y3)) rfl) (ev_str (x:=Str.ofString "") (l:=[]) (ofS _ _ (by decide +kernel))))) (tv_test (ev_inS (ev_var (R:=sh isS) (a:=y3) (v:=.str (sOf y3)) rfl) (ev_str (x:=Str.ofString "0123456789") (l:=[48,49,50,51,52,53,54,55,56,57]) (ofS _ _ (by decide +kernel)))))) ((Res.okE_bind hq).imp fun y36 hq W37 e38=>?_)
        have E0:=E0.trans e38
        by_cases hb73:y36=true
        · rw[if_pos hb73]at hq ⊢
          refine sv_unp_s (Er:=Er) (R:=sh (isT2 K isI isI)) (ev_callX2 (hEr.mono E0) (ev_var (R:=sh isS) (a:=text) (v:=.str (sOf text)) rfl) (ev_var (R:=sh isI) (a:=at_) (v:=.int at_) rfl)) ((Res.okE_bind hq).imp fun y39 hq v40 W41 e42 h43=>?_)
          have E0:=E0.trans e42
          refine gt2n (σ':=fun v44 v46=>[some (.str (sOf text)),some (.int at_),some (.int deep),some (.str (sOf y3)),none,some v46,none,some v44]) h43 fun v44 v46 h45 h47=>?_
          cases h45
          cases h47
          refine sv_unp_s (Er:=Er) (R:=sh (isT2 K (isL (isU K)) isI)) (ev_callX4 (hEr.mono E0) (ev_var (R:=sh isS) (a:=text) (v:=.str (sOf text)) rfl) (ev_var (R:=sh isI) (a:=y39.2) (v:=.int y39.2) rfl) (ev_str (x:=Str.ofString "()") (l:=[40,41]) (ofS _ _ (by decide +kernel))) (ev_var (R:=sh isI) (a:=deep) (v:=.int deep) rfl)) ((Res.okE_bind hq).imp fun y48 hq v49 W50 e51 h52=>?_)
          have E0:=E0.trans e51
          refine gt2n (σ':=fun v53 v55=>[some (.str (sOf text)),some (.int at_),some (.int deep),some (.str (sOf y3)),none,some v55,some v53,some (.int y39.1)]) h52 fun v53 v55 h54 h56=>?_
          cases h56
          exact sv_ret (Er:=Er) (R:=sh (isT2 K (isU K) isI)) (ev_tup2 (K:=K) (ev_toU (K:=K) (u:=fun(z:Tx×Int×(List Dat))=>Dat.t [Dat.s z.1,Dat.i z.2.1,Dat.l (z.2.2.map fun(z:Dat)=>z)]) (toU_3 toU_s toU_i (toU_l (u:=fun(z:Dat)=>z) toU_u)) (ev_tup3 (K:=K) (ev_str (x:=Str.ofString "times") (l:=[116,105,109,101,115]) (ofS _ _ (by decide +kernel))) (ev_var (R:=sh isI) (a:=y39.1) (v:=.int y39.1) rfl) (ev_var (R:=sh (isL (isU K))) h54))) (ev_var (R:=sh isI) (a:=y48.2) (v:=.int y48.2) rfl)) (fun v57 W58 e59 h60=>hq v57 W58 (E0.trans e59) h60)
        · rw[if_neg hb73]at hq ⊢
          try dsimp only[tNext]
          refine sv_unp_s (Er:=Er) (R:=sh (isT2 K isS isI)) (ev_callX3 (hEr.mono E0) (ev_var (R:=sh isS) (a:=text) (v:=.str (sOf text)) rfl) (ev_var (R:=sh isI) (a:=at_) (v:=.int at_) rfl) ev_int) ((Res.okE_bind hq).imp fun y61 hq v62 W63 e64 h65=>?_)
          have E0:=E0.trans e64
          refine gt2n (σ':=fun v66 v68=>[some (.str (sOf text)),some (.int at_),some (.int deep),some (.str (sOf y3)),some v66,some v68,none,none]) h65 fun v66 v68 h67 h69=>?_
          cases h67
          cases h69
          exact sv_ret (Er:=Er) (R:=sh (isT2 K (isU K) isI)) (ev_tup2 (K:=K) (ev_toU (K:=K) (toU_2 toU_s toU_s) (ev_tup2 (K:=K) (ev_str (x:=Str.ofString "row") (l:=[114,111,119]) (ofS _ _ (by decide +kernel))) (ev_var (R:=sh isS) (a:=y61.1) (v:=.str (sOf y61.1)) rfl))) (ev_var (R:=sh isI) (a:=y61.2) (v:=.int y61.2) rfl)) (fun v70 W71 e72 h73=>hq v70 W71 (E0.trans e72) h73)
theorem Z8c {f:Addr} {fd:FuncData} (F:Fun K "read_program" "read_program" (tp 24) f fd) {Z0F:Tx→Int→Int→Res (Dat×Int)} {n:Nat} {Z06 Z0f Z08 Z0d Z0e Z09 Z0a Z0b Z03 Z0g Z05 Z07 Z0h:Addr} (Z1c:CalR P w K mg base "read_statement" ["text","at","deep"] (n+3) (spX3 isS isI isI [Z06,Z0f,Z08,Z0d,Z0e,Z09,Z0a,Z0b,Z03,Z0g,Z05,Z07,Z0h] (rs (isT2 K (isU K) isI)) Z0F)) {Z4F:Tok} (Z4G:mg "MOST_DEEP" =some (.int 8 Z4F)) (Z0v:mg "BadText" =some (.ref Z08)) (Z0H:Ecl base Z08):FnOk P w K mg base (CXR P w) (n+4) f fd ["text","at","deep"] (spX3 isS isI isI [Z06,Z0f,Z08,Z0d,Z0e,Z09,Z0a,Z0b,Z03,Z0g,Z05,Z07,Z0h] (rs (isT2 K (isL (isU K)) isI)) (Z1q Z0F)):=by
  have SC:FnScope ["text","at","deep","statement","end","program"] ["text","at","deep"] (defScope (tp 24)):=⟨rfl,rfl,rfl,by decide +kernel,rfl,by decide +kernel,by decide +kernel⟩
  refine F.okR SC (fun vs H Q E h=>?_) (fun cdv A outer s H vs Q E hr h=>?_)
  · obtain⟨_,_,_,_,_,_,_,_,rfl,_⟩:=h;rfl
  · obtain⟨W0,text,at_,deep,_,_,_,rfl,rfl,Z1b,z_at_,Z6k,Er,hEr,hq⟩:=h
    cases Z1b
    cases z_at_
    cases Z6k
    refine⟨_,(pss_cons (ps_if (pt_cmpR op_gt (pv 2) (pe_glob (v:=.int 8) (by rfl) Z4G ⟨_,rfl⟩) (nomark _)) (pss_one (ps_raise Z0H (by rfl) Z0v (pa_cons pe_str pa_nil))) pss_nil)
      (pss_cons (ps_if (pt_cmpR (op_in_seqK (K:=K) rfl) (pe_slice sl_str (pv 0) (po_some (pv 1)) (po_some (pe_op op_add (pv 1) pe_int))) (pe_tup (pa_cons pe_str (pa_cons pe_str (pa_cons pe_str pa_nil)))) (by with_unfolding_all rfl)) (pss_one (ps_ret (pe_tup (pa_cons (pe_lst pa_nil) (pa_cons (pv 1) pa_nil))))) pss_nil)
      (pss_cons (ps_asg (pe_calR Z1c passR (hr.mono (by omega)) (by rfl) (pa_cons (pv 0) (pa_cons (pv 1) (pa_cons (pv 2) pa_nil)))) (pg_tupK (K:=K) (n:=2) rfl rfl (pgs_cons (pg_name (i:=3) SC.nd rfl (by first | exact Or.inl rfl | exact Or.inr rfl)) (pgs_cons (pg_name (i:=4) SC.nd rfl (by first | exact Or.inl rfl | exact Or.inr rfl)) pgs_nil))))
      (pss_cons (ps_set (i:=5) SC.nd rfl (by first | exact Or.inl rfl | exact Or.inr rfl) (pe_lst (pa_cons (pv 3) pa_nil)))
      (pss_cons (ps_while PassesOwn.leaving (pt_cmpR op_eq (pe_slice sl_str (pv 0) (po_some (pv 4)) (po_some (pe_op op_add (pv 4) pe_int))) pe_str (nomark _)) (pss_cons (ps_asg (pe_calR Z1c passR (hr.mono (by omega)) (by rfl) (pa_cons (pv 0) (pa_cons (pe_op op_add (pv 4) pe_int) (pa_cons (pv 2) pa_nil)))) (pg_tupK (K:=K) (n:=2) rfl rfl (pgs_cons (pg_name (i:=3) SC.nd rfl (by first | exact Or.inl rfl | exact Or.inr rfl)) (pgs_cons (pg_name (i:=4) SC.nd rfl (by first | exact Or.inl rfl | exact Or.inr rfl)) pgs_nil))))
      (pss_one (ps_expr (pe_append1 (K:=K) rfl (pv 5) (pa_cons (pv 3) pa_nil))))))
      (pss_one (ps_ret (pe_tup (pa_cons (pv 5) (pa_cons (pv 4) pa_nil)))))))))),?_⟩
    have E0:Ext W0 W0:=.refl W0
    rw[show L2.start ["text","at","deep","statement","end","program"] [.str (sOf text),.int at_,.int deep]=[some (.str (sOf text)),some (.int at_),some (.int deep),none,none,none]from rfl]
    unfold Z1q at hq
    refine sv_if_s (Er:=Er) (tv_test (ev_cmp (ev_var (R:=sh isI) (a:=deep) (v:=.int deep) rfl) ev_int)) (fun W1 e2=>?_)
    have E0:=E0.trans e2
    by_cases hb68:(decide ((8:Int)< deep))=true
    · rw[if_pos hb68]at hq ⊢
      exact sv_raise (Er:=Er) (j:=2) (hEr.mono E0) rfl (ev_str (x:=Str.ofString "at most eight programs lie within one another") (l:=[97,116,32,109,111,115,116,32,101,105,103,104,116,32,112,114,111,103,114,97,109,115,32,108,105,101,32,119,105,116,104,105,110,32,111,110,101,32,97,110,111,116,104,101,114]) (ofS _ _ (by decide +kernel))) hq
    · rw[if_neg hb68]at hq ⊢
      try dsimp only[tNext]
      refine sv_if_s (Er:=Er) (tv_test (ev_inT3 (ev_cutS (ev_var (R:=sh isS) (a:=text) (v:=.str (sOf text)) rfl) (po_at (ev_var (R:=sh isI) (a:=at_) (v:=.int at_) rfl)) (po_at (ev_rI0 (ev_var (R:=sh isI) (a:=at_) (v:=.int at_) rfl) ev_int))) (ev_tup3 (K:=K) (ev_str (x:=Str.ofString "") (l:=[]) (ofS _ _ (by decide +kernel))) (ev_str (x:=Str.ofString ")") (l:=[41]) (ofS _ _ (by decide +kernel))) (ev_str (x:=Str.ofString ">") (l:=[62]) (ofS _ _ (by decide +kernel)))))) ((Res.okE_bind hq).imp fun y4 hq W5 e6=>?_)
      have E0:=E0.trans e6
      by_cases hb68:y4=true
      · rw[if_pos hb68]at hq ⊢
        exact sv_ret (Er:=Er) (R:=sh (isT2 K (isL (isU K)) isI)) (ev_tup2 (K:=K) (EVo.ev (ev_lst0 (R:=(isU K)))) (ev_var (R:=sh isI) (a:=at_) (v:=.int at_) rfl)) (fun v7 W8 e9 h10=>hq v7 W8 (E0.trans e9) h10)
      · rw[if_neg hb68]at hq ⊢
        try dsimp only[tNext]
        refine sv_unp_s (Er:=Er) (R:=sh (isT2 K (isU K) isI)) (ev_callX3 (hEr.mono E0) (ev_var (R:=sh isS) (a:=text) (v:=.str (sOf text)) rfl) (ev_var (R:=sh isI) (a:=at_) (v:=.int at_) rfl) (ev_var (R:=sh isI) (a:=deep) (v:=.int deep) rfl)) ((Res.okE_bind hq).imp fun y11 hq v12 W13 e14 h15=>?_)
        have E0:=E0.trans e14
        refine gt2n (σ':=fun v16 v18=>[some (.str (sOf text)),some (.int at_),some (.int deep),some v16,some v18,none]) h15 fun v16 v18 h17 h19=>?_
        cases h19
        refine sv_asgO_s (Er:=Er) (i:=5) (σ':=fun p22=>[some (.str (sOf text)),some (.int at_),some (.int deep),some v16,some (.int y11.2),some (.ref p22)]) (ev_lst (av_cons (ev_var (R:=sh (isU K)) h17) (av_nil (R:=(isU K))))) (fun p22 W20 e21 hp23 o24=>?_)
        have fr25:=none_of E0.h hp23
        have E0:=E0.trans e21
        have h17:=Mono.mono (R:=(isU K)) e21.g h17
        refine sv_while_s (Er:=Er) (c:=(Z0U text)) (f:=(Z0V Z0F text deep)) (s0:=(y11.1,y11.2,[y11.1])) (n:=cap) (Iv:=fun(s28:(Dat×Int×(List Dat))) (W29:Wd) (g30:St)=>∃(v31:V),g30=[some (.str (sOf text)),some (.int at_),some (.int deep),some v31,some (.int s28.2.1),some (.ref p22)]∧Ext W0 W29∧(isU K) W29.G s28.1 v31∧Ow (isU K) W29 p22 s28.2.2) (Res.okE_bind hq) ?_ ?_ ?_ ?_ ?_
        · exact⟨_,rfl,E0,h17,o24⟩
        · intro W35 W36 s27 sg37 e41 iv
          obtain⟨v31,rfl,E0,h32,o33⟩:=iv
          have E0:=E0.trans e41
          have h32:=Mono.mono (R:=(isU K)) e41.g h32
          have o33:=o33.mono e41
          exact⟨_,rfl,E0,h32,o33⟩
        · intro W35 s27 sg37 hW39 iv
          obtain⟨v31,rfl,E0,h32,o33⟩:=iv
          unfold Z0U
          exact(tv_test (ev_eqS (ev_cutS (ev_var (R:=sh isS) (a:=text) (v:=.str (sOf text)) rfl) (po_at (ev_var (R:=sh isI) (a:=s27.2.1) (v:=.int s27.2.1) rfl)) (po_at (ev_rI0 (ev_var (R:=sh isI) (a:=s27.2.1) (v:=.int s27.2.1) rfl) ev_int))) (ev_str (x:=Str.ofString " ") (l:=[32]) (ofS _ _ (by decide +kernel)))))
        · intro Wb34 W35 s27 sg37 P38 hW39 hB40 iv hq
          obtain⟨v31,rfl,E0,h32,o33⟩:=iv
          unfold Z0V at hq
          refine sv_unp_s (Er:=Er) (R:=sh (isT2 K (isU K) isI)) (ev_callX3 (hEr.mono E0) (ev_var (R:=sh isS) (a:=text) (v:=.str (sOf text)) rfl) (ev_rI0 (ev_var (R:=sh isI) (a:=s27.2.1) (v:=.int s27.2.1) rfl) ev_int) (ev_var (R:=sh isI) (a:=deep) (v:=.int deep) rfl)) ((Res.okE_bind hq).imp fun y43 hq v44 W45 e46 h47=>?_)
          have E0:=E0.trans e46
          have hB40:=hB40.trans e46.g
          have o33:=o33.mono e46
          refine gt2n (σ':=fun v48 v50=>[some (.str (sOf text)),some (.int at_),some (.int deep),some v48,some v50,some (.ref p22)]) h47 fun v48 v50 h49 h51=>?_
          cases h51
          refine sv_app (Er:=Er) o33 (ev_var (R:=sh (isU K)) h49) ((Res.okE_bind hq).imp fun y55 hq W52 mu53 o54=>?_)
          have E0:=mu53.e _ E0 fr25
          have hB40:=hB40.trans mu53.g
          have h49:=Mono.mono (R:=(isU K)) mu53.g h49
          try dsimp only
          refine nxF_of (W:=W52) (y43.1,y43.2,y55) hB40 ?_ hq
          exact⟨_,rfl,E0,h49,o54⟩
        · intro s56 W57 sg58 hS59 iv hq
          obtain⟨v31,rfl,E0,h32,o33⟩:=iv
          obtain⟨W60,hH61,E0,hS62,h64,hk63⟩:=o33.frz E0 fr25
          rw[←hH61]
          exact sv_ret (Er:=Er) (R:=sh (isT2 K (isL (isU K)) isI)) (ev_tup2 (K:=K) (ev_var (R:=sh (isL (isU K))) h64) (ev_var (R:=sh isI) (a:=s56.2.1) (v:=.int s56.2.1) rfl)) (fun v65 W66 e67 h68=>hq v65 W66 (E0.trans e67) h68)
theorem Zgk {f:Addr} {fd:FuncData} (F:Fun K "read" "read" (tp 23) f fd) {Z0o:Tx→Int→Int→Res ((List Dat)×Int)} {Z06 Z0f Z08 Z0d Z0e Z09 Z0a Z0b Z03 Z0g Z05 Z07 Z0h:Addr} (Z0R:CalR P w K mg base "read_program" ["text","at","deep"] (80) (spX3 isS isI isI [Z06,Z0f,Z08,Z0d,Z0e,Z09,Z0a,Z0b,Z03,Z0g,Z05,Z07,Z0h] (rs (isT2 K (isL (isU K)) isI)) Z0o)) (h_len:mg "len" =none) (Z0v:mg "BadText" =some (.ref Z08)) (Z0H:Ecl base Z08):FnOk P w K mg base (CXR P w) (81) f fd ["text"] (spX1 isS [Z06,Z0f,Z08,Z0d,Z0e,Z09,Z0a,Z0b,Z03,Z0g,Z05,Z07,Z0h] (rs (isL (isU K))) (Z7H Z0o)):=by
  have SC:FnScope ["text","program","end"] ["text"] (defScope (tp 23)):=⟨rfl,rfl,rfl,by decide +kernel,rfl,by decide +kernel,by decide +kernel⟩
  refine F.okR SC (fun vs H Q E h=>?_) (fun cdv A outer s H vs Q E hr h=>?_)
  · obtain⟨_,_,_,_,rfl,_⟩:=h;rfl
  · obtain⟨W0,text,_,rfl,rfl,Z1b,Er,hEr,hq⟩:=h
    cases Z1b
    refine⟨_,(pss_cons (ps_asg (pe_calR Z0R passR (hr.mono (by decide)) (by rfl) (pa_cons (pv 0) (pa_cons pe_int (pa_cons pe_int pa_nil)))) (pg_tupK (K:=K) (n:=2) rfl rfl (pgs_cons (pg_name (i:=1) SC.nd rfl (by first | exact Or.inl rfl | exact Or.inr rfl)) (pgs_cons (pg_name (i:=2) SC.nd rfl (by first | exact Or.inl rfl | exact Or.inr rfl)) pgs_nil))))
      (pss_cons (ps_if (pt_cmpR op_ne (pv 2) (pe_callB (call_lenK (K:=K) rfl) (by rfl) h_len PySem.boot_len (pa_cons (pv 0) pa_nil)) (nomark _)) (pss_one (ps_raise Z0H (by rfl) Z0v (pa_cons (pe_joined (pj_str (pj_val (pv 2) pj_nil))) pa_nil))) pss_nil)
      (pss_one (ps_ret (pv 1))))),?_⟩
    have E0:Ext W0 W0:=.refl W0
    rw[show L2.start ["text","program","end"] [.str (sOf text)]=[some (.str (sOf text)),none,none]from rfl]
    unfold Z7H at hq
    refine sv_unp_s (Er:=Er) (R:=sh (isT2 K (isL (isU K)) isI)) (ev_callX3 (hEr.mono E0) (ev_var (R:=sh isS) (a:=text) (v:=.str (sOf text)) rfl) ev_int ev_int) ((Res.okE_bind hq).imp fun y1 hq v2 W3 e4 h5=>?_)
    have E0:=E0.trans e4
    refine gt2n (σ':=fun v6 v8=>[some (.str (sOf text)),some v6,some v8]) h5 fun v6 v8 h7 h9=>?_
    cases h9
    refine sv_if_s (Er:=Er) (tv_test (ev_neI (ev_var (R:=sh isI) (a:=y1.2) (v:=.int y1.2) rfl) (ev_lenS (ev_var (R:=sh isS) (a:=text) (v:=.str (sOf text)) rfl)))) ((Res.okE_bind hq).imp fun y11 hq W12 e13=>?_)
    have E0:=E0.trans e13
    have h7:=Mono.mono (R:=(isL (isU K))) e13.g h7
    by_cases hb21:y11=true
    · rw[if_pos hb21]at hq ⊢
      exact sv_raise (Er:=Er) (j:=2) (hEr.mono E0) rfl (ev_joined (jv_str (x:=Str.ofString "nothing written goes on so at sign ") (l:=[110,111,116,104,105,110,103,32,119,114,105,116,116,101,110,32,103,111,101,115,32,111,110,32,115,111,32,97,116,32,115,105,103,110,32]) (ofS _ _ (by decide +kernel)) (jv_valI (ev_var (R:=sh isI) (a:=y1.2) (v:=.int y1.2) rfl) jv_nil))) hq
    · rw[if_neg hb21]at hq ⊢
      try dsimp only[tNext]
      exact sv_ret (Er:=Er) (R:=sh (isL (isU K))) (ev_var (R:=sh (isL (isU K))) h7) (fun v18 W19 e20 h21=>hq v18 W19 (E0.trans e20) h21)
theorem ZeU {f:Addr} {fd:FuncData} (F:Fun K "_law_tried" "_law_tried" (tp 51) f fd) {Z2e:Tx→Res (List Dat)} {Z06 Z0f Z08 Z0d Z0e Z09 Z0a Z0b Z03 Z0g Z05 Z07 Z0h Z0c:Addr} (Zaw:CalR P w K mg base "read" ["text"] (81) (spX1 isS [Z06,Z0f,Z08,Z0d,Z0e,Z09,Z0a,Z0b,Z03,Z0g,Z05,Z07,Z0h] (rs (isL (isU K))) Z2e)) (Z:Kin K base [Z06,Z0f,Z08,Z0d,Z0e,Z09,Z0a,Z0b,Z03,Z0g,Z05,Z07,Z0h] Z0c) (Z1A:mg "BandError" =some (.ref Z0c)) (Z3G:CalH P w K mg base "_law_kinds" ["_law_e"] 1 (spKinds K [Z06,Z0f,Z08,Z0d,Z0e,Z09,Z0a,Z0b,Z03,Z0g,Z05,Z07,Z0h] Z0c)):FnOk P w K mg base CX0 (82) f fd ["_law_text"] (spM1 isS (rs (isU K)) (Z4s Z2e)):=by
  have SC:FnScope ["_law_text","_law_found","_law_e"] ["_law_text"] (defScope (tp 51)):=⟨rfl,rfl,rfl,by decide +kernel,rfl,by decide +kernel,by decide +kernel⟩
  obtain⟨bmB,XB⟩:=Z.top
  refine F.ok SC (fun vs H Q E h=>?_) (fun cdv A outer s H vs Q E hr h=>?_)
  · obtain⟨_,_,_,_,rfl,_⟩:=h;rfl
  · obtain⟨W0,Z00,_,rfl,rfl,Z1y,Er,hq⟩:=h
    cases Z1y
    refine⟨_,(pss_cons (ps_try (i:=2) (E:=EX K [Z06,Z0f,Z08,Z0d,Z0e,Z09,Z0a,Z0b,Z03,Z0g,Z05,Z07,Z0h] [114,101,102,117,115,101,100] W0 Q) ⟨rfl,rfl⟩ (fun _=>(pss_one (ps_set (i:=1) SC.nd rfl (by first | exact Or.inl rfl | exact Or.inr rfl) (pe_calR Zaw passC (hr.mono (by decide)) (by rfl) (pa_cons (pv 0) pa_nil))))) (by rfl) Z1A XB (EX.cl Z) SC.nd rfl rfl (fun x C oe hh=>(pss_one (ps_ret (pe_tup (pa_cons pe_str (pa_cons (pe_calH Z3G hh ((hr.mono (by decide)).h _) rfl (List.mem_cons_self ..) (by rfl) (pa_cons (pv 2) pa_nil)) pa_nil)))))))
      (pss_one (ps_ret (pe_tup (pa_cons pe_str (pa_cons (pv 1) pa_nil)))))),?_⟩
    have E0:Ext W0 W0:=.refl W0
    rw[show L2.start ["_law_text","_law_found","_law_e"] [.str (sOf Z00)]=[some (.str (sOf Z00)),none,none]from rfl]
    unfold Z4s at hq
    refine sv_tryA (Er:=Er) (K:=K) (base:=base) (R:=(isL (isU K))) (s:=[114,101,102,117,115,101,100]) (i:=1) (σ':=fun v5=>[some (.str (sOf Z00)),some v5,none]) E0 Z (ofS _ _ (by decide +kernel)) rfl (fun Er hE1=>(ev_callX1 hE1 (ev_var (R:=sh isS) (a:=Z00) (v:=.str (sOf Z00)) rfl))) ((Res.okE_bind hq).imp fun r2 hq=>?_)
    cases r2 with
    | inr j4=>exact hq
    | inl y3 =>
      intro v5 W6 e7 h8
      have E0:=E0.trans e7
      exact sv_ret (Er:=Er) (R:=sh (isU K)) (ev_toU (K:=K) (u:=fun(z:Tx×(List Dat))=>Dat.t [Dat.s z.1,Dat.l (z.2.map fun(z:Dat)=>z)]) (toU_2 toU_s (toU_l (u:=fun(z:Dat)=>z) toU_u)) (ev_tup2 (K:=K) (ev_str (x:=Str.ofString "read") (l:=[114,101,97,100]) (ofS _ _ (by decide +kernel))) (ev_var (R:=sh (isL (isU K))) h8))) (fun v9 W10 e11 h12=>hq v9 W10 (E0.trans e11) h12)
theorem Z2B {f:Addr} {fd:FuncData} (F:Fun K "written_statement" "written_statement" (tp 22) f fd) {Z0G:(List Dat)→Res Tx} {n:Nat} (Z1j:Cal P w K mg base "written" ["program"] (n) (spM1 (isL (isU K)) (rs isS) Z0G)):FnOk P w K mg base CX0 (n+1) f fd ["statement"] (spM1 (isU K) (rs isS) (Z1f Z0G)):=by
  have SC:FnScope ["statement"] ["statement"] (defScope (tp 22)):=⟨rfl,rfl,rfl,by decide +kernel,rfl,by decide +kernel,by decide +kernel⟩
  refine F.ok SC (fun vs H Q E h=>?_) (fun cdv A outer s H vs Q E hr h=>?_)
  · obtain⟨_,_,_,_,rfl,_⟩:=h;rfl
  · obtain⟨W0,statement,Z7c,rfl,rfl,Z0w,Er,hq⟩:=h
    refine⟨_,(pss_cons (ps_if (pt_cmpR op_eq (pe_ix (ix_tupK (K:=K) rfl) (pv 0) pe_int (fun _ _=>rfl)) pe_str (nomark _)) (pss_one (ps_ret (pe_ix (ix_tupK (K:=K) rfl) (pv 0) pe_int (fun _ _=>rfl)))) pss_nil)
      (pss_cons (ps_if (pt_cmpR op_eq (pe_ix (ix_tupK (K:=K) rfl) (pv 0) pe_int (fun _ _=>rfl)) pe_str (nomark _)) (pss_one (ps_ret (pe_op op_add_str pe_str (pe_ix (ix_tupK (K:=K) rfl) (pv 0) pe_int (fun _ _=>rfl))))) pss_nil)
      (pss_cons (ps_if (pt_cmpR op_eq (pe_ix (ix_tupK (K:=K) rfl) (pv 0) pe_int (fun _ _=>rfl)) pe_str (nomark _)) (pss_one (ps_ret (pe_joined (pj_val (pe_ix (ix_tupK (K:=K) rfl) (pv 0) pe_int (fun _ _=>rfl)) (pj_str (pj_val (pe_cal Z1j (hr.mono (by omega)) (by rfl) (pa_cons (pe_ix (ix_tupK (K:=K) rfl) (pv 0) pe_int (fun _ _=>rfl)) pa_nil)) (pj_str pj_nil))))))) pss_nil)
      (pss_one (ps_ret (pe_joined (pj_str (pj_val (pe_cal Z1j (hr.mono (by omega)) (by rfl) (pa_cons (pe_ix (ix_tupK (K:=K) rfl) (pv 0) pe_int (fun _ _=>rfl)) pa_nil)) (pj_str pj_nil))))))))),?_⟩
    have E0:Ext W0 W0:=.refl W0
    rw[show L2.start ["statement"] [Z7c]=[some Z7c]from rfl]
    unfold Z1f at hq
    refine sv_if_s (Er:=Er) (tv_test (ev_eqS (ev_ofU (K:=K) ofU_s (ev_ixU (ev_var (R:=sh (isU K)) Z0w) ev_int)) (ev_str (x:=Str.ofString "row") (l:=[114,111,119]) (ofS _ _ (by decide +kernel))))) ((Res.okE_bind hq).imp fun y3 hq W4 e5=>?_)
    have E0:=E0.trans e5
    have Z0w:=Mono.mono (R:=(isU K)) e5.g Z0w
    by_cases hb56:y3=true
    · rw[if_pos hb56]at hq ⊢
      exact sv_ret (Er:=Er) (R:=sh isS) (ev_ofU (K:=K) ofU_s (ev_ixU (ev_var (R:=sh (isU K)) Z0w) ev_int)) (Res.OkE.imp hq fun y7 hq v8 W9 e10 h11=>hq v8 W9 (E0.trans e10) h11)
    · rw[if_neg hb56]at hq ⊢
      try dsimp only[tNext]
      refine sv_if_s (Er:=Er) (tv_test (ev_eqS (ev_ofU (K:=K) ofU_s (ev_ixU (ev_var (R:=sh (isU K)) Z0w) ev_int)) (ev_str (x:=Str.ofString "all") (l:=[97,108,108]) (ofS _ _ (by decide +kernel))))) ((Res.okE_bind hq).imp fun y14 hq W15 e16=>?_)
      have E0:=E0.trans e16
      have Z0w:=Mono.mono (R:=(isU K)) e16.g Z0w
      by_cases hb56:y14=true
      · rw[if_pos hb56]at hq ⊢
        exact sv_ret (Er:=Er) (R:=sh isS) (ev_catS (ev_str (x:=Str.ofString "*") (l:=[42]) (ofS _ _ (by decide +kernel))) (ev_ofU (K:=K) ofU_s (ev_ixU (ev_var (R:=sh (isU K)) Z0w) ev_int))) (Res.OkE.imp hq fun y19 hq v20 W21 e22 h23=>hq v20 W21 (E0.trans e22) h23)
      · rw[if_neg hb56]at hq ⊢
        try dsimp only[tNext]
        refine sv_if_s (Er:=Er) (tv_test (ev_eqS (ev_ofU (K:=K) ofU_s (ev_ixU (ev_var (R:=sh (isU K)) Z0w) ev_int)) (ev_str (x:=Str.ofString "times") (l:=[116,105,109,101,115]) (ofS _ _ (by decide +kernel))))) ((Res.okE_bind hq).imp fun y26 hq W27 e28=>?_)
        have E0:=E0.trans e28
        have Z0w:=Mono.mono (R:=(isU K)) e28.g Z0w
        by_cases hb56:y26=true
        · rw[if_pos hb56]at hq ⊢
          exact sv_ret (Er:=Er) (R:=sh isS) (ev_joined (jv_valI (ev_ofU (K:=K) ofU_i (ev_ixU (ev_var (R:=sh (isU K)) Z0w) ev_int)) (jv_str (x:=Str.ofString "(") (l:=[40]) (ofS _ _ (by decide +kernel)) (jv_valS (ev_call1 (ev_ofU (K:=K) ofU_l (ev_ixU (ev_var (R:=sh (isU K)) Z0w) ev_int))) (jv_str (x:=Str.ofString ")") (l:=[41]) (ofS _ _ (by decide +kernel)) jv_nil))))) (Res.OkE.imp hq fun y40 hq v41 W42 e43 h44=>hq v41 W42 (E0.trans e43) h44)
        · rw[if_neg hb56]at hq ⊢
          try dsimp only[tNext]
          exact sv_ret (Er:=Er) (R:=sh isS) (ev_joined (jv_str (x:=Str.ofString "<") (l:=[60]) (ofS _ _ (by decide +kernel)) (jv_valS (ev_call1 (ev_ofU (K:=K) ofU_l (ev_ixU (ev_var (R:=sh (isU K)) Z0w) ev_int))) (jv_str (x:=Str.ofString ">") (l:=[62]) (ofS _ _ (by decide +kernel)) jv_nil)))) (Res.OkE.imp hq fun y52 hq v53 W54 e55 h56=>hq v53 W54 (E0.trans e55) h56)
theorem ZeV {f:Addr} {fd:FuncData} (F:Fun K "written" "written" (tp 21) f fd) {Z0W:Dat→Res Tx} {n:Nat} (Z1g:Cal P w K mg base "written_statement" ["statement"] (n+1) (spM1 (isU K) (rs isS) Z0W)):FnOk P w K mg base CX0 (n+2) f fd ["program"] (spM1 (isL (isU K)) (rs isS) (Z33 Z0W)):=by
  have SC:FnScope ["program"] ["program"] (defScope (tp 21)):=⟨rfl,rfl,rfl,by decide +kernel,rfl,by decide +kernel,by decide +kernel⟩
  refine F.ok SC (fun vs H Q E h=>?_) (fun cdv A outer s H vs Q E hr h=>?_)
  · obtain⟨_,_,_,_,rfl,_⟩:=h;rfl
  · obtain⟨W0,program,Z8R,rfl,rfl,ZeW,Er,hq⟩:=h
    refine⟨_,(pss_one (ps_ret (pe_bmK (K:=K) rfl PySem.F.plainAttrs_str PySem.F.slot_str_join PySem.F.type_str_join (mt_joinS (K:=K) rfl) pe_str (pa_cons (pe_comp (N:=["statement"]) (cap:=[none]) (mkCS rfl (by decide +kernel) rfl (by decide +kernel) (by rfl) (by rfl)) rfl (pi_listK (K:=K) rfl (pv 0)) (fun _ _ _ _=>(pg_name (i:=0) (show List.Nodup (["statement"]:List Str) by decide +kernel) rfl (by first | exact Or.inl rfl | exact Or.inr rfl))) (fun _ _ _ _=>pts_nil) (fun _ _ _ _=>(pe_cal Z1g (hr.mono (by omega)) (by rfl) (pa_cons (pv 0) pa_nil)))) pa_nil)))),?_⟩
    have E0:Ext W0 W0:=.refl W0
    rw[show L2.start ["program"] [Z8R]=[some Z8R]from rfl]
    unfold Z33 at hq
    exact sv_ret (Er:=Er) (R:=sh isS) (ev_joinS (l:=[32]) (ofS _ _ (by decide +kernel)) (EVo.pk (ev_comp (f:=fun(a1:Dat)=>Z0W a1) (iv_list (ev_var (R:=sh (isL (isU K))) ZeW)) fun W3 a1 v2 e4 h5 Q8 k9=>by
      refine gn ?_
      exact⟨by simp[Keep,capSt],((ev_call1 (ev_var (R:=sh (isU K)) h5)):EV Er _ [some v2] _ _ _) _ (.refl _) _ k9⟩))) (Res.OkE.imp hq fun y11 hq v12 W13 e14 h15=>hq v12 W13 (E0.trans e14) h15)
theorem r_law {f:Addr} {fd:FuncData} (F:Fun K "law" "law" (tp 52) f fd) {Z1i:List Int→Res Tx} {Z18:Tx→Res (Option (List Dat))} {Z1t:Tx→Res Dat} {Z0G:(List Dat)→Res Tx} (Z3H:Cal P w K mg base "_law_built" ["_law_script"] (23) (spM1 (isScr K) (rs isS) Z1i)) (Z3I:Cal P w K mg base "_law_parse" ["_law_text"] (3) (spM1 isS (rs (isO (isL (isU K)))) Z18)) (Z3J:Cal P w K mg base "_law_tried" ["_law_text"] (82) (spM1 isS (rs (isU K)) Z1t)) (Z1m:Cal P w K mg base "_law_same" ["_law_found","_law_due"] 26 (spSame2 K 26)) (Z1j:Cal P w K mg base "written" ["program"] (40) (spM1 (isL (isU K)) (rs isS) Z0G)):FnOk P w K mg base CX0 (83) f fd ["_law_script"] (spM1 (isScr K) (rs isB) (M_law Z1i Z18 Z1t Z0G)):=by
  have SC:FnScope ["_law_script","_law_text","_law_due","_law_found"] ["_law_script"] (defScope (tp 52)):=⟨rfl,rfl,rfl,by decide +kernel,rfl,by decide +kernel,by decide +kernel⟩
  refine F.ok SC (fun vs H Q E h=>?_) (fun cdv A outer s H vs Q E hr h=>?_)
  · obtain⟨_,_,_,_,rfl,_⟩:=h;rfl
  · obtain⟨W0,Z0l,Z0k,rfl,rfl,Z02,Er,hq⟩:=h
    refine⟨_,(pss_cons (ps_set (i:=1) SC.nd rfl (by first | exact Or.inl rfl | exact Or.inr rfl) (pe_cal Z3H (hr.mono (by decide)) (by rfl) (pa_cons (pv 0) pa_nil)))
      (pss_cons (ps_set (i:=2) SC.nd rfl (by first | exact Or.inl rfl | exact Or.inr rfl) (pe_cal Z3I (hr.mono (by decide)) (by rfl) (pa_cons (pv 1) pa_nil)))
      (pss_cons (ps_set (i:=3) SC.nd rfl (by first | exact Or.inl rfl | exact Or.inr rfl) (pe_cal Z3J (hr.mono (by decide)) (by rfl) (pa_cons (pv 1) pa_nil)))
      (pss_cons (ps_if (pt_cmpR op_isN (pv 2) pe_non (nomark _)) (pss_one (ps_ret (pe_cal Z1m (hr.mono (by decide)) (by rfl) (pa_cons (pv 3) (pa_cons (pe_tup (pa_cons pe_str (pa_cons (pe_lst (pa_cons pe_str pa_nil)) pa_nil))) pa_nil))))) pss_nil)
      (pss_cons (ps_if (pt_not (pt_val (pe_cal Z1m (hr.mono (by decide)) (by rfl) (pa_cons (pv 3) (pa_cons (pe_tup (pa_cons pe_str (pa_cons (pv 2) pa_nil))) pa_nil))))) (pss_one (ps_ret pe_bl)) pss_nil)
      (pss_one (ps_ret (pe_cal Z1m (hr.mono (by decide)) (by rfl) (pa_cons (pe_cal Z1j (hr.mono (by decide)) (by rfl) (pa_cons (pe_ix (ix_tupK (K:=K) rfl) (pv 3) pe_int (fun _ _=>rfl)) pa_nil)) (pa_cons (pv 1) pa_nil)))))))))),?_⟩
    have E0:Ext W0 W0:=.refl W0
    rw[show L2.start ["_law_script","_law_text","_law_due","_law_found"] [Z0k]=[some Z0k,none,none,none]from rfl]
    unfold M_law at hq
    refine sv_asg_s (Er:=Er) (i:=1) (R:=sh isS) (σ':=fun v4=>[some Z0k,some v4,none,none]) (ev_call1 (ev_var (R:=sh (isScr K)) Z02)) ((Res.okE_bind hq).imp fun y3 hq v4 W1 e2 h5=>?_)
    cases h5
    have E0:=E0.trans e2
    refine sv_asg_s (Er:=Er) (i:=2) (R:=sh (isO (isL (isU K)))) (σ':=fun v9=>[some Z0k,some (.str (sOf y3)),some v9,none]) (ev_call1 (ev_var (R:=sh isS) (a:=y3) (v:=.str (sOf y3)) rfl)) ((Res.okE_bind hq).imp fun y8 hq v9 W6 e7 h10=>?_)
    have E0:=E0.trans e7
    refine sv_asg_s (Er:=Er) (i:=3) (R:=sh (isU K)) (σ':=fun v14=>[some Z0k,some (.str (sOf y3)),some v9,some v14]) (ev_call1 (ev_var (R:=sh isS) (a:=y3) (v:=.str (sOf y3)) rfl)) ((Res.okE_bind hq).imp fun y13 hq v14 W11 e12 h15=>?_)
    have E0:=E0.trans e12
    have h10:=Mono.mono (R:=(isO (isL (isU K)))) e12.g h10
    refine sv_if_s (Er:=Er) (tv_test (ev_isN (ev_var (R:=sh (isO (isL (isU K)))) h10))) (fun W16 e17=>?_)
    have E0:=E0.trans e17
    have h10:=Mono.mono (R:=(isO (isL (isU K)))) e17.g h10
    have h15:=Mono.mono (R:=(isU K)) e17.g h15
    by_cases hb38:y8.isNone=true
    · rw[if_pos hb38]at hq ⊢
      exact sv_ret (Er:=Er) (R:=sh isB) (ev_sameU (by decide) (ev_var (R:=sh (isU K)) h15) (ev_toU (K:=K) (u:=fun(z:Tx×(List Tx))=>Dat.t [Dat.s z.1,Dat.l (z.2.map fun(z:Tx)=>Dat.s z)]) (toU_2 toU_s (toU_l (u:=fun(z:Tx)=>Dat.s z) toU_s)) (ev_tup2 (K:=K) (ev_str (x:=Str.ofString "refused") (l:=[114,101,102,117,115,101,100]) (ofS _ _ (by decide +kernel))) (EVo.ev (ev_lst (av_cons (ev_str (x:=Str.ofString "BadText") (l:=[66,97,100,84,101,120,116]) (ofS _ _ (by decide +kernel))) (av_nil (R:=isS)))))))) (Res.OkE.imp hq fun y18 hq v19 W20 e21 h22=>hq v19 W20 (E0.trans e21) h22)
    · rw[if_neg hb38]at hq ⊢
      try dsimp only[tNext]
      refine sv_if_s (Er:=Er) (tv_not (tv_b (ev_sameU (by decide) (ev_var (R:=sh (isU K)) h15) (ev_toU (K:=K) (u:=fun(z:Tx×(Option (List Dat)))=>Dat.t [Dat.s z.1,optD (fun(z:List Dat)=>Dat.l (z.map fun(z:Dat)=>z)) z.2]) (toU_2 toU_s (toU_o (toU_l (u:=fun(z:Dat)=>z) toU_u))) (ev_tup2 (K:=K) (ev_str (x:=Str.ofString "read") (l:=[114,101,97,100]) (ofS _ _ (by decide +kernel))) (ev_var (R:=sh (isO (isL (isU K)))) h10)))))) ((Res.okE_bind hq).imp fun y24 hq W25 e26=>?_)
      have E0:=E0.trans e26
      have h10:=Mono.mono (R:=(isO (isL (isU K)))) e26.g h10
      have h15:=Mono.mono (R:=(isU K)) e26.g h15
      by_cases hb38:y24=true
      · rw[if_pos hb38]at hq ⊢
        exact sv_ret (Er:=Er) (R:=sh isB) ev_bl (fun v27 W28 e29 h30=>hq v27 W28 (E0.trans e29) h30)
      · rw[if_neg hb38]at hq ⊢
        try dsimp only[tNext]
        exact sv_ret (Er:=Er) (R:=sh isB) (ev_sameS (by decide) (ev_call1 (ev_ofU (K:=K) ofU_l (ev_ixU (ev_var (R:=sh (isU K)) h15) ev_int))) (ev_var (R:=sh isS) (a:=y3) (v:=.str (sOf y3)) rfl)) (Res.OkE.imp hq fun y34 hq v35 W36 e37 h38=>hq v35 W36 (E0.trans e37) h38)
end
end Wb
namespace Wb
open PySem L2
section
variable {P:Program} {w:World} {K:PySem.W.Frag} {mg:Str→Option Value} {base:Heap}
theorem ok_none {f:Addr} {fd:FuncData} {ps:List Str} {k:Nat} :FnOk P w K mg base CX0 k f fd ps (spSame2 K 0):=⟨fun _ _ _ _ h=>h.elim,fun _ _ _ _ _ _ _ _ _ _ _ _ _ h=>h.elim⟩
theorem kit {K:PySem.W.Frag} (a b:String) (r:Bool) (h:PySem.W.kitOne [] (.type a) (.type b)=some r):PySem.W.kitOne K (.type a) (.type b)=some r:=by first | exact h | (rw[←h];rfl)
theorem skip1 {c:TT} {t rest:TS} {D:Ends} {σ:St} {H:Hp} (h:∀Q:Bool→Hp→Prop,Q false H→c σ H Q) (k:rest D σ H):tSeq (tIfS c t tNext) rest D σ H:=h _ k
theorem take1 {c:TT} {t rest:TS} {D:Ends} {σ:St} {H:Hp} (h:∀Q:Bool→Hp→Prop,Q true H→c σ H Q) (k:t {D with nx:=rest D} σ H):tSeq (tIfS c t tNext) rest D σ H:=h _ k
theorem ok_same1 {f:Addr} {fd:FuncData} (F:Fun K "_law_same" "_law_same" (tp 47) f fd) (h_len:mg "len" =none) (h_isinstance:mg "isinstance" =none) (h_bool:mg "bool" =none) (h_int:mg "int" =none) (h_str:mg "str" =none) (h_list:mg "list" =none) (h_tuple:mg "tuple" =none) (h_zip:mg "zip" =none) {n:Nat}
    (Z1m:Cal P w K mg base "_law_same" ["_law_found","_law_due"] n (spSame2 K n)):FnOk P w K mg base CX0 (n+1) f fd ["_law_found","_law_due"] (spSame2 K (n+1)):=by
  have SC:FnScope ["_law_found","_law_due","_law_one","_law_other"] ["_law_found","_law_due"] (defScope (tp 47)):=⟨rfl,rfl,rfl,by decide +kernel,rfl,by decide +kernel,by decide +kernel⟩
  refine F.ok SC (fun vs H Q E h=>?_) (fun cdv A outer s H vs Q E hr h=>?_)
  · obtain⟨v,u,rfl,_⟩:=h;rfl
  · obtain⟨v,u,rfl,h⟩:=h
    have hr:Room n _:=hr
    refine⟨_,(pss_cons (ps_if (PW.pt (pw_or (pt_cmpR (op_isN.or op_is_bl) (pv 1) pe_non (nomark _)) (pw_or (pt_cmpR (op_isN.or op_is_bl) (pv 1) pe_bl (nomark _)) (pw_or1 (pt_cmpR (op_isN.or op_is_bl) (pv 1) pe_bl (nomark _)))))) (pss_one (ps_ret (pe_and (pe_cmpR op_eq (pe_callB (call_isinstK (K:=K) rfl) (by rfl) h_isinstance PyProof.Rows.boot_isinstance (pa_cons (pv 0) (pa_cons (pe_bltn (v:=.ty "bool") (by rfl) h_bool PyProof.Rows.boot_bool rfl) pa_nil))) (pe_callB (call_isinstK (K:=K) rfl) (by rfl) h_isinstance PyProof.Rows.boot_isinstance (pa_cons (pv 1) (pa_cons (pe_bltn (v:=.ty "bool") (by rfl) h_bool PyProof.Rows.boot_bool rfl) pa_nil))) (nomark _)) (pe_one (pe_cmpR op_eq (pv 0) (pv 1) (nomark _)))))) pss_nil)
      (pss_cons (ps_if (pt_val (pe_callB (call_isinstK (K:=K) rfl) (by rfl) h_isinstance PyProof.Rows.boot_isinstance (pa_cons (pv 1) (pa_cons (pe_bltn (v:=.ty "int") (by rfl) h_int PyProof.Rows.boot_int rfl) pa_nil)))) (pss_one (ps_ret (pe_and (pe_callB (call_isinstK (K:=K) rfl) (by rfl) h_isinstance PyProof.Rows.boot_isinstance (pa_cons (pv 0) (pa_cons (pe_bltn (v:=.ty "int") (by rfl) h_int PyProof.Rows.boot_int rfl) pa_nil))) (pe_and (pe_not (pe_callB (call_isinstK (K:=K) rfl) (by rfl) h_isinstance PyProof.Rows.boot_isinstance (pa_cons (pv 0) (pa_cons (pe_bltn (v:=.ty "bool") (by rfl) h_bool PyProof.Rows.boot_bool rfl) pa_nil)))) (pe_one (pe_cmpR op_eq (pv 0) (pv 1) (nomark _))))))) pss_nil)
      (pss_cons (ps_if (pt_val (pe_callB (call_isinstK (K:=K) rfl) (by rfl) h_isinstance PyProof.Rows.boot_isinstance (pa_cons (pv 1) (pa_cons (pe_bltn (v:=.ty "str") (by rfl) h_str PyProof.Rows.boot_str rfl) pa_nil)))) (pss_one (ps_ret (pe_and (pe_callB (call_isinstK (K:=K) rfl) (by rfl) h_isinstance PyProof.Rows.boot_isinstance (pa_cons (pv 0) (pa_cons (pe_bltn (v:=.ty "str") (by rfl) h_str PyProof.Rows.boot_str rfl) pa_nil))) (pe_one (pe_cmpR op_eq (pv 0) (pv 1) (nomark _)))))) pss_nil)
      (pss_cons (ps_if (PW.pt (pw_and (pt_val (pe_callB (call_isinstK (K:=K) rfl) (by rfl) h_isinstance PyProof.Rows.boot_isinstance (pa_cons (pv 1) (pa_cons (pe_bltn (v:=.ty "list") (by rfl) h_list PyProof.Rows.boot_list rfl) pa_nil)))) (pw_and1 (pt_not (pt_val (pe_callB (call_isinstK (K:=K) rfl) (by rfl) h_isinstance PyProof.Rows.boot_isinstance (pa_cons (pv 0) (pa_cons (pe_bltn (v:=.ty "list") (by rfl) h_list PyProof.Rows.boot_list rfl) pa_nil)))))))) (pss_one (ps_ret pe_bl)) pss_nil)
      (pss_cons (ps_if (PW.pt (pw_and (pt_val (pe_callB (call_isinstK (K:=K) rfl) (by rfl) h_isinstance PyProof.Rows.boot_isinstance (pa_cons (pv 1) (pa_cons (pe_bltn (v:=.ty "tuple") (by rfl) h_tuple PyProof.Rows.boot_tuple rfl) pa_nil)))) (pw_and1 (pt_not (pt_val (pe_callB (call_isinstK (K:=K) rfl) (by rfl) h_isinstance PyProof.Rows.boot_isinstance (pa_cons (pv 0) (pa_cons (pe_bltn (v:=.ty "tuple") (by rfl) h_tuple PyProof.Rows.boot_tuple rfl) pa_nil)))))))) (pss_one (ps_ret pe_bl)) pss_nil)
      (pss_cons (ps_if (pt_cmpR op_ne (pe_callB (call_lenK (K:=K) rfl) (by rfl) h_len PySem.boot_len (pa_cons (pv 0) pa_nil)) (pe_callB (call_lenK (K:=K) rfl) (by rfl) h_len PySem.boot_len (pa_cons (pv 1) pa_nil)) (nomark _)) (pss_one (ps_ret pe_bl)) pss_nil)
      (pss_cons (ps_for PassesOwn.never rfl (pi_zipK (K:=K) rfl rfl h_zip (pa_cons (pv 0) (pa_cons (pv 1) pa_nil))) (pg_tupK (K:=K) (n:=2) rfl rfl (pgs_cons (pg_name (i:=2) SC.nd rfl (by first | exact Or.inl rfl | exact Or.inr rfl)) (pgs_cons (pg_name (i:=3) SC.nd rfl (by first | exact Or.inl rfl | exact Or.inr rfl)) pgs_nil))) (pss_one (ps_if (pt_not (pt_val (pe_cal Z1m hr (by rfl) (pa_cons (pv 2) (pa_cons (pv 3) pa_nil))))) (pss_one (ps_ret pe_bl)) pss_nil)))
      (pss_one (ps_ret pe_bl))))))))),?_⟩
    rcases h with⟨he,q⟩ | ⟨x,y,rfl,rfl,q⟩
    rotate_left
    · refine skip1 (fun Q q=>?_) (skip1 (fun Q q=>?_) (take1 (fun Q q=>?_) ?_))
      · simp only[tTest,tOp,tVar,tC,tCB,tCons,tNil,tRet,tNext,tAsg,gName,gTup,gCons,gNil,tB,tUn,rU,rI0,rI,tTup,tLst,tCall,tDrop,tAnd,tOr,tNot,tAndV,tOrV,tNotV,tSl,tPart,tNoPart,tBM,tBM0,rIn,rEq,rNe,scal,rCat,rIxL,rIxT,rIxS,rAppend,L2.start,List.map_cons,List.map_nil,List.cons_append,List.nil_append,List.append_nil,List.length_cons,List.length_nil,List.replicate,List.set_cons_zero,List.set_cons_succ,List.getElem?_cons_zero,List.getElem?_cons_succ,Option.some.injEq,exists_eq_left',exists_eq_left,exists_and_left,exists_eq',exists_const,V.int.injEq,V.bl.injEq,V.str.injEq,V.ref.injEq,V.ty.injEq,List.cons.injEq,and_true,true_and,reduceCtorEq,false_and,and_false,exists_false,or_false,false_or,decide_eq_true_eq,Bool.not_eq_true',decide_eq_false_iff_not,if_true,if_false,Bool.false_eq_true,ite_true,ite_false,Bool.not_true,Bool.not_false,Nat.reduceAdd,Nat.reduceSub,and_assoc];exact q
      · simp only[tTest,tOp,tVar,tC,tCB,tCons,tNil,tRet,tNext,tAsg,gName,gTup,gCons,gNil,tB,tUn,rU,rI0,rI,tTup,tLst,tCall,tDrop,tAnd,tOr,tNot,tAndV,tOrV,tNotV,tSl,tPart,tNoPart,tBM,tBM0,rIn,rEq,rNe,scal,rCat,rIxL,rIxT,rIxS,rAppend,L2.start,List.map_cons,List.map_nil,List.cons_append,List.nil_append,List.append_nil,List.length_cons,List.length_nil,List.replicate,List.set_cons_zero,List.set_cons_succ,List.getElem?_cons_zero,List.getElem?_cons_succ,Option.some.injEq,exists_eq_left',exists_eq_left,exists_and_left,exists_eq',exists_const,V.int.injEq,V.bl.injEq,V.str.injEq,V.ref.injEq,V.ty.injEq,List.cons.injEq,and_true,true_and,reduceCtorEq,false_and,and_false,exists_false,or_false,false_or,decide_eq_true_eq,Bool.not_eq_true',decide_eq_false_iff_not,if_true,if_false,Bool.false_eq_true,ite_true,ite_false,Bool.not_true,Bool.not_false,Nat.reduceAdd,Nat.reduceSub,and_assoc];exact⟨_,.str _,_,kit "str" "int" false rfl,q⟩
      · simp only[tTest,tOp,tVar,tC,tCB,tCons,tNil,tRet,tNext,tAsg,gName,gTup,gCons,gNil,tB,tUn,rU,rI0,rI,tTup,tLst,tCall,tDrop,tAnd,tOr,tNot,tAndV,tOrV,tNotV,tSl,tPart,tNoPart,tBM,tBM0,rIn,rEq,rNe,scal,rCat,rIxL,rIxT,rIxS,rAppend,L2.start,List.map_cons,List.map_nil,List.cons_append,List.nil_append,List.append_nil,List.length_cons,List.length_nil,List.replicate,List.set_cons_zero,List.set_cons_succ,List.getElem?_cons_zero,List.getElem?_cons_succ,Option.some.injEq,exists_eq_left',exists_eq_left,exists_and_left,exists_eq',exists_const,V.int.injEq,V.bl.injEq,V.str.injEq,V.ref.injEq,V.ty.injEq,List.cons.injEq,and_true,true_and,reduceCtorEq,false_and,and_false,exists_false,or_false,false_or,decide_eq_true_eq,Bool.not_eq_true',decide_eq_false_iff_not,if_true,if_false,Bool.false_eq_true,ite_true,ite_false,Bool.not_true,Bool.not_false,Nat.reduceAdd,Nat.reduceSub,and_assoc];exact⟨_,.str _,_,kit "str" "str" true rfl,q⟩
      · simp only[tTest,tOp,tVar,tC,tCB,tCons,tNil,tRet,tNext,tAsg,gName,gTup,gCons,gNil,tB,tUn,rU,rI0,rI,tTup,tLst,tCall,tDrop,tAnd,tOr,tNot,tAndV,tOrV,tNotV,tSl,tPart,tNoPart,tBM,tBM0,rIn,rEq,rNe,scal,rCat,rIxL,rIxT,rIxS,rAppend,L2.start,List.map_cons,List.map_nil,List.cons_append,List.nil_append,List.append_nil,List.length_cons,List.length_nil,List.replicate,List.set_cons_zero,List.set_cons_succ,List.getElem?_cons_zero,List.getElem?_cons_succ,Option.some.injEq,exists_eq_left',exists_eq_left,exists_and_left,exists_eq',exists_const,V.int.injEq,V.bl.injEq,V.str.injEq,V.ref.injEq,V.ty.injEq,List.cons.injEq,and_true,true_and,reduceCtorEq,false_and,and_false,exists_false,or_false,false_or,decide_eq_true_eq,Bool.not_eq_true',decide_eq_false_iff_not,if_true,if_false,Bool.false_eq_true,ite_true,ite_false,Bool.not_true,Bool.not_false,Nat.reduceAdd,Nat.reduceSub,and_assoc]
        refine⟨_,.str _,_,kit "str" "str" true rfl,?_⟩
        simp only[tTest,tOp,tVar,tC,tCB,tCons,tNil,tRet,tNext,tAsg,gName,gTup,gCons,gNil,tB,tUn,rU,rI0,rI,tTup,tLst,tCall,tDrop,tAnd,tOr,tNot,tAndV,tOrV,tNotV,tSl,tPart,tNoPart,tBM,tBM0,rIn,rEq,rNe,scal,rCat,rIxL,rIxT,rIxS,rAppend,L2.start,List.map_cons,List.map_nil,List.cons_append,List.nil_append,List.append_nil,List.length_cons,List.length_nil,List.replicate,List.set_cons_zero,List.set_cons_succ,List.getElem?_cons_zero,List.getElem?_cons_succ,Option.some.injEq,exists_eq_left',exists_eq_left,exists_and_left,exists_eq',exists_const,V.int.injEq,V.bl.injEq,V.str.injEq,V.ref.injEq,V.ty.injEq,List.cons.injEq,and_true,true_and,reduceCtorEq,false_and,and_false,exists_false,or_false,false_or,decide_eq_true_eq,Bool.not_eq_true',decide_eq_false_iff_not,if_true,if_false,Bool.false_eq_true,ite_true,ite_false,Bool.not_true,Bool.not_false,Nat.reduceAdd,Nat.reduceSub,and_assoc]
        simpa using q
    have fl:∀v,L2.flat v=true→(∀H',Same H H'→Q (.bl true) H')→(v=.non∨(∃b,v=.bl b)∨(∃i,v=.int i)∨∃x,v=.str x):=fun v hv _=>by
      cases v with
      | non=>exact .inl rfl
      | bl b=>exact .inr (.inl ⟨b,rfl⟩)
      | int b=>exact .inr (.inr (.inl ⟨b,rfl⟩))
      | str b=>exact .inr (.inr (.inr ⟨b,rfl⟩))
      | _=>cases hv
    have he':(v=u∧L2.flat v=true)∨∃m p q xs ys,n=m+1∧v=.ref p∧u=.ref q∧((H p=some (.lst xs)∧H q=some (.lst ys))∨(SqT K H p xs∧SqT K H q ys))∧xs.length=ys.length∧∀(i:Nat) (x y:V),xs[i]? =some x→ys[i]? =some y→EqK K H m x y:=by
      cases n with
      | zero=>exact .inl he
      | succ m=>rcases he with z | ⟨p,q,xs,ys,z⟩;exact .inl z;exact .inr ⟨m,p,q,xs,ys,rfl,z⟩
    rcases he' with⟨rfl,hf⟩ | ⟨m,p,q',xs,ys,hnm,rfl,rfl,hk,hl,hi⟩
    · rcases fl v hf q with rfl | ⟨b,rfl⟩ | ⟨i,rfl⟩ | ⟨x,rfl⟩
      · refine take1 (fun Q q=>?_) ?_
        · simp only[tTest,tOp,tVar,tC,tCB,tCons,tNil,tRet,tNext,tAsg,gName,gTup,gCons,gNil,tB,tUn,rU,rI0,rI,tTup,tLst,tCall,tDrop,tAnd,tOr,tNot,tAndV,tOrV,tNotV,tSl,tPart,tNoPart,tBM,tBM0,rIn,rEq,rNe,scal,rCat,rIxL,rIxT,rIxS,rAppend,L2.start,List.map_cons,List.map_nil,List.cons_append,List.nil_append,List.append_nil,List.length_cons,List.length_nil,List.replicate,List.set_cons_zero,List.set_cons_succ,List.getElem?_cons_zero,List.getElem?_cons_succ,Option.some.injEq,exists_eq_left',exists_eq_left,exists_and_left,exists_eq',exists_const,V.int.injEq,V.bl.injEq,V.str.injEq,V.ref.injEq,V.ty.injEq,List.cons.injEq,and_true,true_and,reduceCtorEq,false_and,and_false,exists_false,or_false,false_or,decide_eq_true_eq,Bool.not_eq_true',decide_eq_false_iff_not,if_true,if_false,Bool.false_eq_true,ite_true,ite_false,Bool.not_true,Bool.not_false,Nat.reduceAdd,Nat.reduceSub,and_assoc];exact q
        · simp only[tTest,tOp,tVar,tC,tCB,tCons,tNil,tRet,tNext,tAsg,gName,gTup,gCons,gNil,tB,tUn,rU,rI0,rI,tTup,tLst,tCall,tDrop,tAnd,tOr,tNot,tAndV,tOrV,tNotV,tSl,tPart,tNoPart,tBM,tBM0,rIn,rEq,rNe,scal,rCat,rIxL,rIxT,rIxS,rAppend,L2.start,List.map_cons,List.map_nil,List.cons_append,List.nil_append,List.append_nil,List.length_cons,List.length_nil,List.replicate,List.set_cons_zero,List.set_cons_succ,List.getElem?_cons_zero,List.getElem?_cons_succ,Option.some.injEq,exists_eq_left',exists_eq_left,exists_and_left,exists_eq',exists_const,V.int.injEq,V.bl.injEq,V.str.injEq,V.ref.injEq,V.ty.injEq,List.cons.injEq,and_true,true_and,reduceCtorEq,false_and,and_false,exists_false,or_false,false_or,decide_eq_true_eq,Bool.not_eq_true',decide_eq_false_iff_not,if_true,if_false,Bool.false_eq_true,ite_true,ite_false,Bool.not_true,Bool.not_false,Nat.reduceAdd,Nat.reduceSub,and_assoc]
          refine⟨_,.non,_,kit "NoneType" "bool" false rfl,_,.non,_,kit "NoneType" "bool" false rfl,?_⟩
          simp only[tTest,tOp,tVar,tC,tCB,tCons,tNil,tRet,tNext,tAsg,gName,gTup,gCons,gNil,tB,tUn,rU,rI0,rI,tTup,tLst,tCall,tDrop,tAnd,tOr,tNot,tAndV,tOrV,tNotV,tSl,tPart,tNoPart,tBM,tBM0,rIn,rEq,rNe,scal,rCat,rIxL,rIxT,rIxS,rAppend,L2.start,List.map_cons,List.map_nil,List.cons_append,List.nil_append,List.append_nil,List.length_cons,List.length_nil,List.replicate,List.set_cons_zero,List.set_cons_succ,List.getElem?_cons_zero,List.getElem?_cons_succ,Option.some.injEq,exists_eq_left',exists_eq_left,exists_and_left,exists_eq',exists_const,V.int.injEq,V.bl.injEq,V.str.injEq,V.ref.injEq,V.ty.injEq,List.cons.injEq,and_true,true_and,reduceCtorEq,false_and,and_false,exists_false,or_false,false_or,decide_eq_true_eq,Bool.not_eq_true',decide_eq_false_iff_not,if_true,if_false,Bool.false_eq_true,ite_true,ite_false,Bool.not_true,Bool.not_false,Nat.reduceAdd,Nat.reduceSub,and_assoc]
          exact q H (.refl H)
      · refine take1 (fun Q q=>?_) ?_
        · cases b <;> simp only[tTest,tOp,tVar,tC,tCB,tCons,tNil,tRet,tNext,tAsg,gName,gTup,gCons,gNil,tB,tUn,rU,rI0,rI,tTup,tLst,tCall,tDrop,tAnd,tOr,tNot,tAndV,tOrV,tNotV,tSl,tPart,tNoPart,tBM,tBM0,rIn,rEq,rNe,scal,rCat,rIxL,rIxT,rIxS,rAppend,L2.start,List.map_cons,List.map_nil,List.cons_append,List.nil_append,List.append_nil,List.length_cons,List.length_nil,List.replicate,List.set_cons_zero,List.set_cons_succ,List.getElem?_cons_zero,List.getElem?_cons_succ,Option.some.injEq,exists_eq_left',exists_eq_left,exists_and_left,exists_eq',exists_const,V.int.injEq,V.bl.injEq,V.str.injEq,V.ref.injEq,V.ty.injEq,List.cons.injEq,and_true,true_and,reduceCtorEq,false_and,and_false,exists_false,or_false,false_or,decide_eq_true_eq,Bool.not_eq_true',decide_eq_false_iff_not,if_true,if_false,Bool.false_eq_true,ite_true,ite_false,Bool.not_true,Bool.not_false,Nat.reduceAdd,Nat.reduceSub,and_assoc] <;> exact q
        · simp only[tTest,tOp,tVar,tC,tCB,tCons,tNil,tRet,tNext,tAsg,gName,gTup,gCons,gNil,tB,tUn,rU,rI0,rI,tTup,tLst,tCall,tDrop,tAnd,tOr,tNot,tAndV,tOrV,tNotV,tSl,tPart,tNoPart,tBM,tBM0,rIn,rEq,rNe,scal,rCat,rIxL,rIxT,rIxS,rAppend,L2.start,List.map_cons,List.map_nil,List.cons_append,List.nil_append,List.append_nil,List.length_cons,List.length_nil,List.replicate,List.set_cons_zero,List.set_cons_succ,List.getElem?_cons_zero,List.getElem?_cons_succ,Option.some.injEq,exists_eq_left',exists_eq_left,exists_and_left,exists_eq',exists_const,V.int.injEq,V.bl.injEq,V.str.injEq,V.ref.injEq,V.ty.injEq,List.cons.injEq,and_true,true_and,reduceCtorEq,false_and,and_false,exists_false,or_false,false_or,decide_eq_true_eq,Bool.not_eq_true',decide_eq_false_iff_not,if_true,if_false,Bool.false_eq_true,ite_true,ite_false,Bool.not_true,Bool.not_false,Nat.reduceAdd,Nat.reduceSub,and_assoc]
          refine⟨_,.bl _,_,kit "bool" "bool" true rfl,_,.bl _,_,kit "bool" "bool" true rfl,?_⟩
          simp only[tTest,tOp,tVar,tC,tCB,tCons,tNil,tRet,tNext,tAsg,gName,gTup,gCons,gNil,tB,tUn,rU,rI0,rI,tTup,tLst,tCall,tDrop,tAnd,tOr,tNot,tAndV,tOrV,tNotV,tSl,tPart,tNoPart,tBM,tBM0,rIn,rEq,rNe,scal,rCat,rIxL,rIxT,rIxS,rAppend,L2.start,List.map_cons,List.map_nil,List.cons_append,List.nil_append,List.append_nil,List.length_cons,List.length_nil,List.replicate,List.set_cons_zero,List.set_cons_succ,List.getElem?_cons_zero,List.getElem?_cons_succ,Option.some.injEq,exists_eq_left',exists_eq_left,exists_and_left,exists_eq',exists_const,V.int.injEq,V.bl.injEq,V.str.injEq,V.ref.injEq,V.ty.injEq,List.cons.injEq,and_true,true_and,reduceCtorEq,false_and,and_false,exists_false,or_false,false_or,decide_eq_true_eq,Bool.not_eq_true',decide_eq_false_iff_not,if_true,if_false,Bool.false_eq_true,ite_true,ite_false,Bool.not_true,Bool.not_false,Nat.reduceAdd,Nat.reduceSub,and_assoc]
          exact q H (.refl H)
      · refine skip1 (fun Q q=>?_) (take1 (fun Q q=>?_) ?_)
        · simp only[tTest,tOp,tVar,tC,tCB,tCons,tNil,tRet,tNext,tAsg,gName,gTup,gCons,gNil,tB,tUn,rU,rI0,rI,tTup,tLst,tCall,tDrop,tAnd,tOr,tNot,tAndV,tOrV,tNotV,tSl,tPart,tNoPart,tBM,tBM0,rIn,rEq,rNe,scal,rCat,rIxL,rIxT,rIxS,rAppend,L2.start,List.map_cons,List.map_nil,List.cons_append,List.nil_append,List.append_nil,List.length_cons,List.length_nil,List.replicate,List.set_cons_zero,List.set_cons_succ,List.getElem?_cons_zero,List.getElem?_cons_succ,Option.some.injEq,exists_eq_left',exists_eq_left,exists_and_left,exists_eq',exists_const,V.int.injEq,V.bl.injEq,V.str.injEq,V.ref.injEq,V.ty.injEq,List.cons.injEq,and_true,true_and,reduceCtorEq,false_and,and_false,exists_false,or_false,false_or,decide_eq_true_eq,Bool.not_eq_true',decide_eq_false_iff_not,if_true,if_false,Bool.false_eq_true,ite_true,ite_false,Bool.not_true,Bool.not_false,Nat.reduceAdd,Nat.reduceSub,and_assoc];exact q
        · simp only[tTest,tOp,tVar,tC,tCB,tCons,tNil,tRet,tNext,tAsg,gName,gTup,gCons,gNil,tB,tUn,rU,rI0,rI,tTup,tLst,tCall,tDrop,tAnd,tOr,tNot,tAndV,tOrV,tNotV,tSl,tPart,tNoPart,tBM,tBM0,rIn,rEq,rNe,scal,rCat,rIxL,rIxT,rIxS,rAppend,L2.start,List.map_cons,List.map_nil,List.cons_append,List.nil_append,List.append_nil,List.length_cons,List.length_nil,List.replicate,List.set_cons_zero,List.set_cons_succ,List.getElem?_cons_zero,List.getElem?_cons_succ,Option.some.injEq,exists_eq_left',exists_eq_left,exists_and_left,exists_eq',exists_const,V.int.injEq,V.bl.injEq,V.str.injEq,V.ref.injEq,V.ty.injEq,List.cons.injEq,and_true,true_and,reduceCtorEq,false_and,and_false,exists_false,or_false,false_or,decide_eq_true_eq,Bool.not_eq_true',decide_eq_false_iff_not,if_true,if_false,Bool.false_eq_true,ite_true,ite_false,Bool.not_true,Bool.not_false,Nat.reduceAdd,Nat.reduceSub,and_assoc];exact⟨_,.int _,_,kit "int" "int" true rfl,q⟩
        · simp only[tTest,tOp,tVar,tC,tCB,tCons,tNil,tRet,tNext,tAsg,gName,gTup,gCons,gNil,tB,tUn,rU,rI0,rI,tTup,tLst,tCall,tDrop,tAnd,tOr,tNot,tAndV,tOrV,tNotV,tSl,tPart,tNoPart,tBM,tBM0,rIn,rEq,rNe,scal,rCat,rIxL,rIxT,rIxS,rAppend,L2.start,List.map_cons,List.map_nil,List.cons_append,List.nil_append,List.append_nil,List.length_cons,List.length_nil,List.replicate,List.set_cons_zero,List.set_cons_succ,List.getElem?_cons_zero,List.getElem?_cons_succ,Option.some.injEq,exists_eq_left',exists_eq_left,exists_and_left,exists_eq',exists_const,V.int.injEq,V.bl.injEq,V.str.injEq,V.ref.injEq,V.ty.injEq,List.cons.injEq,and_true,true_and,reduceCtorEq,false_and,and_false,exists_false,or_false,false_or,decide_eq_true_eq,Bool.not_eq_true',decide_eq_false_iff_not,if_true,if_false,Bool.false_eq_true,ite_true,ite_false,Bool.not_true,Bool.not_false,Nat.reduceAdd,Nat.reduceSub,and_assoc]
          refine⟨_,.int _,_,kit "int" "int" true rfl,?_⟩
          simp only[tTest,tOp,tVar,tC,tCB,tCons,tNil,tRet,tNext,tAsg,gName,gTup,gCons,gNil,tB,tUn,rU,rI0,rI,tTup,tLst,tCall,tDrop,tAnd,tOr,tNot,tAndV,tOrV,tNotV,tSl,tPart,tNoPart,tBM,tBM0,rIn,rEq,rNe,scal,rCat,rIxL,rIxT,rIxS,rAppend,L2.start,List.map_cons,List.map_nil,List.cons_append,List.nil_append,List.append_nil,List.length_cons,List.length_nil,List.replicate,List.set_cons_zero,List.set_cons_succ,List.getElem?_cons_zero,List.getElem?_cons_succ,Option.some.injEq,exists_eq_left',exists_eq_left,exists_and_left,exists_eq',exists_const,V.int.injEq,V.bl.injEq,V.str.injEq,V.ref.injEq,V.ty.injEq,List.cons.injEq,and_true,true_and,reduceCtorEq,false_and,and_false,exists_false,or_false,false_or,decide_eq_true_eq,Bool.not_eq_true',decide_eq_false_iff_not,if_true,if_false,Bool.false_eq_true,ite_true,ite_false,Bool.not_true,Bool.not_false,Nat.reduceAdd,Nat.reduceSub,and_assoc]
          refine⟨_,.int _,_,kit "int" "bool" false rfl,?_⟩
          simp only[tTest,tOp,tVar,tC,tCB,tCons,tNil,tRet,tNext,tAsg,gName,gTup,gCons,gNil,tB,tUn,rU,rI0,rI,tTup,tLst,tCall,tDrop,tAnd,tOr,tNot,tAndV,tOrV,tNotV,tSl,tPart,tNoPart,tBM,tBM0,rIn,rEq,rNe,scal,rCat,rIxL,rIxT,rIxS,rAppend,L2.start,List.map_cons,List.map_nil,List.cons_append,List.nil_append,List.append_nil,List.length_cons,List.length_nil,List.replicate,List.set_cons_zero,List.set_cons_succ,List.getElem?_cons_zero,List.getElem?_cons_succ,Option.some.injEq,exists_eq_left',exists_eq_left,exists_and_left,exists_eq',exists_const,V.int.injEq,V.bl.injEq,V.str.injEq,V.ref.injEq,V.ty.injEq,List.cons.injEq,and_true,true_and,reduceCtorEq,false_and,and_false,exists_false,or_false,false_or,decide_eq_true_eq,Bool.not_eq_true',decide_eq_false_iff_not,if_true,if_false,Bool.false_eq_true,ite_true,ite_false,Bool.not_true,Bool.not_false,Nat.reduceAdd,Nat.reduceSub,and_assoc]
          exact q H (.refl H)
      · refine skip1 (fun Q q=>?_) (skip1 (fun Q q=>?_) (take1 (fun Q q=>?_) ?_))
        · simp only[tTest,tOp,tVar,tC,tCB,tCons,tNil,tRet,tNext,tAsg,gName,gTup,gCons,gNil,tB,tUn,rU,rI0,rI,tTup,tLst,tCall,tDrop,tAnd,tOr,tNot,tAndV,tOrV,tNotV,tSl,tPart,tNoPart,tBM,tBM0,rIn,rEq,rNe,scal,rCat,rIxL,rIxT,rIxS,rAppend,L2.start,List.map_cons,List.map_nil,List.cons_append,List.nil_append,List.append_nil,List.length_cons,List.length_nil,List.replicate,List.set_cons_zero,List.set_cons_succ,List.getElem?_cons_zero,List.getElem?_cons_succ,Option.some.injEq,exists_eq_left',exists_eq_left,exists_and_left,exists_eq',exists_const,V.int.injEq,V.bl.injEq,V.str.injEq,V.ref.injEq,V.ty.injEq,List.cons.injEq,and_true,true_and,reduceCtorEq,false_and,and_false,exists_false,or_false,false_or,decide_eq_true_eq,Bool.not_eq_true',decide_eq_false_iff_not,if_true,if_false,Bool.false_eq_true,ite_true,ite_false,Bool.not_true,Bool.not_false,Nat.reduceAdd,Nat.reduceSub,and_assoc];exact q
        · simp only[tTest,tOp,tVar,tC,tCB,tCons,tNil,tRet,tNext,tAsg,gName,gTup,gCons,gNil,tB,tUn,rU,rI0,rI,tTup,tLst,tCall,tDrop,tAnd,tOr,tNot,tAndV,tOrV,tNotV,tSl,tPart,tNoPart,tBM,tBM0,rIn,rEq,rNe,scal,rCat,rIxL,rIxT,rIxS,rAppend,L2.start,List.map_cons,List.map_nil,List.cons_append,List.nil_append,List.append_nil,List.length_cons,List.length_nil,List.replicate,List.set_cons_zero,List.set_cons_succ,List.getElem?_cons_zero,List.getElem?_cons_succ,Option.some.injEq,exists_eq_left',exists_eq_left,exists_and_left,exists_eq',exists_const,V.int.injEq,V.bl.injEq,V.str.injEq,V.ref.injEq,V.ty.injEq,List.cons.injEq,and_true,true_and,reduceCtorEq,false_and,and_false,exists_false,or_false,false_or,decide_eq_true_eq,Bool.not_eq_true',decide_eq_false_iff_not,if_true,if_false,Bool.false_eq_true,ite_true,ite_false,Bool.not_true,Bool.not_false,Nat.reduceAdd,Nat.reduceSub,and_assoc];exact⟨_,.str _,_,kit "str" "int" false rfl,q⟩
        · simp only[tTest,tOp,tVar,tC,tCB,tCons,tNil,tRet,tNext,tAsg,gName,gTup,gCons,gNil,tB,tUn,rU,rI0,rI,tTup,tLst,tCall,tDrop,tAnd,tOr,tNot,tAndV,tOrV,tNotV,tSl,tPart,tNoPart,tBM,tBM0,rIn,rEq,rNe,scal,rCat,rIxL,rIxT,rIxS,rAppend,L2.start,List.map_cons,List.map_nil,List.cons_append,List.nil_append,List.append_nil,List.length_cons,List.length_nil,List.replicate,List.set_cons_zero,List.set_cons_succ,List.getElem?_cons_zero,List.getElem?_cons_succ,Option.some.injEq,exists_eq_left',exists_eq_left,exists_and_left,exists_eq',exists_const,V.int.injEq,V.bl.injEq,V.str.injEq,V.ref.injEq,V.ty.injEq,List.cons.injEq,and_true,true_and,reduceCtorEq,false_and,and_false,exists_false,or_false,false_or,decide_eq_true_eq,Bool.not_eq_true',decide_eq_false_iff_not,if_true,if_false,Bool.false_eq_true,ite_true,ite_false,Bool.not_true,Bool.not_false,Nat.reduceAdd,Nat.reduceSub,and_assoc];exact⟨_,.str _,_,kit "str" "str" true rfl,q⟩
        · simp only[tTest,tOp,tVar,tC,tCB,tCons,tNil,tRet,tNext,tAsg,gName,gTup,gCons,gNil,tB,tUn,rU,rI0,rI,tTup,tLst,tCall,tDrop,tAnd,tOr,tNot,tAndV,tOrV,tNotV,tSl,tPart,tNoPart,tBM,tBM0,rIn,rEq,rNe,scal,rCat,rIxL,rIxT,rIxS,rAppend,L2.start,List.map_cons,List.map_nil,List.cons_append,List.nil_append,List.append_nil,List.length_cons,List.length_nil,List.replicate,List.set_cons_zero,List.set_cons_succ,List.getElem?_cons_zero,List.getElem?_cons_succ,Option.some.injEq,exists_eq_left',exists_eq_left,exists_and_left,exists_eq',exists_const,V.int.injEq,V.bl.injEq,V.str.injEq,V.ref.injEq,V.ty.injEq,List.cons.injEq,and_true,true_and,reduceCtorEq,false_and,and_false,exists_false,or_false,false_or,decide_eq_true_eq,Bool.not_eq_true',decide_eq_false_iff_not,if_true,if_false,Bool.false_eq_true,ite_true,ite_false,Bool.not_true,Bool.not_false,Nat.reduceAdd,Nat.reduceSub,and_assoc]
          refine⟨_,.str _,_,kit "str" "str" true rfl,?_⟩
          simp only[tTest,tOp,tVar,tC,tCB,tCons,tNil,tRet,tNext,tAsg,gName,gTup,gCons,gNil,tB,tUn,rU,rI0,rI,tTup,tLst,tCall,tDrop,tAnd,tOr,tNot,tAndV,tOrV,tNotV,tSl,tPart,tNoPart,tBM,tBM0,rIn,rEq,rNe,scal,rCat,rIxL,rIxT,rIxS,rAppend,L2.start,List.map_cons,List.map_nil,List.cons_append,List.nil_append,List.append_nil,List.length_cons,List.length_nil,List.replicate,List.set_cons_zero,List.set_cons_succ,List.getElem?_cons_zero,List.getElem?_cons_succ,Option.some.injEq,exists_eq_left',exists_eq_left,exists_and_left,exists_eq',exists_const,V.int.injEq,V.bl.injEq,V.str.injEq,V.ref.injEq,V.ty.injEq,List.cons.injEq,and_true,true_and,reduceCtorEq,false_and,and_false,exists_false,or_false,false_or,decide_eq_true_eq,Bool.not_eq_true',decide_eq_false_iff_not,if_true,if_false,Bool.false_eq_true,ite_true,ite_false,Bool.not_true,Bool.not_false,Nat.reduceAdd,Nat.reduceSub,and_assoc]
          exact q H (.refl H)
    · subst hnm
      obtain⟨T,tp1,tp2,tl,src1,src2,h1,h2,e1,e2⟩:∃(T:String) (tp1:TyOf K H (.ref p) (.type T)) (tp2:TyOf K H (.ref q') (.type T)) (tl:(T="list" ∧SqL K H p xs∧SqL K H q' ys)∨(T="tuple" ∧SqT K H p xs∧SqT K H q' ys)) (src1 src2:Src),(∀H',Same H H'→src1.has K H' xs)∧(∀H',Same H H'→src2.has K H' ys)∧src1.val=.ref p∧src2.val=.ref q':=by
        rcases hk with⟨a,b⟩ | ⟨a,b⟩
        · exact⟨"list",.lst a,.lst b,.inl ⟨rfl,SqL.of a,SqL.of b⟩,.lst p,.lst q',fun H' e=>SqL.of (e _ _ a),fun H' e=>SqL.of (e _ _ b),rfl,rfl⟩
        · exact⟨"tuple",.tup a,.tup b,.inr ⟨rfl,a,b⟩,.tup p,.tup q',fun H' e=>Same.tup e a,fun H' e=>Same.tup e b,rfl,rfl⟩
      have hi0:PySem.W.kitOne K (.type T) (.type "int")=some false:=by rcases tl with⟨rfl,_⟩ | ⟨rfl,_⟩;exact kit _ _ _ rfl;exact kit _ _ _ rfl
      have hs0:PySem.W.kitOne K (.type T) (.type "str")=some false:=by rcases tl with⟨rfl,_⟩ | ⟨rfl,_⟩;exact kit _ _ _ rfl;exact kit _ _ _ rfl
      obtain⟨bl,hl0,hl1⟩:∃bl,PySem.W.kitOne K (.type T) (.type "list")=some bl∧PySem.W.kitOne K (.type T) (.type "tuple")=some (!bl):=by rcases tl with⟨rfl,_⟩ | ⟨rfl,_⟩;exact⟨true,kit _ _ _ rfl,kit _ _ _ rfl⟩;exact⟨false,kit _ _ _ rfl,kit _ _ _ rfl⟩
      have ln1:LenV K (.ref p) H xs.length:=by rcases tl with⟨_,t1,_⟩ | ⟨_,t1,_⟩;exact .inl ⟨_,t1,rfl⟩;exact .inr ⟨_,t1,rfl⟩
      have ln2:LenV K (.ref q') H ys.length:=by rcases tl with⟨_,_,t2⟩ | ⟨_,_,t2⟩;exact .inl ⟨_,t2,rfl⟩;exact .inr ⟨_,t2,rfl⟩
      refine skip1 (fun Q q=>?_) (skip1 (fun Q q=>?_) (skip1 (fun Q q=>?_) (skip1 (fun Q q=>?_) (skip1 (fun Q q=>?_) (skip1 (fun Q q=>?_) ?_)))))
      · simp only[tTest,tOp,tVar,tC,tCB,tCons,tNil,tRet,tNext,tAsg,gName,gTup,gCons,gNil,tB,tUn,rU,rI0,rI,tTup,tLst,tCall,tDrop,tAnd,tOr,tNot,tAndV,tOrV,tNotV,tSl,tPart,tNoPart,tBM,tBM0,rIn,rEq,rNe,scal,rCat,rIxL,rIxT,rIxS,rAppend,L2.start,List.map_cons,List.map_nil,List.cons_append,List.nil_append,List.append_nil,List.length_cons,List.length_nil,List.replicate,List.set_cons_zero,List.set_cons_succ,List.getElem?_cons_zero,List.getElem?_cons_succ,Option.some.injEq,exists_eq_left',exists_eq_left,exists_and_left,exists_eq',exists_const,V.int.injEq,V.bl.injEq,V.str.injEq,V.ref.injEq,V.ty.injEq,List.cons.injEq,and_true,true_and,reduceCtorEq,false_and,and_false,exists_false,or_false,false_or,decide_eq_true_eq,Bool.not_eq_true',decide_eq_false_iff_not,if_true,if_false,Bool.false_eq_true,ite_true,ite_false,Bool.not_true,Bool.not_false,Nat.reduceAdd,Nat.reduceSub,and_assoc];exact q
      · simp only[tTest,tOp,tVar,tC,tCB,tCons,tNil,tRet,tNext,tAsg,gName,gTup,gCons,gNil,tB,tUn,rU,rI0,rI,tTup,tLst,tCall,tDrop,tAnd,tOr,tNot,tAndV,tOrV,tNotV,tSl,tPart,tNoPart,tBM,tBM0,rIn,rEq,rNe,scal,rCat,rIxL,rIxT,rIxS,rAppend,L2.start,List.map_cons,List.map_nil,List.cons_append,List.nil_append,List.append_nil,List.length_cons,List.length_nil,List.replicate,List.set_cons_zero,List.set_cons_succ,List.getElem?_cons_zero,List.getElem?_cons_succ,Option.some.injEq,exists_eq_left',exists_eq_left,exists_and_left,exists_eq',exists_const,V.int.injEq,V.bl.injEq,V.str.injEq,V.ref.injEq,V.ty.injEq,List.cons.injEq,and_true,true_and,reduceCtorEq,false_and,and_false,exists_false,or_false,false_or,decide_eq_true_eq,Bool.not_eq_true',decide_eq_false_iff_not,if_true,if_false,Bool.false_eq_true,ite_true,ite_false,Bool.not_true,Bool.not_false,Nat.reduceAdd,Nat.reduceSub,and_assoc];exact⟨_,tp2,_,hi0,q⟩
      · simp only[tTest,tOp,tVar,tC,tCB,tCons,tNil,tRet,tNext,tAsg,gName,gTup,gCons,gNil,tB,tUn,rU,rI0,rI,tTup,tLst,tCall,tDrop,tAnd,tOr,tNot,tAndV,tOrV,tNotV,tSl,tPart,tNoPart,tBM,tBM0,rIn,rEq,rNe,scal,rCat,rIxL,rIxT,rIxS,rAppend,L2.start,List.map_cons,List.map_nil,List.cons_append,List.nil_append,List.append_nil,List.length_cons,List.length_nil,List.replicate,List.set_cons_zero,List.set_cons_succ,List.getElem?_cons_zero,List.getElem?_cons_succ,Option.some.injEq,exists_eq_left',exists_eq_left,exists_and_left,exists_eq',exists_const,V.int.injEq,V.bl.injEq,V.str.injEq,V.ref.injEq,V.ty.injEq,List.cons.injEq,and_true,true_and,reduceCtorEq,false_and,and_false,exists_false,or_false,false_or,decide_eq_true_eq,Bool.not_eq_true',decide_eq_false_iff_not,if_true,if_false,Bool.false_eq_true,ite_true,ite_false,Bool.not_true,Bool.not_false,Nat.reduceAdd,Nat.reduceSub,and_assoc];exact⟨_,tp2,_,hs0,q⟩
      · simp only[tTest,tOp,tVar,tC,tCB,tCons,tNil,tRet,tNext,tAsg,gName,gTup,gCons,gNil,tB,tUn,rU,rI0,rI,tTup,tLst,tCall,tDrop,tAnd,tOr,tNot,tAndV,tOrV,tNotV,tSl,tPart,tNoPart,tBM,tBM0,rIn,rEq,rNe,scal,rCat,rIxL,rIxT,rIxS,rAppend,L2.start,List.map_cons,List.map_nil,List.cons_append,List.nil_append,List.append_nil,List.length_cons,List.length_nil,List.replicate,List.set_cons_zero,List.set_cons_succ,List.getElem?_cons_zero,List.getElem?_cons_succ,Option.some.injEq,exists_eq_left',exists_eq_left,exists_and_left,exists_eq',exists_const,V.int.injEq,V.bl.injEq,V.str.injEq,V.ref.injEq,V.ty.injEq,List.cons.injEq,and_true,true_and,reduceCtorEq,false_and,and_false,exists_false,or_false,false_or,decide_eq_true_eq,Bool.not_eq_true',decide_eq_false_iff_not,if_true,if_false,Bool.false_eq_true,ite_true,ite_false,Bool.not_true,Bool.not_false,Nat.reduceAdd,Nat.reduceSub,and_assoc]
        refine⟨_,tp2,_,hl0,?_⟩
        cases bl with
        | false=>exact q
        | true=>simp only[tTest,tOp,tVar,tC,tCB,tCons,tNil,tRet,tNext,tAsg,gName,gTup,gCons,gNil,tB,tUn,rU,rI0,rI,tTup,tLst,tCall,tDrop,tAnd,tOr,tNot,tAndV,tOrV,tNotV,tSl,tPart,tNoPart,tBM,tBM0,rIn,rEq,rNe,scal,rCat,rIxL,rIxT,rIxS,rAppend,L2.start,List.map_cons,List.map_nil,List.cons_append,List.nil_append,List.append_nil,List.length_cons,List.length_nil,List.replicate,List.set_cons_zero,List.set_cons_succ,List.getElem?_cons_zero,List.getElem?_cons_succ,Option.some.injEq,exists_eq_left',exists_eq_left,exists_and_left,exists_eq',exists_const,V.int.injEq,V.bl.injEq,V.str.injEq,V.ref.injEq,V.ty.injEq,List.cons.injEq,and_true,true_and,reduceCtorEq,false_and,and_false,exists_false,or_false,false_or,decide_eq_true_eq,Bool.not_eq_true',decide_eq_false_iff_not,if_true,if_false,Bool.false_eq_true,ite_true,ite_false,Bool.not_true,Bool.not_false,Nat.reduceAdd,Nat.reduceSub,and_assoc];exact⟨_,tp1,_,hl0,q⟩
      · simp only[tTest,tOp,tVar,tC,tCB,tCons,tNil,tRet,tNext,tAsg,gName,gTup,gCons,gNil,tB,tUn,rU,rI0,rI,tTup,tLst,tCall,tDrop,tAnd,tOr,tNot,tAndV,tOrV,tNotV,tSl,tPart,tNoPart,tBM,tBM0,rIn,rEq,rNe,scal,rCat,rIxL,rIxT,rIxS,rAppend,L2.start,List.map_cons,List.map_nil,List.cons_append,List.nil_append,List.append_nil,List.length_cons,List.length_nil,List.replicate,List.set_cons_zero,List.set_cons_succ,List.getElem?_cons_zero,List.getElem?_cons_succ,Option.some.injEq,exists_eq_left',exists_eq_left,exists_and_left,exists_eq',exists_const,V.int.injEq,V.bl.injEq,V.str.injEq,V.ref.injEq,V.ty.injEq,List.cons.injEq,and_true,true_and,reduceCtorEq,false_and,and_false,exists_false,or_false,false_or,decide_eq_true_eq,Bool.not_eq_true',decide_eq_false_iff_not,if_true,if_false,Bool.false_eq_true,ite_true,ite_false,Bool.not_true,Bool.not_false,Nat.reduceAdd,Nat.reduceSub,and_assoc]
        refine⟨_,tp2,_,hl1,?_⟩
        cases bl with
        | true=>exact q
        | false=>simp only[tTest,tOp,tVar,tC,tCB,tCons,tNil,tRet,tNext,tAsg,gName,gTup,gCons,gNil,tB,tUn,rU,rI0,rI,tTup,tLst,tCall,tDrop,tAnd,tOr,tNot,tAndV,tOrV,tNotV,tSl,tPart,tNoPart,tBM,tBM0,rIn,rEq,rNe,scal,rCat,rIxL,rIxT,rIxS,rAppend,L2.start,List.map_cons,List.map_nil,List.cons_append,List.nil_append,List.append_nil,List.length_cons,List.length_nil,List.replicate,List.set_cons_zero,List.set_cons_succ,List.getElem?_cons_zero,List.getElem?_cons_succ,Option.some.injEq,exists_eq_left',exists_eq_left,exists_and_left,exists_eq',exists_const,V.int.injEq,V.bl.injEq,V.str.injEq,V.ref.injEq,V.ty.injEq,List.cons.injEq,and_true,true_and,reduceCtorEq,false_and,and_false,exists_false,or_false,false_or,decide_eq_true_eq,Bool.not_eq_true',decide_eq_false_iff_not,if_true,if_false,Bool.false_eq_true,ite_true,ite_false,Bool.not_true,Bool.not_false,Nat.reduceAdd,Nat.reduceSub,and_assoc];exact⟨_,tp1,_,hl1,q⟩
      · simp only[tTest,tOp,tVar,tC,tCB,tCons,tNil,tRet,tNext,tAsg,gName,gTup,gCons,gNil,tB,tUn,rU,rI0,rI,tTup,tLst,tCall,tDrop,tAnd,tOr,tNot,tAndV,tOrV,tNotV,tSl,tPart,tNoPart,tBM,tBM0,rIn,rEq,rNe,scal,rCat,rIxL,rIxT,rIxS,rAppend,L2.start,List.map_cons,List.map_nil,List.cons_append,List.nil_append,List.append_nil,List.length_cons,List.length_nil,List.replicate,List.set_cons_zero,List.set_cons_succ,List.getElem?_cons_zero,List.getElem?_cons_succ,Option.some.injEq,exists_eq_left',exists_eq_left,exists_and_left,exists_eq',exists_const,V.int.injEq,V.bl.injEq,V.str.injEq,V.ref.injEq,V.ty.injEq,List.cons.injEq,and_true,true_and,reduceCtorEq,false_and,and_false,exists_false,or_false,false_or,decide_eq_true_eq,Bool.not_eq_true',decide_eq_false_iff_not,if_true,if_false,Bool.false_eq_true,ite_true,ite_false,Bool.not_true,Bool.not_false,Nat.reduceAdd,Nat.reduceSub,and_assoc]
        refine⟨_,ln1,_,ln2,?_⟩
        simp only[hl,tTest,tOp,tVar,tC,tCB,tCons,tNil,tRet,tNext,tAsg,gName,gTup,gCons,gNil,tB,tUn,rU,rI0,rI,tTup,tLst,tCall,tDrop,tAnd,tOr,tNot,tAndV,tOrV,tNotV,tSl,tPart,tNoPart,tBM,tBM0,rIn,rEq,rNe,scal,rCat,rIxL,rIxT,rIxS,rAppend,L2.start,List.map_cons,List.map_nil,List.cons_append,List.nil_append,List.append_nil,List.length_cons,List.length_nil,List.replicate,List.set_cons_zero,List.set_cons_succ,List.getElem?_cons_zero,List.getElem?_cons_succ,Option.some.injEq,exists_eq_left',exists_eq_left,exists_and_left,exists_eq',exists_const,V.int.injEq,V.bl.injEq,V.str.injEq,V.ref.injEq,V.ty.injEq,List.cons.injEq,and_true,true_and,reduceCtorEq,false_and,and_false,exists_false,or_false,false_or,decide_eq_true_eq,Bool.not_eq_true',decide_eq_false_iff_not,if_true,if_false,Bool.false_eq_true,ite_true,ite_false,Bool.not_true,Bool.not_false,Nat.reduceAdd,Nat.reduceSub,and_assoc]
        exact q
      · simp only[tSeq,tIfS,tTest,tOp,tVar,tC,tCB,tCons,tNil,tRet,tNext,tAsg,gName,gTup,gCons,gNil,tB,tUn,rU,rI0,rI,tTup,tLst,tCall,tDrop,tAnd,tOr,tNot,tAndV,tOrV,tNotV,tSl,tPart,tNoPart,tBM,tBM0,rIn,rEq,rNe,scal,rCat,rIxL,rIxT,rIxS,rAppend,L2.start,List.map_cons,List.map_nil,List.cons_append,List.nil_append,List.append_nil,List.length_cons,List.length_nil,List.replicate,List.set_cons_zero,List.set_cons_succ,List.getElem?_cons_zero,List.getElem?_cons_succ,Option.some.injEq,exists_eq_left',exists_eq_left,exists_and_left,exists_eq',exists_const,V.int.injEq,V.bl.injEq,V.str.injEq,V.ref.injEq,V.ty.injEq,List.cons.injEq,and_true,true_and,reduceCtorEq,false_and,and_false,exists_false,or_false,false_or,decide_eq_true_eq,Bool.not_eq_true',decide_eq_false_iff_not,if_true,if_false,Bool.false_eq_true,ite_true,ite_false,Bool.not_true,Bool.not_false,Nat.reduceAdd,Nat.reduceSub,and_assoc]
        refine⟨_,rfl,_,rfl,src1,src2,xs,ys,by rw[e1,e2],h1 H (.refl H),h2 H (.refl H),for_zip (fun i σ H2=>Same H H2∧∃a b,σ=[some (.ref p),some (.ref q'),a,b]) ⟨.refl H,none,none,rfl⟩ (fun i σ H2 ⟨e,_⟩=>⟨h1 H2 e,h2 H2 e⟩) hl ?_ ?_⟩
        · rintro i x y r σ H2 hx hy hr' ⟨e,a,b,rfl⟩
          simp only[tSeq,tIfS,tTest,tOp,tVar,tC,tCB,tCons,tNil,tRet,tNext,tAsg,gName,gTup,gCons,gNil,tB,tUn,rU,rI0,rI,tTup,tLst,tCall,tDrop,tAnd,tOr,tNot,tAndV,tOrV,tNotV,tSl,tPart,tNoPart,tBM,tBM0,rIn,rEq,rNe,scal,rCat,rIxL,rIxT,rIxS,rAppend,L2.start,List.map_cons,List.map_nil,List.cons_append,List.nil_append,List.append_nil,List.length_cons,List.length_nil,List.replicate,List.set_cons_zero,List.set_cons_succ,List.getElem?_cons_zero,List.getElem?_cons_succ,Option.some.injEq,exists_eq_left',exists_eq_left,exists_and_left,exists_eq',exists_const,V.int.injEq,V.bl.injEq,V.str.injEq,V.ref.injEq,V.ty.injEq,List.cons.injEq,and_true,true_and,reduceCtorEq,false_and,and_false,exists_false,or_false,false_or,decide_eq_true_eq,Bool.not_eq_true',decide_eq_false_iff_not,if_true,if_false,Bool.false_eq_true,ite_true,ite_false,Bool.not_true,Bool.not_false,Nat.reduceAdd,Nat.reduceSub,and_assoc]
          refine⟨_,SqT.of upd_same,rfl,?_⟩
          simp only[tSeq,tIfS,tTest,tOp,tVar,tC,tCB,tCons,tNil,tRet,tNext,tAsg,gName,gTup,gCons,gNil,tB,tUn,rU,rI0,rI,tTup,tLst,tCall,tDrop,tAnd,tOr,tNot,tAndV,tOrV,tNotV,tSl,tPart,tNoPart,tBM,tBM0,rIn,rEq,rNe,scal,rCat,rIxL,rIxT,rIxS,rAppend,L2.start,List.map_cons,List.map_nil,List.cons_append,List.nil_append,List.append_nil,List.length_cons,List.length_nil,List.replicate,List.set_cons_zero,List.set_cons_succ,List.getElem?_cons_zero,List.getElem?_cons_succ,Option.some.injEq,exists_eq_left',exists_eq_left,exists_and_left,exists_eq',exists_const,V.int.injEq,V.bl.injEq,V.str.injEq,V.ref.injEq,V.ty.injEq,List.cons.injEq,and_true,true_and,reduceCtorEq,false_and,and_false,exists_false,or_false,false_or,decide_eq_true_eq,Bool.not_eq_true',decide_eq_false_iff_not,if_true,if_false,Bool.false_eq_true,ite_true,ite_false,Bool.not_true,Bool.not_false,Nat.reduceAdd,Nat.reduceSub,and_assoc]
          refine⟨x,y,rfl,.inl ⟨(hi i x y hx hy).same (e.trans (same_upd hr')),fun H3 e3=>?_⟩⟩
          simp only[tSeq,tIfS,tTest,tOp,tVar,tC,tCB,tCons,tNil,tRet,tNext,tAsg,gName,gTup,gCons,gNil,tB,tUn,rU,rI0,rI,tTup,tLst,tCall,tDrop,tAnd,tOr,tNot,tAndV,tOrV,tNotV,tSl,tPart,tNoPart,tBM,tBM0,rIn,rEq,rNe,scal,rCat,rIxL,rIxT,rIxS,rAppend,L2.start,List.map_cons,List.map_nil,List.cons_append,List.nil_append,List.append_nil,List.length_cons,List.length_nil,List.replicate,List.set_cons_zero,List.set_cons_succ,List.getElem?_cons_zero,List.getElem?_cons_succ,Option.some.injEq,exists_eq_left',exists_eq_left,exists_and_left,exists_eq',exists_const,V.int.injEq,V.bl.injEq,V.str.injEq,V.ref.injEq,V.ty.injEq,List.cons.injEq,and_true,true_and,reduceCtorEq,false_and,and_false,exists_false,or_false,false_or,decide_eq_true_eq,Bool.not_eq_true',decide_eq_false_iff_not,if_true,if_false,Bool.false_eq_true,ite_true,ite_false,Bool.not_true,Bool.not_false,Nat.reduceAdd,Nat.reduceSub,and_assoc]
          exact e.trans ((same_upd hr').trans e3)
        · rintro σ H2 ⟨e,a,b,rfl⟩
          simp only[tSeq,tIfS,tTest,tOp,tVar,tC,tCB,tCons,tNil,tRet,tNext,tAsg,gName,gTup,gCons,gNil,tB,tUn,rU,rI0,rI,tTup,tLst,tCall,tDrop,tAnd,tOr,tNot,tAndV,tOrV,tNotV,tSl,tPart,tNoPart,tBM,tBM0,rIn,rEq,rNe,scal,rCat,rIxL,rIxT,rIxS,rAppend,L2.start,List.map_cons,List.map_nil,List.cons_append,List.nil_append,List.append_nil,List.length_cons,List.length_nil,List.replicate,List.set_cons_zero,List.set_cons_succ,List.getElem?_cons_zero,List.getElem?_cons_succ,Option.some.injEq,exists_eq_left',exists_eq_left,exists_and_left,exists_eq',exists_const,V.int.injEq,V.bl.injEq,V.str.injEq,V.ref.injEq,V.ty.injEq,List.cons.injEq,and_true,true_and,reduceCtorEq,false_and,and_false,exists_false,or_false,false_or,decide_eq_true_eq,Bool.not_eq_true',decide_eq_false_iff_not,if_true,if_false,Bool.false_eq_true,ite_true,ite_false,Bool.not_true,Bool.not_false,Nat.reduceAdd,Nat.reduceSub,and_assoc]
          exact q H2 e
def spLaw (K:PySem.W.Frag):Sp:=fun vs H Q _=>∃(a:Addr) (ns:List Int),vs=[.ref a]∧SqL K H a (ns.map V.int)∧ns.length≤63∧∀H',Q (.bl true) H'
end
end Wb
namespace Mi
theorem at_ok {s:List Int} (hs:s.length≤63) (k:Nat) (hk:k≤200):∃n,Z0u s (k:Int)=.ok n:=by
  unfold Z0u Z7F
  by_cases h:(k:Int)< (s.length:Int)
  · rw[if_pos (by simpa using h)]
    obtain⟨x,e,_⟩:=ixL_get (xs:=s) (i:=(k:Int)) (by omega) h
    exact⟨x,e⟩
  · rw[if_neg (by simpa using h),mulR_okR (by omega) (by omega)]
    exact⟨_,rfl⟩
theorem row_b1 (c b:Int) (hb:1≤b) (hb2:b< 1073741824) (k:Nat) (s:Int×Int×List Int) (h1:0≤s.2.1) (hl:s.2.2.length< 100000):∃s':Int×Int×List Int,Z1J c b (k:Int) s=.ok s'∧0≤s'.2.1∧∃v,0≤v∧v< b∧s'.2.2=s.2.2++ [v]:=by
  unfold Z1J
  have hm0:=Int.emod_nonneg (s.1*48271+7919+(k:Int)) (show(2147483647:Int)≠0 by decide)
  have hm1:=Int.emod_lt_of_pos (s.1*48271+7919+(k:Int)) (show(0:Int)< 2147483647 by decide)
  generalize (s.1*48271+7919+(k:Int))% 2147483647=mx at*
  have other:∀z:Int,0≤z% b∧z% b< b:=fun z=>⟨Int.emod_nonneg _ (by omega),Int.emod_lt_of_pos _ (by omega)⟩
  have A:∀z:Int,appL s.2.2 z=.ok (s.2.2++ [z]):=fun z=>appL_ok hl
  have e2:((((mulR mx mx).bind fun y63=>Res.ok (y63% 1000003)).bind fun y64=>modR y64 b).bind fun y69=>appL s.2.2 y69)=.ok (s.2.2++ [mx*mx% 1000003% b]):=by
    rw[mulR_okL (by omega) (by omega)];simp only[Res.bind_ok'];rw[modR_ok (by omega)];exact A _
  have e1:((modR s.2.1 b).bind fun y56=>appL s.2.2 y56)=.ok (s.2.2++ [s.2.1% b]):=by rw[modR_ok (by omega)];exact A _
  by_cases hf:(1000000000000000000:Int)≤absI c
  · rw[decide_eq_true hf]
    by_cases hp:0< s.2.1
    · rw[decide_eq_true hp]
      simp only[if_true,Res.bind_ok',e1,fdivR_ok (show 0< b by omega) hb2]
      exact⟨_,rfl,Int.ediv_nonneg h1 (by omega),_,(other _).1,(other _).2,rfl⟩
    · rw[decide_eq_false hp]
      simp only[if_true,Res.bind_ok',Bool.false_eq_true,if_false,e2]
      exact⟨_,rfl,h1,_,(other _).1,(other _).2,rfl⟩
  · rw[decide_eq_false hf]
    simp only[Res.bind_ok',Bool.false_eq_true,if_false,e2]
    exact⟨_,rfl,h1,_,(other _).1,(other _).2,rfl⟩
theorem row_ok (c:Int) (n:Nat) (b:Int) (hn:n≤1000) (hb:1≤b) (hb2:b< 1073741824):∃ns,Z1K c (n:Int) b=.ok ns∧ns.length=n∧∀x∈ns,0≤x∧x< b:=by
  unfold Z1K Z71
  rw[rangeR_ok (by omega),Res.bind_ok']
  obtain⟨s,e,h0,hl,hb⟩:=forR_inv (f:=Z1J c b) (fun pre (s:Int×Int×List Int)=>0≤s.2.1∧s.2.2.length=pre.length∧∀x∈s.2.2,0≤x∧x< b) ((List.range n).map fun(i:Nat)=>(i:Int)) ((absI c)% 2147483647,absI c,[]) ⟨absI_nn c,rfl,by simp⟩ (by
    intro pre a post s e ⟨h0,hl,hb'⟩
    have hlen:pre.length< n:=by have:=congrArg List.length e;simp at this;omega
    obtain⟨k,rfl⟩:∃k:Nat,a=(k:Int):=by
      have:a∈(List.range n).map fun(i:Nat)=>(i:Int):=by rw[e];simp
      obtain⟨k,_,hk⟩:=List.mem_map.mp this;exact⟨k,hk.symm⟩
    obtain⟨s',e',h0',v,v0,v1,ev⟩:=row_b1 c b hb hb2 k s h0 (by omega)
    refine⟨s',e',h0',by rw[ev];simp[hl],fun x hx=>?_⟩
    rw[ev]at hx
    rcases List.mem_append.mp hx with z | z
    · exact hb' x z
    · rw[List.mem_singleton.mp z];exact⟨v0,v1⟩)
  rw[e]
  exact⟨_,rfl,by rw[hl];simp,hb⟩
def isTurn (c:Nat):Prop:=c=102∨c=98∨c=105
def Turns (t:Tx):Prop:=∀c∈t,isTurn c
theorem fbi_at (d:Int) (h0:0≤d) (h1:d< 3):∃c,ixS ([102,98,105]:Tx) d=.ok [c]∧isTurn c:=by
  obtain⟨c,e,h⟩:=ixS_get (x:=([102,98,105]:Tx)) (i:=d) h0 (by simp;omega) (by decide)
  refine⟨c,e,?_⟩
  have:=List.mem_of_getElem? h
  simpa [isTurn] using this
theorem turns_ok (c:Int) (n:Nat) (hn:n≤1000):∃t,Z0L c (n:Int)=.ok t∧t.length=n∧Turns t:=by
  unfold Z0L Z4o
  by_cases h:c% 7=3
  · rw[if_pos (by simpa using h)]
    obtain⟨y,e,hy⟩:=fbi_at (c/ 7% 3) (Int.emod_nonneg _ (by decide)) (Int.emod_lt_of_pos _ (by decide))
    rw[e,Res.bind_ok',repS_ok (by omega) (by omega)]
    refine⟨_,rfl,by simp,fun x hx=>?_⟩
    rw[List.eq_of_mem_replicate hx];exact hy
  · rw[if_neg (by simpa using h)]
    obtain⟨ds,e,hl,hb⟩:=row_ok (c/ 7) n 3 hn (by decide) (by decide)
    rw[e,Res.bind_ok']
    have key:∃t:List Nat,compR ds (fun(a9:Int)=>ixS ([102,98,105]:Tx) a9)=.ok (t.map fun c=>[c])∧t.length=n∧Turns t:=by
      have:∀d∈ds,∃c:Nat,ixS ([102,98,105]:Tx) d=.ok [c]∧isTurn c:=fun d hd=>fbi_at d (hb d hd).1 (hb d hd).2
      have hf:∀d∈ds,ixS ([102,98,105]:Tx) d=.ok ((fun d=>[if d=0 then 102 else if d=1 then 98 else 105]) d):=fun d hd=>by
        have h1:=hb d hd
        have:d=0∨d=1∨d=2:=by omega
        rcases this with rfl | rfl | rfl <;> rfl
      rw[compR_ok (by show ds.length≤100000;omega) hf]
      refine⟨ds.map fun d=>if d=0 then 102 else if d=1 then 98 else 105,by simp,by simp[hl],fun x hx=>?_⟩
      obtain⟨d,_,rfl⟩:=List.mem_map.mp hx
      unfold isTurn;split
      · exact .inl rfl
      · split
        · exact .inr (.inl rfl)
        · exact .inr (.inr rfl)
    obtain⟨t,e2,hl2,ht⟩:=key
    rw[e2,Res.bind_ok',joinE_ok (by rw[flat1];omega),flat1]
    exact⟨t,rfl,hl2,ht⟩
theorem ixU20 (a b:Dat):ixU (.t [a,b]) 0=.ok a:=rfl
theorem ixU21 (a b:Dat):ixU (.t [a,b]) 1=.ok b:=rfl
theorem ixU30 (a b c:Dat):ixU (.t [a,b,c]) 0=.ok a:=rfl
theorem ixU31 (a b c:Dat):ixU (.t [a,b,c]) 1=.ok b:=rfl
theorem ixU32 (a b c:Dat):ixU (.t [a,b,c]) 2=.ok c:=rfl
theorem ixU10 (a:Dat):ixU (.t [a]) 0=.ok a:=rfl
theorem oI (x:Int):ofO (ofI (.i x))=.ok x:=rfl
theorem oT (x:Tx):ofO (ofT (.s x))=.ok x:=rfl
abbrev tRow:Tx:=[114,111,119]
abbrev tAll:Tx:=[97,108,108]
abbrev tTim:Tx:=[116,105,109,101,115]
abbrev tMir:Tx:=[109,105,114,114,111,114]
inductive Stm (R:Tx→Prop):Nat→Dat→Prop where
  | row {k:Nat} {x:Tx} :R x→Stm R k (.t [.s tRow,.s x])
  | all {k:Nat} {c:Nat} :isTurn c→Stm R k (.t [.s tAll,.s [c]])
  | tim {k:Nat} {n:Int} {b:List Dat} :0≤n→n≤99→b.length≤1000→(∀s∈b,Stm R k s)→Stm R (k+1) (.t [.s tTim,.i n,.l b])
  | mir {k:Nat} {b:List Dat} :b.length≤1000→(∀s∈b,Stm R k s)→Stm R (k+1) (.t [.s tMir,.l b])
def Prg (R:Tx→Prop) (k:Nat) (l:List Dat):Prop:=∀s∈l,Stm R k s
theorem Prg.nil {R:Tx→Prop} {k:Nat} :Prg R k []:=fun s h=>by simp at h
theorem Prg.snoc {R:Tx→Prop} {k:Nat} {l:List Dat} {d:Dat} (h:Prg R k l) (hd:Stm R k d):Prg R k (l++ [d]):=fun s hs=>by
  rcases List.mem_append.mp hs with z | z
  · exact h s z
  · rw[List.mem_singleton.mp z];exact hd
def sumS:Nat→Dat→Int
  | 0,_=>1
  | k + 1, d => match d with
    | .t [.s _,.i n,.l b]=>n*(b.map (sumS k)).sum
    | .t [.s _,.l b]=>2*(b.map (sumS k)).sum
    | _=>1
def sumP (k:Nat) (l:List Dat):Int:=(l.map (sumS k)).sum
theorem sumP_cons (k:Nat) (d:Dat) (l:List Dat):sumP k (d::l)=sumS k d+sumP k l:=by simp[sumP]
theorem sumS_row (k:Nat) (a x:Tx):sumS k (.t [.s a,.s x])=1:=by cases k <;> rfl
theorem Dat.le_up:∀(m n:Nat) (d:Dat),n≤m→d.le n→d.le m:=by
  intro m
  induction m with
  | zero => intro n d h1 h2; have : n = 0 := by omega
            subst this;exact h2
  | succ m ih =>
    intro n d h1 h2
    cases n with
    | zero => cases d with
      | t xs=>exact h2.elim
      | l xs=>exact h2.elim
      | _=>trivial
    | succ n => cases d with
      | t xs=>exact fun x hx=>ih n x (by omega) (h2 x hx)
      | l xs=>exact fun x hx=>ih n x (by omega) (h2 x hx)
      | _=>trivial
theorem Stm.le {R:Tx→Prop} :∀(k:Nat) (d:Dat),Stm R k d→d.le (2*k+1):=by
  intro k
  induction k with
  | zero=>intro d h;cases h <;> simp[Dat.le]
  | succ k ih =>
    intro d h
    have fl:∀b:List Dat,(∀s∈b,Stm R k s)→(Dat.l b).le (2*k+2):=fun b hb s hs=>ih s (hb s hs)
    have e:∀j:Nat,(Dat.t []).le (j+1):=fun j x hx=>by simp at hx
    cases h with
    | row h=>intro x hx;simp at hx;rcases hx with rfl | rfl <;> trivial
    | all h=>intro x hx;simp at hx;rcases hx with rfl | rfl <;> trivial
    | tim h0 h1 h2 h3=>intro x hx;simp at hx;rcases hx with rfl | rfl | rfl;trivial;trivial;exact fl _ h3
    | mir h2 h3=>intro x hx;simp at hx;rcases hx with rfl | rfl;trivial;exact fl _ h3
theorem neRT:¬(tRow=tTim):=by decide
theorem neRM:¬(tRow=tMir):=by decide
theorem neAT:¬(tAll=tTim):=by decide
theorem neAM:¬(tAll=tMir):=by decide
theorem neMT:¬(tMir=tTim):=by decide
theorem oL (x:List Dat):ofO (ofLU (.l x))=.ok x:=rfl
theorem sum_b1 {R:Tx→Prop} {k:Nat} {d:Dat} (h:Stm R k d) {m:List Dat→Res Int} (hm:∀k' b,k=k'+1→Prg R k' b→m b=.ok (sumP k' b)) (a:Int):Z1L m d a=.ok (a+sumS k d):=by
  unfold Z1L
  cases h with
  | row h=>rw[sumS_row];simp only[ixU20,ixU21,oT,Res.bind_ok',neRT,neRM,decide_false,Bool.false_eq_true,if_false]
  | all h=>rw[sumS_row];simp only[ixU20,ixU21,oT,Res.bind_ok',neAT,neAM,decide_false,Bool.false_eq_true,if_false]
  | @tim k n b h0 h1 h2 h3 =>
    simp only[ixU30,ixU31,ixU32,oT,oI,oL,Res.bind_ok',decide_true,if_true]
    rw[hm k b rfl h3]
    simp only[Res.bind_ok']
    rw[mulR_okL (by omega) (by omega)];rfl
  | @mir k b h2 h3 =>
    simp only[ixU20,ixU21,oT,oL,Res.bind_ok',neMT,decide_true,if_true,decide_false,Bool.false_eq_true,if_false]
    rw[hm k b rfl h3]
    simp only[Res.bind_ok']
    rw[mulR_okL (by decide) (by decide)];rfl
theorem sum_walk {R:Tx→Prop} {k:Nat} {m:List Dat→Res Int} (hm:∀k' b,k=k'+1→Prg R k' b→m b=.ok (sumP k' b)):∀(l:List Dat),Prg R k l→∀a:Int,forR (Z1L m) l a=.ok (a+sumP k l)
  | [],_,a=>by simp[forR,sumP]
  | d :: r, h, a => by
    unfold forR
    rw[sum_b1 (h d (List.mem_cons_self ..)) hm,Res.bind_ok',sum_walk hm r (fun s hs=>h s (List.mem_cons_of_mem _ hs)),sumP_cons,Int.add_assoc]
theorem sumf_ok {R:Tx→Prop} :∀(f k:Nat) (l:List Dat),k< f→Prg R k l→Z30 f l=.ok (sumP k l)
  | 0,k,l,h,_=>by omega
  | f + 1, k, l, h, hp => by
    show Z5g (Z30 f) l=_
    unfold Z5g
    rw[sum_walk (R:=R) (k:=k) (fun k' b e hb=>sumf_ok f k' b (by omega) hb) l hp]
    simp
theorem sum_ok {R:Tx→Prop} {k:Nat} {l:List Dat} (hk:k< 20) (h:Prg R k l):Z0Q l=.ok (sumP k l):=sumf_ok 20 k l hk h
def Stk (R:Tx→Prop):Nat→List Fr→Prop
  | _,[]=>True
  | d,f::r=>(0≤f.1.2∧f.1.2≤99)∧Prg R d f.2∧Stk R (d+1) r
mutual
def nsz:Dat→Nat
  | .t xs=>1+nszL xs
  | .l xs=>nszL xs
  | _=>0
def nszL:List Dat→Nat
  | []=>0
  | d::r=>nsz d+nszL r
end
theorem nsz_row (a x:Tx):nsz (.t [.s a,.s x])=1:=by simp[nsz,nszL]
theorem nsz_tim (a:Tx) (n:Int) (b:List Dat):nsz (.t [.s a,.i n,.l b])=1+nszL b:=by simp[nsz,nszL]
theorem nsz_mir (a:Tx) (b:List Dat):nsz (.t [.s a,.l b])=1+nszL b:=by simp[nsz,nszL]
theorem nszL_snoc (d:Dat):∀l,nszL (l++ [d])=nszL l+nsz d
  | []=>by simp[nszL]
  | a::r=>by simp[nszL,nszL_snoc d r];omega
def nszF:List Fr→Nat
  | []=>0
  | f::r=>1+nszL f.2+nszF r
def Lens (c:Nat) (s:List Fr):Prop:=(∀f∈s,f.2.length≤c)∧nszF s≤c+1
theorem Lens.up {c c':Nat} {s:List Fr} (h:Lens c s) (hc:c≤c'):Lens c' s:=⟨fun f hf=>Nat.le_trans (h.1 f hf) hc,by have:=h.2;omega⟩
theorem app_ok {R:Tx→Prop} {d c:Nat} {f:Fr} {r:List Fr} {s:Dat} (h:Stk R d (f::r)) (hl:Lens c (f::r)) (hc:c< 900) (hs:Stm R d s) (hz:nszF (f::r)+nsz s≤c+2):((topS (f::r)).bind fun _=>appS (f::r) s)=.ok ((f.1,f.2++ [s])::r)∧Stk R d ((f.1,f.2++ [s])::r)∧Lens (c+1) ((f.1,f.2++ [s])::r):=by
  have hf:=hl.1 f (List.mem_cons_self ..)
  refine⟨?_,⟨h.1,h.2.1.snoc hs,h.2.2⟩,fun g hg=>?_,by unfold nszF at hz ⊢;rw[nszL_snoc];omega⟩
  · show must (f.2.length< cap) ((f.1,f.2++ [s])::r)=_
    exact must_ok (by unfold cap;omega)
  · rcases List.mem_cons.mp hg with rfl | hg
    · simp;exact hf
    · exact Nat.le_succ_of_le (hl.1 g (List.mem_cons_of_mem _ hg))
theorem fold_ok {R:Tx→Prop} {d c:Nat} {f g:Fr} {r:List Fr} (h:Stk R d (f::g::r)) (hl:Lens c (f::g::r)) (hc:c< 900) (hd:d< 19):∃s,Z0q (f::g::r)=.ok ((g.1,g.2++ [s])::r)∧Stk R (d+1) ((g.1,g.2++ [s])::r)∧Lens (c+1) ((g.1,g.2++ [s])::r):=by
  unfold Z0q Z3x
  rw[if_pos (by simp;omega)]
  have hf:=hl.1 f (List.mem_cons_self ..)
  have hz:=hl.2
  unfold nszF at hz
  have hl':Lens c (g::r):=⟨fun x hx=>hl.1 x (List.mem_cons_of_mem _ hx),by omega⟩
  simp only[popS,Res.bind_ok',sum_ok (show d< 20 by omega) h.2.1]
  obtain⟨n1,e1,q0,q1⟩:∃n1:Int,(if decide (sumP d f.2=(0:Int))=true then Res.ok (f.1.2% 4)else Res.ok f.1.2:Res Int)=.ok n1∧0≤n1∧n1≤99:=by
    have:=h.1
    by_cases z:sumP d f.2=0
    · rw[if_pos (by simpa using z)];exact⟨_,rfl,by omega,by omega⟩
    · rw[if_neg (by simpa using z)];exact⟨_,rfl,by omega,by omega⟩
  rw[e1,Res.bind_ok']
  obtain⟨n2,e2,p0,p1⟩:∃n2:Int,((if decide (n1=(0:Int))=true then Res.ok (decide ((3000:Int)< sumP d f.2))else Res.ok false:Res Bool).bind fun y37=>(if y37=true then Res.ok (1:Int)else Res.ok n1:Res Int))=.ok n2∧0≤n2∧n2≤99:=by
    by_cases z:n1=0
    · rw[if_pos (by simpa using z),Res.bind_ok']
      by_cases w:3000< sumP d f.2
      · rw[if_pos (by simpa using w)];exact⟨1,rfl,by decide,by decide⟩
      · rw[if_neg (by simpa using w)];exact⟨n1,rfl,q0,q1⟩
    · rw[if_neg (by simpa using z),Res.bind_ok',if_neg (by decide)];exact⟨n1,rfl,q0,q1⟩
  rw[e2,Res.bind_ok']
  have hb:f.2.length≤1000:=by omega
  by_cases z:f.1.1=tTim
  · rw[if_pos (by simpa using z)]
    have hs:Stm R (d+1) (.t [.s tTim,.i n2,.l f.2]):=.tim p0 p1 hb h.2.1
    obtain⟨a1,a2,a3⟩:=app_ok h.2.2 hl' hc hs (by rw[nsz_tim];omega)
    refine⟨_,?_,a2,a3⟩
    rw[show(f.2.map fun z=>z)=f.2 by simp,a1];rfl
  · rw[if_neg (by simpa using z)]
    have hs:Stm R (d+1) (.t [.s tMir,.l f.2]):=.mir hb h.2.1
    obtain⟨a1,a2,a3⟩:=app_ok h.2.2 hl' hc hs (by rw[nsz_mir];omega)
    refine⟨_,?_,a2,a3⟩
    rw[show(f.2.map fun z=>z)=f.2 by simp,a1];rfl
theorem fold_one (f:Fr):Z0q [f]=.ok [f]:=by
  unfold Z0q Z3x
  rw[if_neg (by simp)]
def RowW (w:Nat) (x:Tx):Prop:=x.length=w∧Turns x
structure SOk (w most c:Nat) (s:List Fr):Prop where
  ne:1≤s.length
  le:s.length≤most
  st:Stk (RowW w) (most- s.length) s
  ln:Lens c s
theorem prog_b1 {w most c:Nat} (hw:w≤900) (hm:1≤most) (hm2:most≤12) (hc:c< 800) (a:Int) {s:List Fr} (h:SOk w most c s):∃s',Z19 Z0L Z0q (w:Int) (most:Int) a s=.ok s'∧SOk w most (c+1) s':=by
  unfold Z19
  match s,h with
  | [],h=>exact absurd h.ne (by simp)
  | f :: r, h =>
    obtain⟨ne,le,st,ln⟩:=h
    by_cases c0:a% 6< 2
    · rw[if_pos (by simpa using c0)]
      obtain⟨x,ex,hl,hx⟩:=turns_ok (a/ 6) w (by omega)
      obtain⟨a1,a2,a3⟩:=app_ok (s:=.t [.s tRow,.s x]) st ln (by omega) (.row ⟨hl,hx⟩) (by rw[nsz_row];have:=ln.2;omega)
      refine⟨_,?_,by simp,by simpa using le,by simpa using a2,a3⟩
      rw[ex]
      simp only[Res.bind_ok']at a1 ⊢
      rw[a1];rfl
    · rw[if_neg (by simpa using c0)]
      by_cases c1:a% 6=2
      · rw[if_pos (by simpa using c1)]
        obtain⟨t,et,ht⟩:=fbi_at (a/ 6% 3) (Int.emod_nonneg _ (by decide)) (Int.emod_lt_of_pos _ (by decide))
        obtain⟨a1,a2,a3⟩:=app_ok (s:=.t [.s tAll,.s [t]]) st ln (by omega) (.all ht) (by rw[nsz_row];have:=ln.2;omega)
        refine⟨_,?_,by simp,by simpa using le,by simpa using a2,a3⟩
        rw[et]
        simp only[Res.bind_ok']at a1 ⊢
        rw[a1];rfl
      · rw[if_neg (by simpa using c1)]
        have foldc:∃s',Z0q (f::r)=.ok s'∧SOk w most (c+1) s':=by
          match r,ne,le,st,ln with
          | [],ne,le,st,ln=>exact⟨[f],fold_one f,by simp,le,st,ln.up (by omega)⟩
          | g :: r, ne, le, st, ln =>
            simp at le
            obtain⟨s,b1,b2,b3⟩:=fold_ok st ln (by omega) (by omega)
            refine⟨_,b1,by simp,by simp;omega,?_,b3⟩
            simp at b2 ⊢
            rw[show most- (r.length+1)=most- (r.length+1+1)+1 by omega];exact b2
        have pushc:∀(t:Tx) (n:Int),0≤n→n≤99→(f::r).length< most→∃s',pushS (f::r) (t,n)=.ok s'∧SOk w most (c+1) s':=fun t n h0 h1 hlt=>by
          refine⟨((t,n),[])::f::r,must_ok (by unfold cap;omega),by simp,by simp at hlt ⊢;omega,⟨⟨h0,h1⟩,Prg.nil,?_⟩,fun g hg=>?_,by have:=ln.2;show 1+nszL []+nszF (f::r)≤_;unfold nszL;omega⟩
          · rw[show most- (((t,n),([]:List Dat))::f::r).length+1=most- (f::r).length by simp at hlt ⊢;omega];exact st
          · rcases List.mem_cons.mp hg with rfl | hg
            · simp
            · exact Nat.le_succ_of_le (ln.1 g hg)
        by_cases c2:a% 6=5∨(f::r).length=most
        · have:(if decide (a% 6=(5:Int))=true then Res.ok true else Res.ok (decide (((f::r).length:Int)=(most:Int))):Res Bool)=.ok true:=by
            by_cases z:a% 6=5
            · rw[if_pos (by simpa using z)]
            · rw[if_neg (by simpa using z)]
              have:=c2.resolve_left z
              rw[this];simp
          obtain⟨s',e,h'⟩:=foldc
          refine⟨s',?_,h'⟩
          rw[this,Res.bind_ok',if_pos rfl,e];rfl
        · have nz:¬a% 6=5:=fun z=>c2 (.inl z)
          have nl:¬(f::r).length=most:=fun z=>c2 (.inr z)
          have:(if decide (a% 6=(5:Int))=true then Res.ok true else Res.ok (decide (((f::r).length:Int)=(most:Int))):Res Bool)=.ok false:=by
            rw[if_neg (by simpa using nz)]
            rw[decide_eq_false (fun z=>nl (by exact_mod_cast z))]
          rw[this,Res.bind_ok',if_neg (by decide)]
          have hlt:(f::r).length< most:=by omega
          by_cases c3:a% 6=3
          · rw[if_pos (by simpa using c3)]
            obtain⟨n,en,n0,n1⟩:∃n:Int,(if decide (a/ 24% 5=(1:Int))=true then Res.ok (a/ 120% 100)else Res.ok (a/ 6% 4):Res Int)=.ok n∧0≤n∧n≤99:=by
              by_cases z:a/ 24% 5=1
              · rw[if_pos (by simpa using z)];exact⟨_,rfl,by omega,by omega⟩
              · rw[if_neg (by simpa using z)];exact⟨_,rfl,by omega,by omega⟩
            obtain⟨s',e,h'⟩:=pushc tTim n n0 n1 hlt
            refine⟨s',?_,h'⟩
            rw[en,Res.bind_ok',e];rfl
          · rw[if_neg (by simpa using c3)]
            obtain⟨s',e,h'⟩:=pushc tMir 0 (by decide) (by decide) hlt
            refine⟨s',?_,h'⟩
            rw[e];rfl
theorem prog_while {w most:Nat} (hm2:most≤12):∀(n c:Nat) (s:List Fr),SOk w most c s→s.length≤n→c+n< 800→∃f,whileR Z0Z (Z1a Z0q) (n+1) s=.ok [f]∧SOk w most (c+n) [f]
  | n,c,[],h,hl,hc=>absurd h.ne (by simp)
  | n, c, [f], h, hl, hc => by
    refine⟨f,?_,h.ne,h.le,h.st,h.ln.up (by omega)⟩
    unfold whileR Z0Z
    rw[Res.bind_ok',if_neg (by simp)]
  | 0,c,f::g::r,h,hl,hc=>by simp at hl
  | n + 1, c, f :: g :: r, h, hl, hc => by
    obtain⟨ne,le,st,ln⟩:=h
    simp at le
    obtain⟨s,b1,b2,b3⟩:=fold_ok st ln (by omega) (by omega)
    have h':SOk w most (c+1) ((g.1,g.2++ [s])::r):=⟨by simp,by simp;omega,by
      simp at b2 ⊢
      rw[show most- (r.length+1)=most- (r.length+1+1)+1 by omega];exact b2,b3⟩
    obtain⟨f',e,h2⟩:=prog_while hm2 n (c+1) _ h' (by simp at hl ⊢;omega) (by omega)
    refine⟨f',?_,by rw[show c+(n+1)=c+1+n by omega];exact h2⟩
    unfold whileR
    rw[show Z0Z (f::g::r)=.ok true by unfold Z0Z;rw[decide_eq_true (by simp;omega)],Res.bind_ok',if_pos rfl]
    rw[show Z1a Z0q (f::g::r)=.ok ((g.1,g.2++ [s])::r) by unfold Z1a;rw[b1];rfl,Res.bind_ok',e]
theorem whileR_more {S:Type} {c:S→Res Bool} {f:S→Res S} :∀(n m:Nat) (s r:S),n≤m→whileR c f n s=.ok r→whileR c f m s=.ok r
  | 0,m,s,r,_,h=>by cases h
  | n+1,0,s,r,h,_=>by omega
  | n + 1, m + 1, s, r, hm, h => by
    unfold whileR at h ⊢
    cases e:c s with
    | ok b =>
      rw[e,Res.bind_ok']at h
      rw[Res.bind_ok']
      cases b with
      | false=>exact h
      | true =>
        rw[if_pos rfl]at h ⊢
        cases e2:f s with
        | ok s'=>rw[e2,Res.bind_ok']at h;rw[Res.bind_ok'];exact whileR_more n m s' r (by omega) h
        | err j=>rw[e2]at h;cases h
        | stuck=>rw[e2]at h;cases h
    | err j=>rw[e]at h;cases h
    | stuck=>rw[e]at h;cases h
theorem program_okz {w most:Nat} (hw:w≤900) (hm:1≤most) (hm2:most≤12) (ds:List Int) (hd:ds.length≤700):∃l,Z0S ds (w:Int) (most:Int)=.ok l∧Prg (RowW w) (most- 1) l∧l.length≤800∧nszL l≤ds.length+12:=by
  unfold Z0S Z2N
  obtain⟨s,es,hs⟩:=forR_inv (f:=Z19 Z0L Z0q (w:Int) (most:Int)) (fun pre s=>SOk w most pre.length s) ds [((([116,111,112]:Tx),(0:Int)),[])] ⟨by simp,by simpa using hm,by simp[Stk,Prg],fun f hf=>by simp at hf;simp[hf],by simp[nszF,nszL]⟩ (by
    intro pre a post s e h
    have hlen:pre.length< ds.length:=by have:=congrArg List.length e;simp at this;omega
    obtain⟨s',e',h'⟩:=prog_b1 (c:=pre.length) hw hm hm2 (by omega) a h
    exact⟨s',e',by simpa using h'⟩)
  rw[es,Res.bind_ok']
  obtain⟨f,ef,hf⟩:=prog_while (w:=w) hm2 s.length ds.length s hs (Nat.le_refl _) (by have:=hs.le;omega)
  rw[whileR_more (s.length+1) cap s [f] (by have:=hs.le;unfold cap;omega) ef,Res.bind_ok']
  have h1:=hf.ln.1 f (by simp)
  have h2:=hs.le
  have h3:=hf.ln.2
  unfold nszF nszF at h3
  exact⟨f.2,rfl,by have:=hf.st.2.1;simpa using this,by omega,by omega⟩
theorem draws_ok {s:List Int} (hs:s.length≤63) (k:Nat) (hk:k≤60):∃ds,Z17 s (k:Int)=.ok ds∧ds.length≤60:=by
  unfold Z17 Z4n
  obtain⟨a,ea⟩:=at_ok hs k (by omega)
  rw[ea]
  simp only[Res.bind_ok']
  obtain⟨n,en,hn⟩:∃n:Nat,(if decide (a/ 16% 6=(1:Int))=true then Res.ok ((40:Int)+a/ 96% 20)else Res.ok (a% 16):Res Int)=.ok (n:Int)∧n≤60:=by
    by_cases z:a/ 16% 6=1
    · rw[if_pos (by simpa using z)];exact⟨((40:Int)+a/ 96% 20).toNat,by congr 1;omega,by omega⟩
    · rw[if_neg (by simpa using z)];exact⟨(a% 16).toNat,by congr 1;omega,by omega⟩
  rw[en,Res.bind_ok',rangeR_ok (by omega),Res.bind_ok']
  obtain⟨ys,ey,hl,_⟩:=compR_ex (xs:=(List.range n).map fun(i:Nat)=>(i:Int)) (P:=fun _ _=>True) (f:=fun(a33:Int)=>Z0u s (((k:Int)+(1:Int))+a33)) (by simp;omega) (fun x hx=>by
    obtain⟨i,hi,rfl⟩:=List.mem_map.mp hx
    have:=List.mem_range.mp hi
    obtain⟨v,ev⟩:=at_ok hs (k+1+i) (by omega)
    exact⟨v,by rw[←ev];congr 1,trivial⟩)
  exact⟨ys,ey,by rw[hl];simp;omega⟩
structure At (t:Tx) (i:Nat) (r:Tx):Prop where
  dr:t.drop i=r
  le:i≤t.length
  ln:t.length≤10000
theorem At.len {t r:Tx} {i:Nat} (h:At t i r):i+r.length=t.length:=by rw[←h.dr,List.length_drop];have:=h.le;omega
theorem At.skip {t u v:Tx} {i:Nat} (h:At t i (u++v)):At t (i+u.length) v:=by
  have hl:=h.len
  refine⟨?_,by simp at hl;omega,h.ln⟩
  rw[←List.drop_drop,h.dr];simp
theorem At.cut {t r:Tx} {i n:Nat} (h:At t i r) (hn:n≤r.length∨n=1):cutS t (some (i:Int)) (some ((i+n:Nat):Int))=.ok (r.take n):=by
  rw[cutS_ok (by have:=h.ln;omega)]
  have hl:=h.len
  have hle:=h.le
  congr 1
  unfold Mi.cut sIx
  simp only[]
  rw[if_neg (by omega),if_neg (by omega),Int.toNat_natCast,Int.toNat_natCast,Nat.min_eq_left hle,h.dr]
  rw[List.take_eq_take_iff]
  omega
theorem At.cut1 {t r:Tx} {i:Nat} (h:At t i r):cutS t (some (i:Int)) (some ((i:Int)+1))=.ok (r.take 1):=h.cut (.inr rfl)
theorem At.ix {t r:Tx} {i c:Nat} (h:At t i (c::r)):ixS t (i:Int)=.ok [c]:=ixS_ok (by
  have:=congrArg (fun l:Tx=>l[0]?) h.dr
  simpa using this) (by have:=h.ln;unfold cap;omega)
theorem run_ok {t S:Tx} :∀(u v:Tx) (i:Nat),At t i (u++v)→(∀c∈u,S.contains c=true)→(∀c r,v=c::r→S.contains c=false)→∀n,u.length< n→whileR (Z0T t S) Z12 n (i:Int)=.ok ((i+u.length:Nat):Int)
  | [], v, i, h, _, hv, n + 1, _ => by
    have hl:=h.len
    have hn:=h.ln
    unfold whileR Z0T
    rw[lenS_ok (by omega)]
    simp only[Res.bind_ok']
    cases v with
    | nil=>rw[if_neg (by simp at hl ⊢;omega)];rfl
    | cons c r =>
      rw[if_pos (by simp at hl ⊢;omega),At.ix (c:=c) (r:=r) h,Res.bind_ok']
      show(Res.ok (S.contains c)).bind _=_
      rw[hv c r rfl];rfl
  | c :: u, v, i, h, hu, hv, n + 1, hn => by
    have hl:=h.len
    have hln:=h.ln
    have e1:Z0T t S (i:Int)=.ok true:=by
      unfold Z0T
      rw[lenS_ok (by omega)]
      simp only[Res.bind_ok']
      rw[if_pos (by simp at hl ⊢;omega),At.ix (c:=c) (r:=u++v) h,Res.bind_ok']
      show Res.ok (S.contains c)=_
      rw[hu c (List.mem_cons_self ..)]
    have e2:Z12 (i:Int)=.ok ((i+1:Nat):Int):=by unfold Z12;rfl
    have h':At t (i+1) (u++v):=At.skip (u:=[c]) h
    simp at hn
    have:=run_ok u v (i+1) h' (fun d hd=>hu d (List.mem_cons_of_mem _ hd)) hv n (by omega)
    unfold whileR
    rw[e1,Res.bind_ok',if_pos rfl,e2,Res.bind_ok',this]
    simp;omega
theorem run_end_ok {t S u v:Tx} {i:Nat} (h:At t i (u++v)) (hu:∀c∈u,S.contains c=true) (hv:∀c r,v=c::r→S.contains c=false):Z0y t (i:Int) S=.ok ((i+u.length:Nat):Int):=by
  unfold Z0y Z32
  have hl:=h.len
  have hn:=h.ln
  rw[run_ok u v i h hu hv cap (by simp at hl;unfold cap;omega)];rfl
theorem sign_ok (c:Int):∃k,Z1v c=.ok [k]:=by
  unfold Z1v Z5o
  rw[catS_ok (by decide),Res.bind_ok']
  obtain⟨k,e,_⟩:=ixS_get (x:=(([32,33,34,35,36,38,39,40,41,42,43,44,45,46,47,48,49,50,51,52,53,54,55,56,57,58,59,60,61,62,63,64,65,66,67,68,69,70,71,72,73,74,75,76,77,78,79,80,81,82,83,84,85,86,87,88,89,90,91,92,93,94,95,96]:Tx)++([97,98,99,100,101,102,103,104,105,106,107,108,109,110,111,112,113,114,115,116,117,118,119,120,121,122,123,124,125,126,10]:Tx))) (i:=c% 95) (Int.emod_nonneg _ (by decide)) (Int.lt_of_lt_of_le (Int.emod_lt_of_pos _ (by decide)) (by decide)) (by decide)
  exact⟨k,e⟩
theorem spoil_ok {x:Tx} (hl:x.length≤10000) (c:Int):(Z0M x c).Ok fun y=>y.length≤x.length+2:=by
  unfold Z0M Z4p
  obtain⟨k,ek⟩:=sign_ok (c/ 7)
  have L:∀lo hi,(cut x lo hi).length≤x.length:=fun lo hi=>cut_len x lo hi
  have hx:x.length≤100000:=by omega
  rw[lenS_ok hx]
  simp only[Res.bind_ok']
  rw[modR_ok (by omega)]
  simp only[Res.bind_ok',ek,cutS_ok hx]
  have b0:=Int.emod_nonneg (c/ 5) (show(x.length:Int)+1≠0 by omega)
  have b1:=Int.emod_lt_of_pos (c/ 5) (show(0:Int)< (x.length:Int)+1 by omega)
  obtain⟨i,hi⟩:∃i:Nat,c/ 5% ((x.length:Int)+1)=(i:Int):=⟨(c/ 5% ((x.length:Int)+1)).toNat,by omega⟩
  rw[hi]at b1 ⊢
  have ei:i≤x.length:=by omega
  rw[show(i:Int)+1=((i+1:Nat):Int)from rfl,show(i:Int)+2=((i+2:Nat):Int)from rfl]
  simp only[cut_take,cut_drop]
  have mid:∀a b:Nat,(cut x (some (a:Int)) (some (b:Int))).length≤b- a:=fun a b=>by
    unfold cut sIx;simp only[List.length_take,List.length_drop]
    split <;> split <;> omega
  have m1:=mid i (i+1)
  have m2:=mid (i+1) (i+2)
  generalize cut x (some (i:Int)) (some ((i+1:Nat):Int))=u at*
  generalize cut x (some ((i+1:Nat):Int)) (some ((i+2:Nat):Int))=v at*
  refine okD (fun _=>?_) fun _=>okD (fun _=>?_) fun _=>okD (fun _=>?_) fun _=>okD (fun _=>?_) fun _=>?_
  · rw[catS_ok (by simp;omega),Res.bind_ok',catS_ok (by simp;omega)];show List.length _≤_;simp;omega
  · rw[catS_ok (by simp;omega)];show List.length _≤_;simp;omega
  · rw[catS_ok (by simp;omega),Res.bind_ok',catS_ok (by simp;omega)];show List.length _≤_;simp;omega
  · rw[catS_ok (by simp;omega),Res.bind_ok',catS_ok (by simp;omega)];show List.length _≤_;simp;omega
  · rw[catS_ok (by omega),Res.bind_ok',catS_ok (by simp;omega),Res.bind_ok',catS_ok (by simp;omega)];show List.length _≤_;simp;omega
def Row81 (x:Tx):Prop:=1≤x.length∧x.length≤8
def leafT (d:Dat):Tx:=match d with | .t [.s a,.s x]=>if a=tAll then 42::x else x | _=>[]
def wrS:Nat→Dat→Tx
  | 0,d=>leafT d
  | k + 1, d => match d with
    | .t [.s _,.i n,.l b]=>numT n++40::(glueT [32] (b.map (wrS k))++ [41])
    | .t [.s _,.l b]=>60::(glueT [32] (b.map (wrS k))++ [62])
    | d=>leafT d
def wrP (k:Nat) (l:List Dat):Tx:=glueT [32] (l.map (wrS k))
theorem wrS_row (k:Nat) (x:Tx):wrS k (.t [.s tRow,.s x])=x:=by cases k <;> rfl
theorem wrS_all (k c:Nat):wrS k (.t [.s tAll,.s [c]])=[42,c]:=by cases k <;> rfl
theorem wrS_tim (k:Nat) (n:Int) (b:List Dat):wrS (k+1) (.t [.s tTim,.i n,.l b])=numT n++40::(wrP k b++ [41]):=rfl
theorem wrS_mir (k:Nat) (b:List Dat):wrS (k+1) (.t [.s tMir,.l b])=60::(wrP k b++ [62]):=rfl
def digs (n:Nat):Tx:=if n< 10 then [48+n]else [48+n/ 10,48+n% 10]
theorem num_digs:∀n:Nat,n< 100→numT (n:Int)=digs n:=by decide +kernel
theorem digs_len (n:Nat):1≤(digs n).length∧(digs n).length≤2:=by unfold digs;split <;> simp
theorem fmt_ok {n:Nat} (h:n< 100):fmtI (n:Int)=.ok (numT (n:Int)):=must_ok (by
  have:∀n:Nat,n< 100→(n:Int).natAbs.log2< 1920:=by decide +kernel
  exact this n h)
theorem glue_len:∀xs:List Tx,(glueT [32] xs).length≤(xs.map fun x=>x.length+1).sum
  | []=>by simp[glueT]
  | [x]=>by simp[glueT]
  | x :: y :: r => by
    have:=glue_len (y::r)
    simp[glueT]at this ⊢
    omega
theorem nsz_mem {d:Dat} :∀{l:List Dat},d∈l→nsz d≤nszL l
  | a :: r, h => by
    rcases List.mem_cons.mp h with rfl | h
    · unfold nszL;omega
    · have:=nsz_mem h;unfold nszL;omega
theorem sum_len {f:Dat→Tx} :∀(l:List Dat),(∀d∈l,(f d).length+1≤10*nsz d)→((l.map f).map fun x=>x.length+1).sum≤10*nszL l
  | [],_=>by simp[nszL]
  | d :: r, h => by
    have h1:=h d (List.mem_cons_self ..)
    have h2:=sum_len r fun x hx=>h x (List.mem_cons_of_mem _ hx)
    simp[nszL]at h2 ⊢
    omega
theorem wrS_len {w:Nat} (hw:w≤8):∀(k:Nat) (d:Dat),Stm (Row81) k d→(wrS k d).length+1≤10*nsz d
  | k,_,.row (x:=x) h=>by rw[wrS_row,nsz_row];have:x.length≤8:=h.2;omega
  | k,_,.all h=>by rw[wrS_all,nsz_row];simp
  | k + 1, _, .tim (n := n) (b := b) h0 h1 h2 h3 => by
    obtain⟨m,rfl⟩:∃m:Nat,n=(m:Int):=⟨n.toNat,by omega⟩
    have:=(digs_len m).2
    have e:=Nat.le_trans (glue_len _) (sum_len b fun d hd=>wrS_len hw k d (h3 d hd))
    rw[wrS_tim,nsz_tim,num_digs m (by omega)]
    simp only[wrP,List.length_append,List.length_cons,List.length_nil]
    omega
  | k + 1, _, .mir (b := b) h2 h3 => by
    have e:=Nat.le_trans (glue_len _) (sum_len b fun d hd=>wrS_len hw k d (h3 d hd))
    rw[wrS_mir,nsz_mir]
    simp only[wrP,List.length_append,List.length_cons,List.length_nil]
    omega
theorem wrP_len {w:Nat} (hw:w≤8) {k:Nat} {l:List Dat} (h:Prg (Row81) k l):(wrP k l).length≤10*nszL l:=Nat.le_trans (glue_len _) (sum_len l fun d hd=>wrS_len hw k d (h d hd))
theorem flat_sum:∀xs:List Tx,xs.flatten.length+xs.length*1=(xs.map fun x=>x.length+1).sum
  | []=>rfl
  | x::r=>by have:=flat_sum r;simp at this ⊢;omega
theorem join_ok {w:Nat} (hw:w≤8) {k:Nat} {l:List Dat} (h:Prg (Row81) k l) (hz:nszL l≤1000):joinS [32] (l.map (wrS k))=.ok (wrP k l):=must_ok (by
  have:=sum_len l fun d hd=>wrS_len hw k d (h d hd)
  show _+_*1≤cap
  rw[flat_sum];unfold cap;omega)
theorem wst_ok {w k:Nat} (hw:w≤8) {d:Dat} (h:Stm (Row81) k d) (hz:nsz d≤1000) {m:List Dat→Res Tx} (hm:∀k' b,k=k'+1→Prg (Row81) k' b→b.length≤1000→nszL b≤1000→m b=.ok (wrP k' b)):Z0J m d=.ok (wrS k d):=by
  unfold Z0J Z1f
  have nTR:¬(tTim=tRow):=by decide
  have nTA:¬(tTim=tAll):=by decide
  have nMR:¬(tMir=tRow):=by decide
  have nMA:¬(tMir=tAll):=by decide
  have nAR:¬(tAll=tRow):=by decide
  cases h with
  | row h=>rw[wrS_row];simp only[ixU20,ixU21,oT,Res.bind_ok',decide_true,if_true]
  | all h=>rw[wrS_all];simp only[ixU20,ixU21,oT,Res.bind_ok',nAR,decide_true,decide_false,Bool.false_eq_true,if_false,if_true];rw[catS_ok (by simp)];rfl
  | @tim k n b h0 h1 h2 h3 =>
    obtain⟨j,rfl⟩:∃j:Nat,n=(j:Int):=⟨n.toNat,by omega⟩
    rw[nsz_tim]at hz
    have hl:=wrP_len hw h3
    have:=digs_len j
    simp only[ixU30,ixU31,ixU32,oT,oI,oL,Res.bind_ok',nTR,nTA,decide_true,decide_false,Bool.false_eq_true,if_false,if_true]
    rw[fmt_ok (by omega),num_digs j (by omega),hm k b rfl h3 h2 (by omega)]
    simp only[Res.bind_ok']
    rw[catS_ok (by simp;omega),Res.bind_ok',catS_ok (by simp;omega),Res.bind_ok',catS_ok (by simp;omega),Res.bind_ok',catS_ok (by simp;omega),Res.bind_ok',Res.bind_ok',wrS_tim,num_digs j (by omega)]
    show must _ _=_
    rw[must_ok (by unfold cap;simp;omega)]
    simp
  | @mir k b h2 h3 =>
    rw[nsz_mir]at hz
    have hl:=wrP_len hw h3
    simp only[ixU20,ixU21,oT,oL,Res.bind_ok',nMR,nMA,neMT,decide_true,decide_false,Bool.false_eq_true,if_false,if_true]
    rw[hm k b rfl h3 h2 (by omega),catS_ok (by simp)]
    simp only[Res.bind_ok']
    rw[catS_ok (by simp;omega),Res.bind_ok',catS_ok (by simp;omega),Res.bind_ok',Res.bind_ok',wrS_mir]
    show must _ _=_
    rw[must_ok (by unfold cap;simp;omega)]
    simp
theorem writtenf_ok {w:Nat} (hw:w≤8):∀(f k:Nat) (l:List Dat),k< f→Prg (Row81) k l→l.length≤1000→nszL l≤1000→Z1l f l=.ok (wrP k l)
  | 0,k,l,h,_,_,_=>by omega
  | f + 1, k, l, h, hp, hl, hz => by
    show Z33 (Z0J (Z1l f)) l=_
    unfold Z33
    rw[compR_ok (g:=wrS k) (by unfold cap;omega) fun d hd=>wst_ok hw (hp d hd) (Nat.le_trans (nsz_mem hd) hz) fun k' b e hb hl hz=>writtenf_ok hw f k' b (by omega) hb hl hz]
    exact join_ok hw hp hz
theorem write_b1 {w k:Nat} (hw:w≤8) {d:Dat} (h:Stm (Row81) k d) (hz:nsz d≤1000) {m:List Dat→Res Tx} (hm:∀k' b,k=k'+1→Prg (Row81) k' b→b.length≤1000→nszL b≤1000→m b=.ok (wrP k' b)) (a:List Tx) (ha:a.length< 5000):Z1n m d a=.ok (a++ [wrS k d]):=by
  unfold Z1n
  have nRA:¬(tRow=tAll):=by decide
  cases h with
  | row h=>rw[wrS_row];simp only[ixU20,ixU21,oT,Res.bind_ok',neRT,neRM,nRA,decide_false,Bool.false_eq_true,if_false];rw[appL_ok (by omega)];rfl
  | all h=>rw[wrS_all];simp only[ixU20,ixU21,oT,Res.bind_ok',neAT,neAM,decide_true,decide_false,Bool.false_eq_true,if_false,if_true];rw[catS_ok (by simp),Res.bind_ok',appL_ok (by omega)];rfl
  | @tim k n b h0 h1 h2 h3 =>
    obtain⟨j,rfl⟩:∃j:Nat,n=(j:Int):=⟨n.toNat,by omega⟩
    rw[nsz_tim]at hz
    have hl:=wrP_len hw h3
    have:=digs_len j
    simp only[ixU30,ixU31,ixU32,oT,oI,oL,Res.bind_ok',decide_true,if_true]
    rw[fmt_ok (by omega),num_digs j (by omega),hm k b rfl h3 h2 (by omega)]
    simp only[Res.bind_ok']
    rw[catS_ok (by simp;omega),Res.bind_ok',catS_ok (by simp;omega),Res.bind_ok',catS_ok (by simp;omega),Res.bind_ok',appL_ok (by omega),wrS_tim,num_digs j (by omega)]
    simp
  | @mir k b h2 h3 =>
    rw[nsz_mir]at hz
    have hl:=wrP_len hw h3
    simp only[ixU20,ixU21,oT,oL,Res.bind_ok',neMT,decide_true,decide_false,Bool.false_eq_true,if_false,if_true]
    rw[hm k b rfl h3 h2 (by omega)]
    simp only[Res.bind_ok']
    rw[catS_ok (by simp;omega),Res.bind_ok',catS_ok (by simp;omega),Res.bind_ok',appL_ok (by omega),wrS_mir]
    simp
theorem write_walk {w k:Nat} (hw:w≤8) {m:List Dat→Res Tx} (hm:∀k' b,k=k'+1→Prg (Row81) k' b→b.length≤1000→nszL b≤1000→m b=.ok (wrP k' b)):∀(l:List Dat),Prg (Row81) k l→nszL l≤1000→∀a:List Tx,a.length+l.length< 5000→forR (Z1n m) l a=.ok (a++l.map (wrS k))
  | [],_,_,a,_=>by simp[forR]
  | d :: r, h, hz, a, hl => by
    unfold nszL at hz
    simp at hl
    unfold forR
    rw[write_b1 hw (h d (List.mem_cons_self ..)) (by omega) hm a (by omega),Res.bind_ok',write_walk hw hm r (fun s hs=>h s (List.mem_cons_of_mem _ hs)) (by omega) _ (by simp;omega)]
    simp
theorem writef_ok {w:Nat} (hw:w≤8):∀(f k:Nat) (l:List Dat),k< f→Prg (Row81) k l→l.length≤1000→nszL l≤1000→Z1P f l=.ok (wrP k l)
  | 0,k,l,h,_,_,_=>by omega
  | f + 1, k, l, h, hp, hl, hz => by
    show Z31 (Z1P f) l=_
    unfold Z31
    rw[write_walk hw (k:=k) (fun k' b e hb hl hz=>writef_ok hw f k' b (by omega) hb hl hz) l hp hz [] (by simp;omega),Res.bind_ok',List.nil_append]
    exact join_ok hw hp hz
def tails (k:Nat) (r:List Dat) (v:Tx):Tx:=(r.flatMap fun d=>32::wrS k d)++v
theorem tails_cons (k:Nat) (d:Dat) (r:List Dat) (v:Tx):tails k (d::r) v=32::(wrS k d++tails k r v):=by simp[tails]
theorem wrP_tails (k:Nat):∀(r:List Dat) (d:Dat) (v:Tx),wrP k (d::r)++v=wrS k d++tails k r v
  | [],d,v=>by simp[wrP,glueT,tails]
  | e :: r, d, v => by
    have:=wrP_tails k r e v
    rw[tails_cons,←this]
    simp[wrP,glueT]
def dig (c:Nat):Bool:=([48,49,50,51,52,53,54,55,56,57]:Tx).contains c
def trn (c:Nat):Bool:=([102,98,105]:Tx).contains c
def spTurns (most:Nat) (r:Tx):Option (Tx×Tx):=if r.takeWhile trn=[]∨most< (r.takeWhile trn).length then none else some (r.takeWhile trn,r.dropWhile trn)
def goodN (u:Tx):Bool:=match u with | [_]=>true | [a,_]=> !decide (a=48) | _=>false
def valN (u:Tx):Int:=match u with | [a]=>(a:Int)- 48 | [a,b]=>((a:Int)- 48)*10+((b:Int)- 48) | _=>0
def spNum (r:Tx):Option (Int×Tx):=if goodN (r.takeWhile dig)=true then some (valN (r.takeWhile dig),r.dropWhile dig)else none
def spBody (P:Nat→Tx→Option (List Dat×Tx)) (o c:Nat) (dp:Nat) (r:Tx):Option (List Dat×Tx):=match r with
  | []=>none
  | x::r=>if x=o then(P (dp+1) r).bind fun lw=>match lw.2 with | []=>none | y::w=>if y=c then some (lw.1,w)else none else none
def spStm (P:Nat→Tx→Option (List Dat×Tx)) (dp:Nat) (r:Tx):Option (Dat×Tx):=
  if r.take 1=[42]then(spTurns 1 (r.drop 1)).map fun uv=>(.t [.s tAll,.s uv.1],uv.2)
  else if r.take 1=[60]then(spBody P 60 62 dp r).map fun lw=>(.t [.s tMir,.l lw.1],lw.2)
  else if(r.take 1).any dig=true then(spNum r).bind fun nv=>(spBody P 40 41 dp nv.2).map fun lw=>(.t [.s tTim,.i nv.1,.l lw.1],lw.2)
  else(spTurns 8 r).map fun uv=>(.t [.s tRow,.s uv.1],uv.2)
def spLoop (st:Tx→Option (Dat×Tx)):Nat→List Dat→Tx→Option (List Dat×Tx)
  | 0,_,_=>none
  | n+1,a,r=>if r.take 1=[32]then(st (r.drop 1)).bind fun dv=>spLoop st n (a++ [dv.1]) dv.2 else some (a,r)
def spPrg:Nat→Nat→Tx→Option (List Dat×Tx)
  | 0,_,_=>none
  | f+1,dp,r=>if 8< dp then none else if r.take 1=[]∨r.take 1=[41]∨r.take 1=[62]then some ([],r)else(spStm (spPrg f) dp r).bind fun dv=>spLoop (spStm (spPrg f) dp) (r.length+1) [dv.1] dv.2
structure Suf (t v:Tx):Prop where
  sf:v <:+t
  ln:t.length≤1000
def ps (t v:Tx):Int:=((t.length- v.length:Nat):Int)
theorem Suf.at {t v:Tx} (h:Suf t v):At t (t.length- v.length) v:=by
  obtain⟨u,e⟩:=h.sf
  have hl:t.length=u.length+v.length:=by rw[←e];simp
  refine⟨?_,by omega,by have:=h.ln;omega⟩
  rw[hl,←e];simp
theorem Suf.le {t v:Tx} (h:Suf t v):v.length≤t.length:=h.sf.length_le
theorem Suf.of {t v w:Tx} (h:Suf t v) (e:w <:+v):Suf t w:=⟨e.trans h.sf,h.ln⟩
theorem Suf.drop {t v:Tx} (h:Suf t v) (n:Nat):Suf t (v.drop n):=h.of (List.drop_suffix n v)
theorem Suf.dw {t v:Tx} (h:Suf t v) (p:Nat→Bool):Suf t (v.dropWhile p):=h.of (List.dropWhile_suffix p)
theorem ps_cons {t v:Tx} {c:Nat} (h:Suf t (c::v)):ps t (c::v)+1=ps t v:=by
  have:=h.le
  simp at this
  unfold ps
  simp
  omega
theorem Suf.cut1 {t v:Tx} (h:Suf t v):cutS t (some (ps t v)) (some (ps t v+1))=.ok (v.take 1):=h.at.cut1
theorem span_eq (p:Nat→Bool) (v:Tx):v=v.takeWhile p++v.dropWhile p:=(List.takeWhile_append_dropWhile).symm
theorem dw_len (p:Nat→Bool) (v:Tx):(v.takeWhile p).length+(v.dropWhile p).length=v.length:=by
  conv=>rhs;rw[span_eq p v,List.length_append]
theorem ps_dw {t v:Tx} (h:Suf t v) (p:Nat→Bool):ps t (v.dropWhile p)=((t.length- v.length+(v.takeWhile p).length:Nat):Int):=by
  have:=dw_len p v
  have:=h.le
  unfold ps
  congr 1
  omega
theorem Suf.cutw {t v:Tx} (h:Suf t v) (p:Nat→Bool):cutS t (some (ps t v)) (some (ps t (v.dropWhile p)))=.ok (v.takeWhile p):=by
  rw[ps_dw h]
  have:=h.at.cut (n:=(v.takeWhile p).length) (.inl (by have:=dw_len p v;omega))
  rw[show ps t v=((t.length- v.length:Nat):Int)from rfl,this]
  rw[←List.prefix_iff_eq_take.mp (List.takeWhile_prefix p)]
theorem tw_mem {p:Nat→Bool} :∀{v:Tx} {c:Nat},c∈v.takeWhile p→p c=true
  | [],_,h=>by simp at h
  | a :: v, c, h => by
    by_cases z:p a=true
    · rw[List.takeWhile_cons_of_pos z]at h
      rcases List.mem_cons.mp h with rfl | h
      · exact z
      · exact tw_mem h
    · rw[List.takeWhile_cons_of_neg z]at h;simp at h
theorem dw_head {p:Nat→Bool} :∀{v:Tx} {c:Nat} {r:Tx},v.dropWhile p=c::r→p c=false
  | [],_,_,h=>by simp at h
  | a :: v, c, r, h => by
    by_cases z:p a=true
    · rw[List.dropWhile_cons_of_pos z]at h;exact dw_head h
    · rw[List.dropWhile_cons_of_neg z]at h
      cases h
      simpa using z
theorem Suf.run {t v S:Tx} (h:Suf t v):Z0y t (ps t v) S=.ok (ps t (v.dropWhile fun c=>S.contains c)):=by
  have h2:=h.at
  rw[span_eq (fun c=>S.contains c) v]at h2
  have hv:t.length- (v.takeWhile (fun c=>S.contains c)++v.dropWhile fun c=>S.contains c).length=t.length- v.length:=by rw[←span_eq]
  rw[hv]at h2
  rw[ps_dw h,show ps t v=((t.length- v.length:Nat):Int)from rfl]
  exact run_end_ok h2 (fun c hc=>tw_mem (p:=fun c=>S.contains c) hc) fun c r e=>dw_head e
theorem num_short:∀n:Nat,n< 1201→(numT (n:Int)).length≤20∧(n:Int).natAbs.log2< 1920:=by decide +kernel
theorem fmtP {t v:Tx} (h:Suf t v):∃x,fmtI (ps t v)=.ok x∧x.length≤20:=by
  have:=num_short (t.length- v.length) (by have:=h.ln;omega)
  exact⟨_,must_ok this.2,this.1⟩
theorem capS_ok {x:Tx} (h:x.length≤1000):capS x=.ok x:=must_ok (by unfold cap;omega)
def toR {α:Type} (t:Tx) (o:Option (α×Tx)):Res (α×Int):=match o with | some (a,v)=>.ok (a,ps t v) | none=>.err 2
theorem turns_rd {t v:Tx} (h:Suf t v) {most:Nat} (hm:most≤1000):Z0N t (ps t v) (most:Int)=toR t (spTurns most v):=by
  unfold Z0N Z2d
  rw[h.run]
  simp only[Res.bind_ok']
  have hd:=dw_len trn v
  have hs:=h.le
  have e1:ps t (v.dropWhile fun c=>([102,98,105]:Tx).contains c)=ps t (v.dropWhile trn):=rfl
  rw[e1]
  have e2:ps t (v.dropWhile trn)- ps t v=((v.takeWhile trn).length:Int):=by rw[ps_dw h];unfold ps;omega
  by_cases z:v.takeWhile trn=[]∨most< (v.takeWhile trn).length
  · have e3:(if decide (ps t (v.dropWhile trn)=ps t v)=true then Res.ok true else Res.ok (decide ((most:Int)< ps t (v.dropWhile trn)- ps t v)):Res Bool)=.ok true:=by
      by_cases y:ps t (v.dropWhile trn)=ps t v
      · rw[if_pos (by simpa using y)]
      · rw[if_neg (by simpa using y),e2]
        have:v.takeWhile trn≠[]:=fun q=>y (by rw[q]at e2;simp at e2;omega)
        have:=z.resolve_left this
        rw[decide_eq_true (by omega)]
    rw[e3,Res.bind_ok',if_pos rfl]
    obtain⟨x,ex,hx⟩:=fmtP h
    have hmm:=num_short most (by omega)
    rw[catS_ok (by simp),Res.bind_ok',show fmtI (most:Int)=.ok (numT (most:Int))from must_ok hmm.2,Res.bind_ok',catS_ok (by simp;omega),Res.bind_ok',catS_ok (by simp;omega),Res.bind_ok',ex,Res.bind_ok',catS_ok (by simp;omega),Res.bind_ok',Res.bind_ok',capS_ok (by simp;omega),Res.bind_ok']
    unfold spTurns
    rw[if_pos z];rfl
  · have z1:v.takeWhile trn≠[]:=fun q=>z (.inl q)
    have z2:¬most< (v.takeWhile trn).length:=fun q=>z (.inr q)
    have hp:0< (v.takeWhile trn).length:=List.length_pos_iff.mpr z1
    rw[if_neg (by simp;omega),e2,Res.bind_ok',if_neg (by simp;omega),h.cutw trn]
    unfold spTurns
    rw[if_neg z];rfl
theorem behind_rd {t:Tx} {c:Nat} {v:Tx} (h:Suf t v):Z1k t (ps t v) [c]=(match v with | []=>.err 2 | x::w=>if x=c then .ok (ps t w)else .err 2):=by
  unfold Z1k Z5q
  rw[h.cut1]
  simp only[Res.bind_ok']
  obtain⟨x,ex,hx⟩:=fmtP h
  have bad:((((catS ([]:Tx) [c]).bind fun y5=>(catS y5 [32,105,115,32,119,97,110,116,101,100,32,97,116,32,115,105,103,110,32]).bind fun y7=>(fmtI (ps t v)).bind fun y9=>(catS y7 y9).bind fun y8=>Res.ok y8).bind capS).bind fun y10=>(Res.err 2:Res Int))=.err 2:=by
    rw[catS_ok (by simp),Res.bind_ok',catS_ok (by simp),Res.bind_ok',ex,Res.bind_ok',catS_ok (by simp;omega),Res.bind_ok',Res.bind_ok',capS_ok (by simp;omega),Res.bind_ok']
  cases v with
  | nil=>rw[if_pos (by simp),bad]
  | cons a w =>
    by_cases z:a=c
    · subst z
      rw[if_neg (by simp),ps_cons h];simp
    · rw[if_pos (by simpa using z),bad];simp[z]
theorem tab1:∀i:Nat,i< 10→(tabN.find? fun e=>e.1 == [48+i])=some ([48+i],(i:Int)):=by decide +kernel
theorem tab2:∀i:Nat,i< 10→∀j:Nat,j< 10→(tabN.find? fun e=>e.1 == [48+i,48+j])=some ([48+i,48+j],((10*i+j:Nat):Int)):=by decide +kernel
theorem num1:∀i:Nat,i< 10→numT (i:Int)=[48+i]:=by decide +kernel
theorem num2:∀i:Nat,i< 10→∀j:Nat,j< 10→numT ((10*i+j:Nat):Int)=if i=0 then [48+j]else [48+i,48+j]:=by decide +kernel
theorem dig_iff {c:Nat} (h:dig c=true):∃i,i< 10∧c=48+i:=by
  simp[dig]at h
  exact⟨c- 48,by omega,by omega⟩
theorem num_rd {t v:Tx} (h:Suf t v) (hn:v.takeWhile dig≠[]):Z0O t (ps t v)=toR t (spNum v):=by
  unfold Z0O Z1W
  rw[h.run]
  simp only[Res.bind_ok']
  have e1:ps t (v.dropWhile fun c=>([48,49,50,51,52,53,54,55,56,57]:Tx).contains c)=ps t (v.dropWhile dig):=rfl
  rw[e1,h.cutw dig]
  simp only[Res.bind_ok']
  have hd:=dw_len dig v
  have hs:=h.le
  have hln:=h.ln
  obtain⟨x,ex,hx⟩:=fmtP h
  have bad:((((catS ([]:Tx) [97,32,110,117,109,98,101,114,32,102,114,111,109,32,48,32,116,111,32,57,57,32,105,115,32,119,97,110,116,101,100,32,97,116,32,115,105,103,110,32]).bind fun y18=>(fmtI (ps t v)).bind fun y20=>(catS y18 y20).bind fun y19=>Res.ok y19).bind capS).bind fun y21=>(Res.err 2:Res (Int×Int)))=.err 2:=by
    rw[catS_ok (by simp),Res.bind_ok',ex,Res.bind_ok',catS_ok (by simp;omega),Res.bind_ok',Res.bind_ok',capS_ok (by simp;omega),Res.bind_ok']
  rw[lenS_ok (by omega)]
  simp only[Res.bind_ok']
  have hm:∀c∈v.takeWhile dig,dig c=true:=fun c hc=>tw_mem hc
  unfold spNum
  generalize v.takeWhile dig=u at*
  match u,hn,hm with
  | [a], _, hm =>
    obtain⟨i,hi,rfl⟩:=dig_iff (hm a (List.mem_cons_self ..))
    have e2:intW [48+i]=.ok (i:Int):=by unfold intW;rw[tab1 i hi];rfl
    rw[if_neg (by simp),e2]
    simp only[Res.bind_ok']
    rw[show fmtI (i:Int)=.ok (numT (i:Int))from must_ok (num_short i (by omega)).2,num1 i hi]
    simp only[Res.bind_ok']
    rw[if_neg (by simp),if_pos (by rfl)]
    simp[toR,valN]
    omega
  | [a, b], _, hm =>
    obtain⟨i,hi,rfl⟩:=dig_iff (hm a (List.mem_cons_self ..))
    obtain⟨j,hj,rfl⟩:=dig_iff (hm b (by simp))
    have e2:intW [48+i,48+j]=.ok ((10*i+j:Nat):Int):=by unfold intW;rw[tab2 i hi j hj];rfl
    rw[if_neg (by simp),e2]
    simp only[Res.bind_ok']
    rw[show fmtI ((10*i+j:Nat):Int)=.ok (numT ((10*i+j:Nat):Int))from must_ok (num_short _ (by omega)).2,num2 i hi j hj]
    simp only[Res.bind_ok']
    by_cases z:i=0
    · subst z
      rw[if_pos rfl,if_pos (by simp),bad,if_neg (by simp[goodN])];rfl
    · rw[if_neg z,if_neg (by simp),if_pos (by simp[goodN,z])]
      simp[toR,valN]
      omega
  | a :: b :: c :: r, _, _ =>
    rw[if_pos (by simp;omega),Res.bind_ok',if_pos rfl,bad,if_neg (by simp[goodN])];rfl
structure RdQ (t:Tx) (m:Tx→Int→Int→Res (List Dat×Int)) (P:Nat→Tx→Option (List Dat×Tx)) (dp:Nat):Prop where
  rd:∀r,Suf t r→m t (ps t r) (dp:Int)=toR t (P dp r)
  sf:∀r l w,P dp r=some (l,w)→w <:+r
theorem body_rd {t v:Tx} (h:Suf t v) {m:Tx→Int→Int→Res (List Dat×Int)} {P:Nat→Tx→Option (List Dat×Tx)} {dp o c:Nat} (ho:o< 128) (hc:c< 128) (hm:RdQ t m P (dp+1)):Z1F m t (ps t v) [o,c] (dp:Int)=toR t (spBody P o c dp v):=by
  unfold Z1F Z2O
  rw[show two [o,c]=.ok ([o],[c])from must_ok ⟨ho,hc⟩]
  simp only[Res.bind_ok']
  rw[behind_rd h]
  cases v with
  | nil=>rfl
  | cons x r =>
    unfold spBody
    simp only[]
    by_cases z:x=o
    · rw[if_pos z,if_pos z,Res.bind_ok',show(dp:Int)+1=((dp+1:Nat):Int)from rfl,hm.rd r (h.drop 1)]
      cases e:P (dp+1) r with
      | none=>rfl
      | some lw =>
        have hw:Suf t lw.2:=(h.drop 1).of (hm.sf r lw.1 lw.2 e)
        show(Res.ok (lw.1,ps t lw.2)).bind _=_
        rw[Res.bind_ok']
        simp only[]
        rw[behind_rd hw]
        simp only[Option.bind_some]
        obtain⟨l,w⟩:=lw
        cases w with
        | nil=>rfl
        | cons y w =>
          simp only[]
          by_cases q:y=c
          · rw[if_pos q,if_pos q];rfl
          · rw[if_neg q,if_neg q];rfl
    · rw[if_neg z,if_neg z];rfl
theorem spBody_sf {P:Nat→Tx→Option (List Dat×Tx)} {dp o c:Nat} (hP:∀r l w,P (dp+1) r=some (l,w)→w <:+r) {v:Tx} {l:List Dat} {w:Tx} (h:spBody P o c dp v=some (l,w)):w <:+v∧w.length< v.length:=by
  unfold spBody at h
  cases v with
  | nil=>cases h
  | cons x r =>
    simp only[]at h
    by_cases z:x=o
    · rw[if_pos z]at h
      cases e:P (dp+1) r with
      | none=>rw[e]at h;cases h
      | some lw =>
        rw[e]at h
        have hs:=hP r lw.1 lw.2 e
        simp only[Option.bind_some]at h
        obtain⟨l',w'⟩:=lw
        cases w' with
        | nil=>cases h
        | cons y w'' =>
          simp only[]at h hs
          by_cases q:y=c
          · rw[if_pos q]at h
            cases h
            have h2:w <:+r:=(List.suffix_cons y w).trans hs
            exact⟨h2.trans (List.suffix_cons x r),by have:=h2.length_le;simp;omega⟩
          · rw[if_neg q]at h;cases h
    · rw[if_neg z]at h;cases h
theorem spTurns_sf {most:Nat} {v u w:Tx} (h:spTurns most v=some (u,w)):w <:+v∧w.length< v.length:=by
  unfold spTurns at h
  split at h
  · cases h
  · rename_i z
    cases h
    refine⟨List.dropWhile_suffix _,?_⟩
    have:=dw_len trn v
    have:0< (v.takeWhile trn).length:=List.length_pos_iff.mpr fun q=>z (.inl q)
    omega
theorem st_rd {t v:Tx} (h:Suf t v) {m:Tx→Int→Int→Res (List Dat×Int)} {P:Nat→Tx→Option (List Dat×Tx)} {dp:Nat} (hm:RdQ t m P (dp+1)):Z0E m t (ps t v) (dp:Int)=toR t (spStm P dp v):=by
  unfold Z0E Z1w spStm
  rw[h.cut1,Res.bind_ok']
  by_cases c1:v.take 1=[42]
  · rw[if_pos (by simpa using c1),if_pos c1]
    obtain⟨w,rfl⟩:∃w,v=42::w:=by
      cases v with
      | nil=>simp at c1
      | cons a w=>simp at c1;exact⟨w,by rw[c1]⟩
    have hw:Suf t w:=h.drop 1
    rw[ps_cons h,show(1:Int)=((1:Nat):Int)from rfl,turns_rd hw (most:=1) (by omega)]
    show(toR t (spTurns 1 w)).bind _=toR t ((spTurns 1 w).map _)
    cases spTurns 1 w <;> rfl
  · rw[if_neg (by simpa using c1),if_neg c1]
    by_cases c2:v.take 1=[60]
    · rw[if_pos (by simpa using c2),if_pos c2,body_rd h (by decide) (by decide) hm]
      cases spBody P 60 62 dp v with
      | none=>rfl
      | some lw=>simp[toR]
    · rw[if_neg (by simpa using c2),if_neg c2]
      cases v with
      | nil =>
        have e:=turns_rd (t:=t) h (most:=8) (by omega)
        simp only[List.take_nil,decide_true,Bool.not_true,Bool.false_eq_true,if_false,Res.bind_ok',List.any_nil]
        rw[show(8:Int)=((8:Nat):Int)from rfl,e]
        cases spTurns 8 [] <;> rfl
      | cons a w =>
        rw[if_pos (by simp)]
        show(Res.ok (dig a)).bind _=_
        rw[Res.bind_ok']
        by_cases c3:dig a=true
        · rw[if_pos c3,if_pos (by simp[c3]),num_rd h (by rw[List.takeWhile_cons_of_pos c3];simp)]
          cases e:spNum (a::w)with
          | none=>rfl
          | some nv =>
            show(Res.ok (nv.1,ps t nv.2)).bind _=_
            rw[Res.bind_ok']
            have hv:Suf t nv.2:=by
              unfold spNum at e
              split at e
              · cases e;exact h.dw dig
              · cases e
            simp only[]
            rw[body_rd hv (by decide) (by decide) hm]
            simp only[Option.bind_some]
            cases spBody P 40 41 dp nv.2 with
            | none=>rfl
            | some lw=>simp[toR]
        · rw[if_neg c3,if_neg (by simp[c3])]
          have e:=turns_rd (t:=t) h (most:=8) (by omega)
          rw[show(8:Int)=((8:Nat):Int)from rfl,e]
          cases spTurns 8 (a::w) <;> rfl
theorem spStm_sf {P:Nat→Tx→Option (List Dat×Tx)} {dp:Nat} (hP:∀r l w,P (dp+1) r=some (l,w)→w <:+r) {v:Tx} {d:Dat} {w:Tx} (h:spStm P dp v=some (d,w)):w <:+v∧w.length< v.length:=by
  unfold spStm at h
  split at h
  · obtain⟨uv,e,h2⟩:=Option.map_eq_some_iff.mp h
    cases h2
    have:=spTurns_sf e
    exact⟨this.1.trans (List.drop_suffix 1 v),by have h3:=this.2;simp at h3;omega⟩
  · split at h
    · obtain⟨lw,e,h2⟩:=Option.map_eq_some_iff.mp h
      cases h2
      exact spBody_sf hP e
    · split at h
      · obtain⟨nv,e,h2⟩:=Option.bind_eq_some_iff.mp h
        obtain⟨lw,e3,h4⟩:=Option.map_eq_some_iff.mp h2
        cases h4
        have h5:=spBody_sf hP e3
        unfold spNum at e
        split at e
        · cases e
          have h6:=List.dropWhile_suffix (l:=v) dig
          exact⟨h5.1.trans h6,by have:=h6.length_le;have h7:lw.2.length< (List.dropWhile dig v).length:=h5.2;omega⟩
        · cases e
      · obtain⟨uv,e,h2⟩:=Option.map_eq_some_iff.mp h
        cases h2
        exact spTurns_sf e
theorem loop_rd {t:Tx} {m:Tx→Int→Int→Res (List Dat×Int)} {P:Nat→Tx→Option (List Dat×Tx)} {dp:Nat} (hm:RdQ t m P (dp+1)):∀(n N:Nat) (d:Dat) (a:List Dat) (r:Tx),Suf t r→r.length< n→n≤N→a.length+r.length≤2000→
    ((whileR (Z0U t) (Z0V (Z0E m) t (dp:Int)) N (d,ps t r,a)).bind fun s56=>Res.ok (s56.2.2,s56.2.1))=toR t (spLoop (spStm P dp) n a r)
  | 0,N,d,a,r,_,hn,_,_=>by omega
  | n+1,0,d,a,r,_,_,hN,_=>by omega
  | n + 1, N + 1, d, a, r, h, hn, hN, hl => by
    have e1:Z0U t (d,ps t r,a)=.ok (decide (r.take 1=[32])):=by
      unfold Z0U
      simp only[]
      rw[h.cut1];rfl
    unfold whileR spLoop
    rw[e1,Res.bind_ok']
    by_cases z:r.take 1=[32]
    · rw[if_pos (by simpa using z),if_pos z]
      obtain⟨w,rfl⟩:∃w,r=32::w:=by
        cases r with
        | nil=>simp at z
        | cons x w=>simp at z;exact⟨w,by rw[z]⟩
      have hw:Suf t w:=h.drop 1
      have e2:Z0V (Z0E m) t (dp:Int) (d,ps t (32::w),a)=(toR t (spStm P dp w)).bind fun y42=>(appL a y42.1).bind fun y54=>Res.ok (y42.1,y42.2,y54):=by
        unfold Z0V
        simp only[]
        rw[ps_cons h,st_rd hw hm]
      rw[e2]
      show(((toR t (spStm P dp w)).bind _).bind _).bind _=toR t ((spStm P dp w).bind _)
      cases e:spStm P dp w with
      | none=>rfl
      | some dv =>
        have hs:=spStm_sf hm.sf e
        simp at hn hl
        show((((Res.ok (dv.1,ps t dv.2)).bind _).bind _).bind _)=_
        rw[Res.bind_ok']
        simp only[]
        rw[appL_ok (by omega),Res.bind_ok',Res.bind_ok']
        have h2:=hs.2
        exact loop_rd hm n N dv.1 (a++ [dv.1]) dv.2 (hw.of hs.1) (by omega) (by omega) (by simp;omega)
    · rw[if_neg (by simpa using z),if_neg z];rfl
theorem spLoop_sf {st:Tx→Option (Dat×Tx)} (hs:∀v d w,st v=some (d,w)→w <:+v∧w.length< v.length):∀(n:Nat) (a:List Dat) (r:Tx) (l:List Dat) (w:Tx),spLoop st n a r=some (l,w)→w <:+r
  | 0,_,_,_,_,h=>by cases h
  | n + 1, a, r, l, w, h => by
    unfold spLoop at h
    split at h
    · obtain⟨dv,e,h2⟩:=Option.bind_eq_some_iff.mp h
      exact((spLoop_sf hs n _ _ l w h2).trans (hs _ _ _ e).1).trans (List.drop_suffix 1 r)
    · cases h;exact List.suffix_refl _
theorem spPrg_sf:∀(f dp:Nat) (r:Tx) (l:List Dat) (w:Tx),spPrg f dp r=some (l,w)→w <:+r
  | 0,_,_,_,_,h=>by cases h
  | f + 1, dp, r, l, w, h => by
    unfold spPrg at h
    split at h
    · cases h
    · split at h
      · cases h;exact List.suffix_refl _
      · obtain⟨dv,e,h2⟩:=Option.bind_eq_some_iff.mp h
        have hs:=fun v d w=>spStm_sf (P:=spPrg f) (dp:=dp) (v:=v) (d:=d) (w:=w) (spPrg_sf f (dp+1))
        exact(spLoop_sf hs _ _ _ l w h2).trans (hs _ _ _ e).1
theorem prg_rd (t:Tx):∀(f dp:Nat),10≤f+dp→dp≤9→RdQ t (Z0A f) (spPrg f) dp
  | 0,dp,h,h9=>by omega
  | f + 1, dp, h, h9 => ⟨fun r hr => by
    show Z1q (Z0E (Z0A f)) t (ps t r) (dp:Int)=_
    unfold Z1q spPrg
    by_cases z:8< dp
    · rw[if_pos (by simp;omega),if_pos z];rfl
    · rw[if_neg (by simp;omega),if_neg z,hr.cut1,Res.bind_ok',Res.bind_ok']
      have hm:=prg_rd t f (dp+1) (by omega) (by omega)
      by_cases y:r.take 1=[]∨r.take 1=[41]∨r.take 1=[62]
      · rw[if_pos y,if_pos (by rcases y with y | y | y <;> rw[y] <;> rfl)];rfl
      · rw[if_neg y,if_neg (by simpa using y),st_rd hr hm]
        have hln:=hr.ln
        have hle:=hr.le
        show(toR t (spStm (spPrg f) dp r)).bind _=toR t ((spStm (spPrg f) dp r).bind _)
        cases e:spStm (spPrg f) dp r with
        | none=>rfl
        | some dv =>
          have hs:=spStm_sf hm.sf e
          show(Res.ok (dv.1,ps t dv.2)).bind _=_
          rw[Res.bind_ok']
          have h2:=hs.2
          exact loop_rd hm (r.length+1) cap dv.1 [dv.1] dv.2 (hr.of hs.1) (by omega) (by unfold cap;omega) (by simp;omega),spPrg_sf (f+1) dp⟩
def spRead (t:Tx):Option (List Dat):=match spPrg 20 1 t with | some (l,[])=>some l | _=>none
theorem read_rd {t:Tx} (h:t.length≤1000):Z2e t=(match spRead t with | some l=>.ok l | none=>.err 2):=by
  have hs:Suf t t:=⟨List.suffix_refl _,h⟩
  have e0:ps t t=0:=by unfold ps;simp
  have e1:Z0o t (0:Int) (1:Int)=toR t (spPrg 20 1 t):=by
    have:=(prg_rd t 20 1 (by omega) (by omega)).rd t hs
    rw[e0]at this;exact this
  unfold Z2e Z7H spRead
  rw[e1]
  cases e:spPrg 20 1 t with
  | none=>rfl
  | some lw =>
    obtain⟨l,w⟩:=lw
    have hw:=spPrg_sf 20 1 t l w e
    show(Res.ok (l,ps t w)).bind _=_
    rw[Res.bind_ok',lenS_ok (by omega)]
    simp only[Res.bind_ok']
    cases w with
    | nil=>rw[if_neg (by simp[ps])]
    | cons c w =>
      have hsw:Suf t (c::w):=hs.of hw
      obtain⟨x,ex,hx⟩:=fmtP hsw
      have hle:=hsw.le
      simp at hle
      have hne:¬ps t (c::w)=(t.length:Int):=by unfold ps;rw[List.length_cons];omega
      rw[if_pos (by simpa using hne),catS_ok (by simp),Res.bind_ok',ex,Res.bind_ok',catS_ok (by simp;omega),Res.bind_ok',Res.bind_ok',capS_ok (by simp;omega),Res.bind_ok']
def finF:Fl (Option (List Dat)) (Int×Int×(List Fr))→Res (Option (List Dat))
  | .nx s110=>((if(decide ((1:Int)< (s110.2.2.length:Int)))then Res.ok true else Res.ok (decide (s110.1=(2:Int)))).bind fun y114=>if y114 then Res.ok (none:Option (List Dat))else(lastS s110.2.2).bind fun y121=>Res.ok (some y121))
  | .rt r=>Res.ok r
  | .bk _=>Res.stuck
def RF (t:Tx) (N:Nat) (st:Int) (v:Tx) (s:List Fr):Res (Option (List Dat)):=(whileF (Z11 t) (Z0B Z0s Z0r t) N (st,ps t v,s)).bind finF
theorem parse_RF (t:Tx):Z18 t=RF t cap 0 t [((([116,111,112]:Tx),(0:Int)),[])]:=by
  have e0:ps t t=0:=by unfold ps;simp
  unfold Z18 Z4r RF
  rw[e0]
  congr 1
theorem ps_lt {t v:Tx} (h:Suf t v):decide (ps t v< (t.length:Int))= !decide (v=[]):=by
  have:=h.le
  unfold ps
  cases v with
  | nil=>simp
  | cons c w=>simp at this ⊢;omega
theorem RF_end {t:Tx} (h:Suf t []) (N:Nat) (st:Int) (s:List Fr):RF t (N+1) st [] s=finF (.nx (st,ps t [],s)):=by
  have hln:=h.ln
  unfold RF whileF Z11
  rw[lenS_ok (by omega),Res.bind_ok',Res.bind_ok']
  simp only[]
  rw[ps_lt h,if_neg (by simp)];rfl
theorem RF_go {t v:Tx} (h:Suf t v) (hv:v≠[]) (N:Nat) (st:Int) (s:List Fr):RF t (N+1) st v s=((Z0B Z0s Z0r t (st,ps t v,s)).bind (flGo (whileF (Z11 t) (Z0B Z0s Z0r t) N))).bind finF:=by
  have hln:=h.ln
  have e1:Z11 t (st,ps t v,s)=.ok true:=by
    unfold Z11
    rw[lenS_ok (by omega),Res.bind_ok']
    simp only[]
    rw[ps_lt h]
    simp[hv]
  unfold RF
  rw[whileF,e1,Res.bind_ok',if_pos rfl]
theorem Suf.ix {t w:Tx} {c:Nat} (h:Suf t (c::w)):ixS t (ps t (c::w))=.ok [c]:=At.ix h.at
def clo (s:List Fr) (c:Nat):Option (List Fr):=match s with
  | f::g::r=>if c=41 then(if f.1.1=tTim then some ((g.1,g.2++ [.t [.s tTim,.i f.1.2,.l f.2]])::r)else none)else(if f.1.1=tMir then some ((g.1,g.2++ [.t [.s tMir,.l f.2]])::r)else none)
  | _=>none
theorem closed_ok {s:List Fr} (hs:∀f∈s,f.2.length≤5000) {c:Nat} (hc:c=41∨c=62):Z0s s [c]=.ok (match clo s c with | some s'=>(s',true) | none=>(s,false)):=by
  unfold Z0s Z3q
  match s,hs with
  | [],_=>rfl
  | [f],_=>rfl
  | f :: g :: r, hs =>
    have hg:=hs g (by simp)
    rw[if_neg (by simp;omega)]
    rcases hc with rfl | rfl
    · show((Res.ok f.1.1).bind fun y1=>(Res.ok tTim).bind fun y2=>Res.ok (!decide (y1=y2))).bind _=_
      rw[Res.bind_ok',Res.bind_ok',Res.bind_ok']
      have ec:clo (f::g::r) 41=if f.1.1=tTim then some ((g.1,g.2++ [.t [.s tTim,.i f.1.2,.l f.2]])::r)else none:=rfl
      rw[ec]
      by_cases z:f.1.1=tTim
      · rw[if_neg (by simp[z]),if_pos z]
        show(((Res.ok ()).bind fun _=>must (g.2.length< cap) _).bind _).bind _=_
        rw[Res.bind_ok',must_ok (by unfold cap;omega)]
        simp
      · rw[if_pos (by simp[z]),if_neg z]
    · show((Res.ok f.1.1).bind fun y1=>(Res.ok tMir).bind fun y2=>Res.ok (!decide (y1=y2))).bind _=_
      rw[Res.bind_ok',Res.bind_ok',Res.bind_ok']
      have ec:clo (f::g::r) 62=if f.1.1=tMir then some ((g.1,g.2++ [.t [.s tMir,.l f.2]])::r)else none:=rfl
      rw[ec]
      by_cases z:f.1.1=tMir
      · rw[if_neg (by simp[z]),if_pos z]
        show(((Res.ok ()).bind fun _=>must (g.2.length< cap) _).bind _).bind _=_
        rw[Res.bind_ok',must_ok (by unfold cap;omega)]
        simp
      · rw[if_pos (by simp[z]),if_neg z]
theorem RF_close {t w:Tx} {c:Nat} (h:Suf t (c::w)) (hc:c=41∨c=62) {s:List Fr} (hs:∀f∈s,f.2.length≤5000) (N:Nat) {st:Int} (h2:st≠2):RF t (N+1) st (c::w) s=(match clo s c with | some s'=>RF t N 1 w s' | none=>.ok none):=by
  have eb:Z0B Z0s Z0r t (st,ps t (c::w),s)=.ok (match clo s c with | some s'=>.nx ((1:Int),ps t w,s') | none=>.rt none):=by
    unfold Z0B
    simp only[]
    rw[if_pos (by simpa using h2),h.ix,Res.bind_ok']
    have e:inC [c] [41,62]=.ok true:=by rcases hc with rfl | rfl <;> rfl
    rw[e,Res.bind_ok',if_pos rfl,Res.bind_ok',closed_ok hs hc,Res.bind_ok',ps_cons h]
    cases clo s c with
    | none=>rfl
    | some s'=>rfl
  rw[RF_go h (by simp),eb]
  cases clo s c with
  | none=>rfl
  | some s'=>rfl
theorem RF_one {t w:Tx} {c:Nat} (h:Suf t (c::w)) (hc:¬(c=41∨c=62)) (s:List Fr) (N:Nat):RF t (N+1) 1 (c::w) s=if c=32 then RF t N 2 w s else .ok none:=by
  have eb:Z0B Z0s Z0r t (1,ps t (c::w),s)=.ok (if c=32 then .nx ((2:Int),ps t w,s)else .rt none):=by
    unfold Z0B
    simp only[]
    have e:inC [c] [41,62]=.ok false:=by
      show Res.ok (([41,62]:Tx).contains c)=_
      simp at hc
      simp[hc]
    rw[if_pos (by rfl),h.ix,Res.bind_ok',e,Res.bind_ok',if_neg (by decide),if_pos (by rfl),Res.bind_ok',Res.bind_ok',Res.bind_ok']
    by_cases z:c=32
    · subst z
      rw[if_pos rfl,←ps_cons h];rfl
    · rw[if_neg z]
      have:decide (([c]:Tx)=[32])=false:=by simp[z]
      rw[this];rfl
  rw[RF_go h (by simp),eb]
  by_cases z:c=32
  · rw[if_pos z,if_pos z];rfl
  · rw[if_neg z,if_neg z];rfl
theorem RF_word {t w:Tx} {c:Nat} (h:Suf t (c::w)) {s:List Fr} (N:Nat) {st:Int} (h1:st=0∧¬(c=41∨c=62)∨st=2) {s':List Fr} {k:Nat} (e:Z0r s t (ps t (c::w))=.ok (s',(k:Int))) {v:Tx} (hv:k≠0→ps t (c::w)+(k:Int)=ps t v):
    RF t (N+1) st (c::w) s=if k=0 then .ok none else RF t N (if s'.length=s.length then 1 else 0) v s':=by
  have eb:Z0B Z0s Z0r t (st,ps t (c::w),s)=.ok (if k=0 then .rt none else .nx ((if s'.length=s.length then 1 else 0:Int),ps t v,s')):=by
    unfold Z0B
    simp only[]
    have e1:(if(!decide (st=(2:Int)))=true then(ixS t (ps t (c::w))).bind fun y30=>inC y30 ([41,62]:Tx)else Res.ok false)=.ok false:=by
      rcases h1 with⟨rfl,hc⟩ | rfl
      · rw[if_pos (by decide),h.ix,Res.bind_ok']
        show Res.ok (([41,62]:Tx).contains c)=_
        simp at hc
        simp[hc]
      · rfl
    rw[e1,Res.bind_ok',if_neg (by decide),if_neg (by rcases h1 with⟨rfl,_⟩ | rfl <;> simp),e,Res.bind_ok']
    simp only[]
    by_cases z:k=0
    · rw[if_pos z,if_pos (by simp[z])]
    · rw[if_neg z,if_neg (by simpa using z),hv z]
      by_cases y:s'.length=s.length
      · rw[if_pos y,if_pos (by simp[y])]
      · rw[if_neg y,if_neg (by simp;omega)]
  rw[RF_go h (by simp),eb]
  by_cases z:k=0
  · rw[if_pos z,if_pos z];rfl
  · rw[if_neg z,if_neg z];rfl
theorem rb1 (t S:Tx):Z2b t S=Z0T t S:=by funext s;unfold Z2b Z0T;rfl
theorem rb2:Z2c=Z12:=by funext s;unfold Z2c Z12;rfl
theorem bind_id {α:Type} (m:Res α):(m.bind fun s=>Res.ok s)=m:=by cases m <;> rfl
theorem Suf.lrun {t v S:Tx} (h:Suf t v):Z1p t (ps t v) S=.ok (v.takeWhile fun c=>S.contains c):=by
  have h2:=h.run (S:=S)
  unfold Z0y Z32 at h2
  rw[bind_id]at h2
  unfold Z1p Z72
  rw[rb1,rb2,h2,Res.bind_ok',h.cutw]
def appT (s:List Fr) (d:Dat):List Fr:=match s with | f::r=>(f.1,f.2++ [d])::r | []=>[]
def wordP (s:List Fr) (v:Tx):List Fr×Nat:=
  if v.take 1=[60]then(if s.length=8 then(s,0)else(((tMir,0),[])::s,1))
  else if v.takeWhile dig≠[]then(if goodN (v.takeWhile dig)=true∧(v.dropWhile dig).take 1=[40]then(if s.length=8 then(s,0)else(((tTim,valN (v.takeWhile dig)),[])::s,(v.takeWhile dig).length+1))else(s,0))
  else if v.take 1=[42]then(appT s (.t [.s tAll,.s (((v.drop 1).takeWhile trn).take 1)]),2*(((v.drop 1).takeWhile trn).take 1).length)
  else if 8< (v.takeWhile trn).length then(s,0)else(appT s (.t [.s tRow,.s (v.takeWhile trn)]),(v.takeWhile trn).length)
theorem opened_ok {s:List Fr} (h:s.length≤8) (hd:Tx×Int):Z10 s hd=.ok (if s.length=8 then(s,false)else((hd,[])::s,true)):=by
  unfold Z10 Z3r
  by_cases z:s.length=8
  · rw[if_pos (by simp[z]),if_pos z]
  · rw[if_neg (by simp;omega),if_neg z]
    show(must _ _).bind _=_
    rw[must_ok (by unfold cap;omega)];rfl
theorem word_ok {t w:Tx} {c:Nat} (h:Suf t (c::w)) {f:Fr} {r:List Fr} (hs:(f::r).length≤8) (hf:f.2.length≤5000):Z0r (f::r) t (ps t (c::w))=.ok ((wordP (f::r) (c::w)).1,((wordP (f::r) (c::w)).2:Int)):=by
  unfold Z0r Z5p wordP
  have hle:=h.le
  have hln:=h.ln
  rw[h.ix,Res.bind_ok',Res.bind_ok']
  by_cases c1:c=60
  · subst c1
    rw[if_pos (by decide),if_pos (show List.take 1 (60::w)=[60]from rfl),opened_ok hs,Res.bind_ok']
    by_cases z:(f::r).length=8
    · rw[if_pos z,if_pos z];rfl
    · rw[if_neg z,if_neg z];rfl
  · have hd:=dw_len dig (c::w)
    rw[if_neg (by simpa using c1),if_neg (by simpa using c1),h.lrun,Res.bind_ok']
    have e1:((c::w).takeWhile fun c=>([48,49,50,51,52,53,54,55,56,57]:Tx).contains c)=(c::w).takeWhile dig:=rfl
    rw[e1]
    by_cases c2:(c::w).takeWhile dig=[]
    · rw[if_neg (by simp[c2]),if_neg (by simp[c2])]
      rw[Res.bind_ok',Res.bind_ok']
      by_cases c3:c=42
      · subst c3
        have hw:Suf t w:=h.drop 1
        rw[if_pos (by decide),if_pos (show List.take 1 (42::w)=[42]from rfl),ps_cons h,hw.lrun,Res.bind_ok',cutS_ok (by have:=dw_len trn w;have:=hw.le;show(w.takeWhile trn).length≤_;omega),Res.bind_ok',show(some (1:Int))=some ((1:Nat):Int)from rfl,cut_take]
        have e2:(w.takeWhile fun c=>([102,98,105]:Tx).contains c)=w.takeWhile trn:=rfl
        rw[e2]
        show(((Res.ok ()).bind fun _=>must (f.2.length< cap) _).bind _)=_
        rw[Res.bind_ok',must_ok (by unfold cap;omega),Res.bind_ok',lenS_ok (by simp;omega),Res.bind_ok',mulR_okL (by decide) (by decide),Res.bind_ok']
        simp[appT]
      · rw[if_neg (by simpa using c3),if_neg (by simpa using c3),h.lrun,Res.bind_ok']
        have e2:((c::w).takeWhile fun c=>([102,98,105]:Tx).contains c)=(c::w).takeWhile trn:=rfl
        have ht:=dw_len trn (c::w)
        rw[e2,lenS_ok (by omega),Res.bind_ok',Res.bind_ok']
        by_cases z:8< ((c::w).takeWhile trn).length
        · rw[if_pos (by simp;omega),if_pos z];rfl
        · rw[if_neg (by simp;omega),if_neg z]
          show(((Res.ok ()).bind fun _=>must (f.2.length< cap) _).bind _)=_
          rw[Res.bind_ok',must_ok (by unfold cap;omega),Res.bind_ok',Res.bind_ok']
          simp[appT]
    · rw[if_pos (by simp[c2]),if_pos c2]
      have hg:(((lenS ((c::w).takeWhile dig)).bind fun y27=>Res.ok (decide (y27=(1:Int)))).bind fun y31=>if y31 then Res.ok true else((lenS ((c::w).takeWhile dig)).bind fun y28=>Res.ok (decide (y28=(2:Int)))).bind fun y30=>if y30 then(ixS ((c::w).takeWhile dig) (0:Int)).bind fun y29=>Res.ok (!decide (y29=([48]:Tx)))else Res.ok false)=.ok (goodN ((c::w).takeWhile dig)):=by
        rw[lenS_ok (by omega)]
        simp only[Res.bind_ok']
        generalize (c::w).takeWhile dig=u at*
        match u,c2 with
        | [a],_=>rfl
        | [a, b], _ =>
          rw[if_neg (by simp),if_pos (by simp),show ixS [a,b] (0:Int)=.ok [a]from(ixS_ok (j:=0) rfl (by unfold cap;simp):ixS [a,b] ((0:Nat):Int)=.ok [a]),Res.bind_ok']
          simp[goodN]
        | a::b::d::q,_=>rw[if_neg (by simp;omega),if_neg (by simp;omega)];rfl
      rw[hg,Res.bind_ok',lenS_ok (by omega)]
      simp only[Res.bind_ok']
      have hv:Suf t ((c::w).dropWhile dig):=h.dw dig
      have ep:ps t (c::w)+(((c::w).takeWhile dig).length:Int)=ps t ((c::w).dropWhile dig):=by rw[ps_dw h];unfold ps;omega
      rw[ep,hv.cut1]
      simp only[Res.bind_ok']
      by_cases z:goodN ((c::w).takeWhile dig)=true∧((c::w).dropWhile dig).take 1=[40]
      · rw[if_pos z,if_neg (by simp[z.1]),Res.bind_ok',if_neg (by simp[z.2])]
        have hi:intW ((c::w).takeWhile dig)=.ok (valN ((c::w).takeWhile dig)):=by
          have hm:∀x∈(c::w).takeWhile dig,dig x=true:=fun x hx=>tw_mem hx
          have z1:=z.1
          generalize (c::w).takeWhile dig=u at*
          match u,c2,hm,z1 with
          | [a], _, hm, _ =>
            obtain⟨i,hi,rfl⟩:=dig_iff (hm a (List.mem_cons_self ..))
            unfold intW;rw[tab1 i hi];simp[ofO,valN];omega
          | [a, b], _, hm, _ =>
            obtain⟨i,hi,rfl⟩:=dig_iff (hm a (List.mem_cons_self ..))
            obtain⟨j,hj,rfl⟩:=dig_iff (hm b (by simp))
            unfold intW;rw[tab2 i hi j hj];simp[ofO,valN];omega
          | a::b::d::q,_,_,z1=>simp[goodN]at z1
        rw[hi,Res.bind_ok',Res.bind_ok',opened_ok hs,Res.bind_ok']
        by_cases y:(f::r).length=8
        · rw[if_pos y,if_pos y];rfl
        · rw[if_neg y,if_neg y];simp
      · rw[if_neg z]
        have:(if(!goodN ((c::w).takeWhile dig))=true then Res.ok true else Res.ok (!decide (((c::w).dropWhile dig).take 1=([40]:Tx))):Res Bool)=.ok true:=by
          by_cases y:goodN ((c::w).takeWhile dig)=true
          · rw[if_neg (by simp[y])]
            have:¬((c::w).dropWhile dig).take 1=[40]:=fun q=>z ⟨y,q⟩
            simp[this]
          · rw[if_pos (by simpa using y)]
        rw[this,Res.bind_ok',if_pos rfl];rfl
def FB (s:List Fr) (v:Tx):Prop:=∀f∈s,f.2.length+v.length≤2000
theorem FB.le {s:List Fr} {v w:Tx} (h:FB s v) (hw:w.length≤v.length):FB s w:=fun f hf=>by have:=h f hf;omega
theorem FB.app {h:Tx×Int} {a:List Dat} {rest:List Fr} {v w:Tx} {l:List Dat} (hb:FB ((h,a)::rest) v) (hw:l.length+w.length≤v.length):FB ((h,a++l)::rest) w:=fun f hf=>by
  rcases List.mem_cons.mp hf with rfl | hf
  · have:=hb (h,a) (List.mem_cons_self ..)
    simp at this ⊢
    omega
  · have:=hb f (List.mem_cons_of_mem _ hf)
    omega
structure Sim (t:Tx) (P:Nat→Tx→Option (List Dat×Tx)) (dp:Nat):Prop where
  sf:∀r l w,P dp r=some (l,w)→w <:+r
  no:∀(v:Tx) (h:Tx×Int) (a:List Dat) (rest:List Fr) (N:Nat),Suf t v→rest.length+1=dp→FB ((h,a)::rest) v→v.length< N→P dp v=none→RF t N 0 v ((h,a)::rest)=.ok none
  yes:∀(v:Tx) (h:Tx×Int) (a:List Dat) (rest:List Fr) (N:Nat) (l:List Dat) (w:Tx),Suf t v→rest.length+1=dp→FB ((h,a)::rest) v→v.length< N→P dp v=some (l,w)→l.length+w.length≤v.length∧
    ((l=[]∧(w.take 1=[]∨w.take 1=[41]∨w.take 1=[62])∧w=v)∨(l≠[]∧w.take 1≠[32]∧∃N',w.length< N'∧RF t N 0 v ((h,a)::rest)=RF t N' 1 w ((h,a++l)::rest)))
theorem sim_body {t r:Tx} {P:Nat→Tx→Option (List Dat×Tx)} {dp:Nat} (hm:Sim t P (dp+1)) (hr:Suf t r) {hd h:Tx×Int} {a:List Dat} {rest:List Fr} (hl:rest.length+1=dp) (hb:FB ((h,a)::rest) r) {N:Nat} (hN:r.length< N) {c:Nat} (hc:c=41∨c=62) {mk:List Dat→Dat}
    (hcl:∀l,clo ((hd,l)::(h,a)::rest) c=some ((h,a++ [mk l])::rest)) (hco:∀l y,(y=41∨y=62)→y≠c→clo ((hd,l)::(h,a)::rest) y=none):
    match (P (dp+1) r).bind (fun lw=>match lw.2 with | []=>none | y::w=>if y=c then some (lw.1,w)else none)with
    | none=>RF t N 0 r ((hd,[])::(h,a)::rest)=.ok none
    | some (l,w)=>l.length+w.length+1≤r.length∧∃N',w.length< N'∧RF t N 0 r ((hd,[])::(h,a)::rest)=RF t N' 1 w ((h,a++ [mk l])::rest):=by
  have hb2:FB ((hd,[])::(h,a)::rest) r:=fun f hf=>by
    rcases List.mem_cons.mp hf with rfl | hf
    · have:=hb (h,a) (List.mem_cons_self ..)
      simp at this ⊢;omega
    · exact hb f hf
  have hln:=hr.ln
  have hle:=hr.le
  cases e:P (dp+1) r with
  | none=>exact hm.no r hd [] ((h,a)::rest) N hr (by simp;omega) hb2 hN e
  | some lw =>
    obtain⟨l,w⟩:=lw
    obtain⟨y1,y2⟩:=hm.yes r hd [] ((h,a)::rest) N l w hr (by simp;omega) hb2 hN e
    have h5:∀l:List Dat,l.length≤1000→∀f∈(hd,l)::(h,a)::rest,f.2.length≤5000:=fun l hl f hf=>by
      rcases List.mem_cons.mp hf with rfl | hf
      · simp;omega
      · have:=hb f hf;omega
    simp only[Option.bind_some]
    obtain⟨st,N',hst,hN',e2,h0,h1,hs⟩:∃(st:Int) (N':Nat),(st=0∨st=1)∧w.length< N'∧RF t N 0 r ((hd,[])::(h,a)::rest)=RF t N' st w ((hd,l)::(h,a)::rest)∧(st=0→w.take 1=[]∨w.take 1=[41]∨w.take 1=[62])∧(st=1→w.take 1≠[32])∧Suf t w:=by
      rcases y2 with⟨rfl,z,rfl⟩ | ⟨_,z,N',hN',e2⟩
      · exact⟨0,N,.inl rfl,hN,rfl,fun _=>z,fun q=>absurd q (by decide),hr⟩
      · have hs:Suf t w:=hr.of (hm.sf r l w e)
        exact⟨1,N',.inr rfl,hN',by simpa using e2,fun q=>absurd q (by decide),fun _=>z,hs⟩
    cases N' with
    | zero=>omega
    | succ n =>
      have h2:st≠2:=by rcases hst with rfl | rfl <;> decide
      cases w with
      | nil =>
        show RF t N 0 r _=_
        rw[e2,RF_end hs]
        unfold finF
        simp only[]
        rw[if_pos (by simp;omega)];rfl
      | cons y w2 =>
        simp at hN' y1
        simp only[]
        by_cases q:y=41∨y=62
        · have e3:=RF_close hs q (h5 l (by omega)) n h2
          by_cases qc:y=c
          · subst qc
            rw[if_pos rfl]
            rw[hcl l]at e3
            exact⟨by omega,n,by omega,e2.trans e3⟩
          · rw[if_neg qc]
            rw[hco l y q qc]at e3
            exact e2.trans e3
        · have qc:y≠c:=fun z=>q (by rw[z];exact hc)
          rw[if_neg qc]
          rcases hst with rfl | rfl
          · have:=h0 rfl
            simp at this
            exact absurd this q
          · have e3:=RF_one hs q ((hd,l)::(h,a)::rest) n
            have:y≠32:=by have:=h1 rfl;simpa using this
            rw[if_neg this]at e3
            exact e2.trans e3
theorem spPrg9 (f:Nat) (r:Tx):spPrg f 9 r=none:=by
  cases f with
  | zero=>rfl
  | succ f=>unfold spPrg;rw[if_pos (by decide)]
theorem sim_stm {t v:Tx} {f dp:Nat} (hm:dp< 8→Sim t (spPrg f) (dp+1)) (hv:Suf t v) {h:Tx×Int} {a:List Dat} {rest:List Fr} (hl:rest.length+1=dp) (hd:dp≤8) (hb:FB ((h,a)::rest) v) {N:Nat} (hN:v.length< N) {st:Int} (hst:st=0∧¬(v.take 1=[]∨v.take 1=[41]∨v.take 1=[62])∨st=2):
    match spStm (spPrg f) dp v with
    | none=>RF t N st v ((h,a)::rest)=.ok none
    | some (d,w)=>∃N',w.length< N'∧RF t N st v ((h,a)::rest)=RF t N' 1 w ((h,a++ [d])::rest):=by
  cases N with
  | zero=>omega
  | succ N=>
  cases v with
  | nil =>
    rcases hst with⟨rfl,z⟩ | rfl
    · exact absurd (.inl rfl) z
    · show RF t (N+1) 2 [] _=_
      rw[RF_end hv]
      unfold finF
      simp only[]
      split
      · rfl
      · rfl
  | cons c w =>
    have h1:st=0∧¬(c=41∨c=62)∨st=2:=by
      rcases hst with⟨e,z⟩ | e
      · exact .inl ⟨e,by simpa using z⟩
      · exact .inr e
    have hf:=hb (h,a) (List.mem_cons_self ..)
    have e:=word_ok hv (f:=(h,a)) (r:=rest) (by simp;omega) (by simp at hf ⊢;omega)
    have hln:=hv.ln
    simp at hN
    unfold spStm
    unfold wordP at e
    have hw:Suf t w:=hv.drop 1
    have hbw:FB ((h,a)::rest) w:=hb.le (by simp)
    by_cases c1:c=42
    · subst c1
      rw[if_pos (show List.take 1 (42::w)=[42]from rfl)]
      rw[if_neg (by simp),if_neg (by simp[dig]),if_pos (show List.take 1 (42::w)=[42]from rfl)]at e
      simp only[List.drop_succ_cons,List.drop_zero]at e ⊢
      have hdl:=dw_len trn w
      unfold spTurns
      cases hu:w.takeWhile trn with
      | nil =>
        rw[hu]at e
        rw[if_pos (.inl rfl)]
        have:=RF_word hv (N:=N) h1 (k:=0) e (v:=w) (fun z=>absurd rfl z)
        rw[if_pos rfl]at this
        exact this
      | cons x u =>
        rw[hu]at e hdl
        have e':Z0r ((h,a)::rest) t (ps t (42::w))=.ok ((h,a++ [.t [.s tAll,.s [x]]])::rest,((2:Nat):Int)):=e
        have hwx:∃w',w=x::w':=by
          have:=span_eq trn w
          rw[hu]at this
          exact⟨_,this⟩
        obtain⟨w',hw'⟩:=hwx
        have hw2:Suf t w':=by rw[hw']at hw;exact hw.drop 1
        have hx:trn x=true:=tw_mem (v:=w) (p:=trn) (by rw[hu];exact List.mem_cons_self ..)
        have tw:w'.takeWhile trn=u∧w.dropWhile trn=w'.dropWhile trn:=by
          rw[hw',List.takeWhile_cons_of_pos hx]at hu
          exact⟨(List.cons.inj hu).2,by rw[hw',List.dropWhile_cons_of_pos hx]⟩
        have hps:ps t (42::w)+((2:Nat):Int)=ps t w':=by
          have a1:=ps_cons hv
          rw[hw']at a1 hw
          have a2:=ps_cons hw
          rw[hw'];omega
        have e4:=RF_word hv (N:=N) h1 (k:=2) e' (v:=w') (fun _=>hps)
        rw[if_neg (by decide),if_pos (by simp)]at e4
        cases u with
        | nil =>
          rw[if_neg (by simp)]
          have:w.dropWhile trn=w':=by
            rw[tw.2]
            have:=span_eq trn w'
            rw[tw.1]at this
            exact this.symm
          simp only[Option.map_some]
          rw[this]
          exact⟨N,by rw[hw']at hN;simp at hN;omega,e4⟩
        | cons y u =>
          rw[if_pos (.inr (by simp))]
          have hy:trn y=true:=tw_mem (v:=w') (p:=trn) (by rw[tw.1];exact List.mem_cons_self ..)
          have hwy:∃w2,w'=y::w2:=by
            have:=span_eq trn w'
            rw[tw.1]at this
            exact⟨_,this⟩
          obtain⟨w2,rfl⟩:=hwy
          cases N with
          | zero=>omega
          | succ n =>
            have ht:y=102∨y=98∨y=105:=by simpa [trn] using hy
            have e5:=RF_one hw2 (by omega) ((h,a++ [.t [.s tAll,.s [x]]])::rest) n
            rw[if_neg (by omega)]at e5
            exact e4.trans e5
    · rw[if_neg (by simpa using c1)]
      by_cases c2:c=60
      · subst c2
        rw[if_pos (show List.take 1 (60::w)=[60]from rfl)]
        rw[if_pos (show List.take 1 (60::w)=[60]from rfl)]at e
        have esb:spBody (spPrg f) 60 62 dp (60::w)=(spPrg f (dp+1) w).bind (fun lw=>match lw.2 with | []=>none | y::w=>if y=62 then some (lw.1,w)else none):=rfl
        rw[esb]
        by_cases z:((h,a)::rest).length=8
        · have hd8:dp+1=9:=by simp at z;omega
          rw[if_pos z]at e
          rw[hd8,spPrg9]
          have:=RF_word hv (N:=N) h1 (k:=0) e (v:=w) (fun z=>absurd rfl z)
          rw[if_pos rfl]at this
          exact this
        · rw[if_neg z]at e
          have e':Z0r ((h,a)::rest) t (ps t (60::w))=.ok (((tMir,0),[])::(h,a)::rest,((1:Nat):Int)):=e
          have e4:=RF_word hv (N:=N) h1 (k:=1) e' (v:=w) (fun _=>ps_cons hv)
          rw[if_neg (by decide),if_neg (by simp)]at e4
          have sb:=sim_body (hm (by simp at z;omega)) hw (hd:=(tMir,0)) hl hbw (N:=N) (by omega) (c:=62) (.inr rfl) (mk:=fun l=>.t [.s tMir,.l l]) (fun l=>rfl) (fun l y hy hn=>by rcases hy with rfl | rfl;rfl;exact absurd rfl hn)
          cases es:(spPrg f (dp+1) w).bind (fun lw=>match lw.2 with | []=>none | y::w=>if y=62 then some (lw.1,w)else none)with
          | none=>rw[es]at sb;exact e4.trans sb
          | some lw =>
            rw[es]at sb
            obtain⟨_,N',hN',e5⟩:=sb
            exact⟨N',hN',e4.trans e5⟩
      · rw[if_neg (by simpa using c2)]
        rw[if_neg (by simpa using c2)]at e
        by_cases c3:dig c=true
        · have hne:(c::w).takeWhile dig≠[]:=by rw[List.takeWhile_cons_of_pos c3];simp
          rw[if_pos (by simp[c3])]
          rw[if_pos hne]at e
          unfold spNum
          have hdl:=dw_len dig (c::w)
          have hdv:Suf t ((c::w).dropWhile dig):=hv.dw dig
          have epd:ps t (c::w)+(((c::w).takeWhile dig).length:Int)=ps t ((c::w).dropWhile dig):=by rw[ps_dw hv];unfold ps;omega
          have hul:0< ((c::w).takeWhile dig).length:=List.length_pos_iff.mpr hne
          generalize hU:(c::w).takeWhile dig=u at*
          generalize hD:(c::w).dropWhile dig=x at*
          by_cases g:goodN u=true
          · rw[if_pos g]
            simp only[Option.bind_some]
            cases x with
            | nil =>
              rw[if_neg (by simp)]at e
              have:=RF_word hv (N:=N) h1 (k:=0) e (v:=w) (fun z=>absurd rfl z)
              rw[if_pos rfl]at this
              exact this
            | cons b r =>
              by_cases hbb:b=40
              · subst hbb
                rw[if_pos ⟨g,rfl⟩]at e
                have hr:Suf t r:=hdv.drop 1
                have hbr:FB ((h,a)::rest) r:=hb.le (by simp at hdl ⊢;omega)
                have esb:spBody (spPrg f) 40 41 dp (40::r)=(spPrg f (dp+1) r).bind (fun lw=>match lw.2 with | []=>none | y::w=>if y=41 then some (lw.1,w)else none):=rfl
                rw[esb]
                by_cases z:((h,a)::rest).length=8
                · have hd8:dp+1=9:=by simp at z;omega
                  rw[if_pos z]at e
                  rw[hd8,spPrg9]
                  have:=RF_word hv (N:=N) h1 (k:=0) e (v:=w) (fun z=>absurd rfl z)
                  rw[if_pos rfl]at this
                  exact this
                · rw[if_neg z]at e
                  have e':Z0r ((h,a)::rest) t (ps t (c::w))=.ok (((tTim,valN u),[])::(h,a)::rest,((u.length+1:Nat):Int)):=e
                  have hp1:=ps_cons hdv
                  have e4:=RF_word hv (N:=N) h1 (k:=u.length+1) e' (v:=r) (fun _=>by omega)
                  rw[if_neg (by omega),if_neg (by simp)]at e4
                  have sb:=sim_body (hm (by simp at z;omega)) hr (hd:=(tTim,valN u)) hl hbr (N:=N) (by simp at hdl;omega) (c:=41) (.inl rfl) (mk:=fun l=>.t [.s tTim,.i (valN u),.l l]) (fun l=>rfl) (fun l y hy hn=>by rcases hy with rfl | rfl;exact absurd rfl hn;rfl)
                  cases es:(spPrg f (dp+1) r).bind (fun lw=>match lw.2 with | []=>none | y::w=>if y=41 then some (lw.1,w)else none)with
                  | none=>rw[es]at sb;exact e4.trans sb
                  | some lw =>
                    rw[es]at sb
                    obtain⟨_,N',hN',e5⟩:=sb
                    exact⟨N',hN',e4.trans e5⟩
              · rw[if_neg (by simp[hbb])]at e
                have esb:spBody (spPrg f) 40 41 dp (b::r)=none:=by unfold spBody;simp only[];rw[if_neg hbb]
                rw[esb]
                have:=RF_word hv (N:=N) h1 (k:=0) e (v:=w) (fun z=>absurd rfl z)
                rw[if_pos rfl]at this
                exact this
          · rw[if_neg g]
            rw[if_neg (fun q=>g q.1)]at e
            have:=RF_word hv (N:=N) h1 (k:=0) e (v:=w) (fun z=>absurd rfl z)
            rw[if_pos rfl]at this
            exact this
        · rw[if_neg (by simp[c3])]
          rw[if_neg (by rw[List.takeWhile_cons_of_neg c3];simp),if_neg (by simpa using c1)]at e
          unfold spTurns
          have hdl:=dw_len trn (c::w)
          have hdv:Suf t ((c::w).dropWhile trn):=hv.dw trn
          have epd:ps t (c::w)+(((c::w).takeWhile trn).length:Int)=ps t ((c::w).dropWhile trn):=by rw[ps_dw hv];unfold ps;omega
          generalize (c::w).takeWhile trn=u at*
          generalize (c::w).dropWhile trn=x at*
          by_cases z:8< u.length
          · rw[if_pos (.inr z)]
            rw[if_pos z]at e
            have:=RF_word hv (N:=N) h1 (k:=0) e (v:=w) (fun z=>absurd rfl z)
            rw[if_pos rfl]at this
            exact this
          · rw[if_neg z]at e
            have e':Z0r ((h,a)::rest) t (ps t (c::w))=.ok ((h,a++ [.t [.s tRow,.s u]])::rest,(u.length:Int)):=e
            have e4:=RF_word hv (N:=N) h1 (k:=u.length) e' (v:=x) (fun _=>epd)
            by_cases y:u=[]
            · rw[if_pos (.inl y)]
              rw[if_pos (by simp[y])]at e4
              exact e4
            · rw[if_neg (fun q=>q.elim y z)]
              have hul:0< u.length:=List.length_pos_iff.mpr y
              rw[if_neg (by omega),if_pos (by simp)]at e4
              exact⟨N,by show x.length< N;rw[List.length_cons]at hdl;omega,e4⟩
theorem sim_loop {t:Tx} {f dp:Nat} (hm:dp< 8→Sim t (spPrg f) (dp+1)) (hP:∀r l w,spPrg f (dp+1) r=some (l,w)→w <:+r) (hd:dp≤8) {h:Tx×Int} {rest:List Fr} (hl:rest.length+1=dp) (pre:List Dat):∀(n:Nat) (a:List Dat) (v:Tx) (N:Nat),Suf t v→FB ((h,pre++a)::rest) v→v.length< n→v.length< N→
    match spLoop (spStm (spPrg f) dp) n a v with
    | none=>RF t N 1 v ((h,pre++a)::rest)=.ok none
    | some (l,w)=>a.length≤l.length∧l.length+w.length≤a.length+v.length∧w.take 1≠[32]∧∃N',w.length< N'∧RF t N 1 v ((h,pre++a)::rest)=RF t N' 1 w ((h,pre++l)::rest)
  | 0,a,v,N,_,_,hn,_=>by omega
  | n + 1, a, v, N, hv, hb, hn, hN => by
    unfold spLoop
    by_cases z:v.take 1=[32]
    · rw[if_pos z]
      obtain⟨w,rfl⟩:∃w,v=32::w:=by
        cases v with
        | nil=>simp at z
        | cons x w=>simp at z;exact⟨w,by rw[z]⟩
      have hw:Suf t w:=hv.drop 1
      simp at hn hN
      cases N with
      | zero=>omega
      | succ N =>
        have e1:=RF_one hv (by omega) ((h,pre++a)::rest) N
        rw[if_pos rfl]at e1
        have hbw:FB ((h,pre++a)::rest) w:=hb.le (by simp)
        have ss:=sim_stm hm hw hl hd hbw (N:=N) (by omega) (st:=2) (.inr rfl)
        show match (spStm (spPrg f) dp w).bind (fun dv=>spLoop (spStm (spPrg f) dp) n (a++ [dv.1]) dv.2)with
          | none=>RF t (N+1) 1 (32::w) ((h,pre++a)::rest)=.ok none
          | some (l,w_1)=>a.length≤l.length∧l.length+w_1.length≤a.length+(32::w).length∧w_1.take 1≠[32]∧∃N',w_1.length< N'∧RF t (N+1) 1 (32::w) ((h,pre++a)::rest)=RF t N' 1 w_1 ((h,pre++l)::rest)
        cases e:spStm (spPrg f) dp w with
        | none=>rw[e]at ss;exact e1.trans ss
        | some dv =>
          rw[e]at ss
          obtain⟨N',hN',e2⟩:=ss
          have hs:=spStm_sf hP e
          have h2:=hs.2
          simp only[Option.bind_some]
          have ih:=sim_loop hm hP hd hl pre n (a++ [dv.1]) dv.2 N' (hw.of hs.1) (by
            have:=hb.app (l:=[dv.1]) (w:=dv.2) (by simp;omega)
            simpa using this) (by omega) hN'
          have e3:RF t (N+1) 1 (32::w) ((h,pre++a)::rest)=RF t N' 1 dv.2 ((h,pre++(a++ [dv.1]))::rest):=by rw[e1,e2];simp
          cases es:spLoop (spStm (spPrg f) dp) n (a++ [dv.1]) dv.2 with
          | none=>rw[es]at ih;exact e3.trans ih
          | some lw =>
            rw[es]at ih
            obtain⟨i1,i2,i3,N2,hN2,i4⟩:=ih
            simp at i1 i2
            exact⟨by omega,by simp;omega,i3,N2,hN2,e3.trans i4⟩
    · rw[if_neg z]
      exact⟨Nat.le_refl _,Nat.le_refl _,z,N,hN,rfl⟩
theorem sim_prg (t:Tx):∀(f dp:Nat),10≤f+dp→dp≤8→Sim t (spPrg f) dp
  | 0,dp,h,h8=>by omega
  | f + 1, dp, hf, h8 => by
    have hm:dp< 8→Sim t (spPrg f) (dp+1):=fun z=>sim_prg t f (dp+1) (by omega) (by omega)
    have hP:=spPrg_sf f (dp+1)
    have key:∀(v:Tx) (h:Tx×Int) (a:List Dat) (rest:List Fr) (N:Nat),Suf t v→rest.length+1=dp→FB ((h,a)::rest) v→v.length< N→match spPrg (f+1) dp v with
        | none=>RF t N 0 v ((h,a)::rest)=.ok none
        | some (l,w)=>l.length+w.length≤v.length∧((l=[]∧(w.take 1=[]∨w.take 1=[41]∨w.take 1=[62])∧w=v)∨(l≠[]∧w.take 1≠[32]∧∃N',w.length< N'∧RF t N 0 v ((h,a)::rest)=RF t N' 1 w ((h,a++l)::rest))):=fun v h a rest N hv hl hb hN=>by
      unfold spPrg
      rw[if_neg (by omega)]
      by_cases z:v.take 1=[]∨v.take 1=[41]∨v.take 1=[62]
      · rw[if_pos z]
        exact⟨by simp,.inl ⟨rfl,z,rfl⟩⟩
      · rw[if_neg z]
        have ss:=sim_stm hm hv hl h8 hb hN (st:=0) (.inl ⟨rfl,z⟩)
        cases e:spStm (spPrg f) dp v with
        | none=>rw[e]at ss;exact ss
        | some dv =>
          rw[e]at ss
          obtain⟨N',hN',e2⟩:=ss
          have hs:=spStm_sf hP e
          have h2:=hs.2
          simp only[Option.bind_some]
          have sl:=sim_loop hm hP h8 hl a (v.length+1) [dv.1] dv.2 N' (hv.of hs.1) (hb.app (l:=[dv.1]) (w:=dv.2) (by simp;omega)) (by omega) hN'
          cases es:spLoop (spStm (spPrg f) dp) (v.length+1) [dv.1] dv.2 with
          | none=>rw[es]at sl;exact e2.trans sl
          | some lw =>
            rw[es]at sl
            obtain⟨i1,i2,i3,N2,hN2,i4⟩:=sl
            simp at i1 i2
            exact⟨by omega,.inr ⟨fun q=>by rw[q]at i1;simp at i1,i3,N2,hN2,e2.trans i4⟩⟩
    refine⟨spPrg_sf (f+1) dp,fun v h a rest N hv hl hb hN e=>?_,fun v h a rest N l w hv hl hb hN e=>?_⟩
    · have:=key v h a rest N hv hl hb hN
      rw[e]at this;exact this
    · have:=key v h a rest N hv hl hb hN
      rw[e]at this;exact this
theorem parse_rd {t:Tx} (h:t.length≤1000):Z18 t=.ok (spRead t):=by
  have hs:Suf t t:=⟨List.suffix_refl _,h⟩
  have hb:FB [((([116,111,112]:Tx),(0:Int)),([]:List Dat))] t:=fun f hf=>by rw[List.mem_singleton.mp hf];simp;omega
  rw[parse_RF]
  have sm:=sim_prg t 20 1 (by omega) (by omega)
  unfold spRead
  cases e:spPrg 20 1 t with
  | none=>exact sm.no t _ [] [] cap hs rfl hb (by unfold cap;omega) e
  | some lw =>
    obtain⟨l,w⟩:=lw
    obtain⟨y1,y2⟩:=sm.yes t ([116,111,112],0) [] [] cap l w hs rfl hb (by unfold cap;omega) e
    have hw:Suf t w:=hs.of (sm.sf t l w e)
    have hle:=hw.le
    obtain⟨st,N',hst,hN',e2,h0,h1⟩:∃(st:Int) (N':Nat),(st=0∨st=1)∧w.length< N'∧RF t cap 0 t [(([116,111,112],0),[])]=RF t N' st w [(([116,111,112],0),l)]∧(st=0→w.take 1=[]∨w.take 1=[41]∨w.take 1=[62])∧(st=1→w.take 1≠[32]):=by
      rcases y2 with⟨rfl,z,rfl⟩ | ⟨_,z,N',hN',e2⟩
      · exact⟨0,cap,.inl rfl,by unfold cap;omega,rfl,fun _=>z,fun q=>absurd q (by decide)⟩
      · exact⟨1,N',.inr rfl,hN',by simpa using e2,fun q=>absurd q (by decide),fun _=>z⟩
    rw[e2]
    cases N' with
    | zero=>omega
    | succ n =>
      cases w with
      | nil =>
        rw[RF_end hw]
        rcases hst with rfl | rfl <;> rfl
      | cons y w2 =>
        simp only[]
        by_cases q:y=41∨y=62
        · rw[RF_close hw q (fun f hf=>by rw[List.mem_singleton.mp hf];simp at y1 ⊢;omega) n (by rcases hst with rfl | rfl <;> decide)]
          rfl
        · rcases hst with rfl | rfl
          · have:=h0 rfl
            simp at this
            exact absurd this q
          · have:y≠32:=by have:=h1 rfl;simpa using this
            rw[RF_one hw q,if_neg this]
theorem Stm.imp {R R':Tx→Prop} (h:∀x,R x→R' x):∀{k:Nat} {d:Dat},Stm R k d→Stm R' k d
  | _,_,.row hx=>.row (h _ hx)
  | _,_,.all hc=>.all hc
  | _,_,.tim h0 h1 h2 h3=>.tim h0 h1 h2 fun s hs=>Stm.imp h (h3 s hs)
  | _,_,.mir h2 h3=>.mir h2 fun s hs=>Stm.imp h (h3 s hs)
theorem trn_iff {c:Nat} (h:trn c=true):isTurn c:=by simpa [trn,isTurn] using h
theorem good_num {u:Tx} (hm:∀c∈u,dig c=true) (g:goodN u=true):0≤valN u∧valN u≤99∧numT (valN u)=u:=by
  match u,hm,g with
  | [a], hm, _ =>
    obtain⟨i,hi,rfl⟩:=dig_iff (hm a (List.mem_cons_self ..))
    have e:valN [48+i]=(i:Int):=by simp[valN];omega
    rw[e]
    exact⟨by omega,by omega,num1 i hi⟩
  | [a, b], hm, g =>
    obtain⟨i,hi,rfl⟩:=dig_iff (hm a (List.mem_cons_self ..))
    obtain⟨j,hj,rfl⟩:=dig_iff (hm b (by simp))
    have hz:i≠0:=fun z=>by rw[z]at g;simp[goodN]at g
    have e:valN [48+i,48+j]=((10*i+j:Nat):Int):=by simp[valN];omega
    rw[e,num2 i hi j hj,if_neg hz]
    exact⟨by omega,by omega,rfl⟩
  | a::b::c::r,_,g=>simp[goodN]at g
theorem spPrg_deep {f dp:Nat} {r:Tx} (h:8< dp):spPrg f dp r=none:=by
  cases f with
  | zero=>rfl
  | succ f=>unfold spPrg;rw[if_pos h]
def Snd (P:Nat→Tx→Option (List Dat×Tx)) (dp:Nat):Prop:=∀v l w,v.length≤1000→P dp v=some (l,w)→dp≤8∧Prg Row81 (8- dp) l∧l.length≤v.length∧v=wrP (8- dp) l++w
theorem snd_body {P:Nat→Tx→Option (List Dat×Tx)} {dp o c:Nat} (hP:Snd P (dp+1)) {v:Tx} (hv:v.length≤1000) {l:List Dat} {w:Tx} (h:spBody P o c dp v=some (l,w)):dp+1≤8∧Prg Row81 (8- (dp+1)) l∧l.length≤1000∧v=o::(wrP (8- (dp+1)) l++c::w):=by
  unfold spBody at h
  cases v with
  | nil=>cases h
  | cons x r =>
    simp only[]at h
    simp at hv
    by_cases z:x=o
    · rw[if_pos z]at h
      cases e:P (dp+1) r with
      | none=>rw[e]at h;cases h
      | some lw =>
        rw[e]at h
        obtain⟨l',w'⟩:=lw
        obtain⟨h1,h2,h3,h4⟩:=hP r l' w' (by omega) e
        simp only[Option.bind_some]at h
        cases w' with
        | nil=>cases h
        | cons y w'' =>
          simp only[]at h
          by_cases q:y=c
          · rw[if_pos q]at h
            cases h
            exact⟨h1,h2,by omega,by rw[h4,z,q]⟩
          · rw[if_neg q]at h;cases h
    · rw[if_neg z]at h;cases h
theorem snd_turns {most:Nat} {v u w:Tx} (h:spTurns most v=some (u,w)):u≠[]∧u.length≤most∧(∀c∈u,isTurn c)∧v=u++w:=by
  unfold spTurns at h
  split at h
  · cases h
  · rename_i z
    cases h
    exact⟨fun q=>z (.inl q),by have:=fun q=>z (.inr q);omega,fun c hc=>trn_iff (tw_mem hc),span_eq trn v⟩
theorem snd_stm {f dp:Nat} (hP:Snd (spPrg f) (dp+1)) (hd:dp≤8) {v:Tx} (hv:v.length≤1000) {d:Dat} {w:Tx} (h:spStm (spPrg f) dp v=some (d,w)):Stm Row81 (8- dp) d∧v=wrS (8- dp) d++w:=by
  unfold spStm at h
  split at h
  · rename_i c1
    obtain⟨uv,e,h2⟩:=Option.map_eq_some_iff.mp h
    cases h2
    obtain⟨h1,h3,h4,h5⟩:=snd_turns (u:=uv.1) (w:=uv.2) e
    obtain⟨x,hx⟩:∃x,uv.1=[x]:=by
      cases hu:uv.1 with
      | nil=>exact absurd hu h1
      | cons a r =>
        rw[hu]at h3
        simp at h3
        exact⟨a,by rw[h3]⟩
    have hv2:v=42::v.drop 1:=by
      cases v with
      | nil=>simp at c1
      | cons a r=>simp at c1;simp[c1]
    rw[hx]
    refine⟨.all (h4 x (by rw[hx];simp)),?_⟩
    rw[wrS_all,hv2,h5,hx];rfl
  · split at h
    · obtain⟨lw,e,h2⟩:=Option.map_eq_some_iff.mp h
      cases h2
      obtain⟨h1,h3,h4,h5⟩:=snd_body hP hv (l:=lw.1) (w:=lw.2) e
      rw[show 8- dp=(8- (dp+1))+1 by omega]
      exact⟨.mir h4 h3,by rw[wrS_mir,h5];simp⟩
    · split at h
      · obtain⟨nv,e,h2⟩:=Option.bind_eq_some_iff.mp h
        obtain⟨lw,e3,h4⟩:=Option.map_eq_some_iff.mp h2
        cases h4
        unfold spNum at e
        split at e
        · rename_i g
          cases e
          have hdl:=dw_len dig v
          obtain⟨h1,h3,h4,h5⟩:=snd_body hP (v:=v.dropWhile dig) (by omega) (l:=lw.1) (w:=lw.2) e3
          obtain⟨n0,n1,n2⟩:=good_num (fun c hc=>tw_mem (v:=v) hc) g
          rw[show 8- dp=(8- (dp+1))+1 by omega]
          refine⟨.tim n0 n1 h4 h3,?_⟩
          rw[wrS_tim,n2]
          conv=>lhs;rw[span_eq dig v,h5]
          simp
        · cases e
      · obtain⟨uv,e,h2⟩:=Option.map_eq_some_iff.mp h
        cases h2
        obtain⟨h1,h3,h4,h5⟩:=snd_turns (u:=uv.1) (w:=uv.2) e
        exact⟨.row ⟨List.length_pos_iff.mpr h1,h3⟩,by rw[wrS_row];exact h5⟩
theorem snd_loop {f dp:Nat} (hP:Snd (spPrg f) (dp+1)) (hPs:∀r l w,spPrg f (dp+1) r=some (l,w)→w <:+r) (hd:dp≤8):∀(n:Nat) (a:List Dat) (v:Tx) (l:List Dat) (w:Tx),v.length≤1000→spLoop (spStm (spPrg f) dp) n a v=some (l,w)→∃r,l=a++r∧Prg Row81 (8- dp) r∧r.length≤v.length∧v=tails (8- dp) r w
  | 0,_,_,_,_,_,h=>by cases h
  | n + 1, a, v, l, w, hv, h => by
    unfold spLoop at h
    split at h
    · rename_i c1
      obtain⟨dv,e,h2⟩:=Option.bind_eq_some_iff.mp h
      obtain⟨x,rfl⟩:∃x,v=32::x:=by
        cases v with
        | nil=>simp at c1
        | cons b x=>simp at c1;exact⟨x,by rw[c1]⟩
      simp at hv
      have e:spStm (spPrg f) dp x=some (dv.1,dv.2):=e
      obtain⟨h3,h4⟩:=snd_stm hP hd (by omega) e
      have hs:=spStm_sf hPs e
      have hs2:=hs.2
      obtain⟨r,h5,h6,h7,h8⟩:=snd_loop hP hPs hd n _ _ l w (by omega) h2
      refine⟨dv.1::r,by rw[h5];simp,fun s hs=>?_,by simp;omega,?_⟩
      · rcases List.mem_cons.mp hs with rfl | hs
        · exact h3
        · exact h6 s hs
      · rw[tails_cons,h4,h8]
    · cases h
      exact⟨[],by simp,Prg.nil,by simp,by simp[tails]⟩
theorem snd_prg:∀(f dp:Nat),Snd (spPrg f) dp
  | 0,dp=>fun v l w _ h=>by cases h
  | f + 1, dp => fun v l w hv h => by
    by_cases z:8< dp
    · rw[spPrg_deep z]at h;cases h
    · unfold spPrg at h
      rw[if_neg z]at h
      refine⟨by omega,?_⟩
      split at h
      · cases h
        exact⟨Prg.nil,by simp,rfl⟩
      · obtain⟨dv,e,h2⟩:=Option.bind_eq_some_iff.mp h
        have e:spStm (spPrg f) dp v=some (dv.1,dv.2):=e
        have hs:=spStm_sf (spPrg_sf f (dp+1)) e
        have hs2:=hs.2
        obtain⟨h3,h4⟩:=snd_stm (snd_prg f (dp+1)) (by omega) hv e
        obtain⟨r,h5,h6,h7,h8⟩:=snd_loop (snd_prg f (dp+1)) (spPrg_sf f (dp+1)) (by omega) _ _ _ l w (by omega) h2
        have h5:l=dv.1::r:=h5
        refine⟨fun s hs=>?_,by rw[h5];simp;omega,?_⟩
        · rw[h5]at hs
          rcases List.mem_cons.mp hs with rfl | hs
          · exact h3
          · exact h6 s hs
        · rw[h5,wrP_tails,←h8];exact h4
theorem glue_ge:∀xs:List Tx,(xs.map List.length).sum≤(glueT [32] xs).length
  | []=>by simp[glueT]
  | [x]=>by simp[glueT]
  | x :: y :: r => by
    have:=glue_ge (y::r)
    simp[glueT]at this ⊢
    omega
theorem sum_ge {f:Dat→Tx} :∀(l:List Dat),(∀d∈l,nsz d≤(f d).length)→nszL l≤((l.map f).map List.length).sum
  | [],_=>by simp[nszL]
  | d :: r, h => by
    have h1:=h d (List.mem_cons_self ..)
    have h2:=sum_ge r fun x hx=>h x (List.mem_cons_of_mem _ hx)
    simp[nszL]at h2 ⊢
    omega
theorem nsz_ge:∀(k:Nat) (d:Dat),Stm Row81 k d→nsz d≤(wrS k d).length
  | k,_,.row h=>by rw[wrS_row,nsz_row];exact h.1
  | k,_,.all h=>by rw[wrS_all,nsz_row];simp
  | k + 1, _, .tim (n := n) (b := b) h0 h1 h2 h3 => by
    have e:=Nat.le_trans (sum_ge b fun d hd=>nsz_ge k d (h3 d hd)) (glue_ge _)
    rw[wrS_tim,nsz_tim]
    simp only[wrP,List.length_append,List.length_cons,List.length_nil]
    omega
  | k + 1, _, .mir (b := b) h2 h3 => by
    have e:=Nat.le_trans (sum_ge b fun d hd=>nsz_ge k d (h3 d hd)) (glue_ge _)
    rw[wrS_mir,nsz_mir]
    simp only[wrP,List.length_append,List.length_cons,List.length_nil]
    omega
theorem nszL_ge {k:Nat} {l:List Dat} (h:Prg Row81 k l):nszL l≤(wrP k l).length:=Nat.le_trans (sum_ge l fun d hd=>nsz_ge k d (h d hd)) (glue_ge _)
theorem repT_ok {x:Tx} {n:Int} (h0:0≤n) (h1:n≤1000) (hx:x.length≤100):repT x n=.ok (List.replicate n.toNat x).flatten:=must_ok ⟨h0,h1,hx⟩
theorem repf_len {x:Tx} :∀k:Nat,(List.replicate k x).flatten.length=k*x.length
  | 0=>by simp
  | k+1=>by rw[List.replicate_succ,List.flatten_cons,List.length_append,repf_len k,Nat.succ_mul];omega
theorem nest_ok (c:Int):(Z1u c).Ok fun x=>x.length≤200:=by
  unfold Z1u Z5n
  obtain⟨k,hk⟩:∃k:Nat,c/ 39% 12=(k:Int):=⟨(c/ 39% 12).toNat,by omega⟩
  rw[hk,cutS_ok (by simp),Res.bind_ok',cut_take]
  have hy:(List.take k ([102,98,105,102,98,105,102,98,105,102,98]:Tx)).length≤11:=by simp;omega
  generalize List.take k ([102,98,105,102,98,105,102,98,105,102,98]:Tx)=y at*
  have d0:0≤c% 13:=by omega
  have d1:c% 13≤12:=by omega
  generalize c% 13=d at*
  refine okD (fun _=>?_) fun _=>okD (fun _=>?_) fun _=>?_
  · rw[repS_ok (by omega) (by omega),Res.bind_ok',catS_ok (by simp;omega),Res.bind_ok',repS_ok (by omega) (by omega),Res.bind_ok',catS_ok (by simp;omega)]
    show List.length _≤_
    simp;omega
  · rw[repT_ok (by omega) (by omega) (by simp),Res.bind_ok',catS_ok (by rw[repf_len];simp;omega),Res.bind_ok',repS_ok (by omega) (by omega),Res.bind_ok',catS_ok (by rw[List.length_append,repf_len];simp;omega)]
    show List.length _≤_
    rw[List.length_append,List.length_append,repf_len]
    simp;omega
  · rw[repT_ok (by omega) (by omega) (by simp),Res.bind_ok',catS_ok (by rw[repf_len];simp;omega),Res.bind_ok',catS_ok (by rw[List.length_append,repf_len];simp;omega),Res.bind_ok',repT_ok (by omega) (by omega) (by simp),Res.bind_ok',catS_ok (by rw[List.length_append,List.length_append,repf_len,repf_len];simp;omega),Res.bind_ok',catS_ok (by rw[List.length_append,List.length_append,List.length_append,repf_len,repf_len];simp;omega)]
    show List.length _≤_
    rw[List.length_append,List.length_append,List.length_append,List.length_append,repf_len,repf_len]
    simp;omega
theorem built_ok (ns:List Int) (h:ns.length≤63):(Z1i ns).Ok fun t=>t.length≤1000:=by
  unfold Z1i Z4q
  obtain⟨a0,e0⟩:=at_ok h 0 (by omega)
  have e0:Z0u ns (0:Int)=.ok a0:=e0
  obtain⟨ds,ed,hd⟩:=draws_ok h 4 (by omega)
  have ed:Z17 ns (4:Int)=.ok ds:=ed
  rw[e0,Res.bind_ok',ed,Res.bind_ok']
  obtain⟨w,hw⟩:∃w:Nat,(1:Int)+a0/ 12% 8=(w:Int):=⟨((1:Int)+a0/ 12% 8).toNat,by omega⟩
  obtain⟨l,el,hl,hll,hlz⟩:=program_okz (w:=w) (most:=8) (by omega) (by omega) (by omega) ds (by omega)
  have el:Z0S ds (w:Int) (8:Int)=.ok l:=el
  have hl:Prg Row81 7 l:=fun s hs=>Stm.imp (fun x (hx:RowW w x)=>⟨by rw[hx.1];omega,by rw[hx.1];omega⟩) (hl s hs)
  rw[hw,el,Res.bind_ok',show Z0D l=.ok (wrP 7 l)from writef_ok (w:=0) (by omega) 20 7 l (by omega) hl (by omega) (by omega),Res.bind_ok']
  have hlen:=wrP_len (w:=0) (by omega) hl
  refine okB (Res.Ok.imp (P:=fun t:Tx=>t.length≤800) (okD (fun _=>okB ((nest_ok _).imp fun x hx=>okR (by omega))) fun _=>okR (by omega)) fun t1 h1=>?_)
  refine okB (Res.Ok.imp (P:=fun t:Tx=>t.length≤850) (okD (fun _=>?_) fun _=>okR (by omega)) fun t2 h2=>?_)
  · obtain⟨k,hk⟩:∃k:Nat,a0/ 6% 1200=(k:Int):=⟨(a0/ 6% 1200).toNat,by omega⟩
    have hn:=num_short k (by omega)
    rw[hk,show fmtI (k:Int)=.ok (numT (k:Int))from must_ok hn.2,Res.bind_ok',catS_ok (by simp;omega),Res.bind_ok',catS_ok (by simp;omega),Res.bind_ok',catS_ok (by simp;omega),Res.bind_ok']
    show List.length _≤_
    simp;omega
  refine okB (Res.Ok.imp (P:=fun t:Tx=>t.length≤900) (okD (fun _=>?_) fun _=>okR (by omega)) fun t3 h3=>?_)
  · have hx:∃x:Tx,ixL [([32]:Tx),([10]:Tx),([41]:Tx),([32,42,102]:Tx),([62]:Tx),([40,41]:Tx)] (a0/ 6% 6)=.ok x∧x.length≤3:=by
      have:a0/ 6% 6=0∨a0/ 6% 6=1∨a0/ 6% 6=2∨a0/ 6% 6=3∨a0/ 6% 6=4∨a0/ 6% 6=5:=by omega
      rcases this with q | q | q | q | q | q <;> rw[q] <;> exact⟨_,rfl,by decide⟩
    obtain⟨x,ex,hx⟩:=hx
    rw[ex,Res.bind_ok',catS_ok (by omega),Res.bind_ok']
    show List.length _≤_
    simp;omega
  have step:∀(k:Nat) (n:Nat) (s:Tx),k≤10→s.length≤n→n≤950→∃s',Z1o Z0u Z0M ns (k:Int) s=.ok s'∧s'.length≤n+2:=fun k n s hk hs hn=>by
    unfold Z1o
    obtain⟨b,eb⟩:=at_ok h k (by omega)
    rw[eb]
    simp only[Res.bind_ok']
    by_cases z:b% 2=1
    · rw[if_pos (by simpa using z)]
      obtain⟨y,ey,hy⟩:=(spoil_ok (x:=s) (by omega) (b/ 2)).ex
      rw[ey]
      exact⟨y,rfl,by omega⟩
    · rw[if_neg (by simpa using z)]
      exact⟨s,rfl,by omega⟩
  obtain⟨s1,q1,r1⟩:=step 1 900 t3 (by omega) h3 (by omega)
  obtain⟨s2,q2,r2⟩:=step 2 902 s1 (by omega) r1 (by omega)
  obtain⟨s3,q3,r3⟩:=step 3 904 s2 (by omega) r2 (by omega)
  have er:rangeR2 (1:Int) (4:Int)=.ok [((1:Nat):Int),((2:Nat):Int),((3:Nat):Int)]:=rfl
  rw[er,Res.bind_ok']
  have ef:forR (Z1o Z0u Z0M ns) [((1:Nat):Int),((2:Nat):Int),((3:Nat):Int)] t3=.ok s3:=by
    unfold forR
    rw[q1,Res.bind_ok']
    unfold forR
    rw[q2,Res.bind_ok']
    unfold forR
    rw[q3,Res.bind_ok']
    rfl
  rw[ef,Res.bind_ok']
  show List.length _≤_
  omega
theorem law_ok (ns:List Int) (h:ns.length≤63):(m_law ns).Ok (· =true):=by
  unfold m_law M_law
  refine okB ((built_ok ns h).imp fun t ht=>?_)
  rw[parse_rd ht,Res.bind_ok']
  unfold Z1t Z4s
  rw[read_rd ht]
  cases e:spRead t with
  | none =>
    show(eqD (refD [114,101,102,117,115,101,100] 2) (refD [114,101,102,117,115,101,100] 2)).Ok _
    rw[eqD_ok (a:=refD [114,101,102,117,115,101,100] 2) rfl (fun z hz=>by
      simp at hz
      rcases hz with rfl | rfl
      · trivial
      · intro y hy
        rw[List.mem_singleton.mp hy]
        trivial)]
    rfl
  | some l =>
    have hp:spPrg 20 1 t=some (l,[]):=by
      unfold spRead at e
      cases e2:spPrg 20 1 t with
      | none=>rw[e2]at e;cases e
      | some lw =>
        obtain⟨l',w⟩:=lw
        rw[e2]at e
        cases w with
        | nil=>cases e;rfl
        | cons c w=>cases e
    obtain⟨_,hP,hlen,ht2⟩:=snd_prg 20 1 t l [] ht hp
    have hP:Prg Row81 7 l:=hP
    have ht2:t=wrP 7 l:=by simpa using ht2
    have hz:=nszL_ge hP
    rw[←ht2]at hz
    have hw:Z0G l=.ok t:=by
      have:=writtenf_ok (w:=0) (by omega) 20 7 l (by omega) hP (by omega) (by omega)
      rw[←ht2]at this
      exact this
    have hle:(Dat.t [.s [114,101,97,100],.l l]).le 24:=Dat.le_up 24 17 _ (by omega) fun z hz=>by
      simp at hz
      rcases hz with rfl | rfl
      · trivial
      · exact fun s hs=>Stm.le 7 s (hP s hs)
    have hq:eqD (.t [.s [114,101,97,100],.l l]) (.t [.s [114,101,97,100],.l l])=.ok true:=eqD_ok rfl hle
    simp only[Res.tryR,Res.bind_ok',Option.isNone_some,Bool.false_eq_true,if_false,optD,List.map_id',hq,Bool.not_true,ixU21,oL,hw]
    show Res.Ok (.ok (decide (t=t))) _
    simp[Res.Ok]
end Mi
namespace PySem.W.Fast
def tw140001813534094272:=()
def tw10698057553749749337:=()
def tw13810262117814702294:=()
def tw5323657890516693427:=()
def tw17613222154834848340:=()
def tw5344687154915797982:=()
def tw855453113358079251:=()
def tw15752536640612570366:=()
def tw13861969467909019144:=()
def tw18437792190763421558:=()
def tw14565471765716263578:=()
def tw6548459193220583526:=()
def tw9495317472360511255:=()
def tw14842496431369740429:=()
def tw6858818405166986180:=()
def tw15779231459743154856:=()
def tw12147665669636231765:=()
def tw17318462890700432884:=()
def tw12297992134047619483:=()
def tw447263597446747957:=()
def tw9879335643197240621:=()
def tw10159399881129095643:=()
def tw10741264400317747893:=()
def tw15042883488752021643:=()
def tw3374319085511977134:=()
def tw14961746396406840608:=()
def tw8060666987683057360:=()
def tw13769103115541136327:=()
def tw1205274952441263945:=()
def tw726351398001015727:=()
def tw18418582437962087742:=()
def tw9464783005390448368:=()
def tw11766667032028208565:=()
def tw9919008367099125623:=()
def tw5890639436620234070:=()
def tw16766683885213920930:=()
def tw87601786513091389:=()
def tw14170518179582410385:=()
def tw13055953723892786844:=()
def tw7485256538410118956:=()
def tw12843764043397292189:=()
def tw14847308668706973960:=()
def tw14993981098963755598:=()
def tw6953138203311097117:=()
def tw13114645530532618160:=()
def tw16636501806038632012:=()
def tw4493901809537577575:=()
def tw3300257896294614128:=()
def tw10519837036962490867:=()
def tw9536688357841153863:=()
def tw1725486776273817318:=()
def tw209982475168477708:=()
def tw16919654943277366748:=()
def tw2353497105660221152:=()
def tw17744993626210230056:=()
def tw8899516883271353254:=()
def tw5667099127317398114:=()
def tw16203965252921439515:=()
def tw15173544498738437827:=()
def tw15433366417846715934:=()
def tw15925456577456769635:=()
def tw6469784823511061222:=()
def tw10910644110388302437:=()
def tw6162269159774324313:=()
def tw14537775516033599862:=()
def tw17292613610259460706:=()
def tw5002640475654186023:=()
def tw12960429369202013873:=()
def tw1383625962624193546:=()
def tw12917704675397863716:=()
def tw17062427158221528723:=()
def tw15861351967447197489:=()
def tw12099505692703838030:=()
def tw4849480874435393781:=()
def tw6549852094080907030:=()
def tw1478030337931831861:=()
def tw14664691819916384248:=()
def tw861502493610598483:=()
def tw15254633091992210921:=()
def tw5449601097390414333:=()
def tw10056689138473318948:=()
def tw9615563845995560447:=()
def tw17214186515701724070:=()
def tw4323258101793500111:=()
def tw6356304189028158447:=()
def tw9806118890596472461:=()
def tw8002303944043701648:=()
def tw12652081859355081885:=()
def tw9592521066531166775:=()
def tw1142673529048489019:=()
def tw17817366049700826239:=()
def tw10842938092177581297:=()
def tw4077048163395320219:=()
def tw11823594873375168262:=()
def tw12459912946257978736:=()
def tw13812277999558781770:=()
def tw16654469307462801742:=()
def tw11738243743197964597:=()
def tw17338325484393633139:=()
def tw6575520176995025181:=()
def tw1950803216711332702:=()
def tw7424060955962978353:=()
def tw10624116801336726872:=()
def tw12727641955093265886:=()
def tw12488014758255163090:=()
def tw6508179443898474873:=()
def tw13757698761724263525:=()
def tw2261719852989239553:=()
def tw9456574344343218679:=()
def tw4580019852769339753:=()
def tw14958820412457663293:=()
def tw11401859456886640639:=()
def tw5072417060200589145:=()
def tw1495895850433845275:=()
def tw18183970276198133131:=()
def tw4699756791338806529:=()
def tw15240619367488684849:=()
def tw14963028359598502718:=()
def tw4171853373547519906:=()
def tw8171798328758944481:=()
def tw938635154573522699:=()
def tw2570914705882880060:=()
def tw8186657734068701312:=()
def tw17170472223608059050:=()
def tw3419001889969749887:=()
def tw9757595895972200118:=()
def tw10931757524730887808:=()
def tw10510056951384868246:=()
def tw9950792792127014553:=()
def tw2741014181512449073:=()
def tw13855379610559885079:=()
def tw15402603294489630176:=()
def tw4635989785427082552:=()
def tw11384182702204212275:=()
def tw6968137755033780318:=()
def tw6557801498797044033:=()
def tw2400638427578300857:=()
def tw3721919958574915784:=()
def tw6229817132586351632:=()
def tw2107523057676978006:=()
def tw14904681115217272601:=()
def tw16108870410212019532:=()
def tw3042748168174471775:=()
def tw3671519592330383864:=()
def tw18073898193381586223:=()
def tw3300454383303005205:=()
def tw7476452910721959123:=()
def tw12887044766017154078:=()
def tw9972681490609642005:=()
def tw3239113980409921550:=()
def tw2244103112122482387:=()
def tw3681537716864247207:=()
def tw8733291241859026926:=()
def tw14172470266813156586:=()
def tw16298917771340976007:=()
def tw1937721966566455358:=()
def tw8498532028676091811:=()
def tw11142374352682365527:=()
def tw3543459598558145280:=()
def tw14903569129155370506:=()
def tw18328257000508772394:=()
def tw18101783494082082527:=()
def tw13956191218907399338:=()
def tw16248296213531012650:=()
def tw10374632558016547081:=()
def tw13034982811429478159:=()
def tw13547939009206843870:=()
def tw17590705303994421779:=()
def tw4562827626845409882:=()
def tw2399617604181995578:=()
def tw2941924889016668590:=()
def tw643336161829623379:=()
def tw6522051377940421278:=()
def tw14760874974797668852:=()
def tw16409965706819354750:=()
def tw1467881925912835984:=()
def tw1607123104830579860:=()
def tw9796564346219866840:=()
def tw11692469974320434101:=()
def tw17464319187374939960:=()
def tw11564986514327137767:=()
def tw1956260828630720203:=()
def tw12772213712371865176:=()
def tw12740759652641322565:=()
def tw10826640976665885199:=()
def tw10016166984437732892:=()
def tw6128145076113358165:=()
def tw2295934692909999376:=()
def tw14226173905949225808:=()
def tw4859391219904099992:=()
def tw14689541978594310382:=()
def tw7046044490832178742:=()
def tw12382822922155266910:=()
def tw7217548393331319763:=()
def tw5537553045615171315:=()
def tw615563214671542189:=()
def tw9977182230042388008:=()
def tw11421057715548341654:=()
def tw12431713363859531893:=()
def tw11907897558876765624:=()
def tw5725222548895626118:=()
def tw2646887283097553488:=()
def tw2144661209622563809:=()
def tw2314633323536394700:=()
def tw14391293386007564604:=()
def tw140236481695663071:=()
def tw3382625519597670723:=()
def tw17187875760726034783:=()
def tw1864683662541468164:=()
def tw539538531456391632:=()
def tw10551173667578312727:=()
def tw13444670453868202053:=()
def tw5498123283257192965:=()
def tw11521511281804667912:=()
def tw2692750590507578028:=()
def tw1532491051758110099:=()
def tw4953865588907285216:=()
def tw11408881796089955267:=()
def tw18146532975450069615:=()
def tw2694234056635809718:=()
def tw11853640710764476214:=()
def tw5438652380644606353:=()
def tw2135409205425526673:=()
def tw15227483606004533461:=()
def tw13913613514976480042:=()
def tw1070438729232803039:=()
def tw258204147387103276:=()
def tw866717566613908145:=()
def tw2595585439558603231:=()
def tw6512149657230936976:=()
def tw16053306600634468012:=()
def tw5101696844757716304:=()
def tw13462424878891718212:=()
def tw14935467056822913822:=()
def tw3308634892276815127:=()
def tw4548300405975405348:=()
def tw14827714588952709054:=()
def tw16864618592142003386:=()
def tw16226643914720891334:=()
def tw16955839230299176341:=()
def tw3953844824629472508:=()
def tw2789304352393801511:=()
def tw7480016910919988345:=()
def tw8157277791214410489:=()
def tw12768989823518198380:=()
def tw5000232492035539693:=()
def tw13469501207593853456:=()
def tw10042083083395451092:=()
def tw1310944521214732992:=()
def tw8431482922422412695:=()
def tw896878414759379649:=()
def tw6427576097997697322:=()
def tw16873086082458093902:=()
def tw8047209995159408440:=()
def tw1000662321505670351:=()
def tw11266997524610791606:=()
def tw5702276774652866934:=()
def tw16279288168775177219:=()
def tw5994696166404524948:=()
def tw772564365185477556:=()
def tw17334828202450815106:=()
def tw9947508896943372755:=()
def tw5459702643516471331:=()
def tw16682895059504647277:=()
def tw2483420100392427323:=()
def tw2950685276103557050:=()
def tw8739830900816887780:=()
def tw6798380500665416597:=()
def tw6170744672141170255:=()
def tw2786648768249225349:=()
def tw9646623106273453227:=()
def tw13946496683202179788:=()
def tw7867829370405329436:=()
def tw28018229315631829:=()
def tw14261769069557060686:=()
def tw2466311954974566718:=()
def tw2931988195819169919:=()
def tw8219003486749837733:=()
def tw4436474186459923750:=()
def tw3475869608268796686:=()
def tw13622603851894308203:=()
def tw4804111812005502284:=()
def tw16097043368106609894:=()
def tw3215387988796971590:=()
def tw3985964047577975286:=()
def tw443766864951011646:=()
def tw6030501089693204938:=()
def tw15554417296805563061:=()
def tw10294118229990073760:=()
def tw561727478393794602:=()
def tw9116068151291705539:=()
def tw14782755387869428366:=()
def tw13142723645059500955:=()
def tw4906484309439969231:=()
def tw13135312941875745310:=()
def tw15590096980072825465:=()
def tw10792498714594961201:=()
def tw14243238205550065757:=()
def tw16670775579421159206:=()
def tw991626836265849350:=()
def tw11024694936033576346:=()
def tw15163409612377130007:=()
def tw13587151598080963022:=()
def tw11502921971960690029:=()
def tw17351735930882485243:=()
def tw15528221797031607849:=()
def tw13053770412826190925:=()
def tw15166322114958858414:=()
def tw4309217394794523951:=()
def tw2455152089536381482:=()
def tw13674586047789940208:=()
def tw14383893971135437652:=()
def tw16615150188913437886:=()
def tw8912161614967838395:=()
def tw8561984320487136989:=()
def tw4734895289157585001:=()
def tw4683681711962371626:=()
def tw18367749455379333440:=()
def tw2827255003249426055:=()
def tw2228412568605170491:=()
def tw14746253646979254834:=()
def tw10295913840692754127:=()
def tw17760279517084355780:=()
def tw10341888390210383824:=()
def tw3919386906821981792:=()
def tw14022695629967993375:=()
def tw7774113678449685934:=()
def tw1207101557538958131:=()
def tw4684226298888400098:=()
def tw1972164579936704799:=()
def tw13437419889732721216:=()
def tw10879749546641988924:=()
def tw5217270863462422736:=()
def tw3998647374267775353:=()
def tw9387514328989991554:=()
def tw18157406047293677543:=()
def tw15127105006835628225:=()
def tw17724038513149304489:=()
def tw17653592248189364939:=()
def tw896239598344801917:=()
def tw1956775160557780875:=()
def tw3615178456390077923:=()
def tw12408111787983249662:=()
def tw8159993647027272844:=()
def tw446995266069924076:=()
def tw1717767836212652739:=()
def tw1915925776726481438:=()
def tw17710873009340938204:=()
def tw11429584451438056573:=()
def tw3641951560692057861:=()
def tw8972062959192195235:=()
def tw14831331821628862639:=()
def tw13953587524928339648:=()
def tw12903330217458380548:=()
def tw12670982853097334264:=()
def tw15621415185263527259:=()
def tw977512076041815475:=()
def tw10876078143196172821:=()
def tw6278996535519779258:=()
def tw12405761042648551022:=()
def tw15685335758407661847:=()
def tw16902440903046159558:=()
def tw15805137534098808535:=()
def tw15018716904364860632:=()
def tw2474200967059427378:=()
def tw11962351593759143498:=()
def tw10988312798546598065:=()
def tw3235425350174046738:=()
def tw4075453323654395381:=()
def tw4480162626587320490:=()
def tw17435391645217708394:=()
def tw11373181179767321252:=()
def tw547895379624588593:=()
def tw12269216009862288129:=()
def tw16723463757517087524:=()
def tw7374399212775623666:=()
def tw9402243437249704421:=()
def tw8422229294311615681:=()
def tw7943549864190904611:=()
def tw4547051000311932777:=()
def tw5622701340561072331:=()
def tw3270257207059953099:=()
def tw18293242582946804979:=()
def tw8374155422468719031:=()
def tw14219159868682941630:=()
def tw16120054744476736488:=()
def tw7086961617601330827:=()
def tw8997383693586321770:=()
def tw10258873121960336067:=()
def tw14611616552423853409:=()
def tw16756451883985382160:=()
def tw6105849179199505303:=()
def tw8949853181751564097:=()
def tw9784134513789038367:=()
def tw1825952489489211193:=()
def tw17678831435119133177:=()
def tw9582823730064241283:=()
def tw15235614512728720:=()
def tw8285278889055680438:=()
def tw11066385474520676512:=()
def tw6602405832144512284:=()
def tw14387916025512776202:=()
def tw6822071536725586909:=()
def tw14424681132571578402:=()
def tw17013487888433625170:=()
def tw1719895430356276633:=()
def tw8080008513338510535:=()
def tw11898673842065290130:=()
def tw9689729476882780088:=()
def tw9404705873571188630:=()
def tw9860861378791804195:=()
def tw16728255500844073214:=()
def tw2187251505897268136:=()
def tw1979317910248211280:=()
end PySem.W.Fast
section
open PySem PySem.W PyProof.Rows
set_option maxHeartbeats 0 in
open_top hd for PySem.Challenge.rw_wornband_k16_whole_reading
end
namespace Wb
open PySem L2 Mi
theorem law_imp {K:PySem.W.Frag} :∀vs H Q E,spLaw K vs H Q E→spM1 (isScr K) (rs isB) m_law vs H Q E:=fun vs H Q E ⟨a,ns,h1,h2,h3,h4⟩=>
  ⟨⟨H,H,.refl _⟩,ns,.ref a,rfl,h1,⟨a,rfl,h2⟩,fun _=>False,Res.Ok.e ((law_ok ns h3).imp fun r hr u W' _ hu=>by cases hr;cases hu;exact h4 _)⟩
theorem fin_mk {l:PySem.W.OpenLaw} {w:World} {K:PySem.W.Frag} {h:Heap} {mg:Str→Option Value} {fa:Addr} {Z1S:Addr} {Zax Zay:Option Addr} {Zaz:Array (Option Value)} {ZaA ZaB ZaC ZaD Z6l ZaE:Value} {Z4t:Addr} {Zdx Zdy:Option Addr} {Zdz:Array (Option Value)} {ZdA ZdB ZdC ZdD Z7I ZdE:Value} {Z2h:Addr} {Z92 Z93:Option Addr} {Z94:Array (Option Value)} {Z95 Z96 Z97 Z98 Z65 Z99:Value} {Z3s:Addr} {Zcj Zck:Option Addr} {Zcl:Array (Option Value)} {Zcm Zcn Zco Zcp Z7d Zcq:Value} {Z2i:Addr} {Z9a Z9b:Option Addr} {Z9c:Array (Option Value)} {Z9d Z9e Z9f Z9g Z66 Z9h:Value} {Z2j:Addr} {Zcr Zcs:Option Addr} {Zct:Array (Option Value)} {Zcu Zcv Zcw Zcx Z7e Zcy:Value} {Z2Q:Addr} {ZaF ZaG:Option Addr} {ZaH:Array (Option Value)} {ZaI ZaJ ZaK ZaL Z6m ZaM:Value} {Z1M:Addr} {Z7J Z7K:Option Addr} {Z7L:Array (Option Value)} {Z7M Z7N Z7O Z7P Z4u Z7Q:Value} {Z1H:Addr} {Z9i Z9j:Option Addr} {Z9k:Array (Option Value)} {Z9l Z9m Z9n Z9o Z67 Z9p:Value} {Z2R:Addr} {ZaN ZaO:Option Addr} {ZaP:Array (Option Value)} {ZaQ ZaR ZaS ZaT Z6n ZaU:Value} {Z2S:Addr} {ZaV ZaW:Option Addr} {ZaX:Array (Option Value)} {ZaY ZaZ Zb0 Zb1 Z6o Zb2:Value} {Z2k:Addr} {Z9q Z9r:Option Addr} {Z9s:Array (Option Value)} {Z9t Z9u Z9v Z9w Z68 Z9x:Value} {Z2l:Addr} {Z9y Z9z:Option Addr} {Z9A:Array (Option Value)} {Z9B Z9C Z9D Z9E Z69 Z9F:Value} {Z1Z:Addr} {Z8d Z8e:Option Addr} {Z8f:Array (Option Value)} {Z8g Z8h Z8i Z8j Z5h Z8k:Value} {Z20:Addr} {Z8l Z8m:Option Addr} {Z8n:Array (Option Value)} {Z8o Z8p Z8q Z8r Z5i Z8s:Value} {Z3t:Addr} {Zcz ZcA:Option Addr} {ZcB:Array (Option Value)} {ZcC ZcD ZcE ZcF Z7f ZcG:Value} {Z2T:Addr} {Zb3 Zb4:Option Addr} {Zb5:Array (Option Value)} {Zb6 Zb7 Zb8 Zb9 Z6p Zba:Value} {Z2m:Addr} {Z9G Z9H:Option Addr} {Z9I:Array (Option Value)} {Z9J Z9K Z9L Z9M Z6a Z9N:Value} {Z4v:Addr} {ZdF ZdG:Option Addr} {ZdH:Array (Option Value)} {ZdI ZdJ ZdK ZdL Z7R ZdM:Value} {Z2n:Addr} {Z9O Z9P:Option Addr} {Z9Q:Array (Option Value)} {Z9R Z9S Z9T Z9U Z6b Z9V:Value} {Z5v:Addr} {ZeX ZeY:Option Addr} {ZeZ:Array (Option Value)} {Zf0 Zf1 Zf2 Zf3 Z8S Zf4:Value} {Z1T:Addr} {Zbb Zbc:Option Addr} {Zbd:Array (Option Value)} {Zbe Zbf Zbg Zbh Z6q Zbi:Value} {Z21:Addr} {Z8t Z8u:Option Addr} {Z8v:Array (Option Value)} {Z8w Z8x Z8y Z8z Z5j Z8A:Value} {Z1d:Addr} {Z73 Z74:Option Addr} {Z75:Array (Option Value)} {Z76 Z77 Z78 Z79 Z3p Z7a:Value} {Z1r:Addr} {Z7S Z7T:Option Addr} {Z7U:Array (Option Value)} {Z7V Z7W Z7X Z7Y Z4w Z7Z:Value} {Z80:Addr} {Zg9 Zga:Option Addr} {Zgb:Array (Option Value)} {Zgc Zgd Zge Zgf Zdt Zgg:Value} {Z2o:Addr} {Z9W Z9X:Option Addr} {Z9Y:Array (Option Value)} {Z9Z Za0 Za1 Za2 Z6c Za3:Value} {Z0X:Addr} {Z5w Z5x:Option Addr} {Z5y:Array (Option Value)} {Z5z Z5A Z5B Z5C Z2p Z5D:Value} {Z34:Addr} {ZdN ZdO:Option Addr} {ZdP:Array (Option Value)} {ZdQ ZdR ZdS ZdT Z81 ZdU:Value} {f_law:Addr} {od_law an_law:Option Addr} {sl_law:Array (Option Value)} {oc_law kV_law dc_law pm_law cd_law ct_law:Value} {Z2q:Addr} {Za4 Za5:Option Addr} {Za6:Array (Option Value)} {Za7 Za8 Za9 Zaa Z6d Zab:Value} {Z3D:Tok} {Z4F:Tok} {Z38:Tok} {Z3F:Tok} {Z8a:Tok} {Z0c Z4H:Addr} {Zbj ZcH:Str} {Zbk Zbl:List Value} {Zbm Zbn:Bool} {Zbo:List Str} {Zbp:Option Bool} {Zbq:Option Addr} {Zbr Zbs Zbt Zbu Zbv:Option Value} {Zbw:Value} {Zbx:Option Addr} {Z3K:Array DictEntry} {Zby:Nat} {Zbz:Array (Option Value)} {Z06 Z7g:Addr} {ZbA ZcI:Str} {ZbB ZbC:List Value} {ZbD ZbE:Bool} {ZbF:List Str} {ZbG:Option Bool} {ZbH:Option Addr} {ZbI ZbJ ZbK ZbL ZbM:Option Value} {Z0f ZbN:Addr} {Zf5 ZfY:Str} {Zf6 Zf7:List Value} {Zf8 Zf9:Bool} {Zfa:List Str} {Zfb:Option Bool} {Zfc:Option Addr} {Zfd Zfe Zff Zfg Zfh:Option Value} {Z08 Z6r:Addr} {ZdV Zfi:Str} {ZdW ZdX:List Value} {ZdY ZdZ:Bool} {Ze0:List Str} {Ze1:Option Bool} {Ze2:Option Addr} {Ze3 Ze4 Ze5 Ze6 Ze7:Option Value} {Ze8:Value} {Ze9:Option Addr} {Z5E:Array DictEntry} {Zea:Nat} {Zeb:Array (Option Value)} {Z0d Z8T:Addr} {Zec Zfj:Str} {Zed Zee:List Value} {Zef Zeg:Bool} {Zeh:List Str} {Zei:Option Bool} {Zej:Option Addr} {Zek Zel Zem Zen Zeo:Option Value} {Z0e Z8U:Addr} {Zep Zfk:Str} {Zeq Zer:List Value} {Zes Zet:Bool} {Zeu:List Str} {Zev:Option Bool} {Zew:Option Addr} {Zex Zey Zez ZeA ZeB:Option Value} {Z09 Z82:Addr} {ZcJ ZeC:Str} {ZcK ZcL:List Value} {ZcM ZcN:Bool} {ZcO:List Str} {ZcP:Option Bool} {ZcQ:Option Addr} {ZcR ZcS ZcT ZcU ZcV:Option Value} {Z0a Z83:Addr} {ZcW ZeD:Str} {ZcX ZcY:List Value} {ZcZ Zd0:Bool} {Zd1:List Str} {Zd2:Option Bool} {Zd3:Option Addr} {Zd4 Zd5 Zd6 Zd7 Zd8:Option Value} {Z0b Z84:Addr} {Zd9 ZeE:Str} {Zda Zdb:List Value} {Zdc Zdd:Bool} {Zde:List Str} {Zdf:Option Bool} {Zdg:Option Addr} {Zdh Zdi Zdj Zdk Zdl:Option Value} {Z03 Z6e:Addr} {Z8B Zac:Str} {Z8C Z8D:List Value} {Z8E Z8F:Bool} {Z8G:List Str} {Z8H:Option Bool} {Z8I:Option Addr} {Z8J Z8K Z8L Z8M Z8N:Option Value} {Z0g ZbO:Addr} {Zfl ZfZ:Str} {Zfm Zfn:List Value} {Zfo Zfp:Bool} {Zfq:List Str} {Zfr:Option Bool} {Zfs:Option Addr} {Zft Zfu Zfv Zfw Zfx:Option Value} {Z05 Z6s:Addr} {Zad ZbP:Str} {Zae Zaf:List Value} {Zag Zah:Bool} {Zai:List Str} {Zaj:Option Bool} {Zak:Option Addr} {Zal Zam Zan Zao Zap:Option Value} {Z07 Z7h:Addr} {ZbQ Zdm:Str} {ZbR ZbS:List Value} {ZbT ZbU:Bool} {ZbV:List Str} {ZbW:Option Bool} {ZbX:Option Addr} {ZbY ZbZ Zc0 Zc1 Zc2:Option Value} {Z0h Zc3:Addr} {Zfy Zg0:Str} {Zfz ZfA:List Value} {ZfB ZfC:Bool} {ZfD:List Str} {ZfE:Option Bool} {ZfF:Option Addr} {ZfG ZfH ZfI ZfJ ZfK:Option Value} (X:K.In h) (G:h.Ns mainGlobals mg) (hfa:mg "law" =some (.ref fa))
    (Z2U:PySem.W.nsIn K mainGlobals "_law_same" =some (some (.ref Z1S)))
    (Z4I:K.lookup Z1S=some ⟨ZaA,Zax,.func (PySem.W.fnOf "_law_same" "_law_same" (defArgs (tp 47)) (defBody (tp 47)) (defScope (tp 47)) .none ZaB ZaC ZaD Zay Z6l ZaE),Zaz⟩)
    (Z4J:PySem.W.codeIn K Z6l "_law_same" =true)
    (Z1U:PySem.W.keepIn K (.ref Z1S)=true)
    (Z6t:PySem.W.nsIn K mainGlobals "_law_at" =some (some (.ref Z4t)))
    (Z6u:K.lookup Z4t=some ⟨ZdA,Zdx,.func (PySem.W.fnOf "_law_at" "_law_at" (defArgs (tp 37)) (defBody (tp 37)) (defScope (tp 37)) .none ZdB ZdC ZdD Zdy Z7I ZdE),Zdz⟩)
    (Z6v:PySem.W.codeIn K Z7I "_law_at" =true)
    (Z4x:PySem.W.keepIn K (.ref Z4t)=true)
    (Z3L:PySem.W.nsIn K mainGlobals "_law_draws" =some (some (.ref Z2h)))
    (Z3M:K.lookup Z2h=some ⟨Z95,Z92,.func (PySem.W.fnOf "_law_draws" "_law_draws" (defArgs (tp 38)) (defBody (tp 38)) (defScope (tp 38)) .none Z96 Z97 Z98 Z93 Z65 Z99),Z94⟩)
    (Z3N:PySem.W.codeIn K Z65 "_law_draws" =true)
    (Z2r:PySem.W.keepIn K (.ref Z2h)=true)
    (Z5F:PySem.W.nsIn K mainGlobals "_law_row" =some (some (.ref Z3s)))
    (Z5G:K.lookup Z3s=some ⟨Zcm,Zcj,.func (PySem.W.fnOf "_law_row" "_law_row" (defArgs (tp 32)) (defBody (tp 32)) (defScope (tp 32)) .none Zcn Zco Zcp Zck Z7d Zcq),Zcl⟩)
    (Z5H:PySem.W.codeIn K Z7d "_law_row" =true)
    (Z3u:PySem.W.keepIn K (.ref Z3s)=true)
    (Z3O:PySem.W.nsIn K mainGlobals "_law_turns" =some (some (.ref Z2i)))
    (Z3P:K.lookup Z2i=some ⟨Z9d,Z9a,.func (PySem.W.fnOf "_law_turns" "_law_turns" (defArgs (tp 33)) (defBody (tp 33)) (defScope (tp 33)) .none Z9e Z9f Z9g Z9b Z66 Z9h),Z9c⟩)
    (Z3Q:PySem.W.codeIn K Z66 "_law_turns" =true)
    (Z2s:PySem.W.keepIn K (.ref Z2i)=true)
    (Z3v:PySem.W.nsIn K mainGlobals "_law_sum" =some (some (.ref Z2j)))
    (Z5I:K.lookup Z2j=some ⟨Zcu,Zcr,.func (PySem.W.fnOf "_law_sum" "_law_sum" (defArgs (tp 34)) (defBody (tp 34)) (defScope (tp 34)) .none Zcv Zcw Zcx Zcs Z7e Zcy),Zct⟩)
    (Z5J:PySem.W.codeIn K Z7e "_law_sum" =true)
    (Z2t:PySem.W.keepIn K (.ref Z2j)=true)
    (Z4K:PySem.W.nsIn K mainGlobals "_law_fold" =some (some (.ref Z2Q)))
    (Z4L:K.lookup Z2Q=some ⟨ZaI,ZaF,.func (PySem.W.fnOf "_law_fold" "_law_fold" (defArgs (tp 35)) (defBody (tp 35)) (defScope (tp 35)) .none ZaJ ZaK ZaL ZaG Z6m ZaM),ZaH⟩)
    (Z4M:PySem.W.codeIn K Z6m "_law_fold" =true)
    (Z2V:PySem.W.keepIn K (.ref Z2Q)=true)
    (Z2F:PySem.W.nsIn K mainGlobals "_law_program" =some (some (.ref Z1M)))
    (Z2G:K.lookup Z1M=some ⟨Z7M,Z7J,.func (PySem.W.fnOf "_law_program" "_law_program" (defArgs (tp 36)) (defBody (tp 36)) (defScope (tp 36)) .none Z7N Z7O Z7P Z7K Z4u Z7Q),Z7L⟩)
    (Z2H:PySem.W.codeIn K Z4u "_law_program" =true)
    (Z1N:PySem.W.keepIn K (.ref Z1M)=true)
    (Z2u:PySem.W.nsIn K mainGlobals "_law_write" =some (some (.ref Z1H)))
    (Z3R:K.lookup Z1H=some ⟨Z9l,Z9i,.func (PySem.W.fnOf "_law_write" "_law_write" (defArgs (tp 39)) (defBody (tp 39)) (defScope (tp 39)) .none Z9m Z9n Z9o Z9j Z67 Z9p),Z9k⟩)
    (Z3S:PySem.W.codeIn K Z67 "_law_write" =true)
    (Z1I:PySem.W.keepIn K (.ref Z1H)=true)
    (Z4N:PySem.W.nsIn K mainGlobals "_law_nest" =some (some (.ref Z2R)))
    (Z4O:K.lookup Z2R=some ⟨ZaQ,ZaN,.func (PySem.W.fnOf "_law_nest" "_law_nest" (defArgs (tp 49)) (defBody (tp 49)) (defScope (tp 49)) .none ZaR ZaS ZaT ZaO Z6n ZaU),ZaP⟩)
    (Z4P:PySem.W.codeIn K Z6n "_law_nest" =true)
    (Z2W:PySem.W.keepIn K (.ref Z2R)=true)
    (Z4Q:PySem.W.nsIn K mainGlobals "_law_sign" =some (some (.ref Z2S)))
    (Z4R:K.lookup Z2S=some ⟨ZaY,ZaV,.func (PySem.W.fnOf "_law_sign" "_law_sign" (defArgs (tp 45)) (defBody (tp 45)) (defScope (tp 45)) .none ZaZ Zb0 Zb1 ZaW Z6o Zb2),ZaX⟩)
    (Z4S:PySem.W.codeIn K Z6o "_law_sign" =true)
    (Z2X:PySem.W.keepIn K (.ref Z2S)=true)
    (Z3T:PySem.W.nsIn K mainGlobals "_law_spoil" =some (some (.ref Z2k)))
    (Z3U:K.lookup Z2k=some ⟨Z9t,Z9q,.func (PySem.W.fnOf "_law_spoil" "_law_spoil" (defArgs (tp 46)) (defBody (tp 46)) (defScope (tp 46)) .none Z9u Z9v Z9w Z9r Z68 Z9x),Z9s⟩)
    (Z3V:PySem.W.codeIn K Z68 "_law_spoil" =true)
    (Z2v:PySem.W.keepIn K (.ref Z2k)=true)
    (Z3W:PySem.W.nsIn K mainGlobals "_law_built" =some (some (.ref Z2l)))
    (Z3X:K.lookup Z2l=some ⟨Z9B,Z9y,.func (PySem.W.fnOf "_law_built" "_law_built" (defArgs (tp 50)) (defBody (tp 50)) (defScope (tp 50)) .none Z9C Z9D Z9E Z9z Z69 Z9F),Z9A⟩)
    (Z3Y:PySem.W.codeIn K Z69 "_law_built" =true)
    (Z2w:PySem.W.keepIn K (.ref Z2l)=true)
    (Z3a:PySem.W.nsIn K mainGlobals "_law_closed" =some (some (.ref Z1Z)))
    (Z3b:K.lookup Z1Z=some ⟨Z8g,Z8d,.func (PySem.W.fnOf "_law_closed" "_law_closed" (defArgs (tp 42)) (defBody (tp 42)) (defScope (tp 42)) .none Z8h Z8i Z8j Z8e Z5h Z8k),Z8f⟩)
    (Z3c:PySem.W.codeIn K Z5h "_law_closed" =true)
    (Z22:PySem.W.keepIn K (.ref Z1Z)=true)
    (Z3d:PySem.W.nsIn K mainGlobals "_law_opened" =some (some (.ref Z20)))
    (Z3e:K.lookup Z20=some ⟨Z8o,Z8l,.func (PySem.W.fnOf "_law_opened" "_law_opened" (defArgs (tp 41)) (defBody (tp 41)) (defScope (tp 41)) .none Z8p Z8q Z8r Z8m Z5i Z8s),Z8n⟩)
    (Z3f:PySem.W.codeIn K Z5i "_law_opened" =true)
    (Z23:PySem.W.keepIn K (.ref Z20)=true)
    (Z5K:PySem.W.nsIn K mainGlobals "_law_run" =some (some (.ref Z3t)))
    (Z5L:K.lookup Z3t=some ⟨ZcC,Zcz,.func (PySem.W.fnOf "_law_run" "_law_run" (defArgs (tp 40)) (defBody (tp 40)) (defScope (tp 40)) .none ZcD ZcE ZcF ZcA Z7f ZcG),ZcB⟩)
    (Z5M:PySem.W.codeIn K Z7f "_law_run" =true)
    (Z3w:PySem.W.keepIn K (.ref Z3t)=true)
    (Z4T:PySem.W.nsIn K mainGlobals "_law_word" =some (some (.ref Z2T)))
    (Z4U:K.lookup Z2T=some ⟨Zb6,Zb3,.func (PySem.W.fnOf "_law_word" "_law_word" (defArgs (tp 43)) (defBody (tp 43)) (defScope (tp 43)) .none Zb7 Zb8 Zb9 Zb4 Z6p Zba),Zb5⟩)
    (Z4V:PySem.W.codeIn K Z6p "_law_word" =true)
    (Z2Y:PySem.W.keepIn K (.ref Z2T)=true)
    (Z3Z:PySem.W.nsIn K mainGlobals "_law_parse" =some (some (.ref Z2m)))
    (Z40:K.lookup Z2m=some ⟨Z9J,Z9G,.func (PySem.W.fnOf "_law_parse" "_law_parse" (defArgs (tp 44)) (defBody (tp 44)) (defScope (tp 44)) .none Z9K Z9L Z9M Z9H Z6a Z9N),Z9I⟩)
    (Z41:PySem.W.codeIn K Z6a "_law_parse" =true)
    (Z2x:PySem.W.keepIn K (.ref Z2m)=true)
    (Z6w:PySem.W.nsIn K mainGlobals "run_end" =some (some (.ref Z4v)))
    (Z6x:K.lookup Z4v=some ⟨ZdI,ZdF,.func (PySem.W.fnOf "run_end" "run_end" (defArgs (tp 30)) (defBody (tp 30)) (defScope (tp 30)) .none ZdJ ZdK ZdL ZdG Z7R ZdM),ZdH⟩)
    (Z6y:PySem.W.codeIn K Z7R "run_end" =true)
    (Z4y:PySem.W.keepIn K (.ref Z4v)=true)
    (Z42:PySem.W.nsIn K mainGlobals "read_turns" =some (some (.ref Z2n)))
    (Z43:K.lookup Z2n=some ⟨Z9R,Z9O,.func (PySem.W.fnOf "read_turns" "read_turns" (defArgs (tp 26)) (defBody (tp 26)) (defScope (tp 26)) .none Z9S Z9T Z9U Z9P Z6b Z9V),Z9Q⟩)
    (Z44:PySem.W.codeIn K Z6b "read_turns" =true)
    (Z2y:PySem.W.keepIn K (.ref Z2n)=true)
    (Z7v:PySem.W.nsIn K mainGlobals "behind" =some (some (.ref Z5v)))
    (Z7w:K.lookup Z5v=some ⟨Zf0,ZeX,.func (PySem.W.fnOf "behind" "behind" (defArgs (tp 29)) (defBody (tp 29)) (defScope (tp 29)) .none Zf1 Zf2 Zf3 ZeY Z8S Zf4),ZeZ⟩)
    (Z7x:PySem.W.codeIn K Z8S "behind" =true)
    (Z5N:PySem.W.keepIn K (.ref Z5v)=true)
    (Z2Z:PySem.W.nsIn K mainGlobals "read_body" =some (some (.ref Z1T)))
    (Z4W:K.lookup Z1T=some ⟨Zbe,Zbb,.func (PySem.W.fnOf "read_body" "read_body" (defArgs (tp 28)) (defBody (tp 28)) (defScope (tp 28)) .none Zbf Zbg Zbh Zbc Z6q Zbi),Zbd⟩)
    (Z4X:PySem.W.codeIn K Z6q "read_body" =true)
    (Z1V:PySem.W.keepIn K (.ref Z1T)=true)
    (Z3g:PySem.W.nsIn K mainGlobals "read_number" =some (some (.ref Z21)))
    (Z3h:K.lookup Z21=some ⟨Z8w,Z8t,.func (PySem.W.fnOf "read_number" "read_number" (defArgs (tp 27)) (defBody (tp 27)) (defScope (tp 27)) .none Z8x Z8y Z8z Z8u Z5j Z8A),Z8v⟩)
    (Z3i:PySem.W.codeIn K Z5j "read_number" =true)
    (Z24:PySem.W.keepIn K (.ref Z21)=true)
    (Z1z:PySem.W.nsIn K mainGlobals "read_statement" =some (some (.ref Z1d)))
    (Z26:K.lookup Z1d=some ⟨Z76,Z73,.func (PySem.W.fnOf "read_statement" "read_statement" (defArgs (tp 25)) (defBody (tp 25)) (defScope (tp 25)) .none Z77 Z78 Z79 Z74 Z3p Z7a),Z75⟩)
    (Z27:PySem.W.codeIn K Z3p "read_statement" =true)
    (Z1e:PySem.W.keepIn K (.ref Z1d)=true)
    (Z1O:PySem.W.nsIn K mainGlobals "read_program" =some (some (.ref Z1r)))
    (Z2I:K.lookup Z1r=some ⟨Z7V,Z7S,.func (PySem.W.fnOf "read_program" "read_program" (defArgs (tp 24)) (defBody (tp 24)) (defScope (tp 24)) .none Z7W Z7X Z7Y Z7T Z4w Z7Z),Z7U⟩)
    (Z2J:PySem.W.codeIn K Z4w "read_program" =true)
    (Z1s:PySem.W.keepIn K (.ref Z1r)=true)
    (Zc4:PySem.W.nsIn K mainGlobals "read" =some (some (.ref Z80)))
    (Zc5:K.lookup Z80=some ⟨Zgc,Zg9,.func (PySem.W.fnOf "read" "read" (defArgs (tp 23)) (defBody (tp 23)) (defScope (tp 23)) .none Zgd Zge Zgf Zga Zdt Zgg),Zgb⟩)
    (Zc6:PySem.W.codeIn K Zdt "read" =true)
    (Z85:PySem.W.keepIn K (.ref Z80)=true)
    (Z45:PySem.W.nsIn K mainGlobals "_law_tried" =some (some (.ref Z2o)))
    (Z46:K.lookup Z2o=some ⟨Z9Z,Z9W,.func (PySem.W.fnOf "_law_tried" "_law_tried" (defArgs (tp 51)) (defBody (tp 51)) (defScope (tp 51)) .none Za0 Za1 Za2 Z9X Z6c Za3),Z9Y⟩)
    (Z47:PySem.W.codeIn K Z6c "_law_tried" =true)
    (Z2z:PySem.W.keepIn K (.ref Z2o)=true)
    (Z1h:PySem.W.nsIn K mainGlobals "written_statement" =some (some (.ref Z0X)))
    (Z1C:K.lookup Z0X=some ⟨Z5z,Z5w,.func (PySem.W.fnOf "written_statement" "written_statement" (defArgs (tp 22)) (defBody (tp 22)) (defScope (tp 22)) .none Z5A Z5B Z5C Z5x Z2p Z5D),Z5y⟩)
    (Z1D:PySem.W.codeIn K Z2p "written_statement" =true)
    (Z0Y:PySem.W.keepIn K (.ref Z0X)=true)
    (Z4z:PySem.W.nsIn K mainGlobals "written" =some (some (.ref Z34)))
    (Z6z:K.lookup Z34=some ⟨ZdQ,ZdN,.func (PySem.W.fnOf "written" "written" (defArgs (tp 21)) (defBody (tp 21)) (defScope (tp 21)) .none ZdR ZdS ZdT ZdO Z81 ZdU),ZdP⟩)
    (Z6A:PySem.W.codeIn K Z81 "written" =true)
    (Z35:PySem.W.keepIn K (.ref Z34)=true)
    (a_law:PySem.W.nsIn K mainGlobals "law" =some (some (.ref f_law)))
    (l_law:K.lookup f_law=some ⟨oc_law,od_law,.func (PySem.W.fnOf "law" "law" (defArgs (tp 52)) (defBody (tp 52)) (defScope (tp 52)) .none kV_law dc_law pm_law an_law cd_law ct_law),sl_law⟩)
    (c_law:PySem.W.codeIn K cd_law "law" =true)
    (k_law:PySem.W.keepIn K (.ref f_law)=true)
    (Z48:PySem.W.nsIn K mainGlobals "_law_kinds" =some (some (.ref Z2q)))
    (Z49:K.lookup Z2q=some ⟨Za7,Za4,.func (PySem.W.fnOf "_law_kinds" "_law_kinds" (defArgs (tp 48)) (defBody (tp 48)) (defScope (tp 48)) .none Za8 Za9 Zaa Za5 Z6d Zab),Za6⟩)
    (Z4a:PySem.W.codeIn K Z6d "_law_kinds" =true)
    (Z2A:PySem.W.keepIn K (.ref Z2q)=true)
    (z_ValueError:PySem.W.nsIn K mainGlobals "ValueError" =some none)
    (z_abs:PySem.W.nsIn K mainGlobals "abs" =some none)
    (z_bool:PySem.W.nsIn K mainGlobals "bool" =some none)
    (z_int:PySem.W.nsIn K mainGlobals "int" =some none)
    (z_isinstance:PySem.W.nsIn K mainGlobals "isinstance" =some none)
    (z_len:PySem.W.nsIn K mainGlobals "len" =some none)
    (z_list:PySem.W.nsIn K mainGlobals "list" =some none)
    (z_range:PySem.W.nsIn K mainGlobals "range" =some none)
    (z_str:PySem.W.nsIn K mainGlobals "str" =some none)
    (z_tuple:PySem.W.nsIn K mainGlobals "tuple" =some none)
    (z_zip:PySem.W.nsIn K mainGlobals "zip" =some none)
    (Z7y:PySem.W.nsIn K mainGlobals "DIGITS" =some (some (.str (Str.ofString "0123456789") Z3D)))
    (Z4Y:PySem.W.nsIn K mainGlobals "MOST_DEEP" =some (some (.int 8 Z4F)))
    (Z3j:PySem.W.nsIn K mainGlobals "MOST_DIGITS" =some (some (.int 2 Z38)))
    (Z4b:PySem.W.nsIn K mainGlobals "MOST_TURNS" =some (some (.int 8 Z3F)))
    (Z8O:PySem.W.nsIn K mainGlobals "TURNS" =some (some (.str (Str.ofString "fbi") Z8a)))
    (Z4Z:PySem.W.nsIn K mainGlobals "BandError" =some (some (.ref Z0c)))
    (Z50:K.lookup Z0c=some (excClassObj Zbj ZcH Z0c Z4H Zbk [.type "ValueError",.type "Exception",.type "BaseException",.type "object"] Zbm Zbo Zbl Zbn Zbp Zbq Zbr Zbs Zbt Zbu Zbv "ValueError.__new__"))
    (Z51:K.lookup Z4H=some ⟨Zbw,Zbx,.dict Z3K Zby,Zbz⟩) (Z4c:StrKeys Z3K) (Z4d:nsFind Z3K "__init__" =none)
    (Z52:PySem.W.nsIn K mainGlobals "BadTablet" =some (some (.ref Z06)))
    (Z53:K.lookup Z06=some (excClassObj ZbA ZcI Z06 Z7g ZbB [.ref Z0c,.type "ValueError",.type "Exception",.type "BaseException",.type "object"] ZbD ZbF ZbC ZbE ZbG ZbH ZbI ZbJ ZbK ZbL ZbM "ValueError.__new__"))
    (Z4e:PySem.W.findIn K (.ref Z06) "__getattribute__" =some (some (.builtin "BaseException.__getattribute__"))) (Z4f:PySem.W.findIn K (.ref Z06) "__getattr__" =some none) (Z4g:PySem.W.findIn K (.ref Z06) "__class__" =some (some (.builtin "object.__class__")))
    (Z7z:PySem.W.nsIn K mainGlobals "BadRow" =some (some (.ref Z0f)))
    (Z7A:K.lookup Z0f=some (excClassObj Zf5 ZfY Z0f ZbN Zf6 [.ref Z0c,.type "ValueError",.type "Exception",.type "BaseException",.type "object"] Zf8 Zfa Zf7 Zf9 Zfb Zfc Zfd Zfe Zff Zfg Zfh "ValueError.__new__"))
    (Z6B:PySem.W.findIn K (.ref Z0f) "__getattribute__" =some (some (.builtin "BaseException.__getattribute__"))) (Z6C:PySem.W.findIn K (.ref Z0f) "__getattr__" =some none) (Z6D:PySem.W.findIn K (.ref Z0f) "__class__" =some (some (.builtin "object.__class__")))
    (Z6E:PySem.W.nsIn K mainGlobals "BadText" =some (some (.ref Z08)))
    (Z6F:K.lookup Z08=some (excClassObj ZdV Zfi Z08 Z6r ZdW [.ref Z0c,.type "ValueError",.type "Exception",.type "BaseException",.type "object"] ZdY Ze0 ZdX ZdZ Ze1 Ze2 Ze3 Ze4 Ze5 Ze6 Ze7 "ValueError.__new__"))
    (Z5O:PySem.W.findIn K (.ref Z08) "__getattribute__" =some (some (.builtin "BaseException.__getattribute__"))) (Z5P:PySem.W.findIn K (.ref Z08) "__getattr__" =some none) (Z5Q:PySem.W.findIn K (.ref Z08) "__class__" =some (some (.builtin "object.__class__")))
    (Z6G:K.lookup Z6r=some ⟨Ze8,Ze9,.dict Z5E Zea,Zeb⟩) (Z5R:StrKeys Z5E) (Z5S:nsFind Z5E "__init__" =none)
    (Z6H:PySem.W.nsIn K mainGlobals "BadMark" =some (some (.ref Z0d)))
    (Z6I:K.lookup Z0d=some (excClassObj Zec Zfj Z0d Z8T Zed [.ref Z0c,.type "ValueError",.type "Exception",.type "BaseException",.type "object"] Zef Zeh Zee Zeg Zei Zej Zek Zel Zem Zen Zeo "ValueError.__new__"))
    (Z5T:PySem.W.findIn K (.ref Z0d) "__getattribute__" =some (some (.builtin "BaseException.__getattribute__"))) (Z5U:PySem.W.findIn K (.ref Z0d) "__getattr__" =some none) (Z5V:PySem.W.findIn K (.ref Z0d) "__class__" =some (some (.builtin "object.__class__")))
    (Z6J:PySem.W.nsIn K mainGlobals "TooLong" =some (some (.ref Z0e)))
    (Z6K:K.lookup Z0e=some (excClassObj Zep Zfk Z0e Z8U Zeq [.ref Z0c,.type "ValueError",.type "Exception",.type "BaseException",.type "object"] Zes Zeu Zer Zet Zev Zew Zex Zey Zez ZeA ZeB "ValueError.__new__"))
    (Z5W:PySem.W.findIn K (.ref Z0e) "__getattribute__" =some (some (.builtin "BaseException.__getattribute__"))) (Z5X:PySem.W.findIn K (.ref Z0e) "__getattr__" =some none) (Z5Y:PySem.W.findIn K (.ref Z0e) "__class__" =some (some (.builtin "object.__class__")))
    (Z5Z:PySem.W.nsIn K mainGlobals "TooTight" =some (some (.ref Z09)))
    (Z60:K.lookup Z09=some (excClassObj ZcJ ZeC Z09 Z82 ZcK [.ref Z0c,.type "ValueError",.type "Exception",.type "BaseException",.type "object"] ZcM ZcO ZcL ZcN ZcP ZcQ ZcR ZcS ZcT ZcU ZcV "ValueError.__new__"))
    (Z54:PySem.W.findIn K (.ref Z09) "__getattribute__" =some (some (.builtin "BaseException.__getattribute__"))) (Z55:PySem.W.findIn K (.ref Z09) "__getattr__" =some none) (Z56:PySem.W.findIn K (.ref Z09) "__class__" =some (some (.builtin "object.__class__")))
    (Z61:PySem.W.nsIn K mainGlobals "SpoolDry" =some (some (.ref Z0a)))
    (Z62:K.lookup Z0a=some (excClassObj ZcW ZeD Z0a Z83 ZcX [.ref Z0c,.type "ValueError",.type "Exception",.type "BaseException",.type "object"] ZcZ Zd1 ZcY Zd0 Zd2 Zd3 Zd4 Zd5 Zd6 Zd7 Zd8 "ValueError.__new__"))
    (Z57:PySem.W.findIn K (.ref Z0a) "__getattribute__" =some (some (.builtin "BaseException.__getattribute__"))) (Z58:PySem.W.findIn K (.ref Z0a) "__getattr__" =some none) (Z59:PySem.W.findIn K (.ref Z0a) "__class__" =some (some (.builtin "object.__class__")))
    (Z63:PySem.W.nsIn K mainGlobals "NoTablet" =some (some (.ref Z0b)))
    (Z64:K.lookup Z0b=some (excClassObj Zd9 ZeE Z0b Z84 Zda [.ref Z0c,.type "ValueError",.type "Exception",.type "BaseException",.type "object"] Zdc Zde Zdb Zdd Zdf Zdg Zdh Zdi Zdj Zdk Zdl "ValueError.__new__"))
    (Z5a:PySem.W.findIn K (.ref Z0b) "__getattribute__" =some (some (.builtin "BaseException.__getattribute__"))) (Z5b:PySem.W.findIn K (.ref Z0b) "__getattr__" =some none) (Z5c:PySem.W.findIn K (.ref Z0b) "__class__" =some (some (.builtin "object.__class__")))
    (Z3k:PySem.W.nsIn K mainGlobals "NothingLeft" =some (some (.ref Z03)))
    (Z3l:K.lookup Z03=some (excClassObj Z8B Zac Z03 Z6e Z8C [.ref Z0c,.type "ValueError",.type "Exception",.type "BaseException",.type "object"] Z8E Z8G Z8D Z8F Z8H Z8I Z8J Z8K Z8L Z8M Z8N "ValueError.__new__"))
    (Z2K:PySem.W.findIn K (.ref Z03) "__getattribute__" =some (some (.builtin "BaseException.__getattribute__"))) (Z2L:PySem.W.findIn K (.ref Z03) "__getattr__" =some none) (Z2M:PySem.W.findIn K (.ref Z03) "__class__" =some (some (.builtin "object.__class__")))
    (Z7B:PySem.W.nsIn K mainGlobals "Unlike" =some (some (.ref Z0g)))
    (Z7C:K.lookup Z0g=some (excClassObj Zfl ZfZ Z0g ZbO Zfm [.ref Z0c,.type "ValueError",.type "Exception",.type "BaseException",.type "object"] Zfo Zfq Zfn Zfp Zfr Zfs Zft Zfu Zfv Zfw Zfx "ValueError.__new__"))
    (Z6L:PySem.W.findIn K (.ref Z0g) "__getattribute__" =some (some (.builtin "BaseException.__getattribute__"))) (Z6M:PySem.W.findIn K (.ref Z0g) "__getattr__" =some none) (Z6N:PySem.W.findIn K (.ref Z0g) "__class__" =some (some (.builtin "object.__class__")))
    (Z4h:PySem.W.nsIn K mainGlobals "SeenThread" =some (some (.ref Z05)))
    (Z4i:K.lookup Z05=some (excClassObj Zad ZbP Z05 Z6s Zae [.ref Z0c,.type "ValueError",.type "Exception",.type "BaseException",.type "object"] Zag Zai Zaf Zah Zaj Zak Zal Zam Zan Zao Zap "ValueError.__new__"))
    (Z3m:PySem.W.findIn K (.ref Z05) "__getattribute__" =some (some (.builtin "BaseException.__getattribute__"))) (Z3n:PySem.W.findIn K (.ref Z05) "__getattr__" =some none) (Z3o:PySem.W.findIn K (.ref Z05) "__class__" =some (some (.builtin "object.__class__")))
    (Z5d:PySem.W.nsIn K mainGlobals "NoSuchWay" =some (some (.ref Z07)))
    (Z5e:K.lookup Z07=some (excClassObj ZbQ Zdm Z07 Z7h ZbR [.ref Z0c,.type "ValueError",.type "Exception",.type "BaseException",.type "object"] ZbT ZbV ZbS ZbU ZbW ZbX ZbY ZbZ Zc0 Zc1 Zc2 "ValueError.__new__"))
    (Z4j:PySem.W.findIn K (.ref Z07) "__getattribute__" =some (some (.builtin "BaseException.__getattribute__"))) (Z4k:PySem.W.findIn K (.ref Z07) "__getattr__" =some none) (Z4l:PySem.W.findIn K (.ref Z07) "__class__" =some (some (.builtin "object.__class__")))
    (Z7D:PySem.W.nsIn K mainGlobals "Barred" =some (some (.ref Z0h)))
    (Z7E:K.lookup Z0h=some (excClassObj Zfy Zg0 Z0h Zc3 Zfz [.ref Z0c,.type "ValueError",.type "Exception",.type "BaseException",.type "object"] ZfB ZfD ZfA ZfC ZfE ZfF ZfG ZfH ZfI ZfJ ZfK "ValueError.__new__"))
    (Z6O:PySem.W.findIn K (.ref Z0h) "__getattribute__" =some (some (.builtin "BaseException.__getattribute__"))) (Z6P:PySem.W.findIn K (.ref Z0h) "__getattr__" =some none) (Z6Q:PySem.W.findIn K (.ref Z0h) "__class__" =some (some (.builtin "object.__class__")))
    (hn1:PySem.W.specialIn K (.builtin "object.__class__") "__get__" =some (some (.builtin "getset_descriptor.__get__"))) (ht1:PySem.W.takesIn K (.builtin "object.__class__")=some true) (nd1:(Z0c:: [Z06,Z0f,Z08,Z0d,Z0e,Z09,Z0a,Z0b,Z03,Z0g,Z05,Z07,Z0h]).Nodup)
    :∃fd:FuncData,(∀(s:Shared) (v:Value),BindsTo s fd ⟨[v],[]⟩ [("_law_script",v)])∧∀base:Heap,K.In base→base.Ns mainGlobals mg→FnOk l.prog w K mg base CX0 83 fa fd ["_law_script"] (spLaw K):=by
  have e:=hfa.symm.trans (PySem.W.mg_of X G a_law)
  cases e
  have Z7i:=fun_mk (st:=tp 47) Z4I Z4J Z1U
  have Z7j:=Z7i.binds (ps:=["_law_found","_law_due"]) fun _ _ _ _ _ _ us hl=>match us,hl with | [_,_],_=>rfl
  have Z8V:=fun_mk (st:=tp 37) Z6u Z6v Z4x
  have ZfL:=Z8V.binds (ps:=["_law_script","_law_k"]) fun _ _ _ _ _ _ us hl=>match us,hl with | [_,_],_=>rfl
  have Z6R:=fun_mk (st:=tp 38) Z3M Z3N Z2r
  have Zc7:=Z6R.binds (ps:=["_law_script","_law_at_here"]) fun _ _ _ _ _ _ us hl=>match us,hl with | [_,_],_=>rfl
  have Z86:=fun_mk (st:=tp 32) Z5G Z5H Z3u
  have ZeF:=Z86.binds (ps:=["_law_cell","_law_many","_law_base"]) fun _ _ _ _ _ _ us hl=>match us,hl with | [_,_,_],_=>rfl
  have Z6S:=fun_mk (st:=tp 33) Z3P Z3Q Z2s
  have Zc8:=Z6S.binds (ps:=["_law_cell","_law_many"]) fun _ _ _ _ _ _ us hl=>match us,hl with | [_,_],_=>rfl
  have Z87:=fun_mk (st:=tp 34) Z5I Z5J Z2t
  have Z88:=Z87.binds (ps:=["_law_program_here"]) fun _ _ _ _ _ _ us hl=>match us,hl with | [_],_=>rfl
  have Z7k:=fun_mk (st:=tp 35) Z4L Z4M Z2V
  have Zdn:=Z7k.binds (ps:=["_law_stack"]) fun _ _ _ _ _ _ us hl=>match us,hl with | [_],_=>rfl
  have Z5k:=fun_mk (st:=tp 36) Z2G Z2H Z1N
  have Z8P:=Z5k.binds (ps:=["_law_draws_here","_law_width","_law_most"]) fun _ _ _ _ _ _ us hl=>match us,hl with | [_,_,_],_=>rfl
  have Z6T:=fun_mk (st:=tp 39) Z3R Z3S Z1I
  have Z6U:=Z6T.binds (ps:=["_law_program_here"]) fun _ _ _ _ _ _ us hl=>match us,hl with | [_],_=>rfl
  have Z7l:=fun_mk (st:=tp 49) Z4O Z4P Z2W
  have Zdo:=Z7l.binds (ps:=["_law_cell"]) fun _ _ _ _ _ _ us hl=>match us,hl with | [_],_=>rfl
  have Z7m:=fun_mk (st:=tp 45) Z4R Z4S Z2X
  have Zdp:=Z7m.binds (ps:=["_law_cell"]) fun _ _ _ _ _ _ us hl=>match us,hl with | [_],_=>rfl
  have Z6V:=fun_mk (st:=tp 46) Z3U Z3V Z2v
  have Zc9:=Z6V.binds (ps:=["_law_text","_law_cell"]) fun _ _ _ _ _ _ us hl=>match us,hl with | [_,_],_=>rfl
  have Z6W:=fun_mk (st:=tp 50) Z3X Z3Y Z2w
  have Zca:=Z6W.binds (ps:=["_law_script"]) fun _ _ _ _ _ _ us hl=>match us,hl with | [_],_=>rfl
  have Z6f:=fun_mk (st:=tp 42) Z3b Z3c Z22
  have Zaq:=Z6f.binds (ps:=["_law_stack","_law_sign_here"]) fun _ _ _ _ _ _ us hl=>match us,hl with | [_,_],_=>rfl
  have Z6g:=fun_mk (st:=tp 41) Z3e Z3f Z23
  have Zar:=Z6g.binds (ps:=["_law_stack","_law_head"]) fun _ _ _ _ _ _ us hl=>match us,hl with | [_,_],_=>rfl
  have Z89:=fun_mk (st:=tp 40) Z5L Z5M Z3w
  have ZeG:=Z89.binds (ps:=["_law_text","_law_at_here","_law_signs"]) fun _ _ _ _ _ _ us hl=>match us,hl with | [_,_,_],_=>rfl
  have Z7n:=fun_mk (st:=tp 43) Z4U Z4V Z2Y
  have Zdq:=Z7n.binds (ps:=["_law_stack","_law_text","_law_at_here"]) fun _ _ _ _ _ _ us hl=>match us,hl with | [_,_,_],_=>rfl
  have Z6X:=fun_mk (st:=tp 44) Z40 Z41 Z2x
  have Zcb:=Z6X.binds (ps:=["_law_text"]) fun _ _ _ _ _ _ us hl=>match us,hl with | [_],_=>rfl
  have Z8W:=fun_mk (st:=tp 30) Z6x Z6y Z4y
  have ZfM:=Z8W.binds (ps:=["text","at","signs"]) fun _ _ _ _ _ _ us hl=>match us,hl with | [_,_,_],_=>rfl
  have Z6Y:=fun_mk (st:=tp 26) Z43 Z44 Z2y
  have Zcc:=Z6Y.binds (ps:=["text","at","most"]) fun _ _ _ _ _ _ us hl=>match us,hl with | [_,_,_],_=>rfl
  have Zcd:=fun_mk (st:=tp 29) Z7w Z7x Z5N
  have Zg1:=Zcd.binds (ps:=["text","at","sign"]) fun _ _ _ _ _ _ us hl=>match us,hl with | [_,_,_],_=>rfl
  have Z5f:=fun_mk (st:=tp 28) Z4W Z4X Z1V
  have Z7o:=Z5f.binds (ps:=["text","at","brackets","deep"]) fun _ _ _ _ _ _ us hl=>match us,hl with | [_,_,_,_],_=>rfl
  have Z6h:=fun_mk (st:=tp 27) Z3h Z3i Z24
  have Zas:=Z6h.binds (ps:=["text","at"]) fun _ _ _ _ _ _ us hl=>match us,hl with | [_,_],_=>rfl
  have Z28:=fun_mk (st:=tp 25) Z26 Z27 Z1e
  have Z4m:=Z28.binds (ps:=["text","at","deep"]) fun _ _ _ _ _ _ us hl=>match us,hl with | [_,_,_],_=>rfl
  have Z5l:=fun_mk (st:=tp 24) Z2I Z2J Z1s
  have Z5m:=Z5l.binds (ps:=["text","at","deep"]) fun _ _ _ _ _ _ us hl=>match us,hl with | [_,_,_],_=>rfl
  have ZfN:=fun_mk (st:=tp 23) Zc5 Zc6 Z85
  have Zgl:=ZfN.binds (ps:=["text"]) fun _ _ _ _ _ _ us hl=>match us,hl with | [_],_=>rfl
  have Z6Z:=fun_mk (st:=tp 51) Z46 Z47 Z2z
  have Zce:=Z6Z.binds (ps:=["_law_text"]) fun _ _ _ _ _ _ us hl=>match us,hl with | [_],_=>rfl
  have Z1E:=fun_mk (st:=tp 22) Z1C Z1D Z0Y
  have Z2C:=Z1E.binds (ps:=["statement"]) fun _ _ _ _ _ _ us hl=>match us,hl with | [_],_=>rfl
  have Z8X:=fun_mk (st:=tp 21) Z6z Z6A Z35
  have Z8Y:=Z8X.binds (ps:=["program"]) fun _ _ _ _ _ _ us hl=>match us,hl with | [_],_=>rfl
  have F_law:=fun_mk (st:=tp 52) l_law c_law k_law
  have b_law:=F_law.binds (ps:=["_law_script"]) fun _ _ _ _ _ _ us hl=>match us,hl with | [_],_=>rfl
  have Z70:=fun_mk (st:=tp 48) Z49 Z4a Z2A
  have Zcf:=Z70.binds (ps:=["_law_e"]) fun _ _ _ _ _ _ us hl=>match us,hl with | [_],_=>rfl
  have h_ValueError:=PySem.W.mg_none_of X G z_ValueError
  have h_abs:=PySem.W.mg_none_of X G z_abs
  have h_bool:=PySem.W.mg_none_of X G z_bool
  have h_int:=PySem.W.mg_none_of X G z_int
  have h_isinstance:=PySem.W.mg_none_of X G z_isinstance
  have h_len:=PySem.W.mg_none_of X G z_len
  have h_list:=PySem.W.mg_none_of X G z_list
  have h_range:=PySem.W.mg_none_of X G z_range
  have h_str:=PySem.W.mg_none_of X G z_str
  have h_tuple:=PySem.W.mg_none_of X G z_tuple
  have h_zip:=PySem.W.mg_none_of X G z_zip
  have Z25:=PySem.W.mg_of X G Z7y
  have Z4G:=PySem.W.mg_of X G Z4Y
  have Z39:=PySem.W.mg_of X G Z3j
  have Z2g:=PySem.W.mg_of X G Z4b
  have Z8b:=PySem.W.mg_of X G Z8O
  refine⟨PySem.W.fnOf "law" "law" (defArgs (tp 52)) (defBody (tp 52)) (defScope (tp 52)) .none kV_law dc_law pm_law an_law cd_law ct_law,fun s v=>.of_eq rfl,fun base KB _=>?_⟩
  have Z1A:=PySem.W.mg_of X G Z4Z
  have Z7p:XcK K Z0c Z4H vE:=⟨_,_,_,_,_,_,_,_,_,_,_,_,_,_,Z50⟩
  have Z4A:=PySem.W.mg_of X G Z52
  have Zdr:XcK K Z06 Z7g (.ref Z0c::vE):=⟨_,_,_,_,_,_,_,_,_,_,_,_,_,_,Z53⟩
  have Z7q:=PySem.W.mg_of X G Z7z
  have Zg2:XcK K Z0f ZbN (.ref Z0c::vE):=⟨_,_,_,_,_,_,_,_,_,_,_,_,_,_,Z7A⟩
  have Z0v:=PySem.W.mg_of X G Z6E
  have Z8Z:XcK K Z08 Z6r (.ref Z0c::vE):=⟨_,_,_,_,_,_,_,_,_,_,_,_,_,_,Z6F⟩
  have Z6i:=PySem.W.mg_of X G Z6H
  have ZfO:XcK K Z0d Z8T (.ref Z0c::vE):=⟨_,_,_,_,_,_,_,_,_,_,_,_,_,_,Z6I⟩
  have Z6j:=PySem.W.mg_of X G Z6J
  have ZfP:XcK K Z0e Z8U (.ref Z0c::vE):=⟨_,_,_,_,_,_,_,_,_,_,_,_,_,_,Z6K⟩
  have Z5r:=PySem.W.mg_of X G Z5Z
  have ZeH:XcK K Z09 Z82 (.ref Z0c::vE):=⟨_,_,_,_,_,_,_,_,_,_,_,_,_,_,Z60⟩
  have Z5s:=PySem.W.mg_of X G Z61
  have ZeI:XcK K Z0a Z83 (.ref Z0c::vE):=⟨_,_,_,_,_,_,_,_,_,_,_,_,_,_,Z62⟩
  have Z5t:=PySem.W.mg_of X G Z63
  have ZeJ:XcK K Z0b Z84 (.ref Z0c::vE):=⟨_,_,_,_,_,_,_,_,_,_,_,_,_,_,Z64⟩
  have Z36:=PySem.W.mg_of X G Z3k
  have Zat:XcK K Z03 Z6e (.ref Z0c::vE):=⟨_,_,_,_,_,_,_,_,_,_,_,_,_,_,Z3l⟩
  have Z7r:=PySem.W.mg_of X G Z7B
  have Zg3:XcK K Z0g ZbO (.ref Z0c::vE):=⟨_,_,_,_,_,_,_,_,_,_,_,_,_,_,Z7C⟩
  have Z3y:=PySem.W.mg_of X G Z4h
  have Zcg:XcK K Z05 Z6s (.ref Z0c::vE):=⟨_,_,_,_,_,_,_,_,_,_,_,_,_,_,Z4i⟩
  have Z4B:=PySem.W.mg_of X G Z5d
  have Zds:XcK K Z07 Z7h (.ref Z0c::vE):=⟨_,_,_,_,_,_,_,_,_,_,_,_,_,_,Z5e⟩
  have Z7s:=PySem.W.mg_of X G Z7D
  have Zg4:XcK K Z0h Zc3 (.ref Z0c::vE):=⟨_,_,_,_,_,_,_,_,_,_,_,_,_,_,Z7E⟩
  have Z:Kin K base [Z06,Z0f,Z08,Z0d,Z0e,Z09,Z0a,Z0b,Z03,Z0g,Z05,Z07,Z0h] Z0c:=Kin.of KB hn1 ht1 rfl nd1 Z7p (List.forall_mem_cons.mpr ⟨⟨⟨_,Zdr⟩,Z4e,Z4f,Z4g⟩,List.forall_mem_cons.mpr ⟨⟨⟨_,Zg2⟩,Z6B,Z6C,Z6D⟩,List.forall_mem_cons.mpr ⟨⟨⟨_,Z8Z⟩,Z5O,Z5P,Z5Q⟩,List.forall_mem_cons.mpr ⟨⟨⟨_,ZfO⟩,Z5T,Z5U,Z5V⟩,List.forall_mem_cons.mpr ⟨⟨⟨_,ZfP⟩,Z5W,Z5X,Z5Y⟩,List.forall_mem_cons.mpr ⟨⟨⟨_,ZeH⟩,Z54,Z55,Z56⟩,List.forall_mem_cons.mpr ⟨⟨⟨_,ZeI⟩,Z57,Z58,Z59⟩,List.forall_mem_cons.mpr ⟨⟨⟨_,ZeJ⟩,Z5a,Z5b,Z5c⟩,List.forall_mem_cons.mpr ⟨⟨⟨_,Zat⟩,Z2K,Z2L,Z2M⟩,List.forall_mem_cons.mpr ⟨⟨⟨_,Zg3⟩,Z6L,Z6M,Z6N⟩,List.forall_mem_cons.mpr ⟨⟨⟨_,Zcg⟩,Z3m,Z3n,Z3o⟩,List.forall_mem_cons.mpr ⟨⟨⟨_,Zds⟩,Z4j,Z4k,Z4l⟩,List.forall_mem_cons.mpr ⟨⟨⟨_,Zg4⟩,Z6O,Z6P,Z6Q⟩,fun _ h=>nomatch h⟩⟩⟩⟩⟩⟩⟩⟩⟩⟩⟩⟩⟩)
  have Z0H:Ecl base Z08:=Ecl.of KB Z8Z Z7p Z6G rfl Z5R Z5S Z51 rfl Z4c Z4d
  have Z3G:CalH l.prog w K mg base "_law_kinds" ["_law_e"] 1 (spKinds K [Z06,Z0f,Z08,Z0d,Z0e,Z09,Z0a,Z0b,Z03,Z0g,Z05,Z07,Z0h] Z0c):=⟨Z2q,_,ok_kinds Z70 h_isinstance h_ValueError Z4A Z7q Z0v Z6i Z6j Z5r Z5s Z5t Z36 Z7r Z3y Z4B Z7s Z1A,PySem.W.mg_of X G Z48,Z2A,Zcf⟩
  have SA:∀n:Nat,Cal l.prog w K mg base "_law_same" ["_law_found","_law_due"] n (spSame2 K n):=fun n=>by
    induction n with
    | zero=>exact⟨Z1S,_,ok_none,PySem.W.mg_of X G Z2U,Z1U,Z7j⟩
    | succ n ih=>exact⟨Z1S,_,ok_same1 Z7i h_len h_isinstance h_bool h_int h_str h_list h_tuple h_zip ih,PySem.W.mg_of X G Z2U,Z1U,Z7j⟩
  have Z1m:=SA 26
  have Z13:Cal l.prog w K mg base "_law_at" ["_law_script","_law_k"] (1) (spM2 (isScr K) isI (rs isI) Z0u):=⟨Z4t,_,Zgh Z8V h_len,PySem.W.mg_of X G Z6t,Z4x,ZfL⟩
  have Z3A:Cal l.prog w K mg base "_law_draws" ["_law_script","_law_at_here"] (2) (spM2 (isScr K) isI (ro isI) Z17):=⟨Z2h,_,ZeL Z6R Z13 h_range,PySem.W.mg_of X G Z3L,Z2r,Zc7⟩
  have Z5u:Cal l.prog w K mg base "_law_row" ["_law_cell","_law_many","_law_base"] (1) (spM3 isI isI isI (ro isI) Z1K):=⟨Z3s,_,Zg5 Z86 h_abs h_range,PySem.W.mg_of X G Z5F,Z3u,ZeF⟩
  have Z3z:Cal l.prog w K mg base "_law_turns" ["_law_cell","_law_many"] (2) (spM2 isI isI (rs isS) Z0L):=⟨Z2i,_,ZeM Z6S Z5u,PySem.W.mg_of X G Z3O,Z2s,Zc8⟩
  have ZeK:∀i:Nat,Cal l.prog w K mg base "_law_sum" ["_law_program_here"] (1*i) (spM1 (isL (isU K)) (rs isI) (Z30 i)):=fun i=>by
    induction i with
    | zero=>exact⟨Z2j,_,fn_vac (by rintro vs H Q E ⟨_,_,_,_,_,_,_,hq⟩;exact hq),PySem.W.mg_of X G Z3v,Z2t,Z88⟩
    | succ i Z16 =>
      exact⟨Z2j,_,Zg6 Z87 Z16,PySem.W.mg_of X G Z3v,Z2t,Z88⟩
  have Z16:=ZeK 20
  have Z2P:Cal l.prog w K mg base "_law_fold" ["_law_stack"] (21) (spS K Z0q):=⟨Z2Q,_,ZfS Z7k Z16 h_len,PySem.W.mg_of X G Z4K,Z2V,Zdn⟩
  have Z2E:Cal l.prog w K mg base "_law_program" ["_law_draws_here","_law_width","_law_most"] (22) (spM3 (isL isI) isI isI (ro (isU K)) Z0S):=⟨Z1M,_,Zci Z5k Z3z Z2P h_len,PySem.W.mg_of X G Z2F,Z1N,Z8P⟩
  have Zch:∀i:Nat,Cal l.prog w K mg base "_law_write" ["_law_program_here"] (1*i) (spM1 (isL (isU K)) (rs isS) (Z1P i)):=fun i=>by
    induction i with
    | zero=>exact⟨Z1H,_,fn_vac (by rintro vs H Q E ⟨_,_,_,_,_,_,_,hq⟩;exact hq),PySem.W.mg_of X G Z2u,Z1I,Z6U⟩
    | succ i Z14 =>
      exact⟨Z1H,_,ZeO Z6T Z14 h_str,PySem.W.mg_of X G Z2u,Z1I,Z6U⟩
  have Z14:=Zch 20
  have Z4D:Cal l.prog w K mg base "_law_nest" ["_law_cell"] (1) (spM1 isI (rs isS) Z1u):=⟨Z2R,_,ZfU Z7l,PySem.W.mg_of X G Z4N,Z2W,Zdo⟩
  have Z4C:Cal l.prog w K mg base "_law_sign" ["_law_cell"] (1) (spM1 isI (rs isS) Z1v):=⟨Z2S,_,ZfV Z7m,PySem.W.mg_of X G Z4Q,Z2X,Zdp⟩
  have Z3B:Cal l.prog w K mg base "_law_spoil" ["_law_text","_law_cell"] (2) (spM2 isS isI (rs isS) Z0M):=⟨Z2k,_,ZeP Z6V Z4C h_len,PySem.W.mg_of X G Z3T,Z2v,Zc9⟩
  have Z3H:Cal l.prog w K mg base "_law_built" ["_law_script"] (23) (spM1 (isScr K) (rs isS) Z1i):=⟨Z2l,_,ZeQ Z6W Z13 Z14 Z2E Z3A Z4D Z3B h_range h_str,PySem.W.mg_of X G Z3W,Z2w,Zca⟩
  have Z37:Cal l.prog w K mg base "_law_closed" ["_law_stack","_law_sign_here"] (1) (spR1 K isS isB Z0s):=⟨Z1Z,_,Zdu Z6f h_len,PySem.W.mg_of X G Z3a,Z22,Zaq⟩
  have Z1X:Cal l.prog w K mg base "_law_opened" ["_law_stack","_law_head"] (1) (spR1 K (isT2 K isS isI) isB Z10):=⟨Z20,_,Zdv Z6g h_len,PySem.W.mg_of X G Z3d,Z23,Zar⟩
  have Z2f:Cal l.prog w K mg base "_law_run" ["_law_text","_law_at_here","_law_signs"] (1) (spM3 isS isI isS (rs isS) Z1p):=⟨Z3t,_,Zg7 Z89 h_len,PySem.W.mg_of X G Z5K,Z3w,ZeG⟩
  have Z4E:Cal l.prog w K mg base "_law_word" ["_law_stack","_law_text","_law_at_here"] (2) (spR2 K isS isI isI Z0r):=⟨Z2T,_,ZfW Z7n Z1X Z2f h_int h_len,PySem.W.mg_of X G Z4T,Z2Y,Zdq⟩
  have Z3I:Cal l.prog w K mg base "_law_parse" ["_law_text"] (3) (spM1 isS (rs (isO (isL (isU K)))) Z18):=⟨Z2m,_,ZeS Z6X Z37 Z4E h_int h_len,PySem.W.mg_of X G Z3Z,Z2x,Zcb⟩
  have Z29:Cal l.prog w K mg base "run_end" ["text","at","signs"] (1) (spM3 isS isI isS (rs isI) Z0y):=⟨Z4v,_,ZeT Z8W h_len,PySem.W.mg_of X G Z6w,Z4y,ZfM⟩
  have Z1G:CalR l.prog w K mg base "read_turns" ["text","at","most"] (2) (spX3 isS isI isI [Z06,Z0f,Z08,Z0d,Z0e,Z09,Z0a,Z0b,Z03,Z0g,Z05,Z07,Z0h] (rs (isT2 K isS isI)) Z0N):=⟨Z2n,_,Zav Z6Y Z29 Z8b Z0v Z0H,PySem.W.mg_of X G Z42,Z2y,Zcc⟩
  have Z3C:CalR l.prog w K mg base "behind" ["text","at","sign"] (1) (spX3 isS isI isS [Z06,Z0f,Z08,Z0d,Z0e,Z09,Z0a,Z0b,Z03,Z0g,Z05,Z07,Z0h] (rs isI) Z1k):=⟨Z5v,_,ZfX Zcd Z0v Z0H,PySem.W.mg_of X G Z7v,Z5N,Zg1⟩
  have Z1Y:CalR l.prog w K mg base "read_number" ["text","at"] (2) (spX2 isS isI [Z06,Z0f,Z08,Z0d,Z0e,Z09,Z0a,Z0b,Z03,Z0g,Z05,Z07,Z0h] (rs (isT2 K isI isI)) Z0O):=⟨Z21,_,Z91 Z6h Z29 h_int h_len h_str Z25 Z39 Z0v Z0H,PySem.W.mg_of X G Z3g,Z24,Zas⟩
  have Z8Q:∀i:Nat,CalR l.prog w K mg base "read_program" ["text","at","deep"] (4*i) (spX3 isS isI isI [Z06,Z0f,Z08,Z0d,Z0e,Z09,Z0a,Z0b,Z03,Z0g,Z05,Z07,Z0h] (rs (isT2 K (isL (isU K)) isI)) (Z0A i)):=fun i=>by
    induction i with
    | zero=>exact⟨Z1r,_,fn_vac (by rintro vs H Q E ⟨_,_,_,_,_,_,_,_,_,_,_,_,_,_,hq⟩;exact hq),PySem.W.mg_of X G Z1O,Z1s,Z5m⟩
    | succ i Z0R =>
      have Z1B:CalR l.prog w K mg base "read_body" ["text","at","brackets","deep"] (4*i+2) (spX4 isS isI isS isI [Z06,Z0f,Z08,Z0d,Z0e,Z09,Z0a,Z0b,Z03,Z0g,Z05,Z07,Z0h] (rs (isT2 K (isL (isU K)) isI)) (Z1F (Z0A i))):=⟨Z1T,_,Z7b Z5f Z0R Z3C,PySem.W.mg_of X G Z2Z,Z1V,Z7o⟩
      have Z1c:CalR l.prog w K mg base "read_statement" ["text","at","deep"] (4*i+3) (spX3 isS isI isI [Z06,Z0f,Z08,Z0d,Z0e,Z09,Z0a,Z0b,Z03,Z0g,Z05,Z07,Z0h] (rs (isT2 K (isU K) isI)) (Z0E (Z0A i))):=⟨Z1d,_,Z3E Z28 Z1G Z1B Z1Y Z25 Z2g,PySem.W.mg_of X G Z1z,Z1e,Z4m⟩
      exact⟨Z1r,_,Z8c Z5l Z1c Z4G Z0v Z0H,PySem.W.mg_of X G Z1O,Z1s,Z5m⟩
  have Z0R:=Z8Q 20
  have Z1B:CalR l.prog w K mg base "read_body" ["text","at","brackets","deep"] (82) (spX4 isS isI isS isI [Z06,Z0f,Z08,Z0d,Z0e,Z09,Z0a,Z0b,Z03,Z0g,Z05,Z07,Z0h] (rs (isT2 K (isL (isU K)) isI)) (Z1F (Z0A 20))):=⟨Z1T,_,Z7b Z5f Z0R Z3C,PySem.W.mg_of X G Z2Z,Z1V,Z7o⟩
  have Z1c:CalR l.prog w K mg base "read_statement" ["text","at","deep"] (83) (spX3 isS isI isI [Z06,Z0f,Z08,Z0d,Z0e,Z09,Z0a,Z0b,Z03,Z0g,Z05,Z07,Z0h] (rs (isT2 K (isU K) isI)) (Z0E (Z0A 20))):=⟨Z1d,_,Z3E Z28 Z1G Z1B Z1Y Z25 Z2g,PySem.W.mg_of X G Z1z,Z1e,Z4m⟩
  have Zaw:CalR l.prog w K mg base "read" ["text"] (81) (spX1 isS [Z06,Z0f,Z08,Z0d,Z0e,Z09,Z0a,Z0b,Z03,Z0g,Z05,Z07,Z0h] (rs (isL (isU K))) Z2e):=⟨Z80,_,Zgk ZfN Z0R h_len Z0v Z0H,PySem.W.mg_of X G Zc4,Z85,Zgl⟩
  have Z3J:Cal l.prog w K mg base "_law_tried" ["_law_text"] (82) (spM1 isS (rs (isU K)) Z1t):=⟨Z2o,_,ZeU Z6Z Zaw Z Z1A Z3G,PySem.W.mg_of X G Z45,Z2z,Zce⟩
  have ZfQ:∀i:Nat,Cal l.prog w K mg base "written" ["program"] (2*i) (spM1 (isL (isU K)) (rs isS) (Z1l i)):=fun i=>by
    induction i with
    | zero=>exact⟨Z34,_,fn_vac (by rintro vs H Q E ⟨_,_,_,_,_,_,_,hq⟩;exact hq),PySem.W.mg_of X G Z4z,Z35,Z8Y⟩
    | succ i Z1j =>
      have Z1g:Cal l.prog w K mg base "written_statement" ["statement"] (2*i+1) (spM1 (isU K) (rs isS) (Z0J (Z1l i))):=⟨Z0X,_,Z2B Z1E Z1j,PySem.W.mg_of X G Z1h,Z0Y,Z2C⟩
      exact⟨Z34,_,ZeV Z8X Z1g,PySem.W.mg_of X G Z4z,Z35,Z8Y⟩
  have Z1j:=ZfQ 20
  have Z1g:Cal l.prog w K mg base "written_statement" ["statement"] (41) (spM1 (isU K) (rs isS) (Z0J (Z1l 20))):=⟨Z0X,_,Z2B Z1E Z1j,PySem.W.mg_of X G Z1h,Z0Y,Z2C⟩
  exact FnOk.imp (r_law F_law Z3H Z3I Z3J Z1m Z1j) law_imp
theorem walk {l:PySem.W.OpenLaw} {q:Program} {loose:List Str} {XP:(Str→Option Value)→Heap→Prop} {YP:World→Heap→Prop} {d:DefRec} {K:Params→PySem.W.Frag} (hn:l.most=some 63) (hdf:d.params.defaults=[]) (hY:∀(w:World) (h:Heap),YP w h→(K w.params).In h)
    (F:∀(w:World) (mg:Str→Option Value) (fa:Addr) (h:Heap),(K w.params).In h→h.Ns mainGlobals mg→mg d.name=some (.ref fa)→∃fd:FuncData,(∀(s:Shared) (u:Value),BindsTo s fd ⟨[u],[]⟩ [("_law_script",u)])∧∀base:Heap,(K w.params).In base→base.Ns mainGlobals mg→FnOk l.prog w (K w.params) mg base CX0 83 fa fd ["_law_script"] (spLaw (K w.params))):
    PySem.W.WalkO q loose XP YP l.row.toRowW d [] (fun f vs=>PySem.call f vs):=
  L2.walk_of (n:=63) (k:=83) (x:="_law_script") (CX:=fun _=>CX0) (sp:=fun w=>spLaw (K w.params)) hn (by decide) hdf ⟨rfl,by decide,by decide⟩ hY F (fun _ _ a ns hl _ hS=>⟨a,ns,rfl,hS,hl,fun _=>rfl⟩) fun _ _ _ _ _ z=>z
end Wb
open PySem PySem.W PyProof.Rows
set_option maxRecDepth 100000 in
set_option maxHeartbeats 0 in
theorem PySem.Challenge.cw_wornband_k16_whole_reading_holds : PySem.Challenge.rw_wornband_k16_whole_reading.Holds := by
  refine hd ?_
  k_fill
  refine Wb.walk (l:=PySem.Challenge.rw_wornband_k16_whole_reading) rfl rfl (fun w h Y=>PySem.W.kIn_of Y) ?F
  case F=>
    intro w mg fa h KX G hmg
    refine' Wb.fin_mk KX G hmg ?Z2U ?Z4I ?Z4J ?Z1U ?Z6t ?Z6u ?Z6v ?Z4x ?Z3L ?Z3M ?Z3N ?Z2r ?Z5F ?Z5G ?Z5H ?Z3u ?Z3O ?Z3P ?Z3Q ?Z2s ?Z3v ?Z5I ?Z5J ?Z2t ?Z4K ?Z4L ?Z4M ?Z2V ?Z2F ?Z2G ?Z2H ?Z1N ?Z2u ?Z3R ?Z3S ?Z1I ?Z4N ?Z4O ?Z4P ?Z2W ?Z4Q ?Z4R ?Z4S ?Z2X ?Z3T ?Z3U ?Z3V ?Z2v ?Z3W ?Z3X ?Z3Y ?Z2w ?Z3a ?Z3b ?Z3c ?Z22 ?Z3d ?Z3e ?Z3f ?Z23 ?Z5K ?Z5L ?Z5M ?Z3w ?Z4T ?Z4U ?Z4V ?Z2Y ?Z3Z ?Z40 ?Z41 ?Z2x ?Z6w ?Z6x ?Z6y ?Z4y ?Z42 ?Z43 ?Z44 ?Z2y ?Z7v ?Z7w ?Z7x ?Z5N ?Z2Z ?Z4W ?Z4X ?Z1V ?Z3g ?Z3h ?Z3i ?Z24 ?Z1z ?Z26 ?Z27 ?Z1e ?Z1O ?Z2I ?Z2J ?Z1s ?Zc4 ?Zc5 ?Zc6 ?Z85 ?Z45 ?Z46 ?Z47 ?Z2z ?Z1h ?Z1C ?Z1D ?Z0Y ?Z4z ?Z6z ?Z6A ?Z35 ?a_law ?l_law ?c_law ?k_law ?Z48 ?Z49 ?Z4a ?Z2A ?z_ValueError ?z_abs ?z_bool ?z_int ?z_isinstance ?z_len ?z_list ?z_range ?z_str ?z_tuple ?z_zip ?Z7y ?Z4Y ?Z3j ?Z4b ?Z8O ?Z4Z ?Z50 ?Z51 ?Z4c ?Z4d ?Z52 ?Z53 ?Z4e ?Z4f ?Z4g ?Z7z ?Z7A ?Z6B ?Z6C ?Z6D ?Z6E ?Z6F ?Z5O ?Z5P ?Z5Q ?Z6G ?Z5R ?Z5S ?Z6H ?Z6I ?Z5T ?Z5U ?Z5V ?Z6J ?Z6K ?Z5W ?Z5X ?Z5Y ?Z5Z ?Z60 ?Z54 ?Z55 ?Z56 ?Z61 ?Z62 ?Z57 ?Z58 ?Z59 ?Z63 ?Z64 ?Z5a ?Z5b ?Z5c ?Z3k ?Z3l ?Z2K ?Z2L ?Z2M ?Z7B ?Z7C ?Z6L ?Z6M ?Z6N ?Z4h ?Z4i ?Z3m ?Z3n ?Z3o ?Z5d ?Z5e ?Z4j ?Z4k ?Z4l ?Z7D ?Z7E ?Z6O ?Z6P ?Z6Q ?hn1 ?ht1 ?nd1
    (case Z2U=>k_is)
    (case Z4I=>k_is)
    (case Z4J=>k_is)
    (case Z1U=>k_is)
    (case Z6t=>k_is)
    (case Z6u=>k_is)
    (case Z6v=>k_is)
    (case Z4x=>k_is)
    (case Z3L=>k_is)
    (case Z3M=>k_is)
    (case Z3N=>k_is)
    (case Z2r=>k_is)
    (case Z5F=>k_is)
    (case Z5G=>k_is)
    (case Z5H=>k_is)
    (case Z3u=>k_is)
    (case Z3O=>k_is)
    (case Z3P=>k_is)
    (case Z3Q=>k_is)
    (case Z2s=>k_is)
    (case Z3v=>k_is)
    (case Z5I=>k_is)
    (case Z5J=>k_is)
    (case Z2t=>k_is)
    (case Z4K=>k_is)
    (case Z4L=>k_is)
    (case Z4M=>k_is)
    (case Z2V=>k_is)
    (case Z2F=>k_is)
    (case Z2G=>k_is)
    (case Z2H=>k_is)
    (case Z1N=>k_is)
    (case Z2u=>k_is)
    (case Z3R=>k_is)
    (case Z3S=>k_is)
    (case Z1I=>k_is)
    (case Z4N=>k_is)
    (case Z4O=>k_is)
    (case Z4P=>k_is)
    (case Z2W=>k_is)
    (case Z4Q=>k_is)
    (case Z4R=>k_is)
    (case Z4S=>k_is)
    (case Z2X=>k_is)
    (case Z3T=>k_is)
    (case Z3U=>k_is)
    (case Z3V=>k_is)
    (case Z2v=>k_is)
    (case Z3W=>k_is)
    (case Z3X=>k_is)
    (case Z3Y=>k_is)
    (case Z2w=>k_is)
    (case Z3a=>k_is)
    (case Z3b=>k_is)
    (case Z3c=>k_is)
    (case Z22=>k_is)
    (case Z3d=>k_is)
    (case Z3e=>k_is)
    (case Z3f=>k_is)
    (case Z23=>k_is)
    (case Z5K=>k_is)
    (case Z5L=>k_is)
    (case Z5M=>k_is)
    (case Z3w=>k_is)
    (case Z4T=>k_is)
    (case Z4U=>k_is)
    (case Z4V=>k_is)
    (case Z2Y=>k_is)
    (case Z3Z=>k_is)
    (case Z40=>k_is)
    (case Z41=>k_is)
    (case Z2x=>k_is)
    (case Z6w=>k_is)
    (case Z6x=>k_is)
    (case Z6y=>k_is)
    (case Z4y=>k_is)
    (case Z42=>k_is)
    (case Z43=>k_is)
    (case Z44=>k_is)
    (case Z2y=>k_is)
    (case Z7v=>k_is)
    (case Z7w=>k_is)
    (case Z7x=>k_is)
    (case Z5N=>k_is)
    (case Z2Z=>k_is)
    (case Z4W=>k_is)
    (case Z4X=>k_is)
    (case Z1V=>k_is)
    (case Z3g=>k_is)
    (case Z3h=>k_is)
    (case Z3i=>k_is)
    (case Z24=>k_is)
    (case Z1z=>k_is)
    (case Z26=>k_is)
    (case Z27=>k_is)
    (case Z1e=>k_is)
    (case Z1O=>k_is)
    (case Z2I=>k_is)
    (case Z2J=>k_is)
    (case Z1s=>k_is)
    (case Zc4=>k_is)
    (case Zc5=>k_is)
    (case Zc6=>k_is)
    (case Z85=>k_is)
    (case Z45=>k_is)
    (case Z46=>k_is)
    (case Z47=>k_is)
    (case Z2z=>k_is)
    (case Z1h=>k_is)
    (case Z1C=>k_is)
    (case Z1D=>k_is)
    (case Z0Y=>k_is)
    (case Z4z=>k_is)
    (case Z6z=>k_is)
    (case Z6A=>k_is)
    (case Z35=>k_is)
    (case a_law=>k_is)
    (case l_law=>k_is)
    (case c_law=>k_is)
    (case k_law=>k_is)
    (case Z48=>k_is)
    (case Z49=>k_is)
    (case Z4a=>k_is)
    (case Z2A=>k_is)
    (case z_ValueError=>k_is)
    (case z_abs=>k_is)
    (case z_bool=>k_is)
    (case z_int=>k_is)
    (case z_isinstance=>k_is)
    (case z_len=>k_is)
    (case z_list=>k_is)
    (case z_range=>k_is)
    (case z_str=>k_is)
    (case z_tuple=>k_is)
    (case z_zip=>k_is)
    (case Z7y=>k_is)
    (case Z4Y=>k_is)
    (case Z3j=>k_is)
    (case Z4b=>k_is)
    (case Z8O=>k_is)
    (case Z4Z=>k_is)
    (case Z50=>k_is)
    (case Z51=>k_is)
    (case Z4c=>exact Wb.strKeys_of rfl)
    (case Z4d=>first | rfl | kernel_rfl)
    (case Z52=>k_is)
    (case Z53=>k_is)
    (case Z4e=>k_is)
    (case Z4f=>k_is)
    (case Z4g=>k_is)
    (case Z7z=>k_is)
    (case Z7A=>k_is)
    (case Z6B=>k_is)
    (case Z6C=>k_is)
    (case Z6D=>k_is)
    (case Z6E=>k_is)
    (case Z6F=>k_is)
    (case Z5O=>k_is)
    (case Z5P=>k_is)
    (case Z5Q=>k_is)
    (case Z6G=>k_is)
    (case Z5R=>exact Wb.strKeys_of rfl)
    (case Z5S=>first | rfl | kernel_rfl)
    (case Z6H=>k_is)
    (case Z6I=>k_is)
    (case Z5T=>k_is)
    (case Z5U=>k_is)
    (case Z5V=>k_is)
    (case Z6J=>k_is)
    (case Z6K=>k_is)
    (case Z5W=>k_is)
    (case Z5X=>k_is)
    (case Z5Y=>k_is)
    (case Z5Z=>k_is)
    (case Z60=>k_is)
    (case Z54=>k_is)
    (case Z55=>k_is)
    (case Z56=>k_is)
    (case Z61=>k_is)
    (case Z62=>k_is)
    (case Z57=>k_is)
    (case Z58=>k_is)
    (case Z59=>k_is)
    (case Z63=>k_is)
    (case Z64=>k_is)
    (case Z5a=>k_is)
    (case Z5b=>k_is)
    (case Z5c=>k_is)
    (case Z3k=>k_is)
    (case Z3l=>k_is)
    (case Z2K=>k_is)
    (case Z2L=>k_is)
    (case Z2M=>k_is)
    (case Z7B=>k_is)
    (case Z7C=>k_is)
    (case Z6L=>k_is)
    (case Z6M=>k_is)
    (case Z6N=>k_is)
    (case Z4h=>k_is)
    (case Z4i=>k_is)
    (case Z3m=>k_is)
    (case Z3n=>k_is)
    (case Z3o=>k_is)
    (case Z5d=>k_is)
    (case Z5e=>k_is)
    (case Z4j=>k_is)
    (case Z4k=>k_is)
    (case Z4l=>k_is)
    (case Z7D=>k_is)
    (case Z7E=>k_is)
    (case Z6O=>k_is)
    (case Z6P=>k_is)
    (case Z6Q=>k_is)
    (case hn1=>k_is)
    (case ht1=>k_is)
    (case nd1=>decide)
