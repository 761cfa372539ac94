import PyProof.Rows.All
import Wide.All
import OpenK.AllK
import Wide.FinOn
import PyProof.EqAt
import PyProof.EqKinds
import PyProof.TupleCall
import KE.KDictSum
import KE.KRevIter
import KE.KRevSl
import PyProof.StrLawsFirst
import KE.LcSums
import PyProof.EnumMake
import PyProof.TupleIter
import PyProof.StationsW
import PyProof.Rows.Own
import PyProof.NsDelKeeps
import PyProof.RulesAs
import PyProof.ExcAttrAll.ValueError
import KE.KIsAll
import PyProof.ExcBaseAll.ValueError
import PyProof.Rows.FStr
import PyProof.FString
import PyProof.Rows.StrNews
import PyProof.StrLawsTight
import PyProof.StrLawsChain
import PySem.Challenge.RW_wornband_k24_sheets_written
set_option Elab.async false
set_option linter.all false
set_option maxRecDepth 100000
namespace L2
open PySem PySem.Spec PyProof.Rows
abbrev Key := Sum Int Str
def keyIs : Key → Value → Bool
  | .inl k, v => Value.isInt k v
  | .inr x, v => Value.isStrOf x v
def keyH (w : World) : Key → Int
  | .inl k => hashInt k
  | .inr x => hashStr w x
theorem keyIs_shape : ∀ {k : Key} {v : Value}, keyIs k v = true → (∃ i t, k = Sum.inl i ∧ v = Value.int i t) ∨ (∃ x t, k = Sum.inr x ∧ v = Value.str x t)
  | .inl i, v, h => by
    obtain ⟨t, e⟩ := Value.isInt_shape (k := i) (v := v) h
    exact .inl ⟨i, t, rfl, e⟩
  | .inr x, v, h => by
    obtain ⟨t, e⟩ := Value.isStrOf_shape (x := x) (v := v) h
    exact .inr ⟨x, t, rfl, e⟩
theorem key_ll (a b : Int) : decide ((Sum.inl a : Key) = Sum.inl b) = (a == b) := by
  by_cases e : a = b
  · subst e; simp
  · have h : ¬ (Sum.inl a : Key) = Sum.inl b := fun q => e (Sum.inl.inj q)
    rw [decide_eq_false h]
    exact (beq_eq_false_iff_ne.mpr e).symm
theorem key_rr (a b : Str) : decide ((Sum.inr a : Key) = Sum.inr b) = decide (a = b) := by
  by_cases e : a = b
  · subst e; simp
  · have h : ¬ (Sum.inr a : Key) = Sum.inr b := fun q => e (Sum.inr.inj q)
    rw [decide_eq_false h, decide_eq_false e]
theorem key_lr (a : Int) (b : Str) : decide ((Sum.inl a : Key) = Sum.inr b) = false := decide_eq_false (fun q => nomatch q)
theorem key_rl (a : Str) (b : Int) : decide ((Sum.inr a : Key) = Sum.inl b) = false := decide_eq_false (fun q => nomatch q)
def mixKind (prog : Program) (w : World) : PySem.KeyKind prog w Key where
  is := keyIs
  hash := keyH w
  inj := fun v a b ha hb => by
    rcases keyIs_shape ha with ⟨i, t, rfl, rfl⟩ | ⟨x, t, rfl, rfl⟩
    · rcases keyIs_shape hb with ⟨j, u, rfl, e⟩ | ⟨y, u, rfl, e⟩
      · injection e with e1 _; rw [e1]
      · exact nomatch e
    · rcases keyIs_shape hb with ⟨j, u, rfl, e⟩ | ⟨y, u, rfl, e⟩
      · exact nomatch e
      · injection e with e1 _; rw [e1]
  byValue := fun k v h => by
    rcases keyIs_shape h with ⟨i, t, rfl, rfl⟩ | ⟨x, t, rfl, rfl⟩ <;> rfl
  pyHash := fun hv h => by
    rcases keyIs_shape hv with ⟨i, t, rfl, rfl⟩ | ⟨x, t, rfl, rfl⟩
    · exact wpAny_pyHash_int h
    · exact wpAny_pyHash_str h
  eqBool := fun hu hv h => by
    rcases keyIs_shape hu with ⟨i, t, rfl, rfl⟩ | ⟨x, t, rfl, rfl⟩
    · rcases keyIs_shape hv with ⟨j, u, rfl, rfl⟩ | ⟨y, u, rfl, rfl⟩
      · rw [key_ll] at h; exact wpAny_eqBool_int h
      · rw [key_lr] at h; exact SeqAt.EqAt.int_str i t y u _ _ _ _ h
    · rcases keyIs_shape hv with ⟨j, u, rfl, rfl⟩ | ⟨y, u, rfl, rfl⟩
      · rw [key_rl] at h; exact SeqAt.EqAt.str_int x t j u _ _ _ _ h
      · rw [key_rr] at h; exact wpAny_eqBool_str h
  «strs» := fun k x t v h => by
    rcases keyIs_shape h with ⟨i, u, rfl, e⟩ | ⟨y, u, rfl, e⟩
    · exact nomatch e
    · injection e with e1 _
      subst e1
      cases v <;> rfl
end L2
namespace L2
open PySem PySem.Spec PyProof.Rows
inductive V where
  | non | bl (b : Bool) | int (i : Int) | str (x : Str) | byt (b : Array UInt8) | flt (b : UInt64) | ref (a : Addr) | ty (n : String)
  deriving DecidableEq
def RelV : V → Value → Prop
  | .non, u => u = Value.none
  | .bl b, u => u = Value.bool b
  | .int i, u => ∃ t, u = Value.int i t
  | .str x, u => ∃ t, u = Value.str x t
  | .byt b, u => ∃ t, u = Value.bytes b t
  | .flt b, u => ∃ t, u = Value.float b t
  | .ref a, u => u = Value.ref a
  | .ty n, u => u = Value.type n
abbrev Vals : List V → List Value → Prop := Paired RelV
theorem Vals.length {xs : List V} {us : List Value} (r : Vals xs us) : xs.length = us.length := Paired.length r
theorem Vals.get : ∀ {xs : List V} {us : List Value} {i : Nat} {x : V}, Vals xs us → xs[i]? = some x → ∃ u, us[i]? = some u ∧ RelV x u
  | _, _, _, _, .nil, e => by simp at e
  | _, _, 0, _, .cons r _, e => by simp at e; subst e; exact ⟨_, rfl, r⟩
  | _, _, i + 1, x, .cons _ t, e => by
    obtain ⟨u, h1, h2⟩ := Vals.get (i := i) (x := x) t (by simpa using e)
    exact ⟨u, by simpa using h1, h2⟩
theorem Vals.append : ∀ {xs ys : List V} {us ws : List Value}, Vals xs us → Vals ys ws → Vals (xs ++ ys) (us ++ ws)
  | _, _, _, _, .nil, s => s
  | _, _, _, _, .cons r t, s => .cons r (Vals.append t s)
def RelO : Option V → Option Value → Prop
  | some v, some u => RelV v u
  | none, none => True
  | _, _ => False
def KV {κ : Type} : List (κ × V) → List (κ × Value) → Prop := Paired fun (p : κ × V) (q : κ × Value) => p.1 = q.1 ∧ RelV p.2 q.2
def kV : Key → V
  | .inl i => .int i
  | .inr x => .str x
inductive HO where
  | lst (xs : List V)
  | tup (xs : List V)
  | dK (kvs : List (Key × V)) | dT (kvs : List (List Key × V))
  | set (S : Int → Bool) (n : Nat)
  | ins (C dx : Addr) (fs : List (Str × V))
  | own (x : Addr)
  | xd (fs : List (Str × V))
  | met (f x : Addr)
  | rng (lo hi : Int)
  | frz (o : Obj) (u : HO)
  | tbl (ps : Array Value)
  | ext (φ : Heap → Prop)
abbrev Hp := Addr → Option HO
def upd (H : Hp) (a : Addr) (o : HO) : Hp := fun b => if b = a then some o else H b
theorem upd_same {H : Hp} {a : Addr} {o : HO} : upd H a o a = some o := by unfold upd; rw [if_pos rfl]
theorem upd_ne {H : Hp} {a b : Addr} {o : HO} (h : b ≠ a) : upd H a o b = H b := by unfold upd; rw [if_neg h]
theorem ne_of_none {H : Hp} {a b : Addr} {o : HO} (h : H a = some o) (h' : H b = none) : a ≠ b := by
  intro e; subst e; rw [h] at h'; cases h'
section
variable (P : Program) (w : World)
def ObjOk (H : Hp) (h : Heap) (a : Addr) : HO → Prop
  | .lst xs => xs.length ≤ sizeLine ∧ ∃ (its : List Value) (n : Nat), Vals xs its ∧ h.get? a = some { cls := .type "list", data := .seq its.toArray n }
  | .tup xs => xs.length ≤ sizeLine ∧ ∃ its : List Value, Vals xs its ∧ IsTup h a its.toArray
  | .dK kvs => kvs.length ≤ sizeLine ∧ (a == sysModules) = false ∧ ∃ vs, KV kvs vs ∧ h.DictOf (mixKind P w) a vs
  | .dT kvs => kvs.length ≤ sizeLine ∧ (a == sysModules) = false ∧ ∃ xs : List (List Key × Addr × Value),
      Paired (fun (p : List Key × V) (q : List Key × Addr × Value) => p.1 = q.1 ∧ H q.2.1 = some (.tup (p.1.map kV)) ∧ RelV p.2 q.2.2) kvs xs ∧
      ∃ o es ep, h.get? a = some o ∧ o.ExactDict ∧ o.data = .dict es ep ∧ es.toList = xs.map (entryOfKey (tupleKind (mixKind P w))) ∧ (xs.map (·.1)).Nodup
  | .set S n => h.SetOf (intKind P w) a S n
  | .ins C dx fs => H dx = some (.own a) ∧ fs.length ≤ 1000 ∧ dx ≠ a ∧ h.get? a = some (PySem.W.instObj C dx) ∧
      ∃ mA, h.Ns1 dx mA ∧ (∀ f, RelO (fs.lookup f) (mA f)) ∧ PySem.Within mA (fs.map (·.1))
  | .own _ => ∃ o, h.get? a = some o
  | .xd fs => ∃ mA, h.Ns1 a mA ∧ ∀ f, RelO (fs.lookup f) (mA f)
  | .rng lo hi => ∃ t u v, h.get? a = some { cls := .type "range", data := .fields #[.int lo t, .int hi u, .int 1 v] }
  | .frz o u => h.get? a = some o ∧ ObjOk H h a u
  | .tbl ps => h.get? a = some { cls := .none, data := .fields ps }
  | .met f x => h.get? a = some (PySem.W.methodObj (.ref f) (.ref x))
  | .ext φ => φ h ∧ (∃ o, h.get? a = some o) ∧ ∀ h1 h2 : Heap, φ h1 → (∀ o, h1.get? a = some o → h2.get? a = some o) → φ h2
def HOk (H : Hp) (h : Heap) : Prop := ∀ a o, H a = some o → ObjOk P w H h a o
end
section
variable {P : Program} {w : World} {H H' : Hp} {h h' : Heap} {a : Addr} {o : HO}
theorem ObjOk.lt (x : ObjOk P w H h a o) : a < h.objs.size := by
  cases o with
  | lst xs => obtain ⟨_, _, _, _, e⟩ := x; exact Heap.lt_size e
  | tup xs => obtain ⟨_, _, _, p⟩ := x; exact p.lt
  | dK kvs => obtain ⟨_, _, _, _, o, _, _, e, _⟩ := x; exact Heap.lt_size e
  | dT kvs => obtain ⟨_, _, _, _, o, _, _, e, _⟩ := x; exact Heap.lt_size e
  | set S n => obtain ⟨o, _, _, _, e, _⟩ := x; exact Heap.lt_size e
  | ins C dx fs => obtain ⟨_, _, _, e, _⟩ := x; exact Heap.lt_size e
  | own y => obtain ⟨_, e⟩ := x; exact Heap.lt_size e
  | xd fs => obtain ⟨_, ⟨_, _, _, e, _⟩, _⟩ := x; exact Heap.lt_size e
  | rng lo hi => obtain ⟨_, _, _, e⟩ := x; exact Heap.lt_size e
  | frz ob u => obtain ⟨e, _⟩ := x; exact Heap.lt_size e
  | tbl ps => exact Heap.lt_size (show h.get? a = some _ from x)
  | met f y => exact Heap.lt_size (show h.get? a = some _ from x)
  | ext φ => obtain ⟨_, ⟨_, e⟩, _⟩ := x; exact Heap.lt_size e
theorem Paired.mapP {α β : Type} {F G : α → β → Prop} : ∀ {l₁ : List α} {l₂ : List β}, Paired F l₁ l₂ → (∀ a b, F a b → G a b) → Paired G l₁ l₂
  | _, _, .nil, _ => .nil
  | _, _, .cons r t, f => .cons (f _ _ r) (Paired.mapP t f)
theorem ObjOk.stay (x : ObjOk P w H h a o) (k : ∀ b u, (b = a ∨ H b = some (.own a)) → h.get? b = some u → h'.get? b = some u)
    (ho : ∀ b, H b = some (.own a) → H' b = some (.own a)) (ht : ∀ b xs, H b = some (.tup xs) → H' b = some (.tup xs)) : ObjOk P w H' h' a o := by
  induction o with
  | lst xs => obtain ⟨z, its, n, r, e⟩ := x; exact ⟨z, its, n, r, k _ _ (.inl rfl) e⟩
  | tup xs => obtain ⟨z, its, r, ob, e, c⟩ := x; exact ⟨z, its, r, ob, k _ _ (.inl rfl) e, c⟩
  | dK kvs => obtain ⟨z, y, vs, r, ob, es, ep, e, c⟩ := x; exact ⟨z, y, vs, r, ob, es, ep, k _ _ (.inl rfl) e, c⟩
  | dT kvs =>
    obtain ⟨z, y, xs, r, ob, es, ep, e, c⟩ := x
    exact ⟨z, y, xs, Paired.mapP r fun p q z => ⟨z.1, ht _ _ z.2.1, z.2.2⟩, ob, es, ep, k _ _ (.inl rfl) e, c⟩
  | set S n => obtain ⟨ob, es, ep, t, e, c⟩ := x; exact ⟨ob, es, ep, t, k _ _ (.inl rfl) e, c⟩
  | ins C dx fs =>
    obtain ⟨d, z, ne, e, mA, ⟨od, es, ep, e2, c⟩, r⟩ := x
    exact ⟨ho _ d, z, ne, k _ _ (.inl rfl) e, mA, ⟨od, es, ep, k _ _ (.inr d) e2, c⟩, r⟩
  | own y => obtain ⟨ob, e⟩ := x; exact ⟨ob, k _ _ (.inl rfl) e⟩
  | xd fs => obtain ⟨mA, ⟨od, es, ep, e, c⟩, r⟩ := x; exact ⟨mA, ⟨od, es, ep, k _ _ (.inl rfl) e, c⟩, r⟩
  | rng lo hi => obtain ⟨t, u, v, e⟩ := x; exact ⟨t, u, v, k _ _ (.inl rfl) e⟩
  | frz ob u ih => obtain ⟨e, q⟩ := x; exact ⟨k _ _ (.inl rfl) e, ih q⟩
  | tbl ps =>
    have e : h.get? a = some { cls := .none, data := .fields ps } := x
    show h'.get? a = some { cls := .none, data := .fields ps }
    exact k a _ (.inl rfl) e
  | met f y =>
    have e : h.get? a = some (PySem.W.methodObj (.ref f) (.ref y)) := x
    show h'.get? a = some (PySem.W.methodObj (.ref f) (.ref y))
    exact k a _ (.inl rfl) e
  | ext φ => obtain ⟨p, ⟨o, e⟩, st⟩ := x; exact ⟨st _ _ p fun o q => k _ _ (.inl rfl) q, ⟨o, k _ _ (.inl rfl) e⟩, st⟩
theorem HOk.lt (x : HOk P w H h) (e : H a = some o) : a < h.objs.size := (x a o e).lt
theorem HOk.fresh (x : HOk P w H h) (e : h.objs.size ≤ a) : H a = none := by
  cases q : H a with
  | none => rfl
  | some u => exact absurd (Nat.lt_of_lt_of_le (x.lt q) e) (Nat.lt_irrefl _)
theorem HOk.kept (x : HOk P w H h) (k : ∀ b u, h.get? b = some u → h'.get? b = some u) : HOk P w H h' := fun a o e =>
  (x a o e).stay (fun b u _ q => k b u q) (fun _ q => q) fun _ _ q => q
theorem HOk.laid (x : HOk P w H h) (k : ∀ b u, h.get? b = some u → h'.get? b = some u) (hp : h.objs.size ≤ a) (new : ObjOk P w (upd H a o) h' a o) : HOk P w (upd H a o) h' := fun b u e => by
  have hn := x.fresh hp
  by_cases hb : b = a
  · subst hb; rw [upd_same] at e; cases e; exact new
  · rw [upd_ne hb] at e
    exact (x b u e).stay (fun c v _ q => k c v q) (fun c q => by rw [upd_ne (ne_of_none q hn)]; exact q) fun c xs q => by rw [upd_ne (ne_of_none q hn)]; exact q
end
def Rd (H : Hp) (a : Addr) (u : HO) : Prop := H a = some u ∨ ∃ o, H a = some (.frz o u)
theorem Rd.ok {P : Program} {w : World} {H : Hp} {h : Heap} {a : Addr} {u : HO} (r : Rd H a u) (x : HOk P w H h) : ObjOk P w H h a u := by
  rcases r with r | ⟨o, r⟩
  · exact x a u r
  · obtain ⟨_, q⟩ := x a _ r
    exact q
def Mut : Option HO → Prop
  | some (.lst _) => True
  | some (.dK _) => True
  | some (.dT _) => True
  | some (.set _ _) => True
  | some (.ins _ _ _) => True
  | some (.ext _) => True
  | _ => False
section
variable {P : Program} {w : World} {H : Hp} {h h' : Heap} {x e : Addr} {o' : HO}
theorem HOk.write (ok : HOk P w H h) (mu : Mut (H x)) (he : e = x ∨ H e = some (.own x)) (k : ∀ b u, b ≠ e → h.get? b = some u → h'.get? b = some u) (heo : ∃ u, h'.get? e = some u)
    (new : ObjOk P w (upd H x o') h' x o') : HOk P w (upd H x o') h' := fun b u q => by
  have nown : ∀ c y, H c = some (.own y) → c ≠ x := fun c y r z => by subst z; rw [r] at mu; exact mu
  have ntup : ∀ c xs, H c = some (.tup xs) → c ≠ x := fun c xs r z => by subst z; rw [r] at mu; exact mu
  by_cases hb : b = x
  · subst hb; rw [upd_same] at q; cases q; exact new
  · rw [upd_ne hb] at q
    by_cases hbe : b = e
    · have q' : H b = some (.own x) := by
        rcases he with z | z
        · exact absurd (hbe.trans z) hb
        · rw [hbe]; exact z
      rw [q] at q'; cases q'
      obtain ⟨v, hv⟩ := heo
      exact ⟨v, by rw [hbe]; exact hv⟩
    · refine (ok b u q).stay (fun c v hc r => k c v ?_ r) (fun c r => by rw [upd_ne (nown c b r)]; exact r) fun c xs r => by rw [upd_ne (ntup c xs r)]; exact r
      rcases hc with rfl | hc
      · exact hbe
      · rintro rfl
        rcases he with z | z
        · exact nown c b hc z
        · rw [hc] at z; cases z; exact hb rfl
end
structure Un (fs ex : List Addr) (H H' : Hp) (h h' : Heap) : Prop where
  keep : ∀ b o, h.get? b = some o → H b = none → b ∉ fs → b ∉ ex → h'.get? b = some o
  slot : ∀ b o, h.get? b = some o → H b = none → b ∈ fs → b ∉ ex → ∃ sl, h'.get? b = some { o with slots := sl }
  free : ∀ b o, h.get? b = some o → H b = none → b ∉ ex → H' b = none
  there : ∀ b o, h.get? b = some o → b ∉ ex → ∃ o', h'.get? b = some o'
  tups : ∀ b xs, H b = some (.tup xs) → H' b = some (.tup xs)
  frzs : ∀ b o u, H b = some (.frz o u) → H' b = some (.frz o u)
  tbls : ∀ b ps, H b = some (.tbl ps) → ∃ more, H' b = some (.tbl (ps ++ more))
section
variable {fs fs' ex ex' : List Addr} {H H1 H2 : Hp} {h h1 h2 h' : Heap} {a x e : Addr} {o : HO}
theorem Un.any (u : Un fs ex H H1 h h1) {b : Addr} {ob : Obj} (q : h.get? b = some ob) (n : H b = none) (hx : b ∉ ex) : ∃ sl, h1.get? b = some { ob with slots := sl } := by
  by_cases hb : b ∈ fs
  · exact u.slot b ob q n hb hx
  · exact ⟨ob.slots, u.keep b ob q n hb hx⟩
theorem Un.kept (k : ∀ b u, h.get? b = some u → h'.get? b = some u) : Un fs ex H H h h' :=
  ⟨fun b ob q _ _ _ => k b ob q, fun b ob q _ _ _ => ⟨ob.slots, k b ob q⟩, fun _ _ _ n _ => n, fun b ob q _ => ⟨ob, k b ob q⟩, fun _ _ q => q, fun _ _ _ q => q, fun _ ps q => ⟨#[], by rw [q]; simp⟩⟩
theorem Un.refl : Un fs ex H H h h := Un.kept fun _ _ q => q
theorem Un.laid (k : ∀ b u, h.get? b = some u → h'.get? b = some u) (hp : h.objs.size ≤ a) (hn : H a = none) : Un fs ex H (upd H a o) h h' where
  keep := fun b u q _ _ _ => k b u q
  slot := fun b u q _ _ _ => ⟨u.slots, k b u q⟩
  free := fun b u q n _ => by rw [upd_ne (Nat.ne_of_lt (Nat.lt_of_lt_of_le (Heap.lt_size q) hp))]; exact n
  there := fun b u q _ => ⟨u, k b u q⟩
  tups := fun b xs q => by rw [upd_ne (ne_of_none q hn)]; exact q
  frzs := fun b u xs q => by rw [upd_ne (ne_of_none q hn)]; exact q
  tbls := fun b ps q => ⟨#[], by rw [upd_ne (ne_of_none q hn), q]; simp⟩
theorem Un.write (mu : Mut (H x)) (he : e = x ∨ H e = some (.own x)) (k : ∀ b u, b ≠ e → h.get? b = some u → h'.get? b = some u) (heo : ∃ u, h'.get? e = some u) : Un fs ex H (upd H x o) h h' := by
  have hx : ∀ b, H b = none → b ≠ x := fun b n z => by subst z; rw [n] at mu; exact mu
  have hb : ∀ b, H b = none → b ≠ e := fun b n z => by
    subst z
    rcases he with r | r
    · exact hx b n r
    · rw [n] at r; cases r
  have hm : ∀ b u, H b = some u → ¬ Mut (some u) → b ≠ x := fun b u q nm z => by subst z; rw [q] at mu; exact nm mu
  refine ⟨fun b u q n _ _ => k b u (hb b n) q, fun b u q n _ _ => ⟨u.slots, k b u (hb b n) q⟩, fun b u q n _ => by rw [upd_ne (hx b n)]; exact n, fun b u q _ => ?_,
    fun b xs q => by rw [upd_ne (hm b _ q fun z => z)]; exact q, fun b u xs q => by rw [upd_ne (hm b _ q fun z => z)]; exact q, fun b ps q => ⟨#[], by rw [upd_ne (hm b _ q fun z => z), q]; simp⟩⟩
  by_cases hbe : b = e
  · subst hbe; exact heo
  · exact ⟨u, k b u hbe q⟩
end
def trk (h : Heap) (H : Hp) : List Addr := (List.range h.objs.size).filter fun a => (H a).isSome
def hidT (h : Heap) (H : Hp) : Heap := PySem.W.hideAll h (trk h H)
theorem hidT_size (h : Heap) (H : Hp) : (hidT h H).objs.size = h.objs.size := PySem.W.hideAll_size _ _
theorem hidT_get {h : Heap} {H : Hp} {b : Addr} {o : Obj} (e : h.get? b = some o) (n : H b = none) : (hidT h H).get? b = some o :=
  PySem.W.hideAll_get _ e fun hm => by
    have q : (H b).isSome = true := (List.mem_filter.mp hm).2
    rw [n] at q; simp at q
theorem of_hidT {h : Heap} {H : Hp} {b : Addr} {o : Obj} (e : (hidT h H).get? b = some o) : h.get? b = some o ∧ H b = none := by
  have e' : h.get? b = some o := PySem.W.of_hideAll (trk h H) e
  refine ⟨e', ?_⟩
  cases q : H b with
  | none => rfl
  | some x =>
    have hm : b ∈ trk h H := List.mem_filter.mpr ⟨List.mem_range.mpr (Heap.lt_size e'), by simp [q]⟩
    have z : (hidT h H).get? b = none := PySem.W.hideAll_none (trk h H) hm
    rw [z] at e; cases e
end L2
namespace L2
open PySem PySem.Spec PyProof.Rows
structure Mod (K : PySem.W.Frag) (mg : Str → Option Value) (base : Heap) : Prop where
  kin : K.In base
  glob : base.Ns mainGlobals mg
  blt : ∃ mb, base.Ns builtinsNs mb ∧ ∀ x : Str, x ≠ "__name__" → mb x = bootBuiltins x
  nolimit : base.NoLimit
structure Cx where
  prog : Program
  w : World
  K : PySem.W.Frag
  mg : Str → Option Value
  base : Heap
  A : Around
  N : List Str
  s₀ : Shared
  H₀ : Hp
  env : Env
  outer : List Env
  stack : List Env
  ex : List Addr
  fn : Str → Bool
  calm : Bool
  pn : List (Addr × Obj)
  xe : Value → Shared → Prop
def frs (l : List Env) : List Addr := l.filterMap (·.frame)
abbrev Cx.fs (X : Cx) : List Addr := frs X.outer
def Vis (sc : Scope) (x : Str) : Prop := sc.names.lookup x = some .local ∨ sc.names.lookup x = some .cell ∨ sc.names.lookup x = some .free
def Loc (sc : Scope) (x : Str) : Prop := sc.names.lookup x = some .local ∨ sc.names.lookup x = some .cell
def Look (env : Env) (h : Heap) (m : Str → Option Value) (x : Str) (u : Value) : Prop :=
  (env.kindOf x = some .local ∧ m x = some u) ∨ ((env.kindOf x = some .cell ∨ env.kindOf x = some .free) ∧ ∃ c, env.cells.lookup x = some c ∧ h.IsCell c (some u))
structure Cx.Ok (X : Cx) : Prop where
  mod : Mod X.K X.mg X.base
  kind : X.env.scope.kind = .function
  glob : X.env.globals = mainGlobals
  blt : X.env.builtins = builtinsNs
  above : X.s₀.heap.objs.size ≤ X.env.locals
  inj : ∀ x y c, X.env.cells.lookup x = some c → X.env.cells.lookup y = some c → x = y
  has : ∀ x, (X.env.kindOf x = some .cell ∨ X.env.kindOf x = some .free) → ∃ c, X.env.cells.lookup x = some c
  cab : ∀ x c, X.fn x = true → X.env.cells.lookup x = some c → X.s₀.heap.objs.size ≤ c
  hd : X.calm = true → X.A.handled = none
  frames : X.A.frames = some X.stack
  stk : X.stack = X.outer ∨ (X.stack = X.env :: X.outer ∧ X.env.frame = some X.env.locals)
  exf : ∀ b ∈ X.ex, b ≠ X.env.locals ∧ ∀ x c, X.env.cells.lookup x = some c → c ≠ b
  bs : ∀ b o, X.base.get? b = some o → X.s₀.heap.get? b = some o ∧ X.H₀ b = none
  bsz : X.base.objs.size ≤ X.s₀.heap.objs.size
  noex : ∀ b o, X.base.get? b = some o → b ∉ X.ex
  exfs : ∀ b ∈ X.ex, b ∉ X.fs
  funs : X.s₀.heap.FunFrames X.base X.outer
  frf : ∀ b ∈ X.fs, X.H₀ b = none
structure Inv (X : Cx) (pins : List (Addr × Obj)) (σ : List (Option V)) (H : Hp) (s : Shared) : Prop where
  ok : X.Ok
  os : s.os = X.s₀.os
  bare : AllBare s.gens
  base : Un X.fs X.ex X.H₀ H X.s₀.heap s.heap
  loc : ∃ m, s.heap.Ns X.env.locals m ∧ ∀ (i : Nat) (x : Str) (v : V), X.N[i]? = some x → σ[i]? = some (some v) → Vis X.env.scope x → ∃ u, RelV v u ∧ Look X.env s.heap m x u
  cell : ∀ x c, X.env.cells.lookup x = some c → ∃ v, s.heap.IsCell c v
  free : H X.env.locals = none
  freeC : ∀ x c, X.env.cells.lookup x = some c → H c = none
  pin : ∀ p ∈ X.pn ++ pins, s.heap.get? p.1 = some p.2 ∧ H p.1 = none ∧ p.1 ≠ X.env.locals ∧ p.1 ∉ X.fs ∧ ∀ v, p.2.data ≠ .cell v
  hok : HOk X.prog X.w H s.heap
  len : σ.length = X.N.length
section
variable {X : Cx} {pins : List (Addr × Obj)} {σ : List (Option V)} {H H' : Hp} {s : Shared} {h' : Heap}
theorem Cx.Ok.nofr (ok : X.Ok) {b : Addr} {o : Obj} (e : X.base.get? b = some o) : b ∉ X.fs := fun hb => by
  have := (ok.funs.mem hb).1
  rw [e] at this; cases this
theorem Inv.bs (I : Inv X pins σ H s) : ∀ b o, X.base.get? b = some o → s.heap.get? b = some o ∧ H b = none := fun b o e =>
  ⟨I.base.keep b o (I.ok.bs b o e).1 (I.ok.bs b o e).2 (I.ok.nofr e) (I.ok.noex b o e), I.base.free b o (I.ok.bs b o e).1 (I.ok.bs b o e).2 (I.ok.noex b o e)⟩
theorem Inv.bk (I : Inv X pins σ H s) : ∀ b o, X.base.get? b = some o → s.heap.get? b = some o := fun b o e => (I.bs b o e).1
theorem Inv.mod (I : Inv X pins σ H s) : Mod X.K X.mg X.base := I.ok.mod
theorem Inv.kIn (I : Inv X pins σ H s) : X.K.In s.heap := I.ok.mod.kin.keeps I.bk
theorem Inv.lt (I : Inv X pins σ H s) : X.env.locals < s.heap.objs.size := let ⟨_, hn, _⟩ := I.loc; hn.lt
theorem Inv.sz (I : Inv X pins σ H s) : X.s₀.heap.objs.size ≤ s.heap.objs.size := Nat.le_trans I.ok.above (Nat.le_of_lt I.lt)
theorem Inv.nofs (I : Inv X pins σ H s) {a : Addr} (h : s.heap.objs.size ≤ a) : a ∉ X.fs := fun hb => by
  obtain ⟨_, o, ho, _⟩ := I.ok.funs.mem hb
  exact absurd (Nat.lt_of_lt_of_le (Heap.lt_size ho) (Nat.le_trans I.sz h)) (Nat.lt_irrefl _)
theorem Inv.cne (I : Inv X pins σ H s) : ∀ x c, X.env.cells.lookup x = some c → c ≠ X.env.locals := fun x c e z => by
  obtain ⟨v, o, ho, hd⟩ := I.cell x c e
  obtain ⟨m, ⟨o', es, ep, ho', hd', _⟩, _⟩ := I.loc
  rw [z, ho'] at ho; cases ho; rw [hd'] at hd; cases hd
theorem Inv.funs (I : Inv X pins σ H s) : s.heap.FunFrames X.base X.outer := by
  have all : ∀ (l : List Env), (∀ b ∈ frs l, b ∈ X.fs) → X.s₀.heap.FunFrames X.base l → s.heap.FunFrames X.base l := by
    intro l
    induction l with
    | nil => intro _ _; trivial
    | cons env r ih =>
      intro hs hl
      obtain ⟨hk, ⟨L, o, hf, hn, ho, hd⟩, hr⟩ := hl
      have hL : L ∈ X.fs := hs L (by unfold frs; rw [List.filterMap_cons, hf]; exact List.mem_cons_self)
      obtain ⟨sl, e⟩ := I.base.slot L o ho (I.ok.frf L hL) hL fun z => I.ok.exfs L z hL
      exact ⟨hk, ⟨L, _, hf, hn, e, hd⟩, ih (fun b hb => hs b (by unfold frs; rw [List.filterMap_cons, hf]; exact List.mem_cons_of_mem _ hb)) hr⟩
  exact all X.outer (fun _ hb => hb) I.ok.funs
theorem Inv.stack (I : Inv X pins σ H s) : s.heap.FunFrames X.base X.stack := by
  rcases I.ok.stk with e | ⟨e, hf⟩
  · rw [e]; exact I.funs
  · rw [e]
    obtain ⟨m, hn, _⟩ := I.loc
    refine .cons (by rw [I.ok.kind]; decide) hf hn ?_ I.funs
    exact Heap.get?_none_of_le (Nat.le_trans I.ok.bsz I.ok.above)
theorem Inv.stkSub (I : Inv X pins σ H s) : ∀ b ∈ frs X.stack, b ∈ X.env.locals :: X.fs := fun b hb => by
  rcases I.ok.stk with e | ⟨e, hf⟩
  · rw [e] at hb; exact List.mem_cons_of_mem _ hb
  · rw [e] at hb
    unfold frs at hb
    rw [List.filterMap_cons, hf] at hb
    exact hb
theorem Inv.stkFree (I : Inv X pins σ H s) : ∀ b ∈ frs X.stack, H b = none := fun b hb => by
  rcases List.mem_cons.mp (I.stkSub b hb) with e | hb
  · rw [e]; exact I.free
  · obtain ⟨_, o, ho, _⟩ := I.ok.funs.mem hb
    exact I.base.free b o ho (I.ok.frf b hb) fun z => I.ok.exfs b z hb
theorem Inv.step {g' : Array GenState} {t' : Nat} {d' : Drawn} {ch : List Addr} (I : Inv X pins σ H s)
    (hch : ∀ b ∈ ch, (b ∈ X.ex ∨ X.s₀.heap.objs.size ≤ b) ∧ b ≠ X.env.locals ∧ (∀ x c, X.env.cells.lookup x = some c → c ≠ b) ∧ ∀ p ∈ X.pn ++ pins, p.1 ≠ b)
    (keep : ∀ b o, b ≠ X.env.locals → b ∉ X.fs → b ∉ ch → s.heap.get? b = some o → H b = none → h'.get? b = some o)
    (slot : ∀ b o, b ≠ X.env.locals → b ∈ X.fs → b ∉ ch → s.heap.get? b = some o → H b = none → ∃ sl, h'.get? b = some { o with slots := sl }) (free : ∀ b o, b ∉ ch → s.heap.get? b = some o → H b = none → H' b = none)
    (there : ∀ b o, b ∉ ch → s.heap.get? b = some o → ∃ o', h'.get? b = some o')
    (tups : ∀ b xs, H b = some (.tup xs) → H' b = some (.tup xs)) (frzs : ∀ b o u, H b = some (.frz o u) → H' b = some (.frz o u)) (tbls : ∀ b ps, H b = some (.tbl ps) → ∃ more, H' b = some (.tbl (ps ++ more)))
    (ns : ∀ m, s.heap.Ns X.env.locals m → h'.Ns X.env.locals m) (hok : HOk X.prog X.w H' h') (hg : AllBare g') :
    Inv X pins σ H' { s with heap := h', gens := g', drawn := d', toks := t' } := by
  have neL : ∀ b o, X.s₀.heap.get? b = some o → b ≠ X.env.locals := fun b o e => Nat.ne_of_lt (Nat.lt_of_lt_of_le (Heap.lt_size e) I.ok.above)
  have neC : ∀ b o, X.s₀.heap.get? b = some o → b ∉ X.ex → b ∉ ch := fun b o e hx hb => by
    rcases (hch b hb).1 with z | z
    · exact hx z
    · exact absurd (Nat.lt_of_lt_of_le (Heap.lt_size e) z) (Nat.lt_irrefl _)
  have cellK : ∀ x c, X.env.cells.lookup x = some c → ∀ v, s.heap.IsCell c v → h'.IsCell c v := fun x c e v ⟨o, ho, hd⟩ => by
    have nch : c ∉ ch := fun z => (hch c z).2.2.1 x c e rfl
    by_cases hc : c ∈ X.fs
    · obtain ⟨sl, q⟩ := slot c o (I.cne x c e) hc nch ho (I.freeC x c e)
      exact ⟨_, q, hd⟩
    · exact ⟨o, keep c o (I.cne x c e) hc nch ho (I.freeC x c e), hd⟩
  refine ⟨I.ok, I.os, hg, ⟨fun b o e n hb hx => ?_, fun b o e n hb hx => ?_, fun b o e n hx => ?_, fun b o e hx => ?_, fun b xs e => tups b xs (I.base.tups b xs e), fun b o xs e => frzs b o xs (I.base.frzs b o xs e), fun b ps e => ?_⟩, ?_, fun x c e => ?_, ?_, fun x c e => ?_, fun p hp => ?_, hok, I.len⟩
  · exact keep b o (neL b o e) hb (neC b o e hx) (I.base.keep b o e n hb hx) (I.base.free b o e n hx)
  · obtain ⟨sl, e1⟩ := I.base.slot b o e n hb hx
    obtain ⟨sl', e2⟩ := slot b _ (neL b o e) hb (neC b o e hx) e1 (I.base.free b o e n hx)
    exact ⟨sl', e2⟩
  · obtain ⟨o', e1⟩ := I.base.there b o e hx
    exact free b o' (neC b o e hx) e1 (I.base.free b o e n hx)
  · obtain ⟨o', e1⟩ := I.base.there b o e hx
    exact there b o' (neC b o e hx) e1
  · obtain ⟨m1, e1⟩ := I.base.tbls b ps e
    obtain ⟨m2, e2⟩ := tbls b _ e1
    exact ⟨m1 ++ m2, by rw [e2, Array.append_assoc]⟩
  · obtain ⟨m, hn, hl⟩ := I.loc
    refine ⟨m, ns m hn, fun i x v e1 e2 e3 => ?_⟩
    obtain ⟨u, r, l⟩ := hl i x v e1 e2 e3
    refine ⟨u, r, ?_⟩
    rcases l with l | ⟨k, c, e, z⟩
    · exact .inl l
    · exact .inr ⟨k, c, e, cellK x c e _ z⟩
  · obtain ⟨v, z⟩ := I.cell x c e
    exact ⟨v, cellK x c e v z⟩
  · obtain ⟨m, ⟨o, _, _, ho, _⟩, _⟩ := I.loc
    exact free _ o (fun z => (hch _ z).2.1 rfl) ho I.free
  · obtain ⟨v, o, ho, hd⟩ := I.cell x c e
    exact free c o (fun z => (hch c z).2.2.1 x c e rfl) ho (I.freeC x c e)
  · obtain ⟨e, n, ne, nf, d⟩ := I.pin p hp
    have nch : p.1 ∉ ch := fun z => (hch p.1 z).2.2.2 p hp rfl
    exact ⟨keep p.1 p.2 ne nf nch e n, free p.1 p.2 nch e n, ne, nf, d⟩
theorem Inv.un {t' : Nat} (I : Inv X pins σ H s) (u : Un X.fs [] H H' s.heap h') (hok : HOk X.prog X.w H' h') : Inv X pins σ H' { s with heap := h', toks := t' } := by
  obtain ⟨m, ⟨o, es, ep, ho, r⟩, _⟩ := id I.loc
  obtain ⟨sl, hL⟩ := u.any ho I.free (by simp)
  exact I.step (g' := s.gens) (d' := s.drawn) (ch := []) (fun _ z => nomatch z) (fun b o _ hb _ e n => u.keep b o e n hb (by simp)) (fun b o _ hb _ e n => u.slot b o e n hb (by simp)) (fun b o _ e n => u.free b o e n (by simp)) (fun b o _ e => u.there b o e (by simp)) u.tups u.frzs u.tbls (fun m' hm => by
    obtain ⟨o', es', ep', ho', r'⟩ := hm
    rw [ho] at ho'; cases ho'
    exact ⟨_, es', ep', hL, r'⟩) hok I.bare
theorem Inv.call {g' : Array GenState} {t' : Nat} {d' : Drawn} {ch : List Addr} (I : Inv X pins σ H s) (u : Un (frs X.stack) ch H H' s.heap h') (hok : HOk X.prog X.w H' h') (hg : AllBare g')
    (hch : ∀ b ∈ ch, (b ∈ X.ex ∨ X.s₀.heap.objs.size ≤ b) ∧ b ≠ X.env.locals ∧ (∀ x c, X.env.cells.lookup x = some c → c ≠ b) ∧ ∀ p ∈ X.pn ++ pins, p.1 ≠ b) :
    Inv X pins σ H' { s with heap := h', gens := g', drawn := d', toks := t' } := by
  obtain ⟨m, ⟨o, es, ep, ho, r⟩, _⟩ := id I.loc
  obtain ⟨sl, hL⟩ := u.any ho I.free fun z => (hch _ z).2.1 rfl
  exact I.step (ch := ch) hch (fun b o hL hb hc e n => u.keep b o e n (fun z => (List.mem_cons.mp (I.stkSub b z)).elim hL hb) hc) (fun b o _ _ hc e n => u.any e n hc) (fun b o hc e n => u.free b o e n hc) (fun b o hc e => u.there b o e hc) u.tups u.frzs u.tbls (fun m' hm => by
    obtain ⟨o', es', ep', ho', r'⟩ := hm
    rw [ho] at ho'; cases ho'
    exact ⟨_, es', ep', hL, r'⟩) hok hg
theorem Inv.turned {t' : Nat} {it : Addr} (I : Inv X pins σ H s) (k : ∀ b o, b ≠ it → s.heap.get? b = some o → h'.get? b = some o) (hn : H it = none) (hL : it ≠ X.env.locals)
    (h1 : it ∈ X.ex ∨ X.s₀.heap.objs.size ≤ it) (h2 : ∀ x c, X.env.cells.lookup x = some c → c ≠ it) (h3 : ∀ p ∈ X.pn ++ pins, p.1 ≠ it) : Inv X pins σ H { s with heap := h', toks := t' } := by
  have nit : ∀ b u, H b = some u → b ≠ it := fun b u e z => by rw [z, hn] at e; cases e
  refine I.step (g' := s.gens) (d' := s.drawn) (ch := [it]) (fun b hb => ?_) (fun b o _ _ hc e _ => k b o (fun z => hc (by simp [z])) e) (fun b o _ _ hc e _ => ⟨o.slots, k b o (fun z => hc (by simp [z])) e⟩) (fun _ _ _ _ n => n)
    (fun b o hc e => ⟨o, k b o (fun z => hc (by simp [z])) e⟩) (fun _ _ e => e) (fun _ _ _ e => e) (fun b ps e => ⟨#[], by rw [e]; simp⟩) (fun m hm => ?_) (fun b u e => ?_) I.bare
  · have e : b = it := by simpa using hb
    subst e
    exact ⟨h1, hL, h2, h3⟩
  · obtain ⟨o, es, ep, ho, r⟩ := hm
    exact ⟨o, es, ep, k _ o (Ne.symm hL) ho, r⟩
  · refine (I.hok b u e).stay (fun c v hc q => k c v ?_ q) (fun _ q => q) fun _ _ q => q
    rcases hc with z | z
    · rw [z]; exact nit b u e
    · exact nit c _ z
theorem Inv.tok (I : Inv X pins σ H s) (t : Nat) : Inv X pins σ H { s with toks := t } := I.un (h' := s.heap) (t' := t) Un.refl I.hok
theorem Inv.kept {t' : Nat} (I : Inv X pins σ H s) (k : ∀ b u, s.heap.get? b = some u → h'.get? b = some u) : Inv X pins σ H { s with heap := h', toks := t' } := I.un (Un.kept k) (I.hok.kept k)
theorem Inv.laid {a : Addr} {o : HO} {t' : Nat} (I : Inv X pins σ H s) (k : ∀ b u, s.heap.get? b = some u → h'.get? b = some u) (hp : s.heap.objs.size ≤ a) (new : ObjOk X.prog X.w (upd H a o) h' a o) :
    Inv X pins σ (upd H a o) { s with heap := h', toks := t' } := I.un (Un.laid k hp (I.hok.fresh hp)) (I.hok.laid k hp new)
theorem Inv.write {x e : Addr} {o : HO} {t' : Nat} (I : Inv X pins σ H s) (mu : Mut (H x)) (he : e = x ∨ H e = some (.own x)) (k : ∀ b u, b ≠ e → s.heap.get? b = some u → h'.get? b = some u) (heo : ∃ u, h'.get? e = some u)
    (new : ObjOk X.prog X.w (upd H x o) h' x o) : Inv X pins σ (upd H x o) { s with heap := h', toks := t' } := I.un (Un.write mu he k heo) (I.hok.write mu he k heo new)
theorem Inv.weak {σ' : List (Option V)} (I : Inv X pins σ H s) (hl : σ'.length = σ.length) (w : ∀ (i : Nat) v, σ'[i]? = some (some v) → σ[i]? = some (some v)) : Inv X pins σ' H s :=
  ⟨I.ok, I.os, I.bare, I.base, let ⟨m, hn, hl'⟩ := I.loc; ⟨m, hn, fun i x v e1 e2 e3 => hl' i x v e1 (w i v e2) e3⟩, I.cell, I.free, I.freeC, I.pin, I.hok, hl.trans I.len⟩
theorem Inv.pins_of {pins' : List (Addr × Obj)} (I : Inv X pins σ H s) (h : ∀ p ∈ pins', s.heap.get? p.1 = some p.2 ∧ H p.1 = none ∧ p.1 ≠ X.env.locals ∧ p.1 ∉ X.fs ∧ ∀ v, p.2.data ≠ .cell v) : Inv X pins' σ H s :=
  ⟨I.ok, I.os, I.bare, I.base, I.loc, I.cell, I.free, I.freeC, fun p hp => (List.mem_append.mp hp).elim (fun z => I.pin p (List.mem_append_left _ z)) (h p), I.hok, I.len⟩
theorem nodup_ix {N : List Str} (hN : N.Nodup) {i j : Nat} {x : Str} (a : N[i]? = some x) (b : N[j]? = some x) : i = j := by
  obtain ⟨h1, e1⟩ := List.getElem?_eq_some_iff.mp a
  obtain ⟨h2, e2⟩ := List.getElem?_eq_some_iff.mp b
  exact (List.getElem_inj hN).mp (e1.trans e2.symm)
theorem store_ok2 {M : Model} {A : Around} {E : Value → Shared → Prop} {i : Nat} {x : Str} {v : V} {u : Value} {Q : Unit → Shared → Prop} (I : Inv X pins σ H s) (hN : X.N.Nodup) (hi : X.N[i]? = some x) (hx : Loc X.env.scope x) (r : RelV v u)
    (h : ∀ s', Inv X pins (σ.set i (some v)) H s' → (∃ a, Heap.SameBut a s.heap s'.heap ∧ (a = X.env.locals ∨ X.env.cells.lookup x = some a)) → Q () s') (hf : X.fn x = true ∨ X.env.scope.names.lookup x = some .local := by first | exact .inl rfl | exact .inr rfl | assumption) : wpAny M A (storeName X.env x u) Q E s := by
  obtain ⟨m, hn, hl⟩ := id I.loc
  have hcls : (X.env.scope.kind == .class || (X.env.scope.kind == .module && X.env.locals != X.env.globals)) = false := by rw [I.ok.kind]; rfl
  have hiσ : i < σ.length := by rw [I.len]; exact (List.getElem?_eq_some_iff.mp hi).1
  have cne := I.cne
  have tracked : ∀ {a : Addr} {h' : Heap}, (∃ o, s.heap.get? a = some o ∧ H a = none) → Heap.SameBut a s.heap h' → HOk X.prog X.w H h' := fun {a h'} ha hs b ob e => by
    obtain ⟨_, _, hfree⟩ := ha
    refine (I.hok b ob e).stay (fun c w' hc q => (hs.2 c ?_).trans q) (fun _ q => q) fun _ _ q => q
    rintro rfl
    rcases hc with rfl | hc
    · rw [hfree] at e; cases e
    · rw [hfree] at hc; cases hc
  rcases hx with hk | hk
  · refine wpAny_storeName_local hk hn (fun h' hn' hs => ?_) hcls
    obtain ⟨oL, _, _, hoL, _⟩ := id hn
    refine h _ ⟨I.ok, I.os, I.bare, ⟨fun b o e n hb hx => ?_, fun b o e n hb hx => ?_, I.base.free, fun b o e hx => ?_, I.base.tups, I.base.frzs, I.base.tbls⟩, ⟨_, hn', fun j y v' e1 e2 e3 => ?_⟩, fun y c e => ?_, I.free, I.freeC, fun p hp => ?_, tracked ⟨oL, hoL, I.free⟩ hs, by simpa using I.len⟩ ⟨_, hs, .inl rfl⟩
    · exact (hs.2 b (Nat.ne_of_lt (Nat.lt_of_lt_of_le (Heap.lt_size e) I.ok.above))).trans (I.base.keep b o e n hb hx)
    · obtain ⟨sl, e1⟩ := I.base.slot b o e n hb hx
      exact ⟨sl, (hs.2 b (Nat.ne_of_lt (Nat.lt_of_lt_of_le (Heap.lt_size e) I.ok.above))).trans e1⟩
    · obtain ⟨o', e1⟩ := I.base.there b o e hx
      exact ⟨o', (hs.2 b (Nat.ne_of_lt (Nat.lt_of_lt_of_le (Heap.lt_size e) I.ok.above))).trans e1⟩
    · by_cases hj : j = i
      · subst hj
        rw [hi] at e1; cases e1
        rw [List.getElem?_set_self hiσ] at e2
        cases e2
        exact ⟨u, r, .inl ⟨hk, by simp⟩⟩
      · rw [List.getElem?_set_ne (Ne.symm hj)] at e2
        obtain ⟨u', r', q⟩ := hl j y v' e1 e2 e3
        refine ⟨u', r', ?_⟩
        rcases q with ⟨k, e⟩ | ⟨k, c, e, z⟩
        · refine .inl ⟨k, ?_⟩
          have : y ≠ x := fun e => hj (nodup_ix hN e1 (e ▸ hi))
          simp [this, e]
        · exact .inr ⟨k, c, e, z.sameBut hs (cne y c e)⟩
    · obtain ⟨w', z⟩ := I.cell y c e
      exact ⟨w', z.sameBut hs (cne y c e)⟩
    · obtain ⟨e, n, ne, nf, d⟩ := I.pin p hp
      exact ⟨(hs.2 p.1 ne).trans e, n, ne, nf, d⟩
  · have hfn : X.fn x = true := by
      rcases hf with z | z
      · exact z
      · rw [z] at hk; cases hk
    obtain ⟨c, hc⟩ := I.ok.has x (.inl hk)
    obtain ⟨w', z⟩ := I.cell x c hc
    refine wpAny_storeName_cell I.ok.kind hk hc z (fun h' hc' hs => ?_)
    obtain ⟨oc, hoc, hocd⟩ := id z
    refine h { s with heap := h' } ⟨I.ok, I.os, I.bare, ⟨fun b o e n hb hx => ?_, fun b o e n hb hx => ?_, I.base.free, fun b o e hx => ?_, I.base.tups, I.base.frzs, I.base.tbls⟩, ⟨m, hn.sameBut hs (Ne.symm (cne x c hc)), fun j y v' e1 e2 e3 => ?_⟩, fun y c' e => ?_, I.free, I.freeC, fun p hp => ?_, tracked ⟨oc, hoc, I.freeC x c hc⟩ hs, by simpa using I.len⟩ ⟨c, hs, .inr hc⟩
    · exact (hs.2 b (Nat.ne_of_lt (Nat.lt_of_lt_of_le (Heap.lt_size e) (I.ok.cab x c hfn hc)))).trans (I.base.keep b o e n hb hx)
    · obtain ⟨sl, e1⟩ := I.base.slot b o e n hb hx
      exact ⟨sl, (hs.2 b (Nat.ne_of_lt (Nat.lt_of_lt_of_le (Heap.lt_size e) (I.ok.cab x c hfn hc)))).trans e1⟩
    · obtain ⟨o', e1⟩ := I.base.there b o e hx
      exact ⟨o', (hs.2 b (Nat.ne_of_lt (Nat.lt_of_lt_of_le (Heap.lt_size e) (I.ok.cab x c hfn hc)))).trans e1⟩
    · by_cases hj : j = i
      · subst hj
        rw [hi] at e1; cases e1
        rw [List.getElem?_set_self hiσ] at e2
        cases e2
        exact ⟨u, r, .inr ⟨.inl hk, c, hc, hc'⟩⟩
      · rw [List.getElem?_set_ne (Ne.symm hj)] at e2
        obtain ⟨u', r', q⟩ := hl j y v' e1 e2 e3
        refine ⟨u', r', ?_⟩
        rcases q with q | ⟨k, c', e, z'⟩
        · exact .inl q
        · refine .inr ⟨k, c', e, z'.sameBut hs ?_⟩
          rintro rfl
          exact hj (nodup_ix hN e1 (I.ok.inj _ _ _ e hc ▸ hi))
    · by_cases hcc : c' = c
      · subst hcc; exact ⟨_, hc'⟩
      · obtain ⟨w2, z2⟩ := I.cell y c' e
        exact ⟨w2, z2.sameBut hs hcc⟩
    · obtain ⟨e, n, ne, nf, d⟩ := I.pin p hp
      refine ⟨(hs.2 p.1 ?_).trans e, n, ne, nf, d⟩
      intro q
      rw [q, hoc] at e
      have q' : oc = p.2 := Option.some.inj e
      exact d w' (by rw [← q']; exact hocd)
theorem store_ok {M : Model} {A : Around} {E : Value → Shared → Prop} {i : Nat} {x : Str} {v : V} {u : Value} {Q : Unit → Shared → Prop} (I : Inv X pins σ H s) (hN : X.N.Nodup) (hi : X.N[i]? = some x) (hx : Loc X.env.scope x) (r : RelV v u)
    (h : ∀ s', Inv X pins (σ.set i (some v)) H s' → Q () s') (hf : X.fn x = true ∨ X.env.scope.names.lookup x = some .local := by first | exact .inl rfl | exact .inr rfl | assumption) : wpAny M A (storeName X.env x u) Q E s :=
  store_ok2 I hN hi hx r (fun s' I' _ => h s' I') hf
theorem Inv.call' {s' : Shared} {ch : List Addr} (I : Inv X pins σ H s) (ho : s'.os = s.os) (u : Un (frs X.stack) ch H H' s.heap s'.heap) (hok : HOk X.prog X.w H' s'.heap) (hg : AllBare s'.gens)
    (hch : ∀ b ∈ ch, (b ∈ X.ex ∨ X.s₀.heap.objs.size ≤ b) ∧ b ≠ X.env.locals ∧ (∀ x c, X.env.cells.lookup x = some c → c ≠ b) ∧ ∀ p ∈ X.pn ++ pins, p.1 ≠ b) : Inv X pins σ H' s' := by
  obtain ⟨h', g', d', t', o'⟩ := s'
  have e : o' = s.os := ho
  subst e
  exact I.call (g' := g') (t' := t') (d' := d') u hok hg hch
end
abbrev XK := Value → Option Addr → Hp → Prop
abbrev St := List (Option V)
abbrev VK := V → Hp → Prop
abbrev TE := St → Hp → VK → Prop
abbrev TT := St → Hp → (Bool → Hp → Prop) → Prop
abbrev TA := St → Hp → (List V → Hp → Prop) → Prop
structure Ends where
  nx : St → Hp → Prop
  rt : VK
  bk : St → Hp → Prop := fun _ _ => False
  ct : St → Hp → Prop := fun _ _ => False
abbrev TS := Ends → St → Hp → Prop
def EP (X : Cx) (pins : List (Addr × Obj)) (σ : St) (Q : VK) (u : Value) (s' : Shared) : Prop := ∃ v H', Inv X pins σ H' s' ∧ RelV v u ∧ Q v H'
def TP (X : Cx) (pins : List (Addr × Obj)) (σ : St) (Q : Bool → Hp → Prop) (b : Bool) (s' : Shared) : Prop := ∃ H', Inv X pins σ H' s' ∧ Q b H'
def AP (X : Cx) (pins : List (Addr × Obj)) (σ : St) (Q : List V → Hp → Prop) (us : List Value) (s' : Shared) : Prop := ∃ vs H', Inv X pins σ H' s' ∧ Vals vs us ∧ Q vs H'
def SP (X : Cx) (pins : List (Addr × Obj)) (D : Ends) (f : Flow) (s' : Shared) : Prop :=
  match f with
  | .next => ∃ σ' H', Inv X pins σ' H' s' ∧ D.nx σ' H'
  | .brk => ∃ σ' H', Inv X pins σ' H' s' ∧ D.bk σ' H'
  | .cont => ∃ σ' H', Inv X pins σ' H' s' ∧ D.ct σ' H'
  | .ret u => ∃ v σ' H', Inv X pins σ' H' s' ∧ RelV v u ∧ D.rt v H'
def PE (X : Cx) (e : Expr) (t : TE) : Prop :=
  ∀ (pins : List (Addr × Obj)) (s : Shared) (σ : St) (H : Hp) (Q : VK), Inv X pins σ H s → t σ H Q → wpAny (model X.prog X.w) X.A (eval e X.env) (EP X pins σ Q) X.xe s
def PT (X : Cx) (e : Expr) (t : TT) : Prop :=
  ∀ (pins : List (Addr × Obj)) (s : Shared) (σ : St) (H : Hp) (Q : Bool → Hp → Prop), Inv X pins σ H s → t σ H Q → wpAny (model X.prog X.w) X.A (isTrue e X.env (eval e X.env)) (TP X pins σ Q) X.xe s
def PW (X : Cx) (e : Expr) (t : TT) : Prop :=
  ∀ (whole : Sem Value) (pins : List (Addr × Obj)) (s : Shared) (σ : St) (H : Hp) (Q : Bool → Hp → Prop), Inv X pins σ H s → t σ H Q → wpAny (model X.prog X.w) X.A (isTrue e X.env whole) (TP X pins σ Q) X.xe s
theorem PW.pt {X : Cx} {e : Expr} {t : TT} (h : PW X e t) : PT X e t := h _
def PA (X : Cx) (es : List Expr) (t : TA) : Prop :=
  ∀ (pos : Pos) (pins : List (Addr × Obj)) (s : Shared) (σ : St) (H : Hp) (Q : List V → Hp → Prop), Inv X pins σ H s → t σ H Q → wpAny (model X.prog X.w) X.A (spliced (backTo pos (starEach es X.env))) (AP X pins σ Q) X.xe s
def PS (X : Cx) (st : Stmt) (t : TS) : Prop :=
  ∀ (pins : List (Addr × Obj)) (s : Shared) (σ : St) (H : Hp) (D : Ends), Inv X pins σ H s → t D σ H → wpAny (model X.prog X.w) X.A (exec st X.env) (SP X pins D) X.xe s
def PSs (X : Cx) (st : List Stmt) (t : TS) : Prop :=
  ∀ (pins : List (Addr × Obj)) (s : Shared) (σ : St) (H : Hp) (D : Ends), Inv X pins σ H s → t D σ H → wpAny (model X.prog X.w) X.A (execs st X.env) (SP X pins D) X.xe s
theorem thn {α : Type} {t : Sem α} {Q Q' : α → Shared → Prop} {M : Model} {A : Around} {E : Value → Shared → Prop} {s : Shared} (h : wpAny M A t Q E s) (hQ : ∀ a s, Q a s → Q' a s) : wpAny M A t Q' E s := wpAny_mono h hQ fun _ _ x => x
end L2
namespace L2
open PySem PySem.Spec PyProof.Rows
section
variable {X : Cx}
def tVar (i : Nat) : TE := fun σ H Q => ∃ v, σ[i]? = some (some v) ∧ Q v H
def tC (v : V) : TE := fun _ H Q => Q v H
theorem pe_var {i : Nat} {x : Str} {pos : Pos} (hN : X.N[i]? = some x) (hv : Vis X.env.scope x) (hd : (x == ("__debug__" : Str)) = false := by decide) (hcd : (x == ("__classdict__" : Str)) = false := by decide) : PE X (.Name x pos) (tVar i) := by
  intro pins s σ H Q I h
  obtain ⟨v, e, h⟩ := h
  obtain ⟨m, hn, hl⟩ := I.loc
  obtain ⟨u, r, l⟩ := hl i x v hN e hv
  have fin : EP X pins σ Q u s := ⟨v, H, I, r, h⟩
  rcases l with ⟨hk, hm⟩ | ⟨hk, c, hc, hcell⟩
  · exact wpAny_Name (wpAny_loadName_local I.ok.kind hk hn hm fin) hd
  · rcases hk with hk | hk
    · exact wpAny_Name (wpAny_loadName_cell I.ok.kind hk hc hcell fin) hd
    · exact wpAny_Name (wpAny_loadName_free I.ok.kind hk hc hcell fin hcd) hd
theorem pe_int {i j pos} : PE X (.Constant (.int i) j pos) (tC (.int i)) := fun _ _ _ H _ I h => wpAny_Constant_int ⟨.int i, H, I.tok _, ⟨_, rfl⟩, h⟩
theorem pe_bl {b j pos} : PE X (.Constant (.bool b) j pos) (tC (.bl b)) := fun _ _ _ H _ I h => Constant_bool ⟨.bl b, H, I, rfl, h⟩
theorem pe_non {j pos} : PE X (.Constant .none j pos) (tC .non) := fun _ _ _ H _ I h => Constant_none ⟨.non, H, I, rfl, h⟩
theorem pe_str {x j pos} : PE X (.Constant (.str x) j pos) (tC (.str x)) := fun _ _ _ H _ I h => Calls.Constant_str ⟨.str x, H, I.tok _, ⟨_, rfl⟩, h⟩
def Gl (X : Cx) (x : Str) : Prop := X.env.kindOf x = some .globalImplicit
theorem ld_glob {E : Value → Shared → Prop} {pins : List (Addr × Obj)} {s : Shared} {σ : St} {H : Hp} {x : Str} {u : Value} {pos : Pos} {Q : Value → Shared → Prop} (I : Inv X pins σ H s) (hg : Gl X x) (hm : X.mg x = some u) (h : Q u s)
    (hd : (x == ("__debug__" : Str)) = false := by decide) : wpAny (model X.prog X.w) X.A (eval (.Name x pos) X.env) Q E s :=
  Calls.Name_function_global I.ok.kind hg (Calls.loadGlobal_global (by rw [I.ok.glob]; exact I.mod.glob.keeps I.bk) hm h) hd
theorem ld_blt {E : Value → Shared → Prop} {pins : List (Addr × Obj)} {s : Shared} {σ : St} {H : Hp} {x : Str} {u : Value} {pos : Pos} {Q : Value → Shared → Prop} (I : Inv X pins σ H s) (hg : Gl X x) (hm : X.mg x = none) (hv : bootBuiltins x = some u) (h : Q u s)
    (hn : x ≠ "__name__" := by decide) (hd : (x == ("__debug__" : Str)) = false := by decide) : wpAny (model X.prog X.w) X.A (eval (.Name x pos) X.env) Q E s := by
  obtain ⟨mb, h1, h2⟩ := I.mod.blt
  exact Calls.Name_function_global I.ok.kind hg (Calls.loadGlobal_builtin (by rw [I.ok.glob]; exact I.mod.glob.keeps I.bk) hm (by rw [I.ok.blt]; exact h1.keeps I.bk) ((h2 x hn).trans hv) h) hd
theorem pe_glob {x : Str} {v : V} {u : Value} {pos : Pos} (hg : Gl X x) (hm : X.mg x = some u) (r : RelV v u) (hd : (x == ("__debug__" : Str)) = false := by decide) : PE X (.Name x pos) (tC v) :=
  fun _ _ _ H _ I h => ld_glob I hg hm ⟨v, H, I, r, h⟩ hd
theorem pe_bltn {x : Str} {v : V} {u : Value} {pos : Pos} (hg : Gl X x) (hm : X.mg x = none) (hv : bootBuiltins x = some u) (r : RelV v u) (hn : x ≠ "__name__" := by decide) (hd : (x == ("__debug__" : Str)) = false := by decide) : PE X (.Name x pos) (tC v) :=
  fun _ _ _ H _ I h => ld_blt I hg hm hv ⟨v, H, I, r, h⟩ hn hd
variable {a b : Expr} {ta tb : TE} {pos : Pos}
def tB (t : TE) : TT := fun σ H Q => t σ H fun x H1 => ∃ c, x = .bl c ∧ Q c H1
theorem pt_val {e : Expr} {t : TE} (h : PE X e t) (he : ∀ whole, isTrue e X.env whole = (do let v ← whole; standAt e.pos; holding [v] (truthy v)) := by intro _; rfl) : PT X e (tB t) := by
  intro pins s σ H Q I hw
  refine isTrue_plain (thn (h pins s σ H _ I hw) fun v s1 ⟨x, H1, I1, r1, q1⟩ => ?_) (he _)
  obtain ⟨d, rfl, q⟩ := q1
  cases r1
  exact wpAny_truthy_bool ⟨H1, I1, q⟩
variable {tA tB' : TT} {rest : List Expr}
def tAnd (t u : TT) : TT := fun σ H Q => t σ H fun c H1 => if c = true then u σ H1 Q else Q false H1
def tOr (t u : TT) : TT := fun σ H Q => t σ H fun c H1 => if c = true then Q true H1 else u σ H1 Q
def tNot (t : TT) : TT := fun σ H Q => t σ H fun c H1 => Q (!c) H1
theorem pw_and1 (ha : PT X a tA) : PW X (.BoolOp .And [a] pos) tA := by
  intro wh pins s σ H Q I h
  refine isTrue_and (thn (ha pins s σ H Q I h) fun c s1 e => ?_)
  cases c with
  | true => exact isTrue_and_nil e
  | false => exact e
theorem pw_or1 (ha : PT X a tA) : PW X (.BoolOp .Or [a] pos) tA := by
  intro wh pins s σ H Q I h
  refine isTrue_or (thn (ha pins s σ H Q I h) fun c s1 e => ?_)
  cases c with
  | false => exact isTrue_or_nil e
  | true => exact e
theorem pw_and (ha : PT X a tA) (hb : PW X (.BoolOp .And (b :: rest) pos) tB') : PW X (.BoolOp .And (a :: b :: rest) pos) (tAnd tA tB') := by
  intro wh pins s σ H Q I h
  refine isTrue_and (thn (ha pins s σ H _ I h) fun c s1 ⟨H1, I1, q1⟩ => ?_)
  cases c with
  | true => exact hb wh pins s1 σ H1 Q I1 q1
  | false => exact ⟨H1, I1, q1⟩
theorem pw_or (ha : PT X a tA) (hb : PW X (.BoolOp .Or (b :: rest) pos) tB') : PW X (.BoolOp .Or (a :: b :: rest) pos) (tOr tA tB') := by
  intro wh pins s σ H Q I h
  refine isTrue_or (thn (ha pins s σ H _ I h) fun c s1 ⟨H1, I1, q1⟩ => ?_)
  cases c with
  | true => exact ⟨H1, I1, q1⟩
  | false => exact hb wh pins s1 σ H1 Q I1 q1
theorem pt_not (ha : PT X a tA) : PT X (.UnaryOp .Not a pos) (tNot tA) := by
  intro pins s σ H Q I h
  exact isTrue_not (ha pins s σ H (fun c H1 => Q (!c) H1) I h)
def tAndV (ta tb : TE) : TE := fun σ H Q => ta σ H fun x H1 => ∃ c, x = .bl c ∧ if c = true then tb σ H1 Q else Q (.bl false) H1
def tOrV (ta tb : TE) : TE := fun σ H Q => ta σ H fun x H1 => ∃ c, x = .bl c ∧ if c = true then Q (.bl true) H1 else tb σ H1 Q
def tNotV (ta : TE) : TE := fun σ H Q => ta σ H fun x H1 => ∃ c, x = .bl c ∧ Q (.bl (!c)) H1
theorem pe_one {op} {t : TE} (h : PE X a t) : PE X (.BoolOp op [a] pos) t := fun pins s σ H Q I hw => BoolOp_one (h pins s σ H Q I hw)
theorem pe_and (ha : PE X a ta) (hb : PE X (.BoolOp .And (b :: rest) pos) tb) : PE X (.BoolOp .And (a :: b :: rest) pos) (tAndV ta tb) := by
  intro pins s σ H Q I h
  refine BoolOp_and (thn (ha pins s σ H _ I h) fun v s1 ⟨x, H1, I1, r1, q1⟩ => ?_)
  obtain ⟨c, rfl, q1⟩ := q1
  cases r1
  refine wpAny_truthy_bool ?_
  cases c with
  | true => exact hb pins s1 σ H1 Q I1 q1
  | false => exact ⟨.bl false, H1, I1, rfl, q1⟩
theorem pe_or (ha : PE X a ta) (hb : PE X (.BoolOp .Or (b :: rest) pos) tb) : PE X (.BoolOp .Or (a :: b :: rest) pos) (tOrV ta tb) := by
  intro pins s σ H Q I h
  refine BoolOp_or (thn (ha pins s σ H _ I h) fun v s1 ⟨x, H1, I1, r1, q1⟩ => ?_)
  obtain ⟨c, rfl, q1⟩ := q1
  cases r1
  refine wpAny_truthy_bool ?_
  cases c with
  | false => exact hb pins s1 σ H1 Q I1 q1
  | true => exact ⟨.bl true, H1, I1, rfl, q1⟩
theorem pe_not (ha : PE X a ta) : PE X (.UnaryOp .Not a pos) (tNotV ta) := by
  intro pins s σ H Q I h
  refine UnaryOp_ (thn (ha pins s σ H _ I h) fun v s1 ⟨x, H1, I1, r1, q1⟩ => ?_)
  obtain ⟨c, rfl, q1⟩ := q1
  cases r1
  exact not_of (wpAny_truthy_bool ⟨.bl (!c), H1, I1, rfl, q1⟩)
def tIf (t : TT) (ta tb : TE) : TE := fun σ H Q => t σ H fun c H1 => if c = true then ta σ H1 Q else tb σ H1 Q
theorem pe_ifExp {c : Expr} (hc : PT X c tA) (ha : PE X a ta) (hb : PE X b tb) : PE X (.IfExp c a b pos) (tIf tA ta tb) := by
  intro pins s σ H Q I h
  refine wpAny_IfExp (thn (hc pins s σ H _ I h) fun d s1 ⟨H1, I1, q1⟩ => ?_)
  cases d with
  | true => exact ha pins s1 σ H1 Q I1 q1
  | false => exact hb pins s1 σ H1 Q I1 q1
end
end L2
namespace L2
open PySem PySem.Spec PyProof.Rows
def SqL (K : PySem.W.Frag) (H : Hp) (a : Addr) (xs : List V) : Prop :=
  Rd H a (.lst xs) ∨
    ∃ (o : Obj) (its : Array Value) (n : Nat), K.lookup a = some o ∧ o.cls = .type "list" ∧ o.dict = none ∧ o.data = .seq its n ∧ its.size ≤ sizeLine ∧ Vals xs its.toList
def SqT (K : PySem.W.Frag) (H : Hp) (a : Addr) (xs : List V) : Prop :=
  Rd H a (.tup xs) ∨
    ∃ (o : Obj) (its : Array Value) (n : Nat), K.lookup a = some o ∧ o.cls = .type "tuple" ∧ o.data = .seq its n ∧ its.size ≤ sizeLine ∧ Vals xs its.toList
def absV : Value → Option V
  | .none => some .non
  | .bool b => some (.bl b)
  | .int i _ => some (.int i)
  | .str x _ => some (.str x)
  | .bytes b _ => some (.byt b)
  | .float b _ => some (.flt b)
  | .ref a => some (.ref a)
  | .type n => some (.ty n)
  | _ => none
theorem RelV.abs {x : V} {u : Value} (r : RelV x u) : absV u = some x := by
  cases x with
  | non => cases r; rfl
  | bl _ => cases r; rfl
  | int _ => obtain ⟨t, rfl⟩ := r; rfl
  | str _ => obtain ⟨t, rfl⟩ := r; rfl
  | byt _ => obtain ⟨t, rfl⟩ := r; rfl
  | flt _ => obtain ⟨t, rfl⟩ := r; rfl
  | ref _ => cases r; rfl
  | ty _ => cases r; rfl
theorem RelV.inj {x y : V} {u : Value} (r : RelV x u) (q : RelV y u) : x = y := Option.some.inj (r.abs.symm.trans q.abs)
theorem Vals.inj : ∀ {xs ys : List V} {us : List Value}, Vals xs us → Vals ys us → xs = ys
  | _, _, _, .nil, .nil => rfl
  | _, _, _, .cons r t, .cons r' t' => by rw [r.inj r', Vals.inj t t']
section
variable {X : Cx} {pins : List (Addr × Obj)} {σ : St} {H : Hp} {s : Shared} {a : Addr} {xs ys : List V}
theorem SqL.of {K : PySem.W.Frag} (h : H a = some (.lst xs)) : SqL K H a xs := .inl (.inl h)
theorem SqT.of {K : PySem.W.Frag} (h : H a = some (.tup xs)) : SqT K H a xs := .inl (.inl h)
theorem Inv.list (I : Inv X pins σ H s) (h : SqL X.K H a xs) : ∃ its : List Value, Vals xs its ∧ PlainL s.heap a its.toArray ∧ xs.length ≤ sizeLine := by
  rcases h with h | ⟨o, its, n, hk, hc, hd, hs, hz, r⟩
  · obtain ⟨z, its, n, r, e⟩ := h.ok I.hok
    exact ⟨its, r, ⟨_, n, e, rfl, rfl, rfl⟩, z⟩
  · refine ⟨its.toList, r, ⟨o, n, I.kIn a o hk, hc, hd, by simpa using hs⟩, ?_⟩
    have e := r.length
    simp only [Array.length_toList] at e
    omega
theorem Inv.tuple (I : Inv X pins σ H s) (h : SqT X.K H a xs) : ∃ its : List Value, Vals xs its ∧ IsTup s.heap a its.toArray ∧ xs.length ≤ sizeLine := by
  rcases h with h | ⟨o, its, n, hk, hc, hs, hz, r⟩
  · obtain ⟨z, its, r, p⟩ := h.ok I.hok
    exact ⟨its, r, p, z⟩
  · refine ⟨its.toList, r, ⟨o, I.kIn a o hk, hc, n, by simpa using hs⟩, ?_⟩
    have e := r.length
    simp only [Array.length_toList] at e
    omega
theorem Inv.list_inj (I : Inv X pins σ H s) (h : SqL X.K H a xs) (h' : SqL X.K H a ys) : xs = ys := by
  obtain ⟨its, r, ⟨o, n, e, _, _, d⟩, _⟩ := I.list h
  obtain ⟨its', r', ⟨o', n', e', _, _, d'⟩, _⟩ := I.list h'
  rw [e] at e'; cases e'
  rw [d] at d'
  injection d' with d1 _
  have : its = its' := by simpa using congrArg Array.toList d1
  subst this
  exact r.inj r'
theorem Inv.tuple_inj (I : Inv X pins σ H s) (h : SqT X.K H a xs) (h' : SqT X.K H a ys) : xs = ys := by
  obtain ⟨its, r, ⟨o, e, _, n, d⟩, _⟩ := I.tuple h
  obtain ⟨its', r', ⟨o', e', _, n', d'⟩, _⟩ := I.tuple h'
  rw [e] at e'; cases e'
  rw [d] at d'
  injection d' with d1 _
  have : its = its' := by simpa using congrArg Array.toList d1
  subst this
  exact r.inj r'
end
abbrev Cx.wish (X : Cx) (E : Value → Shared → Prop) : Cx := { X with xe := E }
abbrev Cx.nox (X : Cx) : Cx := X.wish fun _ _ => False
theorem Cx.Ok.wish {X : Cx} (ok : X.Ok) (E : Value → Shared → Prop) : (X.wish E).Ok :=
  ⟨ok.mod, ok.kind, ok.glob, ok.blt, ok.above, ok.inj, ok.has, ok.cab, ok.hd, ok.frames, ok.stk, ok.exf, ok.bs, ok.bsz, ok.noex, ok.exfs, ok.funs, ok.frf⟩
theorem Cx.Ok.unwish {X : Cx} {E : Value → Shared → Prop} (ok : (X.wish E).Ok) : X.Ok :=
  ⟨ok.mod, ok.kind, ok.glob, ok.blt, ok.above, ok.inj, ok.has, ok.cab, ok.hd, ok.frames, ok.stk, ok.exf, ok.bs, ok.bsz, ok.noex, ok.exfs, ok.funs, ok.frf⟩
section
variable {X : Cx} {pins : List (Addr × Obj)} {σ : St} {H : Hp} {s : Shared} {E : Value → Shared → Prop}
theorem Inv.wish (I : Inv X pins σ H s) (E : Value → Shared → Prop) : Inv (X.wish E) pins σ H s := ⟨I.ok.wish E, I.os, I.bare, I.base, I.loc, I.cell, I.free, I.freeC, I.pin, I.hok, I.len⟩
theorem Inv.unwish (I : Inv (X.wish E) pins σ H s) : Inv X pins σ H s := ⟨I.ok.unwish, I.os, I.bare, I.base, I.loc, I.cell, I.free, I.freeC, I.pin, I.hok, I.len⟩
theorem SP.unwish {D : Ends} {f : Flow} {s' : Shared} (h : SP (X.wish E) pins D f s') : SP X pins D f s' := by
  cases f with
  | next => obtain ⟨σ', H', I, q⟩ := h; exact ⟨σ', H', I.unwish, q⟩
  | brk => obtain ⟨σ', H', I, q⟩ := h; exact ⟨σ', H', I.unwish, q⟩
  | cont => obtain ⟨σ', H', I, q⟩ := h; exact ⟨σ', H', I.unwish, q⟩
  | ret u => obtain ⟨v, σ', H', I, r, q⟩ := h; exact ⟨v, σ', H', I.unwish, r, q⟩
theorem PSs.nox {st : List Stmt} {t : TS} (h : PSs X.nox st t) : PSs X st t := fun pins s σ H D I hw =>
  wpAny_mono (h pins s σ H D (I.wish _) hw) (fun _ _ q => q.unwish) fun _ _ z => False.elim z
end
section
variable {X : Cx} {st : Stmt} {rest : List Stmt} {t u : TS} {e : Expr} {te : TE} {pos : Pos}
def tNext : TS := fun D σ H => D.nx σ H
def tSeq (t u : TS) : TS := fun D σ H => t { D with nx := u D } σ H
theorem pss_nil : PSs X [] tNext := fun _ _ σ H _ I h => wpAny_execs_nil ⟨σ, H, I, h⟩
theorem pss_cons (h1 : PS X st t) (h2 : PSs X rest u) : PSs X (st :: rest) (tSeq t u) := by
  intro pins s σ H D I h
  refine wpAny_execs_cons (thn (h1 pins s σ H { D with nx := u D } I h) fun f s1 q => ?_)
  cases f with
  | next =>
    obtain ⟨σ', H', I', q⟩ := q
    exact h2 pins s1 σ' H' D I' q
  | ret v => exact q
  | brk => exact q
  | cont => exact q
theorem pss_one (h1 : PS X st t) : PSs X [st] t := by
  intro pins s σ H D I h
  refine wpAny_execs_cons (thn (h1 pins s σ H D I h) fun f s1 q => ?_)
  cases f with
  | next => exact wpAny_execs_nil q
  | ret v => exact q
  | brk => exact q
  | cont => exact q
theorem Inv.quiet {pins : List (Addr × Obj)} {σ : St} {H : Hp} {s : Shared} (I : Inv X pins σ H s) : interactive X.env = false := by simp [interactive, I.ok.kind]
def tDrop (te : TE) : TS := fun D σ H => te σ H fun _ H1 => D.nx σ H1
theorem ps_expr (he : PE X e te) (hs : swapsWith e none pos.line X.env = pure false := by rfl) : PS X (.Expr e pos) (tDrop te) := by
  intro pins s σ H D I h
  exact wpAny_Expr_any (thn (he pins s σ H _ I h) fun v s1 ⟨x, H1, I1, r1, q1⟩ => ⟨σ, H1, I1, q1⟩) I.quiet hs
def tRet (te : TE) : TS := fun D σ H => te σ H D.rt
theorem ps_ret (he : PE X e te) : PS X (.Return (some e) pos) (tRet te) := by
  intro pins s σ H D I h
  exact wpAny_Return_some (thn (he pins s σ H _ I h) fun v s1 ⟨x, H1, I1, r1, q1⟩ => ⟨x, σ, H1, I1, r1, q1⟩)
def tIfS (c : TT) (t u : TS) : TS := fun D σ H => c σ H fun b H1 => if b = true then t D σ H1 else u D σ H1
theorem ps_if {c : Expr} {a b : List Stmt} {tc : TT} (hc : PT X c tc) (ha : PSs X a t) (hb : PSs X b u) : PS X (.If c a b pos) (tIfS tc t u) := by
  intro pins s σ H D I h
  refine wpAny_If (thn (hc pins s σ H _ I h) fun d s1 ⟨H1, I1, q1⟩ => ?_)
  cases d with
  | true => exact ha pins s1 σ H1 D I1 q1
  | false => exact hb pins s1 σ H1 D I1 q1
def tNever : TS := fun _ _ _ => False
end
abbrev TG := V → St → Hp → (St → Hp → Prop) → Prop
abbrev TGs := List V → St → Hp → (St → Hp → Prop) → Prop
def PG (X : Cx) (target : Expr) (t : TG) : Prop :=
  ∀ (pins : List (Addr × Obj)) (s : Shared) (σ : St) (H : Hp) (v : V) (u : Value) (Q : St → Hp → Prop), Inv X pins σ H s → RelV v u → t v σ H Q →
    wpAny (model X.prog X.w) X.A (assign target X.env u) (fun _ s' => ∃ σ' H', Inv X pins σ' H' s' ∧ Q σ' H') X.xe s
def PGs (X : Cx) (ts : List Expr) (t : TGs) : Prop :=
  ∀ (pins : List (Addr × Obj)) (s : Shared) (σ : St) (H : Hp) (vs : List V) (us : List Value) (Q : St → Hp → Prop), Inv X pins σ H s → Vals vs us → t vs σ H Q →
    wpAny (model X.prog X.w) X.A (assignInOrder ((assignEach ts X.env).map (·.2)) us) (fun _ s' => ∃ σ' H', Inv X pins σ' H' s' ∧ Q σ' H') X.xe s
section
variable {X : Cx} {pos : Pos}
def gName (i : Nat) : TG := fun v σ H Q => Q (σ.set i (some v)) H
theorem pg_name {i : Nat} {x : Str} (hN : X.N.Nodup) (hi : X.N[i]? = some x) (hx : Loc X.env.scope x) (hf : X.fn x = true ∨ X.env.scope.names.lookup x = some .local := by first | exact .inl rfl | exact .inr rfl | assumption) : PG X (.Name x pos) (gName i) := by
  intro pins s σ H v u Q I r h
  exact wpAny_assign_Name (store_ok I hN hi hx r (fun s' I' => ⟨_, H, I', h⟩) hf)
def gNil : TGs := fun vs σ H Q => vs = [] ∧ Q σ H
def gCons (t : TG) (u : TGs) : TGs := fun vs σ H Q => ∃ v r, vs = v :: r ∧ t v σ H fun σ' H' => u r σ' H' Q
theorem pgs_nil : PGs X [] gNil := by
  intro pins s σ H vs us Q I r h
  obtain ⟨e, h⟩ := h
  subst e
  cases r
  exact assignInOrder_nil ⟨σ, H, I, h⟩
theorem pgs_cons {e : Expr} {es : List Expr} {t : TG} {u : TGs} (h1 : PG X e t) (h2 : PGs X es u)
    (hs : (assignEach (e :: es) X.env).map (·.2) = assign e X.env :: (assignEach es X.env).map (·.2) := by rfl) : PGs X (e :: es) (gCons t u) := by
  intro pins s σ H vs us Q I r h
  obtain ⟨v, vr, e1, h⟩ := h
  subst e1
  cases r with
  | cons r rr =>
    rw [hs]
    refine assignInOrder_cons (thn (h1 pins s σ H _ _ _ I r h) fun _ s1 ⟨σ1, H1, I1, q1⟩ => ?_)
    exact h2 pins s1 σ1 H1 _ _ Q I1 rr q1
def gTup (K : PySem.W.Frag) (n : Nat) (t : TGs) : TG := fun v σ H Q => ∃ a xs, v = .ref a ∧ SqT K H a xs ∧ xs.length = n ∧ t xs σ H Q
theorem pg_tup {es : List Expr} {k : Nat} {t : TGs} {n : Nat} (hc : X.calm = true) (h : PGs X es t)
    (hn : (assignEach es X.env).length = n := by rfl) (hst : (assignEach es X.env).findIdx? (·.1) = none := by rfl) : PG X (.Tuple es k pos) (gTup X.K n t) := by
  intro pins s σ H v u Q I r hw
  obtain ⟨a, xs, e1, hq, hl, hw⟩ := hw
  subst e1
  cases r
  obtain ⟨its, rv, ht, hz⟩ := I.tuple hq
  refine assign_Tuple_tuple (I.ok.hd hc) ht (by simp [hn, ← hl, rv.length]) hst fun h' hx => ?_
  have I1 : Inv X pins σ H { s with heap := h' } := I.kept (t' := s.toks) fun b o e => hx b o (Nat.ne_of_lt (Heap.lt_size e)) e
  exact h pins _ σ H xs _ Q I1 (by simpa using rv) hw
def tAsg (te : TE) (g : TG) : TS := fun D σ H => te σ H fun x H1 => g x σ H1 D.nx
theorem ps_set {i : Nat} {x : Str} {e : Expr} {te : TE} {pos' : Pos} (hN : X.N.Nodup) (hi : X.N[i]? = some x) (hx : Loc X.env.scope x) (he : PE X e te) (hs : swapsWith e (some (.Name x pos')) pos.line X.env = pure false := by rfl) (hf : X.fn x = true ∨ X.env.scope.names.lookup x = some .local := by first | exact .inl rfl | exact .inr rfl | assumption) :
    PS X (.Assign [.Name x pos'] e pos) (tAsg te (gName i)) := by
  intro pins s σ H D I h
  refine wpAny_Assign_Name (thn (he pins s σ H _ I h) fun v s1 ⟨y, H1, I1, r1, q1⟩ => ?_) hs
  exact store_ok I1 hN hi hx r1 (fun s2 I2 => ⟨_, H1, I2, q1⟩) hf
end
structure It where
  go : Nat → Hp → Prop
  yld : Nat → Hp → V → Hp → Prop
  stop : Nat → Hp → Prop
def FpOk (X : Cx) (pins : List (Addr × Obj)) (H : Hp) (b : Addr) : Prop :=
  H b = none ∧ b ≠ X.env.locals ∧ b ∉ X.fs ∧ (b ∈ X.ex ∨ X.s₀.heap.objs.size ≤ b) ∧ (∀ x c, X.env.cells.lookup x = some c → c ≠ b) ∧ ∀ p ∈ X.pn ++ pins, p.1 ≠ b
theorem Inv.fpOk {X : Cx} {pins : List (Addr × Obj)} {σ : St} {H H' : Hp} {s : Shared} {b : Addr} (I : Inv X pins σ H s) (hb : s.heap.objs.size ≤ b) (hn : H' b = none) : FpOk X pins H' b := by
  refine ⟨hn, Nat.ne_of_gt (Nat.lt_of_lt_of_le I.lt hb), I.nofs hb, .inr (Nat.le_trans I.sz hb), fun x c e z => ?_, fun p hp z => ?_⟩
  · obtain ⟨v, q⟩ := I.cell x c e
    exact absurd (Nat.lt_of_lt_of_le q.lt (by rw [z]; exact hb)) (Nat.lt_irrefl _)
  · exact absurd (Nat.lt_of_lt_of_le (Heap.lt_size (I.pin p hp).1) (by rw [z]; exact hb)) (Nat.lt_irrefl _)
structure Turn (P : Program) (w : World) (K : PySem.W.Frag) (tg : Expr) (J : It) (fp : List Addr) (it : Addr) (tn : Nat → Heap → Prop) : Prop where
  mem : it ∈ fp
  obj : ∀ i h, tn i h → ∀ b ∈ fp, ∃ o, h.get? b = some o ∧ ∀ v, o.data ≠ .cell v
  keep : ∀ i h h', tn i h → (∀ b ∈ fp, ∀ o, h.get? b = some o → h'.get? b = some o) → tn i h'
  item : ∀ (X : Cx), X.prog = P → X.w = w → X.K = K → X.calm = true → ∀ (i : Nat) (pins : List (Addr × Obj)) (s : Shared) (σ : St) (H : Hp) (E : Value → Shared → Prop), Inv X pins σ H s → (∀ b ∈ fp, FpOk X pins H b) → tn i s.heap → J.go i H →
    wpAny (model P w) X.A (pyNext (.ref it)) (fun r s1 => ∃ u, r = some u ∧
      wpAny (model P w) X.A (letOwnedTupleGo tg (.ref it) u) (fun _ s2 => ∃ x H', Inv X pins σ H' s2 ∧ RelV x u ∧ J.yld i H x H' ∧ tn (i + 1) s2.heap ∧ ∀ b ∈ fp, H' b = none) E s1) E s
  done : ∀ (X : Cx), X.prog = P → X.w = w → X.K = K → X.calm = true → ∀ (i : Nat) (pins : List (Addr × Obj)) (s : Shared) (σ : St) (H : Hp) (E : Value → Shared → Prop), Inv X pins σ H s → (∀ b ∈ fp, FpOk X pins H b) → tn i s.heap → J.stop i H →
    wpAny (model P w) X.A (pyNext (.ref it)) (fun r s1 => r = none ∧ Inv X pins σ H s1) E s
  self : ∀ (A : Around) (i : Nat) (s : Shared) (Q : Value → Shared → Prop) (E : Value → Shared → Prop), tn i s.heap → Q (.ref it) s → wpAny (model P w) A (pyIter (.ref it)) Q E s
abbrev TI := St → Hp → (It → Hp → Prop) → Prop
def PIE (X : Cx) (pins : List (Addr × Obj)) (σ : St) (tg : Expr) (R : It → Hp → Prop) (itv : Value) (s2 : Shared) : Prop :=
  ∃ (it : Addr) (fp : List Addr) (tn : Nat → Heap → Prop) (J : It) (H' : Hp), itv = .ref it ∧ Inv X pins σ H' s2 ∧ Turn X.prog X.w X.K tg J fp it tn ∧ tn 0 s2.heap ∧ (∀ b ∈ fp, FpOk X pins H' b) ∧ R J H'
def PI (X : Cx) (tg iter : Expr) (wi : TI) : Prop :=
  ∀ (pins : List (Addr × Obj)) (s : Shared) (σ : St) (H : Hp) (R : It → Hp → Prop), Inv X pins σ H s → wi σ H R →
    wpAny (model X.prog X.w) X.A (eval iter X.env) (fun v s1 => wpAny (model X.prog X.w) X.A (pyIter v) (PIE X pins σ tg R) X.xe s1) X.xe s
theorem go_of {M : Model} {A : Around} {E : Value → Shared → Prop} {s : Shared} {tg : Expr} {it : Addr} {u : Value} {o : Obj} {n : String} {vs : Array Value} {Q : Unit → Shared → Prop} (ho : s.heap.get? it = some o) (hc : o.cls = .type n) (hd : o.data = .fields vs)
    (hn : ["enumerate", "zip", "dict_itemiterator", "dict_reverseitemiterator", "odict_iterator", "itertools.zip_longest", "itertools.pairwise"].contains n = false) (hQ : Q () s) : wpAny M A (letOwnedTupleGo tg (.ref it) u) Q E s := by
  unfold letOwnedTupleGo
  cases tg <;> first
    | exact wpAny_pure hQ
    | (cases u <;> first
        | exact wpAny_pure hQ
        | (refine wpAny_bind (wpAny_load ho ?_)
           rw [hc, hd]
           show wpAny M A (if (["enumerate", "zip", "dict_itemiterator", "dict_reverseitemiterator", "odict_iterator", "itertools.zip_longest", "itertools.pairwise"].contains n && vs[0]? == some (rawInt _)) = true then _ else _) Q E s
           rw [if_neg (by intro h; rw [hn, Bool.false_and] at h; cases h)]
           exact wpAny_pure hQ))
def Itl (K : PySem.W.Frag) (a : Addr) : It :=
  ⟨fun i H => ∃ xs x, SqL K H a xs ∧ xs[i]? = some x, fun i H x H' => H' = H ∧ ∀ xs, SqL K H a xs → xs[i]? = some x, fun i H => ∃ xs, SqL K H a xs ∧ xs.length ≤ i⟩
def Itr (lo : Int) (n : Nat) : It := ⟨fun i _ => i < n, fun i H x H' => H' = H ∧ x = .int (lo + i), fun i _ => n ≤ i⟩
theorem turn_list {P : Program} {w : World} {K : PySem.W.Frag} {tg : Expr} (a it : Addr) : Turn P w K tg (Itl K a) [it] it (fun i h => h.IsListIter it a i) where
  mem := by simp
  obj := fun i h st b hb => by
    have e : b = it := by simpa using hb
    subst e
    obtain ⟨o, e, c, d⟩ := st
    exact ⟨o, e, fun v z => by rw [d] at z; cases z⟩
  keep := fun i h h' st k => st.at fun o e => k it (by simp) o e
  item := by
    intro X hP hw hK hc i pins s σ H E I hf st hg
    subst hP hw hK
    obtain ⟨xs, x, hq, hx⟩ := hg
    obtain ⟨its, rv, p, hz⟩ := I.list hq
    obtain ⟨u, hu, ru⟩ := rv.get hx
    obtain ⟨f0, f1, f2, f3, f4, f5⟩ := hf it (by simp)
    refine wpAny_pyNext_list_item st p.isList (x := u) (by simpa using hu) fun h' st' sb => ?_
    have I1 : Inv X pins σ H { s with heap := h' } := I.turned (t' := s.toks) (fun b o hb e => (sb.2 b hb).trans e) f0 f1 f3 f4 f5
    obtain ⟨o, e, c, d⟩ := id st'
    exact ⟨u, rfl, go_of (s := { s with heap := h' }) e c d (by decide) ⟨x, H, I1, ru, ⟨rfl, fun ys hy => by rw [I.list_inj hy hq]; exact hx⟩, st', fun b hb => (hf b hb).1⟩⟩
  done := by
    intro X hP hw hK hc i pins s σ H E I hf st hg
    subst hP hw hK
    obtain ⟨xs, hq, hx⟩ := hg
    obtain ⟨its, rv, p, hz⟩ := I.list hq
    obtain ⟨f0, f1, f2, f3, f4, f5⟩ := hf it (by simp)
    have hl := rv.length
    exact wpAny_pyNext_list_end (I.ok.hd hc) st p.isList (by simp; omega) fun h' eb => ⟨rfl, I.turned (t' := s.toks) (fun b o hb e => eb b o hb e) f0 f1 f3 f4 f5⟩
  self := fun _ _ _ _ _ st h => wpAny_pyIter_listiter st h
theorem turn_range {P : Program} {w : World} {K : PySem.W.Frag} {tg : Expr} (it : Addr) (lo : Int) (n : Nat) : Turn P w K tg (Itr lo n) [it] it (fun i h => IsRangeIter h it (lo + (i : Nat) * 1) ((n : Int) - (i : Nat)) 1) where
  mem := by simp
  obj := fun i h st b hb => by
    have e : b = it := by simpa using hb
    subst e
    exact ⟨_, st, fun v z => by
      have z' : Data.fields _ = Data.cell v := z
      cases z'⟩
  keep := fun i h h' st k => k it (by simp) _ st
  item := by
    intro X hP hw hK hc i pins s σ H E I hf st hg
    subst hP hw hK
    obtain ⟨f0, f1, f2, f3, f4, f5⟩ := hf it (by simp)
    have W := Walks.range (prog := X.prog) (w := X.w) (I.ok.hd hc) it lo 1 n
    refine W.item i s _ _ hg st fun v h' tk hv st' kk => ?_
    obtain ⟨t, rfl⟩ := hv
    have I1 : Inv X pins σ H { s with heap := h', toks := tk } := I.turned (fun b o hb e => kk b o (by simpa using hb) e) f0 f1 f3 f4 f5
    refine ⟨_, rfl, go_of (s := { s with heap := h', toks := tk }) (n := "range_iterator") st' rfl rfl (by decide) ⟨.int (lo + i), H, I1, ⟨t, ?_⟩, ⟨rfl, rfl⟩, st', fun b hb => (hf b hb).1⟩⟩
    rw [Int.mul_one]
  done := by
    intro X hP hw hK hc i pins s σ H E I hf st hg
    subst hP hw hK
    obtain ⟨f0, f1, f2, f3, f4, f5⟩ := hf it (by simp)
    exact wpAny_pyNext_range_end (I.ok.hd hc) st (by have : n ≤ i := hg; omega) fun h' eb => ⟨rfl, I.turned (t' := s.toks) (fun b o hb e => eb b o hb e) f0 f1 f3 f4 f5⟩
  self := fun _ _ _ _ _ st h => wpAny_pyIter_rangeiter st h
end L2
namespace L2
open PySem PySem.Spec PyProof.Rows
section
variable {X : Cx} {tg : Expr}
def iList (K : PySem.W.Frag) (tl : TE) : TI := fun σ H R => tl σ H fun x H1 => ∃ a, x = .ref a ∧ (∃ xs, SqL K H1 a xs) ∧ R (Itl K a) H1
theorem pi_list {l : Expr} {tl : TE} (hl : PE X l tl) : PI X tg l (iList X.K tl) := by
  intro pins s σ H R I h
  refine thn (hl pins s σ H _ I h) fun v s1 ⟨x, H1, I1, r1, q1⟩ => ?_
  obtain ⟨a, e, ⟨xs, hq⟩, q⟩ := q1
  subst e
  cases r1
  obtain ⟨its, rv, p, hz⟩ := I1.list hq
  refine wpAny_pyIter_list p.isList ?_
  refine ⟨s1.heap.objs.size, [s1.heap.objs.size], _, _, H1, rfl, I1.kept (t' := s1.toks) fun b o e => Heap.get?_push_of_some _ e, turn_list a _, ⟨_, Heap.get?_push_size _ rfl, rfl, rfl⟩, fun b hb => ?_, q⟩
  have e : b = s1.heap.objs.size := by simpa using hb
  subst e
  exact I1.fpOk (Nat.le_refl _) (I1.hok.fresh (Nat.le_refl _))
theorem range_it {pins : List (Addr × Obj)} {σ : St} {H : Hp} {s : Shared} {R : It → Hp → Prop} {E : Value → Shared → Prop} {lo hi : Int} {t u v : Tok} {tk : Nat} (I : Inv X pins σ H s) (h1 : -(2 ^ 62) ≤ lo) (h2 : lo < 2 ^ 62) (h3 : -(2 ^ 62) ≤ hi) (h4 : hi < 2 ^ 62)
    (q : R (Itr lo (hi - lo).toNat) H) : wpAny (model X.prog X.w) X.A (pyIter (.ref s.heap.objs.size)) (PIE X pins σ tg R) E { s with heap := s.heap.push { cls := .type "range", data := .fields #[.int lo t, .int hi u, .int 1 v] }, toks := tk } := by
  refine wpAny_pyIter_range (IsRange.new ..) (small_one h1 h2 h3 h4) ?_
  have I1 : Inv X pins σ H { s with heap := s.heap.push { cls := .type "range", data := .fields #[.int lo t, .int hi u, .int 1 v] }, toks := tk } := I.kept fun b o e => Heap.get?_push_of_some _ e
  refine ⟨(s.heap.push { cls := .type "range", data := .fields #[.int lo t, .int hi u, .int 1 v] }).objs.size, [(s.heap.push { cls := .type "range", data := .fields #[.int lo t, .int hi u, .int 1 v] }).objs.size], _, _, H, rfl,
    I1.kept (t' := tk) fun b o e => Heap.get?_push_of_some _ e, turn_range _ lo (hi - lo).toNat, ?_, fun b hb => ?_, q⟩
  · have e1 : lo + ((0 : Nat) : Int) * 1 = lo := by simp
    have e2 : (((hi - lo).toNat : Nat) : Int) - ((0 : Nat) : Int) = Builtin.Range.rangeSize lo hi 1 := by rw [rangeSize_one]; split <;> omega
    show IsRangeIter _ _ (lo + ((0 : Nat) : Int) * 1) ((((hi - lo).toNat : Nat) : Int) - ((0 : Nat) : Int)) 1
    rw [e1, e2]
    exact Heap.get?_push_size _ rfl
  · have e : b = (s.heap.push { cls := .type "range", data := .fields #[.int lo t, .int hi u, .int 1 v] }).objs.size := by simpa using hb
    subst e
    exact I1.fpOk (Nat.le_refl _) (I1.hok.fresh (Nat.le_refl _))
def iRng1 (ta : TA) : TI := fun σ H R => ta σ H fun vs H1 => ∃ j : Int, vs = [.int j] ∧ -(2 ^ 62) ≤ j ∧ j < 2 ^ 62 ∧ R (Itr 0 j.toNat) H1
theorem pi_range1 {a : Expr} {ta : TA} {p pos : Pos} (hg : Gl X "range") (hm : X.mg "range" = none) (ha : PA X [a] ta) (hs : starEach [a] X.env = [(false, eval a X.env)] := by rfl) : PI X tg (.Call (.Name "range" p) [a] [] pos) (iRng1 ta) := by
  intro pins s σ H R I h
  refine Call_ (ld_blt I hg hm boot_range (PyProof.Rows.callWith_type1 (thn (ha pos pins s σ H _ I h) fun us s1 ⟨vs, H1, I1, r1, q1⟩ => ?_) hs rfl))
  obtain ⟨j, e, q1, q2, q⟩ := q1
  subst e
  cases r1 with
  | cons r rr =>
    cases rr
    obtain ⟨t, rfl⟩ := r
    exact call_range_1 (range_it I1 (by omega) (by omega) q1 q2 (by simpa using q))
def tFor (wi : TI) (g : TG) (tb : TS) : TS := fun D σ H => wi σ H fun J H1 => ∃ W : Nat → Nat → St → Hp → Prop, (∃ m, W 0 m σ H1) ∧ ∀ i m σ H, W i m σ H →
  (J.stop i H ∧ D.nx σ H) ∨ (J.go i H ∧ ∃ N : St → Hp → Prop, (∀ σ' H', N σ' H' → ∃ m', m' < m ∧ W (i + 1) m' σ' H') ∧ ∀ x H', J.yld i H x H' → g x σ H' fun σ2 H2 => tb { D with nx := N, ct := N, bk := D.nx } σ2 H2)
def pinsAt (fp : List Addr) (h : Heap) : List (Addr × Obj) := fp.filterMap fun b => (h.get? b).map fun o => (b, o)
theorem mem_pinsAt {fp : List Addr} {h : Heap} {b : Addr} {o : Obj} (hb : b ∈ fp) (e : h.get? b = some o) : (b, o) ∈ pinsAt fp h := List.mem_filterMap.mpr ⟨b, hb, by rw [e]; rfl⟩
theorem of_pinsAt {fp : List Addr} {h : Heap} {p : Addr × Obj} (hp : p ∈ pinsAt fp h) : p.1 ∈ fp ∧ h.get? p.1 = some p.2 := by
  obtain ⟨b, hb, e⟩ := List.mem_filterMap.mp hp
  cases q : h.get? b with
  | none => rw [q] at e; cases e
  | some o =>
    rw [q] at e
    have e' : (b, o) = p := Option.some.inj e
    subst e'
    exact ⟨hb, q⟩
theorem Inv.pinned {pins : List (Addr × Obj)} {σ : St} {H : Hp} {s : Shared} {fp : List Addr} (I : Inv X pins σ H s) (hf : ∀ b ∈ fp, FpOk X pins H b) (ho : ∀ b ∈ fp, ∃ o, s.heap.get? b = some o ∧ ∀ v, o.data ≠ .cell v) : Inv X (pins ++ pinsAt fp s.heap) σ H s :=
  I.pins_of fun p hp => (List.mem_append.mp hp).elim (fun z => I.pin p (List.mem_append_right _ z)) fun z => by
    obtain ⟨hb, e⟩ := of_pinsAt z
    obtain ⟨f0, f1, f2, _⟩ := hf p.1 hb
    obtain ⟨o, e', d⟩ := ho p.1 hb
    rw [e] at e'; cases e'
    exact ⟨e, f0, f1, f2, d⟩
theorem Inv.unpinned {pins pl : List (Addr × Obj)} {σ : St} {H : Hp} {s : Shared} (I : Inv X (pins ++ pl) σ H s) : Inv X pins σ H s := I.pins_of fun p hp => I.pin p (List.mem_append_right _ (List.mem_append_left _ hp))
theorem ps_for {iter : Expr} {body : List Stmt} {wi : TI} {g : TG} {tb : TS} {pos : Pos} (hp : PassesOwn (model X.prog X.w) X.A X.env X.xe) (hc : X.calm = true) (hi : PI X tg iter wi) (hg : PG X tg g) (hb : PSs X body tb)
    (hs : ∀ x, foldedSetIterable iter X.env x = pure x := by intro _; rfl) : PS X (.For tg iter body [] pos) (tFor wi g tb) := by
  intro pins s σ H D I h
  refine wpAny_For (thn (hi pins s σ H _ I h) fun v s1 h1 => thn h1 fun itv s2 h2 => ?_) hs
  obtain ⟨it, fp, tn, J, H2, e, I2, T, st2, f2, W, ⟨m0, w0⟩, turn⟩ := h2
  subst e
  have stat : ∀ {H' : Hp}, (∀ b ∈ fp, H' b = none) → ∀ b ∈ fp, FpOk X pins H' b := fun hn b hb => ⟨hn b hb, (f2 b hb).2⟩
  refine codeAny_forLoop_any (fun n s' => ∃ i σ' H', Inv X pins σ' H' s' ∧ tn i s'.heap ∧ (∀ b ∈ fp, H' b = none) ∧ W i n σ' H') ?_ m0 ⟨0, σ, H2, I2, st2, fun b hb => (f2 b hb).1, w0⟩
  rintro n s3 ⟨i, σ3, H3, I3, st3, fr3, w3⟩
  rcases turn i n σ3 H3 w3 with ⟨stop, qn⟩ | ⟨go, N, hN, step⟩
  · refine wpAny_passesOwn hp (thn (T.done X rfl rfl rfl hc i pins s3 σ3 H3 X.xe I3 (stat fr3) st3 stop) fun r s4 ⟨hr, I4⟩ => ?_)
    subst hr
    exact wpAny_execs_nil ⟨σ3, H3, I4, qn⟩
  · refine wpAny_passesOwn hp (thn (T.item X rfl rfl rfl hc i pins s3 σ3 H3 X.xe I3 (stat fr3) st3 go) fun r s4 ⟨u, hr, h4⟩ => ?_)
    subst hr
    refine wpAny_passesOwn hp (thn h4 fun _ s5 ⟨x, H5, I5, r5, y5, st5, fr5⟩ => ?_)
    have I5' := I5.pinned (stat fr5) (T.obj _ _ st5)
    refine wpAny_passesOwn hp (thn (hg _ s5 σ3 H5 x u _ I5' r5 (step x H5 y5)) fun _ s6 ⟨σ6, H6, I6, q6⟩ => ?_)
    refine wpAny_passesOwn hp (thn (hb _ s6 σ6 H6 _ I6 q6) fun f s7 q7 => ?_)
    have again : ∀ {σ7 : St} {H7 : Hp}, Inv X (pins ++ pinsAt fp s5.heap) σ7 H7 s7 → N σ7 H7 → ∃ m, m < n ∧ ∃ i σ' H', Inv X pins σ' H' s7 ∧ tn i s7.heap ∧ (∀ b ∈ fp, H' b = none) ∧ W i m σ' H' := fun {σ7 H7} I7 n7 => by
      obtain ⟨m', hm, w7⟩ := hN σ7 H7 n7
      refine ⟨m', hm, i + 1, σ7, H7, I7.unpinned, T.keep _ _ _ st5 fun b hb o e => (I7.pin (b, o) (List.mem_append_right _ (List.mem_append_right _ (mem_pinsAt hb e)))).1, fun b hb => ?_, w7⟩
      obtain ⟨o, e, d⟩ := T.obj _ _ st5 b hb
      exact (I7.pin (b, o) (List.mem_append_right _ (List.mem_append_right _ (mem_pinsAt hb e)))).2.1
    cases f with
    | next => obtain ⟨σ7, H7, I7, n7⟩ := q7; exact again I7 n7
    | cont => obtain ⟨σ7, H7, I7, n7⟩ := q7; exact again I7 n7
    | brk => obtain ⟨σ7, H7, I7, q7⟩ := q7; exact ⟨σ7, H7, I7.unpinned, q7⟩
    | ret v => obtain ⟨x7, σ7, H7, I7, r7, q7⟩ := q7; exact ⟨x7, σ7, H7, I7.unpinned, r7, q7⟩
end
end L2
namespace L2
open PySem PySem.Spec PyProof.Rows
abbrev R2 := V → V → Hp → VK → Prop
def OpR (X : Cx) (f : Value → Value → Sem Value) (r : R2) : Prop :=
  ∀ (pins : List (Addr × Obj)) (s : Shared) (σ : St) (H : Hp) (x y : V) (v u : Value) (Q : VK), Inv X pins σ H s → RelV x v → RelV y u → r x y H Q →
    wpAny (model X.prog X.w) X.A (f v u) (EP X pins σ Q) X.xe s
def CallR (X : Cx) (f : Value) (r : List V → Hp → VK → Prop) : Prop :=
  ∀ (pins : List (Addr × Obj)) (s : Shared) (σ : St) (H : Hp) (xs : List V) (us : List Value) (Q : VK), Inv X pins σ H s → Vals xs us → r xs H Q →
    wpAny (model X.prog X.w) X.A (call f us) (EP X pins σ Q) X.xe s
def tOp (r : R2) (ta tb : TE) : TE := fun σ H Q => ta σ H fun x H1 => tb σ H1 fun y H2 => r x y H2 Q
def rI (C : Int → Int → Prop) (g : Int → Int → V) : R2 := fun x y H Q => ∃ i j, x = .int i ∧ y = .int j ∧ C i j ∧ Q (g i j) H
def rI0 (g : Int → Int → V) : R2 := fun x y H Q => ∃ i j, x = .int i ∧ y = .int j ∧ Q (g i j) H
section
variable {X : Cx} {a b c : Expr} {ta tb tc : TE} {pos : Pos}
theorem binT (ha : PE X a ta) (hb : PE X b tb) {pins : List (Addr × Obj)} {s : Shared} {σ : St} {H : Hp} {R : V → V → Hp → Prop} (I : Inv X pins σ H s)
    (h : ta σ H fun x H1 => tb σ H1 fun y H2 => R x y H2) {Q : Value → Shared → Prop} {f : Value → Value → Sem Value}
    (hf : ∀ v u s2 x y H2, Inv X pins σ H2 s2 → RelV x v → RelV y u → R x y H2 → wpAny (model X.prog X.w) X.A (f v u) Q X.xe s2) :
    wpAny (model X.prog X.w) X.A (eval a X.env) (fun v s₁ => wpAny (model X.prog X.w) X.A (eval b X.env) (fun u s₂ => wpAny (model X.prog X.w) X.A (f v u) Q X.xe s₂) X.xe s₁) X.xe s := by
  refine thn (ha pins s σ H _ I h) fun v s1 ⟨x, H1, I1, r1, q1⟩ => ?_
  refine thn (hb pins s1 σ H1 _ I1 q1) fun u s2 ⟨y, H2, I2, r2, q2⟩ => ?_
  exact hf v u s2 x y H2 I2 r1 r2 q2
theorem pe_op {op : Operator} {r : R2} (ho : OpR X (binaryOp op) r) (ha : PE X a ta) (hb : PE X b tb) : PE X (.BinOp a op b pos) (tOp r ta tb) := by
  intro pins s σ H Q I h
  exact wpAny_BinOp (binT ha hb I h fun v u s2 x y H2 I2 rx ry q => ho pins s2 σ H2 x y v u Q I2 rx ry q)
theorem opI {f : Value → Value → Sem Value} {C : Int → Int → Prop} {g : Int → Int → Int}
    (rule : ∀ (i j : Int) (t u : Tok) (s : Shared) (Q : Value → Shared → Prop) (E : Value → Shared → Prop), C i j → Q (.int (g i j) s.toks) { s with toks := s.toks + 1 } → wpAny (model X.prog X.w) X.A (f (.int i t) (.int j u)) Q E s) :
    OpR X f (rI C fun i j => .int (g i j)) := by
  intro pins s σ H x y v u Q I rx ry h
  obtain ⟨i, j, rfl, rfl, hc, q⟩ := h
  obtain ⟨t, rfl⟩ := rx
  obtain ⟨t', rfl⟩ := ry
  exact rule i j t t' s _ _ hc ⟨.int (g i j), H, I.tok _, ⟨_, rfl⟩, q⟩
theorem opI0 {f : Value → Value → Sem Value} {g : Int → Int → Int}
    (rule : ∀ (i j : Int) (t u : Tok) (s : Shared) (Q : Value → Shared → Prop) (E : Value → Shared → Prop), Q (.int (g i j) s.toks) { s with toks := s.toks + 1 } → wpAny (model X.prog X.w) X.A (f (.int i t) (.int j u)) Q E s) :
    OpR X f (rI0 fun i j => .int (g i j)) := by
  intro pins s σ H x y v u Q I rx ry h
  obtain ⟨i, j, rfl, rfl, q⟩ := h
  obtain ⟨t, rfl⟩ := rx
  obtain ⟨t', rfl⟩ := ry
  exact rule i j t t' s _ _ ⟨.int (g i j), H, I.tok _, ⟨_, rfl⟩, q⟩
theorem opB0 {f : Value → Value → Sem Value} {g : Int → Int → Bool}
    (rule : ∀ (i j : Int) (t u : Tok) (s : Shared) (Q : Value → Shared → Prop) (E : Value → Shared → Prop), Q (.bool (g i j)) s → wpAny (model X.prog X.w) X.A (f (.int i t) (.int j u)) Q E s) :
    OpR X f (rI0 fun i j => .bl (g i j)) := by
  intro pins s σ H x y v u Q I rx ry h
  obtain ⟨i, j, rfl, rfl, q⟩ := h
  obtain ⟨t, rfl⟩ := rx
  obtain ⟨t', rfl⟩ := ry
  exact rule i j t t' s _ _ ⟨.bl (g i j), H, I, rfl, q⟩
def CDiv (i j : Int) : Prop := 0 < j ∧ j < 1073741824
def CPow (i j : Int) : Prop := 0 ≤ j ∧ j ≤ 1000000 ∧ i.natAbs < 2 ^ 64
def CMul (i j : Int) : Prop := (-(2 ^ 64) < i ∧ i < 2 ^ 64) ∨ (-(2 ^ 64) < j ∧ j < 2 ^ 64)
theorem CMul.ok {i j : Int} (h : CMul i j) : IntMulOk i j := by
  rcases h with ⟨h1, h2⟩ | ⟨h1, h2⟩
  · exact .of_left (intBits_le_64 h1 h2)
  · exact .of_right (intBits_le_64 h1 h2)
theorem op_add : OpR X (binaryOp .Add) (rI0 fun i j => .int (i + j)) := opI0 fun _ _ _ _ _ _ _ q => add_int q
theorem op_mul : OpR X (binaryOp .Mult) (rI CMul fun i j => .int (i * j)) := opI fun _ _ _ _ _ _ _ hc q => mul_int q hc.ok
theorem op_fdiv : OpR X (binaryOp .FloorDiv) (rI CDiv fun i j => .int (i / j)) := opI fun i j _ _ _ _ _ hc q => by
  have h1 : (0 : Int) < j := hc.1
  have h2 : j < 1073741824 := hc.2
  exact floordiv_int (by omega) (by rw [Int.fdiv_eq_ediv_of_nonneg i (by omega)]; exact q) (.inl (PyProof.noPylong_small (by omega)))
theorem op_mod : OpR X (binaryOp .Mod) (rI (fun _ j => 0 < j) fun i j => .int (i % j)) := opI fun i j _ _ _ _ _ hc q => by
  have h1 : (0 : Int) < j := hc
  exact mod_int' (by omega) (by rw [Int.fmod_eq_emod_of_nonneg i (by omega)]; exact q)
theorem op_pow : OpR X (binaryOp .Pow) (rI CPow fun i j => .int (i ^ j.toNat)) := opI fun _ _ _ _ _ _ _ hc q => pow_int_small hc.1 hc.2.1 hc.2.2 q
end
def scal : V → V → Bool
  | .non, .non => true | .non, .int _ => true | .int _, .non => true | .non, .bl _ => true | .bl _, .non => true | .non, .str _ => true | .str _, .non => true
  | .int _, .int _ => true | .bl _, .bl _ => true | .str _, .str _ => true | .byt _, .byt _ => true
  | .int _, .str _ => true | .str _, .int _ => true | .bl _, .str _ => true | .str _, .bl _ => true
  | _, _ => false
def rEq : R2 := fun x y H Q => scal x y = true ∧ Q (.bl (decide (x = y))) H
def rNe : R2 := fun x y H Q => scal x y = true ∧ Q (.bl (!decide (x = y))) H
theorem dec_int {i j : Int} : decide (V.int i = V.int j) = (i == j) := by
  rw [Bool.eq_iff_iff]
  simp
theorem dec_bl {i j : Bool} : decide (V.bl i = V.bl j) = (i == j) := by
  rw [Bool.eq_iff_iff]
  simp
theorem dec_str {i j : Str} : decide (V.str i = V.str j) = (i == j) := by
  rw [Bool.eq_iff_iff]
  simp
theorem dec_byt {i j : Array UInt8} : decide (V.byt i = V.byt j) = (i.toList == j.toList) := by
  rw [Bool.eq_iff_iff]
  cases i
  cases j
  simp
section
variable {X : Cx} {a b c : Expr} {ta tb tc : TE} {pos : Pos}
theorem fin_bl {pins : List (Addr × Obj)} {σ : St} {H : Hp} {s : Shared} {Q : VK} {k k' : Bool} (I : Inv X pins σ H s) (q : Q (.bl k) H) (e : k = k') : EP X pins σ Q (.bool k') s := by
  subst e
  exact ⟨.bl k, H, I, rfl, q⟩
theorem op_eq : OpR X (compareOp .Eq) rEq := by
  intro pins s σ H x y v u Q I rx ry h
  obtain ⟨hs, q⟩ := h
  cases x with
  | non =>
    cases rx
    cases y with
    | non => cases ry; exact PySem.EqNone.eq_none_none (fin_bl I q (by simp))
    | bl j => cases ry; exact PySem.EqNone.eq_none_bool (fin_bl I q (by simp))
    | int j => obtain ⟨t', rfl⟩ := ry; exact PySem.EqNone.eq_none_int (fin_bl I q (by simp))
    | str j => obtain ⟨t', rfl⟩ := ry; exact PySem.EqNone.eq_none_str (fin_bl I q (by simp))
    | _ => exact absurd (show false = true from hs) Bool.false_ne_true
  | bl i =>
    cases rx
    cases y with
    | non => cases ry; exact PySem.EqNone.eq_bool_none (fin_bl I q (by simp))
    | bl j => cases ry; exact eq_bool (fin_bl I q dec_bl)
    | str j => obtain ⟨t', rfl⟩ := ry; exact PySem.EqMixed.eq_bool_str (fin_bl I q (by simp))
    | _ => exact absurd (show false = true from hs) Bool.false_ne_true
  | int i =>
    obtain ⟨t, rfl⟩ := rx
    cases y with
    | non => cases ry; exact PySem.EqNone.eq_int_none (fin_bl I q (by simp))
    | int j => obtain ⟨t', rfl⟩ := ry; exact eq_int (fin_bl I q dec_int)
    | str j => obtain ⟨t', rfl⟩ := ry; exact PySem.EqMixed.eq_int_str (fin_bl I q (by simp))
    | _ => exact absurd (show false = true from hs) Bool.false_ne_true
  | str i =>
    obtain ⟨t, rfl⟩ := rx
    cases y with
    | non => cases ry; exact PySem.EqNone.eq_str_none (fin_bl I q (by simp))
    | bl j => cases ry; exact PySem.EqMixed.eq_str_bool (fin_bl I q (by simp))
    | int j => obtain ⟨t', rfl⟩ := ry; exact PySem.EqMixed.eq_str_int (fin_bl I q (by simp))
    | str j => obtain ⟨t', rfl⟩ := ry; exact eq_str (fin_bl I q dec_str)
    | _ => exact absurd (show false = true from hs) Bool.false_ne_true
  | byt i =>
    obtain ⟨t, rfl⟩ := rx
    cases y with
    | byt j => obtain ⟨t', rfl⟩ := ry; exact PySem.W.eq_bytes (fin_bl I q dec_byt)
    | _ => exact absurd (show false = true from hs) Bool.false_ne_true
  | _ => cases y <;> exact absurd (show false = true from hs) Bool.false_ne_true
theorem op_ne : OpR X (compareOp .NotEq) rNe := by
  intro pins s σ H x y v u Q I rx ry h
  obtain ⟨hs, q⟩ := h
  cases x with
  | non =>
    cases rx
    cases y with
    | non => cases ry; exact PySem.EqNone.ne_none_none (fin_bl I q (by simp))
    | bl j => cases ry; exact PySem.EqNone.ne_none_bool (fin_bl I q (by simp))
    | int j => obtain ⟨t', rfl⟩ := ry; exact PySem.EqNone.ne_none_int (fin_bl I q (by simp))
    | str j => obtain ⟨t', rfl⟩ := ry; exact PySem.EqNone.ne_none_str (fin_bl I q (by simp))
    | _ => exact absurd (show false = true from hs) Bool.false_ne_true
  | bl i =>
    cases rx
    cases y with
    | non => cases ry; exact PySem.EqNone.ne_bool_none (fin_bl I q (by simp))
    | bl j => cases ry; exact ne_bool (fin_bl I q (congrArg not dec_bl))
    | str j => obtain ⟨t', rfl⟩ := ry; exact PySem.EqMixed.ne_bool_str (fin_bl I q (by simp))
    | _ => exact absurd (show false = true from hs) Bool.false_ne_true
  | int i =>
    obtain ⟨t, rfl⟩ := rx
    cases y with
    | non => cases ry; exact PySem.EqNone.ne_int_none (fin_bl I q (by simp))
    | int j => obtain ⟨t', rfl⟩ := ry; exact ne_int (fin_bl I q (congrArg not dec_int))
    | str j => obtain ⟨t', rfl⟩ := ry; exact PySem.EqMixed.ne_int_str (fin_bl I q (by simp))
    | _ => exact absurd (show false = true from hs) Bool.false_ne_true
  | str i =>
    obtain ⟨t, rfl⟩ := rx
    cases y with
    | non => cases ry; exact PySem.EqNone.ne_str_none (fin_bl I q (by simp))
    | bl j => cases ry; exact PySem.EqMixed.ne_str_bool (fin_bl I q (by simp))
    | int j => obtain ⟨t', rfl⟩ := ry; exact PySem.EqMixed.ne_str_int (fin_bl I q (by simp))
    | str j => obtain ⟨t', rfl⟩ := ry; exact ne_str (fin_bl I q (congrArg not dec_str))
    | _ => exact absurd (show false = true from hs) Bool.false_ne_true
  | byt i =>
    obtain ⟨t, rfl⟩ := rx
    cases y with
    | byt j => obtain ⟨t', rfl⟩ := ry; exact PySem.W.ne_bytes (fin_bl I q (congrArg not dec_byt))
    | _ => exact absurd (show false = true from hs) Bool.false_ne_true
  | _ => cases y <;> exact absurd (show false = true from hs) Bool.false_ne_true
theorem op_lt : OpR X (compareOp .Lt) (rI0 fun i j => .bl (decide (i < j))) := opB0 fun _ _ _ _ _ _ _ q => lt_int q
theorem op_gt : OpR X (compareOp .Gt) (rI0 fun i j => .bl (decide (j < i))) := opB0 fun _ _ _ _ _ _ _ q => gt_int q
theorem op_ge : OpR X (compareOp .GtE) (rI0 fun i j => .bl (decide (j ≤ i))) := opB0 fun _ _ _ _ _ _ _ q => ge_int q
theorem op_isN : OpR X (compareOp .Is) (fun x y H Q => y = .non ∧ Q (.bl (decide (x = .non))) H) := by
  intro pins s σ H x y v u Q I rx ry h
  obtain ⟨rfl, q⟩ := h
  cases ry
  refine is_none_gen (fin_bl I q ?_)
  cases x <;> first
    | (cases rx; rfl)
    | (obtain ⟨t, rfl⟩ := rx; rfl)
theorem OpR.or {f : Value → Value → Sem Value} {r r' : R2} (h : OpR X f r) (h' : OpR X f r') : OpR X f (fun x y H Q => r x y H Q ∨ r' x y H Q) := by
  intro pins s σ H x y v u Q I rx ry q
  rcases q with q | q
  · exact h pins s σ H x y v u Q I rx ry q
  · exact h' pins s σ H x y v u Q I rx ry q
theorem nomark (b : Expr) {op : CmpOp} (h : op ≠ .In := by decide) (h2 : op ≠ .NotIn := by decide) : behindInMarks op b = false := by
  have e1 : (op == CmpOp.In) = false := by cases op <;> first | rfl | exact absurd rfl h
  have e2 : (op == CmpOp.NotIn) = false := by cases op <;> first | rfl | exact absurd rfl h2
  cases b <;> simp [behindInMarks, e1, e2]
theorem pe_cmpR {op : CmpOp} {r : R2} (ho : OpR X (compareOp op) r) (ha : PE X a ta) (hb : PE X b tb) (hm : behindInMarks op b = false) : PE X (.Compare a [op] [b] pos) (tOp r ta tb) := by
  intro pins s σ H Q I h
  exact wpAny_Compare1 (binT ha hb I h fun v u s2 x y H2 I2 rx ry q => ho pins s2 σ H2 x y v u Q I2 rx ry q) hm
def tTest (t : TE) : TT := fun σ H Q => t σ H fun x H' => ∃ k, x = .bl k ∧ Q k H'
theorem pt_cmpR {op : CmpOp} {r : R2} (ho : OpR X (compareOp op) r) (ha : PE X a ta) (hb : PE X b tb) (hm : behindInMarks op b = false) : PT X (.Compare a [op] [b] pos) (tTest (tOp r ta tb)) := by
  intro pins s σ H Q I h
  refine wpAny_isTrue_Compare1 (thn (ha pins s σ H _ I h) fun v s1 ⟨x, H1, I1, r1, q1⟩ => thn (hb pins s1 σ H1 _ I1 q1) fun u s2 ⟨y, H2, I2, r2, q2⟩ =>
    thn (ho pins s2 σ H2 x y v u _ I2 r1 r2 q2) fun c s3 ⟨z, H3, I3, r3, k, e, q3⟩ => ?_) hm
  subst e
  cases r3
  exact wpAny_truthy_bool ⟨H3, I3, q3⟩
def tChain (r r' : R2) (ta tb tc : TE) : TE := fun σ H Q => ta σ H fun x H1 => tb σ H1 fun y H2 => r x y H2 fun z H3 => ∃ k, z = .bl k ∧
  (if k = true then tc σ H3 fun w' H4 => r' y w' H4 Q else Q (.bl false) H3)
theorem pe_chain {op op' : CmpOp} {r r' : R2} (ho : OpR X (compareOp op) r) (ho' : OpR X (compareOp op') r') (ha : PE X a ta) (hb : PE X b tb) (hc : PE X c tc)
    (hm : lastMarks [op, op'] [b, c] = false := by with_unfolding_all rfl) : PE X (.Compare a [op, op'] [b, c] pos) (tChain r r' ta tb tc) := by
  intro pins s σ H Q I h
  refine Compare_chain (thn (ha pins s σ H _ I h) fun v s1 ⟨x, H1, I1, r1, q1⟩ => chain_link (thn (hb pins s1 σ H1 _ I1 q1) fun u s2 ⟨y, H2, I2, r2, q2⟩ =>
    thn (ho pins s2 σ H2 x y v u _ I2 r1 r2 q2) fun d s3 ⟨z, H3, I3, r3, k, e, q3⟩ => ?_)) hm
  subst e
  cases r3
  refine wpAny_truthy_bool ?_
  cases k with
  | false => exact ite_ff ⟨.bl false, H3, I3, rfl, q3⟩
  | true => exact ite_tt (chain_last (thn (hc pins s3 σ H3 _ I3 q3) fun w' s4 ⟨z', H4, I4, r4, q4⟩ => ho' pins s4 σ H4 y z' u w' Q I4 r2 r4 q4))
theorem line63 : (sizeLine : Nat) < 2 ^ 63 := by rw [sizeLine_eq]; decide
theorem op_add_str : OpR X (binaryOp .Add) (fun x y H Q => ∃ i j, x = .str i ∧ y = .str j ∧ i.length + j.length ≤ sizeLine ∧ Q (.str (i ++ j)) H) := by
  intro pins s σ H x y v u Q I rx ry h
  obtain ⟨i, j, rfl, rfl, hz, q⟩ := h
  obtain ⟨t, rfl⟩ := rx
  obtain ⟨t', rfl⟩ := ry
  exact add_str (fun t' tk => ⟨.str (i ++ j), H, I.tok _, ⟨_, rfl⟩, q⟩) hz
theorem vals1 {x : V} {us : List Value} (r : Vals [x] us) : ∃ u, us = [u] ∧ RelV x u := by
  cases r with
  | cons r1 r2 => cases r2; exact ⟨_, rfl, r1⟩
theorem vals2 {x y : V} {us : List Value} (r : Vals [x, y] us) : ∃ u w', us = [u, w'] ∧ RelV x u ∧ RelV y w' := by
  cases r with
  | cons r1 r2 =>
    cases r2 with
    | cons r3 r4 => cases r4; exact ⟨_, _, rfl, r1, r3⟩
theorem call_abs : CallR X (.builtin "abs") (fun xs H Q => ∃ i, xs = [.int i] ∧ Q (.int (if i < 0 then -i else i)) H) := by
  intro pins s σ H xs us Q I r h
  obtain ⟨i, rfl, q⟩ := h
  obtain ⟨u, rfl, t, rfl⟩ := vals1 r
  exact call_abs_int fun u tk => ⟨.int (if i < 0 then -i else i), H, I.tok _, ⟨_, rfl⟩, q⟩
def LenV (K : PySem.W.Frag) (x : V) (H : Hp) (n : Nat) : Prop :=
  match x with
  | .str y => y.length ≤ sizeLine ∧ n = y.length
  | .byt y => y.size ≤ sizeLine ∧ n = y.size
  | .ref p => (∃ xs, SqL K H p xs ∧ n = xs.length) ∨ ∃ xs, SqT K H p xs ∧ n = xs.length
  | _ => False
theorem call_len : CallR X (.builtin "len") (fun xs H Q => ∃ x n, xs = [x] ∧ LenV X.K x H n ∧ Q (.int n) H) := by
  intro pins s σ H xs us Q I r h
  obtain ⟨x, n, rfl, e, q⟩ := h
  obtain ⟨u, rfl, rx⟩ := vals1 r
  have hl := line63
  have hs : sizeLine = 16777216 := sizeLine_eq
  cases x with
  | str y =>
    obtain ⟨t, rfl⟩ := rx
    obtain ⟨hy, e'⟩ : y.length ≤ sizeLine ∧ n = y.length := e
    subst e'
    exact len_str (by omega) ⟨.int _, H, I.tok _, ⟨_, rfl⟩, q⟩
  | byt y =>
    obtain ⟨t, rfl⟩ := rx
    obtain ⟨hy, e'⟩ : y.size ≤ sizeLine ∧ n = y.size := e
    subst e'
    exact PySem.W.len_bytes (by omega) ⟨.int _, H, I.tok _, ⟨_, rfl⟩, q⟩
  | ref p =>
    cases rx
    have e' : (∃ xs, SqL X.K H p xs ∧ n = xs.length) ∨ ∃ xs, SqT X.K H p xs ∧ n = xs.length := e
    rcases e' with ⟨xs, hx, e'⟩ | ⟨xs, hx, e'⟩
    · subst e'
      obtain ⟨its, r', pl, hz⟩ := I.list hx
      have hlen := r'.length
      exact Calls.call_len_list pl.isList (by simp only [List.size_toArray]; omega) ⟨.int xs.length, H, I.tok _, ⟨_, by simp only [List.size_toArray]; rw [hlen]⟩, q⟩
    · subst e'
      obtain ⟨its, r', pl, hz⟩ := I.tuple hx
      have hlen := r'.length
      exact len_tuple pl (by simp only [List.size_toArray]; omega) ⟨.int xs.length, H, I.tok _, ⟨_, by simp only [List.size_toArray]; rw [hlen]⟩, q⟩
  | _ => exact (show False from e).elim
end
end L2
namespace L2
open PySem PySem.Spec PyProof.Rows
structure ObjM (h : Heap) (x dx C : Addr) (mA : Str → Option Value) : Prop where
  obj : h.get? x = some (PySem.W.instObj C dx)
  ns : h.Ns1 dx mA
  ne : dx ≠ x
theorem lookIn_ns {h : Heap} {dx : Addr} {mA : Str → Option Value} (n : h.Ns1 dx mA) : ∃ od, h.get? dx = some od ∧ ∀ name, PySem.W.lookIn name od = some (mA name) := by
  obtain ⟨o, es, ep, ho, hd, hk, _, hm⟩ := n
  refine ⟨o, ho, fun name => ?_⟩
  have e := hm name
  unfold nsFind findBy at e
  rw [← Array.find?_toList] at e
  unfold PySem.W.lookIn
  rw [hd]
  dsimp only
  split
  · rename_i y q
    rw [q] at e
    exact congrArg some e
  · rename_i q
    rw [q] at e
    have a : es.toList.any (·.refKey) = false := by
      rw [List.any_eq_false]
      intro y hy
      obtain ⟨z, t, hkey⟩ := hk y (Array.mem_toList_iff.mp hy)
      simp [DictEntry.refKey, hkey]
    have a' : ¬ es.toList.any (·.refKey) = true := by rw [a]; exact Bool.false_ne_true
    rw [if_neg a']
    exact congrArg some e
theorem ObjM.look {h : Heap} {x dx C : Addr} {mA : Str → Option Value} (I : ObjM h x dx C mA) : ∃ od, PySem.W.InstAt h x (PySem.W.instObj C dx) C (some od) ∧ ∀ name, PySem.W.lookIn name od = some (mA name) :=
  let ⟨od, ho, hl⟩ := lookIn_ns I.ns
  ⟨od, ⟨I.obj, rfl, rfl, ho⟩, hl⟩
section
variable {P : Program} {w : World} {H H' : Hp} {h h' : Heap} {a C dx : Addr} {fs fs' : List (Str × V)}
theorem ins_get (hok : HOk P w H h) (e : H a = some (.ins C dx fs)) : ∃ mA, ObjM h a dx C mA ∧ (∀ f, RelO (fs.lookup f) (mA f)) ∧ PySem.Within mA (fs.map (·.1)) ∧ fs.length ≤ 1000 ∧ H dx = some (.own a) := by
  obtain ⟨d, z, ne, ob, mA, n, r, q⟩ := (show ObjOk P w H h a (.ins C dx fs) from hok a _ e)
  exact ⟨mA, ⟨ob, n, ne⟩, r, q, z, d⟩
end
structure Cls (K : PySem.W.Frag) (C : Addr) : Prop where
  pg : PySem.W.plainGet K C Str.empty = true
  hd : PySem.W.hasDictIn K C = true
  po : PySem.W.plainOver K C = true
  sa : PySem.W.findIn K (.ref C) "__setattr__" = some (some (.builtin "object.__setattr__"))
theorem Cls.get {K : PySem.W.Frag} {C : Addr} (c : Cls K C) (f : Str) : PySem.W.plainGet K C f = true := c.pg
section
variable {X : Cx} {pins : List (Addr × Obj)} {σ : St} {H : Hp} {s : Shared} {A : Around} {E : Value → Shared → Prop} {Q : Value → Shared → Prop} {c : Value} {b : Bool}
inductive TyOf (K : PySem.W.Frag) (H : Hp) : V → Value → Prop where
  | non : TyOf K H .non (.type "NoneType")
  | bl (x : Bool) : TyOf K H (.bl x) (.type "bool")
  | int (i : Int) : TyOf K H (.int i) (.type "int")
  | str (x : Str) : TyOf K H (.str x) (.type "str")
  | flt (x : UInt64) : TyOf K H (.flt x) (.type "float")
  | lst {a : Addr} {xs : List V} (e : H a = some (.lst xs)) : TyOf K H (.ref a) (.type "list")
  | frz {a : Addr} {o : Obj} {xs : List V} (e : H a = some (.frz o (.lst xs))) : TyOf K H (.ref a) (.type "list")
  | tup {a : Addr} {xs : List V} (e : SqT K H a xs) : TyOf K H (.ref a) (.type "tuple")
  | dK {a : Addr} {kvs : List (Key × V)} (e : H a = some (.dK kvs)) : TyOf K H (.ref a) (.type "dict")
  | dT {a : Addr} {kvs : List (List Key × V)} (e : H a = some (.dT kvs)) : TyOf K H (.ref a) (.type "dict")
  | ins {a C dx : Addr} {fs : List (Str × V)} (e : H a = some (.ins C dx fs)) (cl : Cls K C) (ha : PySem.W.findIn K (.ref C) "__class__" = some (some (.builtin "object.__class__")))
      (hn : PySem.W.specialIn K (.builtin "object.__class__") "__get__" = some (some (.builtin "getset_descriptor.__get__"))) (htk : PySem.W.takesIn K (.builtin "object.__class__") = some true)
      (hm : PySem.W.mroIn K C (.type "object") = some true) : TyOf K H (.ref a) (.ref C)
theorem isinst_ok {x : V} {u t : Value} (I : Inv X pins σ H s) (rx : RelV x u) (ty : TyOf X.K H x t) (e : PySem.W.kitOne X.K t c = some b) (h : ∀ tk, Q (.bool b) { s with toks := tk }) :
    wpAny (model X.prog X.w) A (call (.builtin "isinstance") [u, c]) Q E s := by
  cases ty with
  | non => cases (show u = Value.none from rx); exact PySem.W.kia_one PySem.W.kitx_none I.kIn True.intro e (fun z => nomatch z) h
  | bl y => cases (show u = Value.bool y from rx); exact PySem.W.kia_one PySem.W.kitx_bool I.kIn True.intro e (fun z => nomatch z) h
  | int i => obtain ⟨t, q⟩ := (show ∃ t, u = Value.int i t from rx); cases q; exact PySem.W.kia_one PySem.W.kitx_int I.kIn True.intro e (fun z => nomatch z) h
  | str y => obtain ⟨t, q⟩ := (show ∃ t, u = Value.str y t from rx); cases q; exact PySem.W.kia_one PySem.W.kitx_str I.kIn True.intro e (fun z => nomatch z) h
  | flt y => obtain ⟨t, q⟩ := (show ∃ t, u = Value.float y t from rx); cases q; exact PySem.W.kia_one PySem.W.kitx_float I.kIn True.intro e (fun z => nomatch z) h
  | @lst a xs ea =>
    cases (show u = Value.ref a from rx)
    obtain ⟨_, _, n, _, h1⟩ := (show ObjOk X.prog X.w H s.heap a (.lst xs) from I.hok a _ ea)
    exact PySem.W.kia_one PySem.W.kitx_list I.kIn ⟨_, h1, rfl⟩ e (fun z => nomatch z) h
  | @frz a ob xs ea =>
    cases (show u = Value.ref a from rx)
    obtain ⟨_, _, _, n, _, h1⟩ := (show ObjOk X.prog X.w H s.heap a (.frz ob (.lst xs)) from I.hok a _ ea)
    exact PySem.W.kia_one PySem.W.kitx_list I.kIn ⟨_, h1, rfl⟩ e (fun z => nomatch z) h
  | @tup a xs ea =>
    cases (show u = Value.ref a from rx)
    obtain ⟨_, _, p, _⟩ := I.tuple ea
    obtain ⟨o, h1, h2, _⟩ := p
    exact PySem.W.kia_one PySem.W.kitx_tuple I.kIn ⟨o, h1, h2⟩ e (fun z => nomatch z) h
  | @dK a kvs ea =>
    cases (show u = Value.ref a from rx)
    obtain ⟨_, _, vs, _, p⟩ := (show ObjOk X.prog X.w H s.heap a (.dK kvs) from I.hok a _ ea)
    obtain ⟨o, es, ep, h1, h2, _⟩ := p
    exact PySem.W.kia_one PySem.W.kitx_dict I.kIn ⟨o, h1, h2.1⟩ e (fun z => nomatch z) h
  | @dT a kvs ea =>
    cases (show u = Value.ref a from rx)
    obtain ⟨_, _, xs, _, o, es, ep, h1, h2, _⟩ := (show ObjOk X.prog X.w H s.heap a (.dT kvs) from I.hok a _ ea)
    exact PySem.W.kia_one PySem.W.kitx_dict I.kIn ⟨o, h1, h2.1⟩ e (fun z => nomatch z) h
  | @ins a C dx fs ea cl ha hn htk hm =>
    cases (show u = Value.ref a from rx)
    obtain ⟨mA, O, _⟩ := ins_get I.hok ea
    obtain ⟨od, J, _⟩ := O.look
    exact PySem.W.kia_one (PySem.W.kitx_own (cl.get _) cl.hd ha hn htk hm) I.kIn J e (fun z => nomatch z) h
end
end L2
namespace L2
open PySem PySem.Spec PyProof.Rows
structure Room (k : Nat) (A : Around) : Prop where
  hd : A.handled = none
  dp : A.depth + 3 * k + 5 < recursionLimit
  un : A.units + 16 * k + 200 < cLine
theorem Room.mono {j k : Nat} {A : Around} (r : Room k A) (h : j ≤ k) : Room j A := ⟨r.hd, by have := r.dp; omega, by have := r.un; omega⟩
theorem Room.deeper {k : Nat} {A : Around} (r : Room (k + 1) A) (env : Env) : Room k (A.deeper env) :=
  ⟨r.hd, by have := r.dp; show A.depth + 1 + 3 * k + 5 < _; omega, by have := r.un; show A.units + 3 + 16 * k + 200 < _; omega⟩
theorem Room.depth {k : Nat} {A : Around} (r : Room k A) : A.depth < recursionLimit := by have := r.dp; omega
def tNil : TA := fun _ H Q => Q [] H
def tCons (ta : TE) (tr : TA) : TA := fun σ H Q => ta σ H fun x H1 => tr σ H1 fun xs H2 => Q (x :: xs) H2
section
variable {X : Cx} {e : Expr} {es : List Expr} {te : TE} {t : TA} {pos : Pos}
theorem pa_nil : PA X [] tNil := fun _ _ _ _ H Q I h => Calls.spliced_nil ⟨[], H, I, .nil, h⟩
theorem pa_cons (ha : PE X e te) (hr : PA X es t) (hs : starEach (e :: es) X.env = (false, eval e X.env) :: starEach es X.env := by rfl) : PA X (e :: es) (tCons te t) := by
  intro pos pins s σ H Q I h
  rw [hs]
  show wpAny _ _ (spliced ((false, eval e X.env) :: backTo pos (starEach es X.env))) _ _ s
  refine Calls.spliced_cons (thn (ha pins s σ H _ I h) fun u s1 ⟨x, H1, I1, r1, q1⟩ => ?_)
  exact thn (hr pos pins s1 σ H1 _ I1 q1) fun us s2 ⟨xs, H2, I2, r2, q2⟩ => ⟨x :: xs, H2, I2, .cons r1 r2, q2⟩
def tTup (t : TA) : TE := fun σ H Q => t σ H fun xs H1 => xs.length ≤ sizeLine ∧ ∀ p, H1 p = none → Q (.ref p) (upd H1 p (.tup xs))
def tLst (t : TA) : TE := fun σ H Q => t σ H fun xs H1 => xs.length ≤ sizeLine ∧ ∀ p, H1 p = none → Q (.ref p) (upd H1 p (.lst xs))
theorem pe_tup {x1} (h : PA X es t) : PE X (.Tuple es x1 pos) (tTup t) := by
  intro pins s σ H Q I hq
  refine wpAny_Tuple_spliced (thn (h pos pins s σ H _ I hq) fun us s1 ⟨xs, H1, I1, r, z, q⟩ => ⟨by rw [← r.length]; exact z, ?_⟩)
  have hf : H1 s1.heap.objs.size = none := I1.hok.fresh (Nat.le_refl _)
  refine ⟨.ref s1.heap.objs.size, upd H1 s1.heap.objs.size (.tup xs), I1.laid (t' := s1.toks) (fun b u e => Heap.get?_push_of_some _ e) (Nat.le_refl _) ?_, rfl, q _ hf⟩
  exact ⟨z, us, r, ⟨_, Heap.get?_push_size _ rfl, rfl, _, rfl⟩⟩
theorem pe_lst (h : PA X es t) : PE X (.List es pos) (tLst t) := by
  intro pins s σ H Q I hq
  refine wpAny_List_spliced (thn (h pos pins s σ H _ I hq) fun us s1 ⟨xs, H1, I1, r, z, q⟩ => ⟨by rw [← r.length]; exact z, ?_⟩)
  have hf : H1 s1.heap.objs.size = none := I1.hok.fresh (Nat.le_refl _)
  refine ⟨.ref s1.heap.objs.size, upd H1 s1.heap.objs.size (.lst xs), I1.laid (t' := s1.toks) (fun b u e => Heap.get?_push_of_some _ e) (Nat.le_refl _) ?_, rfl, q _ hf⟩
  exact ⟨z, us, 0, r, Heap.get?_push_size _ rfl⟩
end
abbrev Sp := List V → Hp → VK → XK → Prop
abbrev CXT := List Env → Hp → Shared → XK → Value → Shared → Prop
structure Env0 (P : Program) (w : World) (K : PySem.W.Frag) (mg : Str → Option Value) (base : Heap) (A : Around) (outer : List Env) (s : Shared) (H : Hp) : Prop where
  frames : A.frames = some outer
  mod : Mod K mg base
  bs : ∀ b o, base.get? b = some o → s.heap.get? b = some o ∧ H b = none
  bsz : base.objs.size ≤ s.heap.objs.size
  funs : s.heap.FunFrames base outer
  frf : ∀ b ∈ frs outer, H b = none
  hok : HOk P w H s.heap
  bare : AllBare s.gens
def CE (outer : List Env) (P : Program) (w : World) (H : Hp) (s : Shared) (Q : VK) (u : Value) (s' : Shared) : Prop :=
  ∃ v H', s'.os = s.os ∧ AllBare s'.gens ∧ Un (frs outer) [] H H' s.heap s'.heap ∧ HOk P w H' s'.heap ∧ RelV v u ∧ Q v H'
def CR (CX : CXT) (outer : List Env) (P : Program) (w : World) (H : Hp) (s : Shared) (Q : VK) (E : XK) (r : Result) (s' : Shared) : Prop :=
  match r with
  | .ok (.ret u) => CE outer P w H s Q u s'
  | .ok _ => False
  | .error e => CX outer H s E e s'
structure FnOk (P : Program) (w : World) (K : PySem.W.Frag) (mg : Str → Option Value) (base : Heap) (CX : CXT) (k : Nat) (f : Addr) (fd : FuncData) (ps : List Str) (sp : Sp) : Prop where
  len : ∀ vs H Q E, sp vs H Q E → vs.length = ps.length
  run : ∀ (A : Around) (outer : List Env) (s : Shared) (H : Hp) (args : Args) (us : List Value) (vs : List V) (Q : VK) (E : XK), Room k A → Env0 P w K mg base A outer s H → BindsTo s fd args (ps.zip us) → Vals vs us → sp vs H Q E →
    codeAny (model P w) A (.call (.ref f) args) (CR CX outer P w H s Q E) s
theorem FnOk.imp {P : Program} {w : World} {K : PySem.W.Frag} {mg : Str → Option Value} {base : Heap} {CX : CXT} {k : Nat} {f : Addr} {fd : FuncData} {ps : List Str} {sp sp' : Sp} (F : FnOk P w K mg base CX k f fd ps sp)
    (h : ∀ vs H Q E, sp' vs H Q E → sp vs H Q E) : FnOk P w K mg base CX k f fd ps sp' :=
  ⟨fun vs H Q E q => F.len vs H Q E (h _ _ _ _ q), fun A outer s H args us vs Q E hr he hb hv hs => F.run A outer s H args us vs Q E hr he hb hv (h _ _ _ _ hs)⟩
section
variable {X : Cx} {pins : List (Addr × Obj)} {σ : St} {H : Hp} {s s' : Shared}
theorem Inv.env0 (I : Inv X pins σ H s) : Env0 X.prog X.w X.K X.mg X.base X.A X.stack s H :=
  ⟨I.ok.frames, I.ok.mod, I.bs, Nat.le_trans I.ok.bsz I.sz, I.stack, I.stkFree, I.hok, I.bare⟩
theorem Inv.after {Q : VK} {u : Value} (I : Inv X pins σ H s) (h : CE X.stack X.prog X.w H s Q u s') : EP X pins σ Q u s' := by
  obtain ⟨v, H', os, bare, un, hok, r, q⟩ := h
  obtain ⟨hh, g, d, t, os'⟩ := s'
  obtain rfl : os' = s.os := os
  exact ⟨v, H', I.call (h' := hh) (g' := g) (d' := d) (t' := t) (ch := []) un hok bare (fun b z => absurd z (by simp)), r, q⟩
end
def tCall (sp : Sp) (dvs : List V) (E : XK) (t : TA) : TE := fun σ H Q => t σ H fun vs H1 => sp (vs ++ dvs) H1 Q E
def Binds (K : PySem.W.Frag) (fd : FuncData) (ps : List Str) (ds : List Value) : Prop :=
  ∀ (s : Shared) (us : List Value), K.In s.heap → (us ++ ds).length = ps.length → BindsTo s fd ⟨us, []⟩ (ps.zip (us ++ ds))
theorem Binds.all {K : PySem.W.Frag} {fd : FuncData} {ps : List Str} (h : ∀ us : List Value, us.length = ps.length → bindArgs fd ⟨us, []⟩ = pure (ps.zip us)) : Binds K fd ps [] := fun s us _ hl => by
  rw [List.append_nil] at hl ⊢
  exact .of_eq (h us hl)
def Passes (CX : CXT) (X : Cx) (E : XK) : Prop := ∀ (pins : List (Addr × Obj)) (σ : St) (H : Hp) (s : Shared) (e : Value) (s' : Shared), Inv X pins σ H s → CX X.stack H s E e s' → X.xe e s'
section
variable {X : Cx} {CX : CXT} {k : Nat} {f C : Addr} {fd : FuncData} {ps : List Str} {sp : Sp} {dvs : List V} {ds : List Value} {E : XK} {x m : Str} {p pos apos : Pos} {e o : Expr} {es : List Expr} {ta : TE} {t : TA}
theorem run_fn {pins : List (Addr × Obj)} {σ : St} {H : Hp} {s : Shared} {Q : VK} {us : List Value} {vs : List V} (F : FnOk X.prog X.w X.K X.mg X.base CX k f fd ps sp) (hr : Room k X.A) (hb : Binds X.K fd ps ds) (hd : Vals dvs ds) (hx : Passes CX X E)
    (I : Inv X pins σ H s) (r : Vals vs us) (h : sp (vs ++ dvs) H Q E) : wpAny (model X.prog X.w) X.A (call (.ref f) us) (EP X pins σ Q) X.xe s := by
  have r2 : Vals (vs ++ dvs) (us ++ ds) := r.append hd
  have hl : (us ++ ds).length = ps.length := by rw [← r2.length]; exact F.len _ _ _ _ h
  refine wpAny_call (codeAny_mono (F.run X.A X.stack s H ⟨us, []⟩ (us ++ ds) (vs ++ dvs) Q E hr I.env0 (hb s us I.kIn hl) r2 h) fun r s' hq => ?_)
  cases r with
  | error e => exact hx pins σ H s e s' I hq
  | ok fl =>
    cases fl with
    | ret u => exact I.after hq
    | next => exact False.elim hq
    | brk => exact False.elim hq
    | cont => exact False.elim hq
theorem pe_call (F : FnOk X.prog X.w X.K X.mg X.base CX k f fd ps sp) (hr : Room k X.A) (hg : Gl X x) (hm : X.mg x = some (.ref f)) (hk : PySem.W.keepIn X.K (.ref f) = true) (hb : Binds X.K fd ps ds) (hd : Vals dvs ds) (hx : Passes CX X E)
    (ha : PA X (e :: es) t) (hdb : (x == ("__debug__" : Str)) = false := by decide) (he : starEach (e :: es) X.env = (false, eval e X.env) :: starEach es X.env := by rfl) (hpl : (backTo pos (starEach es X.env)).any (·.1) = false := by rfl) :
    PE X (.Call (.Name x p) (e :: es) [] pos) (tCall sp dvs E t) := by
  intro pins s σ H Q I h
  refine wpAny_Call_Name_kw (ld_glob I hg hm ?_ hdb)
  refine PySem.W.callWith_K (h₀ := X.base) I.ok.mod.kin hk (thn (ha pos pins s σ H _ I h) fun us s1 ⟨vs, H1, I1, r, q⟩ => ⟨I1.kIn, ?_⟩) he hpl
  exact run_fn F hr hb hd hx I1 r q
end
structure FnScope (N P : List Str) (sc : Scope) : Prop where
  kind : sc.kind = .function
  co : sc.isCoroutine = false
  gen : sc.isGenerator = false
  nd : N.Nodup
  pre : N.take P.length = P
  par : ∀ x ∈ P, sc.names.lookup x = some .local ∨ sc.names.lookup x = some .cell
  nofree : ∀ y ∈ sc.names, y.2 ≠ .free
theorem bindL_out {kindOf : Str → Option NameKind} {x : Str} : ∀ {binds : List (Str × Value)} {m : Str → Option Value}, (∀ v, (x, v) ∉ binds) → bindL kindOf binds m x = m x
  | [], _, _ => rfl
  | (n, v) :: r, m, h => by
    unfold bindL
    rw [bindL_out fun w hw => h w (List.mem_cons_of_mem _ hw)]
    split
    · have : x ≠ n := by rintro rfl; exact h v List.mem_cons_self
      simp [this]
    · rfl
theorem bindC_out {kindOf : Str → Option NameKind} {x : Str} : ∀ {binds : List (Str × Value)} {m : Str → Option Value}, (∀ v, (x, v) ∉ binds) → bindC kindOf binds m x = m x
  | [], _, _ => rfl
  | (n, v) :: r, m, h => by
    unfold bindC
    rw [bindC_out fun w hw => h w (List.mem_cons_of_mem _ hw)]
    split
    · rfl
    · have : x ≠ n := by rintro rfl; exact h v List.mem_cons_self
      simp [this]
theorem bindL_get {kindOf : Str → Option NameKind} {x : Str} {v : Value} : ∀ {P : List Str} {vs : List Value} {i : Nat} {m : Str → Option Value}, P.Nodup → P[i]? = some x → vs[i]? = some v → kindOf x = some .local →
    bindL kindOf (P.zip vs) m x = some v
  | [], _, _, _, _, h, _, _ => by simp at h
  | _ :: _, [], _, _, _, _, h, _ => by simp at h
  | p :: P, w :: vs, 0, m, nd, h1, h2, hk => by
    simp at h1 h2; subst h1; subst h2
    show bindL kindOf ((p, w) :: P.zip vs) m p = _
    unfold bindL
    rw [bindL_out fun v hv => (List.nodup_cons.mp nd).1 (List.of_mem_zip hv).1, if_pos hk]
    simp
  | p :: P, w :: vs, i + 1, m, nd, h1, h2, hk => by
    show bindL kindOf ((p, w) :: P.zip vs) m x = _
    unfold bindL
    exact bindL_get (i := i) (List.nodup_cons.mp nd).2 (by simpa using h1) (by simpa using h2) hk
theorem bindC_get {kindOf : Str → Option NameKind} {x : Str} {v : Value} : ∀ {P : List Str} {vs : List Value} {i : Nat} {m : Str → Option Value}, P.Nodup → P[i]? = some x → vs[i]? = some v → kindOf x ≠ some .local →
    bindC kindOf (P.zip vs) m x = some v
  | [], _, _, _, _, h, _, _ => by simp at h
  | _ :: _, [], _, _, _, _, h, _ => by simp at h
  | p :: P, w :: vs, 0, m, nd, h1, h2, hk => by
    simp at h1 h2; subst h1; subst h2
    show bindC kindOf ((p, w) :: P.zip vs) m p = _
    unfold bindC
    rw [bindC_out fun v hv => (List.nodup_cons.mp nd).1 (List.of_mem_zip hv).1, if_neg hk]
    simp
  | p :: P, w :: vs, i + 1, m, nd, h1, h2, hk => by
    show bindC kindOf ((p, w) :: P.zip vs) m x = _
    unfold bindC
    exact bindC_get (i := i) (List.nodup_cons.mp nd).2 (by simpa using h1) (by simpa using h2) hk
def start (N : List Str) (vs : List V) : St := vs.map some ++ List.replicate (N.length - vs.length) none
def cxOf (CX : CXT) (P : Program) (w : World) (K : PySem.W.Frag) (mg : Str → Option Value) (base : Heap) (N : List Str) (qual : Str) (scope : Scope) (f : Addr) (cd : Value) (A : Around) (outer : List Env) (s : Shared) (H : Hp) (E : XK) : Cx where
  prog := P
  w := w
  K := K
  mg := mg
  base := base
  A := A.deeper (envOfC qual scope s.heap.objs.size f cd)
  N := N
  s₀ := s
  H₀ := H
  env := envOfC qual scope s.heap.objs.size f cd
  outer := outer
  stack := envOfC qual scope s.heap.objs.size f cd :: outer
  ex := []
  calm := true
  fn := fun _ => true
  pn := []
  xe := fun e s' => wpAny (model P w) (A.deeper (envOfC qual scope s.heap.objs.size f cd)) (leaving (envOfC qual scope s.heap.objs.size f cd) e) (fun _ s'' => CX outer H s E e s'') (fun e' s'' => CX outer H s E e' s'') s'
theorem cell_has {sc : Scope} {n : Nat} {x : Str} (h : sc.names.lookup x = some .cell) : ∃ c, (cellsFrom n sc.names []).lookup x = some c := by
  have q := PySem.W.cellsFrom_some sc.names n [] (.inl h)
  exact Option.isSome_iff_exists.mp q
theorem inv_start {CX : CXT} {P : Program} {w : World} {K : PySem.W.Frag} {mg : Str → Option Value} {base : Heap} {N ps : List Str} {qual : Str} {scope : Scope} {f : Addr} {cd : Value} {A : Around} {outer : List Env} {s s1 : Shared} {H : Hp} {E : XK} {us : List Value} {vs : List V}
    (S : FnScope N ps scope) (hd : A.handled = none) (e0 : Env0 P w K mg base A outer s H) (hl : vs.length = ps.length) (r : Vals vs us)
    (x : InCallC s s.heap.objs.size (bindL (envOfC qual scope s.heap.objs.size f cd).kindOf (ps.zip us) fun _ => none) (cellsFrom (s.heap.objs.size + 1) scope.names []) (bindC (envOfC qual scope s.heap.objs.size f cd).kindOf (ps.zip us) fun _ => none) s1) :
    Inv (cxOf CX P w K mg base N qual scope f cd A outer s H E) [] (start N vs) H s1 := by
  have hpl : ps.length ≤ N.length := by have := congrArg List.length S.pre; rw [List.length_take] at this; omega
  obtain ⟨h1, tk, rfl, hk⟩ := x.done
  have noA : ∀ b : Addr, b ∉ (cxOf CX P w K mg base N qual scope f cd A outer s H E).ex := fun b z => absurd (show b ∈ ([] : List Addr) from z) (by simp)
  refine ⟨⟨e0.mod, S.kind, rfl, rfl, Nat.le_refl _, fun y z c h1 h2 => ?_, fun y hy => ?_, fun y c _ h => ?_, fun _ => hd, Around.frames_deeper e0.frames, .inr ⟨rfl, rfl⟩, fun b z => absurd z (noA b), e0.bs, e0.bsz, fun b _ _ => noA b, fun b z => absurd z (noA b), e0.funs, e0.frf⟩,
    rfl, e0.bare, Un.kept hk, ⟨_, x.toInCall.ns, fun i y v h1 h2 h3 => ?_⟩, fun y c h => ⟨_, x.cell y c h⟩, e0.hok.fresh (Nat.le_refl _), fun y c h => ?_, fun p hp => absurd (show p ∈ ([] : List (Addr × Obj)) from hp) (by simp), e0.hok.kept hk, ?_⟩
  · exact name_of_addr x.apart (PySem.mem_of_lookup h1) (PySem.mem_of_lookup h2)
  · have hy : scope.names.lookup y = some .cell ∨ scope.names.lookup y = some .free := hy
    rcases hy with hy | hy
    · exact cell_has hy
    · exact absurd rfl (S.nofree _ (PySem.mem_of_lookup hy))
  · exact Nat.le_of_lt (x.above y c (PySem.mem_of_lookup h))
  · have hi : i < vs.length := by
      unfold start at h2
      by_cases hi : i < vs.length
      · exact hi
      · rw [List.getElem?_append_right (by simpa using hi)] at h2
        rw [List.getElem?_replicate] at h2
        split at h2 <;> cases h2
    have ha : vs[i]? = some v := by
      unfold start at h2
      rw [List.getElem?_append_left (by simpa using hi), List.getElem?_map] at h2
      cases e : vs[i]? with
      | none => rw [e] at h2; cases h2
      | some a => rw [e] at h2; cases h2; rfl
    obtain ⟨u, hu, rv⟩ := r.get ha
    have hp : ps[i]? = some y := by
      rw [← S.pre, List.getElem?_take_of_lt (by omega)]; exact h1
    have ndP : ps.Nodup := by rw [← S.pre]; exact S.nd.sublist (List.take_sublist _ _)
    refine ⟨u, rv, ?_⟩
    rcases S.par y (List.mem_of_getElem? hp) with k | k
    · exact .inl ⟨k, bindL_get ndP hp hu k⟩
    · obtain ⟨c, e⟩ := cell_has (n := s.heap.objs.size + 1) k
      refine .inr ⟨.inl k, c, e, ?_⟩
      have q := x.cell y c e
      rw [bindC_get ndP hp hu (by show scope.names.lookup y ≠ _; rw [k]; decide)] at q
      exact q
  · exact e0.hok.fresh (Nat.le_of_lt (x.above y c (PySem.mem_of_lookup h)))
  · unfold start
    show _ = N.length
    rw [List.length_append, List.length_map, List.length_replicate]
    omega
theorem fn_of {CX : CXT} {P : Program} {w : World} {K : PySem.W.Frag} {mg : Str → Option Value} {base : Heap} {k : Nat} {f : Addr} {name qual : Str} {params : Arguments} {body : List Stmt} {scope : Scope} {dV kV doc pm cdv ct oc : Value} {an od : Option Addr}
    {osl : Array (Option Value)} {N ps : List Str} {sp : Sp} (lk : K.lookup f = some ⟨oc, od, .func (PySem.W.fnOf name qual params body scope dV kV doc pm an cdv ct), osl⟩) (hcd : PySem.W.codeIn K cdv qual = true) (S : FnScope N ps scope)
    (len : ∀ vs H Q E, sp vs H Q E → vs.length = ps.length)
    (hbody : ∀ (A : Around) (outer : List Env) (s : Shared) (H : Hp) (vs : List V) (Q : VK) (E : XK), Room k (A.deeper (envOfC qual scope s.heap.objs.size f cdv)) → sp vs H Q E →
      ∃ t, PSs (cxOf CX P w K mg base N qual scope f cdv A outer s H E) body t ∧ t { nx := fun _ H' => Q .non H', rt := Q } (start N vs) H) :
    FnOk P w K mg base CX (k + 1) f (PySem.W.fnOf name qual params body scope dV kV doc pm an cdv ct) ps sp := by
  refine ⟨len, fun A outer s H args us vs Q E hr e0 hb r hsp => ?_⟩
  have hl := len _ _ _ _ hsp
  have KX : K.In s.heap := e0.mod.kin.keeps fun b o e => (e0.bs b o e).1
  have lim : s.heap.NoLimit := e0.mod.nolimit.keeps fun b o e => (e0.bs b o e).1
  have hkind : ∀ y ∈ ps.zip us, scope.names.lookup y.1 = some .local ∨ (scope.names.lookup y.1 = some .cell ∧ ((cellsFrom (s.heap.objs.size + 1) scope.names []).lookup y.1).isSome = true) := fun ⟨n, v⟩ hy => by
    rcases S.par n (List.of_mem_zip hy).1 with q | q
    · exact .inl q
    · exact .inr ⟨q, PySem.W.cellsFrom_some _ _ _ (.inl q)⟩
  refine codeAny_call_function hr.depth (KX _ _ lk) rfl S.co S.gen rfl (PySem.W.codeRec_of KX hcd) (hb _ _ _ _ ?_)
  refine wpAny_newFunctionEnv_cells S.kind hkind fun env he s1 x => ?_
  subst he
  refine ⟨lim.keeps x.toInCall.keep, codeAny_func ?_⟩
  obtain ⟨t, ht, hq⟩ := hbody A outer s H vs Q E (hr.deeper _) hsp
  have I : Inv (cxOf CX P w K mg base N qual scope f cdv A outer s H E) [] (start N vs) H s1 := inv_start S hr.hd e0 hl r x
  refine wpAny_mono (ht [] s1 (start N vs) H _ I hq) (fun fl s' hs => ?_) fun e s' hs => hs
  have fin : ∀ {σ' : St} {H' : Hp} {v : V} {u : Value}, Inv (cxOf CX P w K mg base N qual scope f cdv A outer s H E) [] σ' H' s' → RelV v u → Q v H' → CE outer P w H s Q u s' :=
    fun {σ' H' v u} J rv q => ⟨v, H', J.os, J.bare, J.base, J.hok, rv, q⟩
  cases fl with
  | ret u =>
    obtain ⟨v, σ', H', J, rv, q⟩ := hs
    exact fin J rv q
  | next =>
    obtain ⟨σ', H', J, q⟩ := hs
    exact fin (v := V.non) (u := Value.none) J rfl q
  | brk =>
    obtain ⟨_, _, _, q⟩ := hs
    exact False.elim q
  | cont =>
    obtain ⟨_, _, _, q⟩ := hs
    exact False.elim q
end L2
namespace L2
open PySem PySem.Spec PyProof.Rows
section
variable {X : Cx} {x : Str} {p pos : Pos} {e : Expr} {es : List Expr} {t : TA} {id T : String} {r : List V → Hp → VK → Prop}
def tCB (r : List V → Hp → VK → Prop) (t : TA) : TE := fun σ H Q => t σ H fun vs H1 => r vs H1 Q
theorem pe_callB (hc : CallR X (.builtin id) r) (hg : Gl X x) (hm : X.mg x = none) (hv : bootBuiltins x = some (.builtin id)) (ha : PA X (e :: es) t) (hn : x ≠ "__name__" := by decide) (hdb : (x == ("__debug__" : Str)) = false := by decide)
    (he : starEach (e :: es) X.env = (false, eval e X.env) :: starEach es X.env := by rfl) (hpl : (backTo pos (starEach es X.env)).any (·.1) = false := by rfl) : PE X (.Call (.Name x p) (e :: es) [] pos) (tCB r t) := by
  intro pins s σ H Q I h
  refine wpAny_Call_Name_kw (ld_blt I hg hm hv ?_ hn hdb)
  exact PyProof.Rows.callWith_builtin1 (thn (ha pos pins s σ H _ I h) fun us s1 ⟨vs, H1, I1, r1, q1⟩ => hc pins s1 σ H1 vs us Q I1 r1 q1) he hpl
theorem pe_callTy (hc : CallR X (.type T) r) (hg : Gl X x) (hm : X.mg x = none) (hv : bootBuiltins x = some (.type T)) (ha : PA X (e :: es) t) (hn : x ≠ "__name__" := by decide) (hdb : (x == ("__debug__" : Str)) = false := by decide)
    (he : starEach (e :: es) X.env = (false, eval e X.env) :: starEach es X.env := by rfl) (hpl : (backTo pos (starEach es X.env)).any (·.1) = false := by rfl) : PE X (.Call (.Name x p) (e :: es) [] pos) (tCB r t) := by
  intro pins s σ H Q I h
  refine wpAny_Call_Name_kw (ld_blt I hg hm hv ?_ hn hdb)
  exact PyProof.Rows.callWith_type1 (thn (ha pos pins s σ H _ I h) fun us s1 ⟨vs, H1, I1, r1, q1⟩ => hc pins s1 σ H1 vs us Q I1 r1 q1) he hpl
end
end L2
namespace HT
open PySem PyProof.Rows
section
open PySem.SeqAt
open PySem.AutoSeq1 (wpAny_loadPart')
open PySem.MeetsSeq PySem.MeetsSeq2 PySem.MeetsSeq3
end
end HT
namespace L2
open PySem PySem.Spec PyProof.Rows
end L2
namespace L2
open PySem PySem.Spec PyProof.Rows
def ixN (n : Nat) (i : Int) : Option Nat := if 0 ≤ i then (if i < n then some i.toNat else none) else if -(n : Int) ≤ i then some (i + n).toNat else none
def atI {α : Type} (xs : List α) (i : Int) : Option α := (ixN xs.length i).bind fun j => xs[j]?
theorem ixN_seq {n : Nat} {i : Int} {j : Nat} (h : ixN n i = some j) : seqIndex? i n = some j ∧ j < n ∧ -(n : Int) ≤ i ∧ i < n := by
  unfold ixN at h
  by_cases h0 : 0 ≤ i
  · rw [if_pos h0] at h
    by_cases h1 : i < n
    · rw [if_pos h1] at h
      have e : i.toNat = j := Option.some.inj h
      exact ⟨by rw [seqIndex_of h0 h1, e], by omega, by omega, h1⟩
    · rw [if_neg h1] at h; cases h
  · rw [if_neg h0] at h
    by_cases h1 : -(n : Int) ≤ i
    · rw [if_pos h1] at h
      have e : (i + n).toNat = j := Option.some.inj h
      exact ⟨by rw [seqIndex_neg (by omega) h1, e], by omega, h1, by omega⟩
    · rw [if_neg h1] at h; cases h
theorem atI_get {α : Type} {xs : List α} {i : Int} {v : α} (h : atI xs i = some v) : ∃ j, seqIndex? i xs.length = some j ∧ xs[j]? = some v ∧ j < xs.length ∧ -(xs.length : Int) ≤ i ∧ i < xs.length := by
  unfold atI at h
  cases e : ixN xs.length i with
  | none => rw [e] at h; cases h
  | some j =>
    rw [e] at h
    obtain ⟨h1, h2, h3, h4⟩ := ixN_seq e
    exact ⟨j, h1, h, h2, h3, h4⟩
def PlainIx (b : Expr) : Prop := ∀ o i, subscripted b false o i = operate [o, i] (getItem o i)
def IxR (X : Cx) (r : R2) : Prop :=
  ∀ (value slice : Expr) (pins : List (Addr × Obj)) (s : Shared) (σ : St) (H : Hp) (x y : V) (v u : Value) (Q : VK), Inv X pins σ H s → RelV x v → RelV y u → r x y H Q →
    subscripted slice false v u = operate [v, u] (getItem v u) → wpAny (model X.prog X.w) X.A (subscriptTail value slice v u) (EP X pins σ Q) X.xe s
def MtR (X : Cx) (id : String) (r : V → List V → Hp → VK → Prop) : Prop :=
  ∀ (pins : List (Addr × Obj)) (s : Shared) (σ : St) (H : Hp) (x : V) (xs : List V) (v : Value) (us : List Value) (Q : VK), Inv X pins σ H s → RelV x v → Vals xs us → r x xs H Q →
    wpAny (model X.prog X.w) X.A (call (.builtin id) (v :: us)) (EP X pins σ Q) X.xe s
section
variable {X : Cx} {a b : Expr} {ta tb : TE} {pos : Pos}
theorem pe_ix {r : R2} (hr : IxR X r) (ha : PE X a ta) (hb : PE X b tb) (hs : PlainIx b) : PE X (.Subscript a b pos) (tOp r ta tb) := by
  intro pins s σ H Q I h
  exact Subscript_ (binT ha hb I h fun v u s2 x y H2 I2 rx ry q => hr a b pins s2 σ H2 x y v u Q I2 rx ry q (hs _ _))
def rIxL (K : PySem.W.Frag) : R2 := fun x y H Q => ∃ p xs i v, x = .ref p ∧ y = .int i ∧ SqL K H p xs ∧ atI xs i = some v ∧ Q v H
def rIxT (K : PySem.W.Frag) : R2 := fun x y H Q => ∃ p xs i v, x = .ref p ∧ y = .int i ∧ SqT K H p xs ∧ atI xs i = some v ∧ Q v H
def rIxS : R2 := fun x y H Q => ∃ z i c, x = .str z ∧ y = .int i ∧ z.length ≤ sizeLine ∧ atI z.cps.toList i = some c ∧ Q (.str ⟨#[c]⟩) H
theorem ix_list : IxR X (rIxL X.K) := by
  intro value slice pins s σ H x y v u Q I rx ry h hs
  obtain ⟨p, xs, i, z, rfl, rfl, hq, he, q⟩ := h
  cases rx
  obtain ⟨t, rfl⟩ := ry
  obtain ⟨its, r, pl, hz⟩ := I.list hq
  obtain ⟨j, h1, h2, h3, h4, h5⟩ := atI_get he
  obtain ⟨w, ew, rw'⟩ := r.get h2
  have hl := r.length
  have hn := line63
  have fin : EP X pins σ Q w s := ⟨z, H, I, rw', q⟩
  by_cases h0 : 0 ≤ i
  · have hj : i.toNat = j := by
      rw [seqIndex_of h0 h5] at h1
      exact Option.some.inj h1
    exact item_listR pl.isList h0 (by omega) (by rw [hj]; simpa using ew) fin hs
  · have hj : (i + (its.toArray.size : Int)).toNat = j := by
      rw [seqIndex_neg (by omega) h4] at h1
      rw [List.size_toArray, ← hl]
      exact Option.some.inj h1
    exact subscriptTail_builtinR (x := w) pl.isList.typeIs slot_list_getitem.lookup
      (wpAny_getItem_list_neg (Q := fun r s' => r = w ∧ EP X pins σ Q r s') pl.isList (by omega) (by rw [List.size_toArray] <;> omega) (by omega) (by rw [hj]; simpa using ew) ⟨rfl, fin⟩) hs
theorem ix_tup : IxR X (rIxT X.K) := by
  intro value slice pins s σ H x y v u Q I rx ry h hs
  obtain ⟨p, xs, i, z, rfl, rfl, hq, he, q⟩ := h
  cases rx
  obtain ⟨t, rfl⟩ := ry
  obtain ⟨its, r, pl, hz⟩ := I.tuple hq
  obtain ⟨j, h1, h2, h3, h4, h5⟩ := atI_get he
  obtain ⟨w, ew, rw'⟩ := r.get h2
  have hl := r.length
  have hn := line63
  have fin : EP X pins σ Q w s := ⟨z, H, I, rw', q⟩
  exact subscriptTail_builtinR (x := w) pl.typeIs slot_tuple_getitem.lookup
    (getItem_tuple (j := j) (Q := fun r s' => r = w ∧ EP X pins σ Q r s') pl (by omega) (by omega) (by rw [List.size_toArray, ← hl]; exact h1) (by simpa using ew) ⟨rfl, fin⟩) hs
theorem ix_str : IxR X rIxS := by
  intro value slice pins s σ H x y v u Q I rx ry h hs
  obtain ⟨z, i, c, rfl, rfl, hz, he, q⟩ := h
  obtain ⟨t, rfl⟩ := rx
  obtain ⟨t', rfl⟩ := ry
  obtain ⟨j, h1, h2, h3, h4, h5⟩ := atI_get he
  have hl : z.cps.toList.length = z.length := by simp [Str.length]
  rw [hl] at h1 h4 h5
  have hn := line63
  exact tail_any (typeIs_str s z t) slot_str_getitem.lookup (getItem_str (c := c) (by
    have e1 : decide (i < -(2 ^ 63 : Int)) = false := decide_eq_false (by omega)
    have e2 : decide (i ≥ 2 ^ 63) = false := decide_eq_false (by omega)
    rw [e1, e2, Bool.or_false]) (by rw [h1]; simpa using h2) ⟨.str ⟨#[c]⟩, H, I.tok _, ⟨_, rfl⟩, q⟩) hs
def flatV : V → Bool
  | .non => true
  | .bl _ => true
  | .int _ => true
  | .str _ => true
  | _ => false
def eqV : V → V → Bool
  | .non, .non => true
  | .bl a, .bl b => a == b
  | .bl a, .int b => (if a then 1 else 0) == b
  | .int a, .bl b => a == (if b then 1 else 0)
  | .int a, .int b => a == b
  | .str a, .str b => a == b
  | _, _ => false
theorem eqAt_V {A : Around} {s : Shared} {y x : V} {u v : Value} (ry : RelV y u) (rx : RelV x v) (fy : flatV y = true) (fx : flatV x = true) : SeqAt.EqAt A s u v (eqV y x) := by
  cases y with
  | non =>
    cases ry
    cases x with
    | non => cases rx; exact SeqAt.EqAt.same _
    | bl b => cases rx; exact SeqAt.EqAt.none_bool b
    | int b => obtain ⟨t, rfl⟩ := rx; exact SeqAt.EqAt.none_int b t
    | str b => obtain ⟨t, rfl⟩ := rx; exact SeqAt.EqAt.none_str b t
    | _ => exact absurd (show false = true from fx) Bool.false_ne_true
  | bl a =>
    cases ry
    cases x with
    | non => cases rx; exact SeqAt.EqAt.bool_none a
    | bl b => cases rx; exact SeqAt.EqAt.bool_bool a b
    | int b => obtain ⟨t, rfl⟩ := rx; exact SeqAt.EqAt.bool_int a b t
    | str b => obtain ⟨t, rfl⟩ := rx; exact SeqAt.EqAt.bool_str a b t
    | _ => exact absurd (show false = true from fx) Bool.false_ne_true
  | int a =>
    obtain ⟨t', rfl⟩ := ry
    cases x with
    | non => cases rx; exact SeqAt.EqAt.int_none a t'
    | bl b => cases rx; exact SeqAt.EqAt.int_bool a t' b
    | int b => obtain ⟨t, rfl⟩ := rx; exact SeqAt.EqAt.int_int a t' b t
    | str b => obtain ⟨t, rfl⟩ := rx; exact SeqAt.EqAt.int_str a t' b t
    | _ => exact absurd (show false = true from fx) Bool.false_ne_true
  | str a =>
    obtain ⟨t', rfl⟩ := ry
    cases x with
    | non => cases rx; exact SeqAt.EqAt.str_none a t'
    | bl b => cases rx; exact SeqAt.EqAt.str_bool a t' b
    | int b => obtain ⟨t, rfl⟩ := rx; exact SeqAt.EqAt.str_int a t' b t
    | str b => obtain ⟨t, rfl⟩ := rx; exact SeqAt.EqAt.str_str a t' b t
    | _ => exact absurd (show false = true from fx) Bool.false_ne_true
  | _ => exact absurd (show false = true from fy) Bool.false_ne_true
def eqU (x : V) (u : Value) : Bool := match u with
  | .none => eqV .non x
  | .bool b => eqV (.bl b) x
  | .int i _ => eqV (.int i) x
  | .str z _ => eqV (.str z) x
  | _ => false
theorem eqU_of {x y : V} {u : Value} (r : RelV y u) (f : flatV y = true) : eqU x u = eqV y x := by
  cases y with
  | non => cases r; rfl
  | bl b => cases r; rfl
  | int i => obtain ⟨t, rfl⟩ := r; rfl
  | str z => obtain ⟨t, rfl⟩ := r; rfl
  | _ => exact absurd (show false = true from f) Bool.false_ne_true
theorem any_eqU {x : V} : ∀ {xs : List V} {us : List Value}, Vals xs us → xs.all flatV = true → us.any (eqU x) = xs.any fun y => eqV y x
  | _, _, .nil, _ => rfl
  | y :: xs, u :: us, .cons r t, f => by
    rw [List.all_cons, Bool.and_eq_true] at f
    rw [List.any_cons, List.any_cons, eqU_of r f.1, any_eqU t f.2]
theorem mem_eqAt {A : Around} {s : Shared} {x : V} {v : Value} (rx : RelV x v) (fx : flatV x = true) : ∀ {xs : List V} {us : List Value}, Vals xs us → xs.all flatV = true → ∀ u ∈ us, SeqAt.EqAt A s u v (eqU x u)
  | _, _, .nil, _ => fun u hu => by cases hu
  | y :: xs, u :: us, .cons r t, f => fun u' hu => by
    rw [List.all_cons, Bool.and_eq_true] at f
    rcases List.mem_cons.mp hu with rfl | hu
    · rw [eqU_of r f.1]; exact eqAt_V r rx f.1 fx
    · exact mem_eqAt rx fx t f.2 u' hu
def inV (x : V) (xs : List V) : Bool := xs.any fun y => eqV y x
def rIn (K : PySem.W.Frag) (neg : Bool) : R2 := fun x y H Q => ∃ p xs, y = .ref p ∧ (SqL K H p xs ∨ SqT K H p xs) ∧ flatV x = true ∧ xs.all flatV = true ∧ Q (.bl (if neg then !inV x xs else inV x xs)) H
theorem op_in_seq : OpR X (compareOp .In) (rIn X.K false) := by
  intro pins s σ H x y v u Q I rx ry h
  obtain ⟨p, xs, rfl, hq, fx, fs, q⟩ := h
  cases ry
  rcases hq with hq | hq
  · obtain ⟨its, r, pl, hz⟩ := I.list hq
    refine SeqAt.in_listAt (eqU x) pl.isList (fun w hw => mem_eqAt rx fx r fs w (by simpa using hw)) ⟨.bl _, H, I, rfl, ?_⟩
    rw [show its.toArray.any (eqU x) = its.any (eqU x) by simp, any_eqU r fs]
    exact q
  · obtain ⟨its, r, pl, hz⟩ := I.tuple hq
    refine SeqAt.in_tupleAt (eqU x) pl (fun w hw => mem_eqAt rx fx r fs w (by simpa using hw)) ⟨.bl _, H, I, rfl, ?_⟩
    rw [show its.toArray.any (eqU x) = its.any (eqU x) by simp, any_eqU r fs]
    exact q
theorem call_list_of : CallR X (.type "list") (fun xs H Q => ∃ p ys, xs = [.ref p] ∧ (SqL X.K H p ys ∨ SqT X.K H p ys) ∧ ∀ l, H l = none → Q (.ref l) (upd H l (.lst ys))) := by
  intro pins s σ H xs us Q I r h
  obtain ⟨p, ys, rfl, hq, q⟩ := h
  obtain ⟨u, rfl, rx⟩ := vals1 r
  cases rx
  have fin : ∀ (its : List Value), Vals ys its → ys.length ≤ sizeLine → ∀ (h' : Heap) (c' : Nat), (∀ b o', s.heap.get? b = some o' → h'.get? b = some o') →
      h'.get? s.heap.objs.size = some { cls := .type "list", dict := none, data := .seq its.toArray c', slots := #[] } → EP X pins σ Q (.ref s.heap.objs.size) { s with heap := h' } := fun its r' hz h' c' kp e =>
    ⟨.ref s.heap.objs.size, _, I.laid (t' := s.toks) kp (Nat.le_refl _) (show ObjOk X.prog X.w _ h' _ (.lst ys) from ⟨hz, its, c', r', e⟩), rfl, q _ (I.hok.fresh (Nat.le_refl _))⟩
  rcases hq with hq | hq
  · obtain ⟨its, r', pl, hz⟩ := I.list hq
    have hlen := r'.length
    obtain ⟨o, ho, hc, n, hd⟩ := pl.isList
    exact call_list_seq p (.inl rfl) ho hc hd (fun h' c' kp e => fin its r' hz h' c' kp e) (by simp only [List.size_toArray] <;> omega)
  · obtain ⟨its, r', pl, hz⟩ := I.tuple hq
    have hlen := r'.length
    obtain ⟨o, ho, hc, n, hd⟩ := pl
    exact call_list_seq p (.inr rfl) ho hc hd (fun h' c' kp e => fin its r' hz h' c' kp e) (by simp only [List.size_toArray] <;> omega)
def tyV (K : PySem.W.Frag) (T : String) (x : V) (H : Hp) : Prop := match x with
  | .str _ => T = "str"
  | .int _ => T = "int"
  | .ref p => (T = "list" ∧ ∃ xs, SqL K H p xs) ∨ (T = "tuple" ∧ ∃ o, K.lookup p = some o ∧ o.cls = .type "tuple" ∧ o.dict = none) ∨
      (T = "dict" ∧ ((∃ kvs, H p = some (.dK kvs)) ∨ ∃ kvs, H p = some (.dT kvs))) ∨ (T = "set" ∧ ∃ S n, H p = some (.set S n))
  | _ => False
theorem tyV_is {pins : List (Addr × Obj)} {σ : St} {H : Hp} {s : Shared} {T : String} {x : V} {v : Value} (I : Inv X pins σ H s) (r : RelV x v) (ty : tyV X.K T x H) :
    s.TypeIs v T ∧ ∀ a, v = .ref a → ∃ ob, s.heap.get? a = some ob ∧ ob.dict = none := by
  cases x with
  | str z =>
    obtain ⟨t, rfl⟩ := r
    cases (show T = "str" from ty)
    exact ⟨typeIs_str s z t, fun _ e => nomatch e⟩
  | int i =>
    obtain ⟨t, rfl⟩ := r
    cases (show T = "int" from ty)
    exact ⟨typeIs_int s i t, fun _ e => nomatch e⟩
  | ref p =>
    cases r
    rcases ty with ⟨rfl, xs, hq⟩ | ⟨rfl, o, hk, hc, hd⟩ | ⟨rfl, hk⟩ | ⟨rfl, S, n, hk⟩
    · obtain ⟨its, _, pl, _⟩ := I.list hq
      refine ⟨pl.isList.typeIs, fun a e => ?_⟩
      cases e
      obtain ⟨o, n, e, c, hd, _⟩ := pl
      exact ⟨o, e, hd⟩
    · refine ⟨⟨o, I.kIn p o hk, hc⟩, fun a e => ?_⟩
      cases e
      exact ⟨o, I.kIn _ o hk, hd⟩
    · have z : ∃ o, s.heap.get? p = some o ∧ o.ExactDict := by
        rcases hk with ⟨kvs, hk⟩ | ⟨kvs, hk⟩
        · obtain ⟨_, _, _, _, o, _, _, e, ex, _⟩ := I.hok p _ hk
          exact ⟨o, e, ex⟩
        · obtain ⟨_, _, _, _, o, _, _, e, ex, _⟩ := I.hok p _ hk
          exact ⟨o, e, ex⟩
      obtain ⟨o, e, ex⟩ := z
      refine ⟨⟨o, e, ex.1⟩, fun a e2 => ?_⟩
      cases e2
      exact ⟨o, e, ex.2.1⟩
    · obtain ⟨o, _, _, _, e, ex, _⟩ := I.hok p _ hk
      refine ⟨⟨o, e, ex.1⟩, fun a e2 => ?_⟩
      cases e2
      exact ⟨o, e, ex.2.1⟩
  | _ => exact False.elim ty
def tBM (K : PySem.W.Frag) (T : String) (r : V → List V → Hp → VK → Prop) (to : TE) (t : TA) : TE := fun σ H Q => to σ H fun x H1 => tyV K T x H1 ∧ t σ H1 fun xs H2 => r x xs H2 Q
variable {o e : Expr} {es : List Expr} {to : TE} {t : TA} {name : Str} {apos cpos : Pos} {T id : String} {r : V → List V → Hp → VK → Prop}
theorem pe_bm (pa : PlainAttrs T) (slot : Slot T name id) (hty : typeOf (.builtin id) = pure (.type "method_descriptor")) (hm : MtR X id r) (ho : PE X o to) (ha : PA X (e :: es) t)
    (hbase : attributeBase o name X.env (eval o X.env) = eval o X.env := by rfl)
    (hfew : ((backTo cpos (starEach (e :: es) X.env)).all (fun x => !x.1) && (backToKw cpos (keywordEach [] X.env)).all (fun x => x.1.isSome)
      && decide ((e :: es).length + ([] : List Keyword).length + (if ([] : List Keyword).isEmpty then 0 else 1) < 30)) = true := by rfl)
    (hline : (apos.endLine == cpos.line) = true := by rfl) (hs : starEach (e :: es) X.env = (false, eval e X.env) :: starEach es X.env := by rfl) (hplain : (backTo cpos (starEach es X.env)).any (·.1) = false := by rfl) :
    PE X (.Call (.Attribute o name apos) (e :: es) [] cpos) (tBM X.K T r to t) := by
  intro pins s σ H Q I h
  refine wpAny_Call_method_late hbase hfew hline rfl (thn (ho pins s σ H _ I h) fun v s1 ⟨x, H1, I1, r1, ty, q1⟩ => ?_)
  obtain ⟨h1, h2⟩ := tyV_is I1 r1 ty
  refine ⟨T, id, pa, slot, hty, h1, h2, ?_⟩
  have hA := ha cpos pins s1 σ H1 _ I1 q1
  rw [hs] at hA ⊢
  refine Calls.callWith_builtin (by show (false || (backTo cpos (starEach es X.env)).any (·.1)) = false; rw [hplain] <;> rfl) (Calls.evalArgs_plain ?_)
  exact thn hA fun us s2 ⟨vs, H2, I2, r2, q2⟩ => hm pins s2 σ H2 x vs v us Q I2 r1 r2 q2
end
end L2
namespace L2
open PySem PySem.Spec PyProof.Rows
def MtM (X : Cx) (id : String) (r : V → List V → Hp → VK → Prop) : Prop :=
  ∀ (pins : List (Addr × Obj)) (s : Shared) (σ : St) (H : Hp) (x : V) (xs : List V) (v : Value) (us : List Value) (Q : VK), Inv X pins σ H s → RelV x v → Vals xs us → r x xs H Q →
    wpAny (model X.prog X.w) X.A (call (.builtin id) (v :: us)) (EP X pins σ Q) X.xe s
theorem Vals.one : ∀ {x : V} {us : List Value}, Vals [x] us → ∃ u, us = [u] ∧ RelV x u
  | _, _, .cons r .nil => ⟨_, rfl, r⟩
section
variable {X : Cx} {pins : List (Addr × Obj)} {σ : St} {H : Hp} {s : Shared} {l b : Addr} {xs ys zs : List V}
theorem Inv.lset {its its' : List Value} {n : Nat} {f : Array Value → Array Value} {t' : Nat} (I : Inv X pins σ H s) (hH : H l = some (.lst xs))
    (e : s.heap.get? l = some { cls := .type "list", data := .seq its.toArray n }) (hf : f its.toArray = its'.toArray) (hv : Vals ys its') (hz : ys.length ≤ sizeLine) :
    Inv X pins σ (upd H l (.lst ys)) { s with heap := s.heap.update l (Obj.mapSeq f), toks := t' } := by
  have q := PySem.IsL.update e f
  rw [hf] at q
  refine I.write (x := l) (e := l) (by rw [hH]; exact trivial) (.inl rfl) (fun b' u hb hu => (Heap.get?_update_other s.heap (Obj.mapSeq f) (Ne.symm hb)).trans hu) ⟨_, q⟩ ?_
  exact ⟨hz, its', _, hv, q⟩
theorem Inv.lnew {its : List Value} {t' : Nat} (I : Inv X pins σ H s) (hv : Vals ys its) (hz : ys.length ≤ sizeLine) :
    Inv X pins σ (upd H s.heap.objs.size (.lst ys)) { s with heap := s.heap.push { cls := .type "list", data := .seq its.toArray }, toks := t' } :=
  I.laid (fun _ _ q => Heap.get?_push_of_some _ q) (Nat.le_refl _) ⟨hz, its, 0, hv, Heap.get?_push_size _ rfl⟩
theorem Inv.fresh (I : Inv X pins σ H s) : H s.heap.objs.size = none := I.hok.fresh (Nat.le_refl _)
theorem Inv.lstM (I : Inv X pins σ H s) (hH : H l = some (.lst xs)) : xs.length ≤ sizeLine ∧ ∃ (its : List Value) (n : Nat), Vals xs its ∧ xs.length = its.length ∧ s.heap.get? l = some { cls := .type "list", data := .seq its.toArray n } := by
  obtain ⟨z, its, n, r, e⟩ := I.hok l _ hH
  exact ⟨z, its, n, r, r.length, e⟩
end
section
variable {X : Cx}
def rAppend : V → List V → Hp → VK → Prop := fun x vs H Q => ∃ l xs y, x = .ref l ∧ vs = [y] ∧ H l = some (.lst xs) ∧ xs.length < sizeLine ∧ Q .non (upd H l (.lst (xs ++ [y])))
theorem mt_append : MtM X "list.append" rAppend := by
  intro pins s σ H x vs v us Q I rx rv h
  obtain ⟨l, xs, y, rfl, rfl, hH, hz, q⟩ := h
  cases rx
  obtain ⟨u, rfl, ru⟩ := rv.one
  obtain ⟨z, its, n, r, hl, e⟩ := I.lstM hH
  refine call_meets F.slot_list_append ⟨_, e, rfl⟩ F.entry_list_append (F.args_list_append_2 _ _) (PySem.list_append l its.toArray n u (by rw [List.size_toArray]; omega)) ⟨e, ?_⟩
  refine ⟨.non, _, I.lset (its' := its ++ [u]) hH e (by simp) (r.append (.cons ru .nil)) ?_, rfl, q⟩
  rw [List.length_append, List.length_singleton]
  omega
end
end L2
namespace L2
open PySem PySem.Spec PyProof.Rows
end L2
namespace Att
open PySem PySem.W PySem.Calls PyProof.Rows
theorem ints_of_wellAll {P : Params} {h : Heap} : ∀ (ns : List Int) (vs : List Value), WellAll P h vs (ns.map WData.int) → IntsAre vs ns := by
  intro ns
  induction ns with
  | nil =>
    intro vs w
    rw [List.map_nil] at w
    cases w
    exact .nil
  | cons n ns ih =>
    intro vs w
    rw [List.map_cons] at w
    cases w with
    | cons a b =>
      cases a
      exact .cons _ _ (ih _ b)
theorem script_of {l : OpenLaw} {n : Nat} (hn : l.most = some n) {P : Params} {h : Heap} {args : List WData} {vals : List Value}
    (hpre : l.row.toRowW.claim.pre args = true) (hwl : WellAll P h vals args) :
    ∃ a vs ns, vals = [Value.ref a] ∧ args = [WData.list (ns.map WData.int)] ∧ h.get? a = some { cls := .type "list", data := .seq vs.toArray } ∧ IntsAre vs ns ∧ ns.length ≤ n := by
  have hsh : WShape.hasAll [] args [.list .int] = true := (pre_splitW hpre).1
  have hc : l.pre.holds [] { args := args } = true := (pre_splitW hpre).2
  obtain ⟨d, r, rfl, h1, h2⟩ := hasAllW_cons hsh
  obtain rfl := hasAllW_nil h2
  obtain ⟨xs, rfl, h3⟩ := hasW_list h1
  obtain ⟨ns, rfl⟩ := items_int h3
  have hlen : ns.length ≤ n := by
    unfold OpenLaw.pre at hc
    have h4 : (WTm.not (.lt (.lit (.int (n : Int))) (.len (.arg 0)))).holds [] { args := [.list (ns.map .int)] } = true := by
      have h4 := (holds_andW hc).1
      rw [hn] at h4
      exact h4
    have h5 := condW_of h4 (w_not (w_lt w_lit (w_len_list (w_arg rfl))))
    rw [List.length_map] at h5
    refine Nat.le_of_not_lt fun q => ?_
    have q' : (n : Int) < ((ns.length : Nat) : Int) := by omega
    first
      | (rw [decide_eq_true q'] at h5; exact absurd h5 (by decide))
      | (simp at h5; omega)
  cases hwl with
  | cons w1 w2 =>
    cases w2
    cases w1 with
    | list ho hall => exact ⟨_, _, ns, rfl, rfl, ho, ints_of_wellAll ns _ hall, hlen⟩
theorem post_true (l : OpenLaw) (args : List WData) : l.row.toRowW.claim.post args (.bool true) args = true :=
  postW_of (r := l.row.toRowW) (X := (true == true))
    (show WShape.has [] (.bool true) .bool = true by first | rfl | decide | simp [WShape.has, WShape.arms, WShape.armsAll])
    (show (WTm.eq .res (.lit (.bool true))).value [] { args := args, res := some (.bool true), after := args } = some (.bool (true == true)) from w_eq_bool (w_res rfl) w_lit) rfl
theorem attach_call {l : OpenLaw} {n : Nat} {q : Program} {loose : List Str} {XP : (Str → Option Value) → Heap → Prop} {YP : World → Heap → Prop} {d : DefRec}
    (hn : l.most = some n) (hdf : d.params.defaults = [])
    (call : ∀ (w : World) (s₀ s₁ : Shared) (mg mb : Str → Option Value) (fa : Addr) (o : Obj) (pm cd doc : Value) (a : Addr) (vs : List Value) (ns : List Int),
      Ground q loose [] XP w s₀ mg mb s₁.heap → YP w s₁.heap →
      s₁.heap.get? fa = some o → o.data = .func (docDef d.name d.params d.body d.scope pm cd doc) → s₁.heap.CodeRec cd d.name → mg d.name = some (.ref fa) →
      s₁.heap.get? a = some { cls := .type "list", data := .seq vs.toArray } → IntsAre vs ns → ns.length ≤ n → s₁.gens = #[] →
      codeAny (model l.prog w) callerA (.call (.ref fa) ⟨[.ref a], []⟩) (fun r s' => r = .ok (.ret (.bool true)) ∧ OldK s₁.heap s'.heap ∧ s'.os = s₁.os ∧ AllBare s'.gens) s₁) :
    WalkO q loose XP YP l.row.toRowW d [] (fun f vs => PySem.call f vs) := by
  intro w s₀ s₁ mg mb G Y fa o pm cd doc dV kV ho hd hcd hD hmg hg args vals as hpre hlay hrd hwl hlo
  obtain rfl : dV = .none := Dflts.none hD hdf
  obtain rfl : kV = .none := Dflts.noKw hD
  obtain ⟨a, vs, ns, rfl, rfl, hobj, hints, hlen⟩ := script_of hn hpre hwl
  refine enter_call (codeAny_mono (call w s₀ s₁ mg mb fa o pm cd doc a vs ns G Y ho (fd_plain hd) hcd hmg hobj hints hlen hg) fun r s' hq => ?_)
  obtain ⟨rfl, h2, h3, h4⟩ := hq
  exact ⟨.inl ⟨.bool true, .bool true, [], rfl, fun _ => rfl, .bool true, post_true l _, fun _ => ⟨List.Pairwise.nil, fun _ hm => (nomatch hm)⟩⟩, h2, h3, h4⟩
end Att
namespace L2
open PySem PySem.Spec PyProof.Rows
theorem vals_ints : ∀ {vs : List Value} {ns : List Int}, IntsAre vs ns → Vals (ns.map V.int) vs
  | _, _, .nil => .nil
  | _, _, .cons n t h => .cons ⟨t, rfl⟩ (vals_ints h)
def Only (H : Hp) : Prop := ∀ b, H b = none ∨ ∃ o xs, H b = some (.frz o (.lst xs))
theorem law_call {P : Program} {w : World} {K : PySem.W.Frag} {mg mb : Str → Option Value} {CX : CXT} {k : Nat} {fa a : Addr} {fd : FuncData} {x : Str} {sp : Sp} {s₁ : Shared} {vs : List Value} {ns : List Int}
    (KX : K.In s₁.heap) (hns : s₁.heap.Ns mainGlobals mg) (hb : s₁.heap.Ns builtinsNs mb) (hbb : ∀ x : Str, x ≠ "__name__" → mb x = bootBuiltins x) (hlim : s₁.heap.NoLimit) (hg : s₁.gens = #[])
    (ha : s₁.heap.get? a = some { cls := .type "list", data := .seq vs.toArray }) (hi : IntsAre vs ns) (hl : ns.length ≤ sizeLine) (hr : Room k callerA)
    (F : ∀ base : Heap, K.In base → base.Ns mainGlobals mg → FnOk P w K mg base CX k fa fd [x] sp) (hbind : ∀ (s : Shared) (u : Value), BindsTo s fd ⟨[u], []⟩ [(x, u)])
    (hsp : ∀ H : Hp, Only H → SqL K H a (ns.map V.int) → sp [.ref a] H (fun v _ => v = .bl true) fun _ _ _ => False)
    (hCX : ∀ H e s', CX [] H s₁ (fun _ _ _ => False) e s' → False) :
    codeAny (model P w) callerA (.call (.ref fa) ⟨[.ref a], []⟩) (fun r s' => r = .ok (.ret (.bool true)) ∧ OldK s₁.heap s'.heap ∧ s'.os = s₁.os ∧ AllBare s'.gens) s₁ := by
  have rv := vals_ints hi
  have lenV := hi.length
  have core : ∀ H : Hp, Only H → SqL K H a (ns.map V.int) → HOk P w H s₁.heap → (∀ b, H b ≠ none → b = a) → (H a ≠ none → K.lookup a = none) →
      codeAny (model P w) callerA (.call (.ref fa) ⟨[.ref a], []⟩) (fun r s' => r = .ok (.ret (.bool true)) ∧ OldK s₁.heap s'.heap ∧ s'.os = s₁.os ∧ AllBare s'.gens) s₁ := by
    intro H hO hS hok hA hK
    have base_of : ∀ {b : Addr} {o : Obj}, s₁.heap.get? b = some o → H b = none → (hidT s₁.heap H).get? b = some o := fun e n => hidT_get e n
    have noA : ∀ {b : Addr} {o : Obj} {es : Array DictEntry} {ep : Nat}, s₁.heap.get? b = some o → o.data = .dict es ep → H b = none := fun {b o es ep} e d => by
      cases q : H b with
      | none => rfl
      | some u =>
        have e' : b = a := hA b (by rw [q]; simp)
        subst e'
        rw [ha] at e; cases e
        have d' : Data.seq vs.toArray _ = Data.dict es ep := d
        cases d'
    have nsK : ∀ {b : Addr} {m : Str → Option Value}, s₁.heap.Ns b m → (hidT s₁.heap H).Ns b m := fun {b m} ⟨o, es, ep, e, d, r⟩ => ⟨o, es, ep, base_of e (noA e d), d, r⟩
    have hKb : K.In (hidT s₁.heap H) := fun b o e => base_of (KX b o e) (by
      cases q : H b with
      | none => rfl
      | some u =>
        have e' : b = a := hA b (by rw [q]; simp)
        subst e'
        rw [hK (by rw [q]; simp)] at e; cases e)
    have hM : Mod K mg (hidT s₁.heap H) := ⟨hKb, nsK hns, ⟨mb, nsK hb, hbb⟩, let ⟨mc, h1, h2⟩ := hlim; ⟨mc, nsK h1, h2⟩⟩
    have e0 : Env0 P w K mg (hidT s₁.heap H) callerA [] s₁ H := ⟨rfl, hM, fun b o e => of_hidT e, Nat.le_of_eq (hidT_size _ _), trivial, fun b hb => absurd (show b ∈ ([] : List Addr) from hb) (by simp), hok, .of_eq hg⟩
    refine codeAny_mono ((F _ hKb (nsK hns)).run callerA [] s₁ H ⟨[.ref a], []⟩ [.ref a] [.ref a] _ _ hr e0 (hbind s₁ (.ref a)) (.cons rfl .nil) (hsp H hO hS)) fun r s' h => ?_
    cases r with
    | error e => exact (hCX H e s' h).elim
    | ok fl =>
      cases fl with
      | next => exact False.elim h
      | brk => exact False.elim h
      | cont => exact False.elim h
      | ret u =>
        obtain ⟨v, H', os, bare, un, hok', r', q⟩ := h
        have q' : v = .bl true := q
        subst q'
        obtain rfl : u = Value.bool true := r'
        refine ⟨rfl, OldK.of_keep fun b o e => ?_, os, bare⟩
        cases q : H b with
        | none => exact un.keep b o e q (by intro z; exact absurd (show b ∈ ([] : List Addr) from z) (by simp)) (by simp)
        | some u =>
          rcases hO b with z | ⟨ob, xs, z⟩
          · rw [q] at z; cases z
          · have z2 := un.frzs b ob _ z
            obtain ⟨e1, _⟩ := hok b _ z
            obtain ⟨e2, _⟩ := hok' b _ z2
            rw [e] at e1; cases e1
            exact e2
  cases hk : K.lookup a with
  | some o =>
    have e := KX a o hk
    rw [ha] at e
    cases e
    refine core (fun _ => none) (fun _ => .inl rfl) (.inr ⟨_, vs.toArray, _, hk, rfl, rfl, rfl, by rw [List.size_toArray, lenV]; exact hl, by simpa using rv⟩) (fun b u z => by have z' : (none : Option HO) = some u := z; cases z') (fun b z => absurd rfl z) fun z => absurd rfl z
  | none =>
    refine core (fun b => if b = a then some (.frz { cls := .type "list", data := .seq vs.toArray } (.lst (ns.map V.int))) else none) (fun b => ?_) (.inl (.inr ⟨{ cls := .type "list", data := .seq vs.toArray }, if_pos rfl⟩)) (fun b u z => ?_) (fun b z => ?_) fun _ => hk
    · by_cases hb : b = a
      · exact .inr ⟨_, _, if_pos hb⟩
      · exact .inl (if_neg hb)
    · by_cases hb : b = a
      · have z' := (if_pos hb).symm.trans z
        cases z'
        subst hb
        exact ⟨ha, by rw [List.length_map]; exact hl, vs, _, rv, ha⟩
      · have z' := (if_neg hb).symm.trans z
        cases z'
    · by_cases hb : b = a
      · exact hb
      · exact absurd (if_neg hb) z
end L2
namespace L2
open PySem PySem.Spec PyProof.Rows
theorem walk_of {l : PySem.W.OpenLaw} {n k : Nat} {q : Program} {loose : List Str} {XP : (Str → Option Value) → Heap → Prop} {YP : World → Heap → Prop} {d : DefRec} {K : Params → PySem.W.Frag} {CX : World → CXT} {sp : World → Sp} {x : Str}
    (hn : l.most = some n) (hn2 : n ≤ sizeLine) (hdf : d.params.defaults = []) (hr : Room k callerA)
    (hY : ∀ (w : World) (h : Heap), YP w h → (K w.params).In h)
    (F : ∀ (w : World) (mg : Str → Option Value) (fa : Addr) (h : Heap), (K w.params).In h → h.Ns mainGlobals mg → mg d.name = some (.ref fa) →
      ∃ fd : FuncData, (∀ (s : Shared) (u : Value), BindsTo s fd ⟨[u], []⟩ [(x, u)]) ∧
        ∀ base : Heap, (K w.params).In base → base.Ns mainGlobals mg → FnOk l.prog w (K w.params) mg base (CX w) k fa fd [x] (sp w))
    (hsp : ∀ (w : World) (H : Hp) (a : Addr) (ns : List Int), ns.length ≤ n → Only H → SqL (K w.params) H a (ns.map V.int) → sp w [.ref a] H (fun v _ => v = .bl true) fun _ _ _ => False)
    (hCX : ∀ (w : World) (H : Hp) (s : Shared) (e : Value) (s' : Shared), CX w [] H s (fun _ _ _ => False) e s' → False) :
    PySem.W.WalkO q loose XP YP l.row.toRowW d [] (fun f vs => PySem.call f vs) := by
  refine Att.attach_call hn hdf fun w s₀ s₁ mg mb fa o pm cd doc a vs ns G Y ho hd hcd hmg hobj hints hlen hg => ?_
  have KX := hY w _ Y
  obtain ⟨fd, hb, hF⟩ := F w mg fa _ KX G.T.g hmg
  exact law_call KX G.T.g G.T.b G.T.builtins G.T.nolimit hg hobj hints (Nat.le_trans hlen hn2) hr hF hb (fun H hO hS => hsp w H a ns hlen hO hS) fun H e s' => hCX w H s₁ e s'
end L2
namespace L2
open PySem PySem.Spec PyProof.Rows
def defArgs (s : Stmt) : Arguments := match s with
  | .FunctionDef _ a _ _ _ _ _ _ _ _ => a
  | _ => { posonlyargs := [], args := [], vararg := none, kwonlyargs := [], kw_defaults := [], kwarg := none, defaults := [] }
def defBody (s : Stmt) : List Stmt := match s with
  | .FunctionDef _ _ b _ _ _ _ _ _ _ => b
  | _ => []
def defScope (s : Stmt) : Scope := match s with
  | .FunctionDef _ _ _ _ _ _ sc _ _ _ => sc
  | _ => { kind := .function, names := [], isGenerator := false, isCoroutine := false }
abbrev CX0 : CXT := fun _ _ _ _ _ _ => False
abbrev E0 : XK := fun _ _ _ => False
theorem pass0 {X : Cx} : Passes CX0 X E0 := fun _ _ _ _ _ _ _ h => h.elim
structure Fun (K : PySem.W.Frag) (x qual : Str) (st : Stmt) (f : Addr) (fd : FuncData) : Prop where
  ex : ∃ (oc : Value) (od : Option Addr) (kV doc pm : Value) (an : Option Addr) (cdv ct : Value) (osl : Array (Option Value)),
    fd = PySem.W.fnOf x qual (defArgs st) (defBody st) (defScope st) .none kV doc pm an cdv ct ∧ K.lookup f = some ⟨oc, od, .func fd, osl⟩ ∧ PySem.W.codeIn K cdv qual = true
  kp : PySem.W.keepIn K (.ref f) = true
section
variable {P : Program} {w : World} {K : PySem.W.Frag} {mg : Str → Option Value} {base : Heap}
theorem Fun.ok {x qual : Str} {st : Stmt} {f : Addr} {fd : FuncData} {N ps : List Str} {k : Nat} {sp : Sp} (F : Fun K x qual st f fd) (S : FnScope N ps (defScope st)) (len : ∀ vs H Q E, sp vs H Q E → vs.length = ps.length)
    (hbody : ∀ (cdv : Value) (A : Around) (outer : List Env) (s : Shared) (H : Hp) (vs : List V) (Q : VK) (E : XK), Room k (A.deeper (envOfC qual (defScope st) s.heap.objs.size f cdv)) → sp vs H Q E →
      ∃ t, PSs (cxOf CX0 P w K mg base N qual (defScope st) f cdv A outer s H E).nox (defBody st) t ∧ t { nx := fun _ H' => Q .non H', rt := Q } (start N vs) H) : FnOk P w K mg base CX0 (k + 1) f fd ps sp := by
  obtain ⟨oc, od, kV, doc, pm, an, cdv, ct, osl, rfl, lk, hcd⟩ := F.ex
  refine fn_of lk hcd S len fun A outer s H vs Q E hr hsp => ?_
  obtain ⟨t, h, q⟩ := hbody cdv A outer s H vs Q E hr hsp
  exact ⟨t, h.nox, q⟩
theorem Fun.binds {x qual : Str} {st : Stmt} {f : Addr} {fd : FuncData} {ps : List Str} (F : Fun K x qual st f fd)
    (h : ∀ (kV doc pm : Value) (an : Option Addr) (cdv ct : Value) (us : List Value), us.length = ps.length → bindArgs (PySem.W.fnOf x qual (defArgs st) (defBody st) (defScope st) .none kV doc pm an cdv ct) ⟨us, []⟩ = pure (ps.zip us)) : Binds K fd ps [] := by
  obtain ⟨oc, od, kV, doc, pm, an, cdv, ct, osl, rfl, lk, hcd⟩ := F.ex
  exact .all (h kV doc pm an cdv ct)
theorem fun_mk {x qual : Str} {st : Stmt} {f : Addr} {oc : Value} {od an : Option Addr} {osl : Array (Option Value)} {kV doc pm cdv ct : Value} (l : K.lookup f = some ⟨oc, od, .func (PySem.W.fnOf x qual (defArgs st) (defBody st) (defScope st) .none kV doc pm an cdv ct), osl⟩)
    (c : PySem.W.codeIn K cdv qual = true) (k : PySem.W.keepIn K (.ref f) = true) : Fun K x qual st f (PySem.W.fnOf x qual (defArgs st) (defBody st) (defScope st) .none kV doc pm an cdv ct) := ⟨⟨oc, od, kV, doc, pm, an, cdv, ct, osl, rfl, l, c⟩, k⟩
end
section
variable {X : Cx}
theorem pv (i : Nat) {x : Str} {pos : Pos} (hN : X.N[i]? = some x := by rfl) (hv : Vis X.env.scope x := by first | exact Or.inl rfl | exact Or.inr (Or.inl rfl) | exact Or.inr (Or.inr rfl)) (hd : (x == ("__debug__" : Str)) = false := by decide)
    (hcd : (x == ("__classdict__" : Str)) = false := by decide) : PE X (.Name x pos) (tVar i) := pe_var hN hv hd hcd
end
def Same (H H' : Hp) : Prop := ∀ b o, H b = some o → H' b = some o
theorem Same.refl (H : Hp) : Same H H := fun _ _ h => h
theorem Same.trans {H H1 H2 : Hp} (a : Same H H1) (b : Same H1 H2) : Same H H2 := fun c o h => b c o (a c o h)
theorem Same.seq {K : PySem.W.Frag} {H H' : Hp} {a : Addr} {xs : List V} (e : Same H H') (h : SqL K H a xs) : SqL K H' a xs := by
  rcases h with (h | ⟨o, h⟩) | h
  · exact .inl (.inl (e _ _ h))
  · exact .inl (.inr ⟨o, e _ _ h⟩)
  · exact .inr h
end L2
set_option maxHeartbeats 4000000
namespace L2
open PySem PySem.Spec PyProof.Rows
abbrev sOf (l : List Nat) : Str := ⟨l.toArray⟩
theorem sOf_len (l : List Nat) : (sOf l).length = l.length := by simp [Str.length, sOf]
theorem sOf_cps (l : List Nat) : (sOf l).cps.toList = l := by simp [sOf]
theorem sOf_append (a b : List Nat) : sOf a ++ sOf b = sOf (a ++ b) := by
  apply PySem.Str.ext'
  rw [PySem.Str.cps_append]
  simp [sOf]
theorem sOf_inj {a b : List Nat} (h : sOf a = sOf b) : a = b := by
  have := congrArg (fun x => x.cps.toList) h
  simpa [sOf] using this
theorem of_sOf (x : Str) : x = sOf x.cps.toList := by cases x; simp [sOf]
section
variable {X : Cx}
theorem op_is_bl : OpR X (compareOp .Is) (fun x y H Q => ∃ c, y = .bl c ∧ Q (.bl (decide (x = .bl c))) H) := by
  intro pins s σ H x y v u Q I rx ry h
  obtain ⟨c, rfl, q⟩ := h
  cases ry
  cases x with
  | bl b => cases rx; exact is_bool (fin_bl I q (by cases b <;> cases c <;> simp))
  | non => cases rx; exact wpAny_pure (fin_bl I q (by simp))
  | int i => obtain ⟨t, rfl⟩ := rx; exact wpAny_pure (fin_bl I q (by simp))
  | str i => obtain ⟨t, rfl⟩ := rx; exact wpAny_pure (fin_bl I q (by simp))
  | byt i => obtain ⟨t, rfl⟩ := rx; exact wpAny_pure (fin_bl I q (by simp))
  | flt i => obtain ⟨t, rfl⟩ := rx; exact wpAny_pure (fin_bl I q (by simp))
  | ref a => cases rx; exact wpAny_pure (fin_bl I q (by simp))
  | ty a => cases rx; exact wpAny_pure (fin_bl I q (by simp))
theorem op_le_str : OpR X (compareOp .LtE) (fun x y H Q => ∃ i j, x = .str i ∧ y = .str j ∧ Q (.bl (!decide (j.cps.toList < i.cps.toList))) H) := by
  intro pins s σ H x y v u Q I rx ry h
  obtain ⟨i, j, rfl, rfl, q⟩ := h
  obtain ⟨t, rfl⟩ := rx
  obtain ⟨t', rfl⟩ := ry
  exact PySem.P.le_str (fin_bl I q rfl)
end
end L2
namespace L2
open PySem PySem.Spec PyProof.Rows
section
variable {X : Cx}
theorem strsAre_of {ys : List (List Nat)} : ∀ {us : List Value}, Vals (ys.map fun y => V.str (sOf y)) us → StrsAre us (ys.map sOf) := by
  induction ys with
  | nil => intro us r; cases r; exact .nil
  | cons y ys ih =>
    intro us r
    cases r with
    | cons r1 r2 =>
      obtain ⟨t, e⟩ := r1
      subst e
      exact .cons _ t (ih r2)
theorem call_isinst : CallR X (.builtin "isinstance") (fun xs H Q => ∃ x T t b, xs = [x, .ty T] ∧ TyOf X.K H x t ∧ PySem.W.kitOne X.K t (.type T) = some b ∧ Q (.bl b) H) := by
  intro pins s σ H xs us Q I r h
  obtain ⟨x, T, t, b, rfl, ty, e, q⟩ := h
  obtain ⟨u, w', rfl, rx, rT⟩ := vals2 r
  obtain rfl : w' = .type T := rT
  exact isinst_ok I rx ty e fun tk => ⟨.bl b, H, I.tok _, rfl, q⟩
end
end L2
namespace L2
open PySem PySem.Spec PyProof.Rows
def closeOf (env : Env) : List (Str × NameKind) → List (Str × Addr) → List (Str × Addr)
  | [], acc => acc
  | (n, k) :: r, acc => closeOf env r (if (k == .free) = true then (n, (env.cells.lookup n).getD 0) :: acc else acc)
theorem closureFor_eq {scope : Scope} {env : Env} (h : ∀ x ∈ scope.names, x.2 = .free → ∃ c, env.cells.lookup x.1 = some c) : closureFor scope env = pure (closeOf env scope.names []) := by
  simp only [closureFor]
  have key : ∀ (names : List (Str × NameKind)) (acc : List (Str × Addr)), (∀ x ∈ names, x.2 = .free → ∃ c, env.cells.lookup x.1 = some c) →
      (forIn names acc fun (x : Str × NameKind) (cs : List (Str × Addr)) => if (x.2 == .free) = true then (do let a ← cellOf env x.1; pure (ForInStep.yield ((x.1, a) :: cs))) else pure (ForInStep.yield cs)) = (pure (closeOf env names acc) : Sem _) := by
    intro names
    induction names with
    | nil => intro acc _; rfl
    | cons x r ih =>
      intro acc hx
      obtain ⟨n, k⟩ := x
      rw [List.forIn_cons]
      have hr : ∀ y ∈ r, y.2 = .free → ∃ c, env.cells.lookup y.1 = some c := fun y hy => hx y (List.mem_cons_of_mem _ hy)
      unfold closeOf
      by_cases hk : (k == NameKind.free) = true
      · obtain ⟨c, hc⟩ := hx (n, k) List.mem_cons_self (by simpa using hk)
        have hc : env.cells.lookup n = some c := hc
        simp only [hk, if_true]
        unfold cellOf
        simp only [hc, Option.getD_some]
        exact ih _ hr
      · simp only [hk, if_false]
        exact ih _ hr
  have := key scope.names [] h
  rw [this]
  rfl
theorem closeOf_lookup {env : Env} {x : Str} {c : Addr} : ∀ (names : List (Str × NameKind)) (acc : List (Str × Addr)), (∀ y ∈ names, y.2 = .free → ∃ c, env.cells.lookup y.1 = some c) → (closeOf env names acc).lookup x = some c →
    ((x, NameKind.free) ∈ names ∧ env.cells.lookup x = some c) ∨ acc.lookup x = some c
  | [], _, _, h => .inr h
  | (n, k) :: r, acc, hx, h => by
    unfold closeOf at h
    rcases closeOf_lookup r _ (fun y hy => hx y (List.mem_cons_of_mem _ hy)) h with ⟨q1, q2⟩ | q
    · exact .inl ⟨List.mem_cons_of_mem _ q1, q2⟩
    · by_cases hk : (k == NameKind.free) = true
      · rw [if_pos hk] at q
        have hk' : k = .free := by simpa using hk
        subst hk'
        rw [List.lookup_cons] at q
        cases hb : x == n with
        | true =>
          rw [hb] at q
          have e : x = n := beq_iff_eq.mp hb
          subst e
          obtain ⟨c', hc⟩ := hx (x, .free) List.mem_cons_self rfl
          have hc : env.cells.lookup x = some c' := hc
          rw [hc] at q
          simp at q
          subst q
          exact .inl ⟨List.mem_cons_self, hc⟩
        | false => rw [hb] at q; exact .inr q
      · rw [if_neg hk] at q; exact .inr q
theorem closeOf_acc {env : Env} {x : Str} {c : Addr} : ∀ (names : List (Str × NameKind)) (acc : List (Str × Addr)), acc.lookup x = some c → env.cells.lookup x = some c → (closeOf env names acc).lookup x = some c
  | [], _, h, _ => h
  | (n, k) :: r, acc, h, he => by
    unfold closeOf
    refine closeOf_acc r _ ?_ he
    by_cases hk : (k == NameKind.free) = true
    · rw [if_pos hk, List.lookup_cons]
      cases hb : x == n with
      | true =>
        have e : x = n := beq_iff_eq.mp hb
        subst e
        simp [he]
      | false => exact h
    · rw [if_neg hk]; exact h
theorem closeOf_has {env : Env} {x : Str} {c : Addr} : ∀ (names : List (Str × NameKind)) (acc : List (Str × Addr)), (x, NameKind.free) ∈ names → env.cells.lookup x = some c → (closeOf env names acc).lookup x = some c
  | (n, k) :: r, acc, h, he => by
    unfold closeOf
    rcases List.mem_cons.mp h with e | h
    · cases e
      exact closeOf_acc r _ (by simp [he]) he
    · exact closeOf_has r _ h he
theorem cellsFrom_app : ∀ (names : List (Str × NameKind)) (n : Nat) (acc : List (Str × Addr)), cellsFrom n names acc = cellsFrom n names [] ++ acc
  | [], _, _ => rfl
  | (x, k) :: r, n, acc => by
    unfold cellsFrom
    split
    · rw [cellsFrom_app r _ ((x, n) :: acc), cellsFrom_app r _ [(x, n)], List.append_assoc]; rfl
    · exact cellsFrom_app r n acc
theorem cellsFrom_names : ∀ (names : List (Str × NameKind)) (n : Nat) {x : Str} {c : Addr}, (x, c) ∈ cellsFrom n names [] → (x, NameKind.cell) ∈ names
  | [], _, _, _, h => by cases h
  | (y, k) :: r, n, x, c, h => by
    unfold cellsFrom at h
    split at h
    · rename_i hk
      rw [cellsFrom_app] at h
      rcases List.mem_append.mp h with h | h
      · exact List.mem_cons_of_mem _ (cellsFrom_names r _ h)
      · have e : (x, c) = (y, n) := by simpa using h
        cases e
        have hk' : k = .cell := by simpa using hk
        subst hk'
        exact List.mem_cons_self
    · exact List.mem_cons_of_mem _ (cellsFrom_names r _ h)
theorem newCompEnv {M : Model} {A : Around} {E : Value → Shared → Prop} {s : Shared} {scope : Scope} {env : Env} {cl : List (Str × Addr)} {Q : Env → Shared → Prop}
    (hQ : Q (newEnv scope s.heap.objs.size env.globals (cellsFrom (s.heap.objs.size + 1) scope.names cl) env.qual none .none (some env) builtinsNs) { s with heap := pushCells (s.heap.push { cls := .type "dict", data := .dict #[] }) scope.names }) :
    wpAny M A (newFunctionEnv scope env.globals cl [] env.qual none .none (some env)) Q E s := by
  simp only [newFunctionEnv, Option.isSome_some, if_true]
  refine wpAny_bind (wpAny_alloc ?_)
  refine wpAny_bind (wpAny_layCells _ (fun name kind cells => by cases hkc : kind == NameKind.cell <;> simp [hkc]) _ _ _ _ ?_)
  rw [show ({ s with heap := s.heap.push { cls := .type "dict", data := .dict #[] } } : Shared).heap.objs.size = s.heap.objs.size + 1 from Heap.size_push ..]
  simp only [List.forIn_nil]
  exact wpAny_bind (wpAny_pure (wpAny_pure hQ))
section
variable {prog : Program} {w : World} {A : Around} {R : Result → Shared → Prop} {s : Shared}
theorem compLoop_gen {elt target iter : Expr} {ifs : List Expr} {scope : Scope} {pos : Pos} {it acc : Value} {env : Env} (I : Nat → Shared → Prop)
    (turn : ∀ n s, I n s → wpAny (model prog w) A (pyNext it) (fun r s₁ => match r with
      | none => R (.ok .next) s₁
      | some v => wpAny (model prog w) A (letOwnedTupleGo target it v) (fun _ s₁' => wpAny (model prog w) A (assign target env v) (fun _ s₂ =>
          wpAny (model prog w) A (forIn ifs true fun c r => if r = true then do let ok ← isTrue c env (eval c env); pure (ForInStep.yield ok) else pure (ForInStep.yield r)) (fun ok s₃ =>
            if ok = true then wpAny (model prog w) A (eval elt env) (fun x s₄ =>
              wpAny (model prog w) A (call (.builtin "list.append") [acc, x]) (fun _ s₅ => ∃ m, m < n ∧ I m s₅) (fun _ _ => False) s₄) (fun _ _ => False) s₃
            else ∃ m, m < n ∧ I m s₃) (fun _ _ => False) s₂) (fun _ _ => False) s₁') (fun _ _ => False) s₁) (fun _ _ => False) s)
    (n : Nat) (h : I n s) : codeAny (model prog w) A (.compLoop (.ListComp elt [⟨target, iter, ifs, 0⟩] scope pos) 0 it acc env) R s := by
  refine codeAny_loop rfl I (fun n s hI => ?_) n h
  show wpAny _ A ((compTurn (.ListComp elt [⟨target, iter, ifs, 0⟩] scope pos) 0 it acc env).onRaise (fun x => do noteFrame x env; theTreesLotGoes x)) _ _ s
  refine wpAny_noted ?_
  rw [compTurn_list]
  refine wpAny_bind (wpAny_standAt (wpAny_bind (wpAny_mono (turn n s hI) (fun r s₁ h₁ => ?_) fun _ _ h' => h'.elim)))
  cases r with
  | none => exact wpAny_pure h₁
  | some v =>
    refine wpAny_bind (wpAny_mono h₁ (fun _ s₁' h₁' => ?_) fun _ _ h' => h'.elim)
    refine wpAny_bind (wpAny_mono h₁' (fun _ s₂ h₂ => wpAny_bind (wpAny_mono h₂ (fun ok s₃ h₃ => ?_) fun _ _ h' => h'.elim)) fun _ _ h' => h'.elim)
    cases ok with
    | true =>
      rw [if_pos rfl] at h₃
      exact wpAny_bind (wpAny_bind (wpAny_mono h₃ (fun x s₄ h₄ => wpAny_bind (wpAny_mono h₄ (fun _ s₅ h₅ => wpAny_pure (wpAny_pure ⟨rfl, h₅⟩)) fun _ _ h' => h'.elim)) fun _ _ h' => h'.elim))
    | false =>
      rw [if_neg Bool.false_ne_true] at h₃
      exact wpAny_pure ⟨rfl, h₃⟩
end
def ownFn (scope : Scope) (x : Str) : Bool := scope.names.lookup x == some .local || scope.names.lookup x == some .cell
def compCx (X : Cx) (scope : Scope) (N : List Str) (s : Shared) (H : Hp) (C : Addr) (fp : List Addr) : Cx :=
  { X with N := N, s₀ := s, H₀ := H, env := compEnvC scope (cellsFrom (C + 1) scope.names (closeOf X.env scope.names [])) C X.env, outer := X.stack, ex := fp, fn := ownFn scope, pn := [], xe := fun _ _ => False }
def capSt (cap : List (Option Nat)) (σ : St) : St := cap.map fun o => o.bind fun j => (σ[j]?).bind id
structure CompScope (X : Cx) (scope : Scope) (N : List Str) (cap : List (Option Nat)) : Prop where
  kind : scope.kind = .function
  nd : N.Nodup
  len : cap.length = N.length
  uniq : (scope.names.map (·.1)).Nodup
  free : ∀ x ∈ scope.names, x.2 = .free → (X.env.kindOf x.1 = some .cell ∨ X.env.kindOf x.1 = some .free)
  cap : ∀ (k : Nat) (x : Str) (j : Nat), N[k]? = some x → cap[k]? = some (some j) → X.N[j]? = some x ∧ (x, NameKind.free) ∈ scope.names
theorem lookup_nodup {α : Type} : ∀ {l : List (Str × α)} {x : Str} {k : α}, (l.map (·.1)).Nodup → (x, k) ∈ l → l.lookup x = some k
  | (y, j) :: r, x, k, nd, h => by
    obtain ⟨n1, n2⟩ := List.nodup_cons.mp (show (y :: r.map (·.1)).Nodup from nd)
    rw [List.lookup_cons]
    rcases List.mem_cons.mp h with e | h
    · cases e; simp
    · have : (x == y) = false := beq_eq_false_iff_ne.mpr fun e => n1 (e ▸ List.mem_map.mpr ⟨(x, k), h, rfl⟩)
      rw [this]
      exact lookup_nodup n2 h
theorem relabel_lookup {env : Env} : ∀ {names : List (Str × NameKind)} {x : Str}, (names.map fun (p : Str × NameKind) => if (p.2 == NameKind.free && env.scope.kind == .function && env.kindOf p.1 == some .cell) = true then (p.1, NameKind.cell) else (p.1, p.2)).lookup x =
    (names.lookup x).map fun k => if (k == NameKind.free && env.scope.kind == .function && env.kindOf x == some .cell) = true then .cell else k
  | [], _ => rfl
  | (n, k) :: r, x => by
    rw [List.map_cons]
    have ih := @relabel_lookup env r x
    by_cases hx : x = n
    · subst hx
      by_cases hc : (k == NameKind.free && env.scope.kind == .function && env.kindOf x == some .cell) = true
      · simp only [hc, if_true, List.lookup_cons, beq_self_eq_true, Option.map_some]
      · rw [if_neg hc, List.lookup_cons, List.lookup_cons, beq_self_eq_true]; simp only [Option.map_some]; rw [if_neg hc]
    · have hb : (x == n) = false := beq_eq_false_iff_ne.mpr hx
      by_cases hc : (k == NameKind.free && env.scope.kind == .function && env.kindOf n == some .cell) = true
      · simp only [hc, if_true, List.lookup_cons, hb]; exact ih
      · rw [if_neg hc, List.lookup_cons, List.lookup_cons, hb]; exact ih
end L2
namespace L2
open PySem PySem.Spec PyProof.Rows
def PTs (X : Cx) (ifs : List Expr) (t : TT) : Prop :=
  ∀ (pins : List (Addr × Obj)) (s : Shared) (σ : St) (H : Hp) (Q : Bool → Hp → Prop), Inv X pins σ H s → t σ H Q →
    wpAny (model X.prog X.w) X.A (forIn ifs true fun c r => if r = true then do let ok ← isTrue c X.env (eval c X.env); pure (ForInStep.yield ok) else pure (ForInStep.yield r)) (TP X pins σ Q) X.xe s
def tYes : TT := fun _ H Q => Q true H
theorem pts_nil {X : Cx} : PTs X [] tYes := fun _ _ _ H _ I h => wpAny_tests_nil ⟨H, I, h⟩
def Keep : St → St → Prop
  | [], _ => True
  | none :: a, _ :: b => Keep a b
  | some v :: a, some u :: b => v = u ∧ Keep a b
  | _, _ => False
theorem Keep.get : ∀ {a b : St} {j : Nat} {v : V}, Keep a b → a[j]? = some (some v) → b[j]? = some (some v)
  | [], _, _, _, _, h => by simp at h
  | none :: a, _ :: b, 0, _, _, h => by simp at h
  | none :: a, _ :: b, j + 1, v, k, h => Keep.get (j := j) (a := a) (b := b) k h
  | some w :: a, some u :: b, 0, v, k, h => by
    have e : w = u := k.1
    subst e
    exact h
  | some w :: a, some u :: b, j + 1, v, k, h => Keep.get (j := j) (a := a) (b := b) k.2 h
  | none :: _, [], _, _, k, _ => k.elim
  | some _ :: _, [], _, _, k, _ => k.elim
  | some _ :: _, none :: _, _, _, k, _ => k.elim
def CompW (cap : List (Option Nat)) (g : TG) (tf : TT) (te : TE) (σ : St) (H1 : Hp) (Q : VK) (J : It) : Prop := ∃ W : Nat → Nat → List V → Hp → Prop, (∃ m, W 0 m [] H1) ∧ ∀ i m ys H, W i m ys H → ys.length < sizeLine ∧
  ((J.stop i H ∧ ∀ D, H D = none → Q (.ref D) (upd H D (.lst ys))) ∨
   (J.go i H ∧ ∃ N : List V → Hp → Prop, (∀ ys' H', N ys' H' → ∃ m', m' < m ∧ W (i + 1) m' ys' H') ∧ ∀ x H', J.yld i H x H' → g x (capSt cap σ) H' fun σ2 H2 => Keep (capSt cap σ) σ2 ∧ tf σ2 H2 fun b H3 => if b = true then te σ2 H3 fun y H4 => N (ys ++ [y]) H4 else N ys H3))
def tComp (cap : List (Option Nat)) (wi : TI) (g : TG) (tf : TT) (te : TE) : TE := fun σ H Q => wi σ H fun J H1 => CompW cap g tf te σ H1 Q J
theorem comp_cells {X : Cx} {scope : Scope} {C : Addr} {x : Str} {c : Addr} (frc : ∀ x ∈ scope.names, x.2 = .free → ∃ c, X.env.cells.lookup x.1 = some c)
    (h : (cellsFrom (C + 1) scope.names (closeOf X.env scope.names [])).lookup x = some c) : (x, c) ∈ cellsFrom (C + 1) scope.names [] ∨ ((x, NameKind.free) ∈ scope.names ∧ X.env.cells.lookup x = some c) := by
  rw [cellsFrom_app, List.lookup_append] at h
  cases e : (cellsFrom (C + 1) scope.names []).lookup x with
  | some d =>
    rw [e] at h
    have h : some d = some c := h
    cases h
    exact .inl (PySem.mem_of_lookup e)
  | none =>
    rw [e] at h
    have h : (closeOf X.env scope.names []).lookup x = some c := h
    rcases closeOf_lookup _ _ frc h with q | q
    · exact .inr q
    · cases q
theorem comp_has {X : Cx} {scope : Scope} {C : Addr} {x : Str} {c : Addr} (uq : (scope.names.map (·.1)).Nodup) (hx : (x, NameKind.free) ∈ scope.names) (hc : X.env.cells.lookup x = some c) :
    (cellsFrom (C + 1) scope.names (closeOf X.env scope.names [])).lookup x = some c := by
  rw [cellsFrom_app, List.lookup_append]
  cases e : (cellsFrom (C + 1) scope.names []).lookup x with
  | some d =>
    have h1 := lookup_nodup uq (cellsFrom_names _ _ (PySem.mem_of_lookup e))
    have h2 := lookup_nodup uq hx
    rw [h1] at h2; cases h2
  | none => exact closeOf_has _ _ hx hc
section
variable {X : Cx} {scope : Scope} {N : List Str} {cap : List (Option Nat)} {pins : List (Addr × Obj)} {σ : St} {H : Hp} {s : Shared} {C : Addr} {fp : List Addr}
theorem compCx_ok {h4 : Heap} (S : CompScope X scope N cap) (I : Inv X pins σ H s) (hC : s.heap.objs.size ≤ C) (ck : CellsOk h4 (C + 1) (cellsFrom (C + 1) scope.names []))
    (hf : ∀ b ∈ fp, FpOk X pins H b) (hlt : ∀ b ∈ fp, b < C) : (compCx X scope N s H C fp).Ok := by
  have frc : ∀ x ∈ scope.names, x.2 = .free → ∃ c, X.env.cells.lookup x.1 = some c := fun x hx hk => I.ok.has x.1 (S.free x hx hk)
  have old : ∀ x c, X.env.cells.lookup x = some c → c < C := fun x c e => by
    obtain ⟨v, q⟩ := I.cell x c e
    exact Nat.lt_of_lt_of_le q.lt hC
  have own : ∀ x c, (x, c) ∈ cellsFrom (C + 1) scope.names [] → C < c := fun x c e => (ck.empty x c e).2
  refine ⟨I.ok.mod, S.kind, I.ok.glob, I.ok.blt, hC, fun x y c h1 h2 => ?_, fun x hx => ?_, fun x c hfn h => ?_, I.ok.hd, I.ok.frames, .inl rfl, fun b hb => ⟨Nat.ne_of_lt (hlt b hb), fun x c h => ?_⟩, I.bs, Nat.le_trans I.ok.bsz I.sz, fun b o e hb => ?_, fun b hb z => ?_, I.stack, I.stkFree⟩
  · rcases comp_cells frc h1 with a | ⟨a1, a2⟩ <;> rcases comp_cells frc h2 with b | ⟨b1, b2⟩
    · exact name_of_addr ck.apart a b
    · exact absurd (Nat.lt_trans (own x c a) (old y c b2)) (Nat.lt_irrefl _)
    · exact absurd (Nat.lt_trans (own y c b) (old x c a2)) (Nat.lt_irrefl _)
    · exact I.ok.inj x y c a2 b2
  · have hx : (relabel scope X.env).names.lookup x = some .cell ∨ (relabel scope X.env).names.lookup x = some .free := hx
    have e : (relabel scope X.env).names.lookup x = _ := relabel_lookup (env := X.env) (names := scope.names) (x := x)
    rw [e] at hx
    cases q : scope.names.lookup x with
    | none => rw [q] at hx; rcases hx with z | z <;> cases z
    | some k =>
      have hm := PySem.mem_of_lookup q
      by_cases hk : k = .free
      · subst hk
        obtain ⟨c, hc⟩ := frc _ hm rfl
        exact ⟨c, comp_has S.uniq hm hc⟩
      · have hk' : (k == NameKind.free) = false := by simpa using hk
        rw [q] at hx
        simp only [Option.map_some, hk', Bool.false_and, Bool.false_eq_true, if_false] at hx
        have hkc : k = .cell := by
          rcases hx with z | z
          · exact Option.some.inj z
          · exact absurd (Option.some.inj z) hk
        subst hkc
        exact Option.isSome_iff_exists.mp (PySem.W.cellsFrom_some scope.names (C + 1) _ (.inl q))
  · rcases comp_cells frc h with a | ⟨a1, a2⟩
    · exact Nat.le_trans hC (Nat.le_of_lt (own x c a))
    · have q := lookup_nodup S.uniq a1
      have z : ownFn scope x = true := hfn
      unfold ownFn at z
      rw [q] at z
      exact absurd z (by decide)
  · rcases comp_cells frc h with a | ⟨a1, a2⟩
    · exact Nat.ne_of_gt (Nat.lt_trans (hlt b hb) (own x c a))
    · exact (hf b hb).2.2.2.2.1 x c a2
  · rcases (hf b hb).2.2.2.1 with z | z
    · exact I.ok.noex b o e z
    · exact absurd (Nat.lt_of_lt_of_le (Nat.lt_of_lt_of_le (Heap.lt_size e) I.ok.bsz) z) (Nat.lt_irrefl _)
  · rcases List.mem_cons.mp (I.stkSub b z) with q | q
    · exact (hf b hb).2.1 q
    · exact (hf b hb).2.2.1 q
theorem comp_start {s4 : Shared} (S : CompScope X scope N cap) (I : Inv X pins σ H s) (hC : s.heap.objs.size ≤ C) (ck : CellsOk s4.heap (C + 1) (cellsFrom (C + 1) scope.names []))
    (hf : ∀ b ∈ fp, FpOk X pins H b) (hlt : ∀ b ∈ fp, b < C) (h4 : ∃ h' tk, s4 = { s with heap := h', toks := tk }) (hn : s4.heap.Ns C fun _ => none) (hk : ∀ b o, s.heap.get? b = some o → s4.heap.get? b = some o) :
    Inv (compCx X scope N s H C fp) [] (capSt cap σ) H s4 := by
  have frc : ∀ x ∈ scope.names, x.2 = .free → ∃ c, X.env.cells.lookup x.1 = some c := fun x hx hk => I.ok.has x.1 (S.free x hx hk)
  obtain ⟨h', tk, rfl⟩ := h4
  refine ⟨compCx_ok S I hC ck hf hlt, rfl, I.bare, Un.kept hk, ⟨_, hn, fun i x v e1 e2 e3 => ?_⟩, fun x c h => ?_, I.hok.fresh hC, fun x c h => ?_, fun p hp => absurd (show p ∈ ([] : List (Addr × Obj)) from hp) (by simp), I.hok.kept hk, ?_⟩
  · have e1 : N[i]? = some x := e1
    unfold capSt at e2
    rw [List.getElem?_map] at e2
    cases q : cap[i]? with
    | none => rw [q] at e2; cases e2
    | some o =>
      cases o with
      | none => rw [q] at e2; cases e2
      | some j =>
        rw [q] at e2
        obtain ⟨hj, hm⟩ := S.cap i x j e1 q
        have e2 : σ[j]?.bind id = some v := Option.some.inj e2
        have e2' : σ[j]? = some (some v) := by
          cases z : σ[j]? with
          | none => rw [z] at e2; cases e2
          | some o => rw [z] at e2; exact congrArg some e2
        have kd := S.free _ hm rfl
        obtain ⟨m, _, hl⟩ := I.loc
        obtain ⟨u, r, lk⟩ := hl j x v hj e2' (by rcases kd with z | z; exact .inr (.inl z); exact .inr (.inr z))
        refine ⟨u, r, .inr ?_⟩
        rcases lk with ⟨z, _⟩ | ⟨_, c, hc, hcell⟩
        · rcases kd with q | q <;> · rw [show X.env.kindOf x = _ from q] at z; cases z
        · refine ⟨?_, c, comp_has S.uniq hm hc, hcell.keeps hk⟩
          have e : (relabel scope X.env).names.lookup x = _ := relabel_lookup (env := X.env) (names := scope.names) (x := x)
          rw [lookup_nodup S.uniq hm] at e
          simp only [Option.map_some] at e
          show (relabel scope X.env).names.lookup x = some .cell ∨ (relabel scope X.env).names.lookup x = some .free
          rw [e]
          split
          · exact .inl rfl
          · exact .inr rfl
  · rcases comp_cells frc h with a | ⟨a1, a2⟩
    · exact ⟨_, (ck.empty x c a).1⟩
    · obtain ⟨v, q⟩ := I.cell x c a2
      exact ⟨v, q.keeps hk⟩
  · rcases comp_cells frc h with a | ⟨a1, a2⟩
    · exact I.hok.fresh (Nat.le_trans hC (Nat.le_of_lt (ck.empty x c a).2))
    · exact I.freeC x c a2
  · show (capSt cap σ).length = N.length
    unfold capSt
    rw [List.length_map, S.len]
end
end L2
namespace L2
open PySem PySem.Spec PyProof.Rows
abbrev lObj (its : List Value) (k : Nat) : Obj := { cls := .type "list", data := .seq its.toArray k }
section
variable {X : Cx} {scope : Scope} {N : List Str} {cap : List (Option Nat)} {tg iter elt : Expr} {ifs : List Expr} {pos : Pos} {wi : TI} {g : TG} {tf : TT} {te : TE}
theorem comp_core (S : CompScope X scope N cap) (hc : X.calm = true)
    (hg : ∀ s H C fp, PG (compCx X scope N s H C fp) tg g) (hf : ∀ s H C fp, PTs (compCx X scope N s H C fp) ifs tf) (he : ∀ s H C fp, PE (compCx X scope N s H C fp) elt te)
    {pins : List (Addr × Obj)} {σ : St} {H2 : Hp} {s2 : Shared} {it : Addr} {fp : List Addr} {tn : Nat → Heap → Prop} {J : It} {Qv : VK} {E : Value → Shared → Prop} {RR : Value → Addr → Result → Shared → Prop}
    (I2 : Inv X pins σ H2 s2) (T : Turn X.prog X.w X.K tg J fp it tn) (st2 : tn 0 s2.heap) (f2 : ∀ b ∈ fp, FpOk X pins H2 b) {W : Nat → Nat → List V → Hp → Prop} (w0 : ∃ m, W 0 m [] H2)
    (turn : ∀ i m ys H, W i m ys H → ys.length < sizeLine ∧ ((J.stop i H ∧ ∀ D, H D = none → Qv (.ref D) (upd H D (.lst ys))) ∨
      (J.go i H ∧ ∃ N : List V → Hp → Prop, (∀ ys' H', N ys' H' → ∃ m', m' < m ∧ W (i + 1) m' ys' H') ∧ ∀ x H', J.yld i H x H' → g x (capSt cap σ) H' fun σ2 H2 => Keep (capSt cap σ) σ2 ∧ tf σ2 H2 fun b H3 => if b = true then te σ2 H3 fun y H4 => N (ys ++ [y]) H4 else N ys H3)))
    (fin : ∀ (D C : Addr) (σ' : St) (H' : Hp) (s' : Shared) (its : List Value) (k : Nat) (ys : List V), s2.heap.objs.size ≤ D → s2.heap.objs.size ≤ C → D ≠ C → Inv (compCx X scope N s2 H2 C fp) [(D, lObj its k)] σ' H' s' → Vals ys its → ys.length ≤ sizeLine →
      Qv (.ref D) (upd H' D (.lst ys)) → RR (.ref D) C (.ok .next) s') :
    wpAny (model X.prog X.w) X.A (newList []) (fun acc s₃ => wpAny (model X.prog X.w) X.A (newFunctionEnv scope X.env.globals (closeOf X.env scope.names []) [] X.env.qual none .none (some X.env)) (fun cenv s₄ =>
      codeAny (model X.prog X.w) X.A (.compStart (.ListComp elt [⟨tg, iter, ifs, 0⟩] scope pos) 0 (.ref it) acc { cenv with scope := relabel scope X.env }) (RR acc cenv.locals) s₄) E s₃) E s2 := by
  refine wpAny_newObj_type (newCompEnv ?_)
  generalize hD : s2.heap.objs.size = D
  generalize hH3 : s2.heap.push { cls := .type "list", dict := none, data := .seq ([] : List Value).toArray } = h3
  have hz3 : h3.objs.size = D + 1 := by rw [← hH3, Heap.size_push, hD]
  dsimp only
  have eC : ({ s2 with heap := h3 } : Shared).heap.objs.size = D + 1 := hz3
  rw [show h3.objs.size = D + 1 from hz3]
  generalize hH4 : pushCells (h3.push { cls := .type "dict", data := .dict #[] }) scope.names = h4
  have hz3' : (h3.push { cls := .type "dict", data := .dict #[] }).objs.size = D + 1 + 1 := by rw [Heap.size_push, hz3]
  have ck : CellsOk h4 (D + 1 + 1) (cellsFrom (D + 1 + 1) scope.names []) := by
    have := cellsFrom_ok scope.names (h3.push { cls := .type "dict", data := .dict #[] }) (D + 1 + 1) [] ⟨fun _ _ hm => (nomatch hm), List.Pairwise.nil⟩ (by rw [hz3']; exact Nat.le_refl _)
    rw [hz3', hH4] at this
    exact this
  have k23 : ∀ b o, s2.heap.get? b = some o → h3.get? b = some o := fun b o e => by rw [← hH3]; exact Heap.get?_push_of_some _ e
  have k34 : ∀ b o, h3.get? b = some o → h4.get? b = some o := fun b o e => by rw [← hH4]; exact pushCells_keeps _ _ b o (Heap.get?_push_of_some _ e)
  have hD4 : h4.get? D = some (lObj [] 0) := k34 _ _ (by rw [← hH3, ← hD]; exact Heap.get?_push_size _ rfl)
  have hn4 : h4.Ns (D + 1) fun _ => none := by
    rw [← hH4, ← hz3]
    exact (Heap.Ns.new h3 (.type "dict")).keeps (pushCells_keeps _ _)
  have fpD : ∀ b ∈ fp, b < D := fun b hb => by
    obtain ⟨o, e, _⟩ := T.obj _ _ st2 b hb
    rw [← hD]; exact Heap.lt_size e
  have hlt : ∀ b ∈ fp, b < D + 1 := fun b hb => Nat.lt_succ_of_lt (fpD b hb)
  have hDC : s2.heap.objs.size ≤ D + 1 := by rw [hD]; exact Nat.le_succ _
  have hDs : s2.heap.objs.size ≤ D := by rw [hD]; exact Nat.le_refl _
  have IC : Inv (compCx X scope N s2 H2 (D + 1) fp) [] (capSt cap σ) H2 { s2 with heap := h4 } :=
    comp_start S I2 hDC ck f2 hlt ⟨_, _, rfl⟩ hn4 fun b o e => k34 b o (k23 b o e)
  have okC := IC.ok
  have nfs : ∀ {b : Addr}, s2.heap.objs.size ≤ b → b ∉ frs X.stack := fun {b} hb hm => by
    obtain ⟨_, o, ho, _⟩ := I2.stack.mem hm
    exact absurd (Nat.lt_of_lt_of_le (Heap.lt_size ho) hb) (Nat.lt_irrefl _)
  have frc : ∀ x ∈ scope.names, x.2 = .free → ∃ c, X.env.cells.lookup x.1 = some c := fun x hx hk => I2.ok.has x.1 (S.free x hx hk)
  have cellsD : ∀ x c, (compCx X scope N s2 H2 (D + 1) fp).env.cells.lookup x = some c → c ≠ D := fun x c e => by
    rcases comp_cells frc e with a | ⟨_, a⟩
    · have q : D + 1 + 1 ≤ c := (ck.empty x c a).2
      exact Nat.ne_of_gt (Nat.lt_of_lt_of_le (Nat.lt_of_lt_of_le (Nat.lt_succ_self D) (Nat.le_succ _)) q)
    · obtain ⟨v, q⟩ := I2.cell x c a
      have := q.lt
      rw [hD] at this
      exact Nat.ne_of_lt this
  have fpO : ∀ {H' : Hp} {its : List Value} {k : Nat}, (∀ b ∈ fp, H' b = none) → ∀ b ∈ fp, FpOk (compCx X scope N s2 H2 (D + 1) fp) [(D, lObj its k)] H' b := fun {H' its k} hn b hb =>
    ⟨hn b hb, Nat.ne_of_lt (hlt b hb), okC.exfs b hb, .inl hb, (okC.exf b hb).2, fun p hp => by
      have e : p = (D, lObj its k) := by simpa [compCx] using hp
      subst e
      exact Nat.ne_of_gt (fpD b hb)⟩
  have pinD : ∀ {σ' : St} {H' : Hp} {s' : Shared} {its : List Value} {k : Nat}, Inv (compCx X scope N s2 H2 (D + 1) fp) [] σ' H' s' → s'.heap.get? D = some (lObj its k) → H' D = none → Inv (compCx X scope N s2 H2 (D + 1) fp) [(D, lObj its k)] σ' H' s' := fun {σ' H' s' its k} J e n =>
    J.pins_of fun p hp => by
      have e' : p = (D, lObj its k) := by simpa using hp
      subst e'
      exact ⟨e, n, Nat.ne_of_lt (Nat.lt_succ_self _), nfs hDs, fun v z => by
        have z' : Data.seq its.toArray k = Data.cell v := z
        cases z'⟩
  have loop : codeAny (model X.prog X.w) X.A (.compLoop (.ListComp elt [⟨tg, iter, ifs, 0⟩] scope pos) 0 (.ref it) (.ref D) (compCx X scope N s2 H2 (D + 1) fp).env) (RR (.ref D) (D + 1)) { s2 with heap := h4 } := by
    obtain ⟨m0, w0⟩ := w0
    refine compLoop_gen (fun n s' => ∃ i ys its k σ' H', Inv (compCx X scope N s2 H2 (D + 1) fp) [(D, lObj its k)] σ' H' s' ∧ tn i s'.heap ∧ (∀ b ∈ fp, H' b = none) ∧ Vals ys its ∧ (∀ (j : Nat) (v : V), (capSt cap σ)[j]? = some (some v) → σ'[j]? = some (some v)) ∧ W i n ys H') ?_ m0
      ⟨0, [], [], 0, capSt cap σ, H2, pinD IC hD4 (I2.hok.fresh hDs), T.keep _ _ _ st2 fun b hb o e => k34 b o (k23 b o e), fun b hb => (f2 b hb).1, .nil, fun _ _ e => e, w0⟩
    rintro n s3 ⟨i, ys, its, k, σ3, H3, I3, st3, fr3, rv, kp, w3⟩
    obtain ⟨hyl, tr⟩ := turn i n ys H3 w3
    have pin3 := I3.pin (D, lObj its k) (List.mem_append_right _ List.mem_cons_self)
    rcases tr with ⟨stop, qn⟩ | ⟨go, NN, hNN, step⟩
    · refine thn (T.done (compCx X scope N s2 H2 (D + 1) fp) rfl rfl rfl hc i _ s3 σ3 H3 _ I3 (fpO fr3) st3 stop) fun r s4 ⟨hr, I4⟩ => ?_
      subst hr
      exact fin D (D + 1) σ3 H3 s4 its k ys hDs hDC (Nat.ne_of_lt (Nat.lt_succ_self _)) I4 rv (Nat.le_of_lt hyl) (qn D pin3.2.1)
    · have I3' : Inv (compCx X scope N s2 H2 (D + 1) fp) [(D, lObj its k)] (capSt cap σ) H3 s3 := I3.weak (by rw [I3.len, IC.len]) kp
      refine thn (T.item (compCx X scope N s2 H2 (D + 1) fp) rfl rfl rfl hc i _ s3 _ H3 _ I3' (fpO fr3) st3 go) fun r s4 ⟨u, hr, h4⟩ => ?_
      subst hr
      refine thn h4 fun _ s5 ⟨x, H5, I5, r5, y5, st5, fr5⟩ => ?_
      have I5' := I5.pinned (fpO fr5) (T.obj _ _ st5)
      refine thn (hg _ _ _ _ _ s5 _ H5 x u _ I5' r5 (step x H5 y5)) fun _ s6 ⟨σ6, H6, I6, kp6, q6⟩ => ?_
      refine thn (hf _ _ _ _ _ s6 σ6 H6 _ I6 q6) fun ok s7 ⟨H7, I7, q7⟩ => ?_
      have back : ∀ {s8 : Shared} {H8 : Hp}, Inv (compCx X scope N s2 H2 (D + 1) fp) ([(D, lObj its k)] ++ pinsAt fp s5.heap) σ6 H8 s8 → tn (i + 1) s8.heap ∧ (∀ b ∈ fp, H8 b = none) ∧ s8.heap.get? D = some (lObj its k) ∧ H8 D = none := fun {s8 H8} I8 => by
        have at_ : ∀ b ∈ fp, ∀ o, s5.heap.get? b = some o → s8.heap.get? b = some o ∧ H8 b = none := fun b hb o e => by
          have z := I8.pin (b, o) (List.mem_append_right _ (List.mem_append_right _ (mem_pinsAt hb e)))
          exact ⟨z.1, z.2.1⟩
        have pd := I8.pin (D, lObj its k) (List.mem_append_right _ (List.mem_append_left _ List.mem_cons_self))
        refine ⟨T.keep _ _ _ st5 fun b hb o e => (at_ b hb o e).1, fun b hb => ?_, pd.1, pd.2.1⟩
        obtain ⟨o, e, d⟩ := T.obj _ _ st5 b hb
        exact (at_ b hb o e).2
      cases ok with
      | false =>
        rw [if_neg Bool.false_ne_true] at q7 ⊢
        obtain ⟨m', hm, w'⟩ := hNN _ _ q7
        obtain ⟨t7, f7, d7, n7⟩ := back I7
        exact ⟨m', hm, i + 1, ys, its, k, σ6, H7, I7.unpinned, t7, f7, rv, fun j v e => Keep.get kp6 e, w'⟩
      | true =>
        rw [if_pos rfl] at q7 ⊢
        refine thn (he _ _ _ _ _ s7 σ6 H7 _ I7 q7) fun y8 s8 ⟨y, H8, I8, r8, q8⟩ => ?_
        obtain ⟨m', hm, w'⟩ := hNN _ _ q8
        obtain ⟨t8, f8, d8, n8⟩ := back I8
        refine append_at (D := D) (its := its.toArray) (n := k) d8 (fun h' hs' hD' => ?_) (by rw [List.size_toArray, ← rv.length]; exact Nat.le_of_lt hyl)
        have J0 : Inv (compCx X scope N s2 H2 (D + 1) fp) [] σ6 H8 s8 := I8.pins_of fun p hp => by cases hp
        have J1 : Inv (compCx X scope N s2 H2 (D + 1) fp) [] σ6 H8 { s8 with heap := h' } := J0.turned (it := D) (t' := s8.toks) (fun b o hb e => (hs'.2 b hb).trans e) n8 (Nat.ne_of_lt (Nat.lt_succ_self _)) (.inr hDs) cellsD fun p hp => by
          have : p ∈ ([] : List (Addr × Obj)) := hp
          cases this
        refine ⟨m', hm, i + 1, ys ++ [y], its ++ [y8], k + 1, σ6, H8, pinD J1 (by simpa using hD') n8, T.keep _ _ _ t8 fun b hb o e => (hs'.2 b (Nat.ne_of_lt (fpD b hb))).trans e, f8, rv.append (.cons r8 .nil), fun j v e => Keep.get kp6 e, w'⟩
  exact codeAny_compStart_list loop (wpAny_mono (T.self _ 0 _ _ _ (T.keep _ _ _ st2 fun b hb o e => k34 b o (k23 b o e)) loop) (fun _ _ h => h) fun _ _ h => h)
end
end L2
namespace L2
open PySem PySem.Spec PyProof.Rows
section
variable {X : Cx} {scope : Scope} {N : List Str} {cap : List (Option Nat)} {tg iter elt : Expr} {ifs : List Expr} {pos : Pos} {wi : TI} {g : TG} {tf : TT} {te : TE}
theorem comp_out {pins : List (Addr × Obj)} {σ σ' : St} {H2 H' : Hp} {s2 s' : Shared} {fp : List Addr} {D C : Addr} {its : List Value} {k : Nat} {ys : List V} {h' : Heap} (I2 : Inv X pins σ H2 s2) (f2 : ∀ b ∈ fp, FpOk X pins H2 b)
    (hD : s2.heap.objs.size ≤ D) (hC : s2.heap.objs.size ≤ C) (hDC : D ≠ C) (I' : Inv (compCx X scope N s2 H2 C fp) [(D, lObj its k)] σ' H' s') (rv : Vals ys its) (hl : ys.length ≤ sizeLine) (hs : Heap.SameBut C s'.heap h') :
    Inv X pins σ (upd H' D (.lst ys)) { s' with heap := h' } := by
  have pd := I'.pin (D, lObj its k) (List.mem_append_right _ List.mem_cons_self)
  have nD : H' D = none := pd.2.1
  have nC : H' C = none := I'.free
  have lt2 : ∀ b o, s2.heap.get? b = some o → b ≠ D ∧ b ≠ C := fun b o e => ⟨Nat.ne_of_lt (Nat.lt_of_lt_of_le (Heap.lt_size e) hD), Nat.ne_of_lt (Nat.lt_of_lt_of_le (Heap.lt_size e) hC)⟩
  have hk : ∀ b o, b ≠ C → s'.heap.get? b = some o → h'.get? b = some o := fun b o hb e => (hs.2 b hb).trans e
  have B : Un (frs X.stack) fp H2 H' s2.heap s'.heap := I'.base
  have tr : ∀ b u, H' b = some u → b ≠ D ∧ b ≠ C := fun b u e => ⟨fun z => (by rw [z, nD] at e; cases e), fun z => (by rw [z, nC] at e; cases e)⟩
  refine I2.call' (ch := fp) I'.os ⟨fun b o e n hb hx => ?_, fun b o e n hb hx => ?_, fun b o e n hx => ?_, fun b o e hx => ?_, fun b xs e => ?_, fun b o u e => ?_, fun b ps e => ?_⟩ (fun b u e => ?_) I'.bare fun b hb => ⟨(f2 b hb).2.2.2.1, (f2 b hb).2.1, (f2 b hb).2.2.2.2.1, (f2 b hb).2.2.2.2.2⟩
  · exact hk b o (lt2 b o e).2 (B.keep b o e n hb hx)
  · obtain ⟨sl, q⟩ := B.slot b o e n hb hx
    exact ⟨sl, hk b _ (lt2 b o e).2 q⟩
  · rw [upd_ne (lt2 b o e).1]; exact B.free b o e n hx
  · obtain ⟨o', q⟩ := B.there b o e hx
    exact ⟨o', hk b _ (lt2 b o e).2 q⟩
  · rw [upd_ne (tr b _ (B.tups b xs e)).1]; exact B.tups b xs e
  · rw [upd_ne (tr b _ (B.frzs b o u e)).1]; exact B.frzs b o u e
  · obtain ⟨more, q⟩ := B.tbls b ps e
    exact ⟨more, by rw [upd_ne (tr b _ q).1]; exact q⟩
  · by_cases hb : b = D
    · subst hb
      rw [upd_same] at e; cases e
      exact ⟨hl, its, k, rv, hk _ _ hDC pd.1⟩
    · rw [upd_ne hb] at e
      refine (I'.hok b u e).stay (fun c w' hc q => hk c w' ?_ q) (fun c q => by rw [upd_ne (tr c _ q).1]; exact q) fun c xs q => by rw [upd_ne (tr c _ q).1]; exact q
      rcases hc with z | z
      · rw [z]; exact (tr b u e).2
      · exact (tr c _ z).2
theorem comp_names (S : CompScope X scope N cap) : ∀ x ∈ scope.names, x.2 = .local → scope.names.lookup x.1 = some .local := fun x hx hl => lookup_nodup S.uniq (by rw [← hl]; exact hx)
theorem pe_comp (S : CompScope X scope N cap) (hc : X.calm = true) (hi : PI X tg iter wi)
    (hg : ∀ s H C fp, PG (compCx X scope N s H C fp) tg g) (hf : ∀ s H C fp, PTs (compCx X scope N s H C fp) ifs tf) (he : ∀ s H C fp, PE (compCx X scope N s H C fp) elt te)
    (hs : ∀ x, foldedSetIterable iter X.env x = pure x := by intro _; rfl) : PE X (.ListComp elt [⟨tg, iter, ifs, 0⟩] scope pos) (tComp cap wi g tf te) := by
  intro pins s σ H Q I h
  rw [eval_ListComp]
  have frc : ∀ x ∈ scope.names, x.2 = .free → ∃ c, X.env.cells.lookup x.1 = some c := fun x hx hk => I.ok.has x.1 (S.free x hx hk)
  refine wpAny_comprehension_free (use := none) rfl hs (closureFor_eq frc) S.kind (comp_names S) (thn (hi pins s σ H _ I h) fun v s1 h1 => thn h1 fun itv s2 h2 => ?_)
  obtain ⟨it, fp, tn, J, H2, rfl, I2, T, st2, f2, W, w0, turn⟩ := h2
  refine comp_core (RR := fun acc C => compPost (model X.prog X.w) X.A X.xe none (EP X pins σ Q) acc C) S hc hg hf he I2 T st2 f2 w0 turn fun D C σ' H' s' its k ys hD hC hDC I' rv hl q => ?_
  obtain ⟨m, hn, _⟩ := I'.loc
  exact ⟨m, hn, fun h' hs' => ⟨.ref D, _, comp_out I2 f2 hD hC hDC I' rv hl hs', rfl, q⟩⟩
end
end L2
namespace L2
open PySem PySem.Spec PyProof.Rows
section
variable {X : Cx} {scope : Scope} {N : List Str} {cap : List (Option Nat)} {tg iter elt : Expr} {ifs : List Expr} {pos spos py : Pos} {wi : TI} {g : TG} {tf : TT} {te : TE} {i : Nat} {y : Str}
theorem ps_setComp (hN : X.N.Nodup) (hi' : X.N[i]? = some y) (hy : Loc X.env.scope y) (S : CompScope X scope N cap) (hc : X.calm = true) (hi : PI X tg iter wi)
    (hg : ∀ s H C fp, PG (compCx X scope N s H C fp) tg g) (hf : ∀ s H C fp, PTs (compCx X scope N s H C fp) ifs tf) (he : ∀ s H C fp, PE (compCx X scope N s H C fp) elt te)
    (hsw : swapsWith (.ListComp elt [⟨tg, iter, ifs, 0⟩] scope pos) (some (.Name y py)) spos.line X.env = pure true := by rfl)
    (hs : ∀ x, foldedSetIterable iter X.env x = pure x := by intro _; rfl) (hfn : X.fn y = true ∨ X.env.scope.names.lookup y = some .local := by first | exact .inl rfl | exact .inr rfl | assumption) :
    PS X (.Assign [.Name y py] (.ListComp elt [⟨tg, iter, ifs, 0⟩] scope pos) spos) (tAsg (tComp cap wi g tf te) (gName i)) := by
  intro pins s σ H D I h
  rw [exec_Assign_Name_used _ _ _ _ hsw]
  refine wpAny_bind (wpAny_standAt (wpAny_bind ?_))
  show wpAny _ X.A (do let _ ← comprehension (.ListComp elt [⟨tg, iter, ifs, 0⟩] scope pos) scope X.env _ (newList []) false (eval iter X.env) (some (assign (.Name y py) X.env))) _ _ s
  have frc : ∀ x ∈ scope.names, x.2 = .free → ∃ c, X.env.cells.lookup x.1 = some c := fun x hx hk => I.ok.has x.1 (S.free x hx hk)
  refine wpAny_bind (wpAny_mono (wpAny_comprehension_free (use := some (assign (.Name y py) X.env)) (Q := fun _ s' => SP X pins D .next s') rfl hs (closureFor_eq frc) S.kind (comp_names S) (thn (hi pins s σ H _ I h) fun v s1 h1 => thn h1 fun itv s2 h2 => ?_)) (fun _ s' hq => wpAny_pure (wpAny_pure hq)) fun _ _ e => e)
  obtain ⟨it, fp, tn, J, H2, rfl, I2, T, st2, f2, W, w0, turn⟩ := h2
  refine comp_core (Qv := fun x H1 => gName i x σ H1 D.nx) (RR := fun acc C => compPost (model X.prog X.w) X.A X.xe (some (assign (.Name y py) X.env)) (fun _ s' => SP X pins D .next s') acc C) S hc hg hf he I2 T st2 f2 w0 turn fun d C σ' H' s' its k ys hD hC hDC I' rv hl q => ?_
  obtain ⟨m, hn, _⟩ := I'.loc
  have I3 : Inv X pins σ (upd H' d (.lst ys)) s' := comp_out (h' := s'.heap) I2 f2 hD hC hDC I' rv hl (.refl ..)
  have nC : (upd H' d (.lst ys)) C = none := by rw [upd_ne (Ne.symm hDC)]; exact I'.free
  have cL : C ≠ X.env.locals := fun z => absurd (Nat.lt_of_lt_of_le I2.lt hC) (by rw [z]; exact Nat.lt_irrefl _)
  have cc : ∀ x c, X.env.cells.lookup x = some c → c ≠ C := fun x c e z => by
    obtain ⟨v, q⟩ := I2.cell x c e
    exact absurd (Nat.lt_of_lt_of_le q.lt hC) (by rw [z]; exact Nat.lt_irrefl _)
  show wpAny _ X.A (assign (.Name y py) X.env (.ref d)) _ _ _
  refine wpAny_assign_Name (store_ok2 (v := .ref d) I3 hN hi' hy rfl (fun s4 I4 ⟨a, sb, ha⟩ => ?_) hfn)
  have aC : C ≠ a := by
    rcases ha with z | z
    · rw [z]; exact cL
    · exact Ne.symm (cc _ _ z)
  refine ⟨m, hn.sameBut sb aC, fun h' hs' => ?_⟩
  exact ⟨_, _, I4.turned (it := C) (t' := s4.toks) (fun b o hb e => (hs'.2 b hb).trans e) nC cL (.inr (Nat.le_trans I2.sz hC)) cc (fun p hp z => absurd (Nat.lt_of_lt_of_le (Heap.lt_size (I2.pin p hp).1) hC) (by rw [z]; exact Nat.lt_irrefl _)), q⟩
end
inductive Src where
  | lst (a : Addr) | tup (a : Addr) | str (l : List Nat)
def Src.has (K : PySem.W.Frag) (H : Hp) : Src → List V → Prop
  | .lst a, xs => SqL K H a xs
  | .tup a, xs => SqT K H a xs
  | .str l, xs => xs = l.map fun c => V.str (sOf [c])
def Src.at (it : Addr) (i : Nat) (h : Heap) : Src → Prop
  | .lst a => h.IsListIter it a i
  | .tup a => h.IsTupleIter it a i
  | .str l => ∃ t, h.IsStrIter it "str_ascii_iterator" (sOf l) t i ∨ h.IsStrIter it "str_iterator" (sOf l) t i
def Src.val : Src → V
  | .lst a => .ref a
  | .tup a => .ref a
  | .str l => .str (sOf l)
section
variable {P : Program} {w : World} {A : Around} {E : Value → Shared → Prop} {s : Shared}
theorem nextTup_item {j a : Addr} {k : Nat} {us : Array Value} {x : Value} {Q : Value → Shared → Prop} (g : s.heap.IsTupleIter j a k) (ga : s.heap.IsTuple a us) (gx : us[k]? = some x)
    (q : ∀ h', h'.IsTupleIter j a (k + 1) → Heap.SameBut j s.heap h' → Q x { s with heap := h' }) : wpAny (model P w) A (Builtin.SmallTypes.nextOf (.ref j)) Q E s := by
  obtain ⟨ob, e1, e2, e3⟩ := id g; obtain ⟨ot, f1, _, nn, f3⟩ := ga
  unfold Builtin.SmallTypes.nextOf
  refine wpAny_bind (wpAny_callSpecial?_slot (name := Str.ofString "__next__") g.typeIs PySem.F.slot_tuple_iterator_next (wpAny_call_entry PySem.F.slot_tuple_iterator_next g.typeIs PySem.F.entry_tuple_iterator_next ?_ (PySem.F.args_tuple_iterator_next_1 _)))
  show wpAny (model P w) _ (field (.ref j) 0 >>= _) _ _ s
  refine wpAny_bind (wpAny_field e1 e3 (x := .ref a) rfl ?_)
  show wpAny (model P w) _ (if (Value.ref a == Value.none) = true then _ else _) _ _ s
  rw [if_neg (show ¬ ((Value.ref a == Value.none) = true) from Bool.false_ne_true)]
  show wpAny (model P w) _ (field (.ref j) 1 >>= _) _ _ s
  refine wpAny_bind (wpAny_field e1 e3 (x := .int k 0) rfl ?_)
  show wpAny (model P w) _ (seqItems? (.ref a) >>= _) _ _ s
  refine wpAny_bind (wpAny_seqItems f1 f3 ?_)
  simp only [Int.toNat_natCast, gx]
  refine wpAny_bind (wpAny_setField e1 e3 (by simp) (wpAny_pure ⟨x, rfl, wpAny_pure (q _ ⟨_, Heap.get?_update_self _ e1 (Obj.isFreed_of_fields (Obj.data_mapFields e3 _)), (Obj.cls_mapFields ..).trans e2, (by rw [Obj.data_mapFields e3]; simp [rawInt])⟩ (Heap.SameBut.update ..))⟩))
theorem nextTup_end {j a : Addr} {k : Nat} {us : Array Value} {Q : Value → Shared → Prop} (hh : A.handled = none) (g : s.heap.IsTupleIter j a k) (ga : s.heap.IsTuple a us) (gx : us[k]? = none)
    (q : ∀ h' e, Heap.ExtBut j s.heap h' → (∃ o, h'.get? e = some o ∧ o.cls = .type "StopIteration") → E (.ref e) { s with heap := h' }) : wpAny (model P w) A (Builtin.SmallTypes.nextOf (.ref j)) Q E s := by
  obtain ⟨ob, e1, e2, e3⟩ := id g; obtain ⟨ot, f1, _, nn, f3⟩ := ga
  unfold Builtin.SmallTypes.nextOf
  refine wpAny_bind (wpAny_callSpecial?_slot (name := Str.ofString "__next__") g.typeIs PySem.F.slot_tuple_iterator_next (wpAny_call_entry PySem.F.slot_tuple_iterator_next g.typeIs PySem.F.entry_tuple_iterator_next ?_ (PySem.F.args_tuple_iterator_next_1 _)))
  show wpAny (model P w) _ (field (.ref j) 0 >>= _) _ _ s
  refine wpAny_bind (wpAny_field e1 e3 (x := .ref a) rfl ?_)
  show wpAny (model P w) _ (if (Value.ref a == Value.none) = true then _ else _) _ _ s
  rw [if_neg (show ¬ ((Value.ref a == Value.none) = true) from Bool.false_ne_true)]
  show wpAny (model P w) _ (field (.ref j) 1 >>= _) _ _ s
  refine wpAny_bind (wpAny_field e1 e3 (x := .int k 0) rfl ?_)
  show wpAny (model P w) _ (seqItems? (.ref a) >>= _) _ _ s
  refine wpAny_bind (wpAny_seqItems f1 f3 ?_)
  simp only [Int.toNat_natCast, gx]
  refine wpAny_bind (wpAny_rule (wpAny_bind (wpAny_setField e1 e3 (by simp) ?_)))
  show wpAny (model P w) _ (newExc (.type "StopIteration") [] >>= _) _ _ _
  refine wpAny_bind ?_; simp only [newExc, newTuple]
  refine wpAny_bind (wpAny_newObj_type (wpAny_bind (m := firstArgMember _ _) (wpAny_of_eq (a := Value.none) (by first | rfl | (simp only [firstArgMember]; rfl)) (wpAny_newObj_type ?_ (by size_fits)))) (by size_fits))
  simp only [raiseNew]; refine wpAny_bind (wpAny_handled ?_)
  first | rw [show A.in1.handled = none from hh] | rw [hh]
  exact wpAny_bind (wpAny_pure (wpAny_throw (q _ _ (((Heap.SameBut.update ..).extBut.push _).push _) ⟨_, Heap.get?_push_size _ rfl, rfl⟩)))
theorem drawsTup (hh : A.handled = none) (j a : Addr) (ne : a ≠ j) (us : Array Value) : Draws P w A j [j, a] us.size (fun k v => us[k]? = some v) (fun k h => h.IsTupleIter j a k ∧ h.IsTuple a us) where
  live := fun _ _ st => by obtain ⟨⟨o, e, _⟩, _⟩ := st; exact ⟨o, e⟩
  frame := fun _ _ _ st hk => ⟨st.1.at fun o e => hk j (by simp) o e, by obtain ⟨o, e, r⟩ := st.2; exact ⟨o, hk a (by simp) o e, r⟩⟩
  item := fun k s Q E hk st q => nextTup_item st.1 st.2 (x := us[k]) (by simp [hk]) fun h' g' sb => q _ h' s.toks (by simp [hk]) ⟨g', by obtain ⟨o, e, r⟩ := st.2; exact ⟨o, (sb.2 a ne).trans e, r⟩⟩ sb
  done := fun s Q E st q => nextTup_end hh st.1 st.2 (by simp) q
theorem Src.draws {X : Cx} {pins : List (Addr × Obj)} {σ : St} {H : Hp} {s0 : Shared} {c : Src} {xs : List V} {it : Addr} {i : Nat} (hh : A.handled = none) (I : Inv X pins σ H s0) (hs : c.has X.K H xs) (ht : c.at it i s0.heap) (hit : H it = none) :
    ∃ (fp : List Addr) (Pt : Nat → Value → Prop) (St : Nat → Heap → Prop), Draws X.prog X.w A it fp xs.length Pt St ∧ St i s0.heap ∧ (∀ k v, Pt k v → ∃ x, xs[k]? = some x ∧ RelV x v) ∧ (∀ k h, St k h → c.at it k h) ∧ it ∈ fp ∧
      ∀ b ∈ fp, b = it ∨ H b ≠ none ∨ ∃ o, X.base.get? b = some o := by
  cases c with
  | lst a =>
    obtain ⟨its, rv, p, hz⟩ := I.list hs
    have ne : a ≠ it := fun z => by
      obtain ⟨o, e, c1, _⟩ := (show s0.heap.IsListIter it a i from ht)
      obtain ⟨o2, e2, c2, _⟩ := p.isList
      rw [z, e] at e2; cases e2; rw [c1] at c2; exact absurd c2 (by decide)
    have dr := Draws.list (prog := X.prog) (w := X.w) hh it a ne its.toArray
    rw [List.size_toArray, ← rv.length] at dr
    refine ⟨_, _, _, dr, ⟨ht, p.isList⟩, fun k v e => ?_, fun k h st => st.1, by simp, fun b hb => ?_⟩
    · have e : its[k]? = some v := by simpa using e
      have hk : k < xs.length := by rw [rv.length]; exact (List.getElem?_eq_some_iff.mp e).1
      obtain ⟨u, hu, ru⟩ := rv.get (i := k) (x := xs[k]) (by simp [hk])
      rw [e] at hu; cases hu
      exact ⟨_, by simp [hk], ru⟩
    · rcases List.mem_cons.mp hb with z | z
      · exact .inl z
      · have z : b = a := by simpa using z
        subst z
        rcases (show SqL X.K H b xs from hs) with (z | ⟨o, z⟩) | ⟨o, _, _, z, _⟩
        · exact .inr (.inl (by rw [z]; simp))
        · exact .inr (.inl (by rw [z]; simp))
        · exact .inr (.inr ⟨_, I.mod.kin _ _ z⟩)
  | tup a =>
    obtain ⟨its, rv, p, hz⟩ := I.tuple hs
    have p : s0.heap.IsTuple a its.toArray := p
    have ne : a ≠ it := fun z => by
      obtain ⟨o, e, c1, _⟩ := (show s0.heap.IsTupleIter it a i from ht)
      obtain ⟨o2, e2, c2, _⟩ := id p
      rw [z, e] at e2; cases e2; rw [c1] at c2; exact absurd c2 (by decide)
    have dr := drawsTup (P := X.prog) (w := X.w) hh it a ne its.toArray
    rw [List.size_toArray, ← rv.length] at dr
    refine ⟨_, _, _, dr, ⟨ht, p⟩, fun k v e => ?_, fun k h st => st.1, by simp, fun b hb => ?_⟩
    · have e : its[k]? = some v := by simpa using e
      have hk : k < xs.length := by rw [rv.length]; exact (List.getElem?_eq_some_iff.mp e).1
      obtain ⟨u, hu, ru⟩ := rv.get (i := k) (x := xs[k]) (by simp [hk])
      rw [e] at hu; cases hu
      exact ⟨_, by simp [hk], ru⟩
    · rcases List.mem_cons.mp hb with z | z
      · exact .inl z
      · have z : b = a := by simpa using z
        subst z
        rcases (show SqT X.K H b xs from hs) with (z | ⟨o, z⟩) | ⟨o, _, _, z, _⟩
        · exact .inr (.inl (by rw [z]; simp))
        · exact .inr (.inl (by rw [z]; simp))
        · exact .inr (.inr ⟨_, I.mod.kin _ _ z⟩)
  | str l =>
    have hs : xs = l.map fun c => V.str (sOf [c]) := hs
    obtain ⟨t, ht⟩ := (show ∃ t, s0.heap.IsStrIter it "str_ascii_iterator" (sOf l) t i ∨ s0.heap.IsStrIter it "str_iterator" (sOf l) t i from ht)
    have hn : (sOf l).cps.size = xs.length := by rw [hs]; simp [sOf]
    have sg : ∀ (k : Nat) (v : Value), (∃ c u, (sOf l).cps[k]? = some c ∧ v = .str ⟨#[c]⟩ u) → ∃ x, xs[k]? = some x ∧ RelV x v := fun k v ⟨c, u, e, ev⟩ => by
      have e : l[k]? = some c := by simpa [sOf] using e
      exact ⟨.str (sOf [c]), by rw [hs]; simp [e], ⟨u, ev⟩⟩
    rcases ht with ht | ht
    · exact ⟨_, _, _, hn ▸ Draws.strAscii hh it (sOf l) t, ht, sg, fun k h st => ⟨t, .inl st⟩, by simp, fun b hb => .inl (by simpa using hb)⟩
    · exact ⟨_, _, _, hn ▸ Draws.strWide hh it (sOf l) t, ht, sg, fun k h st => ⟨t, .inr st⟩, by simp, fun b hb => .inl (by simpa using hb)⟩
end
end L2
namespace L2
open PySem PySem.Spec PyProof.Rows
def IterOf (v : Value) (h : Heap) (o : Obj) : Prop := ∀ (prog : Program) (w : World) (A : Around) (E : Value → Shared → Prop) (Q : Value → Shared → Prop) (s : Shared), s.heap = h → Q (.ref h.objs.size) { s with heap := h.push o } → wpAny (model prog w) A (pyIter v) Q E s
def zp3 (h : Heap) (o1 o2 : Obj) : Heap := ((h.push o1).push o2).push { cls := .type "tuple", data := .seq #[.ref h.objs.size, .ref (h.push o1).objs.size] }
def zp4 (h : Heap) (o1 o2 : Obj) : Heap := (zp3 h o1 o2).push { cls := .type "tuple", data := .seq #[.none, .none] }
def zp5 (h : Heap) (o1 o2 : Obj) : Heap := (zp4 h o1 o2).push { cls := .type "zip", data := .fields #[.none, .bool false, .bool false, .ref ((h.push o1).push o2).objs.size, .ref (zp3 h o1 o2).objs.size] }
theorem zipNew_meets (v1 v2 : Value) (o1 o2 : Obj) : Meets (Builtin.«zip.__new__» ⟨[.type "zip", v1, v2], []⟩) (fun _ R s => IterOf v1 s.heap o1 ∧ IterOf v2 (s.heap.push o1) o2 ∧ R (.ok (.ret (.ref (zp4 s.heap o1 o2).objs.size))) { s with heap := zp5 s.heap o1 o2 }) :=
  .of_wp fun prog w A R s h => by
    obtain ⟨hp, g, d, tk, os⟩ := s; obtain ⟨i1, i2, h⟩ := h
    have hsub := sub_zip
    have j1 := fun (A : Around) (E : Value → Shared → Prop) (Q : Value → Shared → Prop) (q : Q _ _) => i1 prog w A E Q ⟨hp, g, d, tk, os⟩ rfl q
    have j2 := fun (A : Around) (E : Value → Shared → Prop) (Q : Value → Shared → Prop) (q : Q _ _) => i2 prog w A E Q ⟨hp.push o1, g, d, tk, os⟩ rfl q
    wp_walk using j1 _ _ _, j2 _ _ _
    exact ⟨_, rfl, h⟩
theorem call_zipG {P : Program} {w : World} {A : Around} {E : Value → Shared → Prop} {s : Shared} {v1 v2 : Value} {o1 o2 : Obj} {Q : Value → Shared → Prop} (i1 : IterOf v1 s.heap o1) (i2 : IterOf v2 (s.heap.push o1) o2)
    (f1 : o1.isFreed = false) (f2 : o2.isFreed = false)
    (q : ∀ h', IsZip h' (s.heap.objs.size + 4) (s.heap.objs.size + 2) (s.heap.objs.size + 3) .none → IsPair h' (s.heap.objs.size + 2) (.ref s.heap.objs.size) (.ref (s.heap.objs.size + 1)) → IsPair h' (s.heap.objs.size + 3) .none .none →
      h'.get? s.heap.objs.size = some o1 → h'.get? (s.heap.objs.size + 1) = some o2 → (∀ c o, s.heap.get? c = some o → h'.get? c = some o) → Q (.ref (s.heap.objs.size + 4)) { s with heap := h' }) :
    wpAny (model P w) A (call (.type "zip") [v1, v2]) Q E s := by
  refine callType_new PySem.F.called_zip (by decide) (PySem.F.typeCall_zip_2 _ _) (PySem.F.newCall_zip_2 _ _) (fun obj => PySem.F.args_object_init_3 obj _ _) PySem.F.entry_zip_new (zipNew_meets v1 v2 o1 o2) ⟨i1, i2, ?_⟩
  have z1 : (s.heap.push o1).objs.size = s.heap.objs.size + 1 := Heap.size_push ..
  have z2 : ((s.heap.push o1).push o2).objs.size = s.heap.objs.size + 2 := by rw [Heap.size_push, z1]
  have z3 : (zp3 s.heap o1 o2).objs.size = s.heap.objs.size + 3 := by unfold zp3; rw [Heap.size_push, z2]
  have z4 : (zp4 s.heap o1 o2).objs.size = s.heap.objs.size + 4 := by unfold zp4; rw [Heap.size_push, z3]
  have g5 : (zp5 s.heap o1 o2).get? (zp4 s.heap o1 o2).objs.size = some _ := Heap.get?_push_size _ rfl
  have g4 : (zp5 s.heap o1 o2).get? (zp3 s.heap o1 o2).objs.size = some _ := Heap.get?_push_of_some _ (Heap.get?_push_size _ rfl)
  have g3 : (zp5 s.heap o1 o2).get? ((s.heap.push o1).push o2).objs.size = some _ := Heap.get?_push_of_some _ (Heap.get?_push_of_some _ (Heap.get?_push_size _ rfl))
  have g2 : (zp5 s.heap o1 o2).get? (s.heap.push o1).objs.size = some o2 := Heap.get?_push_of_some _ (Heap.get?_push_of_some _ (Heap.get?_push_of_some _ (Heap.get?_push_size _ f2)))
  have g1 : (zp5 s.heap o1 o2).get? s.heap.objs.size = some o1 := Heap.get?_push_of_some _ (Heap.get?_push_of_some _ (Heap.get?_push_of_some _ (Heap.get?_push_of_some _ (Heap.get?_push_size _ f1))))
  show _ ∧ _
  rw [z2, z3, z4] at g5
  rw [z1, z2] at g3
  rw [z3] at g4
  rw [z1] at g2
  rw [z4]
  exact ⟨⟨_, g5, rfl⟩, q _ g5 g3 g4 g1 g2 fun c o x => Heap.get?_push_of_some _ (Heap.get?_push_of_some _ (Heap.get?_push_of_some _ (Heap.get?_push_of_some _ (Heap.get?_push_of_some _ x))))⟩
theorem Src.iter {X : Cx} {pins : List (Addr × Obj)} {σ : St} {H : Hp} {s : Shared} {c : Src} {xs : List V} {v : Value} {h : Heap} (I : Inv X pins σ H s) (hs : c.has X.K H xs) (rv : RelV c.val v) (k : ∀ b o, s.heap.get? b = some o → h.get? b = some o) :
    ∃ o, IterOf v h o ∧ o.isFreed = false ∧ (∀ h' : Heap, h'.get? h.objs.size = some o → c.at h.objs.size 0 h') := by
  cases c with
  | lst a =>
    obtain ⟨its, r, p, hz⟩ := I.list hs
    cases (show v = .ref a from rv)
    obtain ⟨o, e, r2⟩ := p.isList
    refine ⟨{ cls := .type "list_iterator", data := .fields #[.ref a, .int 0 0] }, fun prog w A E Q s' e' q => ?_, rfl, fun h' e' => ⟨_, e', rfl, rfl⟩⟩
    subst e'
    exact wpAny_pyIter_list ⟨o, k a o e, r2⟩ q
  | tup a =>
    obtain ⟨its, r, p, hz⟩ := I.tuple hs
    cases (show v = .ref a from rv)
    obtain ⟨o, e, r2⟩ := p
    refine ⟨{ cls := .type "tuple_iterator", data := .fields #[.ref a, .int 0 0] }, fun prog w A E Q s' e' q => ?_, rfl, fun h' e' => ⟨_, e', rfl, rfl⟩⟩
    subst e'
    exact wpAny_pyIter_tuple ⟨o, k a o e, r2⟩ q
  | str l =>
    obtain ⟨t, rfl⟩ := (show ∃ t, v = .str (sOf l) t from rv)
    cases ha : (sOf l).cps.all (· < 128)
    · exact ⟨{ cls := .type "str_iterator", data := .fields #[.str (sOf l) t, .int 0 0] }, fun prog w A E Q s' e' q => by subst e'; exact wpAny_pyIter_wide ha q, rfl, fun h' e' => ⟨t, .inr ⟨_, e', rfl, rfl⟩⟩⟩
    · exact ⟨{ cls := .type "str_ascii_iterator", data := .fields #[.str (sOf l) t, .int 0 0] }, fun prog w A E Q s' e' q => by subst e'; exact wpAny_pyIter_ascii ha q, rfl, fun h' e' => ⟨t, .inl ⟨_, e', rfl, rfl⟩⟩⟩
end L2
namespace L2
open PySem PySem.Spec PyProof.Rows
section
variable {P : Program} {w : World} {A : Around} {E : Value → Shared → Prop} {s : Shared} {z TI TO i1 i2 : Addr} {fp1 fp2 : List Addr} {n1 n2 k : Nat} {P1 P2 : Nat → Value → Prop} {S1 S2 : Nat → Heap → Prop} {a b : Value}
structure ZApart (z TI TO i1 i2 : Addr) (fp1 fp2 : List Addr) : Prop where
  c1 : TI ≠ z
  c2 : TO ≠ z
  c3 : i1 ≠ z
  c4 : i2 ≠ z
  c5 : TI ≠ TO
  c6 : TI ≠ i1
  c7 : TI ≠ i2
  c8 : TO ≠ i1
  c9 : TO ≠ i2
  d1 : z ∉ fp1 ∧ TO ∉ fp1 ∧ i2 ∉ fp1
  d2 : z ∉ fp2 ∧ TO ∉ fp2 ∧ i1 ∉ fp2
theorem frame_of {n : Nat} {it : Addr} {fp : List Addr} {Pt : Nat → Value → Prop} {S : Nat → Heap → Prop} (D : Draws P w A it fp n Pt S) {j : Nat} {h h' : Heap} {c : Addr} (st : S j h) (sb : Heap.SameBut c h h') (hc : c ∉ fp) : S j h' :=
  D.frame _ _ _ st fun b hb o e => (sb.2 b fun q => hc (q ▸ hb)).trans e
theorem zipG_item {Q : Option Value → Shared → Prop} (D1 : Draws P w A.in1 i1 fp1 n1 P1 S1) (D2 : Draws P w A.in1 i2 fp2 n2 P2 S2) (Z : ZApart z TI TO i1 i2 fp1 fp2) (h1 : k < n1) (h2 : k < n2) (hz : IsZip s.heap z TI TO .none)
    (hI : IsPair s.heap TI (.ref i1) (.ref i2)) (hO : IsPair s.heap TO a b) (t1 : S1 k s.heap) (t2 : S2 k s.heap)
    (q : ∀ x y h' tk T, P1 k x → P2 k y → T = s.heap.objs.size → IsZip h' z TI TO (rawInt T) → IsPair h' TO x y → S1 (k + 1) h' → S2 (k + 1) h' → IsPair h' T x y →
      (∀ c o, c ≠ z → c ≠ TO → c ≠ i1 → c ≠ i2 → s.heap.get? c = some o → h'.get? c = some o) → Q (some (.ref T)) { s with heap := h', toks := tk }) :
    wpAny (model P w) A (pyNext (.ref z)) Q E s := by
  have hT : s.TypeIs (.ref z) "zip" := ⟨_, hz, rfl⟩
  unfold pyNext
  refine wpAny_bind (wpAny_attempt (wpAny_callSpecial?_slot (name := Str.ofString "__next__") hT PySem.F.slot_zip_next (wpAny_call_entry PySem.F.slot_zip_next hT PySem.F.entry_zip_next ?_ (PySem.F.args_zip_next_1 _))))
  obtain ⟨hp, gg, dd, tk0, os⟩ := s
  show wpAny (model P w) _ (field (.ref z) 2 >>= _) _ _ _
  refine wpAny_bind (wpAny_field hz rfl (x := .bool false) rfl ?_)
  show wpAny (model P w) _ (field (.ref z) 3 >>= _) _ _ _
  refine wpAny_bind (wpAny_field hz rfl (x := .ref TI) rfl (wpAny_bind (wpAny_seqItems hI rfl ?_)))
  show wpAny (model P w) _ (Builtin.SmallTypes.ownedTupleIsFree (.ref z) >>= _) _ _ _
  refine wpAny_bind ?_; unfold Builtin.SmallTypes.ownedTupleIsFree
  refine wpAny_bind (wpAny_field hz rfl (x := .none) rfl (wpAny_pure ?_)); simp only [if_true]
  refine wpAny_bind (wpAny_rule (wpAny_bind (wpAny_field hz rfl (x := .ref TO) rfl (wpAny_bind (wpAny_setField_rec hz (by simp) fun g1 y1 b1 => ?_)))))
  replace y1 : IsZip g1 z TI TO .ellipsis := y1
  replace b1 : Heap.SameBut z hp g1 := b1
  refine wpAny_bind ?_; simp only [List.zipIdx_cons, List.zipIdx_nil, List.forIn_cons, List.forIn_nil]
  refine wpAny_bind (wpAny_bind (wpAny_onRaise ?_))
  show wpAny (model P w) _ (Builtin.SmallTypes.nextOf (.ref i1) >>= _) _ _ _
  refine wpAny_bind (D1.item k _ _ _ h1 (frame_of D1 t1 b1 Z.d1.1) fun x g2 tk2 px u1 b2 => wpAny_pure ?_)
  replace b2 : Heap.SameBut i1 g1 g2 := b2
  have O2 : IsPair g2 TO a b := b2.extBut _ _ Z.c8 (b1.extBut _ _ Z.c2 hO)
  refine wpAny_bind (wpAny_seqItems O2 rfl (wpAny_bind (wpAny_updateSeq_pair O2 fun g3 O3 b3 => ?_)))
  replace O3 : IsPair g3 TO x b := O3
  replace b3 : Heap.SameBut TO g2 g3 := b3
  refine wpAny_bind (wpAny_letGo (wpAny_pure (wpAny_bind (wpAny_bind (wpAny_onRaise ?_)))))
  show wpAny (model P w) _ (Builtin.SmallTypes.nextOf (.ref i2) >>= _) _ _ _
  refine wpAny_bind (D2.item k _ _ _ h2 (frame_of D2 (frame_of D2 (frame_of D2 t2 b1 Z.d2.1) b2 Z.d2.2.2) b3 Z.d2.2.1) fun y g4 tk4 py u2 b4 => wpAny_pure ?_)
  replace b4 : Heap.SameBut i2 g3 g4 := b4
  have O4 : IsPair g4 TO x b := b4.extBut _ _ Z.c9 O3
  refine wpAny_bind (wpAny_seqItems O4 rfl (wpAny_bind (wpAny_updateSeq_pair O4 fun g5 O5 b5 => ?_)))
  replace O5 : IsPair g5 TO x y := O5
  replace b5 : Heap.SameBut TO g4 g5 := b5
  refine wpAny_bind (wpAny_letGo (wpAny_pure (wpAny_pure (wpAny_bind (wpAny_seqItems O5 rfl (wpAny_bind (wpAny_newTuple ?_)))))))
  have sz : g5.objs.size = hp.objs.size := by rw [b5.1, b4.1, b3.1, b2.1, b1.1]
  have y5 : IsZip g5 z TI TO .ellipsis := b5.extBut _ _ Z.c2.symm (b4.extBut _ _ Z.c4.symm (b3.extBut _ _ Z.c2.symm (b2.extBut _ _ Z.c3.symm y1)))
  have k5 : ∀ c o, c ≠ z → c ≠ TO → c ≠ i1 → c ≠ i2 → hp.get? c = some o → g5.get? c = some o := fun c o e1 e2 e3 e4 e => b5.extBut _ _ e2 (b4.extBut _ _ e4 (b3.extBut _ _ e2 (b2.extBut _ _ e3 (b1.extBut _ _ e1 e))))
  have v1 : S1 (k + 1) g5 := frame_of D1 (frame_of D1 (frame_of D1 u1 b3 Z.d1.2.1) b4 Z.d1.2.2) b5 Z.d1.2.1
  have v2 : S2 (k + 1) g5 := frame_of D2 u2 b5 Z.d2.2.1
  have lz : z < g5.objs.size := Heap.lt_size y5
  show wpAny (model P w) _ (Builtin.SmallTypes.ownedTupleHandOut (.ref z) (.ref g5.objs.size) >>= _) _ _ _
  refine wpAny_bind ?_; unfold Builtin.SmallTypes.ownedTupleHandOut
  have y6 : IsZip (g5.push { cls := .type "tuple", data := .seq #[x, y] }) z TI TO .ellipsis := Heap.get?_push_of_some _ y5
  refine wpAny_bind (wpAny_setField_rec y6 (by simp) fun g7 y7 b7 => ?_)
  replace y7 : IsZip g7 z TI TO (rawInt g5.objs.size) := y7
  replace b7 : Heap.SameBut z (g5.push { cls := .type "tuple", data := .seq #[x, y] }) g7 := b7
  refine wpAny_setField_rec y7 (by simp) fun g8 y8 b8 => ?_
  replace y8 : IsZip g8 z TI TO (rawInt g5.objs.size) := y8
  replace b8 : Heap.SameBut z g7 g8 := b8
  have up : ∀ c o, c ≠ z → g5.get? c = some o → g8.get? c = some o := fun c o e1 e => b8.extBut _ _ e1 (b7.extBut _ _ e1 (Heap.get?_push_of_some _ e))
  have T8 : IsPair g8 g5.objs.size x y := b8.extBut _ _ (Nat.ne_of_gt lz) (b7.extBut _ _ (Nat.ne_of_gt lz) (Heap.get?_push_size _ rfl))
  refine wpAny_pure ⟨_, rfl, wpAny_pure (q x y g8 _ g5.objs.size px py sz y8 (up _ _ Z.c2 O5) (D1.frame _ _ _ v1 fun b hb o e => up b o (fun q => Z.d1.1 (q ▸ hb)) e) (D2.frame _ _ _ v2 fun b hb o e => up b o (fun q => Z.d2.1 (q ▸ hb)) e) T8 fun c o e1 e2 e3 e4 e => up c o e1 (k5 c o e1 e2 e3 e4 e))⟩
theorem zipG_end {Q : Option Value → Shared → Prop} (hh : A.handled = none) (D1 : Draws P w A.in1 i1 fp1 n1 P1 S1) (D2 : Draws P w A.in1 i2 fp2 n2 P2 S2) (Z : ZApart z TI TO i1 i2 fp1 fp2) (hk : k = n1 ∨ (k < n1 ∧ k = n2)) (hz : IsZip s.heap z TI TO .none)
    (hI : IsPair s.heap TI (.ref i1) (.ref i2)) (hO : IsPair s.heap TO a b) (t1 : S1 k s.heap) (t2 : S2 k s.heap)
    (q : ∀ h' tk, (∀ c o, c ≠ z → c ≠ TO → c ≠ i1 → c ≠ i2 → s.heap.get? c = some o → h'.get? c = some o) → Q none { s with heap := h', toks := tk }) :
    wpAny (model P w) A (pyNext (.ref z)) Q E s := by
  have hT : s.TypeIs (.ref z) "zip" := ⟨_, hz, rfl⟩
  unfold pyNext
  refine wpAny_bind (wpAny_attempt (wpAny_callSpecial?_slot (name := Str.ofString "__next__") hT PySem.F.slot_zip_next (wpAny_call_entry PySem.F.slot_zip_next hT PySem.F.entry_zip_next ?_ (PySem.F.args_zip_next_1 _))))
  obtain ⟨hp, gg, dd, tk0, os⟩ := s
  show wpAny (model P w) _ (field (.ref z) 2 >>= _) _ _ _
  refine wpAny_bind (wpAny_field hz rfl (x := .bool false) rfl ?_)
  show wpAny (model P w) _ (field (.ref z) 3 >>= _) _ _ _
  refine wpAny_bind (wpAny_field hz rfl (x := .ref TI) rfl (wpAny_bind (wpAny_seqItems hI rfl ?_)))
  show wpAny (model P w) _ (Builtin.SmallTypes.ownedTupleIsFree (.ref z) >>= _) _ _ _
  refine wpAny_bind ?_; unfold Builtin.SmallTypes.ownedTupleIsFree
  refine wpAny_bind (wpAny_field hz rfl (x := .none) rfl (wpAny_pure ?_)); simp only [if_true]
  refine wpAny_bind (wpAny_rule (wpAny_bind (wpAny_field hz rfl (x := .ref TO) rfl (wpAny_bind (wpAny_setField_rec hz (by simp) fun g1 y1 b1 => ?_)))))
  replace y1 : IsZip g1 z TI TO .ellipsis := y1
  replace b1 : Heap.SameBut z hp g1 := b1
  refine wpAny_bind ?_; simp only [List.zipIdx_cons, List.zipIdx_nil, List.forIn_cons, List.forIn_nil]
  refine wpAny_bind (wpAny_bind (wpAny_onRaise ?_))
  show wpAny (model P w) _ (Builtin.SmallTypes.nextOf (.ref i1) >>= _) _ _ _
  rcases hk with hk | ⟨hk1, hk2⟩
  · subst hk
    refine wpAny_bind (D1.done _ _ _ (frame_of D1 t1 b1 Z.d1.1) fun g2 e b2 he => ?_)
    obtain ⟨oe, hoe, hce⟩ := he
    replace b2 : Heap.ExtBut i1 g1 g2 := b2
    have y2 : IsZip g2 z TI TO .ellipsis := b2 _ _ Z.c3.symm y1
    have ez : e ≠ z := fun x => by subst x; rw [y2] at hoe; cases hoe; simp at hce
    refine wpAny_setField_rec y2 (by simp) fun g3 _ b3 => ?_
    exact wpAny_bind (wpAny_isInstance (T := "StopIteration") (b := true) ⟨oe, b3.extBut _ _ ez hoe, hce⟩ isSubtype_stop (wpAny_pure (q g3 _ fun c o e1 _ e3 _ x => b3.extBut _ _ e1 (b2 _ _ e3 (b1.extBut _ _ e1 x)))))
  · subst hk2
    refine wpAny_bind (D1.item k _ _ _ hk1 (frame_of D1 t1 b1 Z.d1.1) fun x g2 tk2 px u1 b2 => wpAny_pure ?_)
    replace b2 : Heap.SameBut i1 g1 g2 := b2
    have O2 : IsPair g2 TO a b := b2.extBut _ _ Z.c8 (b1.extBut _ _ Z.c2 hO)
    refine wpAny_bind (wpAny_seqItems O2 rfl (wpAny_bind (wpAny_updateSeq_pair O2 fun g3 O3 b3 => ?_)))
    replace b3 : Heap.SameBut TO g2 g3 := b3
    refine wpAny_bind (wpAny_letGo (wpAny_pure (wpAny_bind (wpAny_bind (wpAny_onRaise ?_)))))
    show wpAny (model P w) _ (Builtin.SmallTypes.nextOf (.ref i2) >>= _) _ _ _
    refine wpAny_bind (D2.done _ _ _ (frame_of D2 (frame_of D2 (frame_of D2 t2 b1 Z.d2.1) b2 Z.d2.2.2) b3 Z.d2.2.1) fun g4 e b4 he => ?_)
    obtain ⟨oe, hoe, hce⟩ := he
    replace b4 : Heap.ExtBut i2 g3 g4 := b4
    have y4 : IsZip g4 z TI TO .ellipsis := b4 _ _ Z.c4.symm (b3.extBut _ _ Z.c2.symm (b2.extBut _ _ Z.c3.symm y1))
    have ez : e ≠ z := fun x => by subst x; rw [y4] at hoe; cases hoe; simp at hce
    refine wpAny_setField_rec y4 (by simp) fun g5 _ b5 => ?_
    exact wpAny_bind (wpAny_isInstance (T := "StopIteration") (b := true) ⟨oe, b5.extBut _ _ ez hoe, hce⟩ isSubtype_stop (wpAny_pure (q g5 _ fun c o e1 e2 e3 e4 x => b5.extBut _ _ e1 (b4 _ _ e4 (b3.extBut _ _ e2 (b2.extBut _ _ e3 (b1.extBut _ _ e1 x)))))))
end
end L2
namespace L2
open PySem PySem.Spec PyProof.Rows
def Itz (K : PySem.W.Frag) (c1 c2 : Src) : It :=
  ⟨fun i H => ∃ xs ys x y, c1.has K H xs ∧ c2.has K H ys ∧ xs[i]? = some x ∧ ys[i]? = some y,
   fun i H v H' => ∃ p x y, H p = none ∧ v = .ref p ∧ (∀ xs, c1.has K H xs → xs[i]? = some x) ∧ (∀ ys, c2.has K H ys → ys[i]? = some y) ∧ H' = upd H p (.tup [x, y]),
   fun i H => ∃ xs ys, c1.has K H xs ∧ c2.has K H ys ∧ (i = xs.length ∨ (i < xs.length ∧ i = ys.length))⟩
theorem Src.inj {X : Cx} {pins : List (Addr × Obj)} {σ : St} {H : Hp} {s : Shared} {c : Src} {xs ys : List V} (I : Inv X pins σ H s) (h1 : c.has X.K H xs) (h2 : c.has X.K H ys) : xs = ys := by
  cases c with
  | lst a => exact I.list_inj h1 h2
  | tup a => exact I.tuple_inj h1 h2
  | str l => exact Eq.trans h1 (Eq.symm h2)
theorem Src.at_keep {c : Src} {it : Addr} {i : Nat} {h h' : Heap} (st : c.at it i h) (k : ∀ o, h.get? it = some o → h'.get? it = some o) : c.at it i h' := by
  cases c with
  | lst a => obtain ⟨o, e, r⟩ := st; exact ⟨o, k o e, r⟩
  | tup a => obtain ⟨o, e, r⟩ := st; exact ⟨o, k o e, r⟩
  | str l =>
    obtain ⟨t, st⟩ := st
    rcases st with ⟨o, e, r⟩ | ⟨o, e, r⟩
    · exact ⟨t, .inl ⟨o, k o e, r⟩⟩
    · exact ⟨t, .inr ⟨o, k o e, r⟩⟩
theorem Src.at_obj {c : Src} {it : Addr} {i : Nat} {h : Heap} (st : c.at it i h) : ∃ o, h.get? it = some o ∧ ∃ vs, o.data = .fields vs := by
  cases c with
  | lst a => obtain ⟨o, e, _, r⟩ := st; exact ⟨o, e, _, r⟩
  | tup a => obtain ⟨o, e, _, r⟩ := st; exact ⟨o, e, _, r⟩
  | str l =>
    obtain ⟨t, st⟩ := st
    rcases st with ⟨o, e, _, r⟩ | ⟨o, e, _, r⟩
    · exact ⟨o, e, _, r⟩
    · exact ⟨o, e, _, r⟩
def zTn (c1 c2 : Src) (z TI TO i1 i2 : Addr) (i : Nat) (h : Heap) : Prop := IsZip h z TI TO .none ∧ IsPair h TI (.ref i1) (.ref i2) ∧ (∃ a b, IsPair h TO a b) ∧ c1.at i1 i h ∧ c2.at i2 i h
structure ZIds (z TI TO i1 i2 : Addr) : Prop where
  c1 : TI ≠ z
  c2 : TO ≠ z
  c3 : i1 ≠ z
  c4 : i2 ≠ z
  c5 : TI ≠ TO
  c6 : TI ≠ i1
  c7 : TI ≠ i2
  c8 : TO ≠ i1
  c9 : TO ≠ i2
  c10 : i1 ≠ i2
theorem zap_of {X : Cx} {pins : List (Addr × Obj)} {σ : St} {H : Hp} {s : Shared} {z TI TO i1 i2 : Addr} {fp1 fp2 : List Addr} (I : Inv X pins σ H s) (Z : ZIds z TI TO i1 i2) (hf : ∀ b ∈ [z, TI, TO, i1, i2], FpOk X pins H b)
    (g1 : ∀ b ∈ fp1, b = i1 ∨ H b ≠ none ∨ ∃ o, X.base.get? b = some o) (g2 : ∀ b ∈ fp2, b = i2 ∨ H b ≠ none ∨ ∃ o, X.base.get? b = some o) : ZApart z TI TO i1 i2 fp1 fp2 := by
  have no : ∀ b ∈ [z, TI, TO, i1, i2], ¬ (H b ≠ none ∨ ∃ o, X.base.get? b = some o) := fun b hb q => by
    rcases q with q | ⟨o, q⟩
    · exact q (hf b hb).1
    · rcases (hf b hb).2.2.2.1 with y | y
      · exact I.ok.noex b o q y
      · exact absurd (Nat.lt_of_lt_of_le (Nat.lt_of_lt_of_le (Heap.lt_size q) I.ok.bsz) y) (Nat.lt_irrefl _)
  refine ⟨Z.c1, Z.c2, Z.c3, Z.c4, Z.c5, Z.c6, Z.c7, Z.c8, Z.c9, ⟨fun m => ?_, fun m => ?_, fun m => ?_⟩, ⟨fun m => ?_, fun m => ?_, fun m => ?_⟩⟩
  · exact (g1 _ m).elim (fun e => Z.c3 e.symm) (no z (by simp))
  · exact (g1 _ m).elim (fun e => Z.c8 e) (no TO (by simp))
  · exact (g1 _ m).elim (fun e => Z.c10 e.symm) (no i2 (by simp))
  · exact (g2 _ m).elim (fun e => Z.c4 e.symm) (no z (by simp))
  · exact (g2 _ m).elim (fun e => Z.c9 e) (no TO (by simp))
  · exact (g2 _ m).elim (fun e => Z.c10 e) (no i1 (by simp))
theorem turn_zip {P : Program} {w : World} {K : PySem.W.Frag} {elts : List Expr} {kk : Nat} {tp : Pos} (c1 c2 : Src) (z TI TO i1 i2 : Addr) (Z : ZIds z TI TO i1 i2) :
    Turn P w K (.Tuple elts kk tp) (Itz K c1 c2) [z, TI, TO, i1, i2] z (zTn c1 c2 z TI TO i1 i2) where
  mem := by simp
  obj := fun i h st b hb => by
    obtain ⟨hz, hI, ⟨a, b', hO⟩, t1, t2⟩ := st
    obtain ⟨o1, e1, v1, d1⟩ := Src.at_obj t1
    obtain ⟨o2, e2, v2, d2⟩ := Src.at_obj t2
    simp only [List.mem_cons, List.not_mem_nil, or_false] at hb
    rcases hb with rfl | rfl | rfl | rfl | rfl
    · exact ⟨_, hz, fun v q => by cases (show Data.fields _ = Data.cell v from q)⟩
    · exact ⟨_, hI, fun v q => by cases (show Data.seq _ _ = Data.cell v from q)⟩
    · exact ⟨_, hO, fun v q => by cases (show Data.seq _ _ = Data.cell v from q)⟩
    · exact ⟨_, e1, fun v q => by rw [d1] at q; cases q⟩
    · exact ⟨_, e2, fun v q => by rw [d2] at q; cases q⟩
  keep := fun i h h' st k => by
    obtain ⟨hz, hI, ⟨a, b', hO⟩, t1, t2⟩ := st
    exact ⟨k z (by simp) _ hz, k TI (by simp) _ hI, ⟨a, b', k TO (by simp) _ hO⟩, Src.at_keep t1 (k i1 (by simp)), Src.at_keep t2 (k i2 (by simp))⟩
  item := by
    intro X hP hw hK hc i pins s σ H E I hf st hg
    subst hP hw hK
    obtain ⟨xs, ys, x, y, hx, hy, ex, ey⟩ := hg
    obtain ⟨hz, hI, ⟨a, b', hO⟩, t1, t2⟩ := st
    have hh : X.A.in1.handled = none := I.ok.hd hc
    obtain ⟨fp1, P1, S1, D1, u1, r1, a1, _, g1⟩ := Src.draws (A := X.A.in1) hh I hx t1 (hf i1 (by simp)).1
    obtain ⟨fp2, P2, S2, D2, u2, r2, a2, _, g2⟩ := Src.draws (A := X.A.in1) hh I hy t2 (hf i2 (by simp)).1
    have ZA := zap_of I Z hf g1 g2
    refine zipG_item D1 D2 ZA (List.getElem?_eq_some_iff.mp ex).1 (List.getElem?_eq_some_iff.mp ey).1 hz hI hO u1 u2 fun vx vy h' tk T px py hT hz' hO' w1 w2 hTp kp => ?_
    obtain ⟨x', ex', rx⟩ := r1 i vx px
    obtain ⟨y', ey', ry⟩ := r2 i vy py
    rw [ex] at ex'; cases ex'
    rw [ey] at ey'; cases ey'
    have nT : H T = none := by rw [hT]; exact I.hok.fresh (Nat.le_refl _)
    refine ⟨_, rfl, wpAny_letOwnedTupleGo_zip hz' fun h2 hz2 sb => ?_⟩
    have lt : ∀ {c o}, s.heap.get? c = some o → c ≠ T := fun e => by rw [hT]; exact Nat.ne_of_lt (Heap.lt_size e)
    have up : ∀ c o, c ≠ z → h'.get? c = some o → h2.get? c = some o := fun c o hc e => (sb.2 c hc).trans e
    have kp2 : ∀ b o, b ∉ [z, TO, i1, i2] → s.heap.get? b = some o → h2.get? b = some o := fun b o hb e => by
      simp only [List.mem_cons, List.not_mem_nil, or_false, not_or] at hb
      exact up b o hb.1 (kp b o hb.1 hb.2.1 hb.2.2.1 hb.2.2.2 e)
    have ch : ∀ b ∈ [z, TO, i1, i2], b ∈ [z, TI, TO, i1, i2] := fun b hb => by
      simp only [List.mem_cons, List.not_mem_nil, or_false] at hb ⊢
      rcases hb with h | h | h | h <;> simp [h]
    have trk : ∀ b u, H b = some u → b ∉ [z, TO, i1, i2] ∧ b ≠ T := fun b u e => ⟨fun hb => (by rw [(hf b (ch b hb)).1] at e; cases e), fun q => (by rw [q, nT] at e; cases e)⟩
    have I2 : Inv X pins σ (upd H T (.tup [x, y])) { s with heap := h2, gens := s.gens, drawn := s.drawn, toks := tk } := by
      refine I.step (g' := s.gens) (d' := s.drawn) (t' := tk) (ch := [z, TO, i1, i2]) (fun b hb => ⟨(hf b (ch b hb)).2.2.2.1, (hf b (ch b hb)).2.1, (hf b (ch b hb)).2.2.2.2.1, (hf b (ch b hb)).2.2.2.2.2⟩) (fun b o _ _ hb e _ => kp2 b o hb e) (fun b o _ _ hb e _ => ⟨o.slots, kp2 b o hb e⟩)
        (fun b o hb e n => by rw [upd_ne (lt e)]; exact n) (fun b o hb e => ⟨o, kp2 b o hb e⟩) (fun b xs e => by rw [upd_ne (trk b _ e).2]; exact e) (fun b o u e => by rw [upd_ne (trk b _ e).2]; exact e) (fun b ps e => ⟨#[], by rw [upd_ne (trk b _ e).2, e]; simp⟩) (fun m hm => ?_) (fun b u e => ?_) I.bare
      · obtain ⟨o, es, ep, ho, r⟩ := hm
        exact ⟨o, es, ep, kp2 _ o (fun hb => (hf _ (ch _ hb)).2.1 rfl) ho, r⟩
      · by_cases hb : b = T
        · subst hb
          rw [upd_same] at e; cases e
          refine ⟨(by show 2 ≤ sizeLine; rw [sizeLine_eq]; decide), [vx, vy], .cons rx (.cons ry .nil), ⟨_, up _ _ ?_ hTp, rfl, _, rfl⟩⟩
          exact fun q => lt hz q.symm
        · rw [upd_ne hb] at e
          refine (I.hok b u e).stay (fun c v hc q => kp2 c v ?_ q) (fun c q => by rw [upd_ne (trk c _ q).2]; exact q) fun c xs q => by rw [upd_ne (trk c _ q).2]; exact q
          rcases hc with q | q
          · rw [q]; exact (trk b u e).1
          · exact (trk c _ q).1
    refine ⟨.ref T, _, I2, rfl, ⟨T, x, y, nT, rfl, fun xs' h => by rw [Src.inj I h hx]; exact ex, fun ys' h => by rw [Src.inj I h hy]; exact ey, rfl⟩, ⟨hz2, up _ _ Z.c1 (kp _ _ Z.c1 Z.c5 Z.c6 Z.c7 hI), ⟨_, _, up _ _ Z.c2 hO'⟩, Src.at_keep (a1 _ _ w1) fun o e => up _ o Z.c3 e, Src.at_keep (a2 _ _ w2) fun o e => up _ o Z.c4 e⟩, fun b hb => ?_⟩
    have hbT : b ≠ T := by
      obtain ⟨o, e⟩ : ∃ o, s.heap.get? b = some o := by
        obtain ⟨o1, e1, _⟩ := Src.at_obj t1
        obtain ⟨o2, e2, _⟩ := Src.at_obj t2
        simp only [List.mem_cons, List.not_mem_nil, or_false] at hb
        rcases hb with rfl | rfl | rfl | rfl | rfl
        · exact ⟨_, hz⟩
        · exact ⟨_, hI⟩
        · exact ⟨_, hO⟩
        · exact ⟨_, e1⟩
        · exact ⟨_, e2⟩
      exact lt e
    rw [upd_ne hbT]
    exact (hf b hb).1
  done := by
    intro X hP hw hK hc i pins s σ H E I hf st hg
    subst hP hw hK
    obtain ⟨xs, ys, hx, hy, hend⟩ := hg
    obtain ⟨hz, hI, ⟨a, b', hO⟩, t1, t2⟩ := st
    have hh : X.A.in1.handled = none := I.ok.hd hc
    obtain ⟨fp1, P1, S1, D1, u1, r1, a1, _, g1⟩ := Src.draws (A := X.A.in1) hh I hx t1 (hf i1 (by simp)).1
    obtain ⟨fp2, P2, S2, D2, u2, r2, a2, _, g2⟩ := Src.draws (A := X.A.in1) hh I hy t2 (hf i2 (by simp)).1
    have ZA := zap_of I Z hf g1 g2
    have ch : ∀ b ∈ [z, TO, i1, i2], b ∈ [z, TI, TO, i1, i2] := fun b hb => by
      simp only [List.mem_cons, List.not_mem_nil, or_false] at hb ⊢
      rcases hb with h | h | h | h <;> simp [h]
    refine zipG_end hh D1 D2 ZA hend hz hI hO u1 u2 fun h2 tk kp => ⟨rfl, ?_⟩
    have kp2 : ∀ b o, b ∉ [z, TO, i1, i2] → s.heap.get? b = some o → h2.get? b = some o := fun b o hb e => by
      simp only [List.mem_cons, List.not_mem_nil, or_false, not_or] at hb
      exact kp b o hb.1 hb.2.1 hb.2.2.1 hb.2.2.2 e
    refine I.step (g' := s.gens) (d' := s.drawn) (t' := tk) (ch := [z, TO, i1, i2]) (fun b hb => ⟨(hf b (ch b hb)).2.2.2.1, (hf b (ch b hb)).2.1, (hf b (ch b hb)).2.2.2.2.1, (hf b (ch b hb)).2.2.2.2.2⟩) (fun b o _ _ hb e _ => kp2 b o hb e) (fun b o _ _ hb e _ => ⟨o.slots, kp2 b o hb e⟩)
      (fun b o hb e n => n) (fun b o hb e => ⟨o, kp2 b o hb e⟩) (fun b xs e => e) (fun b o u e => e) (fun b ps e => ⟨#[], by rw [e]; simp⟩) (fun m hm => ?_) (fun b u e => ?_) I.bare
    · obtain ⟨o, es, ep, ho, r⟩ := hm
      exact ⟨o, es, ep, kp2 _ o (fun hb => (hf _ (ch _ hb)).2.1 rfl) ho, r⟩
    · have trk : ∀ b u, H b = some u → b ∉ [z, TO, i1, i2] := fun b u e hb => by rw [(hf b (ch b hb)).1] at e; cases e
      refine (I.hok b u e).stay (fun c v hc q => kp2 c v ?_ q) (fun c q => q) fun c xs q => q
      rcases hc with q | q
      · rw [q]; exact trk b u e
      · exact trk c _ q
  self := fun _ _ _ _ _ st h => wpAny_pyIter_zip st.1 h
theorem ne2 (n a b : Nat) (h : a ≠ b) : @Ne Nat (n + a) (n + b) := fun e => h (Nat.add_left_cancel e)
def iZip (K : PySem.W.Frag) (t : TA) : TI := fun σ H R => t σ H fun vs H1 => ∃ c1 c2 xs ys, vs = [c1.val, c2.val] ∧ c1.has K H1 xs ∧ c2.has K H1 ys ∧ R (Itz K c1 c2) H1
theorem pi_zip {X : Cx} {a b : Expr} {ta : TA} {p pos tp : Pos} {elts : List Expr} {kk : Nat} (hg : Gl X "zip") (hm : X.mg "zip" = none) (ha : PA X [a, b] ta)
    (hs : starEach [a, b] X.env = [(false, eval a X.env), (false, eval b X.env)] := by rfl) (hs2 : starEach [b] X.env = [(false, eval b X.env)] := by rfl) : PI X (.Tuple elts kk tp) (.Call (.Name "zip" p) [a, b] [] pos) (iZip X.K ta) := by
  intro pins s σ H R I h
  refine Call_ (ld_blt I hg hm boot_zip (PyProof.Rows.callWith_type1 (thn (ha pos pins s σ H _ I h) fun us s1 ⟨vs, H1, I1, r1, q1⟩ => ?_) (by rw [hs, hs2]) (by rw [hs2]; rfl)))
  obtain ⟨c1, c2, xs, ys, e, h1, h2, q⟩ := q1
  subst e
  obtain ⟨v1, v2, rfl, ra, rb⟩ := vals2 r1
  obtain ⟨o1, i1, f1, n1⟩ := Src.iter I1 h1 ra fun _ _ e => e
  obtain ⟨o2, i2, f2, n2⟩ := Src.iter (h := s1.heap.push o1) I1 h2 rb fun _ _ e => Heap.get?_push_of_some _ e
  have z1 : (s1.heap.push o1).objs.size = s1.heap.objs.size + 1 := Heap.size_push ..
  rw [z1] at n2
  refine call_zipG i1 i2 f1 f2 fun h' hz hI hO e1 e2 kp => ?_
  refine wpAny_pyIter_zip hz ?_
  have zi : ∀ n : Nat, ZIds (n + 4) (n + 2) (n + 3) n (n + 1) := fun n => ⟨(ne2 n 2 4 (by decide)), (ne2 n 3 4 (by decide)), (ne2 n 0 4 (by decide)), (ne2 n 1 4 (by decide)), (ne2 n 2 3 (by decide)), (ne2 n 2 0 (by decide)), (ne2 n 2 1 (by decide)), (ne2 n 3 0 (by decide)), (ne2 n 3 1 (by decide)), (ne2 n 0 1 (by decide))⟩
  refine ⟨s1.heap.objs.size + 4, [s1.heap.objs.size + 4, s1.heap.objs.size + 2, s1.heap.objs.size + 3, s1.heap.objs.size, s1.heap.objs.size + 1], _, _, H1, rfl, I1.kept (t' := s1.toks) kp, turn_zip c1 c2 _ _ _ _ _ (zi s1.heap.objs.size), ⟨hz, hI, ⟨_, _, hO⟩, n1 h' e1, n2 h' e2⟩, fun b hb => ?_, q⟩
  have hb' : s1.heap.objs.size ≤ b := by
    simp only [List.mem_cons, List.not_mem_nil, or_false] at hb
    rcases hb with z | z | z | z | z <;> rw [z]
    · exact Nat.le_add_right _ 4
    · exact Nat.le_add_right _ 2
    · exact Nat.le_add_right _ 3
    · exact Nat.le_refl _
    · exact Nat.le_add_right _ 1
  exact I1.fpOk hb' (I1.hok.fresh hb')
theorem for_zip {K : PySem.W.Frag} {c1 c2 : Src} {xs ys : List V} {g : TG} {tb : TS} {D : Ends} {σ : St} {H : Hp} (Pv : Nat → St → Hp → Prop) (h0 : Pv 0 σ H) (hl : ∀ i σ H, Pv i σ H → c1.has K H xs ∧ c2.has K H ys) (hn : xs.length = ys.length)
    (hs : ∀ i x y p σ H, xs[i]? = some x → ys[i]? = some y → H p = none → Pv i σ H → g (.ref p) σ (upd H p (.tup [x, y])) fun σ2 H2 => tb { D with nx := Pv (i + 1), ct := Pv (i + 1), bk := D.nx } σ2 H2) (hd : ∀ σ H, Pv xs.length σ H → D.nx σ H) :
    ∃ W : Nat → Nat → St → Hp → Prop, (∃ m, W 0 m σ H) ∧ ∀ i m σ H, W i m σ H →
      ((Itz K c1 c2).stop i H ∧ D.nx σ H) ∨ ((Itz K c1 c2).go i H ∧ ∃ N : St → Hp → Prop, (∀ σ' H', N σ' H' → ∃ m', m' < m ∧ W (i + 1) m' σ' H') ∧ ∀ x H', (Itz K c1 c2).yld i H x H' → g x σ H' fun σ2 H2 => tb { D with nx := N, ct := N, bk := D.nx } σ2 H2) := by
  refine ⟨fun i m σ H => m = xs.length - i ∧ i ≤ xs.length ∧ Pv i σ H, ⟨xs.length, by simp, Nat.zero_le _, h0⟩, ?_⟩
  rintro i m σ H ⟨rfl, hi, p⟩
  obtain ⟨q1, q2⟩ := hl i σ H p
  by_cases hlt : i < xs.length
  · refine .inr ⟨⟨xs, ys, xs[i], ys[i], q1, q2, by simp [hlt], by simp [← hn, hlt]⟩, Pv (i + 1), fun σ' H' p' => ⟨xs.length - (i + 1), by omega, rfl, hlt, p'⟩, fun v H' ⟨a, x, y, na, ev, ex, ey, eh⟩ => ?_⟩
    subst ev eh
    exact hs i x y a σ H (ex xs q1) (ey ys q2) na p
  · have e : i = xs.length := by omega
    subst e
    exact .inl ⟨⟨xs, ys, q1, q2, .inl rfl⟩, hd σ H p⟩
end L2
namespace L2
open PySem PySem.Spec PyProof.Rows
structure Cal (P : Program) (w : World) (K : PySem.W.Frag) (mg : Str → Option Value) (base : Heap) (x : Str) (ps : List Str) (k : Nat) (sp : Sp) : Prop where
  ex : ∃ (f : Addr) (fd : FuncData), FnOk P w K mg base CX0 k f fd ps sp ∧ mg x = some (.ref f) ∧ PySem.W.keepIn K (.ref f) = true ∧ Binds K fd ps []
theorem pe_cal {X : Cx} {x : Str} {ps : List Str} {k : Nat} {sp : Sp} {p pos : Pos} {e : Expr} {es : List Expr} {t : TA} (C : Cal X.prog X.w X.K X.mg X.base x ps k sp) (hr : Room k X.A) (hg : Gl X x) (ha : PA X (e :: es) t)
    (hdb : (x == ("__debug__" : Str)) = false := by decide) (he : starEach (e :: es) X.env = (false, eval e X.env) :: starEach es X.env := by rfl) (hpl : (backTo pos (starEach es X.env)).any (·.1) = false := by rfl) :
    PE X (.Call (.Name x p) (e :: es) [] pos) (tCall sp [] E0 t) := by
  obtain ⟨f, fd, F, hm, hk, hb⟩ := C.ex
  exact pe_call F hr hg hm hk hb .nil pass0 ha hdb he hpl
theorem mkCS {X : Cx} {scope : Scope} {N : List Str} {cap : List (Option Nat)} (kind : scope.kind = .function) (nd : N.Nodup) (len : cap.length = N.length) (uniq : (scope.names.map (·.1)).Nodup)
    (fr : (scope.names.all fun x => x.2 != .free || (X.env.kindOf x.1 == some .cell || X.env.kindOf x.1 == some .free)) = true)
    (cp : ((N.zip cap).all fun p => match p.2 with | none => true | some j => X.N[j]? == some p.1 && scope.names.contains (p.1, NameKind.free)) = true) : CompScope X scope N cap := by
  refine ⟨kind, nd, len, uniq, fun x hx hk => ?_, fun k x j h1 h2 => ?_⟩
  · have := List.all_eq_true.mp fr x hx
    rw [hk] at this
    simpa using this
  · have hm : (x, some j) ∈ N.zip cap := by
      rw [List.mem_iff_getElem?]
      exact ⟨k, by rw [List.getElem?_zip_eq_some]; exact ⟨h1, h2⟩⟩
    have := List.all_eq_true.mp cp _ hm
    simpa using this
def flat : V → Bool
  | .non => true
  | .bl _ => true
  | .int _ => true
  | .str _ => true
  | _ => false
theorem same_upd {H : Hp} {p : Addr} {o : HO} (h : H p = none) : Same H (upd H p o) := fun b u e => by rw [upd_ne (ne_of_none e h)]; exact e
end L2
namespace L2
open PySem PySem.Spec PyProof.Rows
theorem ofS (x : String) (l : List Nat) (h : (Str.ofString x).cps.toList = l) : Str.ofString x = sOf l := by rw [of_sOf (Str.ofString x), h]
end L2
namespace L2
open PySem PySem.Spec PyProof.Rows
section
variable {X : Cx} {K : PySem.W.Frag} {w : World}
theorem ix_tupK (h : X.K = K) : IxR X (rIxT K) := h ▸ ix_tup
theorem ix_listK (h : X.K = K) : IxR X (rIxL K) := h ▸ ix_list
theorem call_lenK (h : X.K = K) : CallR X (.builtin "len") (fun xs H Q => ∃ x n, xs = [x] ∧ LenV K x H n ∧ Q (.int n) H) := h ▸ call_len
theorem call_isinstK (h : X.K = K) : CallR X (.builtin "isinstance") (fun xs H Q => ∃ x T t b, xs = [x, .ty T] ∧ TyOf K H x t ∧ PySem.W.kitOne K t (.type T) = some b ∧ Q (.bl b) H) := h ▸ call_isinst
theorem pg_tupK (h : X.K = K) {pos : Pos} {es : List Expr} {k : Nat} {t : TGs} {n : Nat} (hc : X.calm = true) (hg : PGs X es t) (hn : (assignEach es X.env).length = n := by rfl) (hst : (assignEach es X.env).findIdx? (·.1) = none := by rfl) : PG X (.Tuple es k pos) (gTup K n t) := h ▸ pg_tup hc hg hn hst
theorem pi_listK (h : X.K = K) {tg l : Expr} {tl : TE} (hl : PE X l tl) : PI X tg l (iList K tl) := h ▸ pi_list hl
theorem pi_zipK (h : X.K = K) {a b : Expr} {ta : TA} {p pos tp : Pos} {elts : List Expr} {kk : Nat} (hg : Gl X "zip") (hm : X.mg "zip" = none) (ha : PA X [a, b] ta)
    (hs : starEach [a, b] X.env = [(false, eval a X.env), (false, eval b X.env)] := by rfl) (hs2 : starEach [b] X.env = [(false, eval b X.env)] := by rfl) : PI X (.Tuple elts kk tp) (.Call (.Name "zip" p) [a, b] [] pos) (iZip K ta) := h ▸ pi_zip hg hm ha hs hs2
theorem pe_bmK (h : X.K = K) {o e : Expr} {es : List Expr} {to : TE} {t : TA} {name : Str} {apos cpos : Pos} {T id : String} {r : V → List V → Hp → VK → Prop} (pa : PlainAttrs T) (slot : Slot T name id) (hty : typeOf (.builtin id) = pure (.type "method_descriptor")) (hm : MtR X id r) (ho : PE X o to) (ha : PA X (e :: es) t)
    (hbase : attributeBase o name X.env (eval o X.env) = eval o X.env := by rfl)
    (hfew : ((backTo cpos (starEach (e :: es) X.env)).all (fun x => !x.1) && (backToKw cpos (keywordEach [] X.env)).all (fun x => x.1.isSome) && decide ((e :: es).length + ([] : List Keyword).length + (if ([] : List Keyword).isEmpty then 0 else 1) < 30)) = true := by rfl)
    (hline : (apos.endLine == cpos.line) = true := by rfl) (hs : starEach (e :: es) X.env = (false, eval e X.env) :: starEach es X.env := by rfl) (hplain : (backTo cpos (starEach es X.env)).any (·.1) = false := by rfl) :
    PE X (.Call (.Attribute o name apos) (e :: es) [] cpos) (tBM K T r to t) := h ▸ pe_bm pa slot hty hm ho ha hbase hfew hline hs hplain
end
end L2
namespace L2
open PySem PySem.Spec PyProof.Rows
end L2
namespace L2
open PySem PySem.Spec PyProof.Rows
end L2
namespace Wb
open PySem L2
abbrev Rp (α : Type) := Hp → α → V → Prop
class Mono {α : Type} (R : Rp α) : Prop where
  mono : ∀ {H H' : Hp} {m : α} {v : V}, Same H H' → R H m v → R H' m v
def LR {α : Type} (R : Rp α) (H : Hp) (ms : List α) (vs : List V) : Prop := vs.length = ms.length ∧ ∀ (i : Nat) (v : V) (m : α), vs[i]? = some v → ms[i]? = some m → R H m v
theorem LR.nil {α : Type} {R : Rp α} {H : Hp} : LR R H [] [] := ⟨rfl, fun i v m e => by simp at e⟩
theorem LR.same {α : Type} {R : Rp α} [Mono R] {H H' : Hp} {ms : List α} {vs : List V} (h : LR R H ms vs) (e : Same H H') : LR R H' ms vs := ⟨h.1, fun i v m a b => Mono.mono e (h.2 i v m a b)⟩
theorem LR.snoc {α : Type} {R : Rp α} {H : Hp} {ms : List α} {vs : List V} {m : α} {v : V} (h : LR R H ms vs) (r : R H m v) : LR R H (ms ++ [m]) (vs ++ [v]) := by
  refine ⟨by simp [h.1], fun i v' m' a b => ?_⟩
  by_cases hi : i < vs.length
  · rw [List.getElem?_append_left hi] at a
    rw [List.getElem?_append_left (by rw [← h.1]; exact hi)] at b
    exact h.2 i v' m' a b
  · rw [List.getElem?_append_right (by omega)] at a
    rw [List.getElem?_append_right (by rw [← h.1]; omega)] at b
    rw [← h.1] at b
    cases e : i - vs.length with
    | zero => rw [e] at a b; simp at a b; subst a b; exact r
    | succ n => rw [e] at a; simp at a
theorem LR.get {α : Type} {R : Rp α} {H : Hp} {ms : List α} {vs : List V} {i : Nat} {m : α} (h : LR R H ms vs) (e : ms[i]? = some m) : ∃ v, vs[i]? = some v ∧ R H m v := by
  have hi : i < vs.length := by rw [h.1]; exact (List.getElem?_eq_some_iff.mp e).1
  exact ⟨vs[i], by simp [hi], h.2 i _ m (by simp [hi]) e⟩
theorem LR.got {α : Type} {R : Rp α} {H : Hp} {ms : List α} {vs : List V} {i : Nat} {v : V} (h : LR R H ms vs) (e : vs[i]? = some v) : ∃ m, ms[i]? = some m ∧ R H m v := by
  have hi : i < ms.length := by rw [← h.1]; exact (List.getElem?_eq_some_iff.mp e).1
  exact ⟨ms[i], by simp [hi], h.2 i v _ e (by simp [hi])⟩
def isL {α : Type} (R : Rp α) : Rp (List α) := fun H ms v => ∃ p vs, v = .ref p ∧ H p = some (.lst vs) ∧ LR R H ms vs
instance zkeep1 {α : Type} {R : Rp α} [Mono R] : Mono (isL R) := ⟨fun e ⟨p, vs, h1, h2, h3⟩ => ⟨p, vs, h1, e _ _ h2, h3.same e⟩⟩
def isS : Rp (List Nat) := fun _ l v => v = .str (sOf l)
instance zkeep2 : Mono isS := ⟨fun _ h => h⟩
def isI : Rp Int := fun _ l v => v = .int l
instance zkeep4 : Mono isI := ⟨fun _ h => h⟩
theorem LR.str {H : Hp} {ms : List (List Nat)} {vs : List V} (h : LR isS H ms vs) : vs = ms.map fun l => V.str (sOf l) := by
  refine List.ext_getElem? fun i => ?_
  rw [List.getElem?_map]
  cases e : ms[i]? with
  | none => rw [List.getElem?_eq_none_iff] at e; rw [List.getElem?_eq_none_iff.mpr (by rw [h.1]; exact e)]; rfl
  | some m => obtain ⟨v, a, b⟩ := h.get e; rw [a]; cases b; rfl
end Wb
namespace L2
open PySem PySem.Spec PyProof.Rows
section
variable {X : Cx} {K : PySem.W.Frag} {w : World}
theorem call_list_ofK (h : X.K = K) : CallR X (.type "list") (fun xs H Q => ∃ p ys, xs = [.ref p] ∧ (SqL K H p ys ∨ SqT K H p ys) ∧ ∀ l, H l = none → Q (.ref l) (upd H l (.lst ys))) := h ▸ call_list_of
end
end L2
namespace Wb
open PySem L2
theorem none_of {H H' : Hp} {p : Addr} (e : Same H H') (h : H' p = none) : H p = none := by
  cases z : H p with
  | none => rfl
  | some x => have := e _ _ z; rw [h] at this; cases this
theorem same_keep {H H3 : Hp} {p : Addr} {o : HO} (e : Same H H3) (h : H p = none) : Same H (upd H3 p o) := fun a u z => by
  rw [upd_ne (ne_of_none z h)]; exact e _ _ z
end Wb
namespace L2
open PySem PySem.Spec PyProof.Rows
end L2
namespace L2
open PySem PySem.Spec PyProof.Rows
section
variable {X : Cx} {K : PySem.W.Frag} {w : World}
theorem op_in_seqK (h : X.K = K) : OpR X (compareOp .In) (rIn K false) := h ▸ op_in_seq
end
end L2
namespace L2
end L2
namespace L2
open PySem PySem.Spec PyProof.Rows
end L2
namespace L2
open PySem PySem.Spec PyProof.Rows
end L2
namespace Wb
open PySem L2
end Wb
namespace L2
open PySem PySem.Spec PyProof.Rows Wb
end L2
namespace L2
open PySem PySem.Spec PyProof.Rows
end L2
namespace L2
open PySem PySem.Spec PyProof.Rows
end L2
namespace Mi
inductive Res (α : Type) where
  | ok (a : α) | err (j : Nat) | stuck
namespace Res
variable {α β : Type}
def Ok (m : Res α) (P : α → Prop) : Prop := match m with | .ok a => P a | _ => False
def bind (m : Res α) (f : α → Res β) : Res β := match m with | .ok a => f a | .err j => .err j | .stuck => .stuck
theorem Ok.imp {m : Res α} {P Q : α → Prop} (h : m.Ok P) (k : ∀ a, P a → Q a) : m.Ok Q := by cases m <;> first | exact k _ h | exact h
def OkE (m : Res α) (Er : Nat → Prop) (P : α → Prop) : Prop := match m with | .ok a => P a | .err j => Er j | .stuck => False
theorem okE_bind {m : Res α} {f : α → Res β} {Er : Nat → Prop} {P : β → Prop} (h : (m.bind f).OkE Er P) : m.OkE Er fun a => (f a).OkE Er P := by cases m <;> exact h
theorem OkE.imp {m : Res α} {Er : Nat → Prop} {P Q : α → Prop} (h : m.OkE Er P) (k : ∀ a, P a → Q a) : m.OkE Er Q := by cases m <;> first | exact k _ h | exact h
theorem Ok.e {m : Res α} {Er : Nat → Prop} {P : α → Prop} (h : m.Ok P) : m.OkE Er P := by
  cases m with
  | ok a => exact h
  | err j => exact h.elim
  | stuck => exact h.elim
@[simp] theorem bind_ok' (a : α) (f : α → Res β) : (Res.ok a).bind f = f a := rfl
end Res
abbrev cap : Nat := 100000
def must (b : Prop) [Decidable b] {α : Type} (a : α) : Res α := if b then .ok a else .stuck
theorem must_ok {b : Prop} [Decidable b] {α : Type} {a : α} (h : b) : must b a = .ok a := if_pos h
theorem must_OkE {b : Prop} [Decidable b] {α : Type} {a : α} {Er : Nat → Prop} {P : α → Prop} (h : (must b a).OkE Er P) : b ∧ P a := by
  unfold must at h
  by_cases hb : b
  · rw [if_pos hb] at h; exact ⟨hb, h⟩
  · rw [if_neg hb] at h; exact h.elim
def ofO {α : Type} : Option α → Res α
  | some a => .ok a
  | none => .stuck
theorem ofO_OkE {α : Type} {o : Option α} {Er : Nat → Prop} {P : α → Prop} (h : (ofO o).OkE Er P) : ∃ a, o = some a ∧ P a := by
  cases o with
  | none => exact h.elim
  | some a => exact ⟨a, rfl, h⟩
abbrev Tx := List Nat
def absI (i : Int) : Int := if i < 0 then -i else i
def mulR (i j : Int) : Res Int := must ((-(2 ^ 64) < i ∧ i < 2 ^ 64) ∨ (-(2 ^ 64) < j ∧ j < 2 ^ 64)) (i * j)
def fdivR (i j : Int) : Res Int := must (0 < j ∧ j < 1073741824) (i / j)
def modR (i j : Int) : Res Int := must (0 < j) (i % j)
def ixN (n : Nat) (i : Int) : Option Nat := if 0 ≤ i then (if i < n then some i.toNat else none) else if -(n : Int) ≤ i then some (i + n).toNat else none
def atZ {α : Type} (xs : List α) (i : Int) : Option α := (ixN xs.length i).bind fun j => xs[j]?
theorem atZ_nat {α : Type} {xs : List α} {j : Nat} {v : α} (h : xs[j]? = some v) : atZ xs (j : Int) = some v := by
  have hl : j < xs.length := (List.getElem?_eq_some_iff.mp h).1
  unfold atZ ixN
  rw [if_pos (by omega), if_pos (by omega), Int.toNat_natCast]
  exact h
theorem atZ_of {α : Type} {xs : List α} {i : Int} (h0 : 0 ≤ i) (h1 : i < xs.length) : ∃ h : i.toNat < xs.length, atZ xs i = some xs[i.toNat] := by
  have h2 : i.toNat < xs.length := by omega
  refine ⟨h2, ?_⟩
  have := atZ_nat (xs := xs) (j := i.toNat) (v := xs[i.toNat]) (by simp [h2])
  rw [Int.toNat_of_nonneg h0] at this
  exact this
def ixL {α : Type} (xs : List α) (i : Int) : Res α := ofO (atZ xs i)
def ixS (x : Tx) (i : Int) : Res Tx := (must (x.length ≤ cap) x).bind fun x => (ofO (atZ x i)).bind fun c => .ok [c]
theorem ixL_ok {α : Type} {xs : List α} {j : Nat} {v : α} (h : xs[j]? = some v) : ixL xs (j : Int) = .ok v := by unfold ixL; rw [atZ_nat h]; rfl
def catS (a b : Tx) : Res Tx := must (a.length + b.length ≤ cap) (a ++ b)
def appL {α : Type} (a : List α) (x : α) : Res (List α) := must (a.length < cap) (a ++ [x])
def lenS (x : Tx) : Res Int := must (x.length ≤ cap) (x.length : Int)
def mapR {α β : Type} (f : α → Res β) : List α → Res (List β)
  | [] => .ok []
  | a :: r => (f a).bind fun b => (mapR f r).bind fun bs => .ok (b :: bs)
def compR {α β : Type} (xs : List α) (f : α → Res β) : Res (List β) := (must (xs.length ≤ cap) xs).bind fun xs => mapR f xs
def forR {α S : Type} (f : α → S → Res S) : List α → S → Res S
  | [], s => .ok s
  | a :: r, s => (f a s).bind fun s => forR f r s
def rangeN (n : Int) : List Int := (List.range n.toNat).map fun (i : Nat) => (i : Int)
def rangeR (n : Int) : Res (List Int) := must (-(2 ^ 62) ≤ n ∧ n < 2 ^ 62) (rangeN n)
def chars (x : Tx) : List Tx := x.map fun c => [c]
def eqR {α : Type} [DecidableEq α] (a b : α) : Res Bool := if a = b then .ok true else .stuck
theorem mapR_ok {α β : Type} {f : α → Res β} {g : α → β} : ∀ {xs : List α}, (∀ x ∈ xs, f x = .ok (g x)) → mapR f xs = .ok (xs.map g)
  | [], _ => rfl
  | a :: r, h => by
    unfold mapR
    rw [h a (List.mem_cons_self ..), Res.bind_ok', mapR_ok fun x hx => h x (List.mem_cons_of_mem _ hx)]
    rfl
theorem compR_ok {α β : Type} {f : α → Res β} {g : α → β} {xs : List α} (hl : xs.length ≤ cap) (h : ∀ x ∈ xs, f x = .ok (g x)) : compR xs f = .ok (xs.map g) := by
  unfold compR; rw [must_ok hl, Res.bind_ok', mapR_ok h]
end Mi
namespace Mi
end Mi
namespace Wb
open PySem L2 Mi
variable {Er : Nat → Prop}
structure Wd where
  G : Hp
  H : Hp
  ok : Same G H
structure Ext (W W' : Wd) : Prop where
  g : Same W.G W'.G
  h : Same W.H W'.H
  k : ∀ p, W.H p ≠ none → W'.G p = W.G p
theorem Ext.refl (W : Wd) : Ext W W := ⟨.refl _, .refl _, fun _ _ => rfl⟩
theorem Ext.trans {W W1 W2 : Wd} (a : Ext W W1) (b : Ext W1 W2) : Ext W W2 := ⟨a.g.trans b.g, a.h.trans b.h, fun p hp => by
  obtain ⟨o, ho⟩ := Option.ne_none_iff_exists'.mp hp
  rw [b.k p (by rw [a.h p o ho]; exact fun z => nomatch z), a.k p hp]⟩
theorem Same.upd2 {G H : Hp} (h : Same G H) (p : Addr) (o : HO) : Same (upd G p o) (upd H p o) := fun a u e => by
  by_cases z : a = p
  · subst z; rw [upd_same] at e ⊢; exact e
  · rw [upd_ne z] at e ⊢; exact h _ _ e
def Wd.new (W : Wd) (p : Addr) (o : HO) : Wd := ⟨upd W.G p o, upd W.H p o, Same.upd2 W.ok p o⟩
theorem Wd.gnone (W : Wd) {p : Addr} (h : W.H p = none) : W.G p = none := none_of W.ok h
theorem Ext.new {W : Wd} {p : Addr} (o : HO) (h : W.H p = none) : Ext W (W.new p o) := ⟨same_upd (W.gnone h), same_upd h, fun q hq => upd_ne fun z => hq (z ▸ h)⟩
def Wd.mut (W : Wd) (p : Addr) (o : HO) (h : W.G p = none) : Wd := ⟨W.G, upd W.H p o, same_keep W.ok h⟩
theorem Ext.own {W : Wd} {p : Addr} (o : HO) (h : W.H p = none) : Ext W (W.mut p o (W.gnone h)) := ⟨.refl _, same_upd h, fun _ _ => rfl⟩
def Wd.frz (W : Wd) (p : Addr) (o : HO) (h : W.H p = some o) : Wd := ⟨upd W.G p o, W.H, fun a u e => by
  by_cases z : a = p
  · subst z; rw [upd_same] at e; cases e; exact h
  · rw [upd_ne z] at e; exact W.ok _ _ e⟩
theorem Ext.mut {W0 W : Wd} {p : Addr} {o : HO} (e : Ext W0 W) (hp : W0.H p = none) (h : W.G p = none) : Ext W0 (W.mut p o h) :=
  ⟨e.g, fun a u z => by show upd W.H p o a = _; rw [upd_ne (ne_of_none z hp)]; exact e.h _ _ z, e.k⟩
theorem Ext.frz {W0 W : Wd} {p : Addr} {o : HO} (e : Ext W0 W) (hp : W0.H p = none) (h : W.H p = some o) (hg : W.G p = none) : Ext W0 (W.frz p o h) :=
  ⟨e.g.trans (same_upd hg), e.h, fun q hq => by show upd W.G p o q = _; rw [upd_ne (fun z => hq (by rw [z]; exact hp))]; exact e.k q hq⟩
abbrev Rw (α : Type) := Wd → α → V → Prop
class MonoW {α : Type} (R : Rw α) : Prop where
  mono : ∀ {W W' : Wd} {a : α} {v : V}, Ext W W' → R W a v → R W' a v
def sh {α : Type} (R : Rp α) : Rw α := fun W a v => R W.G a v
instance zkeep8 {α : Type} {R : Rp α} [Mono R] : MonoW (sh R) := ⟨fun e h => Mono.mono (R := R) e.g h⟩
def pk {α : Type} (R : Rp α) : Rw (List α) := fun W xs v => ∃ p vs, v = .ref p ∧ W.H p = some (.lst vs) ∧ LR R W.G xs vs
instance zkeep9 {α : Type} {R : Rp α} [Mono R] : MonoW (pk R) := ⟨fun e ⟨p, vs, a, b, c⟩ => ⟨p, vs, a, e.h _ _ b, c.same e.g⟩⟩
theorem pk.of {α : Type} {R : Rp α} {W : Wd} {xs : List α} {v : V} (h : isL R W.G xs v) : pk R W xs v := by
  obtain ⟨p, vs, a, b, c⟩ := h
  exact ⟨p, vs, a, W.ok _ _ b, c⟩
structure Ow {α : Type} (R : Rp α) (W : Wd) (p : Addr) (xs : List α) : Prop where
  g : W.G p = none
  h : ∃ vs, W.H p = some (.lst vs) ∧ LR R W.G xs vs
theorem Ow.mono {α : Type} {R : Rp α} [Mono R] {W W' : Wd} {p : Addr} {xs : List α} (o : Ow R W p xs) (e : Ext W W') : Ow R W' p xs := by
  obtain ⟨vs, a, b⟩ := o.h
  exact ⟨by rw [e.k p (by rw [a]; exact fun z => nomatch z)]; exact o.g, vs, e.h _ _ a, b.same e.g⟩
theorem Ow.pk {α : Type} {R : Rp α} {W : Wd} {p : Addr} {xs : List α} (o : Ow R W p xs) : pk R W xs (.ref p) := by
  obtain ⟨vs, a, b⟩ := o.h
  exact ⟨p, vs, rfl, a, b⟩
theorem Ow.frz {α : Type} {R : Rp α} [Mono R] {W0 W : Wd} {p : Addr} {xs : List α} (o : Ow R W p xs) (e : Ext W0 W) (hp : W0.H p = none) :
    ∃ W', W'.H = W.H ∧ Ext W0 W' ∧ Same W.G W'.G ∧ isL R W'.G xs (.ref p) ∧ ∀ q, q ≠ p → W'.G q = W.G q := by
  obtain ⟨vs, a, b⟩ := o.h
  exact ⟨W.frz p _ a, rfl, e.frz hp a o.g, same_upd o.g, ⟨p, vs, rfl, upd_same, b.same (same_upd o.g)⟩, fun q hq => upd_ne hq⟩
theorem Ow.keep {α : Type} {R : Rp α} [Mono R] {W W' : Wd} {q : Addr} {xs : List α} (o : Ow R W q xs) (hH : W'.H q = W.H q) (hs : Same W.G W'.G) (hg : W'.G q = W.G q) : Ow R W' q xs := by
  obtain ⟨vs, a, b⟩ := o.h
  exact ⟨by rw [hg]; exact o.g, vs, by rw [hH]; exact a, b.same hs⟩
def EV (Er : Nat → Prop) {α : Type} (t : TE) (σ : St) (W : Wd) (R : Rw α) (m : Res α) : Prop := ∀ W1, Ext W W1 → ∀ Q : VK, m.OkE Er (fun a => ∀ v W2, Ext W1 W2 → R W2 a v → Q v W2.H) → t σ W1.H Q
def EVo (Er : Nat → Prop) {α : Type} (t : TE) (σ : St) (W : Wd) (R : Rp α) (m : Res (List α)) : Prop := ∀ W1, Ext W W1 → ∀ Q : VK, m.OkE Er (fun xs => ∀ p W2, Ext W1 W2 → W1.H p = none → Ow R W2 p xs → Q (.ref p) W2.H) → t σ W1.H Q
def TV (Er : Nat → Prop) (t : TT) (σ : St) (W : Wd) (m : Res Bool) : Prop := ∀ W1, Ext W W1 → ∀ Q : Bool → Hp → Prop, m.OkE Er (fun b => ∀ W2, Ext W1 W2 → Q b W2.H) → t σ W1.H Q
section
variable {α β γ : Type} {t ta tb : TE} {σ : St} {W W0 W' : Wd} {K : PySem.W.Frag}
theorem EV.imp {R R' : Rw α} {m : Res α} (h : EV Er t σ W R m) (f : ∀ W a v, R W a v → R' W a v) : EV Er t σ W R' m := fun W1 e1 Q k => h W1 e1 Q (k.imp fun a ka v W2 e2 r => ka v W2 e2 (f _ _ _ r))
theorem EVo.ev {R : Rp α} [Mono R] {m : Res (List α)} (h : EVo Er t σ W R m) : EV Er t σ W (sh (isL R)) m := fun W1 e1 Q k => h W1 e1 Q (k.imp fun xs kx p W2 e2 hp o => by
  obtain ⟨W3, hH, e3, _, r, _⟩ := o.frz e2 hp
  rw [← hH]
  exact kx (.ref p) W3 e3 r)
theorem EVo.pk {R : Rp α} [Mono R] {m : Res (List α)} (h : EVo Er t σ W R m) : EV Er t σ W (pk R) m := fun W1 e1 Q k => h W1 e1 Q (k.imp fun xs kx p W2 e2 hp o => kx (.ref p) W2 e2 o.pk)
theorem EV.pk {R : Rp α} {m : Res (List α)} (h : EV Er t σ W (sh (isL R)) m) : EV Er t σ W (pk R) m := h.imp fun _ _ _ r => pk.of r
theorem ev_var {R : Rw α} [MonoW R] {i : Nat} {v : V} {a : α} (r : R W a v) (h : σ[i]? = some (some v) := by rfl) : EV Er (tVar i) σ W R (.ok a) := fun W1 e1 Q k => ⟨v, h, k v W1 (.refl _) (MonoW.mono e1 r)⟩
theorem ev_varO {R : Rp α} [Mono R] {i : Nat} {p : Addr} {a : List α} (r : Ow R W p a) (h : σ[i]? = some (some (.ref p)) := by rfl) : EV Er (tVar i) σ W (pk R) (.ok a) := ev_var r.pk h
def isB : Rp Bool := fun _ b v => v = .bl b
instance zkeep10 : Mono isB := ⟨fun _ h => h⟩
theorem ev_int {i : Int} : EV Er (tC (.int i)) σ W (sh isI) (.ok i) := fun W1 _ Q k => k _ W1 (.refl _) rfl
theorem ev_str {x : Str} {l : Tx} (h : x = sOf l) : EV Er (tC (.str x)) σ W (sh isS) (.ok l) := fun W1 _ Q k => k _ W1 (.refl _) (by rw [h]; rfl)
theorem ev_bl {b : Bool} : EV Er (tC (.bl b)) σ W (sh isB) (.ok b) := fun W1 _ Q k => k _ W1 (.refl _) rfl
theorem ev2 {r : R2} {Ra : Rw α} [MonoW Ra] {Rb : Rw β} {R : Rw γ} {ma : Res α} {mb : Res β} {f : α → β → Res γ} (ha : EV Er ta σ W Ra ma) (hb : EV Er tb σ W Rb mb)
    (h : ∀ W a b x y Q, Ra W a x → Rb W b y → (f a b).OkE Er (fun c => ∀ v W2, Ext W W2 → R W2 c v → Q v W2.H) → r x y W.H Q) : EV Er (tOp r ta tb) σ W R (ma.bind fun a => mb.bind fun b => f a b) := fun W1 e1 Q k => by
  refine ha W1 e1 _ ((Res.okE_bind k).imp fun a ka x W2 e2 hx => ?_)
  refine hb W2 (e1.trans e2) _ ((Res.okE_bind ka).imp fun b kb y W3 e3 hy => ?_)
  exact h W3 a b x y Q (MonoW.mono e3 hx) hy (kb.imp fun c kc v W4 e4 hv => kc v W4 ((e2.trans e3).trans e4) hv)
section
variable {ma mb : Res Int}
theorem ev_rI0 {g : Int → Int → Int} (ha : EV Er ta σ W (sh isI) ma) (hb : EV Er tb σ W (sh isI) mb) : EV Er (tOp (rI0 fun i j => .int (g i j)) ta tb) σ W (sh isI) (ma.bind fun a => mb.bind fun b => .ok (g a b)) :=
  ev2 ha hb fun W a b x y Q hx hy k => by cases hx; cases hy; exact ⟨a, b, rfl, rfl, k _ W (.refl _) rfl⟩
theorem ev_rI {C : Int → Int → Prop} {g : Int → Int → Int} {f : Int → Int → Res Int} (hf : ∀ a b P, (f a b).OkE Er P → C a b ∧ P (g a b)) (ha : EV Er ta σ W (sh isI) ma) (hb : EV Er tb σ W (sh isI) mb) :
    EV Er (tOp (rI C fun i j => .int (g i j)) ta tb) σ W (sh isI) (ma.bind fun a => mb.bind fun b => f a b) :=
  ev2 ha hb fun W a b x y Q hx hy k => by cases hx; cases hy; exact ⟨a, b, rfl, rfl, (hf a b _ k).1, (hf a b _ k).2 _ W (.refl _) rfl⟩
theorem ev_mul (ha : EV Er ta σ W (sh isI) ma) (hb : EV Er tb σ W (sh isI) mb) : EV Er (tOp (rI CMul fun i j => .int (i * j)) ta tb) σ W (sh isI) (ma.bind fun a => mb.bind fun b => mulR a b) := ev_rI (fun a b P h => by unfold mulR at h; obtain ⟨h1, h2⟩ := must_OkE h; exact ⟨h1, h2⟩) ha hb
theorem ev_fdiv (ha : EV Er ta σ W (sh isI) ma) (hb : EV Er tb σ W (sh isI) mb) : EV Er (tOp (rI CDiv fun i j => .int (i / j)) ta tb) σ W (sh isI) (ma.bind fun a => mb.bind fun b => fdivR a b) := ev_rI (fun a b P h => by unfold fdivR at h; obtain ⟨h1, h2⟩ := must_OkE h; exact ⟨h1, h2⟩) ha hb
theorem ev_mod (ha : EV Er ta σ W (sh isI) ma) (hb : EV Er tb σ W (sh isI) mb) : EV Er (tOp (rI (fun _ j => 0 < j) fun i j => .int (i % j)) ta tb) σ W (sh isI) (ma.bind fun a => mb.bind fun b => modR a b) := ev_rI (fun a b P h => by unfold modR at h; obtain ⟨h1, h2⟩ := must_OkE h; exact ⟨h1, h2⟩) ha hb
theorem ev_rIk {C : Int → Int → Prop} {g : Int → Int → Int} {n : Int} (hn : ∀ a, C a n) (ha : EV Er ta σ W (sh isI) ma) : EV Er (tOp (rI C fun i j => .int (g i j)) ta (tC (.int n))) σ W (sh isI) (ma.bind fun a => .ok (g a n)) :=
  fun W1 e1 Q k => ha W1 e1 _ ((Res.okE_bind k).imp fun a ka x W2 e2 hx => by cases hx; exact ⟨a, n, rfl, rfl, hn a, ka _ W2 e2 rfl⟩)
end
end
end Wb
namespace Wb
open PySem L2 Mi
variable {Er : Nat → Prop}
section
variable {α β γ δ : Type} {t ta tb tc : TE} {σ : St} {W W0 W' : Wd} {K : PySem.W.Frag}
theorem capL {n : Nat} (h : n ≤ cap) : n ≤ sizeLine := by rw [sizeLine_eq]; unfold cap at h; omega
section
variable {ma mb : Res Int}
theorem ev_cmp {g : Int → Int → Bool} (ha : EV Er ta σ W (sh isI) ma) (hb : EV Er tb σ W (sh isI) mb) : EV Er (tOp (rI0 fun i j => .bl (g i j)) ta tb) σ W (sh isB) (ma.bind fun a => mb.bind fun b => .ok (g a b)) :=
  ev2 ha hb fun W a b x y Q hx hy k => by cases hx; cases hy; exact ⟨a, b, rfl, rfl, k _ W (.refl _) rfl⟩
end
theorem dI {a b : Int} : decide (V.int a = V.int b) = decide (a = b) := by rw [Bool.eq_iff_iff]; simp
theorem dS {a b : Tx} : decide (V.str (sOf a) = V.str (sOf b)) = decide (a = b) := by
  rw [Bool.eq_iff_iff, decide_eq_true_eq, decide_eq_true_eq]
  exact ⟨fun h => sOf_inj (V.str.inj h), fun h => by rw [h]⟩
theorem ev_eqI {ma mb : Res Int} (ha : EV Er ta σ W (sh isI) ma) (hb : EV Er tb σ W (sh isI) mb) : EV Er (tOp rEq ta tb) σ W (sh isB) (ma.bind fun a => mb.bind fun b => .ok (decide (a = b))) :=
  ev2 ha hb fun W a b x y Q hx hy k => by cases hx; cases hy; exact ⟨rfl, by rw [dI]; exact k _ W (.refl _) rfl⟩
theorem ev_eqS {ma mb : Res Tx} (ha : EV Er ta σ W (sh isS) ma) (hb : EV Er tb σ W (sh isS) mb) : EV Er (tOp rEq ta tb) σ W (sh isB) (ma.bind fun a => mb.bind fun b => .ok (decide (a = b))) :=
  ev2 ha hb fun W a b x y Q hx hy k => by cases hx; cases hy; exact ⟨rfl, by rw [dS]; exact k _ W (.refl _) rfl⟩
theorem ev_neI {ma mb : Res Int} (ha : EV Er ta σ W (sh isI) ma) (hb : EV Er tb σ W (sh isI) mb) : EV Er (tOp rNe ta tb) σ W (sh isB) (ma.bind fun a => mb.bind fun b => .ok (!decide (a = b))) :=
  ev2 ha hb fun W a b x y Q hx hy k => by cases hx; cases hy; exact ⟨rfl, by rw [dI]; exact k _ W (.refl _) rfl⟩
theorem tv_test {m : Res Bool} (h : EV Er t σ W (sh isB) m) : TV Er (tTest t) σ W m := fun W1 e1 Q k => h W1 e1 _ (k.imp fun b kb v W2 e2 hv => ⟨b, hv, kb W2 e2⟩)
theorem tv_b {m : Res Bool} (h : EV Er t σ W (sh isB) m) : TV Er (tB t) σ W m := fun W1 e1 Q k => h W1 e1 _ (k.imp fun b kb v W2 e2 hv => ⟨b, hv, kb W2 e2⟩)
theorem tv_not {t : TT} {m : Res Bool} (h : TV Er t σ W m) : TV Er (tNot t) σ W (m.bind fun b => .ok (!b)) := fun W1 e1 Q k => h W1 e1 _ ((Res.okE_bind k).imp fun b kb W2 e2 => kb W2 e2)
theorem tv_and {t u : TT} {m n : Res Bool} (h : TV Er t σ W m) (g : TV Er u σ W n) : TV Er (tAnd t u) σ W (m.bind fun b => if b then n else .ok false) := fun W1 e1 Q k => h W1 e1 _ ((Res.okE_bind k).imp fun b kb W2 e2 => by
  cases b with
  | true => exact g W2 (e1.trans e2) _ (kb.imp fun c kc W3 e3 => kc W3 (e2.trans e3))
  | false => exact kb W2 e2)
theorem tv_or {t u : TT} {m n : Res Bool} (h : TV Er t σ W m) (g : TV Er u σ W n) : TV Er (tOr t u) σ W (m.bind fun b => if b then .ok true else n) := fun W1 e1 Q k => h W1 e1 _ ((Res.okE_bind k).imp fun b kb W2 e2 => by
  cases b with
  | true => exact kb W2 e2
  | false => exact g W2 (e1.trans e2) _ (kb.imp fun c kc W3 e3 => kc W3 (e2.trans e3)))
theorem ev_and {m n : Res Bool} (h : EV Er ta σ W (sh isB) m) (g : EV Er tb σ W (sh isB) n) : EV Er (tAndV ta tb) σ W (sh isB) (m.bind fun b => if b then n else .ok false) := fun W1 e1 Q k => h W1 e1 _ ((Res.okE_bind k).imp fun b kb v W2 e2 hv => ⟨b, hv, by
  cases b with
  | true => exact g W2 (e1.trans e2) _ (kb.imp fun c kc v W3 e3 hv => kc v W3 (e2.trans e3) hv)
  | false => exact kb _ W2 e2 rfl⟩)
theorem ev_or {m n : Res Bool} (h : EV Er ta σ W (sh isB) m) (g : EV Er tb σ W (sh isB) n) : EV Er (tOrV ta tb) σ W (sh isB) (m.bind fun b => if b then .ok true else n) := fun W1 e1 Q k => h W1 e1 _ ((Res.okE_bind k).imp fun b kb v W2 e2 hv => ⟨b, hv, by
  cases b with
  | true => exact kb _ W2 e2 rfl
  | false => exact g W2 (e1.trans e2) _ (kb.imp fun c kc v W3 e3 hv => kc v W3 (e2.trans e3) hv)⟩)
theorem ev_if {R : Rw α} {c : TT} {mc : Res Bool} {m n : Res α} (hc : TV Er c σ W mc) (h : EV Er ta σ W R m) (g : EV Er tb σ W R n) : EV Er (tIf c ta tb) σ W R (mc.bind fun b => if b then m else n) := fun W1 e1 Q k => hc W1 e1 _ ((Res.okE_bind k).imp fun b kb W2 e2 => by
  cases b with
  | true => exact h W2 (e1.trans e2) _ (kb.imp fun c kc v W3 e3 hv => kc v W3 (e2.trans e3) hv)
  | false => exact g W2 (e1.trans e2) _ (kb.imp fun c kc v W3 e3 hv => kc v W3 (e2.trans e3) hv))
theorem ev_catS {ma mb : Res Tx} (ha : EV Er ta σ W (sh isS) ma) (hb : EV Er tb σ W (sh isS) mb) : EV Er (tOp (fun x y H Q => ∃ i j, x = .str i ∧ y = .str j ∧ i.length + j.length ≤ sizeLine ∧ Q (.str (i ++ j)) H) ta tb) σ W (sh isS) (ma.bind fun a => mb.bind fun b => catS a b) :=
  ev2 ha hb fun W a b x y Q hx hy k => by
    cases hx; cases hy
    obtain ⟨h1, h2⟩ := must_OkE k
    exact ⟨_, _, rfl, rfl, by rw [sOf_len, sOf_len]; exact capL h1, by rw [sOf_append]; exact h2 _ W (.refl _) rfl⟩
theorem ev_ixS {ma : Res Tx} {mb : Res Int} (ha : EV Er ta σ W (sh isS) ma) (hb : EV Er tb σ W (sh isI) mb) : EV Er (tOp rIxS ta tb) σ W (sh isS) (ma.bind fun a => mb.bind fun b => ixS a b) :=
  ev2 ha hb fun W a b x y Q hx hy k => by
    cases hx; cases hy
    obtain ⟨h1, h2⟩ := must_OkE (Res.okE_bind k)
    obtain ⟨c, h3, h4⟩ := ofO_OkE (Res.okE_bind h2)
    exact ⟨_, b, c, rfl, rfl, by rw [sOf_len]; exact capL h1, by rw [sOf_cps]; exact h3, h4 _ W (.refl _) rfl⟩
theorem Same.tup {H H' : Hp} {a : Addr} {xs : List V} (e : Same H H') (h : SqT K H a xs) : SqT K H' a xs := by
  rcases h with (h | ⟨o, h⟩) | h
  · exact .inl (.inl (e _ _ h))
  · exact .inl (.inr ⟨o, e _ _ h⟩)
  · exact .inr h
def isT2 (K : PySem.W.Frag) (R1 : Rp α) (R2 : Rp β) : Rp (α × β) := fun H a v => ∃ p x y, v = .ref p ∧ SqT K H p [x, y] ∧ R1 H a.1 x ∧ R2 H a.2 y
def isT3 (K : PySem.W.Frag) (R1 : Rp α) (R2 : Rp β) (R3 : Rp γ) : Rp (α × β × γ) := fun H a v => ∃ p x y z, v = .ref p ∧ SqT K H p [x, y, z] ∧ R1 H a.1 x ∧ R2 H a.2.1 y ∧ R3 H a.2.2 z
instance zkeep15 {R1 : Rp α} {R2 : Rp β} {R3 : Rp γ} [Mono R1] [Mono R2] [Mono R3] : Mono (isT3 K R1 R2 R3) := ⟨fun e ⟨p, x, y, z, h0, h, h1, h2, h3⟩ => ⟨p, x, y, z, h0, Same.tup e h, Mono.mono e h1, Mono.mono e h2, Mono.mono e h3⟩⟩
theorem ev_tup3 {R1 : Rp α} {R2 : Rp β} {R3 : Rp γ} [Mono R1] [Mono R2] [Mono R3] {ma : Res α} {mb : Res β} {mc : Res γ} (ha : EV Er ta σ W (sh R1) ma) (hb : EV Er tb σ W (sh R2) mb) (hc : EV Er tc σ W (sh R3) mc) :
    EV Er (tTup (tCons ta (tCons tb (tCons tc tNil)))) σ W (sh (isT3 K R1 R2 R3)) (ma.bind fun a => mb.bind fun b => mc.bind fun c => .ok (a, b, c)) := fun W1 e1 Q k =>
  ha W1 e1 _ ((Res.okE_bind k).imp fun a ka x W2 e2 hx => hb W2 (e1.trans e2) _ ((Res.okE_bind ka).imp fun b kb y W3 e3 hy => hc W3 ((e1.trans e2).trans e3) _ ((Res.okE_bind kb).imp fun c kc z W4 e4 hz => ⟨(by show 3 ≤ sizeLine; decide), fun p hp =>
    kc (.ref p) (W4.new p (.tup [x, y, z])) (((e2.trans e3).trans e4).trans (.new _ hp)) ⟨p, x, y, z, rfl, SqT.of upd_same, Mono.mono (Ext.new _ hp).g (Mono.mono (R := R1) (e3.trans e4).g hx), Mono.mono (R := R2) (Ext.new _ hp).g (Mono.mono (R := R2) e4.g hy), Mono.mono (R := R3) (Ext.new _ hp).g hz⟩⟩)))
theorem ev_ixT {R : Rp α} {Rt : Rp β} {m : Res β} {i : Int} {f : β → α} (h : ∀ H b v, Rt H b v → ∃ p xs x, v = .ref p ∧ SqT K H p xs ∧ L2.atI xs i = some x ∧ R H (f b) x) (ha : EV Er ta σ W (sh Rt) m) : EV Er (tOp (rIxT K) ta (tC (.int i))) σ W (sh R) (m.bind fun b => .ok (f b)) := fun W1 e1 Q k =>
  ha W1 e1 _ ((Res.okE_bind k).imp fun b kb v W2 e2 hv => by
    obtain ⟨p, xs, x, h1, h2, h3, h4⟩ := h _ _ _ hv
    exact ⟨p, xs, i, x, h1, rfl, Same.tup W2.ok h2, h3, kb _ W2 e2 h4⟩)
theorem ix30 {R1 : Rp α} {R2 : Rp β} {R3 : Rp γ} : ∀ H b v, isT3 K R1 R2 R3 H b v → ∃ p xs x, v = .ref p ∧ SqT K H p xs ∧ L2.atI xs 0 = some x ∧ R1 H b.1 x := fun _ _ _ ⟨p, x, y, z, h0, h, h1, h2, h3⟩ => ⟨p, _, x, h0, h, rfl, h1⟩
theorem ix31 {R1 : Rp α} {R2 : Rp β} {R3 : Rp γ} : ∀ H b v, isT3 K R1 R2 R3 H b v → ∃ p xs x, v = .ref p ∧ SqT K H p xs ∧ L2.atI xs 1 = some x ∧ R2 H b.2.1 x := fun _ _ _ ⟨p, x, y, z, h0, h, h1, h2, h3⟩ => ⟨p, _, y, h0, h, rfl, h2⟩
theorem ix32 {R1 : Rp α} {R2 : Rp β} {R3 : Rp γ} : ∀ H b v, isT3 K R1 R2 R3 H b v → ∃ p xs x, v = .ref p ∧ SqT K H p xs ∧ L2.atI xs 2 = some x ∧ R3 H b.2.2 x := fun _ _ _ ⟨p, x, y, z, h0, h, h1, h2, h3⟩ => ⟨p, _, z, h0, h, rfl, h3⟩
theorem atZ_rel {R : Rp α} {H : Hp} {as : List α} {xs : List V} (h : LR R H as xs) {i : Int} {a : α} (e : atZ as i = some a) : ∃ x, L2.atI xs i = some x ∧ R H a x := by
  unfold atZ at e
  unfold L2.atI
  rw [h.1]
  cases z : Mi.ixN as.length i with
  | none => rw [z] at e; cases e
  | some j =>
    rw [z] at e
    obtain ⟨x, h1, h2⟩ := h.get (i := j) e
    exact ⟨x, by show (L2.ixN as.length i).bind _ = _; rw [show L2.ixN as.length i = Mi.ixN as.length i from rfl, z]; exact h1, h2⟩
theorem LR.three {R : Rp α} {H : Hp} {a b c : α} {x y z : V} (h1 : R H a x) (h2 : R H b y) (h3 : R H c z) : LR R H [a, b, c] [x, y, z] := ⟨rfl, fun i v m e1 e2 => by
  match i, e1, e2 with
  | 0, e1, e2 => cases e1; cases e2; exact h1
  | 1, e1, e2 => cases e1; cases e2; exact h2
  | 2, e1, e2 => cases e1; cases e2; exact h3⟩
theorem ev_ixL {R : Rp α} [Mono R] {ma : Res (List α)} {mb : Res Int} (ha : EV Er ta σ W (pk R) ma) (hb : EV Er tb σ W (sh isI) mb) : EV Er (tOp (rIxL K) ta tb) σ W (sh R) (ma.bind fun a => mb.bind fun b => ixL a b) :=
  ev2 ha hb fun W a b x y Q hx hy k => by
    cases hy
    obtain ⟨p, vs, rfl, h, h1⟩ := hx
    obtain ⟨c, h4, h5⟩ := ofO_OkE k
    obtain ⟨z, h6, h7⟩ := atZ_rel h1 h4
    exact ⟨p, _, b, z, rfl, rfl, SqL.of h, h6, h5 _ W (.refl _) h7⟩
theorem ev_lst0 {R : Rp α} : EVo Er (tLst tNil) σ W R (.ok []) := fun W1 e1 Q k => ⟨by decide, fun p hp => k p (W1.mut p (.lst []) (W1.gnone hp)) (.own _ hp) hp ⟨W1.gnone hp, [], upd_same, .nil⟩⟩
theorem ev_abs {ma : Res Int} (ha : EV Er ta σ W (sh isI) ma) : EV Er (tCB (fun xs H Q => ∃ i, xs = [.int i] ∧ Q (.int (if i < 0 then -i else i)) H) (tCons ta tNil)) σ W (sh isI) (ma.bind fun a => .ok (absI a)) := fun W1 e1 Q k =>
  ha W1 e1 _ ((Res.okE_bind k).imp fun a ka x W2 e2 hx => by cases hx; exact ⟨a, rfl, ka _ W2 e2 rfl⟩)
theorem ev_lenL {R : Rp α} {ma : Res (List α)} (ha : EV Er ta σ W (pk R) ma) : EV Er (tCB (fun xs H Q => ∃ x n, xs = [x] ∧ LenV K x H n ∧ Q (.int n) H) (tCons ta tNil)) σ W (sh isI) (ma.bind fun a => .ok (a.length : Int)) := fun W1 e1 Q k =>
  ha W1 e1 _ ((Res.okE_bind k).imp fun a ka x W2 e2 hx => by
    obtain ⟨p, vs, rfl, h1, h2⟩ := hx
    exact ⟨_, a.length, rfl, .inl ⟨vs, SqL.of h1, h2.1.symm⟩, ka _ W2 e2 rfl⟩)
theorem ev_lenS {ma : Res Tx} (ha : EV Er ta σ W (sh isS) ma) : EV Er (tCB (fun xs H Q => ∃ x n, xs = [x] ∧ LenV K x H n ∧ Q (.int n) H) (tCons ta tNil)) σ W (sh isI) (ma.bind fun a => lenS a) := fun W1 e1 Q k =>
  ha W1 e1 _ ((Res.okE_bind k).imp fun a ka x W2 e2 hx => by
    cases hx
    obtain ⟨h1, h2⟩ := must_OkE ka
    exact ⟨_, a.length, rfl, ⟨by rw [sOf_len]; exact capL h1, by rw [sOf_len]⟩, h2 _ W2 e2 rfl⟩)
end
end Wb
namespace Wb
open PySem L2 Mi
variable {Er : Nat → Prop}
abbrev Rt (β : Type) := Wd → β → VK → Prop
def rs {β : Type} (R : Rp β) : Rt β := fun W r Q => ∀ u W', Ext W W' → R W'.G r u → Q u W'.H
def ro {β : Type} (R : Rp β) : Rt (List β) := fun W r Q => ∀ p W', Ext W W' → W.H p = none → Ow R W' p r → Q (.ref p) W'.H
section
variable {α β γ δ ε ζ : Type}
def spM1 (R1 : Rp α) (rt : Rt β) (m : α → Res β) : Sp := fun vs H Q _ => ∃ (W : Wd) (a : α) (v : V), W.H = H ∧ vs = [v] ∧ R1 W.G a v ∧ ∃ Er : Nat → Prop, (m a).OkE Er fun r => rt W r Q
def spM2 (R1 : Rp α) (R2 : Rp γ) (rt : Rt β) (m : α → γ → Res β) : Sp := fun vs H Q _ => ∃ (W : Wd) (a : α) (b : γ) (v u : V), W.H = H ∧ vs = [v, u] ∧ R1 W.G a v ∧ R2 W.G b u ∧ ∃ Er : Nat → Prop, (m a b).OkE Er fun r => rt W r Q
def spM3 (R1 : Rp α) (R2 : Rp γ) (R3 : Rp δ) (rt : Rt β) (m : α → γ → δ → Res β) : Sp := fun vs H Q _ => ∃ (W : Wd) (a : α) (b : γ) (c : δ) (v u w : V), W.H = H ∧ vs = [v, u, w] ∧ R1 W.G a v ∧ R2 W.G b u ∧ R3 W.G c w ∧ ∃ Er : Nat → Prop, (m a b c).OkE Er fun r => rt W r Q
def spM4 (R1 : Rp α) (R2 : Rp γ) (R3 : Rp δ) (R4 : Rp ε) (rt : Rt β) (m : α → γ → δ → ε → Res β) : Sp := fun vs H Q _ => ∃ (W : Wd) (a : α) (b : γ) (c : δ) (d : ε) (v u w x : V), W.H = H ∧ vs = [v, u, w, x] ∧ R1 W.G a v ∧ R2 W.G b u ∧ R3 W.G c w ∧ R4 W.G d x ∧ ∃ Er : Nat → Prop, (m a b c d).OkE Er fun r => rt W r Q
variable {t t1 t2 t3 t4 t5 : TE} {σ : St} {W W0 W' : Wd} {K : PySem.W.Frag}
section
variable {R1 : Rp α} {R2 : Rp γ} {R3 : Rp δ} {R4 : Rp ε} {R5 : Rp ζ} [Mono R1] [Mono R2] [Mono R3] [Mono R4] [Mono R5] {m1 : Res α} {m2 : Res γ} {m3 : Res δ} {m4 : Res ε} {m5 : Res ζ} {E : XK}
theorem ev_call1 {R : Rp β} {m : α → Res β} (h1 : EV Er t1 σ W (sh R1) m1) : EV Er (tCall (spM1 R1 (rs R) m) [] E (tCons t1 tNil)) σ W (sh R) (m1.bind fun a => m a) := fun W1 e1 Q k =>
  h1 W1 e1 _ ((Res.okE_bind k).imp fun a ka v W2 e2 hv => ⟨W2, a, v, rfl, rfl, hv, Er, ka.imp fun r kr u W' e hu => kr u W' (e2.trans e) hu⟩)
theorem ev_call1o {R : Rp β} {m : α → Res (List β)} (h1 : EV Er t1 σ W (sh R1) m1) : EVo Er (tCall (spM1 R1 (ro R) m) [] E (tCons t1 tNil)) σ W R (m1.bind fun a => m a) := fun W1 e1 Q k =>
  h1 W1 e1 _ ((Res.okE_bind k).imp fun a ka v W2 e2 hv => ⟨W2, a, v, rfl, rfl, hv, Er, ka.imp fun r kr p W' e hp o => kr p W' (e2.trans e) (none_of e2.h hp) o⟩)
theorem ev_call2 {R : Rp β} {m : α → γ → Res β} (h1 : EV Er t1 σ W (sh R1) m1) (h2 : EV Er t2 σ W (sh R2) m2) : EV Er (tCall (spM2 R1 R2 (rs R) m) [] E (tCons t1 (tCons t2 tNil))) σ W (sh R) (m1.bind fun a => m2.bind fun b => m a b) := fun W1 e1 Q k =>
  h1 W1 e1 _ ((Res.okE_bind k).imp fun a ka v W2 e2 hv => h2 W2 (e1.trans e2) _ ((Res.okE_bind ka).imp fun b kb u W3 e3 hu => ⟨W3, a, b, v, u, rfl, rfl, MonoW.mono (R := sh R1) e3 hv, hu, Er, kb.imp fun r kr u W' e hu => kr u W' ((e2.trans e3).trans e) hu⟩))
theorem ev_call3o {R : Rp β} {m : α → γ → δ → Res (List β)} (h1 : EV Er t1 σ W (sh R1) m1) (h2 : EV Er t2 σ W (sh R2) m2) (h3 : EV Er t3 σ W (sh R3) m3) : EVo Er (tCall (spM3 R1 R2 R3 (ro R) m) [] E (tCons t1 (tCons t2 (tCons t3 tNil)))) σ W R (m1.bind fun a => m2.bind fun b => m3.bind fun c => m a b c) := fun W1 e1 Q k =>
  h1 W1 e1 _ ((Res.okE_bind k).imp fun a ka v W2 e2 hv => h2 W2 (e1.trans e2) _ ((Res.okE_bind ka).imp fun b kb u W3 e3 hu => h3 W3 ((e1.trans e2).trans e3) _ ((Res.okE_bind kb).imp fun c kc w W4 e4 hw =>
    ⟨W4, a, b, c, v, u, w, rfl, rfl, MonoW.mono (R := sh R1) (e3.trans e4) hv, MonoW.mono (R := sh R2) e4 hu, hw, Er, kc.imp fun r kr p W' e hp o => kr p W' (((e2.trans e3).trans e4).trans e) (none_of ((e2.trans e3).trans e4).h hp) o⟩)))
theorem ev_call4o {R : Rp β} {m : α → γ → δ → ε → Res (List β)} (h1 : EV Er t1 σ W (sh R1) m1) (h2 : EV Er t2 σ W (sh R2) m2) (h3 : EV Er t3 σ W (sh R3) m3) (h4 : EV Er t4 σ W (sh R4) m4) : EVo Er (tCall (spM4 R1 R2 R3 R4 (ro R) m) [] E (tCons t1 (tCons t2 (tCons t3 (tCons t4 tNil))))) σ W R (m1.bind fun a => m2.bind fun b => m3.bind fun c => m4.bind fun d => m a b c d) := fun W1 e1 Q k =>
  h1 W1 e1 _ ((Res.okE_bind k).imp fun a ka v W2 e2 hv => h2 W2 (e1.trans e2) _ ((Res.okE_bind ka).imp fun b kb u W3 e3 hu => h3 W3 ((e1.trans e2).trans e3) _ ((Res.okE_bind kb).imp fun c kc w W4 e4 hw => h4 W4 (((e1.trans e2).trans e3).trans e4) _ ((Res.okE_bind kc).imp fun d kd x W5 e5 hx =>
    ⟨W5, a, b, c, d, v, u, w, x, rfl, rfl, MonoW.mono (R := sh R1) ((e3.trans e4).trans e5) hv, MonoW.mono (R := sh R2) (e4.trans e5) hu, MonoW.mono (R := sh R3) e5 hw, hx, Er, kd.imp fun r kr p W' e hp o => kr p W' ((((e2.trans e3).trans e4).trans e5).trans e) (none_of (((e2.trans e3).trans e4).trans e5).h hp) o⟩))))
end
def Yl (J : It) (W : Wd) (R : Rp α) (xs : List α) : Prop := ∀ W1 : Wd, Same W.G W1.G → (∀ (i : Nat) (a : α), xs[i]? = some a → J.go i W1.H ∧ ∀ x H', J.yld i W1.H x H' → ∃ W2 : Wd, W2.H = H' ∧ Ext W1 W2 ∧ R W2.G a x) ∧ J.stop xs.length W1.H
def IV (Er : Nat → Prop) (wi : TI) (σ : St) (W : Wd) (R : Rp α) (m : Res (List α)) : Prop := ∀ W1, Ext W W1 → ∀ P : It → Hp → Prop, m.OkE Er (fun xs => ∀ J W2, Ext W1 W2 → Yl J W2 R xs → P J W2.H) → wi σ W1.H P
theorem iv_list {R : Rp α} [Mono R] {m : Res (List α)} (h : EV Er t σ W (sh (isL R)) m) : IV Er (iList K t) σ W R m := fun W1 e1 P k =>
  h W1 e1 _ (k.imp fun xs kx v W2 e2 hv => by
    obtain ⟨p, vs, rfl, h1, h2⟩ := hv
    refine ⟨p, rfl, ⟨vs, SqL.of (W2.ok _ _ h1)⟩, kx _ W2 e2 fun W3 e3 => ⟨fun i a ha => ?_, vs, SqL.of (W3.ok _ _ (e3 _ _ h1)), by rw [h2.1]; exact Nat.le_refl _⟩⟩
    obtain ⟨x, hx, hr⟩ := h2.get ha
    refine ⟨⟨vs, x, SqL.of (W3.ok _ _ (e3 _ _ h1)), hx⟩, fun y H' ⟨z1, z2⟩ => ⟨W3, z1.symm, .refl _, ?_⟩⟩
    have := z2 vs (SqL.of (W3.ok _ _ (e3 _ _ h1)))
    rw [hx] at this
    cases this
    exact Mono.mono e3 hr)
theorem iv_range {m : Res Int} (h : EV Er t σ W (sh isI) m) : IV Er (iRng1 (tCons t tNil)) σ W isI (m.bind fun n => rangeR n) := fun W1 e1 P k =>
  h W1 e1 _ ((Res.okE_bind k).imp fun n kn v W2 e2 hv => by
    cases hv
    obtain ⟨hb, kn⟩ := must_OkE kn
    refine ⟨n, rfl, hb.1, hb.2, kn _ W2 e2 fun W3 e3 => ⟨fun i a ha => ?_, by show n.toNat ≤ (rangeN n).length; simp [rangeN]⟩⟩
    unfold rangeN at ha
    rw [List.getElem?_map] at ha
    have hi : i < n.toNat := by
      refine Classical.byContradiction fun z => ?_
      rw [List.getElem?_eq_none_iff.mpr (by simp; omega)] at ha; cases ha
    rw [List.getElem?_range hi] at ha
    cases ha
    exact ⟨hi, fun y H' ⟨z1, z2⟩ => ⟨W3, z1.symm, .refl _, by rw [z2]; show V.int (0 + (i : Int)) = .int (i : Int); rw [Int.zero_add]⟩⟩)
def SrcR (K : PySem.W.Frag) (W : Wd) (R : Rp α) (xs : List α) (v : V) : Prop := ∃ (c : Src) (vs : List V), v = c.val ∧ (∀ W1 : Wd, Same W.G W1.G → c.has K W1.H vs) ∧ LR R W.G xs vs
theorem SrcR.mono {R : Rp α} [Mono R] {xs : List α} {v : V} (h : SrcR K W R xs v) (e : Same W.G W'.G) : SrcR K W' R xs v := by
  obtain ⟨c, vs, h1, h2, h3⟩ := h
  exact ⟨c, vs, h1, fun W1 e1 => h2 W1 (e.trans e1), h3.same e⟩
def SV (Er : Nat → Prop) (t : TE) (σ : St) (W : Wd) (K : PySem.W.Frag) (R : Rp α) (m : Res (List α)) : Prop := EV Er t σ W (fun W xs v => SrcR K W R xs v) m
theorem lr_chars {H : Hp} (x : Tx) : LR isS H (chars x) (x.map fun c => V.str (sOf [c])) := ⟨by simp [chars], fun i v m e1 e2 => by
  unfold chars at e2
  rw [List.getElem?_map] at e1 e2
  cases hc : x[i]? with
  | none => rw [hc] at e1; cases e1
  | some c => rw [hc] at e1 e2; cases e1; cases e2; rfl⟩
theorem sv_str {m : Res Tx} (h : EV Er t σ W (sh isS) m) : SV Er t σ W K isS (m.bind fun x => .ok (chars x)) := fun W1 e1 Q k =>
  h W1 e1 _ ((Res.okE_bind k).imp fun x kx v W2 e2 hv => by cases hv; exact kx _ W2 e2 ⟨.str x, _, rfl, fun _ _ => rfl, lr_chars x⟩)
theorem sv_tup3 {R : Rp α} {m : Res (α × α × α)} (h : EV Er t σ W (sh (isT3 K R R R)) m) : SV Er t σ W K R (m.bind fun x => .ok [x.1, x.2.1, x.2.2]) := fun W1 e1 Q k =>
  h W1 e1 _ ((Res.okE_bind k).imp fun x kx v W2 e2 hv => by
    obtain ⟨p, a, b, c, h0, h, h1, h2, h3⟩ := hv
    exact kx _ W2 e2 ⟨.tup p, _, h0, fun W3 e3 => Same.tup (e3.trans W3.ok) h, LR.three h1 h2 h3⟩)
theorem iv_zip {R1 : Rp α} {R2 : Rp β} [Mono R1] [Mono R2] {m1 : Res (List α)} {m2 : Res (List β)} (h1 : SV Er t1 σ W K R1 m1) (h2 : SV Er t2 σ W K R2 m2) : IV Er (iZip K (tCons t1 (tCons t2 tNil))) σ W (isT2 K R1 R2) (m1.bind fun xs => m2.bind fun ys => .ok (xs.zip ys)) := fun W1 e1 P k =>
  h1 W1 e1 _ ((Res.okE_bind k).imp fun xs kx v W2 e2 hv => h2 W2 (e1.trans e2) _ ((Res.okE_bind kx).imp fun ys ky u W3 e3 hu => by
    obtain ⟨c1, vs, rfl, a1, b1⟩ := SrcR.mono hv e3.g
    obtain ⟨c2, us, rfl, a2, b2⟩ := hu
    refine ⟨c1, c2, vs, us, rfl, a1 W3 (.refl _), a2 W3 (.refl _), ky _ W3 (e2.trans e3) fun W4 e4 => ⟨fun i ab hab => ?_, ?_⟩⟩
    · rw [List.getElem?_zip_eq_some] at hab
      obtain ⟨x, hx, rx⟩ := b1.get hab.1
      obtain ⟨y, hy, ry⟩ := b2.get hab.2
      refine ⟨⟨vs, us, x, y, a1 W4 e4, a2 W4 e4, hx, hy⟩, fun z H' ⟨p, x', y', hp, z0, z1, z2, z3⟩ => ⟨W4.new p (.tup [x', y']), by rw [z3]; rfl, .new _ hp, p, x', y', z0, SqT.of upd_same, ?_, ?_⟩⟩
      · have := z1 vs (a1 W4 e4); rw [hx] at this; cases this
        exact Mono.mono (e4.trans (Ext.new _ hp).g) rx
      · have := z2 us (a2 W4 e4); rw [hy] at this; cases this
        exact Mono.mono (e4.trans (Ext.new _ hp).g) ry
    · refine ⟨vs, us, a1 W4 e4, a2 W4 e4, ?_⟩
      rw [List.length_zip, b1.1, b2.1]
      omega))
theorem mapR_drop {f : α → Res β} {xs : List α} {i : Nat} {a : α} (h : xs[i]? = some a) : mapR f (xs.drop i) = (f a).bind fun b => (mapR f (xs.drop (i + 1))).bind fun bs => .ok (b :: bs) := by
  obtain ⟨hi, e⟩ := List.getElem?_eq_some_iff.mp h
  rw [List.drop_eq_getElem_cons hi, e]
  rfl
theorem ev_comp {cap : List (Option Nat)} {wi : TI} {g : TG} {te : TE} {R : Rp α} {R' : Rp β} [Mono R'] {m : Res (List α)} {f : α → Res β} (hi : IV Er wi σ W R m)
    (hb : ∀ (W1 : Wd) (a : α) (v : V), Ext W W1 → R W1.G a v → ∀ Q : VK, (f a).OkE Er (fun b => ∀ u W2, Ext W1 W2 → R' W2.G b u → Q u W2.H) → g v (capSt cap σ) W1.H fun σ2 H2 => Keep (capSt cap σ) σ2 ∧ te σ2 H2 Q) :
    EVo Er (tComp cap wi g tYes te) σ W R' (m.bind fun xs => compR xs f) := fun W1 e1 Q k => by
  refine hi W1 e1 _ ((Res.okE_bind k).imp fun xs kx J W2 e2 hy => ?_)
  obtain ⟨hl, kx⟩ := must_OkE (Res.okE_bind kx)
  refine ⟨fun i n ys H => n = xs.length - i ∧ i ≤ xs.length ∧ ys.length ≤ i ∧ ∃ (W3 : Wd) (bs : List β), W3.H = H ∧ Ext W2 W3 ∧ LR R' W3.G bs ys ∧ (mapR f (xs.drop i)).OkE Er (fun r => ∀ p W4, Ext W1 W4 → W1.H p = none → Ow R' W4 p (bs ++ r) → Q (.ref p) W4.H), ⟨xs.length, by simp, by simp, by simp, W2, [], rfl, .refl _, .nil, ?_⟩, ?_⟩
  · simpa using kx
  · rintro i n ys H ⟨rfl, hi1, hyl, W3, bs, rfl, e3, lr, q⟩
    refine ⟨by rw [sizeLine_eq]; unfold Mi.cap at hl; omega, ?_⟩
    by_cases hlt : i < xs.length
    · obtain ⟨a, ha⟩ : ∃ a, xs[i]? = some a := ⟨xs[i], by simp [hlt]⟩
      obtain ⟨h1, h2⟩ := (hy W3 e3.g).1 i a ha
      refine .inr ⟨h1, fun ys' H' => ys'.length ≤ i + 1 ∧ ∃ (W3 : Wd) (bs : List β), W3.H = H' ∧ Ext W2 W3 ∧ LR R' W3.G bs ys' ∧ (mapR f (xs.drop (i + 1))).OkE Er (fun r => ∀ p W4, Ext W1 W4 → W1.H p = none → Ow R' W4 p (bs ++ r) → Q (.ref p) W4.H), fun ys' H' ⟨z1, z2⟩ => ⟨xs.length - (i + 1), by omega, rfl, hlt, z1, z2⟩, fun x H' hx => ?_⟩
      obtain ⟨W4, rfl, e4, rx⟩ := h2 x H' hx
      rw [mapR_drop ha] at q
      have := hb W4 a x (e1.trans ((e2.trans e3).trans e4)) rx (fun y H4 => (ys ++ [y]).length ≤ i + 1 ∧ ∃ (W3 : Wd) (bs : List β), W3.H = H4 ∧ Ext W2 W3 ∧ LR R' W3.G bs (ys ++ [y]) ∧ (mapR f (xs.drop (i + 1))).OkE Er (fun r => ∀ p W4, Ext W1 W4 → W1.H p = none → Ow R' W4 p (bs ++ r) → Q (.ref p) W4.H))
        ((Res.okE_bind q).imp fun b kb u W5 e5 hu => ⟨by simp; exact hyl, W5, bs ++ [b], rfl, (e3.trans e4).trans e5, (lr.same (e4.trans e5).g).snoc hu, (Res.okE_bind kb).imp fun r kr => by rw [List.append_assoc]; exact kr⟩)
      exact this
    · have e : i = xs.length := by omega
      subst e
      rw [List.drop_length] at q
      refine .inl ⟨(hy W3 e3.g).2, fun D hD => ?_⟩
      have e13 := e2.trans e3
      have := q D (W3.mut D (.lst ys) (W3.gnone hD)) (e13.trans (.own _ hD)) (none_of e13.h hD) ⟨W3.gnone hD, ys, upd_same, by rw [List.append_nil]; exact lr⟩
      exact this
end
end Wb
namespace Wb
open PySem L2 Mi
variable {Er : Nat → Prop}
section
variable {α β γ δ : Type} {t u : TS} {te ti : TE} {g : TG} {D : Ends} {σ : St} {W W0 W' : Wd} {K : PySem.W.Frag} {i j k n : Nat} {P : St → Hp → Prop} {H : Hp} {v : V}
theorem gn {σ' : St} (h : P σ' H) (hσ : σ.set i (some v) = σ' := by rfl) : gName i v σ H P := by subst hσ; exact h
theorem gt2n {σ' : V → V → St} {R1 : Rp α} {R2 : Rp β} {ab : α × β} (h : isT2 K R1 R2 W.G ab v) (q : ∀ x y, R1 W.G ab.1 x → R2 W.G ab.2 y → P (σ' x y) W.H) (hσ : ∀ x y, (σ.set i (some x)).set j (some y) = σ' x y := by intro _ _; rfl) : gTup K 2 (gCons (gName i) (gCons (gName j) gNil)) v σ W.H P := by
  obtain ⟨p, x, y, h0, h, h1, h2⟩ := h
  exact ⟨p, _, h0, Same.tup W.ok h, rfl, x, _, rfl, y, _, rfl, rfl, by have := q x y h1 h2; rw [← hσ] at this; exact this⟩
theorem sv_asg {σ' : V → St} {R : Rw α} {m : Res α} (h : EV Er te σ W R m) (q : m.OkE Er fun a => ∀ v W', Ext W W' → R W' a v → D.nx (σ' v) W'.H) (hσ : ∀ v, σ.set i (some v) = σ' v := by intro _; rfl) : tAsg te (gName i) D σ W.H := h W (.refl _) _ (q.imp fun a k v W' e r => by have := k v W' e r; rw [← hσ] at this; exact this)
theorem sv_asgO {σ' : Addr → St} {R : Rp α} {m : Res (List α)} (h : EVo Er te σ W R m) (q : m.OkE Er fun a => ∀ p W', Ext W W' → W.H p = none → Ow R W' p a → D.nx (σ' p) W'.H) (hσ : ∀ p, σ.set i (some (.ref p)) = σ' p := by intro _; rfl) : tAsg te (gName i) D σ W.H := h W (.refl _) _ (q.imp fun a k p W' e hp r => by have := k p W' e hp r; rw [← hσ] at this; exact this)
theorem sv_ret {R : Rw α} {m : Res α} (h : EV Er te σ W R m) (q : m.OkE Er fun a => ∀ v W', Ext W W' → R W' a v → D.rt v W'.H) : tRet te D σ W.H := h W (.refl _) _ q
theorem sv_retO {R : Rp α} {m : Res (List α)} (h : EVo Er te σ W R m) (q : m.OkE Er fun a => ∀ p W', Ext W W' → W.H p = none → Ow R W' p a → D.rt (.ref p) W'.H) : tRet te D σ W.H := h W (.refl _) _ q
theorem sv_ifj {S : Type} {c : TT} {m : Res Bool} {mA mB : Res S} {P : S → Prop} (Iv : S → Wd → St → Prop) (h : TV Er c σ W m) (q : (m.bind fun b => if b then mA else mB).OkE Er P)
    (hA : ∀ W' (N : St → Hp → Prop), Ext W W' → (∀ s W1 σ1, Same W.G W1.G → Iv s W1 σ1 → P s → N σ1 W1.H) → mA.OkE Er P → t { D with nx := N } σ W'.H)
    (hB : ∀ W' (N : St → Hp → Prop), Ext W W' → (∀ s W1 σ1, Same W.G W1.G → Iv s W1 σ1 → P s → N σ1 W1.H) → mB.OkE Er P → u { D with nx := N } σ W'.H)
    (hd : ∀ s W1 σ1, Same W.G W1.G → Iv s W1 σ1 → P s → D.nx σ1 W1.H) : tIfS c t u D σ W.H := h W (.refl _) _ ((Res.okE_bind q).imp fun b kb W' e => by
  cases b with
  | true => exact hA W' D.nx e hd kb
  | false => exact hB W' D.nx e hd kb)
theorem Ow.ne {R : Rp α} {p q : Addr} {ys : List α} (o : Ow R W q ys) (hp : W.H p = none) : q ≠ p := by
  obtain ⟨vs, a, b⟩ := o.h
  exact ne_of_none a hp
structure Mu (W W' : Wd) (p : Addr) : Prop where
  g : Same W.G W'.G
  e : ∀ W0 : Wd, Ext W0 W → W0.H p = none → Ext W0 W'
  h : ∀ q, q ≠ p → W.H q ≠ none → W'.H q = W.H q ∧ W'.G q = W.G q
theorem Mu.of {W1 : Wd} {p : Addr} {o : HO} (e1 : Ext W W1) (hg : W1.G p = none) : Mu W (W1.mut p o hg) p := ⟨e1.g, fun W0 e0 hp => (e0.trans e1).mut hp hg, fun q hq hn => by
  obtain ⟨o', ho⟩ := Option.ne_none_iff_exists'.mp hn
  exact ⟨by show upd W1.H p o q = _; rw [upd_ne hq, e1.h _ _ ho, ho], e1.k q hn⟩⟩
theorem Mu.ow {R : Rp α} [Mono R] {p q : Addr} {ys : List α} (m : Mu W W' p) (hq : q ≠ p) (o : Ow R W q ys) : Ow R W' q ys := by
  obtain ⟨vs, a, b⟩ := o.h
  obtain ⟨h1, h2⟩ := m.h q hq (by rw [a]; exact fun z => nomatch z)
  exact ⟨by rw [h2]; exact o.g, vs, by rw [h1]; exact a, b.same m.g⟩
theorem sv_app {R : Rp α} [Mono R] {p : Addr} {xs : List α} {m : Res α} (o : Ow R W p xs) (h : EV Er te σ W (sh R) m) (q : (m.bind fun a => appL xs a).OkE Er fun ys => ∀ W', Mu W W' p → Ow R W' p ys → D.nx σ W'.H) (hi : σ[i]? = some (some (.ref p)) := by rfl) : tDrop (tBM K "list" rAppend (tVar i) (tCons te tNil)) D σ W.H := by
  obtain ⟨vs, h1, h2⟩ := o.h
  refine ⟨.ref p, hi, .inl ⟨rfl, vs, SqL.of h1⟩, h W (.refl _) _ ((Res.okE_bind q).imp fun a ka v W2 e2 hv => ?_)⟩
  obtain ⟨h3, h4⟩ := must_OkE ka
  have hg := (o.mono e2).g
  refine ⟨p, vs, v, rfl, rfl, e2.h _ _ h1, by rw [h2.1, sizeLine_eq]; unfold Mi.cap at h3; omega, h4 (W2.mut p (.lst (vs ++ [v])) hg) (.of e2 hg) ⟨hg, _, upd_same, (h2.same e2.g).snoc hv⟩⟩
def nxF {S : Type} (W : Wd) (Iv : S → Wd → St → Prop) (P : S → Prop) : St → Hp → Prop := fun σ' H' => ∃ s' W', W'.H = H' ∧ Same W.G W'.G ∧ Iv s' W' σ' ∧ P s'
theorem forR_drop {S : Type} {f : α → S → Res S} {xs : List α} {i : Nat} {a : α} {s : S} (h : xs[i]? = some a) : forR f (xs.drop i) s = (f a s).bind fun s => forR f (xs.drop (i + 1)) s := by
  obtain ⟨hi, e⟩ := List.getElem?_eq_some_iff.mp h
  rw [List.drop_eq_getElem_cons hi, e]
  rfl
theorem sv_for {S : Type} {wi : TI} {tb : TS} {R : Rp α} {m : Res (List α)} {f : α → S → Res S} {s0 : S} {P : S → Prop} (Iv : S → Wd → St → Prop) (hi : IV Er wi σ W R m) (q : (m.bind fun xs => forR f xs s0).OkE Er P)
    (h0 : ∀ W1, Ext W W1 → Iv s0 W1 σ)
    (hs : ∀ Wb W1 W2 a v s σ1 P', Same W.G W1.G → Same Wb.G W1.G → Iv s W1 σ1 → Ext W1 W2 → R W2.G a v → (f a s).OkE Er P' → g v σ1 W2.H fun σ2 H2 => tb { D with nx := nxF Wb Iv P', ct := nxF Wb Iv P', bk := D.nx } σ2 H2)
    (hd : ∀ s W1 σ1, Same W.G W1.G → Iv s W1 σ1 → P s → D.nx σ1 W1.H) : tFor wi g tb D σ W.H := by
  refine hi W (.refl _) _ ((Res.okE_bind q).imp fun xs kx J W1 e1 hy => ?_)
  refine ⟨fun i n σ' H' => n = xs.length - i ∧ i ≤ xs.length ∧ ∃ s' W', W'.H = H' ∧ Same W1.G W'.G ∧ Iv s' W' σ' ∧ (forR f (xs.drop i) s').OkE Er P, ⟨xs.length, by simp, by simp, s0, W1, rfl, .refl _, h0 W1 e1, by simpa using kx⟩, ?_⟩
  rintro i n σ1 H1 ⟨rfl, hi1, s, W2, rfl, e2, iv, k⟩
  by_cases hlt : i < xs.length
  · obtain ⟨a, ha⟩ : ∃ a, xs[i]? = some a := ⟨xs[i], by simp [hlt]⟩
    obtain ⟨h1, h2⟩ := (hy W2 e2).1 i a ha
    refine .inr ⟨h1, nxF W1 Iv fun s' => (forR f (xs.drop (i + 1)) s').OkE Er P, fun σ' H' ⟨s', W', z1, z2, z3, z4⟩ => ⟨xs.length - (i + 1), by omega, rfl, hlt, s', W', z1, z2, z3, z4⟩, fun x H' hx => ?_⟩
    obtain ⟨W3, rfl, e3, rx⟩ := h2 x H' hx
    rw [forR_drop ha] at k
    exact hs W1 W2 W3 a x s σ1 (fun s' => (forR f (xs.drop (i + 1)) s').OkE Er P) (e1.g.trans e2) e2 iv e3 rx (Res.okE_bind k)
  · have e : i = xs.length := by omega
    subst e
    rw [List.drop_length] at k
    exact .inl ⟨(hy W2 e2).2, hd s W2 σ1 (e1.g.trans e2) iv k⟩
section
variable {r : TS}
theorem sv_asg_s {σ' : V → St} {R : Rw α} {m : Res α} (h : EV Er te σ W R m) (q : m.OkE Er fun a => ∀ v W', Ext W W' → R W' a v → r D (σ' v) W'.H) (hσ : ∀ v, σ.set i (some v) = σ' v := by intro _; rfl) : tSeq (tAsg te (gName i)) r D σ W.H := sv_asg (D := { D with nx := r D }) h q hσ
theorem sv_asgO_s {σ' : Addr → St} {R : Rp α} {m : Res (List α)} (h : EVo Er te σ W R m) (q : m.OkE Er fun a => ∀ p W', Ext W W' → W.H p = none → Ow R W' p a → r D (σ' p) W'.H) (hσ : ∀ p, σ.set i (some (.ref p)) = σ' p := by intro _; rfl) : tSeq (tAsg te (gName i)) r D σ W.H := sv_asgO (D := { D with nx := r D }) h q hσ
theorem sv_if_s {c : TT} {m : Res Bool} (h : TV Er c σ W m) (q : m.OkE Er fun b => ∀ W', Ext W W' → if b = true then t { D with nx := r D } σ W'.H else u { D with nx := r D } σ W'.H) : tSeq (tIfS c t u) r D σ W.H := h W (.refl _) _ q
theorem sv_ifj_s {S : Type} {c : TT} {m : Res Bool} {mA mB : Res S} {P : S → Prop} (Iv : S → Wd → St → Prop) (h : TV Er c σ W m) (q : (m.bind fun b => if b then mA else mB).OkE Er P)
    (hA : ∀ W' (N : St → Hp → Prop), Ext W W' → (∀ s W1 σ1, Same W.G W1.G → Iv s W1 σ1 → P s → N σ1 W1.H) → mA.OkE Er P → t { D with nx := N } σ W'.H)
    (hB : ∀ W' (N : St → Hp → Prop), Ext W W' → (∀ s W1 σ1, Same W.G W1.G → Iv s W1 σ1 → P s → N σ1 W1.H) → mB.OkE Er P → u { D with nx := N } σ W'.H)
    (hd : ∀ s W1 σ1, Same W.G W1.G → Iv s W1 σ1 → P s → r D σ1 W1.H) : tSeq (tIfS c t u) r D σ W.H := sv_ifj (D := { D with nx := r D }) Iv h q hA hB hd
theorem sv_app_s {R : Rp α} [Mono R] {p : Addr} {xs : List α} {m : Res α} (o : Ow R W p xs) (h : EV Er te σ W (sh R) m) (q : (m.bind fun a => appL xs a).OkE Er fun ys => ∀ W', Mu W W' p → Ow R W' p ys → r D σ W'.H) (hi : σ[i]? = some (some (.ref p)) := by rfl) : tSeq (tDrop (tBM K "list" rAppend (tVar i) (tCons te tNil))) r D σ W.H := sv_app (D := { D with nx := r D }) o h q hi
theorem sv_for_s {S : Type} {wi : TI} {tb : TS} {R : Rp α} {m : Res (List α)} {f : α → S → Res S} {s0 : S} {P : S → Prop} (Iv : S → Wd → St → Prop) (hi : IV Er wi σ W R m) (q : (m.bind fun xs => forR f xs s0).OkE Er P)
    (h0 : ∀ W1, Ext W W1 → Iv s0 W1 σ)
    (hs : ∀ Wb W1 W2 a v s σ1 P', Same W.G W1.G → Same Wb.G W1.G → Iv s W1 σ1 → Ext W1 W2 → R W2.G a v → (f a s).OkE Er P' → g v σ1 W2.H fun σ2 H2 => tb { D with nx := nxF Wb Iv P', ct := nxF Wb Iv P', bk := r D } σ2 H2)
    (hd : ∀ s W1 σ1, Same W.G W1.G → Iv s W1 σ1 → P s → r D σ1 W1.H) : tSeq (tFor wi g tb) r D σ W.H := sv_for (D := { D with nx := r D }) Iv hi q h0 hs hd
end
theorem nxF_of {S : Type} {Wb W : Wd} {Iv : S → Wd → St → Prop} {P : S → Prop} (s : S) (hs : Same Wb.G W.G) (iv : Iv s W σ) (hq : P s) : nxF Wb Iv P σ W.H := ⟨s, W, rfl, hs, iv, hq⟩
end
end Wb
namespace L2
open PySem PySem.Spec PyProof.Rows
section
variable {X : Cx} {K : PySem.W.Frag} {w : World}
theorem boolsAre_of {ns : List Bool} : ∀ {us : List Value}, Vals (ns.map V.bl) us → LSm.BoolsAre us ns := by
  induction ns with
  | nil => intro us r; cases r; exact .nil
  | cons b r ih => intro us h; cases h with | cons h1 h2 => cases h1; exact .cons b (ih h2)
theorem call_all1 (hc : X.calm = true) (hK : X.K = K) : CallR X (.builtin "all") (fun xs H Q => ∃ (p : Addr) (bs : List Bool), xs = [.ref p] ∧ SqL K H p (bs.map V.bl) ∧ Q (.bl (bs.all id)) H) := by
  subst hK
  intro pins s σ H xs us Q I r h
  obtain ⟨p, bs, rfl, hq, q⟩ := h
  obtain ⟨u, rfl, rx⟩ := vals1 r
  cases rx
  obtain ⟨its, r', pl, hz⟩ := I.list hq
  have hb := boolsAre_of r'
  have hl := pl.isList
  have hlt : p < s.heap.objs.size := by obtain ⟨_, e, _⟩ := hl; exact Heap.lt_size e
  refine call_all_walk (wpAny_pyIter_list hl ?_)
  refine ⟨s.heap.objs.size, [s.heap.objs.size, p], [s.heap.objs.size], its.toArray.size, _, _, fun i => (bs[i]?).getD true, rfl, Walks.list (A := X.A.in1) (I.ok.hd hc) _ p (Nat.ne_of_lt hlt) its.toArray,
    ⟨⟨_, Heap.get?_push_size _ rfl, rfl, rfl⟩, hl.push _⟩, fun i v s' Q' E' hP hQ => ?_, fun h' tk hk => ?_⟩
  · obtain ⟨b, e, rfl⟩ := hb.get i v (by simpa using hP)
    simp only [e, Option.getD_some] at hQ
    exact wpAny_truthy_bool hQ
  · have e : ((List.range its.toArray.size).all fun i => (bs[i]?).getD true) = bs.all id := by
      rw [List.size_toArray, hb.length]; exact LSm.range_all bs
    rw [e]
    exact ⟨.bl _, H, I.kept (LSm.kept_iter hk), rfl, q⟩
theorem call_any1 (hc : X.calm = true) (hK : X.K = K) : CallR X (.builtin "any") (fun xs H Q => ∃ (p : Addr) (bs : List Bool), xs = [.ref p] ∧ SqL K H p (bs.map V.bl) ∧ Q (.bl (bs.any id)) H) := by
  subst hK
  intro pins s σ H xs us Q I r h
  obtain ⟨p, bs, rfl, hq, q⟩ := h
  obtain ⟨u, rfl, rx⟩ := vals1 r
  cases rx
  obtain ⟨its, r', pl, hz⟩ := I.list hq
  have hb := boolsAre_of r'
  have hl := pl.isList
  have hlt : p < s.heap.objs.size := by obtain ⟨_, e, _⟩ := hl; exact Heap.lt_size e
  refine call_any_walk (wpAny_pyIter_list hl ?_)
  refine ⟨s.heap.objs.size, [s.heap.objs.size, p], [s.heap.objs.size], its.toArray.size, _, _, fun i => (bs[i]?).getD false, rfl, Walks.list (A := X.A.in1) (I.ok.hd hc) _ p (Nat.ne_of_lt hlt) its.toArray,
    ⟨⟨_, Heap.get?_push_size _ rfl, rfl, rfl⟩, hl.push _⟩, fun i v s' Q' E' hP hQ => ?_, fun h' tk hk => ?_⟩
  · obtain ⟨b, e, rfl⟩ := hb.get i v (by simpa using hP)
    simp only [e, Option.getD_some] at hQ
    exact wpAny_truthy_bool hQ
  · have e : ((List.range its.toArray.size).any fun i => (bs[i]?).getD false) = bs.any id := by
      rw [List.size_toArray, hb.length]; exact LSm.range_any bs
    rw [e]
    exact ⟨.bl _, H, I.kept (LSm.kept_iter hk), rfl, q⟩
end
end L2
namespace Wb
open PySem L2 Mi
variable {Er : Nat → Prop}
section
variable {α β γ δ : Type} {t ta tb tc : TE} {σ : St} {W W0 W' : Wd} {K : PySem.W.Frag} {w : World}
theorem ev_powc {a n r : Int} (hc : 0 ≤ n ∧ n ≤ 1000000 ∧ a.natAbs < 2 ^ 64) (hr : a ^ n.toNat = r) : EV Er (tOp (rI CPow fun i j => .int (i ^ j.toNat)) (tC (.int a)) (tC (.int n))) σ W (sh isI) (.ok r) := fun W1 e1 Q k => ⟨a, n, rfl, rfl, hc, by show Q (.int (a ^ n.toNat)) W1.H; rw [hr]; exact k _ W1 (.refl _) rfl⟩
def isScr (K : PySem.W.Frag) : Rp (List Int) := fun H ns v => ∃ a, v = .ref a ∧ SqL K H a (ns.map V.int)
instance zkeep17 : Mono (isScr K) := ⟨fun e ⟨a, h1, h2⟩ => ⟨a, h1, e.seq h2⟩⟩
theorem ev_lenScr {ma : Res (List Int)} (ha : EV Er ta σ W (sh (isScr K)) ma) : EV Er (tCB (fun xs H Q => ∃ x n, xs = [x] ∧ LenV K x H n ∧ Q (.int n) H) (tCons ta tNil)) σ W (sh isI) (ma.bind fun a => .ok (a.length : Int)) := fun W1 e1 Q k =>
  ha W1 e1 _ ((Res.okE_bind k).imp fun a ka x W2 e2 hx => by
    obtain ⟨p, rfl, h1⟩ := hx
    exact ⟨_, a.length, rfl, .inl ⟨_, W2.ok.seq h1, by simp⟩, ka _ W2 e2 rfl⟩)
theorem ev_ixScr {ma : Res (List Int)} {mb : Res Int} (ha : EV Er ta σ W (sh (isScr K)) ma) (hb : EV Er tb σ W (sh isI) mb) : EV Er (tOp (rIxL K) ta tb) σ W (sh isI) (ma.bind fun a => mb.bind fun b => ixL a b) :=
  ev2 ha hb fun W a b x y Q hx hy k => by
    cases hy
    obtain ⟨p, rfl, h1⟩ := hx
    obtain ⟨c, h4, h5⟩ := ofO_OkE k
    have lr : LR isI W.G a (a.map V.int) := ⟨by simp, fun i v m e1 e2 => by rw [List.getElem?_map, e2] at e1; cases e1; rfl⟩
    obtain ⟨z, h6, h7⟩ := atZ_rel lr h4
    exact ⟨p, _, b, z, rfl, rfl, W.ok.seq h1, h6, h5 _ W (.refl _) h7⟩
theorem lr_own {R : Rp α} {W1 W2 : Wd} {xs : List α} {vs : List V} {Q : VK} (h : LR R W2.G xs vs) (e : Ext W1 W2) (k : ∀ p W2, Ext W1 W2 → W1.H p = none → Ow R W2 p xs → Q (.ref p) W2.H) (r : Addr) (hr : W2.H r = none) : Q (.ref r) (upd W2.H r (.lst vs)) :=
  k r (W2.mut r (.lst vs) (W2.gnone hr)) (e.trans (.own _ hr)) (none_of e.h hr) ⟨W2.gnone hr, vs, upd_same, h⟩
theorem ev_listL {R : Rp α} {ma : Res (List α)} (ha : EV Er ta σ W (pk R) ma) : EVo Er (tCB (fun xs H Q => ∃ p ys, xs = [.ref p] ∧ (SqL K H p ys ∨ SqT K H p ys) ∧ ∀ l, H l = none → Q (.ref l) (upd H l (.lst ys))) (tCons ta tNil)) σ W R ma := fun W1 e1 Q k =>
  ha W1 e1 _ (k.imp fun a ka x W2 e2 hx => by
    obtain ⟨p, vs, rfl, h1, h2⟩ := hx
    exact ⟨p, vs, rfl, .inl (SqL.of h1), fun l hl => lr_own h2 e2 ka l hl⟩)
theorem LR.bools {H : Hp} {ns : List Bool} {vs : List V} (h : LR isB H ns vs) : vs = ns.map V.bl := by
  refine List.ext_getElem? fun i => ?_
  rw [List.getElem?_map]
  cases e : ns[i]? with
  | none => rw [List.getElem?_eq_none_iff] at e; rw [List.getElem?_eq_none_iff.mpr (by rw [h.1]; exact e)]; rfl
  | some m => obtain ⟨v, a, b⟩ := h.get e; rw [a]; cases b; rfl
theorem ev_all {ma : Res (List Bool)} (ha : EV Er ta σ W (pk isB) ma) : EV Er (tCB (fun xs H Q => ∃ (p : Addr) (bs : List Bool), xs = [.ref p] ∧ SqL K H p (bs.map V.bl) ∧ Q (.bl (bs.all id)) H) (tCons ta tNil)) σ W (sh isB) (ma.bind fun a => .ok (a.all id)) := fun W1 e1 Q k =>
  ha W1 e1 _ ((Res.okE_bind k).imp fun a ka x W2 e2 hx => by
    obtain ⟨p, vs, rfl, h1, h2⟩ := hx
    exact ⟨p, a, rfl, SqL.of (by rw [h1, h2.bools]), ka _ W2 e2 rfl⟩)
theorem ev_any {ma : Res (List Bool)} (ha : EV Er ta σ W (pk isB) ma) : EV Er (tCB (fun xs H Q => ∃ (p : Addr) (bs : List Bool), xs = [.ref p] ∧ SqL K H p (bs.map V.bl) ∧ Q (.bl (bs.any id)) H) (tCons ta tNil)) σ W (sh isB) (ma.bind fun a => .ok (a.any id)) := fun W1 e1 Q k =>
  ha W1 e1 _ ((Res.okE_bind k).imp fun a ka x W2 e2 hx => by
    obtain ⟨p, vs, rfl, h1, h2⟩ := hx
    exact ⟨p, a, rfl, SqL.of (by rw [h1, h2.bools]), ka _ W2 e2 rfl⟩)
def EqK (K : PySem.W.Frag) (H : Hp) : Nat → V → V → Prop
  | 0, v, u => v = u ∧ flat v = true
  | n + 1, v, u => (v = u ∧ flat v = true) ∨ ∃ p q xs ys, v = .ref p ∧ u = .ref q ∧ ((H p = some (.lst xs) ∧ H q = some (.lst ys)) ∨ (SqT K H p xs ∧ SqT K H q ys)) ∧ xs.length = ys.length ∧
      ∀ (i : Nat) (x y : V), xs[i]? = some x → ys[i]? = some y → EqK K H n x y
theorem EqK.same {H H' : Hp} (e : Same H H') : ∀ {n : Nat} {v u : V}, EqK K H n v u → EqK K H' n v u
  | 0, _, _, h => h
  | n + 1, _, _, h => by
    rcases h with h | ⟨p, q, xs, ys, h1, h2, h3, h4, h5⟩
    · exact .inl h
    · refine .inr ⟨p, q, xs, ys, h1, h2, ?_, h4, fun i x y e1 e2 => EqK.same e (h5 i x y e1 e2)⟩
      rcases h3 with ⟨a, b⟩ | ⟨a, b⟩
      · exact .inl ⟨e _ _ a, e _ _ b⟩
      · exact .inr ⟨Same.tup e a, Same.tup e b⟩
theorem EqK.flat {H : Hp} {n : Nat} {v : V} (h : L2.flat v = true) : EqK K H n v v := by cases n with | zero => exact ⟨rfl, h⟩ | succ n => exact .inl ⟨rfl, h⟩
class EqR (K : PySem.W.Frag) {α : Type} (R : Rp α) (n : outParam Nat) : Prop where
  eq : ∀ H a v u m, n ≤ m → R H a v → R H a u → EqK K H m v u
instance zkeep19 : EqR K isS 0 := ⟨fun H a v u m _ h1 h2 => by cases h1; cases h2; exact .flat rfl⟩
instance zkeep23 {R : Rp α} {n : Nat} [EqR K R n] : EqR K (isL R) (n + 1) := ⟨fun H a v u m hm ⟨p, vs, h1, h2, h3⟩ ⟨q, us, g1, g2, g3⟩ => by
  cases m with
  | zero => omega
  | succ m =>
    refine .inr ⟨p, q, vs, us, h1, g1, .inl ⟨h2, g2⟩, by rw [h3.1, g3.1], fun i x y e1 e2 => ?_⟩
    obtain ⟨b, hb, rb⟩ := h3.got e1
    exact EqR.eq H b x y m (by omega) rb (g3.2 i y b e2 hb)⟩
instance zkeep25 {R1 : Rp α} {R2 : Rp β} {R3 : Rp γ} {n k l : Nat} [EqR K R1 n] [EqR K R2 k] [EqR K R3 l] : EqR K (isT3 K R1 R2 R3) (max n (max k l) + 1) := ⟨fun H a v u m hm ⟨p, x, y, z, h0, h, h1, h2, h3⟩ ⟨q, x', y', z', g0, g, g1, g2, g3⟩ => by
  cases m with
  | zero => omega
  | succ m =>
    refine .inr ⟨p, q, _, _, h0, g0, .inr ⟨h, g⟩, rfl, fun i w w' e1 e2 => ?_⟩
    match i, e1, e2 with
    | 0, e1, e2 => cases e1; cases e2; exact EqR.eq H _ _ _ m (by omega) h1 g1
    | 1, e1, e2 => cases e1; cases e2; exact EqR.eq H _ _ _ m (by omega) h2 g2
    | 2, e1, e2 => cases e1; cases e2; exact EqR.eq H _ _ _ m (by omega) h3 g3⟩
end
end Wb
namespace L2
open PySem PySem.Spec PyProof.Rows
section
variable {X : Cx} {K : PySem.W.Frag} {w : World} {o e : Expr} {to : TE} {t : TA} {apos cpos : Pos}
abbrev Few (X : Cx) (cpos : Pos) (e : Expr) : Prop := ((backTo cpos (starEach [e] X.env)).all (fun x => !x.1) && (backToKw cpos (keywordEach [] X.env)).all (fun x => x.1.isSome) && decide ([e].length + ([] : List Keyword).length + (if ([] : List Keyword).isEmpty then 0 else 1) < 30)) = true
theorem pe_append1 (h : X.K = K) (ho : PE X o to) (ha : PA X [e] t) (hbase : attributeBase o "append" X.env (eval o X.env) = eval o X.env := by rfl) (hfew : Few X cpos e := by rfl) (hline : (apos.endLine == cpos.line) = true := by rfl) (hs : starEach [e] X.env = (false, eval e X.env) :: starEach [] X.env := by rfl) (hplain : (backTo cpos (starEach [] X.env)).any (·.1) = false := by rfl) :
    PE X (.Call (.Attribute o "append" apos) [e] [] cpos) (tBM K "list" rAppend to t) := pe_bmK (K := K) h PySem.F.plainAttrs_list PySem.F.slot_list_append PySem.F.type_list_append mt_append ho ha hbase hfew hline hs hplain
end
end L2
namespace Wb
open PySem L2 Mi
variable {Er : Nat → Prop}
section
variable {α β γ δ : Type} {t t1 t2 t3 ta tb tc : TE} {σ : St} {W W0 W' : Wd} {K : PySem.W.Frag} {w : World}
theorem ev_gtup3 {R1 : Rp α} {R2 : Rp β} {R3 : Rp γ} {d : Addr} {x y z : V} {a : α} {b : β} {c : γ} (T : ∀ H, SqT K H d [x, y, z]) (h1 : ∀ H, R1 H a x) (h2 : ∀ H, R2 H b y) (h3 : ∀ H, R3 H c z) : EV Er (tC (.ref d)) σ W (sh (isT3 K R1 R2 R3)) (.ok (a, b, c)) := fun W1 _ Q k => k _ W1 (.refl _) ⟨d, x, y, z, rfl, T _, h1 _, h2 _, h3 _⟩
theorem gS (x : String) (l : Tx) (h : (Str.ofString x).cps.toList = l) : ∀ H, isS H l (.str (Str.ofString x)) := fun _ => by rw [ofS x l h]; rfl
end
end Wb
namespace Mi
theorem modR_ok {a b : Int} (h : 0 < b) : modR a b = .ok (a % b) := must_ok h
theorem fdivR_ok {a b : Int} (h1 : 0 < b) (h2 : b < 1073741824) : fdivR a b = .ok (a / b) := must_ok ⟨h1, h2⟩
theorem mulR_okL {a b : Int} (h1 : -18446744073709551616 < a) (h2 : a < 18446744073709551616) : mulR a b = .ok (a * b) := must_ok (.inl ⟨h1, h2⟩)
theorem mulR_okR {a b : Int} (h1 : -18446744073709551616 < b) (h2 : b < 18446744073709551616) : mulR a b = .ok (a * b) := must_ok (.inr ⟨h1, h2⟩)
theorem appL_ok {α : Type} {xs : List α} {x : α} (h : xs.length < 100000) : appL xs x = .ok (xs ++ [x]) := must_ok h
theorem lenS_ok {a : Tx} (h : a.length ≤ 100000) : lenS a = .ok (a.length : Int) := must_ok h
theorem rangeR_ok {n : Nat} (h : n ≤ 100000) : rangeR (n : Int) = .ok ((List.range n).map fun (i : Nat) => (i : Int)) := by
  unfold rangeR; rw [must_ok ⟨by omega, by omega⟩]; simp [rangeN]
theorem ixL_get {α : Type} {xs : List α} {i : Int} (h0 : 0 ≤ i) (h1 : i < xs.length) : ∃ x, ixL xs i = .ok x ∧ xs[i.toNat]? = some x := by
  obtain ⟨h, e⟩ := atZ_of h0 h1
  exact ⟨xs[i.toNat], by unfold ixL; rw [e]; rfl, by simp [h]⟩
theorem ixS_get {x : Tx} {i : Int} (h0 : 0 ≤ i) (h1 : i < x.length) (h2 : x.length ≤ 100000) : ∃ c, ixS x i = .ok [c] ∧ x[i.toNat]? = some c := by
  obtain ⟨h, e⟩ := atZ_of h0 h1
  refine ⟨x[i.toNat], ?_, by simp [h]⟩
  unfold ixS; rw [must_ok h2]; show (ofO (atZ x i)).bind _ = _; rw [e]; rfl
theorem eqR_ok {α : Type} [DecidableEq α] {a b : α} (h : a = b) : eqR a b = .ok true := if_pos h
theorem forR_inv {α S : Type} {f : α → S → Res S} (I : List α → S → Prop) (xs : List α) (s0 : S) (h0 : I [] s0) (step : ∀ pre a post s, xs = pre ++ a :: post → I pre s → ∃ s', f a s = .ok s' ∧ I (pre ++ [a]) s') :
    ∃ s, forR f xs s0 = .ok s ∧ I xs s := by
  have key : ∀ (post pre : List α) (s : S), xs = pre ++ post → I pre s → ∃ s', forR f post s = .ok s' ∧ I xs s' := by
    intro post
    induction post with
    | nil => intro pre s e h; rw [List.append_nil] at e; subst e; exact ⟨s, rfl, h⟩
    | cons a r ih =>
      intro pre s e h
      obtain ⟨s1, e1, h1⟩ := step pre a r s e h
      obtain ⟨s2, e2, h2⟩ := ih (pre ++ [a]) s1 (by rw [e]; simp) h1
      exact ⟨s2, by unfold forR; rw [e1]; exact e2, h2⟩
  exact key xs [] s0 rfl h0
theorem absI_nn (a : Int) : 0 ≤ absI a := by unfold absI; split <;> omega
end Mi
namespace L2
open PySem PySem.Spec PyProof.Rows Wb
end L2
namespace L2
open PySem PySem.Spec PyProof.Rows
end L2
namespace Wb
open PySem L2 Mi
variable {Er : Nat → Prop}
end Wb
namespace Mi
def sameS (a b : Tx) : Res Bool := .ok (decide (a = b))
def leS (a b : Tx) : Bool := !decide (b < a)
end Mi
namespace PySem
open Sem (wp)
open AutoSeq1 (wpAny_loadPart')
end PySem
namespace L2
open PySem PySem.Spec PyProof.Rows
end L2
namespace L2
end L2
namespace Wb
open PySem L2 Mi
variable {Er : Nat → Prop}
section
variable {α β γ δ : Type} {t t1 t2 t3 t4 ta tb tc td : TE} {σ : St} {W W0 W' : Wd} {K : PySem.W.Frag} {w : World}
def spSame2 (K : PySem.W.Frag) : Nat → Sp
  | 0 => fun _ _ _ _ => False
  | n + 1 => fun vs H Q _ => ∃ v u, vs = [v, u] ∧ ((EqK K H n v u ∧ ∀ H', Same H H' → Q (.bl true) H') ∨ ∃ x y, v = .str x ∧ u = .str y ∧ Q (.bl (decide (V.str x = V.str y))) H)
theorem ev_same2 [DecidableEq α] {R : Rp α} [Mono R] {n N : Nat} [EqR K R n] {E : XK} {ma mb : Res α} (hn : n < N) (ha : EV Er ta σ W (sh R) ma) (hb : EV Er tb σ W (sh R) mb) : EV Er (tCall (spSame2 K N) [] E (tCons ta (tCons tb tNil))) σ W (sh isB) (ma.bind fun a => mb.bind fun b => eqR a b) := fun W1 e1 Q k =>
  ha W1 e1 _ ((Res.okE_bind k).imp fun a ka x W2 e2 hx => hb W2 (e1.trans e2) _ ((Res.okE_bind ka).imp fun b kb y W3 e3 hy => by
    unfold eqR at kb
    by_cases z : a = b
    · rw [if_pos z] at kb
      subst z
      cases N with
      | zero => omega
      | succ N =>
        refine ⟨x, y, rfl, .inl ⟨EqR.eq W3.H a x y N (by omega) (Mono.mono W3.ok (Mono.mono (R := R) e3.g hx)) (Mono.mono W3.ok hy), fun H' hs => ?_⟩⟩
        exact kb (.bl true) ⟨W3.G, H', W3.ok.trans hs⟩ ⟨e2.g.trans e3.g, (e2.h.trans e3.h).trans hs, fun p hp => (e2.trans e3).k p hp⟩ rfl
    · rw [if_neg z] at kb; exact kb.elim))
theorem ev_sameS {N : Nat} {E : XK} {ma mb : Res Tx} (hn : 0 < N) (ha : EV Er ta σ W (sh isS) ma) (hb : EV Er tb σ W (sh isS) mb) : EV Er (tCall (spSame2 K N) [] E (tCons ta (tCons tb tNil))) σ W (sh isB) (ma.bind fun a => mb.bind fun b => sameS a b) := fun W1 e1 Q k =>
  ha W1 e1 _ ((Res.okE_bind k).imp fun a ka x W2 e2 hx => hb W2 (e1.trans e2) _ ((Res.okE_bind ka).imp fun b kb y W3 e3 hy => by
    cases hx; cases hy
    cases N with
    | zero => omega
    | succ N => exact ⟨_, _, rfl, .inr ⟨_, _, rfl, rfl, by rw [dS]; exact kb _ W3 (e2.trans e3) rfl⟩⟩))
theorem ps_never {X : Cx} {st : Stmt} : PS X st tNever := fun _ _ _ _ _ _ h => h.elim
theorem ev_chainS {ma mb mc : Res Tx} (ha : EV Er ta σ W (sh isS) ma) (hb : EV Er tb σ W (sh isS) mb) (hc : EV Er tc σ W (sh isS) mc) : EV Er (tChain (fun x y H Q => ∃ i j, x = .str i ∧ y = .str j ∧ Q (.bl (!decide (j.cps.toList < i.cps.toList))) H) (fun x y H Q => ∃ i j, x = .str i ∧ y = .str j ∧ Q (.bl (!decide (j.cps.toList < i.cps.toList))) H) ta tb tc) σ W (sh isB) (ma.bind fun a => mb.bind fun b => if leS a b then (mc.bind fun c => .ok (leS b c)) else .ok false) := fun W1 e1 Q k =>
  ha W1 e1 _ ((Res.okE_bind k).imp fun a ka x W2 e2 hx => hb W2 (e1.trans e2) _ ((Res.okE_bind ka).imp fun b kb y W3 e3 hy => by
    cases hx; cases hy
    refine ⟨_, _, rfl, rfl, leS a b, by unfold leS; rw [sOf_cps, sOf_cps], ?_⟩
    by_cases z : leS a b = true
    · rw [if_pos z] at kb ⊢
      exact hc W3 ((e1.trans e2).trans e3) _ ((Res.okE_bind kb).imp fun c kc u W4 e4 hu => by
        cases hu
        refine ⟨_, _, rfl, rfl, ?_⟩
        have := kc (.bl (leS b c)) W4 ((e2.trans e3).trans e4) rfl
        unfold leS at this
        rw [sOf_cps, sOf_cps]
        exact this)
    · rw [if_neg z] at kb ⊢
      exact kb _ W3 (e2.trans e3) rfl))
end
end Wb
namespace Mi
end Mi
namespace L2
open PySem PySem.Spec PyProof.Rows
end L2
namespace L2
open PySem PySem.Spec PyProof.Rows
end L2
namespace L2
open PySem PySem.Spec PyProof.Rows
end L2
namespace L2
open PySem PySem.Spec PyProof.Rows
end L2
namespace L2
open PySem PySem.Spec PyProof.Rows
end L2
namespace L2
open PySem PySem.Spec PyProof.Rows
end L2
namespace L2
open PySem PySem.Spec PyProof.Rows
end L2
namespace L2
open PySem PySem.Spec PyProof.Rows
end L2
namespace L2
open PySem PySem.Spec PySem.Calls PyProof.Rows
open PySem.W (findIn findObj mroIn looks_findIn looks_find looks_mroIn class_get KitX clsIn Frag)
end L2
namespace L2
open PySem PySem.Spec PySem.Calls PyProof.Rows
end L2
namespace L2
open PySem PySem.Spec PySem.Calls PyProof.Rows Mi
end L2
namespace Wb
open PySem L2 Mi
end Wb
namespace Wb
open PySem L2 Mi
end Wb
namespace Wb
open PySem L2 Mi
end Wb
namespace Wb
open PySem L2 Mi
end Wb
namespace Wb
open PySem L2 Mi
open PySem.W (findIn findObj mroIn kitOne kitCls clsIn typeIn subIn specialIn takesIn Frag)
end Wb
namespace Wb
open PySem L2 Mi
theorem inV_txts (a : Tx) (b : List Tx) : inV (.str (sOf a)) (b.map fun x => V.str (sOf x)) = b.contains a := by
  unfold inV
  rw [List.any_map, Bool.eq_iff_iff, List.any_eq_true, List.contains_iff_mem]
  constructor
  · rintro ⟨x, hx, e⟩
    have : sOf x = sOf a := by simpa [L2.eqV] using e
    rw [← sOf_inj this]; exact hx
  · intro h
    exact ⟨a, h, by simp [L2.eqV]⟩
end Wb
namespace L2
open PySem PySem.Spec PyProof.Rows
end L2
namespace Wb
open PySem L2 Mi
end Wb
namespace Mi
end Mi
namespace Mi
def glueT (sep : Tx) : List Tx → Tx
  | [] => []
  | [x] => x
  | x :: y :: r => x ++ (sep ++ glueT sep (y :: r))
def joinS (sep : Tx) (xs : List Tx) : Res Tx := must (xs.flatten.length + xs.length * sep.length ≤ cap) (glueT sep xs)
def splitC (c : Nat) : Tx → List Tx
  | [] => [[]]
  | a :: r => if a = c then [] :: splitC c r else match splitC c r with | h :: t => (a :: h) :: t | [] => [[a]]
def splitS (x y : Tx) : Res (List Tx) := match y with | [c] => must (x.length ≤ cap) (splitC c x) | _ => .stuck
def wreckL {α : Type} (xs : List (List α)) : Res Unit := must (xs.length < cap ∧ (xs.all fun x => decide (x.length < cap)) = true) ()
theorem splitC_glue (c : Nat) : ∀ (ys : List Tx), ys ≠ [] → (∀ y ∈ ys, c ∉ y) → splitC c (glueT [c] ys) = ys
  | [], h, _ => absurd rfl h
  | [x], hn, h => by
    show splitC c x = [x]
    have hx := h x (by simp)
    clear h hn
    induction x with
    | nil => rfl
    | cons a r ih =>
      have ha : a ≠ c := fun e => hx (by simp [e])
      unfold splitC
      rw [if_neg ha, ih fun m => hx (List.mem_cons_of_mem _ m)]
  | x :: y :: r, hn, h => by
    show splitC c (x ++ ([c] ++ glueT [c] (y :: r))) = _
    have ih := splitC_glue c (y :: r) (by simp) fun z hz => h z (List.mem_cons_of_mem _ hz)
    have hx := h x (by simp)
    clear h hn
    induction x with
    | nil => show splitC c (c :: glueT [c] (y :: r)) = _; unfold splitC; rw [if_pos rfl, ih]
    | cons a q ihq =>
      have ha : a ≠ c := fun e => hx (by simp [e])
      show splitC c (a :: (q ++ ([c] ++ glueT [c] (y :: r)))) = _
      unfold splitC
      rw [if_neg ha, ihq fun m => hx (List.mem_cons_of_mem _ m)]
end Mi
namespace Wb
open PySem L2 Mi
end Wb
namespace Wb
open PySem L2 Mi
section
variable {Er : Nat → Prop} {α : Type} {K : PySem.W.Frag} {W : Wd} {p : Addr} {ta tb : TE} {σ : St}
def Wd.thaw (W : Wd) (p : Addr) : Wd := ⟨fun q => if q = p then none else W.G q, W.H, fun a u e => by
  by_cases z : a = p
  · simp [z] at e
  · simp [z] at e; exact W.ok a u e⟩
theorem tv_lend {t : TT} {m : Res Bool} {R : Rp α} [Mono R] {xs : List α} (o : Ow R W p xs) (h : ∀ Wf : Wd, Same W.G Wf.G → isL R Wf.G xs (.ref p) → TV Er t σ Wf m) : TV Er t σ W m := fun W1 e1 Q k => by
  have o1 := o.mono e1
  obtain ⟨vs, a, b⟩ := o1.h
  have sm : Same W1.G (W1.frz p _ a).G := same_upd o1.g
  refine h (W1.frz p _ a) (e1.g.trans sm) ⟨p, vs, rfl, upd_same, b.same sm⟩ (W1.frz p _ a) (.refl _) Q (k.imp fun c kc W2 e2 => ?_)
  refine kc (W2.thaw p) ⟨fun q u e => ?_, e2.h, fun q hq => ?_⟩
  · have hq : q ≠ p := fun z => by rw [z, o1.g] at e; cases e
    show (if q = p then none else W2.G q) = _
    rw [if_neg hq]
    exact e2.g q u (by show upd W1.G p _ q = _; rw [upd_ne hq]; exact e)
  · show (if q = p then none else W2.G q) = _
    by_cases z : q = p
    · rw [if_pos z, z, o1.g]
    · rw [if_neg z, e2.k q hq]; show upd W1.G p _ q = _; rw [upd_ne z]
theorem in3 (x a b c : Tx) : inV (.str (sOf x)) [.str (sOf a), .str (sOf b), .str (sOf c)] = [a, b, c].contains x := by
  have := inV_txts x [a, b, c]; exact this
theorem ev_inT3 {ma : Res Tx} {mb : Res (Tx × Tx × Tx)} (ha : EV Er ta σ W (sh isS) ma) (hb : EV Er tb σ W (sh (isT3 K isS isS isS)) mb) : EV Er (tOp (rIn K false) ta tb) σ W (sh isB) (ma.bind fun a => mb.bind fun b => .ok ([b.1, b.2.1, b.2.2].contains a)) :=
  ev2 ha hb fun W a b x y Q hx hy k => by
    cases hx
    obtain ⟨p, u, v, w, rfl, h1, h2, h3, h4⟩ := hy
    cases h2; cases h3; cases h4
    refine ⟨p, _, rfl, .inr (Same.tup W.ok h1), rfl, by simp [L2.flatV], ?_⟩
    rw [if_neg Bool.false_ne_true, in3]
    exact k _ W (.refl _) rfl
end
end Wb
namespace L2
open PySem PySem.Spec PyProof.Rows
end L2
namespace Wb
open PySem L2 Mi
end Wb
namespace L2
open PySem PySem.Spec PySem.Calls PyProof.Rows Mi
theorem glue_txt (sep : Tx) (ys : List Tx) : Txt.join (sOf sep) (ys.map sOf) = sOf (glueT sep ys) := by
  have key : ∀ (r : List (List Nat)) (acc : List Nat), (r.map sOf).foldl (fun acc p => acc ++ (sOf sep).cps ++ p.cps) acc.toArray = (match r with | [] => acc | _ => acc ++ sep ++ glueT sep r).toArray := by
    intro r
    induction r with
    | nil => intro acc; rfl
    | cons a r ih =>
      intro acc
      rw [List.map_cons, List.foldl_cons]
      have e : acc.toArray ++ (sOf sep).cps ++ (sOf a).cps = (acc ++ sep ++ a).toArray := by simp [sOf]
      rw [e, ih (acc ++ sep ++ a)]
      cases r with
      | nil => simp [glueT]
      | cons b r => simp [glueT, List.append_assoc]
  cases ys with
  | nil => rfl
  | cons a r =>
    show Str.mk ((r.map sOf).foldl (fun acc p => acc ++ (sOf sep).cps ++ p.cps) a.toArray) = _
    rw [key r a]
    cases r with
    | nil => rfl
    | cons b r => show sOf _ = sOf _; simp [glueT, List.append_assoc]
theorem join_str (sep : Str) : ∀ ys : List Str, Str.join sep ys = Txt.join sep ys := by
  have key : ∀ (r : List Str) (acc : Array Nat), (r.foldl (fun acc p => acc ++ sep.cps ++ p.cps) acc) = (match r with | [] => acc | _ => acc ++ sep.cps ++ (Str.join sep r).cps) := by
    intro r
    induction r with
    | nil => intro acc; rfl
    | cons a r ih =>
      intro acc
      rw [List.foldl_cons, ih]
      cases r with
      | nil => rfl
      | cons b r => show acc ++ sep.cps ++ a.cps ++ sep.cps ++ _ = acc ++ sep.cps ++ (a ++ sep ++ Str.join sep (b :: r)).cps; simp [Str.cps_append, Array.append_assoc]
  intro ys
  cases ys with
  | nil => rfl
  | cons a r =>
    show _ = Str.mk (r.foldl (fun acc p => acc ++ sep.cps ++ p.cps) a.cps)
    rw [key]
    cases r with
    | nil => rfl
    | cons b r => show a ++ sep ++ Str.join sep (b :: r) = _; apply Str.ext'; simp [Str.cps_append, Array.append_assoc]
theorem sum_lens (ys : List Tx) : ((ys.map sOf).map (·.length)).sum = ys.flatten.length := by
  rw [List.map_map, List.length_flatten]
  congr 1
  all_goals exact List.map_congr_left fun y _ => sOf_len y
def rJoinS (K : PySem.W.Frag) : V → List V → Hp → VK → Prop := fun x xs H Q => ∃ (p : Addr) (sep : Tx) (ys : List Tx), x = .str (sOf sep) ∧ xs = [.ref p] ∧ (SqL K H p (ys.map fun y => V.str (sOf y)) ∨ SqT K H p (ys.map fun y => V.str (sOf y))) ∧ ys.flatten.length + ys.length * sep.length ≤ 100000 ∧ Q (.str (sOf (glueT sep ys))) H
def rSplitS : V → List V → Hp → VK → Prop := fun x xs H Q => ∃ (a : Tx) (c : Nat), x = .str (sOf a) ∧ xs = [.str (sOf [c])] ∧ a.length ≤ 100000 ∧ ∀ p, H p = none → Q (.ref p) (upd H p (.lst ((splitC c a).map fun y => V.str (sOf y))))
section
variable {X : Cx} {K : PySem.W.Frag}
theorem mt_joinS (h : X.K = K) : MtR X "str.join" (rJoinS K) := by
  subst h
  intro pins s σ H x xs v us Q I rx rs h
  obtain ⟨p, sep, ys, rfl, rfl, hp, hl, q⟩ := h
  obtain ⟨t, rfl⟩ := rx
  obtain ⟨u, rfl, r1⟩ := vals1 rs
  cases r1
  have fit : ((ys.map sOf).map (·.length)).sum + (ys.map sOf).length * (sOf sep).length ≤ 16777216 := by rw [sum_lens, sOf_len, List.length_map]; omega
  rcases hp with hp | hp
  · obtain ⟨its, r, pl, hz⟩ := I.list hp
    exact join_list pl.isList (by simpa using strsAre_of r) fit fun t' k => ⟨.str _, H, I.tok _, ⟨t', rfl⟩, by rw [glue_txt]; exact q⟩
  · obtain ⟨its, r, pl, hz⟩ := I.tuple hp
    exact join_tuple pl (by simpa using strsAre_of r) fit fun t' k => ⟨.str _, H, I.tok _, ⟨t', rfl⟩, by rw [glue_txt]; exact q⟩
theorem split_parts (a : Tx) (c : Nat) : Txt.split (sOf a) (sOf [c]) = (splitC c a).map sOf := by
  have h1 := StrLaws.join_split (sOf a) (sOf [c])
  have h2 : ∀ p ∈ Txt.split (sOf a) (sOf [c]), c ∉ p.cps.toList := StrLaws.split_free (sOf a) c
  have h0 : Txt.split (sOf a) (sOf [c]) ≠ [] := by
    unfold Txt.split
    split
    · simp
    · split
      · simp
      · intro z
        have := congrArg List.length z
        rw [length_partsBetween] at this
        simp at this
  generalize Txt.split (sOf a) (sOf [c]) = ps at h0 h1 h2
  have e : ps = (ps.map fun p => p.cps.toList).map sOf := by
    rw [List.map_map]
    conv => lhs; rw [← List.map_id ps]
    exact List.map_congr_left fun p _ => of_sOf p
  generalize hq : (ps.map fun p => p.cps.toList) = qs at e
  have h3 : ∀ y ∈ qs, c ∉ y := fun y hy => by
    rw [← hq] at hy
    obtain ⟨p, hp, rfl⟩ := List.mem_map.mp hy
    exact h2 p hp
  rw [e] at h1 ⊢
  rw [join_str, glue_txt] at h1
  have h4 := sOf_inj h1
  cases qs with
  | nil =>
    exfalso
    have : (ps.map fun p => p.cps.toList) = [] := hq
    have : ps = [] := by simpa using this
    exact h0 this
  | cons b r => rw [← h4, splitC_glue c (b :: r) (by simp) h3]
theorem splitC_len (c : Nat) : ∀ x : Tx, (splitC c x).length ≤ x.length + 1
  | [] => by simp [splitC]
  | a :: r => by
    have ih := splitC_len c r
    unfold splitC
    split
    · simp; omega
    · split
      · rename_i h t e; rw [e] at ih; simp at ih ⊢; omega
      · simp
theorem vals_strs : ∀ (l : List (Str × Tok)), Vals (l.map fun p => V.str p.1) (strValues l)
  | [] => .nil
  | (x, t) :: r => .cons ⟨t, rfl⟩ (vals_strs r)
theorem mt_splitS : MtR X "str.split" rSplitS := by
  intro pins s σ H x xs v us Q I rx rs h
  obtain ⟨a, c, rfl, rfl, hl, q⟩ := h
  obtain ⟨t, rfl⟩ := rx
  obtain ⟨u, rfl, r1⟩ := vals1 rs
  obtain ⟨t2, rfl⟩ := r1
  have hsz : (sOf a).length + 2 ≤ sizeLine := by rw [sOf_len, sizeLine_eq]; omega
  have fin : ∀ (l : List (Str × Tok)) (k : Nat), l.map (·.1) = Txt.split (sOf a) (sOf [c]) → EP X pins σ Q (.ref s.heap.objs.size) { s with heap := s.heap.push { cls := .type "list", data := .seq (strValues l).toArray }, toks := k } := fun l k e => by
    have ev : (l.map fun p => V.str p.1) = (splitC c a).map fun y => V.str (sOf y) := by
      have : (l.map fun p => V.str p.1) = (l.map (·.1)).map V.str := by rw [List.map_map]; rfl
      rw [this, e, split_parts, List.map_map]; rfl
    refine ⟨.ref s.heap.objs.size, _, I.lnew (t' := k) (ys := (splitC c a).map fun y => V.str (sOf y)) (its := strValues l) (ev ▸ vals_strs l) ?_, rfl, q _ I.fresh⟩
    have := splitC_len c a
    rw [List.length_map, sizeLine_eq]; omega
  have hn : (Builtin.Str.partsBetween (sOf a) (Builtin.Str.occurrences (sOf a) (sOf [c]) 0 (sOf a).length ((sOf a).length + 1)) (sOf [c]).length).length ≤ sizeLine := by
    have e1 := StrLaws.occ_length_le (sOf a) (sOf [c]) 0 (sOf a).length ((sOf a).length + 1)
    rw [length_partsBetween]; omega
  cases h1 : (decide ((sOf a).length < (sOf [c]).length) || decide (Builtin.Str.strKind (sOf a) < Builtin.Str.strKind (sOf [c])))
  · cases hf : (Builtin.Str.occurrences (sOf a) (sOf [c]) 0 (sOf a).length ((sOf a).length + 1)).isEmpty
    · refine call_meets F.slot_str_split (typeIs_str _ _ _) F.entry_str_split (F.args_str_split_2 _ _) (meets_str_split_sep (sOf a) (sOf [c]) t t2 h1 rfl hf (by omega) hn) ?_
      show EP X pins σ Q _ { s with toks := _, heap := s.heap.push { cls := .type "list", data := .seq (strsFrom s.toks (Builtin.Str.partsBetween (sOf a) (Builtin.Str.occurrences (sOf a) (sOf [c]) 0 (sOf a).length ((sOf a).length + 1)) (sOf [c]).length)).toArray } }
      rw [strsFrom_eq]
      exact fin (numbered s.toks _) _ ((numbered_texts _ _).trans ((if_neg (ne_true_of_eq_false h1)).trans (if_neg (ne_true_of_eq_false hf))).symm)
    · exact call_meets F.slot_str_split (typeIs_str _ _ _) F.entry_str_split (F.args_str_split_2 _ _) (meets_str_split_not_found (sOf a) (sOf [c]) t t2 h1 rfl hf)
        (fin [(sOf a, t)] s.toks ((if_neg (ne_true_of_eq_false h1)).trans (if_pos hf)).symm)
  · exact call_meets F.slot_str_split (typeIs_str _ _ _) F.entry_str_split (F.args_str_split_2 _ _) (meets_str_split_cannot_occur (sOf a) (sOf [c]) t t2 h1)
      (fin [(sOf a, t)] s.toks (if_pos h1).symm)
end
end L2
namespace Wb
open PySem L2 Mi
section
variable {Er : Nat → Prop} {α β γ : Type} {K : PySem.W.Frag} {W Wq W0 : Wd} {p : Addr} {t t1 ta tb te : TE} {σ : St} {D : Ends} {i j : Nat} {r : TS} {Hb : Hp} {E : XK}
theorem ev_joinS {ma : Res (List Tx)} {x : Str} {l : Tx} (hx : x = sOf l) (ha : EV Er ta σ W (pk isS) ma) : EV Er (tBM K "str" (rJoinS K) (tC (.str x)) (tCons ta tNil)) σ W (sh isS) (ma.bind fun a => joinS l a) := fun W1 e1 Q k =>
  ⟨by show tyV K "str" (.str x) W1.H; rfl, ha W1 e1 _ ((Res.okE_bind k).imp fun a ka v W2 e2 hv => by
    obtain ⟨p, vs, rfl, h1, h2⟩ := hv
    obtain ⟨h3, h4⟩ := must_OkE ka
    exact ⟨p, l, a, by rw [hx], rfl, .inl (SqL.of (by rw [h1, h2.str])), h3, h4 _ W2 e2 rfl⟩)⟩
theorem ev_joinT3 {ma : Res (Tx × Tx × Tx)} {x : Str} {l : Tx} (hx : x = sOf l) (ha : EV Er ta σ W (sh (isT3 K isS isS isS)) ma) : EV Er (tBM K "str" (rJoinS K) (tC (.str x)) (tCons ta tNil)) σ W (sh isS) (ma.bind fun a => joinS l [a.1, a.2.1, a.2.2]) := fun W1 e1 Q k =>
  ⟨by show tyV K "str" (.str x) W1.H; rfl, ha W1 e1 _ ((Res.okE_bind k).imp fun a ka v W2 e2 hv => by
    obtain ⟨p, a1, a2, a3, rfl, h1, h2, h3, h4⟩ := hv
    cases h2; cases h3; cases h4
    obtain ⟨g3, g4⟩ := must_OkE ka
    exact ⟨p, l, [a.1, a.2.1, a.2.2], by rw [hx], rfl, .inr (Same.tup W2.ok h1), g3, g4 _ W2 e2 rfl⟩)⟩
theorem ev_splitS {ma mb : Res Tx} (ha : EV Er ta σ W (sh isS) ma) (hb : EV Er tb σ W (sh isS) mb) : EVo Er (tBM K "str" rSplitS ta (tCons tb tNil)) σ W isS (ma.bind fun a => mb.bind fun b => splitS a b) := fun W1 e1 Q k =>
  ha W1 e1 _ ((Res.okE_bind k).imp fun a ka x W2 e2 hx => by
    cases hx
    refine ⟨rfl, hb W2 (e1.trans e2) _ ((Res.okE_bind ka).imp fun b kb y W3 e3 hy => ?_)⟩
    cases hy
    match b, kb with
    | [c], kb =>
      obtain ⟨h1, h2⟩ := must_OkE kb
      refine ⟨a, c, rfl, rfl, h1, fun q hq => h2 q (W3.mut q (.lst ((splitC c a).map fun y => V.str (sOf y))) (W3.gnone hq)) ((e2.trans e3).trans (.own _ hq)) (none_of (e2.trans e3).h hq) ⟨W3.gnone hq, _, upd_same, ?_⟩⟩
      exact ⟨by simp, fun i v m q1 q2 => by rw [List.getElem?_map, q2] at q1; cases q1; rfl⟩)
theorem ev_lenT3 {R1 : Rp α} {R2 : Rp β} {R3 : Rp γ} {ma : Res (α × β × γ)} (ha : EV Er ta σ W (sh (isT3 K R1 R2 R3)) ma) : EV Er (tCB (fun xs H Q => ∃ x n, xs = [x] ∧ LenV K x H n ∧ Q (.int n) H) (tCons ta tNil)) σ W (sh isI) (ma.bind fun _ => .ok (3 : Int)) := fun W1 e1 Q k =>
  ha W1 e1 _ ((Res.okE_bind k).imp fun a ka x W2 e2 hx => by
    obtain ⟨p, x, y, z, rfl, h, _⟩ := hx
    exact ⟨_, 3, rfl, .inr ⟨_, Same.tup W2.ok h, rfl⟩, ka _ W2 e2 rfl⟩)
theorem LR.imp {R R' : Rp α} {H : Hp} {as : List α} {vs : List V} (h : LR R H as vs) (f : ∀ a v, R H a v → R' H a v) : LR R' H as vs := ⟨h.1, fun i v m e1 e2 => f _ _ (h.2 i v m e1 e2)⟩
def nwL (Hb : Hp) (R : Rp α) : Rp (List α) := fun G xs v => isL R G xs v ∧ ∃ q, v = .ref q ∧ Hb q = none
instance zkeep40 {R : Rp α} [Mono R] : Mono (nwL Hb R) := ⟨fun e h => ⟨Mono.mono (R := isL R) e h.1, h.2⟩⟩
theorem EVo.nw {R : Rp α} [Mono R] {m : Res (List α)} (hb : ∀ q, W.H q = none → Hb q = none) (h : EVo Er t σ W R m) : EV Er t σ W (sh (nwL Hb R)) m := fun W1 e1 Q k => h W1 e1 Q (k.imp fun xs kx p W2 e2 hp o => by
  obtain ⟨W3, hH, e3, _, r, _⟩ := o.frz e2 hp
  rw [← hH]
  exact kx (.ref p) W3 e3 ⟨r, p, rfl, hb p (none_of e1.h hp)⟩)
theorem ev_nw {R : Rp α} {m : Res (List α)} (h : EV Er t σ W (sh (nwL Hb R)) m) : EV Er t σ W (sh (isL R)) m := h.imp fun _ _ _ r => r.1
theorem ev_nwL {R : Rp α} {m : Res (List (List α))} (h : EV Er t σ W (sh (isL (nwL Hb R))) m) : EV Er t σ W (sh (isL (isL R))) m := h.imp fun _ _ _ ⟨p, vs, a, b, c⟩ => ⟨p, vs, a, b, LR.imp c fun _ _ r => r.1⟩
def ron (R : Rp α) : Rt (List (List α)) := fun W r Q => ∀ p W', Ext W W' → W.H p = none → Ow (nwL W.H R) W' p r → Q (.ref p) W'.H
theorem ev_call1n {R1 : Rp γ} {R : Rp α} {m : γ → Res (List (List α))} {m1 : Res γ} (hb : ∀ q, W.H q = none → Hb q = none) (h1 : EV Er t1 σ W (sh R1) m1) : EVo Er (tCall (spM1 R1 (ron R) m) [] E (tCons t1 tNil)) σ W (nwL Hb R) (m1.bind fun a => m a) := fun W1 e1 Q k =>
  h1 W1 e1 _ ((Res.okE_bind k).imp fun a ka v W2 e2 hv => ⟨W2, a, v, rfl, rfl, hv, Er, ka.imp fun r kr p W' e hp o => by
    refine kr p W' (e2.trans e) (none_of e2.h hp) ⟨o.g, ?_⟩
    obtain ⟨vs, z1, z2⟩ := o.h
    exact ⟨vs, z1, LR.imp z2 fun _ _ ⟨q1, q, q2, q3⟩ => ⟨q1, q, q2, hb q (none_of (e1.trans e2).h q3)⟩⟩⟩)
theorem sv_wreck {R : Rp α} {xs : List (List α)} {P : Unit → Prop} {va vb vc : V} {σ' : Option V → St} (eb : Ext Wq W) (hp : Wq.H p = none) (o : Ow (nwL Wq.H R) W p xs) (q : (wreckL xs).OkE Er fun _ => ∀ d W', Ext Wq W' → r D (σ' d) W'.H)
    (hi : σ[i]? = some (some (.ref p)) := by rfl) (hj : j < σ.length := by first | decide | simp) (hij : i ≠ j := by decide) (hσ : ∀ d, σ.set j d = σ' d := by intro _; rfl) :
    tSeq (tFor (iList K (tVar i)) (gName j) (tDrop (tBM K "list" rAppend (tVar j) (tCons (tTup (tCons (tC va) (tCons (tC vb) (tCons (tC vc) tNil)))) tNil)))) (tSeq (tDrop (tBM K "list" rAppend (tVar i) (tCons (tLst tNil) tNil))) r) D σ W.H := by
  obtain ⟨⟨hl1, hl2⟩, q⟩ := must_OkE q
  obtain ⟨vs, hv, lr⟩ := o.h
  have hlen : vs.length < 100000 := by rw [lr.1]; exact hl1
  have el : ∀ v ∈ vs, ∃ (q1 : Addr) (us : List V), v = .ref q1 ∧ Wq.H q1 = none ∧ q1 ≠ p ∧ W.H q1 = some (.lst us) ∧ us.length ≤ 100000 := fun v hm => by
    obtain ⟨k, hk⟩ := List.mem_iff_getElem?.mp hm
    obtain ⟨a, ha, ⟨q2, us, e1, e2, e3⟩, q3, e4, e5⟩ := lr.got hk
    rw [e1] at e4; cases e4
    refine ⟨q2, us, e1, e5, fun z => ?_, W.ok _ _ e2, ?_⟩
    · rw [z, o.g] at e2; cases e2
    · have := List.all_eq_true.mp hl2 a (List.mem_of_getElem? ha)
      rw [e3.1]; have : a.length < 100000 := by simpa using this
      omega
  refine ⟨.ref p, hi, p, rfl, ⟨vs, SqL.of hv⟩, fun k n σ1 H1 => n = vs.length - k ∧ k ≤ vs.length ∧ (∃ d, σ1 = σ.set j d) ∧ Same Wq.H H1 ∧ H1 p = some (.lst vs) ∧ ∀ v ∈ vs, ∃ (q1 : Addr) (us : List V), v = .ref q1 ∧ Wq.H q1 = none ∧ q1 ≠ p ∧ H1 q1 = some (.lst us) ∧ us.length ≤ 100000 + k, ⟨vs.length, by simp, by simp, ⟨σ[j]?.getD none, ?_⟩, eb.h, hv, el⟩, ?_⟩
  · rw [List.getElem?_eq_getElem hj, Option.getD_some, List.set_getElem_self]
  · rintro k n σ1 H1 ⟨rfl, hk, ⟨d, rfl⟩, sm, hp1, hq1⟩
    by_cases hlt : k < vs.length
    · obtain ⟨x, hx⟩ : ∃ x, vs[k]? = some x := ⟨vs[k], by simp [hlt]⟩
      obtain ⟨q1, us, rfl, f1, f2, f3, f4⟩ := hq1 x (List.mem_of_getElem? hx)
      refine .inr ⟨⟨vs, _, SqL.of hp1, hx⟩, fun σ2 H2 => (∃ d, σ2 = σ.set j d) ∧ Same Wq.H H2 ∧ H2 p = some (.lst vs) ∧ ∀ v ∈ vs, ∃ (q1 : Addr) (us : List V), v = .ref q1 ∧ Wq.H q1 = none ∧ q1 ≠ p ∧ H2 q1 = some (.lst us) ∧ us.length ≤ 100000 + (k + 1), fun σ2 H2 ⟨z1, z2, z3, z4⟩ => ⟨vs.length - (k + 1), by omega, rfl, hlt, z1, z2, z3, z4⟩, fun y H2 ⟨z1, z2⟩ => ?_⟩
      have := z2 vs (SqL.of hp1)
      rw [hx] at this; cases this
      subst z1
      show tDrop _ _ ((σ.set j d).set j (some (.ref q1))) H2
      rw [List.set_set]
      refine ⟨.ref q1, by rw [List.getElem?_set_self hj], .inl ⟨rfl, us, SqL.of f3⟩, by show 3 ≤ sizeLine; decide, fun t ht => ?_⟩
      have tq : q1 ≠ t := fun z => by rw [z, ht] at f3; cases f3
      refine ⟨q1, us, .ref t, rfl, rfl, by rw [upd_ne tq]; exact f3, by rw [sizeLine_eq]; omega, ⟨_, rfl⟩, fun a u e => ?_, ?_, fun v hm => ?_⟩
      · have a1 : a ≠ q1 := fun z => by rw [z, f1] at e; cases e
        have a2 : a ≠ t := fun z => by have := sm a u e; rw [z, ht] at this; cases this
        rw [upd_ne a1, upd_ne a2]; exact sm a u e
      · have a2 : p ≠ t := fun z => by rw [z, ht] at hp1; cases hp1
        rw [upd_ne (Ne.symm f2), upd_ne a2]; exact hp1
      · obtain ⟨q2, us2, g0, g1, g2, g3, g4⟩ := hq1 v hm
        by_cases z : q2 = q1
        · subst z
          exact ⟨q2, us ++ [.ref t], g0, g1, g2, upd_same, by simp; omega⟩
        · have a2 : q2 ≠ t := fun z => by rw [z, ht] at g3; cases g3
          exact ⟨q2, us2, g0, g1, g2, by rw [upd_ne z, upd_ne a2]; exact g3, by omega⟩
    · have e : k = vs.length := by omega
      refine .inl ⟨⟨vs, SqL.of hp1, by omega⟩, ?_⟩
      refine ⟨.ref p, by rw [List.getElem?_set_ne (Ne.symm hij)]; exact hi, .inl ⟨rfl, vs, SqL.of hp1⟩, by decide, fun l hl => ?_⟩
      have lp : p ≠ l := fun z => by rw [z, hl] at hp1; cases hp1
      refine ⟨p, vs, .ref l, rfl, rfl, by rw [upd_ne lp]; exact hp1, by rw [sizeLine_eq]; omega, ?_⟩
      have sm2 : Same Wq.H (upd (upd H1 l (.lst [])) p (.lst (vs ++ [.ref l]))) := fun a u e => by
        have a1 : a ≠ p := fun z => by rw [z, hp] at e; cases e
        have a2 : a ≠ l := fun z => by have := sm a u e; rw [z, hl] at this; cases this
        rw [upd_ne a1, upd_ne a2]; exact sm a u e
      have := q d ⟨Wq.G, upd (upd H1 l (.lst [])) p (.lst (vs ++ [.ref l])), Wq.ok.trans sm2⟩ ⟨.refl _, sm2, fun _ _ => rfl⟩
      rw [← hσ] at this
      exact this
end
end Wb
namespace Mi
noncomputable section
@[irreducible] def M_l_at  (l_script : List Int) (l_k : Int) : Res Int := if (decide (l_k < (l_script.length : Int))) then ixL l_script l_k else (mulR ((l_k * 48271) + (11 : Int)) ((l_script.length : Int) + (7 : Int))).bind fun y8 => Res.ok (y8 % 1000003)
def m_l_at (l_script : List Int) (l_k : Int) : Res Int := M_l_at  l_script l_k
@[irreducible] def M_l_row_b1 (l_cell : Int) (l_base : Int) (a19 : Int) (s20 : (Int × Int × (List Int))) : Res (Int × Int × (List Int)) := ((if (decide ((1000000000000000000 : Int) ≤ absI l_cell)) then Res.ok (decide ((0 : Int) < s20.2.1)) else Res.ok false).bind fun y45 => (if y45 then ((modR s20.2.1 l_base).bind fun y56 => appL s20.2.2 y56).bind fun y55 => (fdivR s20.2.1 l_base).bind fun y59 => Res.ok (y59, y55) else ((((mulR ((((s20.1 * 48271) + (7919 : Int)) + a19) % 2147483647) ((((s20.1 * 48271) + (7919 : Int)) + a19) % 2147483647)).bind fun y63 => Res.ok (y63 % 1000003)).bind fun y64 => modR y64 l_base).bind fun y69 => appL s20.2.2 y69).bind fun y68 => Res.ok (s20.2.1, y68) : Res (Int × (List Int)))).bind fun s70 => Res.ok (((((s20.1 * 48271) + (7919 : Int)) + a19) % 2147483647), s70.1, s70.2)
@[irreducible] def M_l_row  (l_cell : Int) (l_many : Int) (l_base : Int) : Res (List Int) := ((rangeR l_many).bind fun y78 => forR (M_l_row_b1 l_cell l_base) y78 (((absI l_cell) % 2147483647), absI l_cell, ([] : List Int))).bind fun s79 => Res.ok s79.2.2
def m_l_row (l_cell : Int) (l_many : Int) (l_base : Int) : Res (List Int) := M_l_row  l_cell l_many l_base
@[irreducible] def M_l_sheet_b1 (m_l_row : Int → Int → Int → Res (List Int)) (m_l_at : List Int → Int → Res Int) (l_script : List Int) (l_at_here : Int) (l_tall : Int) (a7 : Int) (s8 : (List (List Int))) : Res (List (List Int)) := (((m_l_at l_script (l_at_here + a7)).bind fun y29 => m_l_row y29 l_tall (((27 : Int) * 27) * 4)).bind fun y34 => appL s8 y34).bind fun y33 => Res.ok y33
@[irreducible] def M_l_sheet_b2 (s36 : (List (List Int))) (a47 : Int) (a83 : Int) (s84 : (List (Tx × Tx × Tx))) : Res (List (Tx × Tx × Tx)) := ((ixL s36 a83).bind fun y112 => ixL y112 a47).bind fun y113 => (ixS ([63, 97, 98, 99, 100, 101, 102, 103, 104, 105, 106, 107, 108, 109, 110, 111, 112, 113, 114, 115, 116, 117, 118, 119, 120, 121, 122] : Tx) (y113 % 27)).bind fun y118 => (ixS ([97, 98, 99, 100, 101, 102, 103, 104, 105, 106, 107, 108, 109, 110, 111, 112, 113, 114, 115, 116, 117, 118, 119, 120, 121, 122, 63] : Tx) ((y113 / 27) % 27)).bind fun y123 => (((ixS ([115, 122, 63, 111] : Tx) (y113 / 729)).bind fun y126 => Res.ok (y118, y123, y126)).bind fun y131 => appL s84 y131).bind fun y130 => Res.ok y130
@[irreducible] def M_l_sheet_b3 (l_wide : Int) (s36 : (List (List Int))) (a47 : Int) (s48 : (List (List (Tx × Tx × Tx)))) : Res (List (List (Tx × Tx × Tx))) := ((rangeR l_wide).bind fun y132 => forR (M_l_sheet_b2 s36 a47) y132 ([] : List (Tx × Tx × Tx))).bind fun s133 => (appL s48 s133).bind fun y145 => Res.ok y145
@[irreducible] def M_l_sheet (m_l_row : Int → Int → Int → Res (List Int)) (m_l_at : List Int → Int → Res Int) (l_script : List Int) (l_at_here : Int) (l_wide : Int) (l_tall : Int) : Res (List (List (Tx × Tx × Tx))) := ((rangeR l_wide).bind fun y35 => forR (M_l_sheet_b1 m_l_row m_l_at l_script l_at_here l_tall) y35 ([] : List (List Int))).bind fun s36 => ((rangeR l_tall).bind fun y146 => forR (M_l_sheet_b3 l_wide s36) y146 ([] : List (List (Tx × Tx × Tx)))).bind fun s147 => Res.ok s147
def m_l_sheet (l_script : List Int) (l_at_here : Int) (l_wide : Int) (l_tall : Int) : Res (List (List (Tx × Tx × Tx))) := M_l_sheet m_l_row m_l_at l_script l_at_here l_wide l_tall
@[irreducible] def M_sheet_text  (sheet : List (List (Tx × Tx × Tx))) : Res Tx := (compR sheet (fun (a1 : List (Tx × Tx × Tx)) => (compR a1 (fun (a8 : Tx × Tx × Tx) => joinS [] [a8.1, a8.2.1, a8.2.2])).bind fun y17 => joinS [32] y17)).bind fun y20 => joinS [10] y20
def m_sheet_text (sheet : List (List (Tx × Tx × Tx))) : Res Tx := M_sheet_text  sheet
@[irreducible] def M_is_colour  (text : Tx) : Res Bool := ((lenS text).bind fun y1 => Res.ok (decide (y1 = (1 : Int)))).bind fun y2 => if y2 then if leS ([97] : Tx) text then Res.ok (leS text ([122] : Tx)) else Res.ok false else Res.ok false
def m_is_colour (text : Tx) : Res Bool := M_is_colour  text
@[irreducible] def M_fits (m_is_colour : Tx → Res Bool) (side : Tx) (sign : Tx) : Res Bool := if (decide (side = ([115, 108, 97, 110, 116] : Tx))) then Res.ok ([([115], [122], [111]).1, ([115], [122], [111]).2.1, ([115], [122], [111]).2.2].contains sign) else m_is_colour sign
def m_fits (side : Tx) (sign : Tx) : Res Bool := M_fits m_is_colour side sign
@[irreducible] def M_mark_of (m_fits : Tx → Tx → Res Bool) (word : Tx) : Res (Tx × Tx × Tx) := ((lenS word).bind fun y1 => Res.ok (!decide (y1 = (3 : Int)))).bind fun y2 => if y2 then Res.stuck else (((compR ([([102, 97, 99, 101], [98, 97, 99, 107], [115, 108, 97, 110, 116]).1, ([102, 97, 99, 101], [98, 97, 99, 107], [115, 108, 97, 110, 116]).2.1, ([102, 97, 99, 101], [98, 97, 99, 107], [115, 108, 97, 110, 116]).2.2].zip (chars word)) (fun (a5 : Tx × Tx) => if (decide (a5.2 = ([63] : Tx))) then Res.ok true else m_fits a5.1 a5.2)).bind fun y16 => Res.ok (y16.all id)).bind fun y17 => Res.ok (!y17)).bind fun y18 => if y18 then Res.stuck else (ixS word (0 : Int)).bind fun y21 => (ixS word (1 : Int)).bind fun y22 => (ixS word (2 : Int)).bind fun y23 => Res.ok (y21, y22, y23)
def m_mark_of (word : Tx) : Res (Tx × Tx × Tx) := M_mark_of m_fits word
@[irreducible] def M_pick_of (m_mark_of : Tx → Res (Tx × Tx × Tx)) (line : Tx) : Res (List (Tx × Tx × Tx)) := (splitS line ([32] : Tx)).bind fun y10 => compR y10 (fun (a1 : Tx) => m_mark_of a1)
def m_pick_of (line : Tx) : Res (List (Tx × Tx × Tx)) := M_pick_of m_mark_of line
@[irreducible] def M_sheet_of (m_pick_of : Tx → Res (List (Tx × Tx × Tx))) (text : Tx) : Res (List (List (Tx × Tx × Tx))) := if (decide (text = ([] : Tx))) then Res.ok ([] : List (List (Tx × Tx × Tx))) else ((splitS text ([10] : Tx)).bind fun y19 => compR y19 (fun (a10 : Tx) => m_pick_of a10)).bind fun y20 => ((ixL y20 (0 : Int)).bind fun y27 => Res.ok (y27.length : Int)).bind fun y28 => (if (decide ((60 : Int) < (y20.length : Int))) then Res.ok true else Res.ok (decide ((8 : Int) < y28))).bind fun y31 => if y31 then Res.stuck else ((compR y20 (fun (a37 : List (Tx × Tx × Tx)) => Res.ok (!decide ((a37.length : Int) = y28)))).bind fun y46 => Res.ok (y46.any id)).bind fun y47 => if y47 then Res.stuck else Res.ok y20
def m_sheet_of (text : Tx) : Res (List (List (Tx × Tx × Tx))) := M_sheet_of m_pick_of text
@[irreducible] def M_law_b1 (a50 : List (Tx × Tx × Tx)) (s51 : (List Tx)) : Res (List Tx) := (((compR a50 (fun (a72 : Tx × Tx × Tx) => (catS a72.1 a72.2.1).bind fun y79 => catS y79 a72.2.2)).bind fun y82 => joinS [32] y82).bind fun y87 => appL s51 y87).bind fun y86 => Res.ok y86
@[irreducible] def M_law (m_l_at : List Int → Int → Res Int) (m_l_sheet : List Int → Int → Int → Int → Res (List (List (Tx × Tx × Tx)))) (m_sheet_text : (List (List (Tx × Tx × Tx))) → Res Tx) (m_sheet_of : Tx → Res (List (List (Tx × Tx × Tx)))) (l_script : List Int) : Res Bool := (((m_l_at l_script (0 : Int)).bind fun y3 => Res.ok (y3 % 8)).bind fun y4 => Res.ok ((1 : Int) + y4)).bind fun y5 => ((m_l_at l_script (1 : Int)).bind fun y10 => Res.ok (y10 % 13)).bind fun y11 => (((((m_l_at l_script (1 : Int)).bind fun y14 => Res.ok (y14 / 13)).bind fun y15 => Res.ok (y15 % 4)).bind fun y16 => Res.ok (decide (y16 = (1 : Int)))).bind fun y17 => (if y17 then (((m_l_at l_script (1 : Int)).bind fun y26 => Res.ok (y26 / 52)).bind fun y27 => Res.ok (y27 % 61)).bind fun y28 => Res.ok y28 else Res.ok y11 : Res Int)).bind fun s32 => (m_l_sheet l_script (2 : Int) y5 s32).bind fun y41 => (forR M_law_b1 y41 ([] : List Tx)).bind fun s88 => (compR y41 (fun (a94 : List (Tx × Tx × Tx)) => Res.ok a94)).bind fun y103 => (m_sheet_text y103).bind fun y108 => ((((joinS [10] s88).bind fun y111 => sameS y108 y111).bind fun y112 => Res.ok (!y112)).bind fun y114 => if y114 then Res.ok true else (eqR y103 y41).bind fun y113 => Res.ok (!y113)).bind fun y115 => if y115 then Res.ok false else (m_sheet_of y108).bind fun y124 => ((eqR y124 y41).bind fun y132 => Res.ok (!y132)).bind fun y133 => if y133 then Res.ok false else (wreckL y124).bind fun _ => ((m_sheet_of y108).bind fun y143 => eqR y143 y41).bind fun y145 => if y145 then (m_sheet_text y41).bind fun y144 => sameS y144 y108 else Res.ok false
def m_law (l_script : List Int) : Res Bool := M_law m_l_at m_l_sheet m_sheet_text m_sheet_of l_script
end
end Mi
namespace Wb
open PySem L2 Mi
def tp (i : Nat) : Stmt := PySem.Challenge.pw_wornband_k24_sheets_written.main.body.getD i (.Pass ⟨0, 0, 0, 0⟩)
end Wb
namespace Wb
open PySem L2 Mi
section
variable {P : Program} {w : World} {K : PySem.W.Frag} {mg : Str → Option Value} {base : Heap}
theorem r_l_at {f : Addr} {fd : FuncData} (F : Fun K "_law_at" "_law_at" (tp 18) f fd) (h_len : mg "len" = none) : FnOk P w K mg base CX0 (1) f fd ["_law_script", "_law_k"] (spM2 (isScr K) isI (rs isI) (M_l_at )) := by
  have SC : FnScope ["_law_script", "_law_k"] ["_law_script", "_law_k"] (defScope (tp 18)) := ⟨rfl, rfl, rfl, by decide +kernel, rfl, by decide +kernel, by decide +kernel⟩
  refine F.ok SC (fun vs H Q E h => ?_) (fun cdv A outer s H vs Q E hr h => ?_)
  · obtain ⟨_, _, _, _, _, _, rfl, _⟩ := h; rfl
  · obtain ⟨W0, l_script, l_k, v_l_script, _, rfl, rfl, h_l_script, z_l_k, Er, hq⟩ := h
    cases z_l_k
    refine ⟨_, (pss_cons (ps_if (pt_cmpR op_lt (pv 1) (pe_callB (call_lenK (K := K) rfl) (by rfl) h_len PySem.boot_len (pa_cons (pv 0) pa_nil)) (nomark _)) (pss_one (ps_ret (pe_ix (ix_listK (K := K) rfl) (pv 0) (pv 1) (fun _ _ => rfl)))) pss_nil)
      (pss_one (ps_ret (pe_op op_mod (pe_op op_mul (pe_op op_add (pe_op op_mul (pv 1) pe_int) pe_int) (pe_op op_add (pe_callB (call_lenK (K := K) rfl) (by rfl) h_len PySem.boot_len (pa_cons (pv 0) pa_nil)) pe_int)) pe_int)))), ?_⟩
    have E0 : Ext W0 W0 := .refl W0
    rw [show L2.start ["_law_script", "_law_k"] [v_l_script, .int l_k] = [some v_l_script, some (.int l_k)] from rfl]
    unfold M_l_at at hq
    refine sv_if_s (Er := Er) (tv_test (ev_cmp (ev_var (R := sh isI) (a := l_k) (v := .int l_k) rfl) (ev_lenScr (ev_var (R := sh (isScr K)) h_l_script)))) (fun W1 e2 => ?_)
    have E0 := E0.trans e2
    have h_l_script := Mono.mono (R := (isScr K)) e2.g h_l_script
    by_cases hb13 : (decide (l_k < (l_script.length : Int))) = true
    · rw [if_pos hb13] at hq ⊢
      exact sv_ret (Er := Er) (R := sh isI) (ev_ixScr (ev_var (R := sh (isScr K)) h_l_script) (ev_var (R := sh isI) (a := l_k) (v := .int l_k) rfl)) (Res.OkE.imp hq fun y3 hq v4 W5 e6 h7 => hq v4 W5 (E0.trans e6) h7)
    · rw [if_neg hb13] at hq ⊢
      try dsimp only [tNext]
      exact sv_ret (Er := Er) (R := sh isI) (ev_rIk (fun _ => by decide) (ev_mul (ev_rI0 (ev_rIk (fun _ => .inr ⟨by decide, by decide⟩) (ev_var (R := sh isI) (a := l_k) (v := .int l_k) rfl)) ev_int) (ev_rI0 (ev_lenScr (ev_var (R := sh (isScr K)) h_l_script)) ev_int))) (Res.OkE.imp hq fun y9 hq v10 W11 e12 h13 => hq v10 W11 (E0.trans e12) h13)
theorem r_l_row {f : Addr} {fd : FuncData} (F : Fun K "_law_row" "_law_row" (tp 17) f fd) (h_abs : mg "abs" = none) (h_range : mg "range" = none) : FnOk P w K mg base CX0 (1) f fd ["_law_cell", "_law_many", "_law_base"] (spM3 isI isI isI (ro isI) (M_l_row )) := by
  have SC : FnScope ["_law_cell", "_law_many", "_law_base", "_law_now", "_law_far", "_law_mix", "_law_out", "_law_k"] ["_law_cell", "_law_many", "_law_base"] (defScope (tp 17)) := ⟨rfl, rfl, rfl, by decide +kernel, rfl, by decide +kernel, by decide +kernel⟩
  refine F.ok SC (fun vs H Q E h => ?_) (fun cdv A outer s H vs Q E hr h => ?_)
  · obtain ⟨_, _, _, _, _, _, _, _, rfl, _⟩ := h; rfl
  · obtain ⟨W0, l_cell, l_many, l_base, _, _, _, rfl, rfl, z_l_cell, z_l_many, z_l_base, Er, hq⟩ := h
    cases z_l_cell
    cases z_l_many
    cases z_l_base
    refine ⟨_, (pss_cons (ps_set (i := 3) SC.nd rfl (by first | exact Or.inl rfl | exact Or.inr rfl) (pe_callB call_abs (by rfl) h_abs PyProof.Rows.boot_abs (pa_cons (pv 0) pa_nil)))
      (pss_cons (ps_set (i := 4) SC.nd rfl (by first | exact Or.inl rfl | exact Or.inr rfl) (pe_cmpR op_ge (pv 3) (pe_op op_pow pe_int pe_int) (nomark _)))
      (pss_cons (ps_set (i := 5) SC.nd rfl (by first | exact Or.inl rfl | exact Or.inr rfl) (pe_op op_mod (pv 3) pe_int))
      (pss_cons (ps_set (i := 6) SC.nd rfl (by first | exact Or.inl rfl | exact Or.inr rfl) (pe_lst pa_nil))
      (pss_cons (ps_for PassesOwn.never rfl (pi_range1 rfl h_range (pa_cons (pv 1) pa_nil)) (pg_name (i := 7) SC.nd rfl (by first | exact Or.inl rfl | exact Or.inr rfl)) (pss_cons (ps_set (i := 5) SC.nd rfl (by first | exact Or.inl rfl | exact Or.inr rfl) (pe_op op_mod (pe_op op_add (pe_op op_add (pe_op op_mul (pv 5) pe_int) pe_int) (pv 7)) pe_int))
      (pss_one (ps_if (PW.pt (pw_and (pt_val (pv 4)) (pw_and1 (pt_cmpR op_gt (pv 3) pe_int (nomark _))))) (pss_cons (ps_expr (pe_append1 (K := K) rfl (pv 6) (pa_cons (pe_op op_mod (pv 3) (pv 2)) pa_nil)))
      (pss_one (ps_set (i := 3) SC.nd rfl (by first | exact Or.inl rfl | exact Or.inr rfl) (pe_op op_fdiv (pv 3) (pv 2))))) (pss_one (ps_expr (pe_append1 (K := K) rfl (pv 6) (pa_cons (pe_op op_mod (pe_op op_mod (pe_op op_mul (pv 5) (pv 5)) pe_int) (pv 2)) pa_nil))))))))
      (pss_one (ps_ret (pv 6)))))))), ?_⟩
    have E0 : Ext W0 W0 := .refl W0
    rw [show L2.start ["_law_cell", "_law_many", "_law_base", "_law_now", "_law_far", "_law_mix", "_law_out", "_law_k"] [.int l_cell, .int l_many, .int l_base] = [some (.int l_cell), some (.int l_many), some (.int l_base), none, none, none, none, none] from rfl]
    unfold M_l_row at hq
    refine sv_asg_s (Er := Er) (i := 3) (R := sh isI) (σ' := fun v3 => [some (.int l_cell), some (.int l_many), some (.int l_base), some v3, none, none, none, none]) (ev_abs (ev_var (R := sh isI) (a := l_cell) (v := .int l_cell) rfl)) (fun v3 W1 e2 h4 => ?_)
    cases h4
    have E0 := E0.trans e2
    refine sv_asg_s (Er := Er) (i := 4) (R := sh isB) (σ' := fun v7 => [some (.int l_cell), some (.int l_many), some (.int l_base), some (.int (absI l_cell)), some v7, none, none, none]) (ev_cmp (ev_var (R := sh isI) (a := (absI l_cell)) (v := .int (absI l_cell)) rfl) (ev_powc (r := 1000000000000000000) (by decide) (by decide))) (fun v7 W5 e6 h8 => ?_)
    cases h8
    have E0 := E0.trans e6
    refine sv_asg_s (Er := Er) (i := 5) (R := sh isI) (σ' := fun v11 => [some (.int l_cell), some (.int l_many), some (.int l_base), some (.int (absI l_cell)), some (.bl (decide ((1000000000000000000 : Int) ≤ absI l_cell))), some v11, none, none]) (ev_rIk (fun _ => by decide) (ev_var (R := sh isI) (a := (absI l_cell)) (v := .int (absI l_cell)) rfl)) (fun v11 W9 e10 h12 => ?_)
    cases h12
    have E0 := E0.trans e10
    refine sv_asgO_s (Er := Er) (i := 6) (σ' := fun p15 => [some (.int l_cell), some (.int l_many), some (.int l_base), some (.int (absI l_cell)), some (.bl (decide ((1000000000000000000 : Int) ≤ absI l_cell))), some (.int ((absI l_cell) % 2147483647)), some (.ref p15), none]) (ev_lst0 (R := isI)) (fun p15 W13 e14 hp16 o17 => ?_)
    have fr18 := none_of E0.h hp16
    have E0 := E0.trans e14
    refine sv_for_s (Er := Er) (f := (M_l_row_b1 l_cell l_base)) (s0 := (((absI l_cell) % 2147483647), absI l_cell, ([] : List Int))) (Iv := fun (s21 : (Int × Int × (List Int))) (W22 : Wd) (g23 : St) => ∃ (d25 : Option V), g23 = [some (.int l_cell), some (.int l_many), some (.int l_base), some (.int s21.2.1), some (.bl (decide ((1000000000000000000 : Int) ≤ absI l_cell))), some (.int s21.1), some (.ref p15), d25] ∧ Ext W0 W22 ∧ Ow isI W22 p15 s21.2.2) (iv_range (ev_var (R := sh isI) (a := l_many) (v := .int l_many) rfl)) (Res.okE_bind hq) ?_ ?_ ?_
    · intro W37 e38
      have E0 := E0.trans e38
      have o17 := o17.mono e38
      exact ⟨_, rfl, E0, o17⟩
    · intro Wb26 W27 W28 a19 v29 s20 sg30 P31 hW32 hB33 iv e34 h35 hq
      obtain ⟨d25, rfl, E0, o24⟩ := iv
      have E0 := E0.trans e34
      have hB33 := hB33.trans e34.g
      have o24 := o24.mono e34
      cases h35
      refine gn (σ' := [some (.int l_cell), some (.int l_many), some (.int l_base), some (.int s20.2.1), some (.bl (decide ((1000000000000000000 : Int) ≤ absI l_cell))), some (.int s20.1), some (.ref p15), some (.int a19)]) ?_
      unfold M_l_row_b1 at hq
      refine sv_asg_s (Er := Er) (i := 5) (R := sh isI) (σ' := fun v43 => [some (.int l_cell), some (.int l_many), some (.int l_base), some (.int s20.2.1), some (.bl (decide ((1000000000000000000 : Int) ≤ absI l_cell))), some v43, some (.ref p15), some (.int a19)]) (ev_rIk (fun _ => by decide) (ev_rI0 (ev_rI0 (ev_rIk (fun _ => .inr ⟨by decide, by decide⟩) (ev_var (R := sh isI) (a := s20.1) (v := .int s20.1) rfl)) ev_int) (ev_var (R := sh isI) (a := a19) (v := .int a19) rfl))) (fun v43 W41 e42 h44 => ?_)
      cases h44
      have E0 := E0.trans e42
      have hB33 := hB33.trans e42.g
      have o24 := o24.mono e42
      refine sv_ifj (Er := Er) (Iv := fun (s74 : (Int × (List Int))) (W75 : Wd) (g76 : St) => g76 = [some (.int l_cell), some (.int l_many), some (.int l_base), some (.int s74.1), some (.bl (decide ((1000000000000000000 : Int) ≤ absI l_cell))), some (.int ((((s20.1 * 48271) + (7919 : Int)) + a19) % 2147483647)), some (.ref p15), some (.int a19)] ∧ Ext W0 W75 ∧ Ow isI W75 p15 s74.2) (tv_and (tv_b (ev_var (R := sh isB) (a := (decide ((1000000000000000000 : Int) ≤ absI l_cell))) (v := .bl (decide ((1000000000000000000 : Int) ≤ absI l_cell))) rfl)) (tv_test (ev_cmp (ev_var (R := sh isI) (a := s20.2.1) (v := .int s20.2.1) rfl) ev_int))) (Res.okE_bind hq) ?_ ?_ ?_
      · intro W46 N49 e47 hN50 hq
        have hs51 := e47.g
        have E0 := E0.trans e47
        have hB33 := hB33.trans e47.g
        have o24 := o24.mono e47
        refine sv_app_s (Er := Er) o24 (ev_mod (ev_var (R := sh isI) (a := s20.2.1) (v := .int s20.2.1) rfl) (ev_var (R := sh isI) (a := l_base) (v := .int l_base) rfl)) ((Res.okE_bind hq).imp fun y55 hq W52 mu53 o54 => ?_)
        have E0 := mu53.e _ E0 fr18
        have hB33 := hB33.trans mu53.g
        have hs51 := hs51.trans mu53.g
        refine sv_asg (Er := Er) (i := 3) (R := sh isI) (σ' := fun v60 => [some (.int l_cell), some (.int l_many), some (.int l_base), some v60, some (.bl (decide ((1000000000000000000 : Int) ≤ absI l_cell))), some (.int ((((s20.1 * 48271) + (7919 : Int)) + a19) % 2147483647)), some (.ref p15), some (.int a19)]) (ev_fdiv (ev_var (R := sh isI) (a := s20.2.1) (v := .int s20.2.1) rfl) (ev_var (R := sh isI) (a := l_base) (v := .int l_base) rfl)) ((Res.okE_bind hq).imp fun y59 hq v60 W57 e58 h61 => ?_)
        cases h61
        have E0 := E0.trans e58
        have hB33 := hB33.trans e58.g
        have hs51 := hs51.trans e58.g
        have o54 := o54.mono e58
        exact hN50 (y59, y55) W57 _ hs51 ⟨rfl, E0, o54⟩ hq
      · intro W46 N49 e47 hN50 hq
        have hs62 := e47.g
        have E0 := E0.trans e47
        have hB33 := hB33.trans e47.g
        have o24 := o24.mono e47
        refine sv_app (Er := Er) o24 (ev_mod (ev_rIk (fun _ => by decide) (ev_mul (ev_var (R := sh isI) (a := ((((s20.1 * 48271) + (7919 : Int)) + a19) % 2147483647)) (v := .int ((((s20.1 * 48271) + (7919 : Int)) + a19) % 2147483647)) rfl) (ev_var (R := sh isI) (a := ((((s20.1 * 48271) + (7919 : Int)) + a19) % 2147483647)) (v := .int ((((s20.1 * 48271) + (7919 : Int)) + a19) % 2147483647)) rfl))) (ev_var (R := sh isI) (a := l_base) (v := .int l_base) rfl)) ((Res.okE_bind hq).imp fun y68 hq W65 mu66 o67 => ?_)
        have E0 := mu66.e _ E0 fr18
        have hB33 := hB33.trans mu66.g
        have hs62 := hs62.trans mu66.g
        exact hN50 (s20.2.1, y68) W65 _ hs62 ⟨rfl, E0, o67⟩ hq
      · intro s70 W71 sg72 hS73 iv hq
        obtain ⟨rfl, E0, o77⟩ := iv
        have hB33 := hB33.trans hS73
        try dsimp only
        refine nxF_of (W := W71) (((((s20.1 * 48271) + (7919 : Int)) + a19) % 2147483647), s70.1, s70.2) hB33 ?_ hq
        exact ⟨_, rfl, E0, o77⟩
    · intro s79 W80 sg81 hS82 iv hq
      obtain ⟨d25, rfl, E0, o24⟩ := iv
      exact ⟨.ref p15, rfl, hq p15 W80 E0 fr18 o24⟩
theorem r_l_sheet {f : Addr} {fd : FuncData} (F : Fun K "_law_sheet" "_law_sheet" (tp 19) f fd) {m_l_row : Int → Int → Int → Res (List Int)} {m_l_at : List Int → Int → Res Int} (C__law_row : Cal P w K mg base "_law_row" ["_law_cell", "_law_many", "_law_base"] (1) (spM3 isI isI isI (ro isI) m_l_row)) (C__law_at : Cal P w K mg base "_law_at" ["_law_script", "_law_k"] (1) (spM2 (isScr K) isI (rs isI) m_l_at)) (h_range : mg "range" = none) : FnOk P w K mg base CX0 (2) f fd ["_law_script", "_law_at_here", "_law_wide", "_law_tall"] (spM4 (isScr K) isI isI isI (ro (isL (isT3 K isS isS isS))) (M_l_sheet m_l_row m_l_at)) := by
  have SC : FnScope ["_law_script", "_law_at_here", "_law_wide", "_law_tall", "_law_cols", "_law_k", "_law_out", "_law_pick", "_law_marks", "_law_d", "_law_face", "_law_reverse_side"] ["_law_script", "_law_at_here", "_law_wide", "_law_tall"] (defScope (tp 19)) := ⟨rfl, rfl, rfl, by decide +kernel, rfl, by decide +kernel, by decide +kernel⟩
  refine F.ok SC (fun vs H Q E h => ?_) (fun cdv A outer s H vs Q E hr h => ?_)
  · obtain ⟨_, _, _, _, _, _, _, _, _, _, rfl, _⟩ := h; rfl
  · obtain ⟨W0, l_script, l_at_here, l_wide, l_tall, v_l_script, _, _, _, rfl, rfl, h_l_script, z_l_at_here, z_l_wide, z_l_tall, Er, hq⟩ := h
    cases z_l_at_here
    cases z_l_wide
    cases z_l_tall
    refine ⟨_, (pss_cons (ps_set (i := 4) SC.nd rfl (by first | exact Or.inl rfl | exact Or.inr rfl) (pe_lst pa_nil))
      (pss_cons (ps_for PassesOwn.never rfl (pi_range1 rfl h_range (pa_cons (pv 2) pa_nil)) (pg_name (i := 5) SC.nd rfl (by first | exact Or.inl rfl | exact Or.inr rfl)) (pss_one (ps_expr (pe_append1 (K := K) rfl (pv 4) (pa_cons (pe_cal C__law_row (hr.mono (by decide)) (by rfl) (pa_cons (pe_cal C__law_at (hr.mono (by decide)) (by rfl) (pa_cons (pv 0) (pa_cons (pe_op op_add (pv 1) (pv 5)) pa_nil))) (pa_cons (pv 3) (pa_cons (pe_op op_mul (pe_op op_mul pe_int pe_int) pe_int) pa_nil)))) pa_nil)))))
      (pss_cons (ps_set (i := 6) SC.nd rfl (by first | exact Or.inl rfl | exact Or.inr rfl) (pe_lst pa_nil))
      (pss_cons (ps_for PassesOwn.never rfl (pi_range1 rfl h_range (pa_cons (pv 3) pa_nil)) (pg_name (i := 7) SC.nd rfl (by first | exact Or.inl rfl | exact Or.inr rfl)) (pss_cons (ps_set (i := 8) SC.nd rfl (by first | exact Or.inl rfl | exact Or.inr rfl) (pe_lst pa_nil))
      (pss_cons (ps_for PassesOwn.never rfl (pi_range1 rfl h_range (pa_cons (pv 2) pa_nil)) (pg_name (i := 5) SC.nd rfl (by first | exact Or.inl rfl | exact Or.inr rfl)) (pss_cons (ps_set (i := 9) SC.nd rfl (by first | exact Or.inl rfl | exact Or.inr rfl) (pe_ix (ix_listK (K := K) rfl) (pe_ix (ix_listK (K := K) rfl) (pv 4) (pv 5) (fun _ _ => rfl)) (pv 7) (fun _ _ => rfl)))
      (pss_cons (ps_set (i := 10) SC.nd rfl (by first | exact Or.inl rfl | exact Or.inr rfl) (pe_ix ix_str pe_str (pe_op op_mod (pv 9) pe_int) (fun _ _ => rfl)))
      (pss_cons (ps_set (i := 11) SC.nd rfl (by first | exact Or.inl rfl | exact Or.inr rfl) (pe_ix ix_str pe_str (pe_op op_mod (pe_op op_fdiv (pv 9) pe_int) pe_int) (fun _ _ => rfl)))
      (pss_one (ps_expr (pe_append1 (K := K) rfl (pv 8) (pa_cons (pe_tup (pa_cons (pv 10) (pa_cons (pv 11) (pa_cons (pe_ix ix_str pe_str (pe_op op_fdiv (pv 9) pe_int) (fun _ _ => rfl)) pa_nil)))) pa_nil))))))))
      (pss_one (ps_expr (pe_append1 (K := K) rfl (pv 6) (pa_cons (pv 8) pa_nil)))))))
      (pss_one (ps_ret (pv 6))))))), ?_⟩
    have E0 : Ext W0 W0 := .refl W0
    rw [show L2.start ["_law_script", "_law_at_here", "_law_wide", "_law_tall", "_law_cols", "_law_k", "_law_out", "_law_pick", "_law_marks", "_law_d", "_law_face", "_law_reverse_side"] [v_l_script, .int l_at_here, .int l_wide, .int l_tall] = [some v_l_script, some (.int l_at_here), some (.int l_wide), some (.int l_tall), none, none, none, none, none, none, none, none] from rfl]
    unfold M_l_sheet at hq
    refine sv_asgO_s (Er := Er) (i := 4) (σ' := fun p3 => [some v_l_script, some (.int l_at_here), some (.int l_wide), some (.int l_tall), some (.ref p3), none, none, none, none, none, none, none]) (ev_lst0 (R := (isL isI))) (fun p3 W1 e2 hp4 o5 => ?_)
    have fr6 := none_of E0.h hp4
    have E0 := E0.trans e2
    have h_l_script := Mono.mono (R := (isScr K)) e2.g h_l_script
    refine sv_for_s (Er := Er) (f := (M_l_sheet_b1 m_l_row m_l_at l_script l_at_here l_tall)) (s0 := ([] : List (List Int))) (Iv := fun (s9 : (List (List Int))) (W10 : Wd) (g11 : St) => ∃ (d13 : Option V), g11 = [some v_l_script, some (.int l_at_here), some (.int l_wide), some (.int l_tall), some (.ref p3), d13, none, none, none, none, none, none] ∧ Ext W0 W10 ∧ Ow (isL isI) W10 p3 s9) (iv_range (ev_var (R := sh isI) (a := l_wide) (v := .int l_wide) rfl)) (Res.okE_bind hq) ?_ ?_ ?_
    · intro W25 e26
      have E0 := E0.trans e26
      have h_l_script := Mono.mono (R := (isScr K)) e26.g h_l_script
      have o5 := o5.mono e26
      exact ⟨_, rfl, E0, o5⟩
    · intro Wb14 W15 W16 a7 v17 s8 sg18 P19 hW20 hB21 iv e22 h23 hq
      obtain ⟨d13, rfl, E0, o12⟩ := iv
      have h_l_script := Mono.mono (R := (isScr K)) hW20 h_l_script
      have E0 := E0.trans e22
      have hB21 := hB21.trans e22.g
      have h_l_script := Mono.mono (R := (isScr K)) e22.g h_l_script
      have o12 := o12.mono e22
      cases h23
      refine gn (σ' := [some v_l_script, some (.int l_at_here), some (.int l_wide), some (.int l_tall), some (.ref p3), some (.int a7), none, none, none, none, none, none]) ?_
      unfold M_l_sheet_b1 at hq
      refine sv_app (Er := Er) o12 (EVo.ev (ev_call3o (ev_call2 (ev_var (R := sh (isScr K)) h_l_script) (ev_rI0 (ev_var (R := sh isI) (a := l_at_here) (v := .int l_at_here) rfl) (ev_var (R := sh isI) (a := a7) (v := .int a7) rfl))) (ev_var (R := sh isI) (a := l_tall) (v := .int l_tall) rfl) (ev_rIk (fun _ => .inr ⟨by decide, by decide⟩) (ev_rIk (fun _ => .inr ⟨by decide, by decide⟩) ev_int)))) ((Res.okE_bind hq).imp fun y33 hq W30 mu31 o32 => ?_)
      have E0 := mu31.e _ E0 fr6
      have hB21 := hB21.trans mu31.g
      have h_l_script := Mono.mono (R := (isScr K)) mu31.g h_l_script
      try dsimp only
      refine nxF_of (W := W30) y33 hB21 ?_ hq
      exact ⟨_, rfl, E0, o32⟩
    · intro s36 W37 sg38 hS39 iv hq
      obtain ⟨d13, rfl, E0, o12⟩ := iv
      refine sv_asgO_s (Er := Er) (i := 6) (σ' := fun p42 => [some v_l_script, some (.int l_at_here), some (.int l_wide), some (.int l_tall), some (.ref p3), d13, some (.ref p42), none, none, none, none, none]) (ev_lst0 (R := (isL (isT3 K isS isS isS)))) (fun p42 W40 e41 hp43 o44 => ?_)
      have ne45 := o12.ne hp43
      have fr46 := none_of E0.h hp43
      have E0 := E0.trans e41
      have o12 := o12.mono e41
      refine sv_for_s (Er := Er) (f := (M_l_sheet_b3 l_wide s36)) (s0 := ([] : List (List (Tx × Tx × Tx)))) (Iv := fun (s49 : (List (List (Tx × Tx × Tx)))) (W50 : Wd) (g51 : St) => ∃ (d53 : Option V) (d54 : Option V) (d55 : Option V) (d56 : Option V) (d57 : Option V) (d58 : Option V), g51 = [some v_l_script, some (.int l_at_here), some (.int l_wide), some (.int l_tall), some (.ref p3), d54, some (.ref p42), d58, d53, d55, d56, d57] ∧ Ext W0 W50 ∧ Ow (isL (isT3 K isS isS isS)) W50 p42 s49 ∧ Ow (isL isI) W50 p3 s36) (iv_range (ev_var (R := sh isI) (a := l_tall) (v := .int l_tall) rfl)) (Res.okE_bind hq) ?_ ?_ ?_
      · intro W71 e72
        have E0 := E0.trans e72
        have o12 := o12.mono e72
        have o44 := o44.mono e72
        exact ⟨_, _, _, _, _, _, rfl, E0, o44, o12⟩
      · intro Wb60 W61 W62 a47 v63 s48 sg64 P65 hW66 hB67 iv e68 h69 hq
        obtain ⟨d53, d54, d55, d56, d57, d58, rfl, E0, o52, o59⟩ := iv
        have E0 := E0.trans e68
        have hB67 := hB67.trans e68.g
        have o59 := o59.mono e68
        have o52 := o52.mono e68
        cases h69
        refine gn (σ' := [some v_l_script, some (.int l_at_here), some (.int l_wide), some (.int l_tall), some (.ref p3), d54, some (.ref p42), some (.int a47), d53, d55, d56, d57]) ?_
        unfold M_l_sheet_b3 at hq
        refine sv_asgO_s (Er := Er) (i := 8) (σ' := fun p77 => [some v_l_script, some (.int l_at_here), some (.int l_wide), some (.int l_tall), some (.ref p3), d54, some (.ref p42), some (.int a47), some (.ref p77), d55, d56, d57]) (ev_lst0 (R := (isT3 K isS isS isS))) (fun p77 W75 e76 hp78 o79 => ?_)
        have ne80 := o59.ne hp78
        have ne81 := o52.ne hp78
        have fr82 := none_of E0.h hp78
        have E0 := E0.trans e76
        have hB67 := hB67.trans e76.g
        have o59 := o59.mono e76
        have o52 := o52.mono e76
        refine sv_for_s (Er := Er) (f := (M_l_sheet_b2 s36 a47)) (s0 := ([] : List (Tx × Tx × Tx))) (Iv := fun (s85 : (List (Tx × Tx × Tx))) (W86 : Wd) (g87 : St) => ∃ (d89 : Option V) (d90 : Option V) (d91 : Option V) (d92 : Option V), g87 = [some v_l_script, some (.int l_at_here), some (.int l_wide), some (.int l_tall), some (.ref p3), d92, some (.ref p42), some (.int a47), some (.ref p77), d89, d90, d91] ∧ Ext W0 W86 ∧ Ow (isT3 K isS isS isS) W86 p77 s85 ∧ Ow (isL isI) W86 p3 s36 ∧ Ow (isL (isT3 K isS isS isS)) W86 p42 s48) (iv_range (ev_var (R := sh isI) (a := l_wide) (v := .int l_wide) rfl)) (Res.okE_bind hq) ?_ ?_ ?_
        · intro W106 e107
          have E0 := E0.trans e107
          have hB67 := hB67.trans e107.g
          have o59 := o59.mono e107
          have o52 := o52.mono e107
          have o79 := o79.mono e107
          exact ⟨_, _, _, _, rfl, E0, o79, o59, o52⟩
        · intro Wb95 W96 W97 a83 v98 s84 sg99 P100 hW101 hB102 iv e103 h104 hq
          obtain ⟨d89, d90, d91, d92, rfl, E0, o88, o93, o94⟩ := iv
          have hB67 := hB67.trans hW101
          have E0 := E0.trans e103
          have hB67 := hB67.trans e103.g
          have hB102 := hB102.trans e103.g
          have o93 := o93.mono e103
          have o94 := o94.mono e103
          have o88 := o88.mono e103
          cases h104
          refine gn (σ' := [some v_l_script, some (.int l_at_here), some (.int l_wide), some (.int l_tall), some (.ref p3), some (.int a83), some (.ref p42), some (.int a47), some (.ref p77), d89, d90, d91]) ?_
          unfold M_l_sheet_b2 at hq
          refine sv_asg_s (Er := Er) (i := 9) (R := sh isI) (σ' := fun v114 => [some v_l_script, some (.int l_at_here), some (.int l_wide), some (.int l_tall), some (.ref p3), some (.int a83), some (.ref p42), some (.int a47), some (.ref p77), some v114, d90, d91]) (ev_ixL (EV.pk (ev_ixL (ev_varO o93) (ev_var (R := sh isI) (a := a83) (v := .int a83) rfl))) (ev_var (R := sh isI) (a := a47) (v := .int a47) rfl)) ((Res.okE_bind hq).imp fun y113 hq v114 W110 e111 h115 => ?_)
          cases h115
          have E0 := E0.trans e111
          have hB67 := hB67.trans e111.g
          have hB102 := hB102.trans e111.g
          have o93 := o93.mono e111
          have o94 := o94.mono e111
          have o88 := o88.mono e111
          refine sv_asg_s (Er := Er) (i := 10) (R := sh isS) (σ' := fun v119 => [some v_l_script, some (.int l_at_here), some (.int l_wide), some (.int l_tall), some (.ref p3), some (.int a83), some (.ref p42), some (.int a47), some (.ref p77), some (.int y113), some v119, d91]) (ev_ixS (ev_str (x := Str.ofString "?abcdefghijklmnopqrstuvwxyz") (l := [63, 97, 98, 99, 100, 101, 102, 103, 104, 105, 106, 107, 108, 109, 110, 111, 112, 113, 114, 115, 116, 117, 118, 119, 120, 121, 122]) (ofS _ _ (by decide +kernel))) (ev_rIk (fun _ => by decide) (ev_var (R := sh isI) (a := y113) (v := .int y113) rfl))) ((Res.okE_bind hq).imp fun y118 hq v119 W116 e117 h120 => ?_)
          cases h120
          have E0 := E0.trans e117
          have hB67 := hB67.trans e117.g
          have hB102 := hB102.trans e117.g
          have o93 := o93.mono e117
          have o94 := o94.mono e117
          have o88 := o88.mono e117
          refine sv_asg_s (Er := Er) (i := 11) (R := sh isS) (σ' := fun v124 => [some v_l_script, some (.int l_at_here), some (.int l_wide), some (.int l_tall), some (.ref p3), some (.int a83), some (.ref p42), some (.int a47), some (.ref p77), some (.int y113), some (.str (sOf y118)), some v124]) (ev_ixS (ev_str (x := Str.ofString "abcdefghijklmnopqrstuvwxyz?") (l := [97, 98, 99, 100, 101, 102, 103, 104, 105, 106, 107, 108, 109, 110, 111, 112, 113, 114, 115, 116, 117, 118, 119, 120, 121, 122, 63]) (ofS _ _ (by decide +kernel))) (ev_rIk (fun _ => by decide) (ev_rIk (fun _ => ⟨by decide, by decide⟩) (ev_var (R := sh isI) (a := y113) (v := .int y113) rfl)))) ((Res.okE_bind hq).imp fun y123 hq v124 W121 e122 h125 => ?_)
          cases h125
          have E0 := E0.trans e122
          have hB67 := hB67.trans e122.g
          have hB102 := hB102.trans e122.g
          have o93 := o93.mono e122
          have o94 := o94.mono e122
          have o88 := o88.mono e122
          refine sv_app (Er := Er) o88 (ev_tup3 (K := K) (ev_var (R := sh isS) (a := y118) (v := .str (sOf y118)) rfl) (ev_var (R := sh isS) (a := y123) (v := .str (sOf y123)) rfl) (ev_ixS (ev_str (x := Str.ofString "sz?o") (l := [115, 122, 63, 111]) (ofS _ _ (by decide +kernel))) (ev_rIk (fun _ => ⟨by decide, by decide⟩) (ev_var (R := sh isI) (a := y113) (v := .int y113) rfl)))) ((Res.okE_bind hq).imp fun y130 hq W127 mu128 o129 => ?_)
          have E0 := mu128.e _ E0 fr82
          have hB67 := hB67.trans mu128.g
          have hB102 := hB102.trans mu128.g
          have o93 := mu128.ow ne80 o93
          have o94 := mu128.ow ne81 o94
          try dsimp only
          refine nxF_of (W := W127) y130 hB102 ?_ hq
          exact ⟨_, _, _, _, rfl, E0, o129, o93, o94⟩
        · intro s133 W134 sg135 hS136 iv hq
          obtain ⟨d89, d90, d91, d92, rfl, E0, o88, o93, o94⟩ := iv
          have hB67 := hB67.trans hS136
          obtain ⟨W137, hH138, E0, hS139, h141, hk140⟩ := o88.frz E0 fr82
          rw [← hH138]
          have hB67 := hB67.trans hS139
          have o93 := o93.keep (by rw [hH138]) hS139 (hk140 _ ne80)
          have o94 := o94.keep (by rw [hH138]) hS139 (hk140 _ ne81)
          refine sv_app (Er := Er) o94 (ev_var (R := sh (isL (isT3 K isS isS isS))) h141) ((Res.okE_bind hq).imp fun y145 hq W142 mu143 o144 => ?_)
          have E0 := mu143.e _ E0 fr46
          have hB67 := hB67.trans mu143.g
          have o93 := mu143.ow ne45 o93
          have h141 := Mono.mono (R := (isL (isT3 K isS isS isS))) mu143.g h141
          try dsimp only
          refine nxF_of (W := W142) y145 hB67 ?_ hq
          exact ⟨_, _, _, _, _, _, rfl, E0, o144, o93⟩
      · intro s147 W148 sg149 hS150 iv hq
        obtain ⟨d53, d54, d55, d56, d57, d58, rfl, E0, o52, o59⟩ := iv
        exact ⟨.ref p42, rfl, hq p42 W148 E0 fr46 o52⟩
theorem r_sheet_text {f : Addr} {fd : FuncData} (F : Fun K "sheet_text" "sheet_text" (tp 12) f fd)  : FnOk P w K mg base CX0 (1) f fd ["sheet"] (spM1 (isL (isL (isT3 K isS isS isS))) (rs isS) (M_sheet_text )) := by
  have SC : FnScope ["sheet"] ["sheet"] (defScope (tp 12)) := ⟨rfl, rfl, rfl, by decide +kernel, rfl, by decide +kernel, by decide +kernel⟩
  refine F.ok SC (fun vs H Q E h => ?_) (fun cdv A outer s H vs Q E hr h => ?_)
  · obtain ⟨_, _, _, _, rfl, _⟩ := h; rfl
  · obtain ⟨W0, sheet, v_sheet, rfl, rfl, h_sheet, Er, hq⟩ := h
    refine ⟨_, (pss_one (ps_ret (pe_bmK (K := K) rfl PySem.F.plainAttrs_str PySem.F.slot_str_join PySem.F.type_str_join (mt_joinS (K := K) rfl) pe_str (pa_cons (pe_comp (N := ["pick"]) (cap := [none]) (mkCS rfl (by decide +kernel) rfl (by decide +kernel) (by rfl) (by rfl)) rfl (pi_listK (K := K) rfl (pv 0)) (fun _ _ _ _ => (pg_name (i := 0) (show List.Nodup (["pick"] : List Str) by decide +kernel) rfl (by first | exact Or.inl rfl | exact Or.inr rfl))) (fun _ _ _ _ => pts_nil) (fun _ _ _ _ => (pe_bmK (K := K) rfl PySem.F.plainAttrs_str PySem.F.slot_str_join PySem.F.type_str_join (mt_joinS (K := K) rfl) pe_str (pa_cons (pe_comp (N := ["mark"]) (cap := [none]) (mkCS rfl (by decide +kernel) rfl (by decide +kernel) (by rfl) (by rfl)) rfl (pi_listK (K := K) rfl (pv 0)) (fun _ _ _ _ => (pg_name (i := 0) (show List.Nodup (["mark"] : List Str) by decide +kernel) rfl (by first | exact Or.inl rfl | exact Or.inr rfl))) (fun _ _ _ _ => pts_nil) (fun _ _ _ _ => (pe_bmK (K := K) rfl PySem.F.plainAttrs_str PySem.F.slot_str_join PySem.F.type_str_join (mt_joinS (K := K) rfl) pe_str (pa_cons (pv 0) pa_nil)))) pa_nil)))) pa_nil)))), ?_⟩
    have E0 : Ext W0 W0 := .refl W0
    rw [show L2.start ["sheet"] [v_sheet] = [some v_sheet] from rfl]
    unfold M_sheet_text at hq
    exact sv_ret (Er := Er) (R := sh isS) (ev_joinS (l := [10]) (ofS _ _ (by decide +kernel)) (EVo.pk (ev_comp (f := fun (a1 : List (Tx × Tx × Tx)) => (compR a1 (fun (a8 : Tx × Tx × Tx) => joinS [] [a8.1, a8.2.1, a8.2.2])).bind fun y17 => joinS [32] y17) (iv_list (ev_var (R := sh (isL (isL (isT3 K isS isS isS)))) h_sheet)) fun W3 a1 v2 e4 h5 Q18 k19 => by
      refine gn ?_
      exact ⟨by simp [Keep, capSt], ((ev_joinS (l := [32]) (ofS _ _ (by decide +kernel)) (EVo.pk (ev_comp (f := fun (a8 : Tx × Tx × Tx) => joinS [] [a8.1, a8.2.1, a8.2.2]) (iv_list (ev_var (R := sh (isL (isT3 K isS isS isS))) h5)) fun W10 a8 v9 e11 h12 Q15 k16 => by
        refine gn ?_
        exact ⟨by simp [Keep, capSt], ((ev_joinT3 (l := []) (ofS _ _ (by decide +kernel)) (ev_var (R := sh (isT3 K isS isS isS)) h12)) : EV Er _ [some v9] _ _ _) _ (.refl _) _ k16⟩))) : EV Er _ [some v2] _ _ _) _ (.refl _) _ k19⟩))) (Res.OkE.imp hq fun y21 hq v22 W23 e24 h25 => hq v22 W23 (E0.trans e24) h25)
theorem r_is_colour {f : Addr} {fd : FuncData} (F : Fun K "is_colour" "is_colour" (tp 4) f fd) (h_len : mg "len" = none) : FnOk P w K mg base CX0 (1) f fd ["text"] (spM1 isS (rs isB) (M_is_colour )) := by
  have SC : FnScope ["text"] ["text"] (defScope (tp 4)) := ⟨rfl, rfl, rfl, by decide +kernel, rfl, by decide +kernel, by decide +kernel⟩
  refine F.ok SC (fun vs H Q E h => ?_) (fun cdv A outer s H vs Q E hr h => ?_)
  · obtain ⟨_, _, _, _, rfl, _⟩ := h; rfl
  · obtain ⟨W0, text, _, rfl, rfl, z_text, Er, hq⟩ := h
    cases z_text
    refine ⟨_, (pss_one (ps_ret (pe_and (pe_cmpR op_eq (pe_callB (call_lenK (K := K) rfl) (by rfl) h_len PySem.boot_len (pa_cons (pv 0) pa_nil)) pe_int (nomark _)) (pe_one (pe_chain op_le_str op_le_str pe_str (pv 0) pe_str))))), ?_⟩
    have E0 : Ext W0 W0 := .refl W0
    rw [show L2.start ["text"] [.str (sOf text)] = [some (.str (sOf text))] from rfl]
    unfold M_is_colour at hq
    exact sv_ret (Er := Er) (R := sh isB) (ev_and (ev_eqI (ev_lenS (ev_var (R := sh isS) (a := text) (v := .str (sOf text)) rfl)) ev_int) (ev_chainS (ev_str (x := Str.ofString "a") (l := [97]) (ofS _ _ (by decide +kernel))) (ev_var (R := sh isS) (a := text) (v := .str (sOf text)) rfl) (ev_str (x := Str.ofString "z") (l := [122]) (ofS _ _ (by decide +kernel))))) (Res.OkE.imp hq fun y3 hq v4 W5 e6 h7 => hq v4 W5 (E0.trans e6) h7)
theorem r_fits {f : Addr} {fd : FuncData} (F : Fun K "fits" "fits" (tp 11) f fd) {m_is_colour : Tx → Res Bool} (C_is_colour : Cal P w K mg base "is_colour" ["text"] (1) (spM1 isS (rs isB) m_is_colour)) {d_SLANT_SIGNS : Addr} (h_SLANT_SIGNS : mg "SLANT_SIGNS" = some (.ref d_SLANT_SIGNS)) (T_SLANT_SIGNS : ∀ H, SqT K H d_SLANT_SIGNS [.str (Str.ofString "s"), .str (Str.ofString "z"), .str (Str.ofString "o")]) : FnOk P w K mg base CX0 (2) f fd ["side", "sign"] (spM2 isS isS (rs isB) (M_fits m_is_colour)) := by
  have SC : FnScope ["side", "sign"] ["side", "sign"] (defScope (tp 11)) := ⟨rfl, rfl, rfl, by decide +kernel, rfl, by decide +kernel, by decide +kernel⟩
  refine F.ok SC (fun vs H Q E h => ?_) (fun cdv A outer s H vs Q E hr h => ?_)
  · obtain ⟨_, _, _, _, _, _, rfl, _⟩ := h; rfl
  · obtain ⟨W0, side, sign, _, _, rfl, rfl, z_side, z_sign, Er, hq⟩ := h
    cases z_side
    cases z_sign
    refine ⟨_, (pss_one (ps_ret (pe_ifExp (pt_cmpR op_eq (pv 0) pe_str (nomark _)) (pe_cmpR (op_in_seqK (K := K) rfl) (pv 1) (pe_glob (v := .ref _) (by rfl) h_SLANT_SIGNS rfl) (by with_unfolding_all rfl)) (pe_cal C_is_colour (hr.mono (by decide)) (by rfl) (pa_cons (pv 1) pa_nil))))), ?_⟩
    have E0 : Ext W0 W0 := .refl W0
    rw [show L2.start ["side", "sign"] [.str (sOf side), .str (sOf sign)] = [some (.str (sOf side)), some (.str (sOf sign))] from rfl]
    unfold M_fits at hq
    exact sv_ret (Er := Er) (R := sh isB) (ev_if (tv_test (ev_eqS (ev_var (R := sh isS) (a := side) (v := .str (sOf side)) rfl) (ev_str (x := Str.ofString "slant") (l := [115, 108, 97, 110, 116]) (ofS _ _ (by decide +kernel))))) (ev_inT3 (ev_var (R := sh isS) (a := sign) (v := .str (sOf sign)) rfl) (ev_gtup3 T_SLANT_SIGNS (gS _ [115] (by decide +kernel)) (gS _ [122] (by decide +kernel)) (gS _ [111] (by decide +kernel)))) (ev_call1 (ev_var (R := sh isS) (a := sign) (v := .str (sOf sign)) rfl))) (Res.OkE.imp hq fun y1 hq v2 W3 e4 h5 => hq v2 W3 (E0.trans e4) h5)
theorem r_mark_of {f : Addr} {fd : FuncData} (F : Fun K "mark_of" "mark_of" (tp 15) f fd) {m_fits : Tx → Tx → Res Bool} (C_fits : Cal P w K mg base "fits" ["side", "sign"] (2) (spM2 isS isS (rs isB) m_fits)) (h_all : mg "all" = none) (h_len : mg "len" = none) (h_zip : mg "zip" = none) {d_SIDES : Addr} (h_SIDES : mg "SIDES" = some (.ref d_SIDES)) (T_SIDES : ∀ H, SqT K H d_SIDES [.str (Str.ofString "face"), .str (Str.ofString "back"), .str (Str.ofString "slant")]) {t_WORN : Tok} (h_WORN : mg "WORN" = some (.str (Str.ofString "?") t_WORN)) : FnOk P w K mg base CX0 (3) f fd ["word"] (spM1 isS (rs (isT3 K isS isS isS)) (M_mark_of m_fits)) := by
  have SC : FnScope ["word"] ["word"] (defScope (tp 15)) := ⟨rfl, rfl, rfl, by decide +kernel, rfl, by decide +kernel, by decide +kernel⟩
  refine F.ok SC (fun vs H Q E h => ?_) (fun cdv A outer s H vs Q E hr h => ?_)
  · obtain ⟨_, _, _, _, rfl, _⟩ := h; rfl
  · obtain ⟨W0, word, _, rfl, rfl, z_word, Er, hq⟩ := h
    cases z_word
    refine ⟨_, (pss_cons (ps_if (pt_cmpR op_ne (pe_callB (call_lenK (K := K) rfl) (by rfl) h_len PySem.boot_len (pa_cons (pv 0) pa_nil)) (pe_callB (call_lenK (K := K) rfl) (by rfl) h_len PySem.boot_len (pa_cons (pe_glob (v := .ref _) (by rfl) h_SIDES rfl) pa_nil)) (nomark _)) (pss_one ps_never) pss_nil)
      (pss_cons (ps_if (pt_not (pt_val (pe_callB (call_all1 (K := K) rfl rfl) (by rfl) h_all PyProof.Rows.boot_all (pa_cons (pe_comp (N := ["side", "sign"]) (cap := [none, none]) (mkCS rfl (by decide +kernel) rfl (by decide +kernel) (by rfl) (by rfl)) rfl (pi_zipK (K := K) rfl rfl h_zip (pa_cons (pe_glob (v := .ref _) (by rfl) h_SIDES rfl) (pa_cons (pv 0) pa_nil))) (fun _ _ _ _ => (pg_tupK (K := K) (n := 2) rfl rfl (pgs_cons (pg_name (i := 0) (show List.Nodup (["side", "sign"] : List Str) by decide +kernel) rfl (by first | exact Or.inl rfl | exact Or.inr rfl)) (pgs_cons (pg_name (i := 1) (show List.Nodup (["side", "sign"] : List Str) by decide +kernel) rfl (by first | exact Or.inl rfl | exact Or.inr rfl)) pgs_nil)))) (fun _ _ _ _ => pts_nil) (fun _ _ _ _ => (pe_or (pe_cmpR op_eq (pv 1) (pe_glob (v := .str (Str.ofString "?")) (by rfl) h_WORN ⟨_, rfl⟩) (nomark _)) (pe_one (pe_cal C_fits (hr.mono (by decide)) (by rfl) (pa_cons (pv 0) (pa_cons (pv 1) pa_nil))))))) pa_nil)))) (pss_one ps_never) pss_nil)
      (pss_one (ps_ret (pe_tup (pa_cons (pe_ix ix_str (pv 0) pe_int (fun _ _ => rfl)) (pa_cons (pe_ix ix_str (pv 0) pe_int (fun _ _ => rfl)) (pa_cons (pe_ix ix_str (pv 0) pe_int (fun _ _ => rfl)) pa_nil)))))))), ?_⟩
    have E0 : Ext W0 W0 := .refl W0
    rw [show L2.start ["word"] [.str (sOf word)] = [some (.str (sOf word))] from rfl]
    unfold M_mark_of at hq
    refine sv_if_s (Er := Er) (tv_test (ev_neI (ev_lenS (ev_var (R := sh isS) (a := word) (v := .str (sOf word)) rfl)) (ev_lenT3 (ev_gtup3 T_SIDES (gS _ [102, 97, 99, 101] (by decide +kernel)) (gS _ [98, 97, 99, 107] (by decide +kernel)) (gS _ [115, 108, 97, 110, 116] (by decide +kernel)))))) ((Res.okE_bind hq).imp fun y2 hq W3 e4 => ?_)
    have E0 := E0.trans e4
    by_cases hb28 : y2 = true
    · rw [if_pos hb28] at hq ⊢
      exact hq.elim
    · rw [if_neg hb28] at hq ⊢
      try dsimp only [tNext]
      refine sv_if_s (Er := Er) (tv_not (tv_b (ev_all (EVo.pk (ev_comp (f := fun (a5 : Tx × Tx) => if (decide (a5.2 = ([63] : Tx))) then Res.ok true else m_fits a5.1 a5.2) (iv_zip (sv_tup3 (ev_gtup3 T_SIDES (gS _ [102, 97, 99, 101] (by decide +kernel)) (gS _ [98, 97, 99, 107] (by decide +kernel)) (gS _ [115, 108, 97, 110, 116] (by decide +kernel)))) (sv_str (ev_var (R := sh isS) (a := word) (v := .str (sOf word)) rfl))) fun W7 a5 v6 e8 h9 Q14 k15 => by
        refine gt2n h9 fun v10 v12 h11 h13 => ?_
        cases h11
        cases h13
        exact ⟨by simp [Keep, capSt], ((ev_or (ev_eqS (ev_var (R := sh isS) (a := a5.2) (v := .str (sOf a5.2)) rfl) (ev_str (x := Str.ofString "?") (l := [63]) (ofS _ _ (by decide +kernel)))) (ev_call2 (ev_var (R := sh isS) (a := a5.1) (v := .str (sOf a5.1)) rfl) (ev_var (R := sh isS) (a := a5.2) (v := .str (sOf a5.2)) rfl))) : EV Er _ [some (.str (sOf a5.1)), some (.str (sOf a5.2))] _ _ _) _ (.refl _) _ k15⟩))))) ((Res.okE_bind hq).imp fun y18 hq W19 e20 => ?_)
      have E0 := E0.trans e20
      by_cases hb28 : y18 = true
      · rw [if_pos hb28] at hq ⊢
        exact hq.elim
      · rw [if_neg hb28] at hq ⊢
        try dsimp only [tNext]
        exact sv_ret (Er := Er) (R := sh (isT3 K isS isS isS)) (ev_tup3 (K := K) (ev_ixS (ev_var (R := sh isS) (a := word) (v := .str (sOf word)) rfl) ev_int) (ev_ixS (ev_var (R := sh isS) (a := word) (v := .str (sOf word)) rfl) ev_int) (ev_ixS (ev_var (R := sh isS) (a := word) (v := .str (sOf word)) rfl) ev_int)) (Res.OkE.imp hq fun y24 hq v25 W26 e27 h28 => hq v25 W26 (E0.trans e27) h28)
theorem r_pick_of {f : Addr} {fd : FuncData} (F : Fun K "pick_of" "pick_of" (tp 14) f fd) {m_mark_of : Tx → Res (Tx × Tx × Tx)} (C_mark_of : Cal P w K mg base "mark_of" ["word"] (3) (spM1 isS (rs (isT3 K isS isS isS)) m_mark_of)) : FnOk P w K mg base CX0 (4) f fd ["line"] (spM1 isS (ro (isT3 K isS isS isS)) (M_pick_of m_mark_of)) := by
  have SC : FnScope ["line"] ["line"] (defScope (tp 14)) := ⟨rfl, rfl, rfl, by decide +kernel, rfl, by decide +kernel, by decide +kernel⟩
  refine F.ok SC (fun vs H Q E h => ?_) (fun cdv A outer s H vs Q E hr h => ?_)
  · obtain ⟨_, _, _, _, rfl, _⟩ := h; rfl
  · obtain ⟨W0, line, _, rfl, rfl, z_line, Er, hq⟩ := h
    cases z_line
    refine ⟨_, (pss_one (ps_ret (pe_comp (N := ["word"]) (cap := [none]) (mkCS rfl (by decide +kernel) rfl (by decide +kernel) (by rfl) (by rfl)) rfl (pi_listK (K := K) rfl (pe_bmK (K := K) rfl PySem.F.plainAttrs_str PySem.F.slot_str_split PySem.F.type_str_split mt_splitS (pv 0) (pa_cons pe_str pa_nil))) (fun _ _ _ _ => (pg_name (i := 0) (show List.Nodup (["word"] : List Str) by decide +kernel) rfl (by first | exact Or.inl rfl | exact Or.inr rfl))) (fun _ _ _ _ => pts_nil) (fun _ _ _ _ => (pe_cal C_mark_of (hr.mono (by decide)) (by rfl) (pa_cons (pv 0) pa_nil)))))), ?_⟩
    have E0 : Ext W0 W0 := .refl W0
    rw [show L2.start ["line"] [.str (sOf line)] = [some (.str (sOf line))] from rfl]
    unfold M_pick_of at hq
    exact sv_retO (Er := Er) (ev_comp (f := fun (a1 : Tx) => m_mark_of a1) (iv_list (EVo.ev (ev_splitS (ev_var (R := sh isS) (a := line) (v := .str (sOf line)) rfl) (ev_str (x := Str.ofString " ") (l := [32]) (ofS _ _ (by decide +kernel)))))) fun W3 a1 v2 e4 h5 Q8 k9 => by
      cases h5
      refine gn ?_
      exact ⟨by simp [Keep, capSt], ((ev_call1 (ev_var (R := sh isS) (a := a1) (v := .str (sOf a1)) rfl)) : EV Er _ [some (.str (sOf a1))] _ _ _) _ (.refl _) _ k9⟩) (Res.OkE.imp hq fun y11 hq p12 W13 e14 hp15 o16 => hq p12 W13 (E0.trans e14) (none_of E0.h hp15) o16)
theorem r_sheet_of {f : Addr} {fd : FuncData} (F : Fun K "sheet_of" "sheet_of" (tp 13) f fd) {m_pick_of : Tx → Res (List (Tx × Tx × Tx))} (C_pick_of : Cal P w K mg base "pick_of" ["line"] (4) (spM1 isS (ro (isT3 K isS isS isS)) m_pick_of)) (h_any : mg "any" = none) (h_len : mg "len" = none) {t_MOST_PICKS : Tok} (h_MOST_PICKS : mg "MOST_PICKS" = some (.int 60 t_MOST_PICKS)) {t_MOST_TABLETS : Tok} (h_MOST_TABLETS : mg "MOST_TABLETS" = some (.int 8 t_MOST_TABLETS)) : FnOk P w K mg base CX0 (5) f fd ["text"] (spM1 isS (ron (isT3 K isS isS isS)) (M_sheet_of m_pick_of)) := by
  have SC : FnScope ["text", "sheet", "wide"] ["text"] (defScope (tp 13)) := ⟨rfl, rfl, rfl, by decide +kernel, rfl, by decide +kernel, by decide +kernel⟩
  refine F.ok SC (fun vs H Q E h => ?_) (fun cdv A outer s H vs Q E hr h => ?_)
  · obtain ⟨_, _, _, _, rfl, _⟩ := h; rfl
  · obtain ⟨W0, text, _, rfl, rfl, z_text, Er, hq⟩ := h
    cases z_text
    refine ⟨_, (pss_cons (ps_if (pt_cmpR op_eq (pv 0) pe_str (nomark _)) (pss_one (ps_ret (pe_lst pa_nil))) pss_nil)
      (pss_cons (ps_setComp (i := 1) SC.nd rfl (by first | exact Or.inl rfl | exact Or.inr rfl) (N := ["line"]) (cap := [none]) (mkCS rfl (by decide +kernel) rfl (by decide +kernel) (by rfl) (by rfl)) rfl (pi_listK (K := K) rfl (pe_bmK (K := K) rfl PySem.F.plainAttrs_str PySem.F.slot_str_split PySem.F.type_str_split mt_splitS (pv 0) (pa_cons pe_str pa_nil))) (fun _ _ _ _ => (pg_name (i := 0) (show List.Nodup (["line"] : List Str) by decide +kernel) rfl (by first | exact Or.inl rfl | exact Or.inr rfl))) (fun _ _ _ _ => pts_nil) (fun _ _ _ _ => (pe_cal C_pick_of (hr.mono (by decide)) (by rfl) (pa_cons (pv 0) pa_nil))))
      (pss_cons (ps_set (i := 2) SC.nd rfl (by first | exact Or.inl rfl | exact Or.inr rfl) (pe_callB (call_lenK (K := K) rfl) (by rfl) h_len PySem.boot_len (pa_cons (pe_ix (ix_listK (K := K) rfl) (pv 1) pe_int (fun _ _ => rfl)) pa_nil)))
      (pss_cons (ps_if (PW.pt (pw_or (pt_cmpR op_gt (pe_callB (call_lenK (K := K) rfl) (by rfl) h_len PySem.boot_len (pa_cons (pv 1) pa_nil)) (pe_glob (v := .int 60) (by rfl) h_MOST_PICKS ⟨_, rfl⟩) (nomark _)) (pw_or1 (pt_cmpR op_gt (pv 2) (pe_glob (v := .int 8) (by rfl) h_MOST_TABLETS ⟨_, rfl⟩) (nomark _))))) (pss_one ps_never) pss_nil)
      (pss_cons (ps_if (pt_val (pe_callB (call_any1 (K := K) rfl rfl) (by rfl) h_any PyProof.Rows.boot_any (pa_cons (pe_comp (N := ["pick", "wide"]) (cap := [none, some 2]) (mkCS rfl (by decide +kernel) rfl (by decide +kernel) (by rfl) (by rfl)) rfl (pi_listK (K := K) rfl (pv 1)) (fun _ _ _ _ => (pg_name (i := 0) (show List.Nodup (["pick", "wide"] : List Str) by decide +kernel) rfl (by first | exact Or.inl rfl | exact Or.inr rfl))) (fun _ _ _ _ => pts_nil) (fun _ _ _ _ => (pe_cmpR op_ne (pe_callB (call_lenK (K := K) rfl) (by rfl) h_len PySem.boot_len (pa_cons (pv 0) pa_nil)) (pv 1) (nomark _)))) pa_nil))) (pss_one ps_never) pss_nil)
      (pss_one (ps_ret (pv 1)))))))), ?_⟩
    have E0 : Ext W0 W0 := .refl W0
    rw [show L2.start ["text", "sheet", "wide"] [.str (sOf text)] = [some (.str (sOf text)), none, none] from rfl]
    unfold M_sheet_of at hq
    refine sv_if_s (Er := Er) (tv_test (ev_eqS (ev_var (R := sh isS) (a := text) (v := .str (sOf text)) rfl) (ev_str (x := Str.ofString "") (l := []) (ofS _ _ (by decide +kernel))))) (fun W1 e2 => ?_)
    have E0 := E0.trans e2
    by_cases hb49 : (decide (text = ([] : Tx))) = true
    · rw [if_pos hb49] at hq ⊢
      exact sv_retO (Er := Er) (ev_lst0 (R := (nwL W0.H (isT3 K isS isS isS)))) (fun p3 W4 e5 hp6 o7 => hq p3 W4 (E0.trans e5) (none_of E0.h hp6) o7)
    · rw [if_neg hb49] at hq ⊢
      try dsimp only [tNext]
      refine sv_asgO_s (Er := Er) (i := 1) (σ' := fun p21 => [some (.str (sOf text)), some (.ref p21), none]) (ev_comp (f := fun (a10 : Tx) => m_pick_of a10) (iv_list (EVo.ev (ev_splitS (ev_var (R := sh isS) (a := text) (v := .str (sOf text)) rfl) (ev_str (x := Str.ofString "\n") (l := [10]) (ofS _ _ (by decide +kernel)))))) fun W12 a10 v11 e13 h14 Q17 k18 => by
        cases h14
        refine gn ?_
        exact ⟨by simp [Keep, capSt], ((EVo.nw (fun _ z => none_of (E0.trans e13).h z) (ev_call1o (ev_var (R := sh isS) (a := a10) (v := .str (sOf a10)) rfl))) : EV Er _ [some (.str (sOf a10))] _ _ _) _ (.refl _) _ k18⟩) ((Res.okE_bind hq).imp fun y20 hq p21 W8 e9 hp22 o23 => ?_)
      have fr24 := none_of E0.h hp22
      have E0 := E0.trans e9
      refine sv_asg_s (Er := Er) (i := 2) (R := sh isI) (σ' := fun v29 => [some (.str (sOf text)), some (.ref p21), some v29]) (ev_lenL (EV.pk (ev_nw (ev_ixL (ev_varO o23) ev_int)))) ((Res.okE_bind hq).imp fun y28 hq v29 W25 e26 h30 => ?_)
      cases h30
      have E0 := E0.trans e26
      have o23 := o23.mono e26
      refine sv_if_s (Er := Er) (tv_or (tv_test (ev_cmp (ev_lenL (ev_varO o23)) ev_int)) (tv_test (ev_cmp (ev_var (R := sh isI) (a := y28) (v := .int y28) rfl) ev_int))) ((Res.okE_bind hq).imp fun y31 hq W32 e33 => ?_)
      have E0 := E0.trans e33
      have o23 := o23.mono e33
      by_cases hb49 : y31 = true
      · rw [if_pos hb49] at hq ⊢
        exact hq.elim
      · rw [if_neg hb49] at hq ⊢
        try dsimp only [tNext]
        refine sv_if_s (Er := Er) (tv_lend o23 fun W34 hS35 h36 => ((tv_b (ev_any (EVo.pk (ev_comp (f := fun (a37 : List (Tx × Tx × Tx)) => Res.ok (!decide ((a37.length : Int) = y28))) (iv_list (ev_nwL (ev_var (R := sh (isL (nwL W0.H (isT3 K isS isS isS)))) h36))) fun W39 a37 v38 e40 h41 Q44 k45 => by
          refine gn ?_
          exact ⟨by simp [Keep, capSt], ((ev_neI (ev_lenL (EV.pk (ev_var (R := sh (isL (isT3 K isS isS isS))) h41))) (ev_var (R := sh isI) (a := y28) (v := .int y28) rfl)) : EV Er _ [some v38, some (.int y28)] _ _ _) _ (.refl _) _ k45⟩)))))) ((Res.okE_bind hq).imp fun y47 hq W48 e49 => ?_)
        have E0 := E0.trans e49
        have o23 := o23.mono e49
        by_cases hb49 : y47 = true
        · rw [if_pos hb49] at hq ⊢
          exact hq.elim
        · rw [if_neg hb49] at hq ⊢
          try dsimp only [tNext]
          exact ⟨.ref p21, rfl, hq p21 W48 E0 fr24 o23⟩
theorem r_law {f : Addr} {fd : FuncData} (F : Fun K "law" "law" (tp 21) f fd) {m_l_at : List Int → Int → Res Int} {m_l_sheet : List Int → Int → Int → Int → Res (List (List (Tx × Tx × Tx)))} {m_sheet_text : (List (List (Tx × Tx × Tx))) → Res Tx} {m_sheet_of : Tx → Res (List (List (Tx × Tx × Tx)))} (C__law_at : Cal P w K mg base "_law_at" ["_law_script", "_law_k"] (1) (spM2 (isScr K) isI (rs isI) m_l_at)) (C__law_sheet : Cal P w K mg base "_law_sheet" ["_law_script", "_law_at_here", "_law_wide", "_law_tall"] (2) (spM4 (isScr K) isI isI isI (ro (isL (isT3 K isS isS isS))) m_l_sheet)) (C_sheet_text : Cal P w K mg base "sheet_text" ["sheet"] (1) (spM1 (isL (isL (isT3 K isS isS isS))) (rs isS) m_sheet_text)) (C__law_same : Cal P w K mg base "_law_same" ["_law_found", "_law_due"] 26 (spSame2 K 26)) (C_sheet_of : Cal P w K mg base "sheet_of" ["text"] (5) (spM1 isS (ron (isT3 K isS isS isS)) m_sheet_of)) (h_list : mg "list" = none) : FnOk P w K mg base CX0 (27) f fd ["_law_script"] (spM1 (isScr K) (rs isB) (M_law m_l_at m_l_sheet m_sheet_text m_sheet_of)) := by
  have SC : FnScope ["_law_script", "_law_wide", "_law_tall", "_law_sheet_here", "_law_lines", "_law_marks", "_law_hand", "_law_text", "_law_found"] ["_law_script"] (defScope (tp 21)) := ⟨rfl, rfl, rfl, by decide +kernel, rfl, by decide +kernel, by decide +kernel⟩
  refine F.ok SC (fun vs H Q E h => ?_) (fun cdv A outer s H vs Q E hr h => ?_)
  · obtain ⟨_, _, _, _, rfl, _⟩ := h; rfl
  · obtain ⟨W0, l_script, v_l_script, rfl, rfl, h_l_script, Er, hq⟩ := h
    refine ⟨_, (pss_cons (ps_set (i := 1) SC.nd rfl (by first | exact Or.inl rfl | exact Or.inr rfl) (pe_op op_add pe_int (pe_op op_mod (pe_cal C__law_at (hr.mono (by decide)) (by rfl) (pa_cons (pv 0) (pa_cons pe_int pa_nil))) pe_int)))
      (pss_cons (ps_set (i := 2) SC.nd rfl (by first | exact Or.inl rfl | exact Or.inr rfl) (pe_op op_mod (pe_cal C__law_at (hr.mono (by decide)) (by rfl) (pa_cons (pv 0) (pa_cons pe_int pa_nil))) pe_int))
      (pss_cons (ps_if (pt_cmpR op_eq (pe_op op_mod (pe_op op_fdiv (pe_cal C__law_at (hr.mono (by decide)) (by rfl) (pa_cons (pv 0) (pa_cons pe_int pa_nil))) pe_int) pe_int) pe_int (nomark _)) (pss_one (ps_set (i := 2) SC.nd rfl (by first | exact Or.inl rfl | exact Or.inr rfl) (pe_op op_mod (pe_op op_fdiv (pe_cal C__law_at (hr.mono (by decide)) (by rfl) (pa_cons (pv 0) (pa_cons pe_int pa_nil))) pe_int) pe_int))) pss_nil)
      (pss_cons (ps_set (i := 3) SC.nd rfl (by first | exact Or.inl rfl | exact Or.inr rfl) (pe_cal C__law_sheet (hr.mono (by decide)) (by rfl) (pa_cons (pv 0) (pa_cons pe_int (pa_cons (pv 1) (pa_cons (pv 2) pa_nil))))))
      (pss_cons (ps_set (i := 4) SC.nd rfl (by first | exact Or.inl rfl | exact Or.inr rfl) (pe_lst pa_nil))
      (pss_cons (ps_for PassesOwn.never rfl (pi_listK (K := K) rfl (pv 3)) (pg_name (i := 5) SC.nd rfl (by first | exact Or.inl rfl | exact Or.inr rfl)) (pss_one (ps_expr (pe_append1 (K := K) rfl (pv 4) (pa_cons (pe_bmK (K := K) rfl PySem.F.plainAttrs_str PySem.F.slot_str_join PySem.F.type_str_join (mt_joinS (K := K) rfl) pe_str (pa_cons (pe_comp (N := ["_law_mark"]) (cap := [none]) (mkCS rfl (by decide +kernel) rfl (by decide +kernel) (by rfl) (by rfl)) rfl (pi_listK (K := K) rfl (pv 5)) (fun _ _ _ _ => (pg_name (i := 0) (show List.Nodup (["_law_mark"] : List Str) by decide +kernel) rfl (by first | exact Or.inl rfl | exact Or.inr rfl))) (fun _ _ _ _ => pts_nil) (fun _ _ _ _ => (pe_op op_add_str (pe_op op_add_str (pe_ix (ix_tupK (K := K) rfl) (pv 0) pe_int (fun _ _ => rfl)) (pe_ix (ix_tupK (K := K) rfl) (pv 0) pe_int (fun _ _ => rfl))) (pe_ix (ix_tupK (K := K) rfl) (pv 0) pe_int (fun _ _ => rfl))))) pa_nil)) pa_nil)))))
      (pss_cons (ps_setComp (i := 6) SC.nd rfl (by first | exact Or.inl rfl | exact Or.inr rfl) (N := ["_law_marks"]) (cap := [none]) (mkCS rfl (by decide +kernel) rfl (by decide +kernel) (by rfl) (by rfl)) rfl (pi_listK (K := K) rfl (pv 3)) (fun _ _ _ _ => (pg_name (i := 0) (show List.Nodup (["_law_marks"] : List Str) by decide +kernel) rfl (by first | exact Or.inl rfl | exact Or.inr rfl))) (fun _ _ _ _ => pts_nil) (fun _ _ _ _ => (pe_callTy (call_list_ofK (K := K) rfl) (by rfl) h_list PyProof.Rows.boot_list (pa_cons (pv 0) pa_nil))))
      (pss_cons (ps_set (i := 7) SC.nd rfl (by first | exact Or.inl rfl | exact Or.inr rfl) (pe_cal C_sheet_text (hr.mono (by decide)) (by rfl) (pa_cons (pv 6) pa_nil)))
      (pss_cons (ps_if (PW.pt (pw_or (pt_not (pt_val (pe_cal C__law_same (hr.mono (by decide)) (by rfl) (pa_cons (pv 7) (pa_cons (pe_bmK (K := K) rfl PySem.F.plainAttrs_str PySem.F.slot_str_join PySem.F.type_str_join (mt_joinS (K := K) rfl) pe_str (pa_cons (pv 4) pa_nil)) pa_nil))))) (pw_or1 (pt_not (pt_val (pe_cal C__law_same (hr.mono (by decide)) (by rfl) (pa_cons (pv 6) (pa_cons (pv 3) pa_nil)))))))) (pss_one (ps_ret pe_bl)) pss_nil)
      (pss_cons (ps_set (i := 8) SC.nd rfl (by first | exact Or.inl rfl | exact Or.inr rfl) (pe_cal C_sheet_of (hr.mono (by decide)) (by rfl) (pa_cons (pv 7) pa_nil)))
      (pss_cons (ps_if (pt_not (pt_val (pe_cal C__law_same (hr.mono (by decide)) (by rfl) (pa_cons (pv 8) (pa_cons (pv 3) pa_nil))))) (pss_one (ps_ret pe_bl)) pss_nil)
      (pss_cons (ps_for PassesOwn.never rfl (pi_listK (K := K) rfl (pv 8)) (pg_name (i := 5) SC.nd rfl (by first | exact Or.inl rfl | exact Or.inr rfl)) (pss_one (ps_expr (pe_append1 (K := K) rfl (pv 5) (pa_cons (pe_tup (pa_cons pe_str (pa_cons pe_str (pa_cons pe_str pa_nil)))) pa_nil)))))
      (pss_cons (ps_expr (pe_append1 (K := K) rfl (pv 8) (pa_cons (pe_lst pa_nil) pa_nil)))
      (pss_one (ps_ret (pe_and (pe_cal C__law_same (hr.mono (by decide)) (by rfl) (pa_cons (pe_cal C_sheet_of (hr.mono (by decide)) (by rfl) (pa_cons (pv 7) pa_nil)) (pa_cons (pv 3) pa_nil))) (pe_one (pe_cal C__law_same (hr.mono (by decide)) (by rfl) (pa_cons (pe_cal C_sheet_text (hr.mono (by decide)) (by rfl) (pa_cons (pv 3) pa_nil)) (pa_cons (pv 7) pa_nil)))))))))))))))))))), ?_⟩
    have E0 : Ext W0 W0 := .refl W0
    rw [show L2.start ["_law_script", "_law_wide", "_law_tall", "_law_sheet_here", "_law_lines", "_law_marks", "_law_hand", "_law_text", "_law_found"] [v_l_script] = [some v_l_script, none, none, none, none, none, none, none, none] from rfl]
    unfold M_law at hq
    refine sv_asg_s (Er := Er) (i := 1) (R := sh isI) (σ' := fun v6 => [some v_l_script, some v6, none, none, none, none, none, none, none]) (ev_rI0 ev_int (ev_rIk (fun _ => by decide) (ev_call2 (ev_var (R := sh (isScr K)) h_l_script) ev_int))) ((Res.okE_bind hq).imp fun y5 hq v6 W1 e2 h7 => ?_)
    cases h7
    have E0 := E0.trans e2
    have h_l_script := Mono.mono (R := (isScr K)) e2.g h_l_script
    refine sv_asg_s (Er := Er) (i := 2) (R := sh isI) (σ' := fun v12 => [some v_l_script, some (.int y5), some v12, none, none, none, none, none, none]) (ev_rIk (fun _ => by decide) (ev_call2 (ev_var (R := sh (isScr K)) h_l_script) ev_int)) ((Res.okE_bind hq).imp fun y11 hq v12 W8 e9 h13 => ?_)
    cases h13
    have E0 := E0.trans e9
    have h_l_script := Mono.mono (R := (isScr K)) e9.g h_l_script
    refine sv_ifj_s (Er := Er) (Iv := fun (s36 : Int) (W37 : Wd) (g38 : St) => g38 = [some v_l_script, some (.int y5), some (.int s36), none, none, none, none, none, none] ∧ Ext W0 W37) (tv_test (ev_eqI (ev_rIk (fun _ => by decide) (ev_rIk (fun _ => ⟨by decide, by decide⟩) (ev_call2 (ev_var (R := sh (isScr K)) h_l_script) ev_int))) ev_int)) (Res.okE_bind hq) ?_ ?_ ?_
    · intro W18 N21 e19 hN22 hq
      have hs23 := e19.g
      have E0 := E0.trans e19
      have h_l_script := Mono.mono (R := (isScr K)) e19.g h_l_script
      refine sv_asg (Er := Er) (i := 2) (R := sh isI) (σ' := fun v29 => [some v_l_script, some (.int y5), some v29, none, none, none, none, none, none]) (ev_rIk (fun _ => by decide) (ev_rIk (fun _ => ⟨by decide, by decide⟩) (ev_call2 (ev_var (R := sh (isScr K)) h_l_script) ev_int))) ((Res.okE_bind hq).imp fun y28 hq v29 W24 e25 h30 => ?_)
      cases h30
      have E0 := E0.trans e25
      have hs23 := hs23.trans e25.g
      have h_l_script := Mono.mono (R := (isScr K)) e25.g h_l_script
      exact hN22 y28 W24 _ hs23 ⟨rfl, E0⟩ hq
    · intro W18 N21 e19 hN22 hq
      have hs31 := e19.g
      have E0 := E0.trans e19
      have h_l_script := Mono.mono (R := (isScr K)) e19.g h_l_script
      try dsimp only [tNext]
      exact hN22 y11 W18 _ hs31 ⟨rfl, E0⟩ hq
    · intro s32 W33 sg34 hS35 iv hq
      obtain ⟨rfl, E0⟩ := iv
      have h_l_script := Mono.mono (R := (isScr K)) hS35 h_l_script
      refine sv_asg_s (Er := Er) (i := 3) (R := sh (isL (isL (isT3 K isS isS isS)))) (σ' := fun v42 => [some v_l_script, some (.int y5), some (.int s32), some v42, none, none, none, none, none]) (EVo.ev (ev_call4o (ev_var (R := sh (isScr K)) h_l_script) ev_int (ev_var (R := sh isI) (a := y5) (v := .int y5) rfl) (ev_var (R := sh isI) (a := s32) (v := .int s32) rfl))) ((Res.okE_bind hq).imp fun y41 hq v42 W39 e40 h43 => ?_)
      have E0 := E0.trans e40
      refine sv_asgO_s (Er := Er) (i := 4) (σ' := fun p46 => [some v_l_script, some (.int y5), some (.int s32), some v42, some (.ref p46), none, none, none, none]) (ev_lst0 (R := isS)) (fun p46 W44 e45 hp47 o48 => ?_)
      have fr49 := none_of E0.h hp47
      have E0 := E0.trans e45
      have h43 := Mono.mono (R := (isL (isL (isT3 K isS isS isS)))) e45.g h43
      refine sv_for_s (Er := Er) (f := M_law_b1) (s0 := ([] : List Tx)) (Iv := fun (s52 : (List Tx)) (W53 : Wd) (g54 : St) => ∃ (d56 : Option V), g54 = [some v_l_script, some (.int y5), some (.int s32), some v42, some (.ref p46), d56, none, none, none] ∧ Ext W0 W53 ∧ Ow isS W53 p46 s52) (iv_list (ev_var (R := sh (isL (isL (isT3 K isS isS isS)))) h43)) (Res.okE_bind hq) ?_ ?_ ?_
      · intro W68 e69
        have E0 := E0.trans e69
        have h43 := Mono.mono (R := (isL (isL (isT3 K isS isS isS)))) e69.g h43
        have o48 := o48.mono e69
        exact ⟨_, rfl, E0, o48⟩
      · intro Wb57 W58 W59 a50 v60 s51 sg61 P62 hW63 hB64 iv e65 h66 hq
        obtain ⟨d56, rfl, E0, o55⟩ := iv
        have h43 := Mono.mono (R := (isL (isL (isT3 K isS isS isS)))) hW63 h43
        have E0 := E0.trans e65
        have hB64 := hB64.trans e65.g
        have h43 := Mono.mono (R := (isL (isL (isT3 K isS isS isS)))) e65.g h43
        have o55 := o55.mono e65
        refine gn (σ' := [some v_l_script, some (.int y5), some (.int s32), some v42, some (.ref p46), some v60, none, none, none]) ?_
        unfold M_law_b1 at hq
        refine sv_app (Er := Er) o55 (ev_joinS (l := [32]) (ofS _ _ (by decide +kernel)) (EVo.pk (ev_comp (f := fun (a72 : Tx × Tx × Tx) => (catS a72.1 a72.2.1).bind fun y79 => catS y79 a72.2.2) (iv_list (ev_var (R := sh (isL (isT3 K isS isS isS))) h66)) fun W74 a72 v73 e75 h76 Q80 k81 => by
          refine gn ?_
          exact ⟨by simp [Keep, capSt], ((ev_catS (ev_catS (ev_ixT (f := fun (b : Tx × Tx × Tx) => b.1) ix30 (ev_var (R := sh (isT3 K isS isS isS)) h76)) (ev_ixT (f := fun (b : Tx × Tx × Tx) => b.2.1) ix31 (ev_var (R := sh (isT3 K isS isS isS)) h76))) (ev_ixT (f := fun (b : Tx × Tx × Tx) => b.2.2) ix32 (ev_var (R := sh (isT3 K isS isS isS)) h76))) : EV Er _ [some v73] _ _ _) _ (.refl _) _ k81⟩))) ((Res.okE_bind hq).imp fun y86 hq W83 mu84 o85 => ?_)
        have E0 := mu84.e _ E0 fr49
        have hB64 := hB64.trans mu84.g
        have h43 := Mono.mono (R := (isL (isL (isT3 K isS isS isS)))) mu84.g h43
        have h66 := Mono.mono (R := (isL (isT3 K isS isS isS))) mu84.g h66
        try dsimp only
        refine nxF_of (W := W83) y86 hB64 ?_ hq
        exact ⟨_, rfl, E0, o85⟩
      · intro s88 W89 sg90 hS91 iv hq
        obtain ⟨d56, rfl, E0, o55⟩ := iv
        have h43 := Mono.mono (R := (isL (isL (isT3 K isS isS isS)))) hS91 h43
        refine sv_asg_s (Er := Er) (i := 6) (R := sh (isL (isL (isT3 K isS isS isS)))) (σ' := fun v104 => [some v_l_script, some (.int y5), some (.int s32), some v42, some (.ref p46), d56, some v104, none, none]) (EVo.ev (ev_comp (f := fun (a94 : List (Tx × Tx × Tx)) => Res.ok a94) (iv_list (ev_var (R := sh (isL (isL (isT3 K isS isS isS)))) h43)) fun W96 a94 v95 e97 h98 Q101 k102 => by
          refine gn ?_
          exact ⟨by simp [Keep, capSt], ((EVo.ev (ev_listL (EV.pk (ev_var (R := sh (isL (isT3 K isS isS isS))) h98)))) : EV Er _ [some v95] _ _ _) _ (.refl _) _ k102⟩)) ((Res.okE_bind hq).imp fun y103 hq v104 W92 e93 h105 => ?_)
        have E0 := E0.trans e93
        have h43 := Mono.mono (R := (isL (isL (isT3 K isS isS isS)))) e93.g h43
        have o55 := o55.mono e93
        refine sv_asg_s (Er := Er) (i := 7) (R := sh isS) (σ' := fun v109 => [some v_l_script, some (.int y5), some (.int s32), some v42, some (.ref p46), d56, some v104, some v109, none]) (ev_call1 (ev_var (R := sh (isL (isL (isT3 K isS isS isS)))) h105)) ((Res.okE_bind hq).imp fun y108 hq v109 W106 e107 h110 => ?_)
        cases h110
        have E0 := E0.trans e107
        have h43 := Mono.mono (R := (isL (isL (isT3 K isS isS isS)))) e107.g h43
        have o55 := o55.mono e107
        have h105 := Mono.mono (R := (isL (isL (isT3 K isS isS isS)))) e107.g h105
        refine sv_if_s (Er := Er) (tv_or (tv_not (tv_b (ev_sameS (by decide) (ev_var (R := sh isS) (a := y108) (v := .str (sOf y108)) rfl) (ev_joinS (l := [10]) (ofS _ _ (by decide +kernel)) (ev_varO o55))))) (tv_not (tv_b (ev_same2 (by decide) (ev_var (R := sh (isL (isL (isT3 K isS isS isS)))) h105) (ev_var (R := sh (isL (isL (isT3 K isS isS isS)))) h43))))) ((Res.okE_bind hq).imp fun y115 hq W116 e117 => ?_)
        have E0 := E0.trans e117
        have h43 := Mono.mono (R := (isL (isL (isT3 K isS isS isS)))) e117.g h43
        have o55 := o55.mono e117
        have h105 := Mono.mono (R := (isL (isL (isT3 K isS isS isS)))) e117.g h105
        by_cases hb150 : y115 = true
        · rw [if_pos hb150] at hq ⊢
          exact sv_ret (Er := Er) (R := sh isB) ev_bl (fun v118 W119 e120 h121 => hq v118 W119 (E0.trans e120) h121)
        · rw [if_neg hb150] at hq ⊢
          try dsimp only [tNext]
          have k_h43 := h43
          have k_E := E0
          refine sv_asgO_s (Er := Er) (i := 8) (σ' := fun p125 => [some v_l_script, some (.int y5), some (.int s32), some v42, some (.ref p46), d56, some v104, some (.str (sOf y108)), some (.ref p125)]) (ev_call1n (Hb := W116.H) (fun _ z => z) (ev_var (R := sh isS) (a := y108) (v := .str (sOf y108)) rfl)) ((Res.okE_bind hq).imp fun y124 hq p125 W122 e123 hp126 o127 => ?_)
          have fr128 := none_of E0.h hp126
          have E0 := E0.trans e123
          have h43 := Mono.mono (R := (isL (isL (isT3 K isS isS isS)))) e123.g h43
          have e_b := e123
          refine sv_if_s (Er := Er) (tv_lend o127 fun W129 hS130 h131 => (have h43 := Mono.mono (R := (isL (isL (isT3 K isS isS isS)))) hS130 h43; (tv_not (tv_b (ev_same2 (by decide) (ev_nwL (ev_var (R := sh (isL (nwL W116.H (isT3 K isS isS isS)))) h131)) (ev_var (R := sh (isL (isL (isT3 K isS isS isS)))) h43)))))) ((Res.okE_bind hq).imp fun y133 hq W134 e135 => ?_)
          have E0 := E0.trans e135
          have e_b := e_b.trans e135
          have h43 := Mono.mono (R := (isL (isL (isT3 K isS isS isS)))) e135.g h43
          have o127 := o127.mono e135
          by_cases hb150 : y133 = true
          · rw [if_pos hb150] at hq ⊢
            exact sv_ret (Er := Er) (R := sh isB) ev_bl (fun v136 W137 e138 h139 => hq v136 W137 (E0.trans e138) h139)
          · rw [if_neg hb150] at hq ⊢
            try dsimp only [tNext]
            refine sv_wreck (Er := Er) (P := fun _ => True) (Wq := W116) (R := (isT3 K isS isS isS)) (i := 8) (j := 5) (σ' := fun d140 => [some v_l_script, some (.int y5), some (.int s32), some v42, some (.ref p46), d140, some v104, some (.str (sOf y108)), some (.ref p125)]) e_b hp126 o127 ((Res.okE_bind hq).imp fun _ hq d140 W141 e142 => ?_)
            have k_h43 := Mono.mono (R := (isL (isL (isT3 K isS isS isS)))) e142.g k_h43
            have E0 := k_E.trans e142
            exact sv_ret (Er := Er) (R := sh isB) (ev_and (ev_same2 (by decide) (ev_nwL (EVo.ev (ev_call1n (Hb := W0.H) (fun _ z => none_of E0.h z) (ev_var (R := sh isS) (a := y108) (v := .str (sOf y108)) rfl)))) (ev_var (R := sh (isL (isL (isT3 K isS isS isS)))) k_h43)) (ev_sameS (by decide) (ev_call1 (ev_var (R := sh (isL (isL (isT3 K isS isS isS)))) k_h43)) (ev_var (R := sh isS) (a := y108) (v := .str (sOf y108)) rfl))) (Res.OkE.imp hq fun y146 hq v147 W148 e149 h150 => hq v147 W148 (E0.trans e149) h150)
end
end Wb
namespace Wb
open PySem L2
section
variable {P : Program} {w : World} {K : PySem.W.Frag} {mg : Str → Option Value} {base : Heap}
theorem ok_none {f : Addr} {fd : FuncData} {ps : List Str} {k : Nat} : FnOk P w K mg base CX0 k f fd ps (spSame2 K 0) := ⟨fun _ _ _ _ h => h.elim, fun _ _ _ _ _ _ _ _ _ _ _ _ _ h => h.elim⟩
theorem kit {K : PySem.W.Frag} (a b : String) (r : Bool) (h : PySem.W.kitOne [] (.type a) (.type b) = some r) : PySem.W.kitOne K (.type a) (.type b) = some r := by first | exact h | (rw [← h]; rfl)
theorem skip1 {c : TT} {t rest : TS} {D : Ends} {σ : St} {H : Hp} (h : ∀ Q : Bool → Hp → Prop, Q false H → c σ H Q) (k : rest D σ H) : tSeq (tIfS c t tNext) rest D σ H := h _ k
theorem take1 {c : TT} {t rest : TS} {D : Ends} {σ : St} {H : Hp} (h : ∀ Q : Bool → Hp → Prop, Q true H → c σ H Q) (k : t { D with nx := rest D } σ H) : tSeq (tIfS c t tNext) rest D σ H := h _ k
theorem ok_same1 {f : Addr} {fd : FuncData} (F : Fun K "_law_same" "_law_same" (tp 20) f fd) (h_len : mg "len" = none) (h_isinstance : mg "isinstance" = none) (h_bool : mg "bool" = none) (h_int : mg "int" = none) (h_str : mg "str" = none) (h_list : mg "list" = none) (h_tuple : mg "tuple" = none) (h_zip : mg "zip" = none) {n : Nat}
    (C__law_same : Cal P w K mg base "_law_same" ["_law_found", "_law_due"] n (spSame2 K n)) : FnOk P w K mg base CX0 (n + 1) f fd ["_law_found", "_law_due"] (spSame2 K (n + 1)) := by
  have SC : FnScope ["_law_found", "_law_due", "_law_one", "_law_other"] ["_law_found", "_law_due"] (defScope (tp 20)) := ⟨rfl, rfl, rfl, by decide +kernel, rfl, by decide +kernel, by decide +kernel⟩
  refine F.ok SC (fun vs H Q E h => ?_) (fun cdv A outer s H vs Q E hr h => ?_)
  · obtain ⟨v, u, rfl, _⟩ := h; rfl
  · obtain ⟨v, u, rfl, h⟩ := h
    have hr : Room n _ := hr
    refine ⟨_, (pss_cons (ps_if (PW.pt (pw_or (pt_cmpR (op_isN.or op_is_bl) (pv 1) pe_non (nomark _)) (pw_or (pt_cmpR (op_isN.or op_is_bl) (pv 1) pe_bl (nomark _)) (pw_or1 (pt_cmpR (op_isN.or op_is_bl) (pv 1) pe_bl (nomark _)))))) (pss_one (ps_ret (pe_and (pe_cmpR op_eq (pe_callB (call_isinstK (K := K) rfl) (by rfl) h_isinstance PyProof.Rows.boot_isinstance (pa_cons (pv 0) (pa_cons (pe_bltn (v := .ty "bool") (by rfl) h_bool PyProof.Rows.boot_bool rfl) pa_nil))) (pe_callB (call_isinstK (K := K) rfl) (by rfl) h_isinstance PyProof.Rows.boot_isinstance (pa_cons (pv 1) (pa_cons (pe_bltn (v := .ty "bool") (by rfl) h_bool PyProof.Rows.boot_bool rfl) pa_nil))) (nomark _)) (pe_one (pe_cmpR op_eq (pv 0) (pv 1) (nomark _)))))) pss_nil)
      (pss_cons (ps_if (pt_val (pe_callB (call_isinstK (K := K) rfl) (by rfl) h_isinstance PyProof.Rows.boot_isinstance (pa_cons (pv 1) (pa_cons (pe_bltn (v := .ty "int") (by rfl) h_int PyProof.Rows.boot_int rfl) pa_nil)))) (pss_one (ps_ret (pe_and (pe_callB (call_isinstK (K := K) rfl) (by rfl) h_isinstance PyProof.Rows.boot_isinstance (pa_cons (pv 0) (pa_cons (pe_bltn (v := .ty "int") (by rfl) h_int PyProof.Rows.boot_int rfl) pa_nil))) (pe_and (pe_not (pe_callB (call_isinstK (K := K) rfl) (by rfl) h_isinstance PyProof.Rows.boot_isinstance (pa_cons (pv 0) (pa_cons (pe_bltn (v := .ty "bool") (by rfl) h_bool PyProof.Rows.boot_bool rfl) pa_nil)))) (pe_one (pe_cmpR op_eq (pv 0) (pv 1) (nomark _))))))) pss_nil)
      (pss_cons (ps_if (pt_val (pe_callB (call_isinstK (K := K) rfl) (by rfl) h_isinstance PyProof.Rows.boot_isinstance (pa_cons (pv 1) (pa_cons (pe_bltn (v := .ty "str") (by rfl) h_str PyProof.Rows.boot_str rfl) pa_nil)))) (pss_one (ps_ret (pe_and (pe_callB (call_isinstK (K := K) rfl) (by rfl) h_isinstance PyProof.Rows.boot_isinstance (pa_cons (pv 0) (pa_cons (pe_bltn (v := .ty "str") (by rfl) h_str PyProof.Rows.boot_str rfl) pa_nil))) (pe_one (pe_cmpR op_eq (pv 0) (pv 1) (nomark _)))))) pss_nil)
      (pss_cons (ps_if (PW.pt (pw_and (pt_val (pe_callB (call_isinstK (K := K) rfl) (by rfl) h_isinstance PyProof.Rows.boot_isinstance (pa_cons (pv 1) (pa_cons (pe_bltn (v := .ty "list") (by rfl) h_list PyProof.Rows.boot_list rfl) pa_nil)))) (pw_and1 (pt_not (pt_val (pe_callB (call_isinstK (K := K) rfl) (by rfl) h_isinstance PyProof.Rows.boot_isinstance (pa_cons (pv 0) (pa_cons (pe_bltn (v := .ty "list") (by rfl) h_list PyProof.Rows.boot_list rfl) pa_nil)))))))) (pss_one (ps_ret pe_bl)) pss_nil)
      (pss_cons (ps_if (PW.pt (pw_and (pt_val (pe_callB (call_isinstK (K := K) rfl) (by rfl) h_isinstance PyProof.Rows.boot_isinstance (pa_cons (pv 1) (pa_cons (pe_bltn (v := .ty "tuple") (by rfl) h_tuple PyProof.Rows.boot_tuple rfl) pa_nil)))) (pw_and1 (pt_not (pt_val (pe_callB (call_isinstK (K := K) rfl) (by rfl) h_isinstance PyProof.Rows.boot_isinstance (pa_cons (pv 0) (pa_cons (pe_bltn (v := .ty "tuple") (by rfl) h_tuple PyProof.Rows.boot_tuple rfl) pa_nil)))))))) (pss_one (ps_ret pe_bl)) pss_nil)
      (pss_cons (ps_if (pt_cmpR op_ne (pe_callB (call_lenK (K := K) rfl) (by rfl) h_len PySem.boot_len (pa_cons (pv 0) pa_nil)) (pe_callB (call_lenK (K := K) rfl) (by rfl) h_len PySem.boot_len (pa_cons (pv 1) pa_nil)) (nomark _)) (pss_one (ps_ret pe_bl)) pss_nil)
      (pss_cons (ps_for PassesOwn.never rfl (pi_zipK (K := K) rfl rfl h_zip (pa_cons (pv 0) (pa_cons (pv 1) pa_nil))) (pg_tupK (K := K) (n := 2) rfl rfl (pgs_cons (pg_name (i := 2) SC.nd rfl (by first | exact Or.inl rfl | exact Or.inr rfl)) (pgs_cons (pg_name (i := 3) SC.nd rfl (by first | exact Or.inl rfl | exact Or.inr rfl)) pgs_nil))) (pss_one (ps_if (pt_not (pt_val (pe_cal C__law_same hr (by rfl) (pa_cons (pv 2) (pa_cons (pv 3) pa_nil))))) (pss_one (ps_ret pe_bl)) pss_nil)))
      (pss_one (ps_ret pe_bl))))))))), ?_⟩
    rcases h with ⟨he, q⟩ | ⟨x, y, rfl, rfl, q⟩
    rotate_left
    · refine skip1 (fun Q q => ?_) (skip1 (fun Q q => ?_) (take1 (fun Q q => ?_) ?_))
      · simp only [tTest, tOp, tVar, tC, tCB, tCons, tNil, tRet, tNext, tAsg, gName, gTup, gCons, gNil, tB, rI0, rI, tTup, tLst, tCall, tDrop, tIf, tAnd, tOr, tNot, tAndV, tOrV, tNotV, tBM, rIn, rEq, rNe, scal, rIxL, rIxT, rIxS, rAppend, L2.start, List.map_cons, List.map_nil, List.cons_append, List.nil_append, List.append_nil, List.length_cons, List.length_nil, List.replicate, List.set_cons_zero, List.set_cons_succ, List.getElem?_cons_zero, List.getElem?_cons_succ, Option.some.injEq, exists_eq_left', exists_eq_left, exists_and_left, exists_eq', exists_const, V.int.injEq, V.bl.injEq, V.str.injEq, V.ref.injEq, V.ty.injEq, List.cons.injEq, and_true, true_and, reduceCtorEq, false_and, and_false, exists_false, or_false, false_or, decide_eq_true_eq, Bool.not_eq_true', decide_eq_false_iff_not, if_true, if_false, Bool.false_eq_true, ite_true, ite_false, Bool.not_true, Bool.not_false, Nat.reduceAdd, Nat.reduceSub, and_assoc]; exact q
      · simp only [tTest, tOp, tVar, tC, tCB, tCons, tNil, tRet, tNext, tAsg, gName, gTup, gCons, gNil, tB, rI0, rI, tTup, tLst, tCall, tDrop, tIf, tAnd, tOr, tNot, tAndV, tOrV, tNotV, tBM, rIn, rEq, rNe, scal, rIxL, rIxT, rIxS, rAppend, L2.start, List.map_cons, List.map_nil, List.cons_append, List.nil_append, List.append_nil, List.length_cons, List.length_nil, List.replicate, List.set_cons_zero, List.set_cons_succ, List.getElem?_cons_zero, List.getElem?_cons_succ, Option.some.injEq, exists_eq_left', exists_eq_left, exists_and_left, exists_eq', exists_const, V.int.injEq, V.bl.injEq, V.str.injEq, V.ref.injEq, V.ty.injEq, List.cons.injEq, and_true, true_and, reduceCtorEq, false_and, and_false, exists_false, or_false, false_or, decide_eq_true_eq, Bool.not_eq_true', decide_eq_false_iff_not, if_true, if_false, Bool.false_eq_true, ite_true, ite_false, Bool.not_true, Bool.not_false, Nat.reduceAdd, Nat.reduceSub, and_assoc]; exact ⟨_, .str _, _, kit "str" "int" false rfl, q⟩
      · simp only [tTest, tOp, tVar, tC, tCB, tCons, tNil, tRet, tNext, tAsg, gName, gTup, gCons, gNil, tB, rI0, rI, tTup, tLst, tCall, tDrop, tIf, tAnd, tOr, tNot, tAndV, tOrV, tNotV, tBM, rIn, rEq, rNe, scal, rIxL, rIxT, rIxS, rAppend, L2.start, List.map_cons, List.map_nil, List.cons_append, List.nil_append, List.append_nil, List.length_cons, List.length_nil, List.replicate, List.set_cons_zero, List.set_cons_succ, List.getElem?_cons_zero, List.getElem?_cons_succ, Option.some.injEq, exists_eq_left', exists_eq_left, exists_and_left, exists_eq', exists_const, V.int.injEq, V.bl.injEq, V.str.injEq, V.ref.injEq, V.ty.injEq, List.cons.injEq, and_true, true_and, reduceCtorEq, false_and, and_false, exists_false, or_false, false_or, decide_eq_true_eq, Bool.not_eq_true', decide_eq_false_iff_not, if_true, if_false, Bool.false_eq_true, ite_true, ite_false, Bool.not_true, Bool.not_false, Nat.reduceAdd, Nat.reduceSub, and_assoc]; exact ⟨_, .str _, _, kit "str" "str" true rfl, q⟩
      · simp only [tTest, tOp, tVar, tC, tCB, tCons, tNil, tRet, tNext, tAsg, gName, gTup, gCons, gNil, tB, rI0, rI, tTup, tLst, tCall, tDrop, tIf, tAnd, tOr, tNot, tAndV, tOrV, tNotV, tBM, rIn, rEq, rNe, scal, rIxL, rIxT, rIxS, rAppend, L2.start, List.map_cons, List.map_nil, List.cons_append, List.nil_append, List.append_nil, List.length_cons, List.length_nil, List.replicate, List.set_cons_zero, List.set_cons_succ, List.getElem?_cons_zero, List.getElem?_cons_succ, Option.some.injEq, exists_eq_left', exists_eq_left, exists_and_left, exists_eq', exists_const, V.int.injEq, V.bl.injEq, V.str.injEq, V.ref.injEq, V.ty.injEq, List.cons.injEq, and_true, true_and, reduceCtorEq, false_and, and_false, exists_false, or_false, false_or, decide_eq_true_eq, Bool.not_eq_true', decide_eq_false_iff_not, if_true, if_false, Bool.false_eq_true, ite_true, ite_false, Bool.not_true, Bool.not_false, Nat.reduceAdd, Nat.reduceSub, and_assoc]
        refine ⟨_, .str _, _, kit "str" "str" true rfl, ?_⟩
        simp only [tTest, tOp, tVar, tC, tCB, tCons, tNil, tRet, tNext, tAsg, gName, gTup, gCons, gNil, tB, rI0, rI, tTup, tLst, tCall, tDrop, tIf, tAnd, tOr, tNot, tAndV, tOrV, tNotV, tBM, rIn, rEq, rNe, scal, rIxL, rIxT, rIxS, rAppend, L2.start, List.map_cons, List.map_nil, List.cons_append, List.nil_append, List.append_nil, List.length_cons, List.length_nil, List.replicate, List.set_cons_zero, List.set_cons_succ, List.getElem?_cons_zero, List.getElem?_cons_succ, Option.some.injEq, exists_eq_left', exists_eq_left, exists_and_left, exists_eq', exists_const, V.int.injEq, V.bl.injEq, V.str.injEq, V.ref.injEq, V.ty.injEq, List.cons.injEq, and_true, true_and, reduceCtorEq, false_and, and_false, exists_false, or_false, false_or, decide_eq_true_eq, Bool.not_eq_true', decide_eq_false_iff_not, if_true, if_false, Bool.false_eq_true, ite_true, ite_false, Bool.not_true, Bool.not_false, Nat.reduceAdd, Nat.reduceSub, and_assoc]
        simpa using q
    have fl : ∀ v, L2.flat v = true → (∀ H', Same H H' → Q (.bl true) H') → (v = .non ∨ (∃ b, v = .bl b) ∨ (∃ i, v = .int i) ∨ ∃ x, v = .str x) := fun v hv _ => by
      cases v with
      | non => exact .inl rfl
      | bl b => exact .inr (.inl ⟨b, rfl⟩)
      | int b => exact .inr (.inr (.inl ⟨b, rfl⟩))
      | str b => exact .inr (.inr (.inr ⟨b, rfl⟩))
      | _ => cases hv
    have he' : (v = u ∧ L2.flat v = true) ∨ ∃ m p q xs ys, n = m + 1 ∧ v = .ref p ∧ u = .ref q ∧ ((H p = some (.lst xs) ∧ H q = some (.lst ys)) ∨ (SqT K H p xs ∧ SqT K H q ys)) ∧ xs.length = ys.length ∧ ∀ (i : Nat) (x y : V), xs[i]? = some x → ys[i]? = some y → EqK K H m x y := by
      cases n with
      | zero => exact .inl he
      | succ m => rcases he with z | ⟨p, q, xs, ys, z⟩; exact .inl z; exact .inr ⟨m, p, q, xs, ys, rfl, z⟩
    rcases he' with ⟨rfl, hf⟩ | ⟨m, p, q', xs, ys, hnm, rfl, rfl, hk, hl, hi⟩
    · rcases fl v hf q with rfl | ⟨b, rfl⟩ | ⟨i, rfl⟩ | ⟨x, rfl⟩
      · refine take1 (fun Q q => ?_) ?_
        · simp only [tTest, tOp, tVar, tC, tCB, tCons, tNil, tRet, tNext, tAsg, gName, gTup, gCons, gNil, tB, rI0, rI, tTup, tLst, tCall, tDrop, tIf, tAnd, tOr, tNot, tAndV, tOrV, tNotV, tBM, rIn, rEq, rNe, scal, rIxL, rIxT, rIxS, rAppend, L2.start, List.map_cons, List.map_nil, List.cons_append, List.nil_append, List.append_nil, List.length_cons, List.length_nil, List.replicate, List.set_cons_zero, List.set_cons_succ, List.getElem?_cons_zero, List.getElem?_cons_succ, Option.some.injEq, exists_eq_left', exists_eq_left, exists_and_left, exists_eq', exists_const, V.int.injEq, V.bl.injEq, V.str.injEq, V.ref.injEq, V.ty.injEq, List.cons.injEq, and_true, true_and, reduceCtorEq, false_and, and_false, exists_false, or_false, false_or, decide_eq_true_eq, Bool.not_eq_true', decide_eq_false_iff_not, if_true, if_false, Bool.false_eq_true, ite_true, ite_false, Bool.not_true, Bool.not_false, Nat.reduceAdd, Nat.reduceSub, and_assoc]; exact q
        · simp only [tTest, tOp, tVar, tC, tCB, tCons, tNil, tRet, tNext, tAsg, gName, gTup, gCons, gNil, tB, rI0, rI, tTup, tLst, tCall, tDrop, tIf, tAnd, tOr, tNot, tAndV, tOrV, tNotV, tBM, rIn, rEq, rNe, scal, rIxL, rIxT, rIxS, rAppend, L2.start, List.map_cons, List.map_nil, List.cons_append, List.nil_append, List.append_nil, List.length_cons, List.length_nil, List.replicate, List.set_cons_zero, List.set_cons_succ, List.getElem?_cons_zero, List.getElem?_cons_succ, Option.some.injEq, exists_eq_left', exists_eq_left, exists_and_left, exists_eq', exists_const, V.int.injEq, V.bl.injEq, V.str.injEq, V.ref.injEq, V.ty.injEq, List.cons.injEq, and_true, true_and, reduceCtorEq, false_and, and_false, exists_false, or_false, false_or, decide_eq_true_eq, Bool.not_eq_true', decide_eq_false_iff_not, if_true, if_false, Bool.false_eq_true, ite_true, ite_false, Bool.not_true, Bool.not_false, Nat.reduceAdd, Nat.reduceSub, and_assoc]
          refine ⟨_, .non, _, kit "NoneType" "bool" false rfl, _, .non, _, kit "NoneType" "bool" false rfl, ?_⟩
          simp only [tTest, tOp, tVar, tC, tCB, tCons, tNil, tRet, tNext, tAsg, gName, gTup, gCons, gNil, tB, rI0, rI, tTup, tLst, tCall, tDrop, tIf, tAnd, tOr, tNot, tAndV, tOrV, tNotV, tBM, rIn, rEq, rNe, scal, rIxL, rIxT, rIxS, rAppend, L2.start, List.map_cons, List.map_nil, List.cons_append, List.nil_append, List.append_nil, List.length_cons, List.length_nil, List.replicate, List.set_cons_zero, List.set_cons_succ, List.getElem?_cons_zero, List.getElem?_cons_succ, Option.some.injEq, exists_eq_left', exists_eq_left, exists_and_left, exists_eq', exists_const, V.int.injEq, V.bl.injEq, V.str.injEq, V.ref.injEq, V.ty.injEq, List.cons.injEq, and_true, true_and, reduceCtorEq, false_and, and_false, exists_false, or_false, false_or, decide_eq_true_eq, Bool.not_eq_true', decide_eq_false_iff_not, if_true, if_false, Bool.false_eq_true, ite_true, ite_false, Bool.not_true, Bool.not_false, Nat.reduceAdd, Nat.reduceSub, and_assoc]
          exact q H (.refl H)
      · refine take1 (fun Q q => ?_) ?_
        · cases b <;> simp only [tTest, tOp, tVar, tC, tCB, tCons, tNil, tRet, tNext, tAsg, gName, gTup, gCons, gNil, tB, rI0, rI, tTup, tLst, tCall, tDrop, tIf, tAnd, tOr, tNot, tAndV, tOrV, tNotV, tBM, rIn, rEq, rNe, scal, rIxL, rIxT, rIxS, rAppend, L2.start, List.map_cons, List.map_nil, List.cons_append, List.nil_append, List.append_nil, List.length_cons, List.length_nil, List.replicate, List.set_cons_zero, List.set_cons_succ, List.getElem?_cons_zero, List.getElem?_cons_succ, Option.some.injEq, exists_eq_left', exists_eq_left, exists_and_left, exists_eq', exists_const, V.int.injEq, V.bl.injEq, V.str.injEq, V.ref.injEq, V.ty.injEq, List.cons.injEq, and_true, true_and, reduceCtorEq, false_and, and_false, exists_false, or_false, false_or, decide_eq_true_eq, Bool.not_eq_true', decide_eq_false_iff_not, if_true, if_false, Bool.false_eq_true, ite_true, ite_false, Bool.not_true, Bool.not_false, Nat.reduceAdd, Nat.reduceSub, and_assoc] <;> exact q
        · simp only [tTest, tOp, tVar, tC, tCB, tCons, tNil, tRet, tNext, tAsg, gName, gTup, gCons, gNil, tB, rI0, rI, tTup, tLst, tCall, tDrop, tIf, tAnd, tOr, tNot, tAndV, tOrV, tNotV, tBM, rIn, rEq, rNe, scal, rIxL, rIxT, rIxS, rAppend, L2.start, List.map_cons, List.map_nil, List.cons_append, List.nil_append, List.append_nil, List.length_cons, List.length_nil, List.replicate, List.set_cons_zero, List.set_cons_succ, List.getElem?_cons_zero, List.getElem?_cons_succ, Option.some.injEq, exists_eq_left', exists_eq_left, exists_and_left, exists_eq', exists_const, V.int.injEq, V.bl.injEq, V.str.injEq, V.ref.injEq, V.ty.injEq, List.cons.injEq, and_true, true_and, reduceCtorEq, false_and, and_false, exists_false, or_false, false_or, decide_eq_true_eq, Bool.not_eq_true', decide_eq_false_iff_not, if_true, if_false, Bool.false_eq_true, ite_true, ite_false, Bool.not_true, Bool.not_false, Nat.reduceAdd, Nat.reduceSub, and_assoc]
          refine ⟨_, .bl _, _, kit "bool" "bool" true rfl, _, .bl _, _, kit "bool" "bool" true rfl, ?_⟩
          simp only [tTest, tOp, tVar, tC, tCB, tCons, tNil, tRet, tNext, tAsg, gName, gTup, gCons, gNil, tB, rI0, rI, tTup, tLst, tCall, tDrop, tIf, tAnd, tOr, tNot, tAndV, tOrV, tNotV, tBM, rIn, rEq, rNe, scal, rIxL, rIxT, rIxS, rAppend, L2.start, List.map_cons, List.map_nil, List.cons_append, List.nil_append, List.append_nil, List.length_cons, List.length_nil, List.replicate, List.set_cons_zero, List.set_cons_succ, List.getElem?_cons_zero, List.getElem?_cons_succ, Option.some.injEq, exists_eq_left', exists_eq_left, exists_and_left, exists_eq', exists_const, V.int.injEq, V.bl.injEq, V.str.injEq, V.ref.injEq, V.ty.injEq, List.cons.injEq, and_true, true_and, reduceCtorEq, false_and, and_false, exists_false, or_false, false_or, decide_eq_true_eq, Bool.not_eq_true', decide_eq_false_iff_not, if_true, if_false, Bool.false_eq_true, ite_true, ite_false, Bool.not_true, Bool.not_false, Nat.reduceAdd, Nat.reduceSub, and_assoc]
          exact q H (.refl H)
      · refine skip1 (fun Q q => ?_) (take1 (fun Q q => ?_) ?_)
        · simp only [tTest, tOp, tVar, tC, tCB, tCons, tNil, tRet, tNext, tAsg, gName, gTup, gCons, gNil, tB, rI0, rI, tTup, tLst, tCall, tDrop, tIf, tAnd, tOr, tNot, tAndV, tOrV, tNotV, tBM, rIn, rEq, rNe, scal, rIxL, rIxT, rIxS, rAppend, L2.start, List.map_cons, List.map_nil, List.cons_append, List.nil_append, List.append_nil, List.length_cons, List.length_nil, List.replicate, List.set_cons_zero, List.set_cons_succ, List.getElem?_cons_zero, List.getElem?_cons_succ, Option.some.injEq, exists_eq_left', exists_eq_left, exists_and_left, exists_eq', exists_const, V.int.injEq, V.bl.injEq, V.str.injEq, V.ref.injEq, V.ty.injEq, List.cons.injEq, and_true, true_and, reduceCtorEq, false_and, and_false, exists_false, or_false, false_or, decide_eq_true_eq, Bool.not_eq_true', decide_eq_false_iff_not, if_true, if_false, Bool.false_eq_true, ite_true, ite_false, Bool.not_true, Bool.not_false, Nat.reduceAdd, Nat.reduceSub, and_assoc]; exact q
        · simp only [tTest, tOp, tVar, tC, tCB, tCons, tNil, tRet, tNext, tAsg, gName, gTup, gCons, gNil, tB, rI0, rI, tTup, tLst, tCall, tDrop, tIf, tAnd, tOr, tNot, tAndV, tOrV, tNotV, tBM, rIn, rEq, rNe, scal, rIxL, rIxT, rIxS, rAppend, L2.start, List.map_cons, List.map_nil, List.cons_append, List.nil_append, List.append_nil, List.length_cons, List.length_nil, List.replicate, List.set_cons_zero, List.set_cons_succ, List.getElem?_cons_zero, List.getElem?_cons_succ, Option.some.injEq, exists_eq_left', exists_eq_left, exists_and_left, exists_eq', exists_const, V.int.injEq, V.bl.injEq, V.str.injEq, V.ref.injEq, V.ty.injEq, List.cons.injEq, and_true, true_and, reduceCtorEq, false_and, and_false, exists_false, or_false, false_or, decide_eq_true_eq, Bool.not_eq_true', decide_eq_false_iff_not, if_true, if_false, Bool.false_eq_true, ite_true, ite_false, Bool.not_true, Bool.not_false, Nat.reduceAdd, Nat.reduceSub, and_assoc]; exact ⟨_, .int _, _, kit "int" "int" true rfl, q⟩
        · simp only [tTest, tOp, tVar, tC, tCB, tCons, tNil, tRet, tNext, tAsg, gName, gTup, gCons, gNil, tB, rI0, rI, tTup, tLst, tCall, tDrop, tIf, tAnd, tOr, tNot, tAndV, tOrV, tNotV, tBM, rIn, rEq, rNe, scal, rIxL, rIxT, rIxS, rAppend, L2.start, List.map_cons, List.map_nil, List.cons_append, List.nil_append, List.append_nil, List.length_cons, List.length_nil, List.replicate, List.set_cons_zero, List.set_cons_succ, List.getElem?_cons_zero, List.getElem?_cons_succ, Option.some.injEq, exists_eq_left', exists_eq_left, exists_and_left, exists_eq', exists_const, V.int.injEq, V.bl.injEq, V.str.injEq, V.ref.injEq, V.ty.injEq, List.cons.injEq, and_true, true_and, reduceCtorEq, false_and, and_false, exists_false, or_false, false_or, decide_eq_true_eq, Bool.not_eq_true', decide_eq_false_iff_not, if_true, if_false, Bool.false_eq_true, ite_true, ite_false, Bool.not_true, Bool.not_false, Nat.reduceAdd, Nat.reduceSub, and_assoc]
          refine ⟨_, .int _, _, kit "int" "int" true rfl, ?_⟩
          simp only [tTest, tOp, tVar, tC, tCB, tCons, tNil, tRet, tNext, tAsg, gName, gTup, gCons, gNil, tB, rI0, rI, tTup, tLst, tCall, tDrop, tIf, tAnd, tOr, tNot, tAndV, tOrV, tNotV, tBM, rIn, rEq, rNe, scal, rIxL, rIxT, rIxS, rAppend, L2.start, List.map_cons, List.map_nil, List.cons_append, List.nil_append, List.append_nil, List.length_cons, List.length_nil, List.replicate, List.set_cons_zero, List.set_cons_succ, List.getElem?_cons_zero, List.getElem?_cons_succ, Option.some.injEq, exists_eq_left', exists_eq_left, exists_and_left, exists_eq', exists_const, V.int.injEq, V.bl.injEq, V.str.injEq, V.ref.injEq, V.ty.injEq, List.cons.injEq, and_true, true_and, reduceCtorEq, false_and, and_false, exists_false, or_false, false_or, decide_eq_true_eq, Bool.not_eq_true', decide_eq_false_iff_not, if_true, if_false, Bool.false_eq_true, ite_true, ite_false, Bool.not_true, Bool.not_false, Nat.reduceAdd, Nat.reduceSub, and_assoc]
          refine ⟨_, .int _, _, kit "int" "bool" false rfl, ?_⟩
          simp only [tTest, tOp, tVar, tC, tCB, tCons, tNil, tRet, tNext, tAsg, gName, gTup, gCons, gNil, tB, rI0, rI, tTup, tLst, tCall, tDrop, tIf, tAnd, tOr, tNot, tAndV, tOrV, tNotV, tBM, rIn, rEq, rNe, scal, rIxL, rIxT, rIxS, rAppend, L2.start, List.map_cons, List.map_nil, List.cons_append, List.nil_append, List.append_nil, List.length_cons, List.length_nil, List.replicate, List.set_cons_zero, List.set_cons_succ, List.getElem?_cons_zero, List.getElem?_cons_succ, Option.some.injEq, exists_eq_left', exists_eq_left, exists_and_left, exists_eq', exists_const, V.int.injEq, V.bl.injEq, V.str.injEq, V.ref.injEq, V.ty.injEq, List.cons.injEq, and_true, true_and, reduceCtorEq, false_and, and_false, exists_false, or_false, false_or, decide_eq_true_eq, Bool.not_eq_true', decide_eq_false_iff_not, if_true, if_false, Bool.false_eq_true, ite_true, ite_false, Bool.not_true, Bool.not_false, Nat.reduceAdd, Nat.reduceSub, and_assoc]
          exact q H (.refl H)
      · refine skip1 (fun Q q => ?_) (skip1 (fun Q q => ?_) (take1 (fun Q q => ?_) ?_))
        · simp only [tTest, tOp, tVar, tC, tCB, tCons, tNil, tRet, tNext, tAsg, gName, gTup, gCons, gNil, tB, rI0, rI, tTup, tLst, tCall, tDrop, tIf, tAnd, tOr, tNot, tAndV, tOrV, tNotV, tBM, rIn, rEq, rNe, scal, rIxL, rIxT, rIxS, rAppend, L2.start, List.map_cons, List.map_nil, List.cons_append, List.nil_append, List.append_nil, List.length_cons, List.length_nil, List.replicate, List.set_cons_zero, List.set_cons_succ, List.getElem?_cons_zero, List.getElem?_cons_succ, Option.some.injEq, exists_eq_left', exists_eq_left, exists_and_left, exists_eq', exists_const, V.int.injEq, V.bl.injEq, V.str.injEq, V.ref.injEq, V.ty.injEq, List.cons.injEq, and_true, true_and, reduceCtorEq, false_and, and_false, exists_false, or_false, false_or, decide_eq_true_eq, Bool.not_eq_true', decide_eq_false_iff_not, if_true, if_false, Bool.false_eq_true, ite_true, ite_false, Bool.not_true, Bool.not_false, Nat.reduceAdd, Nat.reduceSub, and_assoc]; exact q
        · simp only [tTest, tOp, tVar, tC, tCB, tCons, tNil, tRet, tNext, tAsg, gName, gTup, gCons, gNil, tB, rI0, rI, tTup, tLst, tCall, tDrop, tIf, tAnd, tOr, tNot, tAndV, tOrV, tNotV, tBM, rIn, rEq, rNe, scal, rIxL, rIxT, rIxS, rAppend, L2.start, List.map_cons, List.map_nil, List.cons_append, List.nil_append, List.append_nil, List.length_cons, List.length_nil, List.replicate, List.set_cons_zero, List.set_cons_succ, List.getElem?_cons_zero, List.getElem?_cons_succ, Option.some.injEq, exists_eq_left', exists_eq_left, exists_and_left, exists_eq', exists_const, V.int.injEq, V.bl.injEq, V.str.injEq, V.ref.injEq, V.ty.injEq, List.cons.injEq, and_true, true_and, reduceCtorEq, false_and, and_false, exists_false, or_false, false_or, decide_eq_true_eq, Bool.not_eq_true', decide_eq_false_iff_not, if_true, if_false, Bool.false_eq_true, ite_true, ite_false, Bool.not_true, Bool.not_false, Nat.reduceAdd, Nat.reduceSub, and_assoc]; exact ⟨_, .str _, _, kit "str" "int" false rfl, q⟩
        · simp only [tTest, tOp, tVar, tC, tCB, tCons, tNil, tRet, tNext, tAsg, gName, gTup, gCons, gNil, tB, rI0, rI, tTup, tLst, tCall, tDrop, tIf, tAnd, tOr, tNot, tAndV, tOrV, tNotV, tBM, rIn, rEq, rNe, scal, rIxL, rIxT, rIxS, rAppend, L2.start, List.map_cons, List.map_nil, List.cons_append, List.nil_append, List.append_nil, List.length_cons, List.length_nil, List.replicate, List.set_cons_zero, List.set_cons_succ, List.getElem?_cons_zero, List.getElem?_cons_succ, Option.some.injEq, exists_eq_left', exists_eq_left, exists_and_left, exists_eq', exists_const, V.int.injEq, V.bl.injEq, V.str.injEq, V.ref.injEq, V.ty.injEq, List.cons.injEq, and_true, true_and, reduceCtorEq, false_and, and_false, exists_false, or_false, false_or, decide_eq_true_eq, Bool.not_eq_true', decide_eq_false_iff_not, if_true, if_false, Bool.false_eq_true, ite_true, ite_false, Bool.not_true, Bool.not_false, Nat.reduceAdd, Nat.reduceSub, and_assoc]; exact ⟨_, .str _, _, kit "str" "str" true rfl, q⟩
        · simp only [tTest, tOp, tVar, tC, tCB, tCons, tNil, tRet, tNext, tAsg, gName, gTup, gCons, gNil, tB, rI0, rI, tTup, tLst, tCall, tDrop, tIf, tAnd, tOr, tNot, tAndV, tOrV, tNotV, tBM, rIn, rEq, rNe, scal, rIxL, rIxT, rIxS, rAppend, L2.start, List.map_cons, List.map_nil, List.cons_append, List.nil_append, List.append_nil, List.length_cons, List.length_nil, List.replicate, List.set_cons_zero, List.set_cons_succ, List.getElem?_cons_zero, List.getElem?_cons_succ, Option.some.injEq, exists_eq_left', exists_eq_left, exists_and_left, exists_eq', exists_const, V.int.injEq, V.bl.injEq, V.str.injEq, V.ref.injEq, V.ty.injEq, List.cons.injEq, and_true, true_and, reduceCtorEq, false_and, and_false, exists_false, or_false, false_or, decide_eq_true_eq, Bool.not_eq_true', decide_eq_false_iff_not, if_true, if_false, Bool.false_eq_true, ite_true, ite_false, Bool.not_true, Bool.not_false, Nat.reduceAdd, Nat.reduceSub, and_assoc]
          refine ⟨_, .str _, _, kit "str" "str" true rfl, ?_⟩
          simp only [tTest, tOp, tVar, tC, tCB, tCons, tNil, tRet, tNext, tAsg, gName, gTup, gCons, gNil, tB, rI0, rI, tTup, tLst, tCall, tDrop, tIf, tAnd, tOr, tNot, tAndV, tOrV, tNotV, tBM, rIn, rEq, rNe, scal, rIxL, rIxT, rIxS, rAppend, L2.start, List.map_cons, List.map_nil, List.cons_append, List.nil_append, List.append_nil, List.length_cons, List.length_nil, List.replicate, List.set_cons_zero, List.set_cons_succ, List.getElem?_cons_zero, List.getElem?_cons_succ, Option.some.injEq, exists_eq_left', exists_eq_left, exists_and_left, exists_eq', exists_const, V.int.injEq, V.bl.injEq, V.str.injEq, V.ref.injEq, V.ty.injEq, List.cons.injEq, and_true, true_and, reduceCtorEq, false_and, and_false, exists_false, or_false, false_or, decide_eq_true_eq, Bool.not_eq_true', decide_eq_false_iff_not, if_true, if_false, Bool.false_eq_true, ite_true, ite_false, Bool.not_true, Bool.not_false, Nat.reduceAdd, Nat.reduceSub, and_assoc]
          exact q H (.refl H)
    · subst hnm
      obtain ⟨T, tp1, tp2, tl, src1, src2, h1, h2, e1, e2⟩ : ∃ (T : String) (tp1 : TyOf K H (.ref p) (.type T)) (tp2 : TyOf K H (.ref q') (.type T)) (tl : (T = "list" ∧ SqL K H p xs ∧ SqL K H q' ys) ∨ (T = "tuple" ∧ SqT K H p xs ∧ SqT K H q' ys)) (src1 src2 : Src), (∀ H', Same H H' → src1.has K H' xs) ∧ (∀ H', Same H H' → src2.has K H' ys) ∧ src1.val = .ref p ∧ src2.val = .ref q' := by
        rcases hk with ⟨a, b⟩ | ⟨a, b⟩
        · exact ⟨"list", .lst a, .lst b, .inl ⟨rfl, SqL.of a, SqL.of b⟩, .lst p, .lst q', fun H' e => SqL.of (e _ _ a), fun H' e => SqL.of (e _ _ b), rfl, rfl⟩
        · exact ⟨"tuple", .tup a, .tup b, .inr ⟨rfl, a, b⟩, .tup p, .tup q', fun H' e => Same.tup e a, fun H' e => Same.tup e b, rfl, rfl⟩
      have hi0 : PySem.W.kitOne K (.type T) (.type "int") = some false := by rcases tl with ⟨rfl, _⟩ | ⟨rfl, _⟩; exact kit _ _ _ rfl; exact kit _ _ _ rfl
      have hs0 : PySem.W.kitOne K (.type T) (.type "str") = some false := by rcases tl with ⟨rfl, _⟩ | ⟨rfl, _⟩; exact kit _ _ _ rfl; exact kit _ _ _ rfl
      obtain ⟨bl, hl0, hl1⟩ : ∃ bl, PySem.W.kitOne K (.type T) (.type "list") = some bl ∧ PySem.W.kitOne K (.type T) (.type "tuple") = some (!bl) := by rcases tl with ⟨rfl, _⟩ | ⟨rfl, _⟩; exact ⟨true, kit _ _ _ rfl, kit _ _ _ rfl⟩; exact ⟨false, kit _ _ _ rfl, kit _ _ _ rfl⟩
      have ln1 : LenV K (.ref p) H xs.length := by rcases tl with ⟨_, t1, _⟩ | ⟨_, t1, _⟩; exact .inl ⟨_, t1, rfl⟩; exact .inr ⟨_, t1, rfl⟩
      have ln2 : LenV K (.ref q') H ys.length := by rcases tl with ⟨_, _, t2⟩ | ⟨_, _, t2⟩; exact .inl ⟨_, t2, rfl⟩; exact .inr ⟨_, t2, rfl⟩
      refine skip1 (fun Q q => ?_) (skip1 (fun Q q => ?_) (skip1 (fun Q q => ?_) (skip1 (fun Q q => ?_) (skip1 (fun Q q => ?_) (skip1 (fun Q q => ?_) ?_)))))
      · simp only [tTest, tOp, tVar, tC, tCB, tCons, tNil, tRet, tNext, tAsg, gName, gTup, gCons, gNil, tB, rI0, rI, tTup, tLst, tCall, tDrop, tIf, tAnd, tOr, tNot, tAndV, tOrV, tNotV, tBM, rIn, rEq, rNe, scal, rIxL, rIxT, rIxS, rAppend, L2.start, List.map_cons, List.map_nil, List.cons_append, List.nil_append, List.append_nil, List.length_cons, List.length_nil, List.replicate, List.set_cons_zero, List.set_cons_succ, List.getElem?_cons_zero, List.getElem?_cons_succ, Option.some.injEq, exists_eq_left', exists_eq_left, exists_and_left, exists_eq', exists_const, V.int.injEq, V.bl.injEq, V.str.injEq, V.ref.injEq, V.ty.injEq, List.cons.injEq, and_true, true_and, reduceCtorEq, false_and, and_false, exists_false, or_false, false_or, decide_eq_true_eq, Bool.not_eq_true', decide_eq_false_iff_not, if_true, if_false, Bool.false_eq_true, ite_true, ite_false, Bool.not_true, Bool.not_false, Nat.reduceAdd, Nat.reduceSub, and_assoc]; exact q
      · simp only [tTest, tOp, tVar, tC, tCB, tCons, tNil, tRet, tNext, tAsg, gName, gTup, gCons, gNil, tB, rI0, rI, tTup, tLst, tCall, tDrop, tIf, tAnd, tOr, tNot, tAndV, tOrV, tNotV, tBM, rIn, rEq, rNe, scal, rIxL, rIxT, rIxS, rAppend, L2.start, List.map_cons, List.map_nil, List.cons_append, List.nil_append, List.append_nil, List.length_cons, List.length_nil, List.replicate, List.set_cons_zero, List.set_cons_succ, List.getElem?_cons_zero, List.getElem?_cons_succ, Option.some.injEq, exists_eq_left', exists_eq_left, exists_and_left, exists_eq', exists_const, V.int.injEq, V.bl.injEq, V.str.injEq, V.ref.injEq, V.ty.injEq, List.cons.injEq, and_true, true_and, reduceCtorEq, false_and, and_false, exists_false, or_false, false_or, decide_eq_true_eq, Bool.not_eq_true', decide_eq_false_iff_not, if_true, if_false, Bool.false_eq_true, ite_true, ite_false, Bool.not_true, Bool.not_false, Nat.reduceAdd, Nat.reduceSub, and_assoc]; exact ⟨_, tp2, _, hi0, q⟩
      · simp only [tTest, tOp, tVar, tC, tCB, tCons, tNil, tRet, tNext, tAsg, gName, gTup, gCons, gNil, tB, rI0, rI, tTup, tLst, tCall, tDrop, tIf, tAnd, tOr, tNot, tAndV, tOrV, tNotV, tBM, rIn, rEq, rNe, scal, rIxL, rIxT, rIxS, rAppend, L2.start, List.map_cons, List.map_nil, List.cons_append, List.nil_append, List.append_nil, List.length_cons, List.length_nil, List.replicate, List.set_cons_zero, List.set_cons_succ, List.getElem?_cons_zero, List.getElem?_cons_succ, Option.some.injEq, exists_eq_left', exists_eq_left, exists_and_left, exists_eq', exists_const, V.int.injEq, V.bl.injEq, V.str.injEq, V.ref.injEq, V.ty.injEq, List.cons.injEq, and_true, true_and, reduceCtorEq, false_and, and_false, exists_false, or_false, false_or, decide_eq_true_eq, Bool.not_eq_true', decide_eq_false_iff_not, if_true, if_false, Bool.false_eq_true, ite_true, ite_false, Bool.not_true, Bool.not_false, Nat.reduceAdd, Nat.reduceSub, and_assoc]; exact ⟨_, tp2, _, hs0, q⟩
      · simp only [tTest, tOp, tVar, tC, tCB, tCons, tNil, tRet, tNext, tAsg, gName, gTup, gCons, gNil, tB, rI0, rI, tTup, tLst, tCall, tDrop, tIf, tAnd, tOr, tNot, tAndV, tOrV, tNotV, tBM, rIn, rEq, rNe, scal, rIxL, rIxT, rIxS, rAppend, L2.start, List.map_cons, List.map_nil, List.cons_append, List.nil_append, List.append_nil, List.length_cons, List.length_nil, List.replicate, List.set_cons_zero, List.set_cons_succ, List.getElem?_cons_zero, List.getElem?_cons_succ, Option.some.injEq, exists_eq_left', exists_eq_left, exists_and_left, exists_eq', exists_const, V.int.injEq, V.bl.injEq, V.str.injEq, V.ref.injEq, V.ty.injEq, List.cons.injEq, and_true, true_and, reduceCtorEq, false_and, and_false, exists_false, or_false, false_or, decide_eq_true_eq, Bool.not_eq_true', decide_eq_false_iff_not, if_true, if_false, Bool.false_eq_true, ite_true, ite_false, Bool.not_true, Bool.not_false, Nat.reduceAdd, Nat.reduceSub, and_assoc]
        refine ⟨_, tp2, _, hl0, ?_⟩
        cases bl with
        | false => exact q
        | true => simp only [tTest, tOp, tVar, tC, tCB, tCons, tNil, tRet, tNext, tAsg, gName, gTup, gCons, gNil, tB, rI0, rI, tTup, tLst, tCall, tDrop, tIf, tAnd, tOr, tNot, tAndV, tOrV, tNotV, tBM, rIn, rEq, rNe, scal, rIxL, rIxT, rIxS, rAppend, L2.start, List.map_cons, List.map_nil, List.cons_append, List.nil_append, List.append_nil, List.length_cons, List.length_nil, List.replicate, List.set_cons_zero, List.set_cons_succ, List.getElem?_cons_zero, List.getElem?_cons_succ, Option.some.injEq, exists_eq_left', exists_eq_left, exists_and_left, exists_eq', exists_const, V.int.injEq, V.bl.injEq, V.str.injEq, V.ref.injEq, V.ty.injEq, List.cons.injEq, and_true, true_and, reduceCtorEq, false_and, and_false, exists_false, or_false, false_or, decide_eq_true_eq, Bool.not_eq_true', decide_eq_false_iff_not, if_true, if_false, Bool.false_eq_true, ite_true, ite_false, Bool.not_true, Bool.not_false, Nat.reduceAdd, Nat.reduceSub, and_assoc]; exact ⟨_, tp1, _, hl0, q⟩
      · simp only [tTest, tOp, tVar, tC, tCB, tCons, tNil, tRet, tNext, tAsg, gName, gTup, gCons, gNil, tB, rI0, rI, tTup, tLst, tCall, tDrop, tIf, tAnd, tOr, tNot, tAndV, tOrV, tNotV, tBM, rIn, rEq, rNe, scal, rIxL, rIxT, rIxS, rAppend, L2.start, List.map_cons, List.map_nil, List.cons_append, List.nil_append, List.append_nil, List.length_cons, List.length_nil, List.replicate, List.set_cons_zero, List.set_cons_succ, List.getElem?_cons_zero, List.getElem?_cons_succ, Option.some.injEq, exists_eq_left', exists_eq_left, exists_and_left, exists_eq', exists_const, V.int.injEq, V.bl.injEq, V.str.injEq, V.ref.injEq, V.ty.injEq, List.cons.injEq, and_true, true_and, reduceCtorEq, false_and, and_false, exists_false, or_false, false_or, decide_eq_true_eq, Bool.not_eq_true', decide_eq_false_iff_not, if_true, if_false, Bool.false_eq_true, ite_true, ite_false, Bool.not_true, Bool.not_false, Nat.reduceAdd, Nat.reduceSub, and_assoc]
        refine ⟨_, tp2, _, hl1, ?_⟩
        cases bl with
        | true => exact q
        | false => simp only [tTest, tOp, tVar, tC, tCB, tCons, tNil, tRet, tNext, tAsg, gName, gTup, gCons, gNil, tB, rI0, rI, tTup, tLst, tCall, tDrop, tIf, tAnd, tOr, tNot, tAndV, tOrV, tNotV, tBM, rIn, rEq, rNe, scal, rIxL, rIxT, rIxS, rAppend, L2.start, List.map_cons, List.map_nil, List.cons_append, List.nil_append, List.append_nil, List.length_cons, List.length_nil, List.replicate, List.set_cons_zero, List.set_cons_succ, List.getElem?_cons_zero, List.getElem?_cons_succ, Option.some.injEq, exists_eq_left', exists_eq_left, exists_and_left, exists_eq', exists_const, V.int.injEq, V.bl.injEq, V.str.injEq, V.ref.injEq, V.ty.injEq, List.cons.injEq, and_true, true_and, reduceCtorEq, false_and, and_false, exists_false, or_false, false_or, decide_eq_true_eq, Bool.not_eq_true', decide_eq_false_iff_not, if_true, if_false, Bool.false_eq_true, ite_true, ite_false, Bool.not_true, Bool.not_false, Nat.reduceAdd, Nat.reduceSub, and_assoc]; exact ⟨_, tp1, _, hl1, q⟩
      · simp only [tTest, tOp, tVar, tC, tCB, tCons, tNil, tRet, tNext, tAsg, gName, gTup, gCons, gNil, tB, rI0, rI, tTup, tLst, tCall, tDrop, tIf, tAnd, tOr, tNot, tAndV, tOrV, tNotV, tBM, rIn, rEq, rNe, scal, rIxL, rIxT, rIxS, rAppend, L2.start, List.map_cons, List.map_nil, List.cons_append, List.nil_append, List.append_nil, List.length_cons, List.length_nil, List.replicate, List.set_cons_zero, List.set_cons_succ, List.getElem?_cons_zero, List.getElem?_cons_succ, Option.some.injEq, exists_eq_left', exists_eq_left, exists_and_left, exists_eq', exists_const, V.int.injEq, V.bl.injEq, V.str.injEq, V.ref.injEq, V.ty.injEq, List.cons.injEq, and_true, true_and, reduceCtorEq, false_and, and_false, exists_false, or_false, false_or, decide_eq_true_eq, Bool.not_eq_true', decide_eq_false_iff_not, if_true, if_false, Bool.false_eq_true, ite_true, ite_false, Bool.not_true, Bool.not_false, Nat.reduceAdd, Nat.reduceSub, and_assoc]
        refine ⟨_, ln1, _, ln2, ?_⟩
        simp only [hl, tTest, tOp, tVar, tC, tCB, tCons, tNil, tRet, tNext, tAsg, gName, gTup, gCons, gNil, tB, rI0, rI, tTup, tLst, tCall, tDrop, tIf, tAnd, tOr, tNot, tAndV, tOrV, tNotV, tBM, rIn, rEq, rNe, scal, rIxL, rIxT, rIxS, rAppend, L2.start, List.map_cons, List.map_nil, List.cons_append, List.nil_append, List.append_nil, List.length_cons, List.length_nil, List.replicate, List.set_cons_zero, List.set_cons_succ, List.getElem?_cons_zero, List.getElem?_cons_succ, Option.some.injEq, exists_eq_left', exists_eq_left, exists_and_left, exists_eq', exists_const, V.int.injEq, V.bl.injEq, V.str.injEq, V.ref.injEq, V.ty.injEq, List.cons.injEq, and_true, true_and, reduceCtorEq, false_and, and_false, exists_false, or_false, false_or, decide_eq_true_eq, Bool.not_eq_true', decide_eq_false_iff_not, if_true, if_false, Bool.false_eq_true, ite_true, ite_false, Bool.not_true, Bool.not_false, Nat.reduceAdd, Nat.reduceSub, and_assoc]
        exact q
      · simp only [tSeq, tIfS, tTest, tOp, tVar, tC, tCB, tCons, tNil, tRet, tNext, tAsg, gName, gTup, gCons, gNil, tB, rI0, rI, tTup, tLst, tCall, tDrop, tIf, tAnd, tOr, tNot, tAndV, tOrV, tNotV, tBM, rIn, rEq, rNe, scal, rIxL, rIxT, rIxS, rAppend, L2.start, List.map_cons, List.map_nil, List.cons_append, List.nil_append, List.append_nil, List.length_cons, List.length_nil, List.replicate, List.set_cons_zero, List.set_cons_succ, List.getElem?_cons_zero, List.getElem?_cons_succ, Option.some.injEq, exists_eq_left', exists_eq_left, exists_and_left, exists_eq', exists_const, V.int.injEq, V.bl.injEq, V.str.injEq, V.ref.injEq, V.ty.injEq, List.cons.injEq, and_true, true_and, reduceCtorEq, false_and, and_false, exists_false, or_false, false_or, decide_eq_true_eq, Bool.not_eq_true', decide_eq_false_iff_not, if_true, if_false, Bool.false_eq_true, ite_true, ite_false, Bool.not_true, Bool.not_false, Nat.reduceAdd, Nat.reduceSub, and_assoc]
        refine ⟨_, rfl, _, rfl, src1, src2, xs, ys, by rw [e1, e2], h1 H (.refl H), h2 H (.refl H), for_zip (fun i σ H2 => Same H H2 ∧ ∃ a b, σ = [some (.ref p), some (.ref q'), a, b]) ⟨.refl H, none, none, rfl⟩ (fun i σ H2 ⟨e, _⟩ => ⟨h1 H2 e, h2 H2 e⟩) hl ?_ ?_⟩
        · rintro i x y r σ H2 hx hy hr' ⟨e, a, b, rfl⟩
          simp only [tSeq, tIfS, tTest, tOp, tVar, tC, tCB, tCons, tNil, tRet, tNext, tAsg, gName, gTup, gCons, gNil, tB, rI0, rI, tTup, tLst, tCall, tDrop, tIf, tAnd, tOr, tNot, tAndV, tOrV, tNotV, tBM, rIn, rEq, rNe, scal, rIxL, rIxT, rIxS, rAppend, L2.start, List.map_cons, List.map_nil, List.cons_append, List.nil_append, List.append_nil, List.length_cons, List.length_nil, List.replicate, List.set_cons_zero, List.set_cons_succ, List.getElem?_cons_zero, List.getElem?_cons_succ, Option.some.injEq, exists_eq_left', exists_eq_left, exists_and_left, exists_eq', exists_const, V.int.injEq, V.bl.injEq, V.str.injEq, V.ref.injEq, V.ty.injEq, List.cons.injEq, and_true, true_and, reduceCtorEq, false_and, and_false, exists_false, or_false, false_or, decide_eq_true_eq, Bool.not_eq_true', decide_eq_false_iff_not, if_true, if_false, Bool.false_eq_true, ite_true, ite_false, Bool.not_true, Bool.not_false, Nat.reduceAdd, Nat.reduceSub, and_assoc]
          refine ⟨_, SqT.of upd_same, rfl, ?_⟩
          simp only [tSeq, tIfS, tTest, tOp, tVar, tC, tCB, tCons, tNil, tRet, tNext, tAsg, gName, gTup, gCons, gNil, tB, rI0, rI, tTup, tLst, tCall, tDrop, tIf, tAnd, tOr, tNot, tAndV, tOrV, tNotV, tBM, rIn, rEq, rNe, scal, rIxL, rIxT, rIxS, rAppend, L2.start, List.map_cons, List.map_nil, List.cons_append, List.nil_append, List.append_nil, List.length_cons, List.length_nil, List.replicate, List.set_cons_zero, List.set_cons_succ, List.getElem?_cons_zero, List.getElem?_cons_succ, Option.some.injEq, exists_eq_left', exists_eq_left, exists_and_left, exists_eq', exists_const, V.int.injEq, V.bl.injEq, V.str.injEq, V.ref.injEq, V.ty.injEq, List.cons.injEq, and_true, true_and, reduceCtorEq, false_and, and_false, exists_false, or_false, false_or, decide_eq_true_eq, Bool.not_eq_true', decide_eq_false_iff_not, if_true, if_false, Bool.false_eq_true, ite_true, ite_false, Bool.not_true, Bool.not_false, Nat.reduceAdd, Nat.reduceSub, and_assoc]
          refine ⟨x, y, rfl, .inl ⟨(hi i x y hx hy).same (e.trans (same_upd hr')), fun H3 e3 => ?_⟩⟩
          simp only [tSeq, tIfS, tTest, tOp, tVar, tC, tCB, tCons, tNil, tRet, tNext, tAsg, gName, gTup, gCons, gNil, tB, rI0, rI, tTup, tLst, tCall, tDrop, tIf, tAnd, tOr, tNot, tAndV, tOrV, tNotV, tBM, rIn, rEq, rNe, scal, rIxL, rIxT, rIxS, rAppend, L2.start, List.map_cons, List.map_nil, List.cons_append, List.nil_append, List.append_nil, List.length_cons, List.length_nil, List.replicate, List.set_cons_zero, List.set_cons_succ, List.getElem?_cons_zero, List.getElem?_cons_succ, Option.some.injEq, exists_eq_left', exists_eq_left, exists_and_left, exists_eq', exists_const, V.int.injEq, V.bl.injEq, V.str.injEq, V.ref.injEq, V.ty.injEq, List.cons.injEq, and_true, true_and, reduceCtorEq, false_and, and_false, exists_false, or_false, false_or, decide_eq_true_eq, Bool.not_eq_true', decide_eq_false_iff_not, if_true, if_false, Bool.false_eq_true, ite_true, ite_false, Bool.not_true, Bool.not_false, Nat.reduceAdd, Nat.reduceSub, and_assoc]
          exact e.trans ((same_upd hr').trans e3)
        · rintro σ H2 ⟨e, a, b, rfl⟩
          simp only [tSeq, tIfS, tTest, tOp, tVar, tC, tCB, tCons, tNil, tRet, tNext, tAsg, gName, gTup, gCons, gNil, tB, rI0, rI, tTup, tLst, tCall, tDrop, tIf, tAnd, tOr, tNot, tAndV, tOrV, tNotV, tBM, rIn, rEq, rNe, scal, rIxL, rIxT, rIxS, rAppend, L2.start, List.map_cons, List.map_nil, List.cons_append, List.nil_append, List.append_nil, List.length_cons, List.length_nil, List.replicate, List.set_cons_zero, List.set_cons_succ, List.getElem?_cons_zero, List.getElem?_cons_succ, Option.some.injEq, exists_eq_left', exists_eq_left, exists_and_left, exists_eq', exists_const, V.int.injEq, V.bl.injEq, V.str.injEq, V.ref.injEq, V.ty.injEq, List.cons.injEq, and_true, true_and, reduceCtorEq, false_and, and_false, exists_false, or_false, false_or, decide_eq_true_eq, Bool.not_eq_true', decide_eq_false_iff_not, if_true, if_false, Bool.false_eq_true, ite_true, ite_false, Bool.not_true, Bool.not_false, Nat.reduceAdd, Nat.reduceSub, and_assoc]
          exact q H2 e
def spLaw (K : PySem.W.Frag) : Sp := fun vs H Q _ => ∃ (a : Addr) (ns : List Int), vs = [.ref a] ∧ SqL K H a (ns.map V.int) ∧ ns.length ≤ 63 ∧ ∀ H', Q (.bl true) H'
end
end Wb
namespace Mi
theorem at_ok {s : List Int} (hs : s.length ≤ 63) (k : Nat) (hk : k ≤ 200) : ∃ n, m_l_at s (k : Int) = .ok n := by
  unfold m_l_at M_l_at
  by_cases h : (k : Int) < (s.length : Int)
  · rw [if_pos (by simpa using h)]
    obtain ⟨x, e, _⟩ := ixL_get (xs := s) (i := (k : Int)) (by omega) h
    exact ⟨x, e⟩
  · rw [if_neg (by simpa using h), mulR_okR (by omega) (by omega)]
    exact ⟨_, rfl⟩
theorem row_b1 (c b : Int) (hb : 1 ≤ b) (hb2 : b < 1073741824) (k : Nat) (s : Int × Int × List Int) (h1 : 0 ≤ s.2.1) (hl : s.2.2.length < 100000) : ∃ s' : Int × Int × List Int, M_l_row_b1 c b (k : Int) s = .ok s' ∧ 0 ≤ s'.2.1 ∧ ∃ v, 0 ≤ v ∧ v < b ∧ s'.2.2 = s.2.2 ++ [v] := by
  unfold M_l_row_b1
  have hm0 := Int.emod_nonneg (s.1 * 48271 + 7919 + (k : Int)) (show (2147483647 : Int) ≠ 0 by decide)
  have hm1 := Int.emod_lt_of_pos (s.1 * 48271 + 7919 + (k : Int)) (show (0 : Int) < 2147483647 by decide)
  generalize (s.1 * 48271 + 7919 + (k : Int)) % 2147483647 = mx at *
  have other : ∀ z : Int, 0 ≤ z % b ∧ z % b < b := fun z => ⟨Int.emod_nonneg _ (by omega), Int.emod_lt_of_pos _ (by omega)⟩
  have A : ∀ z : Int, appL s.2.2 z = .ok (s.2.2 ++ [z]) := fun z => appL_ok hl
  have e2 : ((((mulR mx mx).bind fun y63 => Res.ok (y63 % 1000003)).bind fun y64 => modR y64 b).bind fun y69 => appL s.2.2 y69) = .ok (s.2.2 ++ [mx * mx % 1000003 % b]) := by
    rw [mulR_okL (by omega) (by omega)]; simp only [Res.bind_ok']; rw [modR_ok (by omega)]; exact A _
  have e1 : ((modR s.2.1 b).bind fun y56 => appL s.2.2 y56) = .ok (s.2.2 ++ [s.2.1 % b]) := by rw [modR_ok (by omega)]; exact A _
  by_cases hf : (1000000000000000000 : Int) ≤ absI c
  · rw [decide_eq_true hf]
    by_cases hp : 0 < s.2.1
    · rw [decide_eq_true hp]
      simp only [if_true, Res.bind_ok', e1, fdivR_ok (show 0 < b by omega) hb2]
      exact ⟨_, rfl, Int.ediv_nonneg h1 (by omega), _, (other _).1, (other _).2, rfl⟩
    · rw [decide_eq_false hp]
      simp only [if_true, Res.bind_ok', Bool.false_eq_true, if_false, e2]
      exact ⟨_, rfl, h1, _, (other _).1, (other _).2, rfl⟩
  · rw [decide_eq_false hf]
    simp only [Res.bind_ok', Bool.false_eq_true, if_false, e2]
    exact ⟨_, rfl, h1, _, (other _).1, (other _).2, rfl⟩
theorem row_ok (c : Int) (n : Nat) (b : Int) (hn : n ≤ 1000) (hb : 1 ≤ b) (hb2 : b < 1073741824) : ∃ ns, m_l_row c (n : Int) b = .ok ns ∧ ns.length = n ∧ ∀ x ∈ ns, 0 ≤ x ∧ x < b := by
  unfold m_l_row M_l_row
  rw [rangeR_ok (by omega), Res.bind_ok']
  obtain ⟨s, e, h0, hl, hb⟩ := forR_inv (f := M_l_row_b1 c b) (fun pre (s : Int × Int × List Int) => 0 ≤ s.2.1 ∧ s.2.2.length = pre.length ∧ ∀ x ∈ s.2.2, 0 ≤ x ∧ x < b) ((List.range n).map fun (i : Nat) => (i : Int)) ((absI c) % 2147483647, absI c, []) ⟨absI_nn c, rfl, by simp⟩ (by
    intro pre a post s e ⟨h0, hl, hb'⟩
    have hlen : pre.length < n := by have := congrArg List.length e; simp at this; omega
    obtain ⟨k, rfl⟩ : ∃ k : Nat, a = (k : Int) := by
      have : a ∈ (List.range n).map fun (i : Nat) => (i : Int) := by rw [e]; simp
      obtain ⟨k, _, hk⟩ := List.mem_map.mp this; exact ⟨k, hk.symm⟩
    obtain ⟨s', e', h0', v, v0, v1, ev⟩ := row_b1 c b hb hb2 k s h0 (by omega)
    refine ⟨s', e', h0', by rw [ev]; simp [hl], fun x hx => ?_⟩
    rw [ev] at hx
    rcases List.mem_append.mp hx with z | z
    · exact hb' x z
    · rw [List.mem_singleton.mp z]; exact ⟨v0, v1⟩)
  rw [e]
  exact ⟨_, rfl, by rw [hl]; simp, hb⟩
abbrev P3 := Tx × Tx × Tx
def okC3 (c : Nat) : Prop := (97 ≤ c ∧ c ≤ 122) ∨ c = 63
def okS3 (c : Nat) : Prop := c = 115 ∨ c = 122 ∨ c = 111 ∨ c = 63
structure Mk (m : P3) : Prop where
  a : ∃ c, m.1 = [c] ∧ okC3 c
  b : ∃ c, m.2.1 = [c] ∧ okC3 c
  s : ∃ c, m.2.2 = [c] ∧ okS3 c
structure Sht (w t : Nat) (l : List (List P3)) : Prop where
  len : l.length = t
  pick : ∀ p ∈ l, p.length = w ∧ ∀ m ∈ p, Mk m
def wordT (m : P3) : Tx := m.1 ++ (m.2.1 ++ m.2.2)
def lineT (p : List P3) : Tx := glueT [32] (p.map wordT)
def textT (l : List (List P3)) : Tx := glueT [10] (l.map lineT)
theorem Mk.word {m : P3} (h : Mk m) : ∃ a b s, m = ([a], [b], [s]) ∧ okC3 a ∧ okC3 b ∧ okS3 s ∧ wordT m = [a, b, s] := by
  obtain ⟨⟨a, e1, h1⟩, ⟨b, e2, h2⟩, ⟨s, e3, h3⟩⟩ := h
  obtain ⟨x, y, z⟩ := m
  simp at e1 e2 e3
  subst e1; subst e2; subst e3
  exact ⟨a, b, s, rfl, h1, h2, h3, rfl⟩
theorem word_len {m : P3} (h : Mk m) : (wordT m).length = 3 := by obtain ⟨a, b, s, _, _, _, _, e⟩ := h.word; rw [e]; rfl
theorem okC3_ne {c : Nat} (h : okC3 c) : c ≠ 32 ∧ c ≠ 10 := by rcases h with h | h <;> omega
theorem okS3_ne {c : Nat} (h : okS3 c) : c ≠ 32 ∧ c ≠ 10 := by rcases h with h | h | h | h <;> omega
theorem word_free {m : P3} (h : Mk m) : 32 ∉ wordT m ∧ 10 ∉ wordT m := by
  obtain ⟨a, b, s, _, h1, h2, h3, e⟩ := h.word
  have := okC3_ne h1; have := okC3_ne h2; have := okS3_ne h3
  rw [e]; simp; omega
theorem glue_len (sep : Tx) : ∀ (ys : List Tx), (glueT sep ys).length ≤ ys.flatten.length + ys.length * sep.length
  | [] => by simp [glueT]
  | [x] => by simp [glueT]
  | x :: y :: r => by
    have := glue_len sep (y :: r)
    simp only [glueT, List.length_append, List.flatten_cons, List.length_cons] at this ⊢
    rw [Nat.succ_mul]
    simp only [Nat.add_mul, Nat.one_mul] at this ⊢
    omega
theorem flat_len {ys : List Tx} {n : Nat} (h : ∀ y ∈ ys, y.length ≤ n) : ys.flatten.length ≤ n * ys.length := by
  induction ys with
  | nil => simp
  | cons a r ih =>
    have h1 := h a (List.mem_cons_self ..)
    have h2 := ih fun y hy => h y (List.mem_cons_of_mem _ hy)
    rw [List.flatten_cons, List.length_append, List.length_cons, Nat.mul_succ]
    omega
theorem glue_mem {sep : Tx} {c : Nat} : ∀ (ys : List Tx), c ∉ sep → (∀ y ∈ ys, c ∉ y) → c ∉ glueT sep ys
  | [], _, _ => by simp [glueT]
  | [x], _, h => h x (by simp)
  | x :: y :: r, hs, h => by
    have ih := glue_mem (y :: r) hs fun z hz => h z (List.mem_cons_of_mem _ hz)
    have hx := h x (by simp)
    simp only [glueT, List.mem_append]
    exact fun z => z.elim hx fun z => z.elim hs ih
section
variable {w t : Nat} {l : List (List P3)}
theorem line_len (hw : w ≤ 9) {p : List P3} (h : p.length = w ∧ ∀ m ∈ p, Mk m) : (lineT p).length ≤ 36 := by
  have h1 := glue_len [32] (p.map wordT)
  have h2 := flat_len (ys := p.map wordT) (n := 3) fun y hy => by
    obtain ⟨m, hm, rfl⟩ := List.mem_map.mp hy
    rw [word_len (h.2 m hm)]; omega
  unfold lineT
  simp only [List.length_map, List.length_singleton] at h1 h2
  rw [h.1] at h1 h2
  omega
theorem line_free {p : List P3} (h : ∀ m ∈ p, Mk m) : 10 ∉ lineT p := glue_mem _ (by decide) fun y hy => by
  obtain ⟨m, hm, rfl⟩ := List.mem_map.mp hy
  exact (word_free (h m hm)).2
theorem joinS_ok {sep : Tx} {ys : List Tx} (h : ys.flatten.length + ys.length * sep.length ≤ 100000) : joinS sep ys = .ok (glueT sep ys) := must_ok h
theorem join_line (hw : w ≤ 9) {p : List P3} (h : p.length = w ∧ ∀ m ∈ p, Mk m) : joinS [32] (p.map wordT) = .ok (lineT p) := joinS_ok (by
  have h2 := flat_len (ys := p.map wordT) (n := 3) fun y hy => by
    obtain ⟨m, hm, rfl⟩ := List.mem_map.mp hy
    rw [word_len (h.2 m hm)]; omega
  simp only [List.length_map, List.length_singleton] at h2 ⊢
  rw [h.1] at h2 ⊢
  omega)
theorem join_text (hw : w ≤ 9) (ht : t ≤ 100) (h : Sht w t l) : joinS [10] (l.map lineT) = .ok (textT l) := joinS_ok (by
  have h2 := flat_len (ys := l.map lineT) (n := 36) fun y hy => by
    obtain ⟨p, hp, rfl⟩ := List.mem_map.mp hy
    exact line_len hw (h.pick p hp)
  simp only [List.length_map, List.length_singleton] at h2 ⊢
  rw [h.len] at h2 ⊢
  omega)
theorem text_len (hw : w ≤ 9) (ht : t ≤ 100) (h : Sht w t l) : (textT l).length ≤ 5000 := by
  have h1 := glue_len [10] (l.map lineT)
  have h2 := flat_len (ys := l.map lineT) (n := 36) fun y hy => by
    obtain ⟨p, hp, rfl⟩ := List.mem_map.mp hy
    exact line_len hw (h.pick p hp)
  unfold textT
  simp only [List.length_map, List.length_singleton] at h1 h2
  rw [h.len] at h1 h2
  omega
theorem sheet_text_ok (hw : w ≤ 9) (ht : t ≤ 100) (h : Sht w t l) : m_sheet_text l = .ok (textT l) := by
  unfold m_sheet_text M_sheet_text
  rw [compR_ok (g := lineT) (by unfold cap; have := h.len; omega) fun p hp => by
    have hp' := h.pick p hp
    rw [compR_ok (g := wordT) (by unfold cap; omega) fun m hm => by
      obtain ⟨a, b, s, e, _, _, _, e2⟩ := (hp'.2 m hm).word
      rw [e2, e]; rfl]
    rw [Res.bind_ok', join_line hw hp'], Res.bind_ok', join_text hw ht h]
theorem split_text (h : Sht w t l) (hn : l ≠ []) : splitC 10 (textT l) = l.map lineT := splitC_glue 10 _ (by simpa using hn) fun y hy => by
  obtain ⟨p, hp, rfl⟩ := List.mem_map.mp hy
  exact line_free (h.pick p hp).2
theorem split_line {p : List P3} (h : ∀ m ∈ p, Mk m) (hn : p ≠ []) : splitC 32 (lineT p) = p.map wordT := splitC_glue 32 _ (by simpa using hn) fun y hy => by
  obtain ⟨m, hm, rfl⟩ := List.mem_map.mp hy
  exact (word_free (h m hm)).1
end
theorem leS_1 (a b : Nat) : leS [a] [b] = decide (a ≤ b) := by
  unfold leS
  have : ([b] < [a]) ↔ b < a := by
    constructor
    · intro h
      cases h with
      | rel h => exact h
      | cons h => cases h
    · exact fun h => List.Lex.rel h
  by_cases h : a ≤ b
  · have n : ¬ ([b] < [a]) := fun z => by have := this.mp z; omega
    simp [h, n]
  · have y : [b] < [a] := this.mpr (by omega)
    simp [h, y]
theorem colour_ok {c : Nat} (h : 97 ≤ c ∧ c ≤ 122) : m_is_colour [c] = .ok true := by
  unfold m_is_colour M_is_colour
  rw [lenS_ok (by simp)]
  simp only [Res.bind_ok', List.length_singleton]
  rw [if_pos (by decide), leS_1, leS_1]
  simp [h.1, h.2]
theorem mark_ok {m : P3} (h : Mk m) : m_mark_of (wordT m) = .ok m := by
  obtain ⟨a, b, s, e, h1, h2, h3, e2⟩ := h.word
  rw [e2, e]
  unfold m_mark_of M_mark_of
  rw [lenS_ok (by simp)]
  simp only [Res.bind_ok']
  rw [if_neg (by simp)]
  have fC : ∀ (sd : Tx) (c : Nat), sd ≠ [115, 108, 97, 110, 116] → okC3 c → (if decide (([c] : Tx) = [63]) = true then Res.ok true else m_fits sd [c]) = .ok true := fun sd c hs hc => by
    by_cases z : c = 63
    · rw [if_pos (by simpa using z)]
    · rw [if_neg (by simpa using z)]
      unfold m_fits M_fits
      rw [if_neg (by simpa using hs), colour_ok (hc.resolve_right z)]
  have fS : (if decide (([s] : Tx) = [63]) = true then Res.ok true else m_fits [115, 108, 97, 110, 116] [s]) = .ok true := by
    by_cases z : s = 63
    · rw [if_pos (by simpa using z)]
    · rw [if_neg (by simpa using z)]
      unfold m_fits M_fits
      rw [if_pos (by decide)]
      rcases h3 with rfl | rfl | rfl | rfl
      · rfl
      · rfl
      · rfl
      · exact absurd rfl z
  have ec : compR ([([102, 97, 99, 101], [98, 97, 99, 107], [115, 108, 97, 110, 116]).1, ([102, 97, 99, 101], [98, 97, 99, 107], [115, 108, 97, 110, 116]).2.1, ([102, 97, 99, 101], [98, 97, 99, 107], [115, 108, 97, 110, 116]).2.2].zip (chars [a, b, s])) (fun (a5 : Tx × Tx) => if (decide (a5.2 = ([63] : Tx))) then Res.ok true else m_fits a5.1 a5.2) = .ok [true, true, true] := by
    unfold compR
    rw [must_ok (by simp [chars, cap]), Res.bind_ok']
    show mapR _ [(([102, 97, 99, 101] : Tx), ([a] : Tx)), ([98, 97, 99, 107], [b]), ([115, 108, 97, 110, 116], [s])] = _
    simp only [mapR, fC [102, 97, 99, 101] a (by decide) h1, fC [98, 97, 99, 107] b (by decide) h2, fS, Res.bind_ok']
  rw [ec]
  rfl
theorem pick_ok {w : Nat} (hw : w ≤ 9) (hw1 : 1 ≤ w) {p : List P3} (h : p.length = w ∧ ∀ m ∈ p, Mk m) : m_pick_of (lineT p) = .ok p := by
  unfold m_pick_of M_pick_of
  have hl := line_len hw h
  have hn : p ≠ [] := by intro z; rw [z] at h; simp at h; omega
  rw [show splitS (lineT p) [32] = .ok (splitC 32 (lineT p)) from must_ok (by unfold cap; omega), Res.bind_ok', split_line h.2 hn]
  have : ∀ q : List P3, (∀ m ∈ q, Mk m) → mapR (fun (a1 : Tx) => m_mark_of a1) (q.map wordT) = .ok q := by
    intro q
    induction q with
    | nil => intro _; rfl
    | cons m r ih =>
      intro hq
      rw [List.map_cons]
      unfold mapR
      rw [mark_ok (hq m (List.mem_cons_self ..)), Res.bind_ok', ih fun x hx => hq x (List.mem_cons_of_mem _ hx)]
      rfl
  unfold compR
  rw [must_ok (by unfold cap; simp; omega), Res.bind_ok', this p h.2]
theorem sheet_of_ok {w t : Nat} (hw : w ≤ 8) (hw1 : 1 ≤ w) (ht : t ≤ 60) {l : List (List P3)} (h : Sht w t l) : m_sheet_of (textT l) = .ok l := by
  unfold m_sheet_of M_sheet_of
  cases l with
  | nil => rw [if_pos (by rfl)]
  | cons p r =>
    have hp := h.pick p (List.mem_cons_self ..)
    have hne : textT (p :: r) ≠ [] := by
      intro z
      have hs := split_text h (by simp)
      rw [z] at hs
      have : splitC 10 [] = [[]] := rfl
      rw [this] at hs
      have e : lineT p = [] := by
        have := congrArg List.head? hs
        simpa using this.symm
      obtain ⟨m, q, ep⟩ : ∃ m q, p = m :: q := by
        cases p with
        | nil => simp at hp; omega
        | cons m q => exact ⟨m, q, rfl⟩
      have hm := word_len (hp.2 m (by rw [ep]; simp))
      have s2 := split_line hp.2 (by rw [ep]; simp)
      rw [e, show splitC 32 [] = [[]] from rfl, ep, List.map_cons] at s2
      have := congrArg List.head? s2
      simp at this
      rw [this] at hm; simp at hm
    rw [if_neg (by simpa using hne)]
    have htl := text_len (by omega) (by omega) h
    rw [show splitS (textT (p :: r)) [10] = .ok (splitC 10 (textT (p :: r))) from must_ok (by unfold cap; omega), Res.bind_ok', split_text h (by simp)]
    have hm : ∀ q : List (List P3), (∀ x ∈ q, x ∈ p :: r) → mapR (fun (a10 : Tx) => m_pick_of a10) (q.map lineT) = .ok q := by
      intro q
      induction q with
      | nil => intro _; rfl
      | cons x q ih =>
        intro hq
        rw [List.map_cons]
        unfold mapR
        rw [pick_ok (by omega) hw1 (h.pick x (hq x (List.mem_cons_self ..))), Res.bind_ok', ih fun y hy => hq y (List.mem_cons_of_mem _ hy)]
        rfl
    have hlen := h.len
    have ec : compR ((p :: r).map lineT) (fun (a10 : Tx) => m_pick_of a10) = .ok (p :: r) := by
      unfold compR
      rw [must_ok (by unfold cap; rw [List.length_map]; omega), Res.bind_ok', hm (p :: r) fun x hx => hx]
    rw [ec, Res.bind_ok', show ixL (p :: r) (0 : Int) = .ok p from (ixL_ok (j := 0) rfl : ixL (p :: r) ((0 : Nat) : Int) = .ok p), Res.bind_ok', Res.bind_ok']
    rw [if_neg (by simp at hlen ⊢; omega), Res.bind_ok', if_neg (by simp; omega)]
    rw [compR_ok (g := fun _ => false) (by unfold cap; omega) fun q hq => by
      have := (h.pick q hq).1
      rw [this, hp.1]; simp]
    rw [Res.bind_ok', Res.bind_ok', if_neg (by simp)]
theorem sheet_b2 {cols : List (List Int)} {w t : Nat} (hc : cols.length = w) (hr : ∀ c ∈ cols, c.length = t ∧ ∀ x ∈ c, 0 ≤ x ∧ x < 2916) {a k : Nat} (ha : a < t) (hk : k < w) {acc : List P3} (hl : acc.length ≤ 1000) : ∃ m, M_l_sheet_b2 cols (a : Int) (k : Int) acc = .ok (acc ++ [m]) ∧ Mk m := by
  unfold M_l_sheet_b2
  obtain ⟨c, ec, hcm⟩ := ixL_get (xs := cols) (i := (k : Int)) (by omega) (by omega)
  have hcc := hr c (List.mem_of_getElem? hcm)
  obtain ⟨d, ed, hdm⟩ := ixL_get (xs := c) (i := (a : Int)) (by omega) (by omega)
  have hd := hcc.2 d (List.mem_of_getElem? hdm)
  rw [ec, Res.bind_ok', ed, Res.bind_ok']
  obtain ⟨x, ex, hx⟩ := ixS_get (x := ([63, 97, 98, 99, 100, 101, 102, 103, 104, 105, 106, 107, 108, 109, 110, 111, 112, 113, 114, 115, 116, 117, 118, 119, 120, 121, 122] : Tx)) (i := d % 27) (by omega) (by simp; omega) (by decide)
  obtain ⟨y, ey, hy⟩ := ixS_get (x := ([97, 98, 99, 100, 101, 102, 103, 104, 105, 106, 107, 108, 109, 110, 111, 112, 113, 114, 115, 116, 117, 118, 119, 120, 121, 122, 63] : Tx)) (i := d / 27 % 27) (by omega) (by simp; omega) (by decide)
  obtain ⟨z, ez, hz⟩ := ixS_get (x := ([115, 122, 63, 111] : Tx)) (i := d / 729) (by omega) (by simp; omega) (by decide)
  rw [ex, Res.bind_ok', ey, Res.bind_ok', ez]
  simp only [Res.bind_ok']
  rw [appL_ok (by omega), Res.bind_ok']
  refine ⟨_, rfl, ⟨x, rfl, ?_⟩, ⟨y, rfl, ?_⟩, ⟨z, rfl, ?_⟩⟩
  · have := List.mem_of_getElem? hx
    simp at this
    unfold okC3; omega
  · have := List.mem_of_getElem? hy
    simp at this
    unfold okC3; omega
  · have := List.mem_of_getElem? hz
    simp at this
    unfold okS3; omega
theorem range_mem {n : Nat} {pre post : List Int} {a : Int} (e : ((List.range n).map fun (i : Nat) => (i : Int)) = pre ++ a :: post) : ∃ k : Nat, k < n ∧ a = (k : Int) := by
  have : a ∈ (List.range n).map fun (i : Nat) => (i : Int) := by rw [e]; simp
  obtain ⟨k, hk, e⟩ := List.mem_map.mp this
  exact ⟨k, List.mem_range.mp hk, e.symm⟩
theorem l_sheet_ok {s : List Int} (hs : s.length ≤ 63) (w t : Nat) (hw : w ≤ 9) (ht : t ≤ 100) : ∃ l, m_l_sheet s (2 : Int) (w : Int) (t : Int) = .ok l ∧ Sht w t l := by
  unfold m_l_sheet M_l_sheet
  rw [rangeR_ok (by omega), Res.bind_ok', rangeR_ok (by omega)]
  obtain ⟨cols, e1, hc⟩ := forR_inv (f := M_l_sheet_b1 m_l_row m_l_at s (2 : Int) (t : Int)) (fun pre (c : List (List Int)) => c.length = pre.length ∧ ∀ x ∈ c, x.length = t ∧ ∀ y ∈ x, 0 ≤ y ∧ y < 2916) ((List.range w).map fun (i : Nat) => (i : Int)) [] ⟨rfl, by simp⟩ (by
    intro pre a post c e ⟨h1, h2⟩
    obtain ⟨k, hk, rfl⟩ := range_mem e
    have hlen : pre.length < w := by have := congrArg List.length e; simp at this; omega
    obtain ⟨v, ev⟩ := at_ok hs (2 + k) (by omega)
    have ev : m_l_at s ((2 : Int) + (k : Int)) = .ok v := by rw [← ev]; congr 1
    obtain ⟨ns, en, hn, hx⟩ := row_ok v t (((27 : Int) * 27) * 4) (by omega) (by decide) (by decide)
    refine ⟨c ++ [ns], ?_, by simp [h1], fun x hx' => ?_⟩
    · unfold M_l_sheet_b1
      rw [ev, Res.bind_ok', en, Res.bind_ok', appL_ok (by omega)]; rfl
    · rcases List.mem_append.mp hx' with z | z
      · exact h2 x z
      · rw [List.mem_singleton.mp z]; exact ⟨hn, fun y hy => by have := hx y hy; omega⟩)
  rw [e1, Res.bind_ok', Res.bind_ok']
  have hcl : cols.length = w := by rw [hc.1]; simp
  obtain ⟨l, e2, hl⟩ := forR_inv (f := M_l_sheet_b3 (w : Int) cols) (fun pre (l : List (List P3)) => l.length = pre.length ∧ ∀ p ∈ l, p.length = w ∧ ∀ m ∈ p, Mk m) ((List.range t).map fun (i : Nat) => (i : Int)) [] ⟨rfl, by simp⟩ (by
    intro pre a post l e ⟨h1, h2⟩
    obtain ⟨k, hk, rfl⟩ := range_mem e
    have hlen : pre.length < t := by have := congrArg List.length e; simp at this; omega
    unfold M_l_sheet_b3
    rw [rangeR_ok (by omega), Res.bind_ok']
    obtain ⟨ms, e3, hm⟩ := forR_inv (f := M_l_sheet_b2 cols (k : Int)) (fun pre (ms : List P3) => ms.length = pre.length ∧ ∀ m ∈ ms, Mk m) ((List.range w).map fun (i : Nat) => (i : Int)) [] ⟨rfl, by simp⟩ (by
      intro pre a post ms e ⟨h1, h2⟩
      obtain ⟨j, hj, rfl⟩ := range_mem e
      have hlen : pre.length < w := by have := congrArg List.length e; simp at this; omega
      obtain ⟨m, em, hm⟩ := sheet_b2 hcl hc.2 hk hj (acc := ms) (by omega)
      refine ⟨_, em, by simp [h1], fun x hx => ?_⟩
      rcases List.mem_append.mp hx with z | z
      · exact h2 x z
      · rw [List.mem_singleton.mp z]; exact hm)
    rw [e3, Res.bind_ok', appL_ok (by omega), Res.bind_ok']
    refine ⟨_, rfl, by simp [h1], fun p hp => ?_⟩
    rcases List.mem_append.mp hp with z | z
    · exact h2 p z
    · rw [List.mem_singleton.mp z]; exact ⟨by rw [hm.1]; simp, hm.2⟩)
  rw [e2]
  exact ⟨l, rfl, by rw [hl.1]; simp, hl.2⟩
theorem lines_walk {w : Nat} (hw : w ≤ 9) : ∀ (l : List (List P3)), (∀ p ∈ l, p.length = w ∧ ∀ m ∈ p, Mk m) → ∀ acc : List Tx, acc.length + l.length ≤ 1000 → forR M_law_b1 l acc = .ok (acc ++ l.map lineT)
  | [], _, acc, _ => by simp [forR]
  | p :: r, h, acc, hl => by
    have hp := h p (List.mem_cons_self ..)
    unfold forR
    simp at hl
    have e : M_law_b1 p acc = .ok (acc ++ [lineT p]) := by
      unfold M_law_b1
      rw [compR_ok (g := wordT) (by unfold cap; omega) fun m hm => by
        obtain ⟨a, b, s, e, _, _, _, e2⟩ := (hp.2 m hm).word
        rw [e2, e]; rfl]
      rw [Res.bind_ok', join_line hw hp, Res.bind_ok', appL_ok (by omega)]; rfl
    rw [e, Res.bind_ok', lines_walk hw r (fun x hx => h x (List.mem_cons_of_mem _ hx)) _ (by simp; omega)]
    simp
theorem law_ok (ns : List Int) (h : ns.length ≤ 63) : (m_law ns).Ok (· = true) := by
  unfold m_law M_law
  obtain ⟨a0, e0⟩ := at_ok h 0 (by omega)
  obtain ⟨a1, e1⟩ := at_ok h 1 (by omega)
  have e0 : m_l_at ns (0 : Int) = .ok a0 := e0
  have e1 : m_l_at ns (1 : Int) = .ok a1 := e1
  rw [e0, e1]
  simp only [Res.bind_ok']
  obtain ⟨w, hw⟩ : ∃ w : Nat, (1 : Int) + a0 % 8 = (w : Int) := ⟨((1 : Int) + a0 % 8).toNat, by omega⟩
  have hw8 : w ≤ 8 := by omega
  have hw1 : 1 ≤ w := by omega
  obtain ⟨t, et, ht⟩ : ∃ t : Nat, (if decide (a1 / 13 % 4 = (1 : Int)) = true then Res.ok (a1 / 52 % 61) else Res.ok (a1 % 13) : Res Int) = .ok (t : Int) ∧ t ≤ 60 := by
    by_cases z : a1 / 13 % 4 = 1
    · rw [if_pos (by simpa using z)]; exact ⟨(a1 / 52 % 61).toNat, by congr 1; omega, by omega⟩
    · rw [if_neg (by simpa using z)]; exact ⟨(a1 % 13).toNat, by congr 1; omega, by omega⟩
  rw [et, Res.bind_ok', hw]
  obtain ⟨l, el, hl⟩ := l_sheet_ok h w t (by omega) (by omega)
  rw [el, Res.bind_ok', lines_walk (by omega) l hl.pick [] (by have := hl.len; simp; omega), Res.bind_ok']
  rw [compR_ok (g := fun p => p) (by unfold cap; have := hl.len; omega) fun _ _ => rfl, Res.bind_ok', List.map_id', sheet_text_ok (by omega) (by omega) hl]
  simp only [Res.bind_ok', List.nil_append]
  rw [join_text (by omega) (by omega) hl]
  simp only [Res.bind_ok', sameS, decide_true, Bool.not_true, Bool.false_eq_true, if_false, eqR_ok rfl]
  rw [sheet_of_ok hw8 hw1 ht hl]
  have hwr : wreckL l = .ok () := must_ok ⟨by unfold cap; have := hl.len; omega, List.all_eq_true.mpr fun p hp => by have := (hl.pick p hp).1; simp [cap]; omega⟩
  simp only [Res.bind_ok', eqR_ok rfl, Bool.not_true, Bool.false_eq_true, if_false, hwr, if_true]
  rfl
end Mi
def PySem.W.Fast.tw13810262117814702294 : Unit := ()
def PySem.W.Fast.tw11821399449168175308 : Unit := ()
def PySem.W.Fast.tw9495317472360511255 : Unit := ()
def PySem.W.Fast.tw14842496431369740429 : Unit := ()
def PySem.W.Fast.tw15042883488752021643 : Unit := ()
def PySem.W.Fast.tw8060666987683057360 : Unit := ()
def PySem.W.Fast.tw13769103115541136327 : Unit := ()
def PySem.W.Fast.tw4039707410889071942 : Unit := ()
def PySem.W.Fast.tw11766667032028208565 : Unit := ()
def PySem.W.Fast.tw9919008367099125623 : Unit := ()
def PySem.W.Fast.tw6953138203311097117 : Unit := ()
def PySem.W.Fast.tw1725486776273817318 : Unit := ()
def PySem.W.Fast.tw2353497105660221152 : Unit := ()
def PySem.W.Fast.tw10905678247803878392 : Unit := ()
def PySem.W.Fast.tw6469784823511061222 : Unit := ()
def PySem.W.Fast.tw5444512763150141072 : Unit := ()
def PySem.W.Fast.tw16140922888777852060 : Unit := ()
def PySem.W.Fast.tw17062427158221528723 : Unit := ()
def PySem.W.Fast.tw6549852094080907030 : Unit := ()
def PySem.W.Fast.tw861502493610598483 : Unit := ()
def PySem.W.Fast.tw5449601097390414333 : Unit := ()
def PySem.W.Fast.tw17214186515701724070 : Unit := ()
def PySem.W.Fast.tw6356304189028158447 : Unit := ()
def PySem.W.Fast.tw4077048163395320219 : Unit := ()
def PySem.W.Fast.tw11823594873375168262 : Unit := ()
def PySem.W.Fast.tw13812277999558781770 : Unit := ()
def PySem.W.Fast.tw1825500878602426610 : Unit := ()
def PySem.W.Fast.tw7424060955962978353 : Unit := ()
def PySem.W.Fast.tw17963105932079019327 : Unit := ()
def PySem.W.Fast.tw9456574344343218679 : Unit := ()
def PySem.W.Fast.tw938635154573522699 : Unit := ()
def PySem.W.Fast.tw3419001889969749887 : Unit := ()
def PySem.W.Fast.tw4635989785427082552 : Unit := ()
def PySem.W.Fast.tw2400638427578300857 : Unit := ()
def PySem.W.Fast.tw6229817132586351632 : Unit := ()
def PySem.W.Fast.tw3042748168174471775 : Unit := ()
def PySem.W.Fast.tw3300454383303005205 : Unit := ()
def PySem.W.Fast.tw7476452910721959123 : Unit := ()
def PySem.W.Fast.tw3239113980409921550 : Unit := ()
def PySem.W.Fast.tw3543459598558145280 : Unit := ()
def PySem.W.Fast.tw18101783494082082527 : Unit := ()
def PySem.W.Fast.tw10374632558016547081 : Unit := ()
def PySem.W.Fast.tw643336161829623379 : Unit := ()
def PySem.W.Fast.tw6522051377940421278 : Unit := ()
def PySem.W.Fast.tw16409965706819354750 : Unit := ()
def PySem.W.Fast.tw9796564346219866840 : Unit := ()
def PySem.W.Fast.tw11564986514327137767 : Unit := ()
def PySem.W.Fast.tw10016166984437732892 : Unit := ()
def PySem.W.Fast.tw5362036446546632119 : Unit := ()
def PySem.W.Fast.tw14226173905949225808 : Unit := ()
def PySem.W.Fast.tw12382822922155266910 : Unit := ()
def PySem.W.Fast.tw7217548393331319763 : Unit := ()
def PySem.W.Fast.tw9977182230042388008 : Unit := ()
def PySem.W.Fast.tw11421057715548341654 : Unit := ()
def PySem.W.Fast.tw2646887283097553488 : Unit := ()
def PySem.W.Fast.tw3382625519597670723 : Unit := ()
def PySem.W.Fast.tw17187875760726034783 : Unit := ()
def PySem.W.Fast.tw5498123283257192965 : Unit := ()
def PySem.W.Fast.tw2692750590507578028 : Unit := ()
def PySem.W.Fast.tw5438652380644606353 : Unit := ()
def PySem.W.Fast.tw16053306600634468012 : Unit := ()
def PySem.W.Fast.tw5101696844757716304 : Unit := ()
def PySem.W.Fast.tw14935467056822913822 : Unit := ()
def PySem.W.Fast.tw16864618592142003386 : Unit := ()
def PySem.W.Fast.tw16955839230299176341 : Unit := ()
def PySem.W.Fast.tw2789304352393801511 : Unit := ()
def PySem.W.Fast.tw10042083083395451092 : Unit := ()
def PySem.W.Fast.tw5702276774652866934 : Unit := ()
def PySem.W.Fast.tw16279288168775177219 : Unit := ()
def PySem.W.Fast.tw15617008699501574997 : Unit := ()
def PySem.W.Fast.tw2483420100392427323 : Unit := ()
def PySem.W.Fast.tw2950685276103557050 : Unit := ()
def PySem.W.Fast.tw8739830900816887780 : Unit := ()
def PySem.W.Fast.tw8758443347247461665 : Unit := ()
def PySem.W.Fast.tw13622603851894308203 : Unit := ()
def PySem.W.Fast.tw3985964047577975286 : Unit := ()
def PySem.W.Fast.tw10294118229990073760 : Unit := ()
def PySem.W.Fast.tw14782755387869428366 : Unit := ()
def PySem.W.Fast.tw10792498714594961201 : Unit := ()
def PySem.W.Fast.tw14243238205550065757 : Unit := ()
def PySem.W.Fast.tw16670775579421159206 : Unit := ()
def PySem.W.Fast.tw1286971853415089239 : Unit := ()
def PySem.W.Fast.tw17351735930882485243 : Unit := ()
def PySem.W.Fast.tw10295913840692754127 : Unit := ()
def PySem.W.Fast.tw17760279517084355780 : Unit := ()
def PySem.W.Fast.tw7774113678449685934 : Unit := ()
def PySem.W.Fast.tw5217270863462422736 : Unit := ()
def PySem.W.Fast.tw18157406047293677543 : Unit := ()
def PySem.W.Fast.tw15127105006835628225 : Unit := ()
def PySem.W.Fast.tw896239598344801917 : Unit := ()
def PySem.W.Fast.tw8159993647027272844 : Unit := ()
def PySem.W.Fast.tw446995266069924076 : Unit := ()
def PySem.W.Fast.tw1717767836212652739 : Unit := ()
def PySem.W.Fast.tw3641951560692057861 : Unit := ()
def PySem.W.Fast.tw8297923619242306668 : Unit := ()
def PySem.W.Fast.tw4075453323654395381 : Unit := ()
def PySem.W.Fast.tw8997383693586321770 : Unit := ()
def PySem.W.Fast.tw10258873121960336067 : Unit := ()
def PySem.W.Fast.tw8949853181751564097 : Unit := ()
def PySem.W.Fast.tw9582823730064241283 : Unit := ()
def PySem.W.Fast.tw8285278889055680438 : Unit := ()
def PySem.W.Fast.tw14424681132571578402 : Unit := ()
section
open PySem PySem.W PyProof.Rows
set_option maxHeartbeats 0 in
open_top hd for PySem.Challenge.rw_wornband_k24_sheets_written
end
namespace Wb
open PySem L2 Mi
theorem law_imp {K : PySem.W.Frag} : ∀ vs H Q E, spLaw K vs H Q E → spM1 (isScr K) (rs isB) m_law vs H Q E := fun vs H Q E ⟨a, ns, h1, h2, h3, h4⟩ =>
  ⟨⟨H, H, .refl _⟩, ns, .ref a, rfl, h1, ⟨a, rfl, h2⟩, fun _ => False, Res.Ok.e ((law_ok ns h3).imp fun r hr u W' _ hu => by cases hr; cases hu; exact h4 _)⟩
theorem fin_mk {l : PySem.W.OpenLaw} {w : World} {K : PySem.W.Frag} {h : Heap} {mg : Str → Option Value} {fa : Addr} {f__law_same : Addr} {od__law_same an__law_same : Option Addr} {sl__law_same : Array (Option Value)} {oc__law_same kV__law_same dc__law_same pm__law_same cd__law_same ct__law_same : Value} {f__law_at : Addr} {od__law_at an__law_at : Option Addr} {sl__law_at : Array (Option Value)} {oc__law_at kV__law_at dc__law_at pm__law_at cd__law_at ct__law_at : Value} {f__law_row : Addr} {od__law_row an__law_row : Option Addr} {sl__law_row : Array (Option Value)} {oc__law_row kV__law_row dc__law_row pm__law_row cd__law_row ct__law_row : Value} {f__law_sheet : Addr} {od__law_sheet an__law_sheet : Option Addr} {sl__law_sheet : Array (Option Value)} {oc__law_sheet kV__law_sheet dc__law_sheet pm__law_sheet cd__law_sheet ct__law_sheet : Value} {f_sheet_text : Addr} {od_sheet_text an_sheet_text : Option Addr} {sl_sheet_text : Array (Option Value)} {oc_sheet_text kV_sheet_text dc_sheet_text pm_sheet_text cd_sheet_text ct_sheet_text : Value} {f_is_colour : Addr} {od_is_colour an_is_colour : Option Addr} {sl_is_colour : Array (Option Value)} {oc_is_colour kV_is_colour dc_is_colour pm_is_colour cd_is_colour ct_is_colour : Value} {f_fits : Addr} {od_fits an_fits : Option Addr} {sl_fits : Array (Option Value)} {oc_fits kV_fits dc_fits pm_fits cd_fits ct_fits : Value} {f_mark_of : Addr} {od_mark_of an_mark_of : Option Addr} {sl_mark_of : Array (Option Value)} {oc_mark_of kV_mark_of dc_mark_of pm_mark_of cd_mark_of ct_mark_of : Value} {f_pick_of : Addr} {od_pick_of an_pick_of : Option Addr} {sl_pick_of : Array (Option Value)} {oc_pick_of kV_pick_of dc_pick_of pm_pick_of cd_pick_of ct_pick_of : Value} {f_sheet_of : Addr} {od_sheet_of an_sheet_of : Option Addr} {sl_sheet_of : Array (Option Value)} {oc_sheet_of kV_sheet_of dc_sheet_of pm_sheet_of cd_sheet_of ct_sheet_of : Value} {f_law : Addr} {od_law an_law : Option Addr} {sl_law : Array (Option Value)} {oc_law kV_law dc_law pm_law cd_law ct_law : Value} {t_MOST_PICKS : Tok} {t_MOST_TABLETS : Tok} {d_SIDES : Addr} {e_SIDES : Nat} {x_SIDES0 x_SIDES1 x_SIDES2 : Tok} {d_SLANT_SIGNS : Addr} {e_SLANT_SIGNS : Nat} {x_SLANT_SIGNS0 x_SLANT_SIGNS1 x_SLANT_SIGNS2 : Tok} {t_WORN : Tok} (X : K.In h) (G : h.Ns mainGlobals mg) (hfa : mg "law" = some (.ref fa))
    (a__law_same : PySem.W.nsIn K mainGlobals "_law_same" = some (some (.ref f__law_same)))
    (l__law_same : K.lookup f__law_same = some ⟨oc__law_same, od__law_same, .func (PySem.W.fnOf "_law_same" "_law_same" (defArgs (tp 20)) (defBody (tp 20)) (defScope (tp 20)) .none kV__law_same dc__law_same pm__law_same an__law_same cd__law_same ct__law_same), sl__law_same⟩)
    (c__law_same : PySem.W.codeIn K cd__law_same "_law_same" = true)
    (k__law_same : PySem.W.keepIn K (.ref f__law_same) = true)
    (a__law_at : PySem.W.nsIn K mainGlobals "_law_at" = some (some (.ref f__law_at)))
    (l__law_at : K.lookup f__law_at = some ⟨oc__law_at, od__law_at, .func (PySem.W.fnOf "_law_at" "_law_at" (defArgs (tp 18)) (defBody (tp 18)) (defScope (tp 18)) .none kV__law_at dc__law_at pm__law_at an__law_at cd__law_at ct__law_at), sl__law_at⟩)
    (c__law_at : PySem.W.codeIn K cd__law_at "_law_at" = true)
    (k__law_at : PySem.W.keepIn K (.ref f__law_at) = true)
    (a__law_row : PySem.W.nsIn K mainGlobals "_law_row" = some (some (.ref f__law_row)))
    (l__law_row : K.lookup f__law_row = some ⟨oc__law_row, od__law_row, .func (PySem.W.fnOf "_law_row" "_law_row" (defArgs (tp 17)) (defBody (tp 17)) (defScope (tp 17)) .none kV__law_row dc__law_row pm__law_row an__law_row cd__law_row ct__law_row), sl__law_row⟩)
    (c__law_row : PySem.W.codeIn K cd__law_row "_law_row" = true)
    (k__law_row : PySem.W.keepIn K (.ref f__law_row) = true)
    (a__law_sheet : PySem.W.nsIn K mainGlobals "_law_sheet" = some (some (.ref f__law_sheet)))
    (l__law_sheet : K.lookup f__law_sheet = some ⟨oc__law_sheet, od__law_sheet, .func (PySem.W.fnOf "_law_sheet" "_law_sheet" (defArgs (tp 19)) (defBody (tp 19)) (defScope (tp 19)) .none kV__law_sheet dc__law_sheet pm__law_sheet an__law_sheet cd__law_sheet ct__law_sheet), sl__law_sheet⟩)
    (c__law_sheet : PySem.W.codeIn K cd__law_sheet "_law_sheet" = true)
    (k__law_sheet : PySem.W.keepIn K (.ref f__law_sheet) = true)
    (a_sheet_text : PySem.W.nsIn K mainGlobals "sheet_text" = some (some (.ref f_sheet_text)))
    (l_sheet_text : K.lookup f_sheet_text = some ⟨oc_sheet_text, od_sheet_text, .func (PySem.W.fnOf "sheet_text" "sheet_text" (defArgs (tp 12)) (defBody (tp 12)) (defScope (tp 12)) .none kV_sheet_text dc_sheet_text pm_sheet_text an_sheet_text cd_sheet_text ct_sheet_text), sl_sheet_text⟩)
    (c_sheet_text : PySem.W.codeIn K cd_sheet_text "sheet_text" = true)
    (k_sheet_text : PySem.W.keepIn K (.ref f_sheet_text) = true)
    (a_is_colour : PySem.W.nsIn K mainGlobals "is_colour" = some (some (.ref f_is_colour)))
    (l_is_colour : K.lookup f_is_colour = some ⟨oc_is_colour, od_is_colour, .func (PySem.W.fnOf "is_colour" "is_colour" (defArgs (tp 4)) (defBody (tp 4)) (defScope (tp 4)) .none kV_is_colour dc_is_colour pm_is_colour an_is_colour cd_is_colour ct_is_colour), sl_is_colour⟩)
    (c_is_colour : PySem.W.codeIn K cd_is_colour "is_colour" = true)
    (k_is_colour : PySem.W.keepIn K (.ref f_is_colour) = true)
    (a_fits : PySem.W.nsIn K mainGlobals "fits" = some (some (.ref f_fits)))
    (l_fits : K.lookup f_fits = some ⟨oc_fits, od_fits, .func (PySem.W.fnOf "fits" "fits" (defArgs (tp 11)) (defBody (tp 11)) (defScope (tp 11)) .none kV_fits dc_fits pm_fits an_fits cd_fits ct_fits), sl_fits⟩)
    (c_fits : PySem.W.codeIn K cd_fits "fits" = true)
    (k_fits : PySem.W.keepIn K (.ref f_fits) = true)
    (a_mark_of : PySem.W.nsIn K mainGlobals "mark_of" = some (some (.ref f_mark_of)))
    (l_mark_of : K.lookup f_mark_of = some ⟨oc_mark_of, od_mark_of, .func (PySem.W.fnOf "mark_of" "mark_of" (defArgs (tp 15)) (defBody (tp 15)) (defScope (tp 15)) .none kV_mark_of dc_mark_of pm_mark_of an_mark_of cd_mark_of ct_mark_of), sl_mark_of⟩)
    (c_mark_of : PySem.W.codeIn K cd_mark_of "mark_of" = true)
    (k_mark_of : PySem.W.keepIn K (.ref f_mark_of) = true)
    (a_pick_of : PySem.W.nsIn K mainGlobals "pick_of" = some (some (.ref f_pick_of)))
    (l_pick_of : K.lookup f_pick_of = some ⟨oc_pick_of, od_pick_of, .func (PySem.W.fnOf "pick_of" "pick_of" (defArgs (tp 14)) (defBody (tp 14)) (defScope (tp 14)) .none kV_pick_of dc_pick_of pm_pick_of an_pick_of cd_pick_of ct_pick_of), sl_pick_of⟩)
    (c_pick_of : PySem.W.codeIn K cd_pick_of "pick_of" = true)
    (k_pick_of : PySem.W.keepIn K (.ref f_pick_of) = true)
    (a_sheet_of : PySem.W.nsIn K mainGlobals "sheet_of" = some (some (.ref f_sheet_of)))
    (l_sheet_of : K.lookup f_sheet_of = some ⟨oc_sheet_of, od_sheet_of, .func (PySem.W.fnOf "sheet_of" "sheet_of" (defArgs (tp 13)) (defBody (tp 13)) (defScope (tp 13)) .none kV_sheet_of dc_sheet_of pm_sheet_of an_sheet_of cd_sheet_of ct_sheet_of), sl_sheet_of⟩)
    (c_sheet_of : PySem.W.codeIn K cd_sheet_of "sheet_of" = true)
    (k_sheet_of : PySem.W.keepIn K (.ref f_sheet_of) = true)
    (a_law : PySem.W.nsIn K mainGlobals "law" = some (some (.ref f_law)))
    (l_law : K.lookup f_law = some ⟨oc_law, od_law, .func (PySem.W.fnOf "law" "law" (defArgs (tp 21)) (defBody (tp 21)) (defScope (tp 21)) .none kV_law dc_law pm_law an_law cd_law ct_law), sl_law⟩)
    (c_law : PySem.W.codeIn K cd_law "law" = true)
    (k_law : PySem.W.keepIn K (.ref f_law) = true)
    (z_abs : PySem.W.nsIn K mainGlobals "abs" = some none)
    (z_all : PySem.W.nsIn K mainGlobals "all" = some none)
    (z_any : PySem.W.nsIn K mainGlobals "any" = some none)
    (z_bool : PySem.W.nsIn K mainGlobals "bool" = some none)
    (z_int : PySem.W.nsIn K mainGlobals "int" = some none)
    (z_isinstance : PySem.W.nsIn K mainGlobals "isinstance" = some none)
    (z_len : PySem.W.nsIn K mainGlobals "len" = some none)
    (z_list : PySem.W.nsIn K mainGlobals "list" = some none)
    (z_range : PySem.W.nsIn K mainGlobals "range" = some none)
    (z_str : PySem.W.nsIn K mainGlobals "str" = some none)
    (z_tuple : PySem.W.nsIn K mainGlobals "tuple" = some none)
    (z_zip : PySem.W.nsIn K mainGlobals "zip" = some none)
    (g_MOST_PICKS : PySem.W.nsIn K mainGlobals "MOST_PICKS" = some (some (.int 60 t_MOST_PICKS)))
    (g_MOST_TABLETS : PySem.W.nsIn K mainGlobals "MOST_TABLETS" = some (some (.int 8 t_MOST_TABLETS)))
    (g_SIDES : PySem.W.nsIn K mainGlobals "SIDES" = some (some (.ref d_SIDES)))
    (m_SIDES : K.lookup d_SIDES = some { cls := .type "tuple", data := .seq #[.str (Str.ofString "face") x_SIDES0, .str (Str.ofString "back") x_SIDES1, .str (Str.ofString "slant") x_SIDES2] e_SIDES })
    (g_SLANT_SIGNS : PySem.W.nsIn K mainGlobals "SLANT_SIGNS" = some (some (.ref d_SLANT_SIGNS)))
    (m_SLANT_SIGNS : K.lookup d_SLANT_SIGNS = some { cls := .type "tuple", data := .seq #[.str (Str.ofString "s") x_SLANT_SIGNS0, .str (Str.ofString "z") x_SLANT_SIGNS1, .str (Str.ofString "o") x_SLANT_SIGNS2] e_SLANT_SIGNS })
    (g_WORN : PySem.W.nsIn K mainGlobals "WORN" = some (some (.str (Str.ofString "?") t_WORN)))
    : ∃ fd : FuncData, (∀ (s : Shared) (v : Value), BindsTo s fd ⟨[v], []⟩ [("_law_script", v)]) ∧ ∀ base : Heap, K.In base → base.Ns mainGlobals mg → FnOk l.prog w K mg base CX0 27 fa fd ["_law_script"] (spLaw K) := by
  have e := hfa.symm.trans (PySem.W.mg_of X G a_law)
  cases e
  have F__law_same := fun_mk (st := tp 20) l__law_same c__law_same k__law_same
  have b__law_same := F__law_same.binds (ps := ["_law_found", "_law_due"]) fun _ _ _ _ _ _ us hl => match us, hl with | [_, _], _ => rfl
  have F__law_at := fun_mk (st := tp 18) l__law_at c__law_at k__law_at
  have b__law_at := F__law_at.binds (ps := ["_law_script", "_law_k"]) fun _ _ _ _ _ _ us hl => match us, hl with | [_, _], _ => rfl
  have F__law_row := fun_mk (st := tp 17) l__law_row c__law_row k__law_row
  have b__law_row := F__law_row.binds (ps := ["_law_cell", "_law_many", "_law_base"]) fun _ _ _ _ _ _ us hl => match us, hl with | [_, _, _], _ => rfl
  have F__law_sheet := fun_mk (st := tp 19) l__law_sheet c__law_sheet k__law_sheet
  have b__law_sheet := F__law_sheet.binds (ps := ["_law_script", "_law_at_here", "_law_wide", "_law_tall"]) fun _ _ _ _ _ _ us hl => match us, hl with | [_, _, _, _], _ => rfl
  have F_sheet_text := fun_mk (st := tp 12) l_sheet_text c_sheet_text k_sheet_text
  have b_sheet_text := F_sheet_text.binds (ps := ["sheet"]) fun _ _ _ _ _ _ us hl => match us, hl with | [_], _ => rfl
  have F_is_colour := fun_mk (st := tp 4) l_is_colour c_is_colour k_is_colour
  have b_is_colour := F_is_colour.binds (ps := ["text"]) fun _ _ _ _ _ _ us hl => match us, hl with | [_], _ => rfl
  have F_fits := fun_mk (st := tp 11) l_fits c_fits k_fits
  have b_fits := F_fits.binds (ps := ["side", "sign"]) fun _ _ _ _ _ _ us hl => match us, hl with | [_, _], _ => rfl
  have F_mark_of := fun_mk (st := tp 15) l_mark_of c_mark_of k_mark_of
  have b_mark_of := F_mark_of.binds (ps := ["word"]) fun _ _ _ _ _ _ us hl => match us, hl with | [_], _ => rfl
  have F_pick_of := fun_mk (st := tp 14) l_pick_of c_pick_of k_pick_of
  have b_pick_of := F_pick_of.binds (ps := ["line"]) fun _ _ _ _ _ _ us hl => match us, hl with | [_], _ => rfl
  have F_sheet_of := fun_mk (st := tp 13) l_sheet_of c_sheet_of k_sheet_of
  have b_sheet_of := F_sheet_of.binds (ps := ["text"]) fun _ _ _ _ _ _ us hl => match us, hl with | [_], _ => rfl
  have F_law := fun_mk (st := tp 21) l_law c_law k_law
  have b_law := F_law.binds (ps := ["_law_script"]) fun _ _ _ _ _ _ us hl => match us, hl with | [_], _ => rfl
  have h_abs := PySem.W.mg_none_of X G z_abs
  have h_all := PySem.W.mg_none_of X G z_all
  have h_any := PySem.W.mg_none_of X G z_any
  have h_bool := PySem.W.mg_none_of X G z_bool
  have h_int := PySem.W.mg_none_of X G z_int
  have h_isinstance := PySem.W.mg_none_of X G z_isinstance
  have h_len := PySem.W.mg_none_of X G z_len
  have h_list := PySem.W.mg_none_of X G z_list
  have h_range := PySem.W.mg_none_of X G z_range
  have h_str := PySem.W.mg_none_of X G z_str
  have h_tuple := PySem.W.mg_none_of X G z_tuple
  have h_zip := PySem.W.mg_none_of X G z_zip
  have h_MOST_PICKS := PySem.W.mg_of X G g_MOST_PICKS
  have h_MOST_TABLETS := PySem.W.mg_of X G g_MOST_TABLETS
  have h_SIDES := PySem.W.mg_of X G g_SIDES
  have T_SIDES : ∀ H, SqT K H d_SIDES [.str (Str.ofString "face"), .str (Str.ofString "back"), .str (Str.ofString "slant")] := fun H => .inr ⟨_, _, _, m_SIDES, rfl, rfl, (by show 3 ≤ sizeLine; decide), (.cons ⟨_, rfl⟩ (.cons ⟨_, rfl⟩ (.cons ⟨_, rfl⟩ .nil)))⟩
  have h_SLANT_SIGNS := PySem.W.mg_of X G g_SLANT_SIGNS
  have T_SLANT_SIGNS : ∀ H, SqT K H d_SLANT_SIGNS [.str (Str.ofString "s"), .str (Str.ofString "z"), .str (Str.ofString "o")] := fun H => .inr ⟨_, _, _, m_SLANT_SIGNS, rfl, rfl, (by show 3 ≤ sizeLine; decide), (.cons ⟨_, rfl⟩ (.cons ⟨_, rfl⟩ (.cons ⟨_, rfl⟩ .nil)))⟩
  have h_WORN := PySem.W.mg_of X G g_WORN
  refine ⟨PySem.W.fnOf "law" "law" (defArgs (tp 21)) (defBody (tp 21)) (defScope (tp 21)) .none kV_law dc_law pm_law an_law cd_law ct_law, fun s v => .of_eq rfl, fun base KB _ => ?_⟩
  have SA : ∀ n : Nat, Cal l.prog w K mg base "_law_same" ["_law_found", "_law_due"] n (spSame2 K n) := fun n => by
    induction n with
    | zero => exact ⟨f__law_same, _, ok_none, PySem.W.mg_of X G a__law_same, k__law_same, b__law_same⟩
    | succ n ih => exact ⟨f__law_same, _, ok_same1 F__law_same h_len h_isinstance h_bool h_int h_str h_list h_tuple h_zip ih, PySem.W.mg_of X G a__law_same, k__law_same, b__law_same⟩
  have C__law_same := SA 26
  have C__law_at : Cal l.prog w K mg base "_law_at" ["_law_script", "_law_k"] (1) (spM2 (isScr K) isI (rs isI) m_l_at) := ⟨f__law_at, _, r_l_at F__law_at h_len, PySem.W.mg_of X G a__law_at, k__law_at, b__law_at⟩
  have C__law_row : Cal l.prog w K mg base "_law_row" ["_law_cell", "_law_many", "_law_base"] (1) (spM3 isI isI isI (ro isI) m_l_row) := ⟨f__law_row, _, r_l_row F__law_row h_abs h_range, PySem.W.mg_of X G a__law_row, k__law_row, b__law_row⟩
  have C__law_sheet : Cal l.prog w K mg base "_law_sheet" ["_law_script", "_law_at_here", "_law_wide", "_law_tall"] (2) (spM4 (isScr K) isI isI isI (ro (isL (isT3 K isS isS isS))) m_l_sheet) := ⟨f__law_sheet, _, r_l_sheet F__law_sheet C__law_row C__law_at h_range, PySem.W.mg_of X G a__law_sheet, k__law_sheet, b__law_sheet⟩
  have C_sheet_text : Cal l.prog w K mg base "sheet_text" ["sheet"] (1) (spM1 (isL (isL (isT3 K isS isS isS))) (rs isS) m_sheet_text) := ⟨f_sheet_text, _, r_sheet_text F_sheet_text , PySem.W.mg_of X G a_sheet_text, k_sheet_text, b_sheet_text⟩
  have C_is_colour : Cal l.prog w K mg base "is_colour" ["text"] (1) (spM1 isS (rs isB) m_is_colour) := ⟨f_is_colour, _, r_is_colour F_is_colour h_len, PySem.W.mg_of X G a_is_colour, k_is_colour, b_is_colour⟩
  have C_fits : Cal l.prog w K mg base "fits" ["side", "sign"] (2) (spM2 isS isS (rs isB) m_fits) := ⟨f_fits, _, r_fits F_fits C_is_colour h_SLANT_SIGNS T_SLANT_SIGNS, PySem.W.mg_of X G a_fits, k_fits, b_fits⟩
  have C_mark_of : Cal l.prog w K mg base "mark_of" ["word"] (3) (spM1 isS (rs (isT3 K isS isS isS)) m_mark_of) := ⟨f_mark_of, _, r_mark_of F_mark_of C_fits h_all h_len h_zip h_SIDES T_SIDES h_WORN, PySem.W.mg_of X G a_mark_of, k_mark_of, b_mark_of⟩
  have C_pick_of : Cal l.prog w K mg base "pick_of" ["line"] (4) (spM1 isS (ro (isT3 K isS isS isS)) m_pick_of) := ⟨f_pick_of, _, r_pick_of F_pick_of C_mark_of, PySem.W.mg_of X G a_pick_of, k_pick_of, b_pick_of⟩
  have C_sheet_of : Cal l.prog w K mg base "sheet_of" ["text"] (5) (spM1 isS (ron (isT3 K isS isS isS)) m_sheet_of) := ⟨f_sheet_of, _, r_sheet_of F_sheet_of C_pick_of h_any h_len h_MOST_PICKS h_MOST_TABLETS, PySem.W.mg_of X G a_sheet_of, k_sheet_of, b_sheet_of⟩
  exact FnOk.imp (r_law F_law C__law_at C__law_sheet C_sheet_text C__law_same C_sheet_of h_list) law_imp
theorem walk {l : PySem.W.OpenLaw} {q : Program} {loose : List Str} {XP : (Str → Option Value) → Heap → Prop} {YP : World → Heap → Prop} {d : DefRec} {K : Params → PySem.W.Frag} (hn : l.most = some 63) (hdf : d.params.defaults = []) (hY : ∀ (w : World) (h : Heap), YP w h → (K w.params).In h)
    (F : ∀ (w : World) (mg : Str → Option Value) (fa : Addr) (h : Heap), (K w.params).In h → h.Ns mainGlobals mg → mg d.name = some (.ref fa) → ∃ fd : FuncData, (∀ (s : Shared) (u : Value), BindsTo s fd ⟨[u], []⟩ [("_law_script", u)]) ∧ ∀ base : Heap, (K w.params).In base → base.Ns mainGlobals mg → FnOk l.prog w (K w.params) mg base CX0 27 fa fd ["_law_script"] (spLaw (K w.params))) :
    PySem.W.WalkO q loose XP YP l.row.toRowW d [] (fun f vs => PySem.call f vs) :=
  L2.walk_of (n := 63) (k := 27) (x := "_law_script") (CX := fun _ => CX0) (sp := fun w => spLaw (K w.params)) hn (by decide) hdf ⟨rfl, by decide, by decide⟩ hY F (fun _ _ a ns hl _ hS => ⟨a, ns, rfl, hS, hl, fun _ => rfl⟩) fun _ _ _ _ _ z => z
end Wb
open PySem PySem.W PyProof.Rows
set_option maxRecDepth 100000 in
set_option maxHeartbeats 0 in
theorem PySem.Challenge.cw_wornband_k24_sheets_written_holds : PySem.Challenge.rw_wornband_k24_sheets_written.Holds := by
  refine hd ?_
  k_fill
  refine Wb.walk (l := PySem.Challenge.rw_wornband_k24_sheets_written) rfl rfl (fun w h Y => PySem.W.kIn_of Y) ?F
  case F =>
    intro w mg fa h KX G hmg
    refine' Wb.fin_mk KX G hmg ?a__law_same ?l__law_same ?c__law_same ?k__law_same ?a__law_at ?l__law_at ?c__law_at ?k__law_at ?a__law_row ?l__law_row ?c__law_row ?k__law_row ?a__law_sheet ?l__law_sheet ?c__law_sheet ?k__law_sheet ?a_sheet_text ?l_sheet_text ?c_sheet_text ?k_sheet_text ?a_is_colour ?l_is_colour ?c_is_colour ?k_is_colour ?a_fits ?l_fits ?c_fits ?k_fits ?a_mark_of ?l_mark_of ?c_mark_of ?k_mark_of ?a_pick_of ?l_pick_of ?c_pick_of ?k_pick_of ?a_sheet_of ?l_sheet_of ?c_sheet_of ?k_sheet_of ?a_law ?l_law ?c_law ?k_law ?z_abs ?z_all ?z_any ?z_bool ?z_int ?z_isinstance ?z_len ?z_list ?z_range ?z_str ?z_tuple ?z_zip ?g_MOST_PICKS ?g_MOST_TABLETS ?g_SIDES ?m_SIDES ?g_SLANT_SIGNS ?m_SLANT_SIGNS ?g_WORN
    (case a__law_same => k_is)
    (case l__law_same => k_is)
    (case c__law_same => k_is)
    (case k__law_same => k_is)
    (case a__law_at => k_is)
    (case l__law_at => k_is)
    (case c__law_at => k_is)
    (case k__law_at => k_is)
    (case a__law_row => k_is)
    (case l__law_row => k_is)
    (case c__law_row => k_is)
    (case k__law_row => k_is)
    (case a__law_sheet => k_is)
    (case l__law_sheet => k_is)
    (case c__law_sheet => k_is)
    (case k__law_sheet => k_is)
    (case a_sheet_text => k_is)
    (case l_sheet_text => k_is)
    (case c_sheet_text => k_is)
    (case k_sheet_text => k_is)
    (case a_is_colour => k_is)
    (case l_is_colour => k_is)
    (case c_is_colour => k_is)
    (case k_is_colour => k_is)
    (case a_fits => k_is)
    (case l_fits => k_is)
    (case c_fits => k_is)
    (case k_fits => k_is)
    (case a_mark_of => k_is)
    (case l_mark_of => k_is)
    (case c_mark_of => k_is)
    (case k_mark_of => k_is)
    (case a_pick_of => k_is)
    (case l_pick_of => k_is)
    (case c_pick_of => k_is)
    (case k_pick_of => k_is)
    (case a_sheet_of => k_is)
    (case l_sheet_of => k_is)
    (case c_sheet_of => k_is)
    (case k_sheet_of => k_is)
    (case a_law => k_is)
    (case l_law => k_is)
    (case c_law => k_is)
    (case k_law => k_is)
    (case z_abs => k_is)
    (case z_all => k_is)
    (case z_any => k_is)
    (case z_bool => k_is)
    (case z_int => k_is)
    (case z_isinstance => k_is)
    (case z_len => k_is)
    (case z_list => k_is)
    (case z_range => k_is)
    (case z_str => k_is)
    (case z_tuple => k_is)
    (case z_zip => k_is)
    (case g_MOST_PICKS => k_is)
    (case g_MOST_TABLETS => k_is)
    (case g_SIDES => k_is)
    (case m_SIDES => k_is)
    (case g_SLANT_SIGNS => k_is)
    (case m_SLANT_SIGNS => k_is)
    (case g_WORN => k_is)
