import PyProof.Rows.All
import Wide.All
import OpenK.AllK
import Wide.FinOn
import PyProof.EqAt
import PyProof.EqKinds
import PyProof.TupleCall
import KE.KDictSum
import KE.KRevIter
import KE.KRevSl
import KE.KDictLaws
import PyProof.StrLawsFirst
import KE.LcSums
import PyProof.EnumMake
import PyProof.TupleIter
import PyProof.StationsW
import PyProof.Rows.Own
import PyProof.NsDelKeeps
import PyProof.RulesAs
import PyProof.ExcAttrAll.ValueError
import KE.KIsAll
import PyProof.ExcBaseAll.ValueError
import PyProof.Rows.FStr
import PyProof.FString
import PyProof.Rows.StrNews
import PyProof.StrLawsTight
import PyProof.StrLawsChain
import PySem.Challenge.RW_wornband_k10_packs_back_to_plans
set_option Elab.async false
set_option linter.all false
set_option maxRecDepth 100000
namespace L2
open PySem PySem.Spec PyProof.Rows
abbrev Key := Sum Int Str
def keyIs : Key → Value → Bool
  | .inl k, v => Value.isInt k v
  | .inr x, v => Value.isStrOf x v
def keyH (w : World) : Key → Int
  | .inl k => hashInt k
  | .inr x => hashStr w x
theorem keyIs_shape : ∀ {k : Key} {v : Value}, keyIs k v = true → (∃ i t, k = Sum.inl i ∧ v = Value.int i t) ∨ (∃ x t, k = Sum.inr x ∧ v = Value.str x t)
  | .inl i, v, h => by
    obtain ⟨t, e⟩ := Value.isInt_shape (k := i) (v := v) h
    exact .inl ⟨i, t, rfl, e⟩
  | .inr x, v, h => by
    obtain ⟨t, e⟩ := Value.isStrOf_shape (x := x) (v := v) h
    exact .inr ⟨x, t, rfl, e⟩
theorem keyIs_int (i : Int) (t : Tok) : keyIs (.inl i) (.int i t) = true := by simp [keyIs, Value.isInt]
theorem keyIs_str (x : Str) (t : Tok) : keyIs (.inr x) (.str x t) = true := by simp [keyIs, Value.isStrOf]
theorem key_ll (a b : Int) : decide ((Sum.inl a : Key) = Sum.inl b) = (a == b) := by
  by_cases e : a = b
  · subst e; simp
  · have h : ¬ (Sum.inl a : Key) = Sum.inl b := fun q => e (Sum.inl.inj q)
    rw [decide_eq_false h]
    exact (beq_eq_false_iff_ne.mpr e).symm
theorem key_rr (a b : Str) : decide ((Sum.inr a : Key) = Sum.inr b) = decide (a = b) := by
  by_cases e : a = b
  · subst e; simp
  · have h : ¬ (Sum.inr a : Key) = Sum.inr b := fun q => e (Sum.inr.inj q)
    rw [decide_eq_false h, decide_eq_false e]
theorem key_lr (a : Int) (b : Str) : decide ((Sum.inl a : Key) = Sum.inr b) = false := decide_eq_false (fun q => nomatch q)
theorem key_rl (a : Str) (b : Int) : decide ((Sum.inr a : Key) = Sum.inl b) = false := decide_eq_false (fun q => nomatch q)
def mixKind (prog : Program) (w : World) : PySem.KeyKind prog w Key where
  is := keyIs
  hash := keyH w
  inj := fun v a b ha hb => by
    rcases keyIs_shape ha with ⟨i, t, rfl, rfl⟩ | ⟨x, t, rfl, rfl⟩
    · rcases keyIs_shape hb with ⟨j, u, rfl, e⟩ | ⟨y, u, rfl, e⟩
      · injection e with e1 _; rw [e1]
      · exact nomatch e
    · rcases keyIs_shape hb with ⟨j, u, rfl, e⟩ | ⟨y, u, rfl, e⟩
      · exact nomatch e
      · injection e with e1 _; rw [e1]
  byValue := fun k v h => by
    rcases keyIs_shape h with ⟨i, t, rfl, rfl⟩ | ⟨x, t, rfl, rfl⟩ <;> rfl
  pyHash := fun hv h => by
    rcases keyIs_shape hv with ⟨i, t, rfl, rfl⟩ | ⟨x, t, rfl, rfl⟩
    · exact wpAny_pyHash_int h
    · exact wpAny_pyHash_str h
  eqBool := fun hu hv h => by
    rcases keyIs_shape hu with ⟨i, t, rfl, rfl⟩ | ⟨x, t, rfl, rfl⟩
    · rcases keyIs_shape hv with ⟨j, u, rfl, rfl⟩ | ⟨y, u, rfl, rfl⟩
      · rw [key_ll] at h; exact wpAny_eqBool_int h
      · rw [key_lr] at h; exact SeqAt.EqAt.int_str i t y u _ _ _ _ h
    · rcases keyIs_shape hv with ⟨j, u, rfl, rfl⟩ | ⟨y, u, rfl, rfl⟩
      · rw [key_rl] at h; exact SeqAt.EqAt.str_int x t j u _ _ _ _ h
      · rw [key_rr] at h; exact wpAny_eqBool_str h
  «strs» := fun k x t v h => by
    rcases keyIs_shape h with ⟨i, u, rfl, e⟩ | ⟨y, u, rfl, e⟩
    · exact nomatch e
    · injection e with e1 _
      subst e1
      cases v <;> rfl
theorem mixKind_int (prog : Program) (w : World) (i : Int) (t : Tok) : (mixKind prog w).is (.inl i) (.int i t) = true := keyIs_int i t
theorem mixKind_str (prog : Program) (w : World) (x : Str) (t : Tok) : (mixKind prog w).is (.inr x) (.str x t) = true := keyIs_str x t
end L2
namespace L2
open PySem PySem.Spec PyProof.Rows
inductive V where
  | non | bl (b : Bool) | int (i : Int) | str (x : Str) | byt (b : Array UInt8) | flt (b : UInt64) | ref (a : Addr) | ty (n : String)
  deriving DecidableEq
def RelV : V → Value → Prop
  | .non, u => u = Value.none
  | .bl b, u => u = Value.bool b
  | .int i, u => ∃ t, u = Value.int i t
  | .str x, u => ∃ t, u = Value.str x t
  | .byt b, u => ∃ t, u = Value.bytes b t
  | .flt b, u => ∃ t, u = Value.float b t
  | .ref a, u => u = Value.ref a
  | .ty n, u => u = Value.type n
abbrev Vals : List V → List Value → Prop := Paired RelV
theorem Vals.length {xs : List V} {us : List Value} (r : Vals xs us) : xs.length = us.length := Paired.length r
theorem Vals.get : ∀ {xs : List V} {us : List Value} {i : Nat} {x : V}, Vals xs us → xs[i]? = some x → ∃ u, us[i]? = some u ∧ RelV x u
  | _, _, _, _, .nil, e => by simp at e
  | _, _, 0, _, .cons r _, e => by simp at e; subst e; exact ⟨_, rfl, r⟩
  | _, _, i + 1, x, .cons _ t, e => by
    obtain ⟨u, h1, h2⟩ := Vals.get (i := i) (x := x) t (by simpa using e)
    exact ⟨u, by simpa using h1, h2⟩
theorem Vals.append : ∀ {xs ys : List V} {us ws : List Value}, Vals xs us → Vals ys ws → Vals (xs ++ ys) (us ++ ws)
  | _, _, _, _, .nil, s => s
  | _, _, _, _, .cons r t, s => .cons r (Vals.append t s)
theorem Vals.take : ∀ {xs : List V} {us : List Value} (n : Nat), Vals xs us → Vals (xs.take n) (us.take n)
  | _, _, 0, _ => .nil
  | _, _, _ + 1, .nil => .nil
  | _, _, n + 1, .cons r t => .cons r (Vals.take n t)
theorem Vals.drop : ∀ {xs : List V} {us : List Value} (n : Nat), Vals xs us → Vals (xs.drop n) (us.drop n)
  | _, _, 0, r => r
  | _, _, _ + 1, .nil => .nil
  | _, _, n + 1, .cons _ t => Vals.drop n t
def RelO : Option V → Option Value → Prop
  | some v, some u => RelV v u
  | none, none => True
  | _, _ => False
def KV {κ : Type} : List (κ × V) → List (κ × Value) → Prop := Paired fun (p : κ × V) (q : κ × Value) => p.1 = q.1 ∧ RelV p.2 q.2
def kV : Key → V
  | .inl i => .int i
  | .inr x => .str x
inductive HO where
  | lst (xs : List V)
  | tup (xs : List V)
  | dK (kvs : List (Key × V)) | dT (kvs : List (List Key × V))
  | set (S : Int → Bool) (n : Nat)
  | ins (C dx : Addr) (fs : List (Str × V))
  | own (x : Addr)
  | xd (fs : List (Str × V))
  | met (f x : Addr)
  | rng (lo hi : Int)
  | frz (o : Obj) (u : HO)
  | tbl (ps : Array Value)
  | ext (φ : Heap → Prop)
abbrev Hp := Addr → Option HO
def upd (H : Hp) (a : Addr) (o : HO) : Hp := fun b => if b = a then some o else H b
theorem upd_same {H : Hp} {a : Addr} {o : HO} : upd H a o a = some o := by unfold upd; rw [if_pos rfl]
theorem upd_ne {H : Hp} {a b : Addr} {o : HO} (h : b ≠ a) : upd H a o b = H b := by unfold upd; rw [if_neg h]
theorem ne_of {H : Hp} {a b : Addr} {o u : HO} (h : H a = some o) (h' : H b = some u) (d : o ≠ u) : a ≠ b := by
  intro e; subst e; rw [h] at h'; exact d (Option.some.inj h')
theorem ne_of_none {H : Hp} {a b : Addr} {o : HO} (h : H a = some o) (h' : H b = none) : a ≠ b := by
  intro e; subst e; rw [h] at h'; cases h'
section
variable (P : Program) (w : World)
def ObjOk (H : Hp) (h : Heap) (a : Addr) : HO → Prop
  | .lst xs => xs.length ≤ sizeLine ∧ ∃ (its : List Value) (n : Nat), Vals xs its ∧ h.get? a = some { cls := .type "list", data := .seq its.toArray n }
  | .tup xs => xs.length ≤ sizeLine ∧ ∃ its : List Value, Vals xs its ∧ IsTup h a its.toArray
  | .dK kvs => kvs.length ≤ sizeLine ∧ (a == sysModules) = false ∧ ∃ vs, KV kvs vs ∧ h.DictOf (mixKind P w) a vs
  | .dT kvs => kvs.length ≤ sizeLine ∧ (a == sysModules) = false ∧ ∃ xs : List (List Key × Addr × Value),
      Paired (fun (p : List Key × V) (q : List Key × Addr × Value) => p.1 = q.1 ∧ H q.2.1 = some (.tup (p.1.map kV)) ∧ RelV p.2 q.2.2) kvs xs ∧
      ∃ o es ep, h.get? a = some o ∧ o.ExactDict ∧ o.data = .dict es ep ∧ es.toList = xs.map (entryOfKey (tupleKind (mixKind P w))) ∧ (xs.map (·.1)).Nodup
  | .set S n => h.SetOf (intKind P w) a S n
  | .ins C dx fs => H dx = some (.own a) ∧ fs.length ≤ 1000 ∧ dx ≠ a ∧ h.get? a = some (PySem.W.instObj C dx) ∧
      ∃ mA, h.Ns1 dx mA ∧ (∀ f, RelO (fs.lookup f) (mA f)) ∧ PySem.Within mA (fs.map (·.1))
  | .own _ => ∃ o, h.get? a = some o
  | .xd fs => ∃ mA, h.Ns1 a mA ∧ ∀ f, RelO (fs.lookup f) (mA f)
  | .rng lo hi => ∃ t u v, h.get? a = some { cls := .type "range", data := .fields #[.int lo t, .int hi u, .int 1 v] }
  | .frz o u => h.get? a = some o ∧ ObjOk H h a u
  | .tbl ps => h.get? a = some { cls := .none, data := .fields ps }
  | .met f x => h.get? a = some (PySem.W.methodObj (.ref f) (.ref x))
  | .ext φ => φ h ∧ (∃ o, h.get? a = some o) ∧ ∀ h1 h2 : Heap, φ h1 → (∀ o, h1.get? a = some o → h2.get? a = some o) → φ h2
def HOk (H : Hp) (h : Heap) : Prop := ∀ a o, H a = some o → ObjOk P w H h a o
end
section
variable {P : Program} {w : World} {H H' : Hp} {h h' : Heap} {a : Addr} {o : HO}
theorem ObjOk.lt (x : ObjOk P w H h a o) : a < h.objs.size := by
  cases o with
  | lst xs => obtain ⟨_, _, _, _, e⟩ := x; exact Heap.lt_size e
  | tup xs => obtain ⟨_, _, _, p⟩ := x; exact p.lt
  | dK kvs => obtain ⟨_, _, _, _, o, _, _, e, _⟩ := x; exact Heap.lt_size e
  | dT kvs => obtain ⟨_, _, _, _, o, _, _, e, _⟩ := x; exact Heap.lt_size e
  | set S n => obtain ⟨o, _, _, _, e, _⟩ := x; exact Heap.lt_size e
  | ins C dx fs => obtain ⟨_, _, _, e, _⟩ := x; exact Heap.lt_size e
  | own y => obtain ⟨_, e⟩ := x; exact Heap.lt_size e
  | xd fs => obtain ⟨_, ⟨_, _, _, e, _⟩, _⟩ := x; exact Heap.lt_size e
  | rng lo hi => obtain ⟨_, _, _, e⟩ := x; exact Heap.lt_size e
  | frz ob u => obtain ⟨e, _⟩ := x; exact Heap.lt_size e
  | tbl ps => exact Heap.lt_size (show h.get? a = some _ from x)
  | met f y => exact Heap.lt_size (show h.get? a = some _ from x)
  | ext φ => obtain ⟨_, ⟨_, e⟩, _⟩ := x; exact Heap.lt_size e
theorem Paired.mapP {α β : Type} {F G : α → β → Prop} : ∀ {l₁ : List α} {l₂ : List β}, Paired F l₁ l₂ → (∀ a b, F a b → G a b) → Paired G l₁ l₂
  | _, _, .nil, _ => .nil
  | _, _, .cons r t, f => .cons (f _ _ r) (Paired.mapP t f)
theorem ObjOk.stay (x : ObjOk P w H h a o) (k : ∀ b u, (b = a ∨ H b = some (.own a)) → h.get? b = some u → h'.get? b = some u)
    (ho : ∀ b, H b = some (.own a) → H' b = some (.own a)) (ht : ∀ b xs, H b = some (.tup xs) → H' b = some (.tup xs)) : ObjOk P w H' h' a o := by
  induction o with
  | lst xs => obtain ⟨z, its, n, r, e⟩ := x; exact ⟨z, its, n, r, k _ _ (.inl rfl) e⟩
  | tup xs => obtain ⟨z, its, r, ob, e, c⟩ := x; exact ⟨z, its, r, ob, k _ _ (.inl rfl) e, c⟩
  | dK kvs => obtain ⟨z, y, vs, r, ob, es, ep, e, c⟩ := x; exact ⟨z, y, vs, r, ob, es, ep, k _ _ (.inl rfl) e, c⟩
  | dT kvs =>
    obtain ⟨z, y, xs, r, ob, es, ep, e, c⟩ := x
    exact ⟨z, y, xs, Paired.mapP r fun p q z => ⟨z.1, ht _ _ z.2.1, z.2.2⟩, ob, es, ep, k _ _ (.inl rfl) e, c⟩
  | set S n => obtain ⟨ob, es, ep, t, e, c⟩ := x; exact ⟨ob, es, ep, t, k _ _ (.inl rfl) e, c⟩
  | ins C dx fs =>
    obtain ⟨d, z, ne, e, mA, ⟨od, es, ep, e2, c⟩, r⟩ := x
    exact ⟨ho _ d, z, ne, k _ _ (.inl rfl) e, mA, ⟨od, es, ep, k _ _ (.inr d) e2, c⟩, r⟩
  | own y => obtain ⟨ob, e⟩ := x; exact ⟨ob, k _ _ (.inl rfl) e⟩
  | xd fs => obtain ⟨mA, ⟨od, es, ep, e, c⟩, r⟩ := x; exact ⟨mA, ⟨od, es, ep, k _ _ (.inl rfl) e, c⟩, r⟩
  | rng lo hi => obtain ⟨t, u, v, e⟩ := x; exact ⟨t, u, v, k _ _ (.inl rfl) e⟩
  | frz ob u ih => obtain ⟨e, q⟩ := x; exact ⟨k _ _ (.inl rfl) e, ih q⟩
  | tbl ps =>
    have e : h.get? a = some { cls := .none, data := .fields ps } := x
    show h'.get? a = some { cls := .none, data := .fields ps }
    exact k a _ (.inl rfl) e
  | met f y =>
    have e : h.get? a = some (PySem.W.methodObj (.ref f) (.ref y)) := x
    show h'.get? a = some (PySem.W.methodObj (.ref f) (.ref y))
    exact k a _ (.inl rfl) e
  | ext φ => obtain ⟨p, ⟨o, e⟩, st⟩ := x; exact ⟨st _ _ p fun o q => k _ _ (.inl rfl) q, ⟨o, k _ _ (.inl rfl) e⟩, st⟩
theorem HOk.lt (x : HOk P w H h) (e : H a = some o) : a < h.objs.size := (x a o e).lt
theorem HOk.fresh (x : HOk P w H h) (e : h.objs.size ≤ a) : H a = none := by
  cases q : H a with
  | none => rfl
  | some u => exact absurd (Nat.lt_of_lt_of_le (x.lt q) e) (Nat.lt_irrefl _)
theorem HOk.kept (x : HOk P w H h) (k : ∀ b u, h.get? b = some u → h'.get? b = some u) : HOk P w H h' := fun a o e =>
  (x a o e).stay (fun b u _ q => k b u q) (fun _ q => q) fun _ _ q => q
theorem HOk.laid (x : HOk P w H h) (k : ∀ b u, h.get? b = some u → h'.get? b = some u) (hp : h.objs.size ≤ a) (new : ObjOk P w (upd H a o) h' a o) : HOk P w (upd H a o) h' := fun b u e => by
  have hn := x.fresh hp
  by_cases hb : b = a
  · subst hb; rw [upd_same] at e; cases e; exact new
  · rw [upd_ne hb] at e
    exact (x b u e).stay (fun c v _ q => k c v q) (fun c q => by rw [upd_ne (ne_of_none q hn)]; exact q) fun c xs q => by rw [upd_ne (ne_of_none q hn)]; exact q
end
def Rd (H : Hp) (a : Addr) (u : HO) : Prop := H a = some u ∨ ∃ o, H a = some (.frz o u)
theorem Rd.ok {P : Program} {w : World} {H : Hp} {h : Heap} {a : Addr} {u : HO} (r : Rd H a u) (x : HOk P w H h) : ObjOk P w H h a u := by
  rcases r with r | ⟨o, r⟩
  · exact x a u r
  · obtain ⟨_, q⟩ := x a _ r
    exact q
def Mut : Option HO → Prop
  | some (.lst _) => True
  | some (.dK _) => True
  | some (.dT _) => True
  | some (.set _ _) => True
  | some (.ins _ _ _) => True
  | some (.ext _) => True
  | _ => False
section
variable {P : Program} {w : World} {H : Hp} {h h' : Heap} {x e : Addr} {o' : HO}
theorem HOk.write (ok : HOk P w H h) (mu : Mut (H x)) (he : e = x ∨ H e = some (.own x)) (k : ∀ b u, b ≠ e → h.get? b = some u → h'.get? b = some u) (heo : ∃ u, h'.get? e = some u)
    (new : ObjOk P w (upd H x o') h' x o') : HOk P w (upd H x o') h' := fun b u q => by
  have nown : ∀ c y, H c = some (.own y) → c ≠ x := fun c y r z => by subst z; rw [r] at mu; exact mu
  have ntup : ∀ c xs, H c = some (.tup xs) → c ≠ x := fun c xs r z => by subst z; rw [r] at mu; exact mu
  by_cases hb : b = x
  · subst hb; rw [upd_same] at q; cases q; exact new
  · rw [upd_ne hb] at q
    by_cases hbe : b = e
    · have q' : H b = some (.own x) := by
        rcases he with z | z
        · exact absurd (hbe.trans z) hb
        · rw [hbe]; exact z
      rw [q] at q'; cases q'
      obtain ⟨v, hv⟩ := heo
      exact ⟨v, by rw [hbe]; exact hv⟩
    · refine (ok b u q).stay (fun c v hc r => k c v ?_ r) (fun c r => by rw [upd_ne (nown c b r)]; exact r) fun c xs r => by rw [upd_ne (ntup c xs r)]; exact r
      rcases hc with rfl | hc
      · exact hbe
      · rintro rfl
        rcases he with z | z
        · exact nown c b hc z
        · rw [hc] at z; cases z; exact hb rfl
end
structure Un (fs ex : List Addr) (H H' : Hp) (h h' : Heap) : Prop where
  keep : ∀ b o, h.get? b = some o → H b = none → b ∉ fs → b ∉ ex → h'.get? b = some o
  slot : ∀ b o, h.get? b = some o → H b = none → b ∈ fs → b ∉ ex → ∃ sl, h'.get? b = some { o with slots := sl }
  free : ∀ b o, h.get? b = some o → H b = none → b ∉ ex → H' b = none
  there : ∀ b o, h.get? b = some o → b ∉ ex → ∃ o', h'.get? b = some o'
  tups : ∀ b xs, H b = some (.tup xs) → H' b = some (.tup xs)
  frzs : ∀ b o u, H b = some (.frz o u) → H' b = some (.frz o u)
  tbls : ∀ b ps, H b = some (.tbl ps) → ∃ more, H' b = some (.tbl (ps ++ more))
section
variable {fs fs' ex ex' : List Addr} {H H1 H2 : Hp} {h h1 h2 h' : Heap} {a x e : Addr} {o : HO}
theorem Un.any (u : Un fs ex H H1 h h1) {b : Addr} {ob : Obj} (q : h.get? b = some ob) (n : H b = none) (hx : b ∉ ex) : ∃ sl, h1.get? b = some { ob with slots := sl } := by
  by_cases hb : b ∈ fs
  · exact u.slot b ob q n hb hx
  · exact ⟨ob.slots, u.keep b ob q n hb hx⟩
theorem Un.kept (k : ∀ b u, h.get? b = some u → h'.get? b = some u) : Un fs ex H H h h' :=
  ⟨fun b ob q _ _ _ => k b ob q, fun b ob q _ _ _ => ⟨ob.slots, k b ob q⟩, fun _ _ _ n _ => n, fun b ob q _ => ⟨ob, k b ob q⟩, fun _ _ q => q, fun _ _ _ q => q, fun _ ps q => ⟨#[], by rw [q]; simp⟩⟩
theorem Un.refl : Un fs ex H H h h := Un.kept fun _ _ q => q
theorem Un.laid (k : ∀ b u, h.get? b = some u → h'.get? b = some u) (hp : h.objs.size ≤ a) (hn : H a = none) : Un fs ex H (upd H a o) h h' where
  keep := fun b u q _ _ _ => k b u q
  slot := fun b u q _ _ _ => ⟨u.slots, k b u q⟩
  free := fun b u q n _ => by rw [upd_ne (Nat.ne_of_lt (Nat.lt_of_lt_of_le (Heap.lt_size q) hp))]; exact n
  there := fun b u q _ => ⟨u, k b u q⟩
  tups := fun b xs q => by rw [upd_ne (ne_of_none q hn)]; exact q
  frzs := fun b u xs q => by rw [upd_ne (ne_of_none q hn)]; exact q
  tbls := fun b ps q => ⟨#[], by rw [upd_ne (ne_of_none q hn), q]; simp⟩
theorem Un.write (mu : Mut (H x)) (he : e = x ∨ H e = some (.own x)) (k : ∀ b u, b ≠ e → h.get? b = some u → h'.get? b = some u) (heo : ∃ u, h'.get? e = some u) : Un fs ex H (upd H x o) h h' := by
  have hx : ∀ b, H b = none → b ≠ x := fun b n z => by subst z; rw [n] at mu; exact mu
  have hb : ∀ b, H b = none → b ≠ e := fun b n z => by
    subst z
    rcases he with r | r
    · exact hx b n r
    · rw [n] at r; cases r
  have hm : ∀ b u, H b = some u → ¬ Mut (some u) → b ≠ x := fun b u q nm z => by subst z; rw [q] at mu; exact nm mu
  refine ⟨fun b u q n _ _ => k b u (hb b n) q, fun b u q n _ _ => ⟨u.slots, k b u (hb b n) q⟩, fun b u q n _ => by rw [upd_ne (hx b n)]; exact n, fun b u q _ => ?_,
    fun b xs q => by rw [upd_ne (hm b _ q fun z => z)]; exact q, fun b u xs q => by rw [upd_ne (hm b _ q fun z => z)]; exact q, fun b ps q => ⟨#[], by rw [upd_ne (hm b _ q fun z => z), q]; simp⟩⟩
  by_cases hbe : b = e
  · subst hbe; exact heo
  · exact ⟨u, k b u hbe q⟩
end
def trk (h : Heap) (H : Hp) : List Addr := (List.range h.objs.size).filter fun a => (H a).isSome
def hidT (h : Heap) (H : Hp) : Heap := PySem.W.hideAll h (trk h H)
theorem hidT_size (h : Heap) (H : Hp) : (hidT h H).objs.size = h.objs.size := PySem.W.hideAll_size _ _
theorem hidT_get {h : Heap} {H : Hp} {b : Addr} {o : Obj} (e : h.get? b = some o) (n : H b = none) : (hidT h H).get? b = some o :=
  PySem.W.hideAll_get _ e fun hm => by
    have q : (H b).isSome = true := (List.mem_filter.mp hm).2
    rw [n] at q; simp at q
theorem of_hidT {h : Heap} {H : Hp} {b : Addr} {o : Obj} (e : (hidT h H).get? b = some o) : h.get? b = some o ∧ H b = none := by
  have e' : h.get? b = some o := PySem.W.of_hideAll (trk h H) e
  refine ⟨e', ?_⟩
  cases q : H b with
  | none => rfl
  | some x =>
    have hm : b ∈ trk h H := List.mem_filter.mpr ⟨List.mem_range.mpr (Heap.lt_size e'), by simp [q]⟩
    have z : (hidT h H).get? b = none := PySem.W.hideAll_none (trk h H) hm
    rw [z] at e; cases e
end L2
namespace L2
open PySem PySem.Spec PyProof.Rows
structure Mod (K : PySem.W.Frag) (mg : Str → Option Value) (base : Heap) : Prop where
  kin : K.In base
  glob : base.Ns mainGlobals mg
  blt : ∃ mb, base.Ns builtinsNs mb ∧ ∀ x : Str, x ≠ "__name__" → mb x = bootBuiltins x
  nolimit : base.NoLimit
structure Cx where
  prog : Program
  w : World
  K : PySem.W.Frag
  mg : Str → Option Value
  base : Heap
  A : Around
  N : List Str
  s₀ : Shared
  H₀ : Hp
  env : Env
  outer : List Env
  stack : List Env
  ex : List Addr
  fn : Str → Bool
  calm : Bool
  pn : List (Addr × Obj)
  xe : Value → Shared → Prop
def frs (l : List Env) : List Addr := l.filterMap (·.frame)
abbrev Cx.fs (X : Cx) : List Addr := frs X.outer
def Vis (sc : Scope) (x : Str) : Prop := sc.names.lookup x = some .local ∨ sc.names.lookup x = some .cell ∨ sc.names.lookup x = some .free
def Loc (sc : Scope) (x : Str) : Prop := sc.names.lookup x = some .local ∨ sc.names.lookup x = some .cell
def Look (env : Env) (h : Heap) (m : Str → Option Value) (x : Str) (u : Value) : Prop :=
  (env.kindOf x = some .local ∧ m x = some u) ∨ ((env.kindOf x = some .cell ∨ env.kindOf x = some .free) ∧ ∃ c, env.cells.lookup x = some c ∧ h.IsCell c (some u))
structure Cx.Ok (X : Cx) : Prop where
  mod : Mod X.K X.mg X.base
  kind : X.env.scope.kind = .function
  glob : X.env.globals = mainGlobals
  blt : X.env.builtins = builtinsNs
  above : X.s₀.heap.objs.size ≤ X.env.locals
  inj : ∀ x y c, X.env.cells.lookup x = some c → X.env.cells.lookup y = some c → x = y
  has : ∀ x, (X.env.kindOf x = some .cell ∨ X.env.kindOf x = some .free) → ∃ c, X.env.cells.lookup x = some c
  cab : ∀ x c, X.fn x = true → X.env.cells.lookup x = some c → X.s₀.heap.objs.size ≤ c
  hd : X.calm = true → X.A.handled = none
  frames : X.A.frames = some X.stack
  stk : X.stack = X.outer ∨ (X.stack = X.env :: X.outer ∧ X.env.frame = some X.env.locals)
  exf : ∀ b ∈ X.ex, b ≠ X.env.locals ∧ ∀ x c, X.env.cells.lookup x = some c → c ≠ b
  bs : ∀ b o, X.base.get? b = some o → X.s₀.heap.get? b = some o ∧ X.H₀ b = none
  bsz : X.base.objs.size ≤ X.s₀.heap.objs.size
  noex : ∀ b o, X.base.get? b = some o → b ∉ X.ex
  exfs : ∀ b ∈ X.ex, b ∉ X.fs
  funs : X.s₀.heap.FunFrames X.base X.outer
  frf : ∀ b ∈ X.fs, X.H₀ b = none
structure Inv (X : Cx) (pins : List (Addr × Obj)) (σ : List (Option V)) (H : Hp) (s : Shared) : Prop where
  ok : X.Ok
  os : s.os = X.s₀.os
  bare : AllBare s.gens
  base : Un X.fs X.ex X.H₀ H X.s₀.heap s.heap
  loc : ∃ m, s.heap.Ns X.env.locals m ∧ ∀ (i : Nat) (x : Str) (v : V), X.N[i]? = some x → σ[i]? = some (some v) → Vis X.env.scope x → ∃ u, RelV v u ∧ Look X.env s.heap m x u
  cell : ∀ x c, X.env.cells.lookup x = some c → ∃ v, s.heap.IsCell c v
  free : H X.env.locals = none
  freeC : ∀ x c, X.env.cells.lookup x = some c → H c = none
  pin : ∀ p ∈ X.pn ++ pins, s.heap.get? p.1 = some p.2 ∧ H p.1 = none ∧ p.1 ≠ X.env.locals ∧ p.1 ∉ X.fs ∧ ∀ v, p.2.data ≠ .cell v
  hok : HOk X.prog X.w H s.heap
  len : σ.length = X.N.length
section
variable {X : Cx} {pins : List (Addr × Obj)} {σ : List (Option V)} {H H' : Hp} {s : Shared} {h' : Heap}
theorem Cx.Ok.nofr (ok : X.Ok) {b : Addr} {o : Obj} (e : X.base.get? b = some o) : b ∉ X.fs := fun hb => by
  have := (ok.funs.mem hb).1
  rw [e] at this; cases this
theorem Inv.bs (I : Inv X pins σ H s) : ∀ b o, X.base.get? b = some o → s.heap.get? b = some o ∧ H b = none := fun b o e =>
  ⟨I.base.keep b o (I.ok.bs b o e).1 (I.ok.bs b o e).2 (I.ok.nofr e) (I.ok.noex b o e), I.base.free b o (I.ok.bs b o e).1 (I.ok.bs b o e).2 (I.ok.noex b o e)⟩
theorem Inv.bk (I : Inv X pins σ H s) : ∀ b o, X.base.get? b = some o → s.heap.get? b = some o := fun b o e => (I.bs b o e).1
theorem Inv.mod (I : Inv X pins σ H s) : Mod X.K X.mg X.base := I.ok.mod
theorem Inv.kIn (I : Inv X pins σ H s) : X.K.In s.heap := I.ok.mod.kin.keeps I.bk
theorem Inv.lt (I : Inv X pins σ H s) : X.env.locals < s.heap.objs.size := let ⟨_, hn, _⟩ := I.loc; hn.lt
theorem Inv.sz (I : Inv X pins σ H s) : X.s₀.heap.objs.size ≤ s.heap.objs.size := Nat.le_trans I.ok.above (Nat.le_of_lt I.lt)
theorem Inv.nofs (I : Inv X pins σ H s) {a : Addr} (h : s.heap.objs.size ≤ a) : a ∉ X.fs := fun hb => by
  obtain ⟨_, o, ho, _⟩ := I.ok.funs.mem hb
  exact absurd (Nat.lt_of_lt_of_le (Heap.lt_size ho) (Nat.le_trans I.sz h)) (Nat.lt_irrefl _)
theorem Inv.cne (I : Inv X pins σ H s) : ∀ x c, X.env.cells.lookup x = some c → c ≠ X.env.locals := fun x c e z => by
  obtain ⟨v, o, ho, hd⟩ := I.cell x c e
  obtain ⟨m, ⟨o', es, ep, ho', hd', _⟩, _⟩ := I.loc
  rw [z, ho'] at ho; cases ho; rw [hd'] at hd; cases hd
theorem Inv.funs (I : Inv X pins σ H s) : s.heap.FunFrames X.base X.outer := by
  have all : ∀ (l : List Env), (∀ b ∈ frs l, b ∈ X.fs) → X.s₀.heap.FunFrames X.base l → s.heap.FunFrames X.base l := by
    intro l
    induction l with
    | nil => intro _ _; trivial
    | cons env r ih =>
      intro hs hl
      obtain ⟨hk, ⟨L, o, hf, hn, ho, hd⟩, hr⟩ := hl
      have hL : L ∈ X.fs := hs L (by unfold frs; rw [List.filterMap_cons, hf]; exact List.mem_cons_self)
      obtain ⟨sl, e⟩ := I.base.slot L o ho (I.ok.frf L hL) hL fun z => I.ok.exfs L z hL
      exact ⟨hk, ⟨L, _, hf, hn, e, hd⟩, ih (fun b hb => hs b (by unfold frs; rw [List.filterMap_cons, hf]; exact List.mem_cons_of_mem _ hb)) hr⟩
  exact all X.outer (fun _ hb => hb) I.ok.funs
theorem Inv.stack (I : Inv X pins σ H s) : s.heap.FunFrames X.base X.stack := by
  rcases I.ok.stk with e | ⟨e, hf⟩
  · rw [e]; exact I.funs
  · rw [e]
    obtain ⟨m, hn, _⟩ := I.loc
    refine .cons (by rw [I.ok.kind]; decide) hf hn ?_ I.funs
    exact Heap.get?_none_of_le (Nat.le_trans I.ok.bsz I.ok.above)
theorem Inv.stkSub (I : Inv X pins σ H s) : ∀ b ∈ frs X.stack, b ∈ X.env.locals :: X.fs := fun b hb => by
  rcases I.ok.stk with e | ⟨e, hf⟩
  · rw [e] at hb; exact List.mem_cons_of_mem _ hb
  · rw [e] at hb
    unfold frs at hb
    rw [List.filterMap_cons, hf] at hb
    exact hb
theorem Inv.stkFree (I : Inv X pins σ H s) : ∀ b ∈ frs X.stack, H b = none := fun b hb => by
  rcases List.mem_cons.mp (I.stkSub b hb) with e | hb
  · rw [e]; exact I.free
  · obtain ⟨_, o, ho, _⟩ := I.ok.funs.mem hb
    exact I.base.free b o ho (I.ok.frf b hb) fun z => I.ok.exfs b z hb
theorem Inv.step {g' : Array GenState} {t' : Nat} {d' : Drawn} {ch : List Addr} (I : Inv X pins σ H s)
    (hch : ∀ b ∈ ch, (b ∈ X.ex ∨ X.s₀.heap.objs.size ≤ b) ∧ b ≠ X.env.locals ∧ (∀ x c, X.env.cells.lookup x = some c → c ≠ b) ∧ ∀ p ∈ X.pn ++ pins, p.1 ≠ b)
    (keep : ∀ b o, b ≠ X.env.locals → b ∉ X.fs → b ∉ ch → s.heap.get? b = some o → H b = none → h'.get? b = some o)
    (slot : ∀ b o, b ≠ X.env.locals → b ∈ X.fs → b ∉ ch → s.heap.get? b = some o → H b = none → ∃ sl, h'.get? b = some { o with slots := sl }) (free : ∀ b o, b ∉ ch → s.heap.get? b = some o → H b = none → H' b = none)
    (there : ∀ b o, b ∉ ch → s.heap.get? b = some o → ∃ o', h'.get? b = some o')
    (tups : ∀ b xs, H b = some (.tup xs) → H' b = some (.tup xs)) (frzs : ∀ b o u, H b = some (.frz o u) → H' b = some (.frz o u)) (tbls : ∀ b ps, H b = some (.tbl ps) → ∃ more, H' b = some (.tbl (ps ++ more)))
    (ns : ∀ m, s.heap.Ns X.env.locals m → h'.Ns X.env.locals m) (hok : HOk X.prog X.w H' h') (hg : AllBare g') :
    Inv X pins σ H' { s with heap := h', gens := g', drawn := d', toks := t' } := by
  have neL : ∀ b o, X.s₀.heap.get? b = some o → b ≠ X.env.locals := fun b o e => Nat.ne_of_lt (Nat.lt_of_lt_of_le (Heap.lt_size e) I.ok.above)
  have neC : ∀ b o, X.s₀.heap.get? b = some o → b ∉ X.ex → b ∉ ch := fun b o e hx hb => by
    rcases (hch b hb).1 with z | z
    · exact hx z
    · exact absurd (Nat.lt_of_lt_of_le (Heap.lt_size e) z) (Nat.lt_irrefl _)
  have cellK : ∀ x c, X.env.cells.lookup x = some c → ∀ v, s.heap.IsCell c v → h'.IsCell c v := fun x c e v ⟨o, ho, hd⟩ => by
    have nch : c ∉ ch := fun z => (hch c z).2.2.1 x c e rfl
    by_cases hc : c ∈ X.fs
    · obtain ⟨sl, q⟩ := slot c o (I.cne x c e) hc nch ho (I.freeC x c e)
      exact ⟨_, q, hd⟩
    · exact ⟨o, keep c o (I.cne x c e) hc nch ho (I.freeC x c e), hd⟩
  refine ⟨I.ok, I.os, hg, ⟨fun b o e n hb hx => ?_, fun b o e n hb hx => ?_, fun b o e n hx => ?_, fun b o e hx => ?_, fun b xs e => tups b xs (I.base.tups b xs e), fun b o xs e => frzs b o xs (I.base.frzs b o xs e), fun b ps e => ?_⟩, ?_, fun x c e => ?_, ?_, fun x c e => ?_, fun p hp => ?_, hok, I.len⟩
  · exact keep b o (neL b o e) hb (neC b o e hx) (I.base.keep b o e n hb hx) (I.base.free b o e n hx)
  · obtain ⟨sl, e1⟩ := I.base.slot b o e n hb hx
    obtain ⟨sl', e2⟩ := slot b _ (neL b o e) hb (neC b o e hx) e1 (I.base.free b o e n hx)
    exact ⟨sl', e2⟩
  · obtain ⟨o', e1⟩ := I.base.there b o e hx
    exact free b o' (neC b o e hx) e1 (I.base.free b o e n hx)
  · obtain ⟨o', e1⟩ := I.base.there b o e hx
    exact there b o' (neC b o e hx) e1
  · obtain ⟨m1, e1⟩ := I.base.tbls b ps e
    obtain ⟨m2, e2⟩ := tbls b _ e1
    exact ⟨m1 ++ m2, by rw [e2, Array.append_assoc]⟩
  · obtain ⟨m, hn, hl⟩ := I.loc
    refine ⟨m, ns m hn, fun i x v e1 e2 e3 => ?_⟩
    obtain ⟨u, r, l⟩ := hl i x v e1 e2 e3
    refine ⟨u, r, ?_⟩
    rcases l with l | ⟨k, c, e, z⟩
    · exact .inl l
    · exact .inr ⟨k, c, e, cellK x c e _ z⟩
  · obtain ⟨v, z⟩ := I.cell x c e
    exact ⟨v, cellK x c e v z⟩
  · obtain ⟨m, ⟨o, _, _, ho, _⟩, _⟩ := I.loc
    exact free _ o (fun z => (hch _ z).2.1 rfl) ho I.free
  · obtain ⟨v, o, ho, hd⟩ := I.cell x c e
    exact free c o (fun z => (hch c z).2.2.1 x c e rfl) ho (I.freeC x c e)
  · obtain ⟨e, n, ne, nf, d⟩ := I.pin p hp
    have nch : p.1 ∉ ch := fun z => (hch p.1 z).2.2.2 p hp rfl
    exact ⟨keep p.1 p.2 ne nf nch e n, free p.1 p.2 nch e n, ne, nf, d⟩
theorem Inv.un {t' : Nat} (I : Inv X pins σ H s) (u : Un X.fs [] H H' s.heap h') (hok : HOk X.prog X.w H' h') : Inv X pins σ H' { s with heap := h', toks := t' } := by
  obtain ⟨m, ⟨o, es, ep, ho, r⟩, _⟩ := id I.loc
  obtain ⟨sl, hL⟩ := u.any ho I.free (by simp)
  exact I.step (g' := s.gens) (d' := s.drawn) (ch := []) (fun _ z => nomatch z) (fun b o _ hb _ e n => u.keep b o e n hb (by simp)) (fun b o _ hb _ e n => u.slot b o e n hb (by simp)) (fun b o _ e n => u.free b o e n (by simp)) (fun b o _ e => u.there b o e (by simp)) u.tups u.frzs u.tbls (fun m' hm => by
    obtain ⟨o', es', ep', ho', r'⟩ := hm
    rw [ho] at ho'; cases ho'
    exact ⟨_, es', ep', hL, r'⟩) hok I.bare
theorem Inv.call {g' : Array GenState} {t' : Nat} {d' : Drawn} {ch : List Addr} (I : Inv X pins σ H s) (u : Un (frs X.stack) ch H H' s.heap h') (hok : HOk X.prog X.w H' h') (hg : AllBare g')
    (hch : ∀ b ∈ ch, (b ∈ X.ex ∨ X.s₀.heap.objs.size ≤ b) ∧ b ≠ X.env.locals ∧ (∀ x c, X.env.cells.lookup x = some c → c ≠ b) ∧ ∀ p ∈ X.pn ++ pins, p.1 ≠ b) :
    Inv X pins σ H' { s with heap := h', gens := g', drawn := d', toks := t' } := by
  obtain ⟨m, ⟨o, es, ep, ho, r⟩, _⟩ := id I.loc
  obtain ⟨sl, hL⟩ := u.any ho I.free fun z => (hch _ z).2.1 rfl
  exact I.step (ch := ch) hch (fun b o hL hb hc e n => u.keep b o e n (fun z => (List.mem_cons.mp (I.stkSub b z)).elim hL hb) hc) (fun b o _ _ hc e n => u.any e n hc) (fun b o hc e n => u.free b o e n hc) (fun b o hc e => u.there b o e hc) u.tups u.frzs u.tbls (fun m' hm => by
    obtain ⟨o', es', ep', ho', r'⟩ := hm
    rw [ho] at ho'; cases ho'
    exact ⟨_, es', ep', hL, r'⟩) hok hg
theorem Inv.turned {t' : Nat} {it : Addr} (I : Inv X pins σ H s) (k : ∀ b o, b ≠ it → s.heap.get? b = some o → h'.get? b = some o) (hn : H it = none) (hL : it ≠ X.env.locals)
    (h1 : it ∈ X.ex ∨ X.s₀.heap.objs.size ≤ it) (h2 : ∀ x c, X.env.cells.lookup x = some c → c ≠ it) (h3 : ∀ p ∈ X.pn ++ pins, p.1 ≠ it) : Inv X pins σ H { s with heap := h', toks := t' } := by
  have nit : ∀ b u, H b = some u → b ≠ it := fun b u e z => by rw [z, hn] at e; cases e
  refine I.step (g' := s.gens) (d' := s.drawn) (ch := [it]) (fun b hb => ?_) (fun b o _ _ hc e _ => k b o (fun z => hc (by simp [z])) e) (fun b o _ _ hc e _ => ⟨o.slots, k b o (fun z => hc (by simp [z])) e⟩) (fun _ _ _ _ n => n)
    (fun b o hc e => ⟨o, k b o (fun z => hc (by simp [z])) e⟩) (fun _ _ e => e) (fun _ _ _ e => e) (fun b ps e => ⟨#[], by rw [e]; simp⟩) (fun m hm => ?_) (fun b u e => ?_) I.bare
  · have e : b = it := by simpa using hb
    subst e
    exact ⟨h1, hL, h2, h3⟩
  · obtain ⟨o, es, ep, ho, r⟩ := hm
    exact ⟨o, es, ep, k _ o (Ne.symm hL) ho, r⟩
  · refine (I.hok b u e).stay (fun c v hc q => k c v ?_ q) (fun _ q => q) fun _ _ q => q
    rcases hc with z | z
    · rw [z]; exact nit b u e
    · exact nit c _ z
theorem Inv.tok (I : Inv X pins σ H s) (t : Nat) : Inv X pins σ H { s with toks := t } := I.un (h' := s.heap) (t' := t) Un.refl I.hok
theorem Inv.kept {t' : Nat} (I : Inv X pins σ H s) (k : ∀ b u, s.heap.get? b = some u → h'.get? b = some u) : Inv X pins σ H { s with heap := h', toks := t' } := I.un (Un.kept k) (I.hok.kept k)
theorem Inv.laid {a : Addr} {o : HO} {t' : Nat} (I : Inv X pins σ H s) (k : ∀ b u, s.heap.get? b = some u → h'.get? b = some u) (hp : s.heap.objs.size ≤ a) (new : ObjOk X.prog X.w (upd H a o) h' a o) :
    Inv X pins σ (upd H a o) { s with heap := h', toks := t' } := I.un (Un.laid k hp (I.hok.fresh hp)) (I.hok.laid k hp new)
theorem Inv.write {x e : Addr} {o : HO} {t' : Nat} (I : Inv X pins σ H s) (mu : Mut (H x)) (he : e = x ∨ H e = some (.own x)) (k : ∀ b u, b ≠ e → s.heap.get? b = some u → h'.get? b = some u) (heo : ∃ u, h'.get? e = some u)
    (new : ObjOk X.prog X.w (upd H x o) h' x o) : Inv X pins σ (upd H x o) { s with heap := h', toks := t' } := I.un (Un.write mu he k heo) (I.hok.write mu he k heo new)
theorem Inv.weak {σ' : List (Option V)} (I : Inv X pins σ H s) (hl : σ'.length = σ.length) (w : ∀ (i : Nat) v, σ'[i]? = some (some v) → σ[i]? = some (some v)) : Inv X pins σ' H s :=
  ⟨I.ok, I.os, I.bare, I.base, let ⟨m, hn, hl'⟩ := I.loc; ⟨m, hn, fun i x v e1 e2 e3 => hl' i x v e1 (w i v e2) e3⟩, I.cell, I.free, I.freeC, I.pin, I.hok, hl.trans I.len⟩
theorem Inv.pins_of {pins' : List (Addr × Obj)} (I : Inv X pins σ H s) (h : ∀ p ∈ pins', s.heap.get? p.1 = some p.2 ∧ H p.1 = none ∧ p.1 ≠ X.env.locals ∧ p.1 ∉ X.fs ∧ ∀ v, p.2.data ≠ .cell v) : Inv X pins' σ H s :=
  ⟨I.ok, I.os, I.bare, I.base, I.loc, I.cell, I.free, I.freeC, fun p hp => (List.mem_append.mp hp).elim (fun z => I.pin p (List.mem_append_left _ z)) (h p), I.hok, I.len⟩
theorem nodup_ix {N : List Str} (hN : N.Nodup) {i j : Nat} {x : Str} (a : N[i]? = some x) (b : N[j]? = some x) : i = j := by
  obtain ⟨h1, e1⟩ := List.getElem?_eq_some_iff.mp a
  obtain ⟨h2, e2⟩ := List.getElem?_eq_some_iff.mp b
  exact (List.getElem_inj hN).mp (e1.trans e2.symm)
theorem store_ok2 {M : Model} {A : Around} {E : Value → Shared → Prop} {i : Nat} {x : Str} {v : V} {u : Value} {Q : Unit → Shared → Prop} (I : Inv X pins σ H s) (hN : X.N.Nodup) (hi : X.N[i]? = some x) (hx : Loc X.env.scope x) (r : RelV v u)
    (h : ∀ s', Inv X pins (σ.set i (some v)) H s' → (∃ a, Heap.SameBut a s.heap s'.heap ∧ (a = X.env.locals ∨ X.env.cells.lookup x = some a)) → Q () s') (hf : X.fn x = true ∨ X.env.scope.names.lookup x = some .local := by first | exact .inl rfl | exact .inr rfl | assumption) : wpAny M A (storeName X.env x u) Q E s := by
  obtain ⟨m, hn, hl⟩ := id I.loc
  have hcls : (X.env.scope.kind == .class || (X.env.scope.kind == .module && X.env.locals != X.env.globals)) = false := by rw [I.ok.kind]; rfl
  have hiσ : i < σ.length := by rw [I.len]; exact (List.getElem?_eq_some_iff.mp hi).1
  have cne := I.cne
  have tracked : ∀ {a : Addr} {h' : Heap}, (∃ o, s.heap.get? a = some o ∧ H a = none) → Heap.SameBut a s.heap h' → HOk X.prog X.w H h' := fun {a h'} ha hs b ob e => by
    obtain ⟨_, _, hfree⟩ := ha
    refine (I.hok b ob e).stay (fun c w' hc q => (hs.2 c ?_).trans q) (fun _ q => q) fun _ _ q => q
    rintro rfl
    rcases hc with rfl | hc
    · rw [hfree] at e; cases e
    · rw [hfree] at hc; cases hc
  rcases hx with hk | hk
  · refine wpAny_storeName_local hk hn (fun h' hn' hs => ?_) hcls
    obtain ⟨oL, _, _, hoL, _⟩ := id hn
    refine h _ ⟨I.ok, I.os, I.bare, ⟨fun b o e n hb hx => ?_, fun b o e n hb hx => ?_, I.base.free, fun b o e hx => ?_, I.base.tups, I.base.frzs, I.base.tbls⟩, ⟨_, hn', fun j y v' e1 e2 e3 => ?_⟩, fun y c e => ?_, I.free, I.freeC, fun p hp => ?_, tracked ⟨oL, hoL, I.free⟩ hs, by simpa using I.len⟩ ⟨_, hs, .inl rfl⟩
    · exact (hs.2 b (Nat.ne_of_lt (Nat.lt_of_lt_of_le (Heap.lt_size e) I.ok.above))).trans (I.base.keep b o e n hb hx)
    · obtain ⟨sl, e1⟩ := I.base.slot b o e n hb hx
      exact ⟨sl, (hs.2 b (Nat.ne_of_lt (Nat.lt_of_lt_of_le (Heap.lt_size e) I.ok.above))).trans e1⟩
    · obtain ⟨o', e1⟩ := I.base.there b o e hx
      exact ⟨o', (hs.2 b (Nat.ne_of_lt (Nat.lt_of_lt_of_le (Heap.lt_size e) I.ok.above))).trans e1⟩
    · by_cases hj : j = i
      · subst hj
        rw [hi] at e1; cases e1
        rw [List.getElem?_set_self hiσ] at e2
        cases e2
        exact ⟨u, r, .inl ⟨hk, by simp⟩⟩
      · rw [List.getElem?_set_ne (Ne.symm hj)] at e2
        obtain ⟨u', r', q⟩ := hl j y v' e1 e2 e3
        refine ⟨u', r', ?_⟩
        rcases q with ⟨k, e⟩ | ⟨k, c, e, z⟩
        · refine .inl ⟨k, ?_⟩
          have : y ≠ x := fun e => hj (nodup_ix hN e1 (e ▸ hi))
          simp [this, e]
        · exact .inr ⟨k, c, e, z.sameBut hs (cne y c e)⟩
    · obtain ⟨w', z⟩ := I.cell y c e
      exact ⟨w', z.sameBut hs (cne y c e)⟩
    · obtain ⟨e, n, ne, nf, d⟩ := I.pin p hp
      exact ⟨(hs.2 p.1 ne).trans e, n, ne, nf, d⟩
  · have hfn : X.fn x = true := by
      rcases hf with z | z
      · exact z
      · rw [z] at hk; cases hk
    obtain ⟨c, hc⟩ := I.ok.has x (.inl hk)
    obtain ⟨w', z⟩ := I.cell x c hc
    refine wpAny_storeName_cell I.ok.kind hk hc z (fun h' hc' hs => ?_)
    obtain ⟨oc, hoc, hocd⟩ := id z
    refine h { s with heap := h' } ⟨I.ok, I.os, I.bare, ⟨fun b o e n hb hx => ?_, fun b o e n hb hx => ?_, I.base.free, fun b o e hx => ?_, I.base.tups, I.base.frzs, I.base.tbls⟩, ⟨m, hn.sameBut hs (Ne.symm (cne x c hc)), fun j y v' e1 e2 e3 => ?_⟩, fun y c' e => ?_, I.free, I.freeC, fun p hp => ?_, tracked ⟨oc, hoc, I.freeC x c hc⟩ hs, by simpa using I.len⟩ ⟨c, hs, .inr hc⟩
    · exact (hs.2 b (Nat.ne_of_lt (Nat.lt_of_lt_of_le (Heap.lt_size e) (I.ok.cab x c hfn hc)))).trans (I.base.keep b o e n hb hx)
    · obtain ⟨sl, e1⟩ := I.base.slot b o e n hb hx
      exact ⟨sl, (hs.2 b (Nat.ne_of_lt (Nat.lt_of_lt_of_le (Heap.lt_size e) (I.ok.cab x c hfn hc)))).trans e1⟩
    · obtain ⟨o', e1⟩ := I.base.there b o e hx
      exact ⟨o', (hs.2 b (Nat.ne_of_lt (Nat.lt_of_lt_of_le (Heap.lt_size e) (I.ok.cab x c hfn hc)))).trans e1⟩
    · by_cases hj : j = i
      · subst hj
        rw [hi] at e1; cases e1
        rw [List.getElem?_set_self hiσ] at e2
        cases e2
        exact ⟨u, r, .inr ⟨.inl hk, c, hc, hc'⟩⟩
      · rw [List.getElem?_set_ne (Ne.symm hj)] at e2
        obtain ⟨u', r', q⟩ := hl j y v' e1 e2 e3
        refine ⟨u', r', ?_⟩
        rcases q with q | ⟨k, c', e, z'⟩
        · exact .inl q
        · refine .inr ⟨k, c', e, z'.sameBut hs ?_⟩
          rintro rfl
          exact hj (nodup_ix hN e1 (I.ok.inj _ _ _ e hc ▸ hi))
    · by_cases hcc : c' = c
      · subst hcc; exact ⟨_, hc'⟩
      · obtain ⟨w2, z2⟩ := I.cell y c' e
        exact ⟨w2, z2.sameBut hs hcc⟩
    · obtain ⟨e, n, ne, nf, d⟩ := I.pin p hp
      refine ⟨(hs.2 p.1 ?_).trans e, n, ne, nf, d⟩
      intro q
      rw [q, hoc] at e
      have q' : oc = p.2 := Option.some.inj e
      exact d w' (by rw [← q']; exact hocd)
theorem store_ok {M : Model} {A : Around} {E : Value → Shared → Prop} {i : Nat} {x : Str} {v : V} {u : Value} {Q : Unit → Shared → Prop} (I : Inv X pins σ H s) (hN : X.N.Nodup) (hi : X.N[i]? = some x) (hx : Loc X.env.scope x) (r : RelV v u)
    (h : ∀ s', Inv X pins (σ.set i (some v)) H s' → Q () s') (hf : X.fn x = true ∨ X.env.scope.names.lookup x = some .local := by first | exact .inl rfl | exact .inr rfl | assumption) : wpAny M A (storeName X.env x u) Q E s :=
  store_ok2 I hN hi hx r (fun s' I' _ => h s' I') hf
theorem Inv.call' {s' : Shared} {ch : List Addr} (I : Inv X pins σ H s) (ho : s'.os = s.os) (u : Un (frs X.stack) ch H H' s.heap s'.heap) (hok : HOk X.prog X.w H' s'.heap) (hg : AllBare s'.gens)
    (hch : ∀ b ∈ ch, (b ∈ X.ex ∨ X.s₀.heap.objs.size ≤ b) ∧ b ≠ X.env.locals ∧ (∀ x c, X.env.cells.lookup x = some c → c ≠ b) ∧ ∀ p ∈ X.pn ++ pins, p.1 ≠ b) : Inv X pins σ H' s' := by
  obtain ⟨h', g', d', t', o'⟩ := s'
  have e : o' = s.os := ho
  subst e
  exact I.call (g' := g') (t' := t') (d' := d') u hok hg hch
end
abbrev XK := Value → Option Addr → Hp → Prop
abbrev St := List (Option V)
abbrev VK := V → Hp → Prop
abbrev TE := St → Hp → VK → Prop
abbrev TT := St → Hp → (Bool → Hp → Prop) → Prop
abbrev TA := St → Hp → (List V → Hp → Prop) → Prop
structure Ends where
  nx : St → Hp → Prop
  rt : VK
  bk : St → Hp → Prop := fun _ _ => False
  ct : St → Hp → Prop := fun _ _ => False
abbrev TS := Ends → St → Hp → Prop
def EP (X : Cx) (pins : List (Addr × Obj)) (σ : St) (Q : VK) (u : Value) (s' : Shared) : Prop := ∃ v H', Inv X pins σ H' s' ∧ RelV v u ∧ Q v H'
def TP (X : Cx) (pins : List (Addr × Obj)) (σ : St) (Q : Bool → Hp → Prop) (b : Bool) (s' : Shared) : Prop := ∃ H', Inv X pins σ H' s' ∧ Q b H'
def AP (X : Cx) (pins : List (Addr × Obj)) (σ : St) (Q : List V → Hp → Prop) (us : List Value) (s' : Shared) : Prop := ∃ vs H', Inv X pins σ H' s' ∧ Vals vs us ∧ Q vs H'
def SP (X : Cx) (pins : List (Addr × Obj)) (D : Ends) (f : Flow) (s' : Shared) : Prop :=
  match f with
  | .next => ∃ σ' H', Inv X pins σ' H' s' ∧ D.nx σ' H'
  | .brk => ∃ σ' H', Inv X pins σ' H' s' ∧ D.bk σ' H'
  | .cont => ∃ σ' H', Inv X pins σ' H' s' ∧ D.ct σ' H'
  | .ret u => ∃ v σ' H', Inv X pins σ' H' s' ∧ RelV v u ∧ D.rt v H'
def PE (X : Cx) (e : Expr) (t : TE) : Prop :=
  ∀ (pins : List (Addr × Obj)) (s : Shared) (σ : St) (H : Hp) (Q : VK), Inv X pins σ H s → t σ H Q → wpAny (model X.prog X.w) X.A (eval e X.env) (EP X pins σ Q) X.xe s
def PT (X : Cx) (e : Expr) (t : TT) : Prop :=
  ∀ (pins : List (Addr × Obj)) (s : Shared) (σ : St) (H : Hp) (Q : Bool → Hp → Prop), Inv X pins σ H s → t σ H Q → wpAny (model X.prog X.w) X.A (isTrue e X.env (eval e X.env)) (TP X pins σ Q) X.xe s
def PW (X : Cx) (e : Expr) (t : TT) : Prop :=
  ∀ (whole : Sem Value) (pins : List (Addr × Obj)) (s : Shared) (σ : St) (H : Hp) (Q : Bool → Hp → Prop), Inv X pins σ H s → t σ H Q → wpAny (model X.prog X.w) X.A (isTrue e X.env whole) (TP X pins σ Q) X.xe s
theorem PW.pt {X : Cx} {e : Expr} {t : TT} (h : PW X e t) : PT X e t := h _
def PA (X : Cx) (es : List Expr) (t : TA) : Prop :=
  ∀ (pos : Pos) (pins : List (Addr × Obj)) (s : Shared) (σ : St) (H : Hp) (Q : List V → Hp → Prop), Inv X pins σ H s → t σ H Q → wpAny (model X.prog X.w) X.A (spliced (backTo pos (starEach es X.env))) (AP X pins σ Q) X.xe s
def PS (X : Cx) (st : Stmt) (t : TS) : Prop :=
  ∀ (pins : List (Addr × Obj)) (s : Shared) (σ : St) (H : Hp) (D : Ends), Inv X pins σ H s → t D σ H → wpAny (model X.prog X.w) X.A (exec st X.env) (SP X pins D) X.xe s
def PSs (X : Cx) (st : List Stmt) (t : TS) : Prop :=
  ∀ (pins : List (Addr × Obj)) (s : Shared) (σ : St) (H : Hp) (D : Ends), Inv X pins σ H s → t D σ H → wpAny (model X.prog X.w) X.A (execs st X.env) (SP X pins D) X.xe s
theorem thn {α : Type} {t : Sem α} {Q Q' : α → Shared → Prop} {M : Model} {A : Around} {E : Value → Shared → Prop} {s : Shared} (h : wpAny M A t Q E s) (hQ : ∀ a s, Q a s → Q' a s) : wpAny M A t Q' E s := wpAny_mono h hQ fun _ _ x => x
end L2
namespace L2
open PySem PySem.Spec PyProof.Rows
section
variable {X : Cx}
def tVar (i : Nat) : TE := fun σ H Q => ∃ v, σ[i]? = some (some v) ∧ Q v H
def tC (v : V) : TE := fun _ H Q => Q v H
theorem pe_var {i : Nat} {x : Str} {pos : Pos} (hN : X.N[i]? = some x) (hv : Vis X.env.scope x) (hd : (x == ("__debug__" : Str)) = false := by decide) (hcd : (x == ("__classdict__" : Str)) = false := by decide) : PE X (.Name x pos) (tVar i) := by
  intro pins s σ H Q I h
  obtain ⟨v, e, h⟩ := h
  obtain ⟨m, hn, hl⟩ := I.loc
  obtain ⟨u, r, l⟩ := hl i x v hN e hv
  have fin : EP X pins σ Q u s := ⟨v, H, I, r, h⟩
  rcases l with ⟨hk, hm⟩ | ⟨hk, c, hc, hcell⟩
  · exact wpAny_Name (wpAny_loadName_local I.ok.kind hk hn hm fin) hd
  · rcases hk with hk | hk
    · exact wpAny_Name (wpAny_loadName_cell I.ok.kind hk hc hcell fin) hd
    · exact wpAny_Name (wpAny_loadName_free I.ok.kind hk hc hcell fin hcd) hd
theorem pe_int {i j pos} : PE X (.Constant (.int i) j pos) (tC (.int i)) := fun _ _ _ H _ I h => wpAny_Constant_int ⟨.int i, H, I.tok _, ⟨_, rfl⟩, h⟩
theorem pe_bl {b j pos} : PE X (.Constant (.bool b) j pos) (tC (.bl b)) := fun _ _ _ H _ I h => Constant_bool ⟨.bl b, H, I, rfl, h⟩
theorem pe_non {j pos} : PE X (.Constant .none j pos) (tC .non) := fun _ _ _ H _ I h => Constant_none ⟨.non, H, I, rfl, h⟩
theorem pe_str {x j pos} : PE X (.Constant (.str x) j pos) (tC (.str x)) := fun _ _ _ H _ I h => Calls.Constant_str ⟨.str x, H, I.tok _, ⟨_, rfl⟩, h⟩
def Gl (X : Cx) (x : Str) : Prop := X.env.kindOf x = some .globalImplicit
theorem ld_glob {E : Value → Shared → Prop} {pins : List (Addr × Obj)} {s : Shared} {σ : St} {H : Hp} {x : Str} {u : Value} {pos : Pos} {Q : Value → Shared → Prop} (I : Inv X pins σ H s) (hg : Gl X x) (hm : X.mg x = some u) (h : Q u s)
    (hd : (x == ("__debug__" : Str)) = false := by decide) : wpAny (model X.prog X.w) X.A (eval (.Name x pos) X.env) Q E s :=
  Calls.Name_function_global I.ok.kind hg (Calls.loadGlobal_global (by rw [I.ok.glob]; exact I.mod.glob.keeps I.bk) hm h) hd
theorem ld_blt {E : Value → Shared → Prop} {pins : List (Addr × Obj)} {s : Shared} {σ : St} {H : Hp} {x : Str} {u : Value} {pos : Pos} {Q : Value → Shared → Prop} (I : Inv X pins σ H s) (hg : Gl X x) (hm : X.mg x = none) (hv : bootBuiltins x = some u) (h : Q u s)
    (hn : x ≠ "__name__" := by decide) (hd : (x == ("__debug__" : Str)) = false := by decide) : wpAny (model X.prog X.w) X.A (eval (.Name x pos) X.env) Q E s := by
  obtain ⟨mb, h1, h2⟩ := I.mod.blt
  exact Calls.Name_function_global I.ok.kind hg (Calls.loadGlobal_builtin (by rw [I.ok.glob]; exact I.mod.glob.keeps I.bk) hm (by rw [I.ok.blt]; exact h1.keeps I.bk) ((h2 x hn).trans hv) h) hd
theorem pe_bltn {x : Str} {v : V} {u : Value} {pos : Pos} (hg : Gl X x) (hm : X.mg x = none) (hv : bootBuiltins x = some u) (r : RelV v u) (hn : x ≠ "__name__" := by decide) (hd : (x == ("__debug__" : Str)) = false := by decide) : PE X (.Name x pos) (tC v) :=
  fun _ _ _ H _ I h => ld_blt I hg hm hv ⟨v, H, I, r, h⟩ hn hd
variable {a b : Expr} {ta tb : TE} {pos : Pos}
def tB (t : TE) : TT := fun σ H Q => t σ H fun x H1 => ∃ c, x = .bl c ∧ Q c H1
theorem pt_val {e : Expr} {t : TE} (h : PE X e t) (he : ∀ whole, isTrue e X.env whole = (do let v ← whole; standAt e.pos; holding [v] (truthy v)) := by intro _; rfl) : PT X e (tB t) := by
  intro pins s σ H Q I hw
  refine isTrue_plain (thn (h pins s σ H _ I hw) fun v s1 ⟨x, H1, I1, r1, q1⟩ => ?_) (he _)
  obtain ⟨d, rfl, q⟩ := q1
  cases r1
  exact wpAny_truthy_bool ⟨H1, I1, q⟩
variable {tA tB' : TT} {rest : List Expr}
def tAnd (t u : TT) : TT := fun σ H Q => t σ H fun c H1 => if c = true then u σ H1 Q else Q false H1
def tOr (t u : TT) : TT := fun σ H Q => t σ H fun c H1 => if c = true then Q true H1 else u σ H1 Q
def tNot (t : TT) : TT := fun σ H Q => t σ H fun c H1 => Q (!c) H1
theorem pw_and1 (ha : PT X a tA) : PW X (.BoolOp .And [a] pos) tA := by
  intro wh pins s σ H Q I h
  refine isTrue_and (thn (ha pins s σ H Q I h) fun c s1 e => ?_)
  cases c with
  | true => exact isTrue_and_nil e
  | false => exact e
theorem pw_or1 (ha : PT X a tA) : PW X (.BoolOp .Or [a] pos) tA := by
  intro wh pins s σ H Q I h
  refine isTrue_or (thn (ha pins s σ H Q I h) fun c s1 e => ?_)
  cases c with
  | false => exact isTrue_or_nil e
  | true => exact e
theorem pw_and (ha : PT X a tA) (hb : PW X (.BoolOp .And (b :: rest) pos) tB') : PW X (.BoolOp .And (a :: b :: rest) pos) (tAnd tA tB') := by
  intro wh pins s σ H Q I h
  refine isTrue_and (thn (ha pins s σ H _ I h) fun c s1 ⟨H1, I1, q1⟩ => ?_)
  cases c with
  | true => exact hb wh pins s1 σ H1 Q I1 q1
  | false => exact ⟨H1, I1, q1⟩
theorem pw_or (ha : PT X a tA) (hb : PW X (.BoolOp .Or (b :: rest) pos) tB') : PW X (.BoolOp .Or (a :: b :: rest) pos) (tOr tA tB') := by
  intro wh pins s σ H Q I h
  refine isTrue_or (thn (ha pins s σ H _ I h) fun c s1 ⟨H1, I1, q1⟩ => ?_)
  cases c with
  | true => exact ⟨H1, I1, q1⟩
  | false => exact hb wh pins s1 σ H1 Q I1 q1
theorem pt_not (ha : PT X a tA) : PT X (.UnaryOp .Not a pos) (tNot tA) := by
  intro pins s σ H Q I h
  exact isTrue_not (ha pins s σ H (fun c H1 => Q (!c) H1) I h)
def tAndV (ta tb : TE) : TE := fun σ H Q => ta σ H fun x H1 => ∃ c, x = .bl c ∧ if c = true then tb σ H1 Q else Q (.bl false) H1
def tNotV (ta : TE) : TE := fun σ H Q => ta σ H fun x H1 => ∃ c, x = .bl c ∧ Q (.bl (!c)) H1
theorem pe_one {op} {t : TE} (h : PE X a t) : PE X (.BoolOp op [a] pos) t := fun pins s σ H Q I hw => BoolOp_one (h pins s σ H Q I hw)
theorem pe_and (ha : PE X a ta) (hb : PE X (.BoolOp .And (b :: rest) pos) tb) : PE X (.BoolOp .And (a :: b :: rest) pos) (tAndV ta tb) := by
  intro pins s σ H Q I h
  refine BoolOp_and (thn (ha pins s σ H _ I h) fun v s1 ⟨x, H1, I1, r1, q1⟩ => ?_)
  obtain ⟨c, rfl, q1⟩ := q1
  cases r1
  refine wpAny_truthy_bool ?_
  cases c with
  | true => exact hb pins s1 σ H1 Q I1 q1
  | false => exact ⟨.bl false, H1, I1, rfl, q1⟩
theorem pe_not (ha : PE X a ta) : PE X (.UnaryOp .Not a pos) (tNotV ta) := by
  intro pins s σ H Q I h
  refine UnaryOp_ (thn (ha pins s σ H _ I h) fun v s1 ⟨x, H1, I1, r1, q1⟩ => ?_)
  obtain ⟨c, rfl, q1⟩ := q1
  cases r1
  exact not_of (wpAny_truthy_bool ⟨.bl (!c), H1, I1, rfl, q1⟩)
end
end L2
namespace L2
open PySem PySem.Spec PyProof.Rows
def SqL (K : PySem.W.Frag) (H : Hp) (a : Addr) (xs : List V) : Prop :=
  Rd H a (.lst xs) ∨
    ∃ (o : Obj) (its : Array Value) (n : Nat), K.lookup a = some o ∧ o.cls = .type "list" ∧ o.dict = none ∧ o.data = .seq its n ∧ its.size ≤ sizeLine ∧ Vals xs its.toList
def SqT (K : PySem.W.Frag) (H : Hp) (a : Addr) (xs : List V) : Prop :=
  Rd H a (.tup xs) ∨
    ∃ (o : Obj) (its : Array Value) (n : Nat), K.lookup a = some o ∧ o.cls = .type "tuple" ∧ o.data = .seq its n ∧ its.size ≤ sizeLine ∧ Vals xs its.toList
def absV : Value → Option V
  | .none => some .non
  | .bool b => some (.bl b)
  | .int i _ => some (.int i)
  | .str x _ => some (.str x)
  | .bytes b _ => some (.byt b)
  | .float b _ => some (.flt b)
  | .ref a => some (.ref a)
  | .type n => some (.ty n)
  | _ => none
theorem RelV.abs {x : V} {u : Value} (r : RelV x u) : absV u = some x := by
  cases x with
  | non => cases r; rfl
  | bl _ => cases r; rfl
  | int _ => obtain ⟨t, rfl⟩ := r; rfl
  | str _ => obtain ⟨t, rfl⟩ := r; rfl
  | byt _ => obtain ⟨t, rfl⟩ := r; rfl
  | flt _ => obtain ⟨t, rfl⟩ := r; rfl
  | ref _ => cases r; rfl
  | ty _ => cases r; rfl
theorem RelV.inj {x y : V} {u : Value} (r : RelV x u) (q : RelV y u) : x = y := Option.some.inj (r.abs.symm.trans q.abs)
theorem Vals.inj : ∀ {xs ys : List V} {us : List Value}, Vals xs us → Vals ys us → xs = ys
  | _, _, _, .nil, .nil => rfl
  | _, _, _, .cons r t, .cons r' t' => by rw [r.inj r', Vals.inj t t']
section
variable {X : Cx} {pins : List (Addr × Obj)} {σ : St} {H : Hp} {s : Shared} {a : Addr} {xs ys : List V}
theorem SqL.of {K : PySem.W.Frag} (h : H a = some (.lst xs)) : SqL K H a xs := .inl (.inl h)
theorem SqT.of {K : PySem.W.Frag} (h : H a = some (.tup xs)) : SqT K H a xs := .inl (.inl h)
theorem Inv.list (I : Inv X pins σ H s) (h : SqL X.K H a xs) : ∃ its : List Value, Vals xs its ∧ PlainL s.heap a its.toArray ∧ xs.length ≤ sizeLine := by
  rcases h with h | ⟨o, its, n, hk, hc, hd, hs, hz, r⟩
  · obtain ⟨z, its, n, r, e⟩ := h.ok I.hok
    exact ⟨its, r, ⟨_, n, e, rfl, rfl, rfl⟩, z⟩
  · refine ⟨its.toList, r, ⟨o, n, I.kIn a o hk, hc, hd, by simpa using hs⟩, ?_⟩
    have e := r.length
    simp only [Array.length_toList] at e
    omega
theorem Inv.tuple (I : Inv X pins σ H s) (h : SqT X.K H a xs) : ∃ its : List Value, Vals xs its ∧ IsTup s.heap a its.toArray ∧ xs.length ≤ sizeLine := by
  rcases h with h | ⟨o, its, n, hk, hc, hs, hz, r⟩
  · obtain ⟨z, its, r, p⟩ := h.ok I.hok
    exact ⟨its, r, p, z⟩
  · refine ⟨its.toList, r, ⟨o, I.kIn a o hk, hc, n, by simpa using hs⟩, ?_⟩
    have e := r.length
    simp only [Array.length_toList] at e
    omega
theorem Inv.list_inj (I : Inv X pins σ H s) (h : SqL X.K H a xs) (h' : SqL X.K H a ys) : xs = ys := by
  obtain ⟨its, r, ⟨o, n, e, _, _, d⟩, _⟩ := I.list h
  obtain ⟨its', r', ⟨o', n', e', _, _, d'⟩, _⟩ := I.list h'
  rw [e] at e'; cases e'
  rw [d] at d'
  injection d' with d1 _
  have : its = its' := by simpa using congrArg Array.toList d1
  subst this
  exact r.inj r'
theorem Inv.tuple_inj (I : Inv X pins σ H s) (h : SqT X.K H a xs) (h' : SqT X.K H a ys) : xs = ys := by
  obtain ⟨its, r, ⟨o, e, _, n, d⟩, _⟩ := I.tuple h
  obtain ⟨its', r', ⟨o', e', _, n', d'⟩, _⟩ := I.tuple h'
  rw [e] at e'; cases e'
  rw [d] at d'
  injection d' with d1 _
  have : its = its' := by simpa using congrArg Array.toList d1
  subst this
  exact r.inj r'
end
abbrev Cx.wish (X : Cx) (E : Value → Shared → Prop) : Cx := { X with xe := E }
abbrev Cx.nox (X : Cx) : Cx := X.wish fun _ _ => False
theorem Cx.Ok.wish {X : Cx} (ok : X.Ok) (E : Value → Shared → Prop) : (X.wish E).Ok :=
  ⟨ok.mod, ok.kind, ok.glob, ok.blt, ok.above, ok.inj, ok.has, ok.cab, ok.hd, ok.frames, ok.stk, ok.exf, ok.bs, ok.bsz, ok.noex, ok.exfs, ok.funs, ok.frf⟩
theorem Cx.Ok.unwish {X : Cx} {E : Value → Shared → Prop} (ok : (X.wish E).Ok) : X.Ok :=
  ⟨ok.mod, ok.kind, ok.glob, ok.blt, ok.above, ok.inj, ok.has, ok.cab, ok.hd, ok.frames, ok.stk, ok.exf, ok.bs, ok.bsz, ok.noex, ok.exfs, ok.funs, ok.frf⟩
section
variable {X : Cx} {pins : List (Addr × Obj)} {σ : St} {H : Hp} {s : Shared} {E : Value → Shared → Prop}
theorem Inv.wish (I : Inv X pins σ H s) (E : Value → Shared → Prop) : Inv (X.wish E) pins σ H s := ⟨I.ok.wish E, I.os, I.bare, I.base, I.loc, I.cell, I.free, I.freeC, I.pin, I.hok, I.len⟩
theorem Inv.unwish (I : Inv (X.wish E) pins σ H s) : Inv X pins σ H s := ⟨I.ok.unwish, I.os, I.bare, I.base, I.loc, I.cell, I.free, I.freeC, I.pin, I.hok, I.len⟩
theorem SP.unwish {D : Ends} {f : Flow} {s' : Shared} (h : SP (X.wish E) pins D f s') : SP X pins D f s' := by
  cases f with
  | next => obtain ⟨σ', H', I, q⟩ := h; exact ⟨σ', H', I.unwish, q⟩
  | brk => obtain ⟨σ', H', I, q⟩ := h; exact ⟨σ', H', I.unwish, q⟩
  | cont => obtain ⟨σ', H', I, q⟩ := h; exact ⟨σ', H', I.unwish, q⟩
  | ret u => obtain ⟨v, σ', H', I, r, q⟩ := h; exact ⟨v, σ', H', I.unwish, r, q⟩
theorem PSs.nox {st : List Stmt} {t : TS} (h : PSs X.nox st t) : PSs X st t := fun pins s σ H D I hw =>
  wpAny_mono (h pins s σ H D (I.wish _) hw) (fun _ _ q => q.unwish) fun _ _ z => False.elim z
end
section
variable {X : Cx} {st : Stmt} {rest : List Stmt} {t u : TS} {e : Expr} {te : TE} {pos : Pos}
def tNext : TS := fun D σ H => D.nx σ H
def tSeq (t u : TS) : TS := fun D σ H => t { D with nx := u D } σ H
theorem pss_nil : PSs X [] tNext := fun _ _ σ H _ I h => wpAny_execs_nil ⟨σ, H, I, h⟩
theorem pss_cons (h1 : PS X st t) (h2 : PSs X rest u) : PSs X (st :: rest) (tSeq t u) := by
  intro pins s σ H D I h
  refine wpAny_execs_cons (thn (h1 pins s σ H { D with nx := u D } I h) fun f s1 q => ?_)
  cases f with
  | next =>
    obtain ⟨σ', H', I', q⟩ := q
    exact h2 pins s1 σ' H' D I' q
  | ret v => exact q
  | brk => exact q
  | cont => exact q
theorem pss_one (h1 : PS X st t) : PSs X [st] t := by
  intro pins s σ H D I h
  refine wpAny_execs_cons (thn (h1 pins s σ H D I h) fun f s1 q => ?_)
  cases f with
  | next => exact wpAny_execs_nil q
  | ret v => exact q
  | brk => exact q
  | cont => exact q
theorem Inv.quiet {pins : List (Addr × Obj)} {σ : St} {H : Hp} {s : Shared} (I : Inv X pins σ H s) : interactive X.env = false := by simp [interactive, I.ok.kind]
def tDrop (te : TE) : TS := fun D σ H => te σ H fun _ H1 => D.nx σ H1
theorem ps_expr (he : PE X e te) (hs : swapsWith e none pos.line X.env = pure false := by rfl) : PS X (.Expr e pos) (tDrop te) := by
  intro pins s σ H D I h
  exact wpAny_Expr_any (thn (he pins s σ H _ I h) fun v s1 ⟨x, H1, I1, r1, q1⟩ => ⟨σ, H1, I1, q1⟩) I.quiet hs
def tRet (te : TE) : TS := fun D σ H => te σ H D.rt
theorem ps_ret (he : PE X e te) : PS X (.Return (some e) pos) (tRet te) := by
  intro pins s σ H D I h
  exact wpAny_Return_some (thn (he pins s σ H _ I h) fun v s1 ⟨x, H1, I1, r1, q1⟩ => ⟨x, σ, H1, I1, r1, q1⟩)
def tIfS (c : TT) (t u : TS) : TS := fun D σ H => c σ H fun b H1 => if b = true then t D σ H1 else u D σ H1
theorem ps_if {c : Expr} {a b : List Stmt} {tc : TT} (hc : PT X c tc) (ha : PSs X a t) (hb : PSs X b u) : PS X (.If c a b pos) (tIfS tc t u) := by
  intro pins s σ H D I h
  refine wpAny_If (thn (hc pins s σ H _ I h) fun d s1 ⟨H1, I1, q1⟩ => ?_)
  cases d with
  | true => exact ha pins s1 σ H1 D I1 q1
  | false => exact hb pins s1 σ H1 D I1 q1
end
abbrev TG := V → St → Hp → (St → Hp → Prop) → Prop
abbrev TGs := List V → St → Hp → (St → Hp → Prop) → Prop
def PG (X : Cx) (target : Expr) (t : TG) : Prop :=
  ∀ (pins : List (Addr × Obj)) (s : Shared) (σ : St) (H : Hp) (v : V) (u : Value) (Q : St → Hp → Prop), Inv X pins σ H s → RelV v u → t v σ H Q →
    wpAny (model X.prog X.w) X.A (assign target X.env u) (fun _ s' => ∃ σ' H', Inv X pins σ' H' s' ∧ Q σ' H') X.xe s
def PGs (X : Cx) (ts : List Expr) (t : TGs) : Prop :=
  ∀ (pins : List (Addr × Obj)) (s : Shared) (σ : St) (H : Hp) (vs : List V) (us : List Value) (Q : St → Hp → Prop), Inv X pins σ H s → Vals vs us → t vs σ H Q →
    wpAny (model X.prog X.w) X.A (assignInOrder ((assignEach ts X.env).map (·.2)) us) (fun _ s' => ∃ σ' H', Inv X pins σ' H' s' ∧ Q σ' H') X.xe s
section
variable {X : Cx} {pos : Pos}
def gName (i : Nat) : TG := fun v σ H Q => Q (σ.set i (some v)) H
theorem pg_name {i : Nat} {x : Str} (hN : X.N.Nodup) (hi : X.N[i]? = some x) (hx : Loc X.env.scope x) (hf : X.fn x = true ∨ X.env.scope.names.lookup x = some .local := by first | exact .inl rfl | exact .inr rfl | assumption) : PG X (.Name x pos) (gName i) := by
  intro pins s σ H v u Q I r h
  exact wpAny_assign_Name (store_ok I hN hi hx r (fun s' I' => ⟨_, H, I', h⟩) hf)
def gNil : TGs := fun vs σ H Q => vs = [] ∧ Q σ H
def gCons (t : TG) (u : TGs) : TGs := fun vs σ H Q => ∃ v r, vs = v :: r ∧ t v σ H fun σ' H' => u r σ' H' Q
theorem pgs_nil : PGs X [] gNil := by
  intro pins s σ H vs us Q I r h
  obtain ⟨e, h⟩ := h
  subst e
  cases r
  exact assignInOrder_nil ⟨σ, H, I, h⟩
theorem pgs_cons {e : Expr} {es : List Expr} {t : TG} {u : TGs} (h1 : PG X e t) (h2 : PGs X es u)
    (hs : (assignEach (e :: es) X.env).map (·.2) = assign e X.env :: (assignEach es X.env).map (·.2) := by rfl) : PGs X (e :: es) (gCons t u) := by
  intro pins s σ H vs us Q I r h
  obtain ⟨v, vr, e1, h⟩ := h
  subst e1
  cases r with
  | cons r rr =>
    rw [hs]
    refine assignInOrder_cons (thn (h1 pins s σ H _ _ _ I r h) fun _ s1 ⟨σ1, H1, I1, q1⟩ => ?_)
    exact h2 pins s1 σ1 H1 _ _ Q I1 rr q1
def gTup (K : PySem.W.Frag) (n : Nat) (t : TGs) : TG := fun v σ H Q => ∃ a xs, v = .ref a ∧ SqT K H a xs ∧ xs.length = n ∧ t xs σ H Q
theorem pg_tup {es : List Expr} {k : Nat} {t : TGs} {n : Nat} (hc : X.calm = true) (h : PGs X es t)
    (hn : (assignEach es X.env).length = n := by rfl) (hst : (assignEach es X.env).findIdx? (·.1) = none := by rfl) : PG X (.Tuple es k pos) (gTup X.K n t) := by
  intro pins s σ H v u Q I r hw
  obtain ⟨a, xs, e1, hq, hl, hw⟩ := hw
  subst e1
  cases r
  obtain ⟨its, rv, ht, hz⟩ := I.tuple hq
  refine assign_Tuple_tuple (I.ok.hd hc) ht (by simp [hn, ← hl, rv.length]) hst fun h' hx => ?_
  have I1 : Inv X pins σ H { s with heap := h' } := I.kept (t' := s.toks) fun b o e => hx b o (Nat.ne_of_lt (Heap.lt_size e)) e
  exact h pins _ σ H xs _ Q I1 (by simpa using rv) hw
def tAsg (te : TE) (g : TG) : TS := fun D σ H => te σ H fun x H1 => g x σ H1 D.nx
theorem ps_set {i : Nat} {x : Str} {e : Expr} {te : TE} {pos' : Pos} (hN : X.N.Nodup) (hi : X.N[i]? = some x) (hx : Loc X.env.scope x) (he : PE X e te) (hs : swapsWith e (some (.Name x pos')) pos.line X.env = pure false := by rfl) (hf : X.fn x = true ∨ X.env.scope.names.lookup x = some .local := by first | exact .inl rfl | exact .inr rfl | assumption) :
    PS X (.Assign [.Name x pos'] e pos) (tAsg te (gName i)) := by
  intro pins s σ H D I h
  refine wpAny_Assign_Name (thn (he pins s σ H _ I h) fun v s1 ⟨y, H1, I1, r1, q1⟩ => ?_) hs
  exact store_ok I1 hN hi hx r1 (fun s2 I2 => ⟨_, H1, I2, q1⟩) hf
end
structure It where
  go : Nat → Hp → Prop
  yld : Nat → Hp → V → Hp → Prop
  stop : Nat → Hp → Prop
def FpOk (X : Cx) (pins : List (Addr × Obj)) (H : Hp) (b : Addr) : Prop :=
  H b = none ∧ b ≠ X.env.locals ∧ b ∉ X.fs ∧ (b ∈ X.ex ∨ X.s₀.heap.objs.size ≤ b) ∧ (∀ x c, X.env.cells.lookup x = some c → c ≠ b) ∧ ∀ p ∈ X.pn ++ pins, p.1 ≠ b
theorem Inv.fpOk {X : Cx} {pins : List (Addr × Obj)} {σ : St} {H H' : Hp} {s : Shared} {b : Addr} (I : Inv X pins σ H s) (hb : s.heap.objs.size ≤ b) (hn : H' b = none) : FpOk X pins H' b := by
  refine ⟨hn, Nat.ne_of_gt (Nat.lt_of_lt_of_le I.lt hb), I.nofs hb, .inr (Nat.le_trans I.sz hb), fun x c e z => ?_, fun p hp z => ?_⟩
  · obtain ⟨v, q⟩ := I.cell x c e
    exact absurd (Nat.lt_of_lt_of_le q.lt (by rw [z]; exact hb)) (Nat.lt_irrefl _)
  · exact absurd (Nat.lt_of_lt_of_le (Heap.lt_size (I.pin p hp).1) (by rw [z]; exact hb)) (Nat.lt_irrefl _)
structure Turn (P : Program) (w : World) (K : PySem.W.Frag) (tg : Expr) (J : It) (fp : List Addr) (it : Addr) (tn : Nat → Heap → Prop) : Prop where
  mem : it ∈ fp
  obj : ∀ i h, tn i h → ∀ b ∈ fp, ∃ o, h.get? b = some o ∧ ∀ v, o.data ≠ .cell v
  keep : ∀ i h h', tn i h → (∀ b ∈ fp, ∀ o, h.get? b = some o → h'.get? b = some o) → tn i h'
  item : ∀ (X : Cx), X.prog = P → X.w = w → X.K = K → X.calm = true → ∀ (i : Nat) (pins : List (Addr × Obj)) (s : Shared) (σ : St) (H : Hp) (E : Value → Shared → Prop), Inv X pins σ H s → (∀ b ∈ fp, FpOk X pins H b) → tn i s.heap → J.go i H →
    wpAny (model P w) X.A (pyNext (.ref it)) (fun r s1 => ∃ u, r = some u ∧
      wpAny (model P w) X.A (letOwnedTupleGo tg (.ref it) u) (fun _ s2 => ∃ x H', Inv X pins σ H' s2 ∧ RelV x u ∧ J.yld i H x H' ∧ tn (i + 1) s2.heap ∧ ∀ b ∈ fp, H' b = none) E s1) E s
  done : ∀ (X : Cx), X.prog = P → X.w = w → X.K = K → X.calm = true → ∀ (i : Nat) (pins : List (Addr × Obj)) (s : Shared) (σ : St) (H : Hp) (E : Value → Shared → Prop), Inv X pins σ H s → (∀ b ∈ fp, FpOk X pins H b) → tn i s.heap → J.stop i H →
    wpAny (model P w) X.A (pyNext (.ref it)) (fun r s1 => r = none ∧ Inv X pins σ H s1) E s
  self : ∀ (A : Around) (i : Nat) (s : Shared) (Q : Value → Shared → Prop) (E : Value → Shared → Prop), tn i s.heap → Q (.ref it) s → wpAny (model P w) A (pyIter (.ref it)) Q E s
abbrev TI := St → Hp → (It → Hp → Prop) → Prop
def PIE (X : Cx) (pins : List (Addr × Obj)) (σ : St) (tg : Expr) (R : It → Hp → Prop) (itv : Value) (s2 : Shared) : Prop :=
  ∃ (it : Addr) (fp : List Addr) (tn : Nat → Heap → Prop) (J : It) (H' : Hp), itv = .ref it ∧ Inv X pins σ H' s2 ∧ Turn X.prog X.w X.K tg J fp it tn ∧ tn 0 s2.heap ∧ (∀ b ∈ fp, FpOk X pins H' b) ∧ R J H'
def PI (X : Cx) (tg iter : Expr) (wi : TI) : Prop :=
  ∀ (pins : List (Addr × Obj)) (s : Shared) (σ : St) (H : Hp) (R : It → Hp → Prop), Inv X pins σ H s → wi σ H R →
    wpAny (model X.prog X.w) X.A (eval iter X.env) (fun v s1 => wpAny (model X.prog X.w) X.A (pyIter v) (PIE X pins σ tg R) X.xe s1) X.xe s
theorem go_of {M : Model} {A : Around} {E : Value → Shared → Prop} {s : Shared} {tg : Expr} {it : Addr} {u : Value} {o : Obj} {n : String} {vs : Array Value} {Q : Unit → Shared → Prop} (ho : s.heap.get? it = some o) (hc : o.cls = .type n) (hd : o.data = .fields vs)
    (hn : ["enumerate", "zip", "dict_itemiterator", "dict_reverseitemiterator", "odict_iterator", "itertools.zip_longest", "itertools.pairwise"].contains n = false) (hQ : Q () s) : wpAny M A (letOwnedTupleGo tg (.ref it) u) Q E s := by
  unfold letOwnedTupleGo
  cases tg <;> first
    | exact wpAny_pure hQ
    | (cases u <;> first
        | exact wpAny_pure hQ
        | (refine wpAny_bind (wpAny_load ho ?_)
           rw [hc, hd]
           show wpAny M A (if (["enumerate", "zip", "dict_itemiterator", "dict_reverseitemiterator", "odict_iterator", "itertools.zip_longest", "itertools.pairwise"].contains n && vs[0]? == some (rawInt _)) = true then _ else _) Q E s
           rw [if_neg (by intro h; rw [hn, Bool.false_and] at h; cases h)]
           exact wpAny_pure hQ))
def Itl (K : PySem.W.Frag) (a : Addr) : It :=
  ⟨fun i H => ∃ xs x, SqL K H a xs ∧ xs[i]? = some x, fun i H x H' => H' = H ∧ ∀ xs, SqL K H a xs → xs[i]? = some x, fun i H => ∃ xs, SqL K H a xs ∧ xs.length ≤ i⟩
def Itr (lo : Int) (n : Nat) : It := ⟨fun i _ => i < n, fun i H x H' => H' = H ∧ x = .int (lo + i), fun i _ => n ≤ i⟩
theorem turn_list {P : Program} {w : World} {K : PySem.W.Frag} {tg : Expr} (a it : Addr) : Turn P w K tg (Itl K a) [it] it (fun i h => h.IsListIter it a i) where
  mem := by simp
  obj := fun i h st b hb => by
    have e : b = it := by simpa using hb
    subst e
    obtain ⟨o, e, c, d⟩ := st
    exact ⟨o, e, fun v z => by rw [d] at z; cases z⟩
  keep := fun i h h' st k => st.at fun o e => k it (by simp) o e
  item := by
    intro X hP hw hK hc i pins s σ H E I hf st hg
    subst hP hw hK
    obtain ⟨xs, x, hq, hx⟩ := hg
    obtain ⟨its, rv, p, hz⟩ := I.list hq
    obtain ⟨u, hu, ru⟩ := rv.get hx
    obtain ⟨f0, f1, f2, f3, f4, f5⟩ := hf it (by simp)
    refine wpAny_pyNext_list_item st p.isList (x := u) (by simpa using hu) fun h' st' sb => ?_
    have I1 : Inv X pins σ H { s with heap := h' } := I.turned (t' := s.toks) (fun b o hb e => (sb.2 b hb).trans e) f0 f1 f3 f4 f5
    obtain ⟨o, e, c, d⟩ := id st'
    exact ⟨u, rfl, go_of (s := { s with heap := h' }) e c d (by decide) ⟨x, H, I1, ru, ⟨rfl, fun ys hy => by rw [I.list_inj hy hq]; exact hx⟩, st', fun b hb => (hf b hb).1⟩⟩
  done := by
    intro X hP hw hK hc i pins s σ H E I hf st hg
    subst hP hw hK
    obtain ⟨xs, hq, hx⟩ := hg
    obtain ⟨its, rv, p, hz⟩ := I.list hq
    obtain ⟨f0, f1, f2, f3, f4, f5⟩ := hf it (by simp)
    have hl := rv.length
    exact wpAny_pyNext_list_end (I.ok.hd hc) st p.isList (by simp; omega) fun h' eb => ⟨rfl, I.turned (t' := s.toks) (fun b o hb e => eb b o hb e) f0 f1 f3 f4 f5⟩
  self := fun _ _ _ _ _ st h => wpAny_pyIter_listiter st h
theorem turn_range {P : Program} {w : World} {K : PySem.W.Frag} {tg : Expr} (it : Addr) (lo : Int) (n : Nat) : Turn P w K tg (Itr lo n) [it] it (fun i h => IsRangeIter h it (lo + (i : Nat) * 1) ((n : Int) - (i : Nat)) 1) where
  mem := by simp
  obj := fun i h st b hb => by
    have e : b = it := by simpa using hb
    subst e
    exact ⟨_, st, fun v z => by
      have z' : Data.fields _ = Data.cell v := z
      cases z'⟩
  keep := fun i h h' st k => k it (by simp) _ st
  item := by
    intro X hP hw hK hc i pins s σ H E I hf st hg
    subst hP hw hK
    obtain ⟨f0, f1, f2, f3, f4, f5⟩ := hf it (by simp)
    have W := Walks.range (prog := X.prog) (w := X.w) (I.ok.hd hc) it lo 1 n
    refine W.item i s _ _ hg st fun v h' tk hv st' kk => ?_
    obtain ⟨t, rfl⟩ := hv
    have I1 : Inv X pins σ H { s with heap := h', toks := tk } := I.turned (fun b o hb e => kk b o (by simpa using hb) e) f0 f1 f3 f4 f5
    refine ⟨_, rfl, go_of (s := { s with heap := h', toks := tk }) (n := "range_iterator") st' rfl rfl (by decide) ⟨.int (lo + i), H, I1, ⟨t, ?_⟩, ⟨rfl, rfl⟩, st', fun b hb => (hf b hb).1⟩⟩
    rw [Int.mul_one]
  done := by
    intro X hP hw hK hc i pins s σ H E I hf st hg
    subst hP hw hK
    obtain ⟨f0, f1, f2, f3, f4, f5⟩ := hf it (by simp)
    exact wpAny_pyNext_range_end (I.ok.hd hc) st (by have : n ≤ i := hg; omega) fun h' eb => ⟨rfl, I.turned (t' := s.toks) (fun b o hb e => eb b o hb e) f0 f1 f3 f4 f5⟩
  self := fun _ _ _ _ _ st h => wpAny_pyIter_rangeiter st h
end L2
namespace L2
open PySem PySem.Spec PyProof.Rows
section
variable {X : Cx} {tg : Expr}
def iList (K : PySem.W.Frag) (tl : TE) : TI := fun σ H R => tl σ H fun x H1 => ∃ a, x = .ref a ∧ (∃ xs, SqL K H1 a xs) ∧ R (Itl K a) H1
theorem pi_list {l : Expr} {tl : TE} (hl : PE X l tl) : PI X tg l (iList X.K tl) := by
  intro pins s σ H R I h
  refine thn (hl pins s σ H _ I h) fun v s1 ⟨x, H1, I1, r1, q1⟩ => ?_
  obtain ⟨a, e, ⟨xs, hq⟩, q⟩ := q1
  subst e
  cases r1
  obtain ⟨its, rv, p, hz⟩ := I1.list hq
  refine wpAny_pyIter_list p.isList ?_
  refine ⟨s1.heap.objs.size, [s1.heap.objs.size], _, _, H1, rfl, I1.kept (t' := s1.toks) fun b o e => Heap.get?_push_of_some _ e, turn_list a _, ⟨_, Heap.get?_push_size _ rfl, rfl, rfl⟩, fun b hb => ?_, q⟩
  have e : b = s1.heap.objs.size := by simpa using hb
  subst e
  exact I1.fpOk (Nat.le_refl _) (I1.hok.fresh (Nat.le_refl _))
theorem range_it {pins : List (Addr × Obj)} {σ : St} {H : Hp} {s : Shared} {R : It → Hp → Prop} {E : Value → Shared → Prop} {lo hi : Int} {t u v : Tok} {tk : Nat} (I : Inv X pins σ H s) (h1 : -(2 ^ 62) ≤ lo) (h2 : lo < 2 ^ 62) (h3 : -(2 ^ 62) ≤ hi) (h4 : hi < 2 ^ 62)
    (q : R (Itr lo (hi - lo).toNat) H) : wpAny (model X.prog X.w) X.A (pyIter (.ref s.heap.objs.size)) (PIE X pins σ tg R) E { s with heap := s.heap.push { cls := .type "range", data := .fields #[.int lo t, .int hi u, .int 1 v] }, toks := tk } := by
  refine wpAny_pyIter_range (IsRange.new ..) (small_one h1 h2 h3 h4) ?_
  have I1 : Inv X pins σ H { s with heap := s.heap.push { cls := .type "range", data := .fields #[.int lo t, .int hi u, .int 1 v] }, toks := tk } := I.kept fun b o e => Heap.get?_push_of_some _ e
  refine ⟨(s.heap.push { cls := .type "range", data := .fields #[.int lo t, .int hi u, .int 1 v] }).objs.size, [(s.heap.push { cls := .type "range", data := .fields #[.int lo t, .int hi u, .int 1 v] }).objs.size], _, _, H, rfl,
    I1.kept (t' := tk) fun b o e => Heap.get?_push_of_some _ e, turn_range _ lo (hi - lo).toNat, ?_, fun b hb => ?_, q⟩
  · have e1 : lo + ((0 : Nat) : Int) * 1 = lo := by simp
    have e2 : (((hi - lo).toNat : Nat) : Int) - ((0 : Nat) : Int) = Builtin.Range.rangeSize lo hi 1 := by rw [rangeSize_one]; split <;> omega
    show IsRangeIter _ _ (lo + ((0 : Nat) : Int) * 1) ((((hi - lo).toNat : Nat) : Int) - ((0 : Nat) : Int)) 1
    rw [e1, e2]
    exact Heap.get?_push_size _ rfl
  · have e : b = (s.heap.push { cls := .type "range", data := .fields #[.int lo t, .int hi u, .int 1 v] }).objs.size := by simpa using hb
    subst e
    exact I1.fpOk (Nat.le_refl _) (I1.hok.fresh (Nat.le_refl _))
def iRng1 (ta : TA) : TI := fun σ H R => ta σ H fun vs H1 => ∃ j : Int, vs = [.int j] ∧ -(2 ^ 62) ≤ j ∧ j < 2 ^ 62 ∧ R (Itr 0 j.toNat) H1
theorem pi_range1 {a : Expr} {ta : TA} {p pos : Pos} (hg : Gl X "range") (hm : X.mg "range" = none) (ha : PA X [a] ta) (hs : starEach [a] X.env = [(false, eval a X.env)] := by rfl) : PI X tg (.Call (.Name "range" p) [a] [] pos) (iRng1 ta) := by
  intro pins s σ H R I h
  refine Call_ (ld_blt I hg hm boot_range (PyProof.Rows.callWith_type1 (thn (ha pos pins s σ H _ I h) fun us s1 ⟨vs, H1, I1, r1, q1⟩ => ?_) hs rfl))
  obtain ⟨j, e, q1, q2, q⟩ := q1
  subst e
  cases r1 with
  | cons r rr =>
    cases rr
    obtain ⟨t, rfl⟩ := r
    exact call_range_1 (range_it I1 (by omega) (by omega) q1 q2 (by simpa using q))
def tFor (wi : TI) (g : TG) (tb : TS) : TS := fun D σ H => wi σ H fun J H1 => ∃ W : Nat → Nat → St → Hp → Prop, (∃ m, W 0 m σ H1) ∧ ∀ i m σ H, W i m σ H →
  (J.stop i H ∧ D.nx σ H) ∨ (J.go i H ∧ ∃ N : St → Hp → Prop, (∀ σ' H', N σ' H' → ∃ m', m' < m ∧ W (i + 1) m' σ' H') ∧ ∀ x H', J.yld i H x H' → g x σ H' fun σ2 H2 => tb { D with nx := N, ct := N, bk := D.nx } σ2 H2)
def pinsAt (fp : List Addr) (h : Heap) : List (Addr × Obj) := fp.filterMap fun b => (h.get? b).map fun o => (b, o)
theorem mem_pinsAt {fp : List Addr} {h : Heap} {b : Addr} {o : Obj} (hb : b ∈ fp) (e : h.get? b = some o) : (b, o) ∈ pinsAt fp h := List.mem_filterMap.mpr ⟨b, hb, by rw [e]; rfl⟩
theorem of_pinsAt {fp : List Addr} {h : Heap} {p : Addr × Obj} (hp : p ∈ pinsAt fp h) : p.1 ∈ fp ∧ h.get? p.1 = some p.2 := by
  obtain ⟨b, hb, e⟩ := List.mem_filterMap.mp hp
  cases q : h.get? b with
  | none => rw [q] at e; cases e
  | some o =>
    rw [q] at e
    have e' : (b, o) = p := Option.some.inj e
    subst e'
    exact ⟨hb, q⟩
theorem Inv.pinned {pins : List (Addr × Obj)} {σ : St} {H : Hp} {s : Shared} {fp : List Addr} (I : Inv X pins σ H s) (hf : ∀ b ∈ fp, FpOk X pins H b) (ho : ∀ b ∈ fp, ∃ o, s.heap.get? b = some o ∧ ∀ v, o.data ≠ .cell v) : Inv X (pins ++ pinsAt fp s.heap) σ H s :=
  I.pins_of fun p hp => (List.mem_append.mp hp).elim (fun z => I.pin p (List.mem_append_right _ z)) fun z => by
    obtain ⟨hb, e⟩ := of_pinsAt z
    obtain ⟨f0, f1, f2, _⟩ := hf p.1 hb
    obtain ⟨o, e', d⟩ := ho p.1 hb
    rw [e] at e'; cases e'
    exact ⟨e, f0, f1, f2, d⟩
theorem Inv.unpinned {pins pl : List (Addr × Obj)} {σ : St} {H : Hp} {s : Shared} (I : Inv X (pins ++ pl) σ H s) : Inv X pins σ H s := I.pins_of fun p hp => I.pin p (List.mem_append_right _ (List.mem_append_left _ hp))
theorem ps_for {iter : Expr} {body : List Stmt} {wi : TI} {g : TG} {tb : TS} {pos : Pos} (hp : PassesOwn (model X.prog X.w) X.A X.env X.xe) (hc : X.calm = true) (hi : PI X tg iter wi) (hg : PG X tg g) (hb : PSs X body tb)
    (hs : ∀ x, foldedSetIterable iter X.env x = pure x := by intro _; rfl) : PS X (.For tg iter body [] pos) (tFor wi g tb) := by
  intro pins s σ H D I h
  refine wpAny_For (thn (hi pins s σ H _ I h) fun v s1 h1 => thn h1 fun itv s2 h2 => ?_) hs
  obtain ⟨it, fp, tn, J, H2, e, I2, T, st2, f2, W, ⟨m0, w0⟩, turn⟩ := h2
  subst e
  have stat : ∀ {H' : Hp}, (∀ b ∈ fp, H' b = none) → ∀ b ∈ fp, FpOk X pins H' b := fun hn b hb => ⟨hn b hb, (f2 b hb).2⟩
  refine codeAny_forLoop_any (fun n s' => ∃ i σ' H', Inv X pins σ' H' s' ∧ tn i s'.heap ∧ (∀ b ∈ fp, H' b = none) ∧ W i n σ' H') ?_ m0 ⟨0, σ, H2, I2, st2, fun b hb => (f2 b hb).1, w0⟩
  rintro n s3 ⟨i, σ3, H3, I3, st3, fr3, w3⟩
  rcases turn i n σ3 H3 w3 with ⟨stop, qn⟩ | ⟨go, N, hN, step⟩
  · refine wpAny_passesOwn hp (thn (T.done X rfl rfl rfl hc i pins s3 σ3 H3 X.xe I3 (stat fr3) st3 stop) fun r s4 ⟨hr, I4⟩ => ?_)
    subst hr
    exact wpAny_execs_nil ⟨σ3, H3, I4, qn⟩
  · refine wpAny_passesOwn hp (thn (T.item X rfl rfl rfl hc i pins s3 σ3 H3 X.xe I3 (stat fr3) st3 go) fun r s4 ⟨u, hr, h4⟩ => ?_)
    subst hr
    refine wpAny_passesOwn hp (thn h4 fun _ s5 ⟨x, H5, I5, r5, y5, st5, fr5⟩ => ?_)
    have I5' := I5.pinned (stat fr5) (T.obj _ _ st5)
    refine wpAny_passesOwn hp (thn (hg _ s5 σ3 H5 x u _ I5' r5 (step x H5 y5)) fun _ s6 ⟨σ6, H6, I6, q6⟩ => ?_)
    refine wpAny_passesOwn hp (thn (hb _ s6 σ6 H6 _ I6 q6) fun f s7 q7 => ?_)
    have again : ∀ {σ7 : St} {H7 : Hp}, Inv X (pins ++ pinsAt fp s5.heap) σ7 H7 s7 → N σ7 H7 → ∃ m, m < n ∧ ∃ i σ' H', Inv X pins σ' H' s7 ∧ tn i s7.heap ∧ (∀ b ∈ fp, H' b = none) ∧ W i m σ' H' := fun {σ7 H7} I7 n7 => by
      obtain ⟨m', hm, w7⟩ := hN σ7 H7 n7
      refine ⟨m', hm, i + 1, σ7, H7, I7.unpinned, T.keep _ _ _ st5 fun b hb o e => (I7.pin (b, o) (List.mem_append_right _ (List.mem_append_right _ (mem_pinsAt hb e)))).1, fun b hb => ?_, w7⟩
      obtain ⟨o, e, d⟩ := T.obj _ _ st5 b hb
      exact (I7.pin (b, o) (List.mem_append_right _ (List.mem_append_right _ (mem_pinsAt hb e)))).2.1
    cases f with
    | next => obtain ⟨σ7, H7, I7, n7⟩ := q7; exact again I7 n7
    | cont => obtain ⟨σ7, H7, I7, n7⟩ := q7; exact again I7 n7
    | brk => obtain ⟨σ7, H7, I7, q7⟩ := q7; exact ⟨σ7, H7, I7.unpinned, q7⟩
    | ret v => obtain ⟨x7, σ7, H7, I7, r7, q7⟩ := q7; exact ⟨x7, σ7, H7, I7.unpinned, r7, q7⟩
end
theorem for_range {lo : Int} {n : Nat} {g : TG} {tb : TS} {D : Ends} {σ : St} {H : Hp} (Pv : Nat → St → Hp → Prop) (h0 : Pv 0 σ H)
    (hs : ∀ i σ H, i < n → Pv i σ H → g (.int (lo + i)) σ H fun σ2 H2 => tb { D with nx := Pv (i + 1), ct := Pv (i + 1), bk := D.nx } σ2 H2) (hd : ∀ σ H, Pv n σ H → D.nx σ H) :
    ∃ W : Nat → Nat → St → Hp → Prop, (∃ m, W 0 m σ H) ∧ ∀ i m σ H, W i m σ H →
      ((Itr lo n).stop i H ∧ D.nx σ H) ∨ ((Itr lo n).go i H ∧ ∃ N : St → Hp → Prop, (∀ σ' H', N σ' H' → ∃ m', m' < m ∧ W (i + 1) m' σ' H') ∧ ∀ x H', (Itr lo n).yld i H x H' → g x σ H' fun σ2 H2 => tb { D with nx := N, ct := N, bk := D.nx } σ2 H2) := by
  refine ⟨fun i m σ H => m = n - i ∧ i ≤ n ∧ Pv i σ H, ⟨n, by simp, Nat.zero_le _, h0⟩, ?_⟩
  rintro i m σ H ⟨rfl, hi, p⟩
  by_cases hlt : i < n
  · refine .inr ⟨hlt, Pv (i + 1), fun σ' H' p' => ⟨n - (i + 1), by omega, rfl, hlt, p'⟩, fun x H' y => ?_⟩
    obtain ⟨e, y⟩ := y
    subst e y
    exact hs i σ _ hlt p
  · have e : i = n := by omega
    subst e
    exact .inl ⟨Nat.le_refl _, hd σ H p⟩
end L2
namespace L2
open PySem PySem.Spec PyProof.Rows
abbrev R2 := V → V → Hp → VK → Prop
def OpR (X : Cx) (f : Value → Value → Sem Value) (r : R2) : Prop :=
  ∀ (pins : List (Addr × Obj)) (s : Shared) (σ : St) (H : Hp) (x y : V) (v u : Value) (Q : VK), Inv X pins σ H s → RelV x v → RelV y u → r x y H Q →
    wpAny (model X.prog X.w) X.A (f v u) (EP X pins σ Q) X.xe s
def CallR (X : Cx) (f : Value) (r : List V → Hp → VK → Prop) : Prop :=
  ∀ (pins : List (Addr × Obj)) (s : Shared) (σ : St) (H : Hp) (xs : List V) (us : List Value) (Q : VK), Inv X pins σ H s → Vals xs us → r xs H Q →
    wpAny (model X.prog X.w) X.A (call f us) (EP X pins σ Q) X.xe s
def tOp (r : R2) (ta tb : TE) : TE := fun σ H Q => ta σ H fun x H1 => tb σ H1 fun y H2 => r x y H2 Q
def rI (C : Int → Int → Prop) (g : Int → Int → V) : R2 := fun x y H Q => ∃ i j, x = .int i ∧ y = .int j ∧ C i j ∧ Q (g i j) H
def rI0 (g : Int → Int → V) : R2 := fun x y H Q => ∃ i j, x = .int i ∧ y = .int j ∧ Q (g i j) H
section
variable {X : Cx} {a b c : Expr} {ta tb tc : TE} {pos : Pos}
theorem binT (ha : PE X a ta) (hb : PE X b tb) {pins : List (Addr × Obj)} {s : Shared} {σ : St} {H : Hp} {R : V → V → Hp → Prop} (I : Inv X pins σ H s)
    (h : ta σ H fun x H1 => tb σ H1 fun y H2 => R x y H2) {Q : Value → Shared → Prop} {f : Value → Value → Sem Value}
    (hf : ∀ v u s2 x y H2, Inv X pins σ H2 s2 → RelV x v → RelV y u → R x y H2 → wpAny (model X.prog X.w) X.A (f v u) Q X.xe s2) :
    wpAny (model X.prog X.w) X.A (eval a X.env) (fun v s₁ => wpAny (model X.prog X.w) X.A (eval b X.env) (fun u s₂ => wpAny (model X.prog X.w) X.A (f v u) Q X.xe s₂) X.xe s₁) X.xe s := by
  refine thn (ha pins s σ H _ I h) fun v s1 ⟨x, H1, I1, r1, q1⟩ => ?_
  refine thn (hb pins s1 σ H1 _ I1 q1) fun u s2 ⟨y, H2, I2, r2, q2⟩ => ?_
  exact hf v u s2 x y H2 I2 r1 r2 q2
theorem pe_op {op : Operator} {r : R2} (ho : OpR X (binaryOp op) r) (ha : PE X a ta) (hb : PE X b tb) : PE X (.BinOp a op b pos) (tOp r ta tb) := by
  intro pins s σ H Q I h
  exact wpAny_BinOp (binT ha hb I h fun v u s2 x y H2 I2 rx ry q => ho pins s2 σ H2 x y v u Q I2 rx ry q)
theorem opI {f : Value → Value → Sem Value} {C : Int → Int → Prop} {g : Int → Int → Int}
    (rule : ∀ (i j : Int) (t u : Tok) (s : Shared) (Q : Value → Shared → Prop) (E : Value → Shared → Prop), C i j → Q (.int (g i j) s.toks) { s with toks := s.toks + 1 } → wpAny (model X.prog X.w) X.A (f (.int i t) (.int j u)) Q E s) :
    OpR X f (rI C fun i j => .int (g i j)) := by
  intro pins s σ H x y v u Q I rx ry h
  obtain ⟨i, j, rfl, rfl, hc, q⟩ := h
  obtain ⟨t, rfl⟩ := rx
  obtain ⟨t', rfl⟩ := ry
  exact rule i j t t' s _ _ hc ⟨.int (g i j), H, I.tok _, ⟨_, rfl⟩, q⟩
theorem opI0 {f : Value → Value → Sem Value} {g : Int → Int → Int}
    (rule : ∀ (i j : Int) (t u : Tok) (s : Shared) (Q : Value → Shared → Prop) (E : Value → Shared → Prop), Q (.int (g i j) s.toks) { s with toks := s.toks + 1 } → wpAny (model X.prog X.w) X.A (f (.int i t) (.int j u)) Q E s) :
    OpR X f (rI0 fun i j => .int (g i j)) := by
  intro pins s σ H x y v u Q I rx ry h
  obtain ⟨i, j, rfl, rfl, q⟩ := h
  obtain ⟨t, rfl⟩ := rx
  obtain ⟨t', rfl⟩ := ry
  exact rule i j t t' s _ _ ⟨.int (g i j), H, I.tok _, ⟨_, rfl⟩, q⟩
theorem opB0 {f : Value → Value → Sem Value} {g : Int → Int → Bool}
    (rule : ∀ (i j : Int) (t u : Tok) (s : Shared) (Q : Value → Shared → Prop) (E : Value → Shared → Prop), Q (.bool (g i j)) s → wpAny (model X.prog X.w) X.A (f (.int i t) (.int j u)) Q E s) :
    OpR X f (rI0 fun i j => .bl (g i j)) := by
  intro pins s σ H x y v u Q I rx ry h
  obtain ⟨i, j, rfl, rfl, q⟩ := h
  obtain ⟨t, rfl⟩ := rx
  obtain ⟨t', rfl⟩ := ry
  exact rule i j t t' s _ _ ⟨.bl (g i j), H, I, rfl, q⟩
def CDiv (i j : Int) : Prop := 0 < j ∧ j < 1073741824
def CPow (i j : Int) : Prop := 0 ≤ j ∧ j ≤ 1000000 ∧ i.natAbs < 2 ^ 64
def CMul (i j : Int) : Prop := (-(2 ^ 64) < i ∧ i < 2 ^ 64) ∨ (-(2 ^ 64) < j ∧ j < 2 ^ 64)
theorem CMul.ok {i j : Int} (h : CMul i j) : IntMulOk i j := by
  rcases h with ⟨h1, h2⟩ | ⟨h1, h2⟩
  · exact .of_left (intBits_le_64 h1 h2)
  · exact .of_right (intBits_le_64 h1 h2)
theorem op_add : OpR X (binaryOp .Add) (rI0 fun i j => .int (i + j)) := opI0 fun _ _ _ _ _ _ _ q => add_int q
theorem op_mul : OpR X (binaryOp .Mult) (rI CMul fun i j => .int (i * j)) := opI fun _ _ _ _ _ _ _ hc q => mul_int q hc.ok
theorem op_fdiv : OpR X (binaryOp .FloorDiv) (rI CDiv fun i j => .int (i / j)) := opI fun i j _ _ _ _ _ hc q => by
  have h1 : (0 : Int) < j := hc.1
  have h2 : j < 1073741824 := hc.2
  exact floordiv_int (by omega) (by rw [Int.fdiv_eq_ediv_of_nonneg i (by omega)]; exact q) (.inl (PyProof.noPylong_small (by omega)))
theorem op_mod : OpR X (binaryOp .Mod) (rI (fun _ j => 0 < j) fun i j => .int (i % j)) := opI fun i j _ _ _ _ _ hc q => by
  have h1 : (0 : Int) < j := hc
  exact mod_int' (by omega) (by rw [Int.fmod_eq_emod_of_nonneg i (by omega)]; exact q)
theorem op_pow : OpR X (binaryOp .Pow) (rI CPow fun i j => .int (i ^ j.toNat)) := opI fun _ _ _ _ _ _ _ hc q => pow_int_small hc.1 hc.2.1 hc.2.2 q
end
def scal : V → V → Bool
  | .non, .non => true | .non, .int _ => true | .int _, .non => true | .non, .bl _ => true | .bl _, .non => true | .non, .str _ => true | .str _, .non => true
  | .int _, .int _ => true | .bl _, .bl _ => true | .str _, .str _ => true | .byt _, .byt _ => true
  | .int _, .str _ => true | .str _, .int _ => true | .bl _, .str _ => true | .str _, .bl _ => true
  | _, _ => false
def rEq : R2 := fun x y H Q => scal x y = true ∧ Q (.bl (decide (x = y))) H
def rNe : R2 := fun x y H Q => scal x y = true ∧ Q (.bl (!decide (x = y))) H
theorem dec_int {i j : Int} : decide (V.int i = V.int j) = (i == j) := by
  rw [Bool.eq_iff_iff]
  simp
theorem dec_bl {i j : Bool} : decide (V.bl i = V.bl j) = (i == j) := by
  rw [Bool.eq_iff_iff]
  simp
theorem dec_str {i j : Str} : decide (V.str i = V.str j) = (i == j) := by
  rw [Bool.eq_iff_iff]
  simp
theorem dec_byt {i j : Array UInt8} : decide (V.byt i = V.byt j) = (i.toList == j.toList) := by
  rw [Bool.eq_iff_iff]
  cases i
  cases j
  simp
section
variable {X : Cx} {a b c : Expr} {ta tb tc : TE} {pos : Pos}
theorem fin_bl {pins : List (Addr × Obj)} {σ : St} {H : Hp} {s : Shared} {Q : VK} {k k' : Bool} (I : Inv X pins σ H s) (q : Q (.bl k) H) (e : k = k') : EP X pins σ Q (.bool k') s := by
  subst e
  exact ⟨.bl k, H, I, rfl, q⟩
theorem op_eq : OpR X (compareOp .Eq) rEq := by
  intro pins s σ H x y v u Q I rx ry h
  obtain ⟨hs, q⟩ := h
  cases x with
  | non =>
    cases rx
    cases y with
    | non => cases ry; exact PySem.EqNone.eq_none_none (fin_bl I q (by simp))
    | bl j => cases ry; exact PySem.EqNone.eq_none_bool (fin_bl I q (by simp))
    | int j => obtain ⟨t', rfl⟩ := ry; exact PySem.EqNone.eq_none_int (fin_bl I q (by simp))
    | str j => obtain ⟨t', rfl⟩ := ry; exact PySem.EqNone.eq_none_str (fin_bl I q (by simp))
    | _ => exact absurd (show false = true from hs) Bool.false_ne_true
  | bl i =>
    cases rx
    cases y with
    | non => cases ry; exact PySem.EqNone.eq_bool_none (fin_bl I q (by simp))
    | bl j => cases ry; exact eq_bool (fin_bl I q dec_bl)
    | str j => obtain ⟨t', rfl⟩ := ry; exact PySem.EqMixed.eq_bool_str (fin_bl I q (by simp))
    | _ => exact absurd (show false = true from hs) Bool.false_ne_true
  | int i =>
    obtain ⟨t, rfl⟩ := rx
    cases y with
    | non => cases ry; exact PySem.EqNone.eq_int_none (fin_bl I q (by simp))
    | int j => obtain ⟨t', rfl⟩ := ry; exact eq_int (fin_bl I q dec_int)
    | str j => obtain ⟨t', rfl⟩ := ry; exact PySem.EqMixed.eq_int_str (fin_bl I q (by simp))
    | _ => exact absurd (show false = true from hs) Bool.false_ne_true
  | str i =>
    obtain ⟨t, rfl⟩ := rx
    cases y with
    | non => cases ry; exact PySem.EqNone.eq_str_none (fin_bl I q (by simp))
    | bl j => cases ry; exact PySem.EqMixed.eq_str_bool (fin_bl I q (by simp))
    | int j => obtain ⟨t', rfl⟩ := ry; exact PySem.EqMixed.eq_str_int (fin_bl I q (by simp))
    | str j => obtain ⟨t', rfl⟩ := ry; exact eq_str (fin_bl I q dec_str)
    | _ => exact absurd (show false = true from hs) Bool.false_ne_true
  | byt i =>
    obtain ⟨t, rfl⟩ := rx
    cases y with
    | byt j => obtain ⟨t', rfl⟩ := ry; exact PySem.W.eq_bytes (fin_bl I q dec_byt)
    | _ => exact absurd (show false = true from hs) Bool.false_ne_true
  | _ => cases y <;> exact absurd (show false = true from hs) Bool.false_ne_true
theorem op_ne : OpR X (compareOp .NotEq) rNe := by
  intro pins s σ H x y v u Q I rx ry h
  obtain ⟨hs, q⟩ := h
  cases x with
  | non =>
    cases rx
    cases y with
    | non => cases ry; exact PySem.EqNone.ne_none_none (fin_bl I q (by simp))
    | bl j => cases ry; exact PySem.EqNone.ne_none_bool (fin_bl I q (by simp))
    | int j => obtain ⟨t', rfl⟩ := ry; exact PySem.EqNone.ne_none_int (fin_bl I q (by simp))
    | str j => obtain ⟨t', rfl⟩ := ry; exact PySem.EqNone.ne_none_str (fin_bl I q (by simp))
    | _ => exact absurd (show false = true from hs) Bool.false_ne_true
  | bl i =>
    cases rx
    cases y with
    | non => cases ry; exact PySem.EqNone.ne_bool_none (fin_bl I q (by simp))
    | bl j => cases ry; exact ne_bool (fin_bl I q (congrArg not dec_bl))
    | str j => obtain ⟨t', rfl⟩ := ry; exact PySem.EqMixed.ne_bool_str (fin_bl I q (by simp))
    | _ => exact absurd (show false = true from hs) Bool.false_ne_true
  | int i =>
    obtain ⟨t, rfl⟩ := rx
    cases y with
    | non => cases ry; exact PySem.EqNone.ne_int_none (fin_bl I q (by simp))
    | int j => obtain ⟨t', rfl⟩ := ry; exact ne_int (fin_bl I q (congrArg not dec_int))
    | str j => obtain ⟨t', rfl⟩ := ry; exact PySem.EqMixed.ne_int_str (fin_bl I q (by simp))
    | _ => exact absurd (show false = true from hs) Bool.false_ne_true
  | str i =>
    obtain ⟨t, rfl⟩ := rx
    cases y with
    | non => cases ry; exact PySem.EqNone.ne_str_none (fin_bl I q (by simp))
    | bl j => cases ry; exact PySem.EqMixed.ne_str_bool (fin_bl I q (by simp))
    | int j => obtain ⟨t', rfl⟩ := ry; exact PySem.EqMixed.ne_str_int (fin_bl I q (by simp))
    | str j => obtain ⟨t', rfl⟩ := ry; exact ne_str (fin_bl I q (congrArg not dec_str))
    | _ => exact absurd (show false = true from hs) Bool.false_ne_true
  | byt i =>
    obtain ⟨t, rfl⟩ := rx
    cases y with
    | byt j => obtain ⟨t', rfl⟩ := ry; exact PySem.W.ne_bytes (fin_bl I q (congrArg not dec_byt))
    | _ => exact absurd (show false = true from hs) Bool.false_ne_true
  | _ => cases y <;> exact absurd (show false = true from hs) Bool.false_ne_true
theorem op_lt : OpR X (compareOp .Lt) (rI0 fun i j => .bl (decide (i < j))) := opB0 fun _ _ _ _ _ _ _ q => lt_int q
theorem op_gt : OpR X (compareOp .Gt) (rI0 fun i j => .bl (decide (j < i))) := opB0 fun _ _ _ _ _ _ _ q => gt_int q
theorem op_ge : OpR X (compareOp .GtE) (rI0 fun i j => .bl (decide (j ≤ i))) := opB0 fun _ _ _ _ _ _ _ q => ge_int q
theorem op_isN : OpR X (compareOp .Is) (fun x y H Q => y = .non ∧ Q (.bl (decide (x = .non))) H) := by
  intro pins s σ H x y v u Q I rx ry h
  obtain ⟨rfl, q⟩ := h
  cases ry
  refine is_none_gen (fin_bl I q ?_)
  cases x <;> first
    | (cases rx; rfl)
    | (obtain ⟨t, rfl⟩ := rx; rfl)
theorem OpR.or {f : Value → Value → Sem Value} {r r' : R2} (h : OpR X f r) (h' : OpR X f r') : OpR X f (fun x y H Q => r x y H Q ∨ r' x y H Q) := by
  intro pins s σ H x y v u Q I rx ry q
  rcases q with q | q
  · exact h pins s σ H x y v u Q I rx ry q
  · exact h' pins s σ H x y v u Q I rx ry q
theorem nomark (b : Expr) {op : CmpOp} (h : op ≠ .In := by decide) (h2 : op ≠ .NotIn := by decide) : behindInMarks op b = false := by
  have e1 : (op == CmpOp.In) = false := by cases op <;> first | rfl | exact absurd rfl h
  have e2 : (op == CmpOp.NotIn) = false := by cases op <;> first | rfl | exact absurd rfl h2
  cases b <;> simp [behindInMarks, e1, e2]
theorem pe_cmpR {op : CmpOp} {r : R2} (ho : OpR X (compareOp op) r) (ha : PE X a ta) (hb : PE X b tb) (hm : behindInMarks op b = false) : PE X (.Compare a [op] [b] pos) (tOp r ta tb) := by
  intro pins s σ H Q I h
  exact wpAny_Compare1 (binT ha hb I h fun v u s2 x y H2 I2 rx ry q => ho pins s2 σ H2 x y v u Q I2 rx ry q) hm
def tTest (t : TE) : TT := fun σ H Q => t σ H fun x H' => ∃ k, x = .bl k ∧ Q k H'
theorem pt_cmpR {op : CmpOp} {r : R2} (ho : OpR X (compareOp op) r) (ha : PE X a ta) (hb : PE X b tb) (hm : behindInMarks op b = false) : PT X (.Compare a [op] [b] pos) (tTest (tOp r ta tb)) := by
  intro pins s σ H Q I h
  refine wpAny_isTrue_Compare1 (thn (ha pins s σ H _ I h) fun v s1 ⟨x, H1, I1, r1, q1⟩ => thn (hb pins s1 σ H1 _ I1 q1) fun u s2 ⟨y, H2, I2, r2, q2⟩ =>
    thn (ho pins s2 σ H2 x y v u _ I2 r1 r2 q2) fun c s3 ⟨z, H3, I3, r3, k, e, q3⟩ => ?_) hm
  subst e
  cases r3
  exact wpAny_truthy_bool ⟨H3, I3, q3⟩
theorem line63 : (sizeLine : Nat) < 2 ^ 63 := by rw [sizeLine_eq]; decide
theorem op_add_str : OpR X (binaryOp .Add) (fun x y H Q => ∃ i j, x = .str i ∧ y = .str j ∧ i.length + j.length ≤ sizeLine ∧ Q (.str (i ++ j)) H) := by
  intro pins s σ H x y v u Q I rx ry h
  obtain ⟨i, j, rfl, rfl, hz, q⟩ := h
  obtain ⟨t, rfl⟩ := rx
  obtain ⟨t', rfl⟩ := ry
  exact add_str (fun t' tk => ⟨.str (i ++ j), H, I.tok _, ⟨_, rfl⟩, q⟩) hz
theorem vals1 {x : V} {us : List Value} (r : Vals [x] us) : ∃ u, us = [u] ∧ RelV x u := by
  cases r with
  | cons r1 r2 => cases r2; exact ⟨_, rfl, r1⟩
theorem vals2 {x y : V} {us : List Value} (r : Vals [x, y] us) : ∃ u w', us = [u, w'] ∧ RelV x u ∧ RelV y w' := by
  cases r with
  | cons r1 r2 =>
    cases r2 with
    | cons r3 r4 => cases r4; exact ⟨_, _, rfl, r1, r3⟩
theorem call_abs : CallR X (.builtin "abs") (fun xs H Q => ∃ i, xs = [.int i] ∧ Q (.int (if i < 0 then -i else i)) H) := by
  intro pins s σ H xs us Q I r h
  obtain ⟨i, rfl, q⟩ := h
  obtain ⟨u, rfl, t, rfl⟩ := vals1 r
  exact call_abs_int fun u tk => ⟨.int (if i < 0 then -i else i), H, I.tok _, ⟨_, rfl⟩, q⟩
def LenV (K : PySem.W.Frag) (x : V) (H : Hp) (n : Nat) : Prop :=
  match x with
  | .str y => y.length ≤ sizeLine ∧ n = y.length
  | .byt y => y.size ≤ sizeLine ∧ n = y.size
  | .ref p => (∃ xs, SqL K H p xs ∧ n = xs.length) ∨ ∃ xs, SqT K H p xs ∧ n = xs.length
  | _ => False
theorem call_len : CallR X (.builtin "len") (fun xs H Q => ∃ x n, xs = [x] ∧ LenV X.K x H n ∧ Q (.int n) H) := by
  intro pins s σ H xs us Q I r h
  obtain ⟨x, n, rfl, e, q⟩ := h
  obtain ⟨u, rfl, rx⟩ := vals1 r
  have hl := line63
  have hs : sizeLine = 16777216 := sizeLine_eq
  cases x with
  | str y =>
    obtain ⟨t, rfl⟩ := rx
    obtain ⟨hy, e'⟩ : y.length ≤ sizeLine ∧ n = y.length := e
    subst e'
    exact len_str (by omega) ⟨.int _, H, I.tok _, ⟨_, rfl⟩, q⟩
  | byt y =>
    obtain ⟨t, rfl⟩ := rx
    obtain ⟨hy, e'⟩ : y.size ≤ sizeLine ∧ n = y.size := e
    subst e'
    exact PySem.W.len_bytes (by omega) ⟨.int _, H, I.tok _, ⟨_, rfl⟩, q⟩
  | ref p =>
    cases rx
    have e' : (∃ xs, SqL X.K H p xs ∧ n = xs.length) ∨ ∃ xs, SqT X.K H p xs ∧ n = xs.length := e
    rcases e' with ⟨xs, hx, e'⟩ | ⟨xs, hx, e'⟩
    · subst e'
      obtain ⟨its, r', pl, hz⟩ := I.list hx
      have hlen := r'.length
      exact Calls.call_len_list pl.isList (by simp only [List.size_toArray]; omega) ⟨.int xs.length, H, I.tok _, ⟨_, by simp only [List.size_toArray]; rw [hlen]⟩, q⟩
    · subst e'
      obtain ⟨its, r', pl, hz⟩ := I.tuple hx
      have hlen := r'.length
      exact len_tuple pl (by simp only [List.size_toArray]; omega) ⟨.int xs.length, H, I.tok _, ⟨_, by simp only [List.size_toArray]; rw [hlen]⟩, q⟩
  | _ => exact (show False from e).elim
end
end L2
namespace L2
open PySem PySem.Spec PyProof.Rows
structure ObjM (h : Heap) (x dx C : Addr) (mA : Str → Option Value) : Prop where
  obj : h.get? x = some (PySem.W.instObj C dx)
  ns : h.Ns1 dx mA
  ne : dx ≠ x
theorem lookIn_ns {h : Heap} {dx : Addr} {mA : Str → Option Value} (n : h.Ns1 dx mA) : ∃ od, h.get? dx = some od ∧ ∀ name, PySem.W.lookIn name od = some (mA name) := by
  obtain ⟨o, es, ep, ho, hd, hk, _, hm⟩ := n
  refine ⟨o, ho, fun name => ?_⟩
  have e := hm name
  unfold nsFind findBy at e
  rw [← Array.find?_toList] at e
  unfold PySem.W.lookIn
  rw [hd]
  dsimp only
  split
  · rename_i y q
    rw [q] at e
    exact congrArg some e
  · rename_i q
    rw [q] at e
    have a : es.toList.any (·.refKey) = false := by
      rw [List.any_eq_false]
      intro y hy
      obtain ⟨z, t, hkey⟩ := hk y (Array.mem_toList_iff.mp hy)
      simp [DictEntry.refKey, hkey]
    have a' : ¬ es.toList.any (·.refKey) = true := by rw [a]; exact Bool.false_ne_true
    rw [if_neg a']
    exact congrArg some e
theorem ObjM.look {h : Heap} {x dx C : Addr} {mA : Str → Option Value} (I : ObjM h x dx C mA) : ∃ od, PySem.W.InstAt h x (PySem.W.instObj C dx) C (some od) ∧ ∀ name, PySem.W.lookIn name od = some (mA name) :=
  let ⟨od, ho, hl⟩ := lookIn_ns I.ns
  ⟨od, ⟨I.obj, rfl, rfl, ho⟩, hl⟩
theorem RelO.some_of {v : V} {o : Option Value} (r : RelO (some v) o) : ∃ u, o = some u ∧ RelV v u := by
  cases o with
  | none => exact (show False from r).elim
  | some u => exact ⟨u, rfl, r⟩
section
variable {P : Program} {w : World} {H H' : Hp} {h h' : Heap} {a C dx : Addr} {fs fs' : List (Str × V)}
theorem ins_get (hok : HOk P w H h) (e : H a = some (.ins C dx fs)) : ∃ mA, ObjM h a dx C mA ∧ (∀ f, RelO (fs.lookup f) (mA f)) ∧ PySem.Within mA (fs.map (·.1)) ∧ fs.length ≤ 1000 ∧ H dx = some (.own a) := by
  obtain ⟨d, z, ne, ob, mA, n, r, q⟩ := (show ObjOk P w H h a (.ins C dx fs) from hok a _ e)
  exact ⟨mA, ⟨ob, n, ne⟩, r, q, z, d⟩
end
structure Cls (K : PySem.W.Frag) (C : Addr) : Prop where
  pg : PySem.W.plainGet K C Str.empty = true
  hd : PySem.W.hasDictIn K C = true
  po : PySem.W.plainOver K C = true
  sa : PySem.W.findIn K (.ref C) "__setattr__" = some (some (.builtin "object.__setattr__"))
theorem Cls.get {K : PySem.W.Frag} {C : Addr} (c : Cls K C) (f : Str) : PySem.W.plainGet K C f = true := c.pg
section
variable {X : Cx} {pins : List (Addr × Obj)} {σ : St} {H : Hp} {s : Shared} {A : Around} {E : Value → Shared → Prop} {Q : Value → Shared → Prop} {c : Value} {b : Bool}
inductive TyOf (K : PySem.W.Frag) (H : Hp) : V → Value → Prop where
  | non : TyOf K H .non (.type "NoneType")
  | bl (x : Bool) : TyOf K H (.bl x) (.type "bool")
  | int (i : Int) : TyOf K H (.int i) (.type "int")
  | str (x : Str) : TyOf K H (.str x) (.type "str")
  | flt (x : UInt64) : TyOf K H (.flt x) (.type "float")
  | lst {a : Addr} {xs : List V} (e : H a = some (.lst xs)) : TyOf K H (.ref a) (.type "list")
  | frz {a : Addr} {o : Obj} {xs : List V} (e : H a = some (.frz o (.lst xs))) : TyOf K H (.ref a) (.type "list")
  | tup {a : Addr} {xs : List V} (e : SqT K H a xs) : TyOf K H (.ref a) (.type "tuple")
  | dK {a : Addr} {kvs : List (Key × V)} (e : H a = some (.dK kvs)) : TyOf K H (.ref a) (.type "dict")
  | dT {a : Addr} {kvs : List (List Key × V)} (e : H a = some (.dT kvs)) : TyOf K H (.ref a) (.type "dict")
  | ins {a C dx : Addr} {fs : List (Str × V)} (e : H a = some (.ins C dx fs)) (cl : Cls K C) (ha : PySem.W.findIn K (.ref C) "__class__" = some (some (.builtin "object.__class__")))
      (hn : PySem.W.specialIn K (.builtin "object.__class__") "__get__" = some (some (.builtin "getset_descriptor.__get__"))) (htk : PySem.W.takesIn K (.builtin "object.__class__") = some true)
      (hm : PySem.W.mroIn K C (.type "object") = some true) : TyOf K H (.ref a) (.ref C)
theorem isinst_ok {x : V} {u t : Value} (I : Inv X pins σ H s) (rx : RelV x u) (ty : TyOf X.K H x t) (e : PySem.W.kitOne X.K t c = some b) (h : ∀ tk, Q (.bool b) { s with toks := tk }) :
    wpAny (model X.prog X.w) A (call (.builtin "isinstance") [u, c]) Q E s := by
  cases ty with
  | non => cases (show u = Value.none from rx); exact PySem.W.kia_one PySem.W.kitx_none I.kIn True.intro e (fun z => nomatch z) h
  | bl y => cases (show u = Value.bool y from rx); exact PySem.W.kia_one PySem.W.kitx_bool I.kIn True.intro e (fun z => nomatch z) h
  | int i => obtain ⟨t, q⟩ := (show ∃ t, u = Value.int i t from rx); cases q; exact PySem.W.kia_one PySem.W.kitx_int I.kIn True.intro e (fun z => nomatch z) h
  | str y => obtain ⟨t, q⟩ := (show ∃ t, u = Value.str y t from rx); cases q; exact PySem.W.kia_one PySem.W.kitx_str I.kIn True.intro e (fun z => nomatch z) h
  | flt y => obtain ⟨t, q⟩ := (show ∃ t, u = Value.float y t from rx); cases q; exact PySem.W.kia_one PySem.W.kitx_float I.kIn True.intro e (fun z => nomatch z) h
  | @lst a xs ea =>
    cases (show u = Value.ref a from rx)
    obtain ⟨_, _, n, _, h1⟩ := (show ObjOk X.prog X.w H s.heap a (.lst xs) from I.hok a _ ea)
    exact PySem.W.kia_one PySem.W.kitx_list I.kIn ⟨_, h1, rfl⟩ e (fun z => nomatch z) h
  | @frz a ob xs ea =>
    cases (show u = Value.ref a from rx)
    obtain ⟨_, _, _, n, _, h1⟩ := (show ObjOk X.prog X.w H s.heap a (.frz ob (.lst xs)) from I.hok a _ ea)
    exact PySem.W.kia_one PySem.W.kitx_list I.kIn ⟨_, h1, rfl⟩ e (fun z => nomatch z) h
  | @tup a xs ea =>
    cases (show u = Value.ref a from rx)
    obtain ⟨_, _, p, _⟩ := I.tuple ea
    obtain ⟨o, h1, h2, _⟩ := p
    exact PySem.W.kia_one PySem.W.kitx_tuple I.kIn ⟨o, h1, h2⟩ e (fun z => nomatch z) h
  | @dK a kvs ea =>
    cases (show u = Value.ref a from rx)
    obtain ⟨_, _, vs, _, p⟩ := (show ObjOk X.prog X.w H s.heap a (.dK kvs) from I.hok a _ ea)
    obtain ⟨o, es, ep, h1, h2, _⟩ := p
    exact PySem.W.kia_one PySem.W.kitx_dict I.kIn ⟨o, h1, h2.1⟩ e (fun z => nomatch z) h
  | @dT a kvs ea =>
    cases (show u = Value.ref a from rx)
    obtain ⟨_, _, xs, _, o, es, ep, h1, h2, _⟩ := (show ObjOk X.prog X.w H s.heap a (.dT kvs) from I.hok a _ ea)
    exact PySem.W.kia_one PySem.W.kitx_dict I.kIn ⟨o, h1, h2.1⟩ e (fun z => nomatch z) h
  | @ins a C dx fs ea cl ha hn htk hm =>
    cases (show u = Value.ref a from rx)
    obtain ⟨mA, O, _⟩ := ins_get I.hok ea
    obtain ⟨od, J, _⟩ := O.look
    exact PySem.W.kia_one (PySem.W.kitx_own (cl.get _) cl.hd ha hn htk hm) I.kIn J e (fun z => nomatch z) h
end
end L2
namespace L2
open PySem PySem.Spec PyProof.Rows
structure Room (k : Nat) (A : Around) : Prop where
  hd : A.handled = none
  dp : A.depth + 3 * k + 5 < recursionLimit
  un : A.units + 16 * k + 200 < cLine
theorem Room.mono {j k : Nat} {A : Around} (r : Room k A) (h : j ≤ k) : Room j A := ⟨r.hd, by have := r.dp; omega, by have := r.un; omega⟩
theorem Room.deeper {k : Nat} {A : Around} (r : Room (k + 1) A) (env : Env) : Room k (A.deeper env) :=
  ⟨r.hd, by have := r.dp; show A.depth + 1 + 3 * k + 5 < _; omega, by have := r.un; show A.units + 3 + 16 * k + 200 < _; omega⟩
theorem Room.depth {k : Nat} {A : Around} (r : Room k A) : A.depth < recursionLimit := by have := r.dp; omega
def tNil : TA := fun _ H Q => Q [] H
def tCons (ta : TE) (tr : TA) : TA := fun σ H Q => ta σ H fun x H1 => tr σ H1 fun xs H2 => Q (x :: xs) H2
section
variable {X : Cx} {e : Expr} {es : List Expr} {te : TE} {t : TA} {pos : Pos}
theorem pa_nil : PA X [] tNil := fun _ _ _ _ H Q I h => Calls.spliced_nil ⟨[], H, I, .nil, h⟩
theorem pa_cons (ha : PE X e te) (hr : PA X es t) (hs : starEach (e :: es) X.env = (false, eval e X.env) :: starEach es X.env := by rfl) : PA X (e :: es) (tCons te t) := by
  intro pos pins s σ H Q I h
  rw [hs]
  show wpAny _ _ (spliced ((false, eval e X.env) :: backTo pos (starEach es X.env))) _ _ s
  refine Calls.spliced_cons (thn (ha pins s σ H _ I h) fun u s1 ⟨x, H1, I1, r1, q1⟩ => ?_)
  exact thn (hr pos pins s1 σ H1 _ I1 q1) fun us s2 ⟨xs, H2, I2, r2, q2⟩ => ⟨x :: xs, H2, I2, .cons r1 r2, q2⟩
def tLst (t : TA) : TE := fun σ H Q => t σ H fun xs H1 => xs.length ≤ sizeLine ∧ ∀ p, H1 p = none → Q (.ref p) (upd H1 p (.lst xs))
theorem pe_lst (h : PA X es t) : PE X (.List es pos) (tLst t) := by
  intro pins s σ H Q I hq
  refine wpAny_List_spliced (thn (h pos pins s σ H _ I hq) fun us s1 ⟨xs, H1, I1, r, z, q⟩ => ⟨by rw [← r.length]; exact z, ?_⟩)
  have hf : H1 s1.heap.objs.size = none := I1.hok.fresh (Nat.le_refl _)
  refine ⟨.ref s1.heap.objs.size, upd H1 s1.heap.objs.size (.lst xs), I1.laid (t' := s1.toks) (fun b u e => Heap.get?_push_of_some _ e) (Nat.le_refl _) ?_, rfl, q _ hf⟩
  exact ⟨z, us, 0, r, Heap.get?_push_size _ rfl⟩
end
abbrev Sp := List V → Hp → VK → XK → Prop
abbrev CXT := List Env → Hp → Shared → XK → Value → Shared → Prop
structure Env0 (P : Program) (w : World) (K : PySem.W.Frag) (mg : Str → Option Value) (base : Heap) (A : Around) (outer : List Env) (s : Shared) (H : Hp) : Prop where
  frames : A.frames = some outer
  mod : Mod K mg base
  bs : ∀ b o, base.get? b = some o → s.heap.get? b = some o ∧ H b = none
  bsz : base.objs.size ≤ s.heap.objs.size
  funs : s.heap.FunFrames base outer
  frf : ∀ b ∈ frs outer, H b = none
  hok : HOk P w H s.heap
  bare : AllBare s.gens
def CE (outer : List Env) (P : Program) (w : World) (H : Hp) (s : Shared) (Q : VK) (u : Value) (s' : Shared) : Prop :=
  ∃ v H', s'.os = s.os ∧ AllBare s'.gens ∧ Un (frs outer) [] H H' s.heap s'.heap ∧ HOk P w H' s'.heap ∧ RelV v u ∧ Q v H'
def CR (CX : CXT) (outer : List Env) (P : Program) (w : World) (H : Hp) (s : Shared) (Q : VK) (E : XK) (r : Result) (s' : Shared) : Prop :=
  match r with
  | .ok (.ret u) => CE outer P w H s Q u s'
  | .ok _ => False
  | .error e => CX outer H s E e s'
structure FnOk (P : Program) (w : World) (K : PySem.W.Frag) (mg : Str → Option Value) (base : Heap) (CX : CXT) (k : Nat) (f : Addr) (fd : FuncData) (ps : List Str) (sp : Sp) : Prop where
  len : ∀ vs H Q E, sp vs H Q E → vs.length = ps.length
  run : ∀ (A : Around) (outer : List Env) (s : Shared) (H : Hp) (args : Args) (us : List Value) (vs : List V) (Q : VK) (E : XK), Room k A → Env0 P w K mg base A outer s H → BindsTo s fd args (ps.zip us) → Vals vs us → sp vs H Q E →
    codeAny (model P w) A (.call (.ref f) args) (CR CX outer P w H s Q E) s
theorem FnOk.imp {P : Program} {w : World} {K : PySem.W.Frag} {mg : Str → Option Value} {base : Heap} {CX : CXT} {k : Nat} {f : Addr} {fd : FuncData} {ps : List Str} {sp sp' : Sp} (F : FnOk P w K mg base CX k f fd ps sp)
    (h : ∀ vs H Q E, sp' vs H Q E → sp vs H Q E) : FnOk P w K mg base CX k f fd ps sp' :=
  ⟨fun vs H Q E q => F.len vs H Q E (h _ _ _ _ q), fun A outer s H args us vs Q E hr he hb hv hs => F.run A outer s H args us vs Q E hr he hb hv (h _ _ _ _ hs)⟩
section
variable {X : Cx} {pins : List (Addr × Obj)} {σ : St} {H : Hp} {s s' : Shared}
theorem Inv.env0 (I : Inv X pins σ H s) : Env0 X.prog X.w X.K X.mg X.base X.A X.stack s H :=
  ⟨I.ok.frames, I.ok.mod, I.bs, Nat.le_trans I.ok.bsz I.sz, I.stack, I.stkFree, I.hok, I.bare⟩
theorem Inv.after {Q : VK} {u : Value} (I : Inv X pins σ H s) (h : CE X.stack X.prog X.w H s Q u s') : EP X pins σ Q u s' := by
  obtain ⟨v, H', os, bare, un, hok, r, q⟩ := h
  obtain ⟨hh, g, d, t, os'⟩ := s'
  obtain rfl : os' = s.os := os
  exact ⟨v, H', I.call (h' := hh) (g' := g) (d' := d) (t' := t) (ch := []) un hok bare (fun b z => absurd z (by simp)), r, q⟩
end
def tCall (sp : Sp) (dvs : List V) (E : XK) (t : TA) : TE := fun σ H Q => t σ H fun vs H1 => sp (vs ++ dvs) H1 Q E
def Binds (K : PySem.W.Frag) (fd : FuncData) (ps : List Str) (ds : List Value) : Prop :=
  ∀ (s : Shared) (us : List Value), K.In s.heap → (us ++ ds).length = ps.length → BindsTo s fd ⟨us, []⟩ (ps.zip (us ++ ds))
theorem Binds.all {K : PySem.W.Frag} {fd : FuncData} {ps : List Str} (h : ∀ us : List Value, us.length = ps.length → bindArgs fd ⟨us, []⟩ = pure (ps.zip us)) : Binds K fd ps [] := fun s us _ hl => by
  rw [List.append_nil] at hl ⊢
  exact .of_eq (h us hl)
def Passes (CX : CXT) (X : Cx) (E : XK) : Prop := ∀ (pins : List (Addr × Obj)) (σ : St) (H : Hp) (s : Shared) (e : Value) (s' : Shared), Inv X pins σ H s → CX X.stack H s E e s' → X.xe e s'
section
variable {X : Cx} {CX : CXT} {k : Nat} {f C : Addr} {fd : FuncData} {ps : List Str} {sp : Sp} {dvs : List V} {ds : List Value} {E : XK} {x m : Str} {p pos apos : Pos} {e o : Expr} {es : List Expr} {ta : TE} {t : TA}
theorem run_fn {pins : List (Addr × Obj)} {σ : St} {H : Hp} {s : Shared} {Q : VK} {us : List Value} {vs : List V} (F : FnOk X.prog X.w X.K X.mg X.base CX k f fd ps sp) (hr : Room k X.A) (hb : Binds X.K fd ps ds) (hd : Vals dvs ds) (hx : Passes CX X E)
    (I : Inv X pins σ H s) (r : Vals vs us) (h : sp (vs ++ dvs) H Q E) : wpAny (model X.prog X.w) X.A (call (.ref f) us) (EP X pins σ Q) X.xe s := by
  have r2 : Vals (vs ++ dvs) (us ++ ds) := r.append hd
  have hl : (us ++ ds).length = ps.length := by rw [← r2.length]; exact F.len _ _ _ _ h
  refine wpAny_call (codeAny_mono (F.run X.A X.stack s H ⟨us, []⟩ (us ++ ds) (vs ++ dvs) Q E hr I.env0 (hb s us I.kIn hl) r2 h) fun r s' hq => ?_)
  cases r with
  | error e => exact hx pins σ H s e s' I hq
  | ok fl =>
    cases fl with
    | ret u => exact I.after hq
    | next => exact False.elim hq
    | brk => exact False.elim hq
    | cont => exact False.elim hq
theorem pe_call (F : FnOk X.prog X.w X.K X.mg X.base CX k f fd ps sp) (hr : Room k X.A) (hg : Gl X x) (hm : X.mg x = some (.ref f)) (hk : PySem.W.keepIn X.K (.ref f) = true) (hb : Binds X.K fd ps ds) (hd : Vals dvs ds) (hx : Passes CX X E)
    (ha : PA X (e :: es) t) (hdb : (x == ("__debug__" : Str)) = false := by decide) (he : starEach (e :: es) X.env = (false, eval e X.env) :: starEach es X.env := by rfl) (hpl : (backTo pos (starEach es X.env)).any (·.1) = false := by rfl) :
    PE X (.Call (.Name x p) (e :: es) [] pos) (tCall sp dvs E t) := by
  intro pins s σ H Q I h
  refine wpAny_Call_Name_kw (ld_glob I hg hm ?_ hdb)
  refine PySem.W.callWith_K (h₀ := X.base) I.ok.mod.kin hk (thn (ha pos pins s σ H _ I h) fun us s1 ⟨vs, H1, I1, r, q⟩ => ⟨I1.kIn, ?_⟩) he hpl
  exact run_fn F hr hb hd hx I1 r q
end
structure FnScope (N P : List Str) (sc : Scope) : Prop where
  kind : sc.kind = .function
  co : sc.isCoroutine = false
  gen : sc.isGenerator = false
  nd : N.Nodup
  pre : N.take P.length = P
  par : ∀ x ∈ P, sc.names.lookup x = some .local ∨ sc.names.lookup x = some .cell
  nofree : ∀ y ∈ sc.names, y.2 ≠ .free
theorem bindL_out {kindOf : Str → Option NameKind} {x : Str} : ∀ {binds : List (Str × Value)} {m : Str → Option Value}, (∀ v, (x, v) ∉ binds) → bindL kindOf binds m x = m x
  | [], _, _ => rfl
  | (n, v) :: r, m, h => by
    unfold bindL
    rw [bindL_out fun w hw => h w (List.mem_cons_of_mem _ hw)]
    split
    · have : x ≠ n := by rintro rfl; exact h v List.mem_cons_self
      simp [this]
    · rfl
theorem bindC_out {kindOf : Str → Option NameKind} {x : Str} : ∀ {binds : List (Str × Value)} {m : Str → Option Value}, (∀ v, (x, v) ∉ binds) → bindC kindOf binds m x = m x
  | [], _, _ => rfl
  | (n, v) :: r, m, h => by
    unfold bindC
    rw [bindC_out fun w hw => h w (List.mem_cons_of_mem _ hw)]
    split
    · rfl
    · have : x ≠ n := by rintro rfl; exact h v List.mem_cons_self
      simp [this]
theorem bindL_get {kindOf : Str → Option NameKind} {x : Str} {v : Value} : ∀ {P : List Str} {vs : List Value} {i : Nat} {m : Str → Option Value}, P.Nodup → P[i]? = some x → vs[i]? = some v → kindOf x = some .local →
    bindL kindOf (P.zip vs) m x = some v
  | [], _, _, _, _, h, _, _ => by simp at h
  | _ :: _, [], _, _, _, _, h, _ => by simp at h
  | p :: P, w :: vs, 0, m, nd, h1, h2, hk => by
    simp at h1 h2; subst h1; subst h2
    show bindL kindOf ((p, w) :: P.zip vs) m p = _
    unfold bindL
    rw [bindL_out fun v hv => (List.nodup_cons.mp nd).1 (List.of_mem_zip hv).1, if_pos hk]
    simp
  | p :: P, w :: vs, i + 1, m, nd, h1, h2, hk => by
    show bindL kindOf ((p, w) :: P.zip vs) m x = _
    unfold bindL
    exact bindL_get (i := i) (List.nodup_cons.mp nd).2 (by simpa using h1) (by simpa using h2) hk
theorem bindC_get {kindOf : Str → Option NameKind} {x : Str} {v : Value} : ∀ {P : List Str} {vs : List Value} {i : Nat} {m : Str → Option Value}, P.Nodup → P[i]? = some x → vs[i]? = some v → kindOf x ≠ some .local →
    bindC kindOf (P.zip vs) m x = some v
  | [], _, _, _, _, h, _, _ => by simp at h
  | _ :: _, [], _, _, _, _, h, _ => by simp at h
  | p :: P, w :: vs, 0, m, nd, h1, h2, hk => by
    simp at h1 h2; subst h1; subst h2
    show bindC kindOf ((p, w) :: P.zip vs) m p = _
    unfold bindC
    rw [bindC_out fun v hv => (List.nodup_cons.mp nd).1 (List.of_mem_zip hv).1, if_neg hk]
    simp
  | p :: P, w :: vs, i + 1, m, nd, h1, h2, hk => by
    show bindC kindOf ((p, w) :: P.zip vs) m x = _
    unfold bindC
    exact bindC_get (i := i) (List.nodup_cons.mp nd).2 (by simpa using h1) (by simpa using h2) hk
def start (N : List Str) (vs : List V) : St := vs.map some ++ List.replicate (N.length - vs.length) none
def cxOf (CX : CXT) (P : Program) (w : World) (K : PySem.W.Frag) (mg : Str → Option Value) (base : Heap) (N : List Str) (qual : Str) (scope : Scope) (f : Addr) (cd : Value) (A : Around) (outer : List Env) (s : Shared) (H : Hp) (E : XK) : Cx where
  prog := P
  w := w
  K := K
  mg := mg
  base := base
  A := A.deeper (envOfC qual scope s.heap.objs.size f cd)
  N := N
  s₀ := s
  H₀ := H
  env := envOfC qual scope s.heap.objs.size f cd
  outer := outer
  stack := envOfC qual scope s.heap.objs.size f cd :: outer
  ex := []
  calm := true
  fn := fun _ => true
  pn := []
  xe := fun e s' => wpAny (model P w) (A.deeper (envOfC qual scope s.heap.objs.size f cd)) (leaving (envOfC qual scope s.heap.objs.size f cd) e) (fun _ s'' => CX outer H s E e s'') (fun e' s'' => CX outer H s E e' s'') s'
theorem cell_has {sc : Scope} {n : Nat} {x : Str} (h : sc.names.lookup x = some .cell) : ∃ c, (cellsFrom n sc.names []).lookup x = some c := by
  have q := PySem.W.cellsFrom_some sc.names n [] (.inl h)
  exact Option.isSome_iff_exists.mp q
theorem inv_start {CX : CXT} {P : Program} {w : World} {K : PySem.W.Frag} {mg : Str → Option Value} {base : Heap} {N ps : List Str} {qual : Str} {scope : Scope} {f : Addr} {cd : Value} {A : Around} {outer : List Env} {s s1 : Shared} {H : Hp} {E : XK} {us : List Value} {vs : List V}
    (S : FnScope N ps scope) (hd : A.handled = none) (e0 : Env0 P w K mg base A outer s H) (hl : vs.length = ps.length) (r : Vals vs us)
    (x : InCallC s s.heap.objs.size (bindL (envOfC qual scope s.heap.objs.size f cd).kindOf (ps.zip us) fun _ => none) (cellsFrom (s.heap.objs.size + 1) scope.names []) (bindC (envOfC qual scope s.heap.objs.size f cd).kindOf (ps.zip us) fun _ => none) s1) :
    Inv (cxOf CX P w K mg base N qual scope f cd A outer s H E) [] (start N vs) H s1 := by
  have hpl : ps.length ≤ N.length := by have := congrArg List.length S.pre; rw [List.length_take] at this; omega
  obtain ⟨h1, tk, rfl, hk⟩ := x.done
  have noA : ∀ b : Addr, b ∉ (cxOf CX P w K mg base N qual scope f cd A outer s H E).ex := fun b z => absurd (show b ∈ ([] : List Addr) from z) (by simp)
  refine ⟨⟨e0.mod, S.kind, rfl, rfl, Nat.le_refl _, fun y z c h1 h2 => ?_, fun y hy => ?_, fun y c _ h => ?_, fun _ => hd, Around.frames_deeper e0.frames, .inr ⟨rfl, rfl⟩, fun b z => absurd z (noA b), e0.bs, e0.bsz, fun b _ _ => noA b, fun b z => absurd z (noA b), e0.funs, e0.frf⟩,
    rfl, e0.bare, Un.kept hk, ⟨_, x.toInCall.ns, fun i y v h1 h2 h3 => ?_⟩, fun y c h => ⟨_, x.cell y c h⟩, e0.hok.fresh (Nat.le_refl _), fun y c h => ?_, fun p hp => absurd (show p ∈ ([] : List (Addr × Obj)) from hp) (by simp), e0.hok.kept hk, ?_⟩
  · exact name_of_addr x.apart (PySem.mem_of_lookup h1) (PySem.mem_of_lookup h2)
  · have hy : scope.names.lookup y = some .cell ∨ scope.names.lookup y = some .free := hy
    rcases hy with hy | hy
    · exact cell_has hy
    · exact absurd rfl (S.nofree _ (PySem.mem_of_lookup hy))
  · exact Nat.le_of_lt (x.above y c (PySem.mem_of_lookup h))
  · have hi : i < vs.length := by
      unfold start at h2
      by_cases hi : i < vs.length
      · exact hi
      · rw [List.getElem?_append_right (by simpa using hi)] at h2
        rw [List.getElem?_replicate] at h2
        split at h2 <;> cases h2
    have ha : vs[i]? = some v := by
      unfold start at h2
      rw [List.getElem?_append_left (by simpa using hi), List.getElem?_map] at h2
      cases e : vs[i]? with
      | none => rw [e] at h2; cases h2
      | some a => rw [e] at h2; cases h2; rfl
    obtain ⟨u, hu, rv⟩ := r.get ha
    have hp : ps[i]? = some y := by
      rw [← S.pre, List.getElem?_take_of_lt (by omega)]; exact h1
    have ndP : ps.Nodup := by rw [← S.pre]; exact S.nd.sublist (List.take_sublist _ _)
    refine ⟨u, rv, ?_⟩
    rcases S.par y (List.mem_of_getElem? hp) with k | k
    · exact .inl ⟨k, bindL_get ndP hp hu k⟩
    · obtain ⟨c, e⟩ := cell_has (n := s.heap.objs.size + 1) k
      refine .inr ⟨.inl k, c, e, ?_⟩
      have q := x.cell y c e
      rw [bindC_get ndP hp hu (by show scope.names.lookup y ≠ _; rw [k]; decide)] at q
      exact q
  · exact e0.hok.fresh (Nat.le_of_lt (x.above y c (PySem.mem_of_lookup h)))
  · unfold start
    show _ = N.length
    rw [List.length_append, List.length_map, List.length_replicate]
    omega
theorem fn_of {CX : CXT} {P : Program} {w : World} {K : PySem.W.Frag} {mg : Str → Option Value} {base : Heap} {k : Nat} {f : Addr} {name qual : Str} {params : Arguments} {body : List Stmt} {scope : Scope} {dV kV doc pm cdv ct oc : Value} {an od : Option Addr}
    {osl : Array (Option Value)} {N ps : List Str} {sp : Sp} (lk : K.lookup f = some ⟨oc, od, .func (PySem.W.fnOf name qual params body scope dV kV doc pm an cdv ct), osl⟩) (hcd : PySem.W.codeIn K cdv qual = true) (S : FnScope N ps scope)
    (len : ∀ vs H Q E, sp vs H Q E → vs.length = ps.length)
    (hbody : ∀ (A : Around) (outer : List Env) (s : Shared) (H : Hp) (vs : List V) (Q : VK) (E : XK), Room k (A.deeper (envOfC qual scope s.heap.objs.size f cdv)) → sp vs H Q E →
      ∃ t, PSs (cxOf CX P w K mg base N qual scope f cdv A outer s H E) body t ∧ t { nx := fun _ H' => Q .non H', rt := Q } (start N vs) H) :
    FnOk P w K mg base CX (k + 1) f (PySem.W.fnOf name qual params body scope dV kV doc pm an cdv ct) ps sp := by
  refine ⟨len, fun A outer s H args us vs Q E hr e0 hb r hsp => ?_⟩
  have hl := len _ _ _ _ hsp
  have KX : K.In s.heap := e0.mod.kin.keeps fun b o e => (e0.bs b o e).1
  have lim : s.heap.NoLimit := e0.mod.nolimit.keeps fun b o e => (e0.bs b o e).1
  have hkind : ∀ y ∈ ps.zip us, scope.names.lookup y.1 = some .local ∨ (scope.names.lookup y.1 = some .cell ∧ ((cellsFrom (s.heap.objs.size + 1) scope.names []).lookup y.1).isSome = true) := fun ⟨n, v⟩ hy => by
    rcases S.par n (List.of_mem_zip hy).1 with q | q
    · exact .inl q
    · exact .inr ⟨q, PySem.W.cellsFrom_some _ _ _ (.inl q)⟩
  refine codeAny_call_function hr.depth (KX _ _ lk) rfl S.co S.gen rfl (PySem.W.codeRec_of KX hcd) (hb _ _ _ _ ?_)
  refine wpAny_newFunctionEnv_cells S.kind hkind fun env he s1 x => ?_
  subst he
  refine ⟨lim.keeps x.toInCall.keep, codeAny_func ?_⟩
  obtain ⟨t, ht, hq⟩ := hbody A outer s H vs Q E (hr.deeper _) hsp
  have I : Inv (cxOf CX P w K mg base N qual scope f cdv A outer s H E) [] (start N vs) H s1 := inv_start S hr.hd e0 hl r x
  refine wpAny_mono (ht [] s1 (start N vs) H _ I hq) (fun fl s' hs => ?_) fun e s' hs => hs
  have fin : ∀ {σ' : St} {H' : Hp} {v : V} {u : Value}, Inv (cxOf CX P w K mg base N qual scope f cdv A outer s H E) [] σ' H' s' → RelV v u → Q v H' → CE outer P w H s Q u s' :=
    fun {σ' H' v u} J rv q => ⟨v, H', J.os, J.bare, J.base, J.hok, rv, q⟩
  cases fl with
  | ret u =>
    obtain ⟨v, σ', H', J, rv, q⟩ := hs
    exact fin J rv q
  | next =>
    obtain ⟨σ', H', J, q⟩ := hs
    exact fin (v := V.non) (u := Value.none) J rfl q
  | brk =>
    obtain ⟨_, _, _, q⟩ := hs
    exact False.elim q
  | cont =>
    obtain ⟨_, _, _, q⟩ := hs
    exact False.elim q
end L2
namespace L2
open PySem PySem.Spec PyProof.Rows
section
variable {X : Cx} {x : Str} {p pos : Pos} {e : Expr} {es : List Expr} {t : TA} {id T : String} {r : List V → Hp → VK → Prop}
def tCB (r : List V → Hp → VK → Prop) (t : TA) : TE := fun σ H Q => t σ H fun vs H1 => r vs H1 Q
theorem pe_callB (hc : CallR X (.builtin id) r) (hg : Gl X x) (hm : X.mg x = none) (hv : bootBuiltins x = some (.builtin id)) (ha : PA X (e :: es) t) (hn : x ≠ "__name__" := by decide) (hdb : (x == ("__debug__" : Str)) = false := by decide)
    (he : starEach (e :: es) X.env = (false, eval e X.env) :: starEach es X.env := by rfl) (hpl : (backTo pos (starEach es X.env)).any (·.1) = false := by rfl) : PE X (.Call (.Name x p) (e :: es) [] pos) (tCB r t) := by
  intro pins s σ H Q I h
  refine wpAny_Call_Name_kw (ld_blt I hg hm hv ?_ hn hdb)
  exact PyProof.Rows.callWith_builtin1 (thn (ha pos pins s σ H _ I h) fun us s1 ⟨vs, H1, I1, r1, q1⟩ => hc pins s1 σ H1 vs us Q I1 r1 q1) he hpl
theorem pe_callTy (hc : CallR X (.type T) r) (hg : Gl X x) (hm : X.mg x = none) (hv : bootBuiltins x = some (.type T)) (ha : PA X (e :: es) t) (hn : x ≠ "__name__" := by decide) (hdb : (x == ("__debug__" : Str)) = false := by decide)
    (he : starEach (e :: es) X.env = (false, eval e X.env) :: starEach es X.env := by rfl) (hpl : (backTo pos (starEach es X.env)).any (·.1) = false := by rfl) : PE X (.Call (.Name x p) (e :: es) [] pos) (tCB r t) := by
  intro pins s σ H Q I h
  refine wpAny_Call_Name_kw (ld_blt I hg hm hv ?_ hn hdb)
  exact PyProof.Rows.callWith_type1 (thn (ha pos pins s σ H _ I h) fun us s1 ⟨vs, H1, I1, r1, q1⟩ => hc pins s1 σ H1 vs us Q I1 r1 q1) he hpl
end
end L2
namespace HT
open PySem PyProof.Rows
section
open PySem.SeqAt
open PySem.AutoSeq1 (wpAny_loadPart')
open PySem.MeetsSeq PySem.MeetsSeq2 PySem.MeetsSeq3
end
section
variable {prog : Program} {w : World} {A : Around} {E : Value → Shared → Prop} {s : Shared}
def sIx (n d : Nat) : Option Int → Nat
  | none => d
  | some v => if v < 0 then (v + (n : Int)).toNat else min v.toNat n
theorem sIx_le (n d : Nat) (hd : d ≤ n) (o : Option Int) : sIx n d o ≤ n := by
  cases o with
  | none => exact hd
  | some v =>
    show (if v < 0 then (v + (n : Int)).toNat else min v.toNat n) ≤ n
    by_cases hv : v < 0
    · rw [if_pos hv]; omega
    · rw [if_neg hv]; exact Nat.min_le_right _ _
end
end HT
namespace L2
open PySem PySem.Spec PyProof.Rows
abbrev TO := St → Hp → (Option Int → Hp → Prop) → Prop
def PO (X : Cx) (e : Option Expr) (t : TO) : Prop :=
  ∀ (pins : List (Addr × Obj)) (s : Shared) (σ : St) (H : Hp) (Q : Option Int → Hp → Prop), Inv X pins σ H s → t σ H Q →
    wpAny (model X.prog X.w) X.A (evalPart e X.env) (fun u s' => ∃ o H', Inv X pins σ H' s' ∧ IsPart u o ∧ Q o H') X.xe s
def tNoPart : TO := fun _ H Q => Q none H
def tPart (t : TE) : TO := fun σ H Q => t σ H fun x H1 => ∃ i, x = .int i ∧ Q (some i) H1
theorem intsAre_of {ns : List Int} : ∀ {us : List Value}, Vals (ns.map V.int) us → IntsAre us ns := by
  induction ns with
  | nil => intro us r; rw [List.map_nil] at r; cases r; exact .nil
  | cons n ns ih =>
    intro us r
    rw [List.map_cons] at r
    cases r with
    | cons r1 r2 =>
      obtain ⟨t, e⟩ := r1
      subst e
      exact .cons n t (ih r2)
section
variable {X : Cx} {e : Expr} {te : TE} {lo hi : Option Expr} {tl th : TO} {pos p2 : Pos}
theorem po_none : PO X none tNoPart := by
  intro pins s σ H Q I h
  rw [evalPart_none]
  exact wpAny_pure ⟨none, H, I, .none, h⟩
theorem po_some (h : PE X e te) : PO X (some e) (tPart te) := by
  intro pins s σ H Q I hw
  rw [evalPart_some]
  refine thn (h pins s σ H _ I hw) fun u s1 ⟨x, H1, I1, r1, q1⟩ => ?_
  obtain ⟨i, rfl, q⟩ := q1
  obtain ⟨t, rfl⟩ := r1
  exact ⟨some i, H1, I1, .int i t, q⟩
def SlR (X : Cx) (r : V → Option Int → Option Int → Hp → VK → Prop) : Prop :=
  ∀ (pins : List (Addr × Obj)) (s : Shared) (σ : St) (H : Hp) (x : V) (v vl vu : Value) (lo hi : Option Int) (sl : Addr) (Q : VK), Inv X pins σ H s → RelV x v → s.heap.IsSliceOf sl vl vu .none → IsPart vl lo → IsPart vu hi → r x lo hi H Q →
    ∃ T id, typeLookup (.type T) "__getitem__" = pure (some (.builtin id)) ∧ s.TypeIs v T ∧ wpAny (model X.prog X.w) X.A (getItem v (.ref sl)) (EP X pins σ Q) X.xe s
def tSl (r : V → Option Int → Option Int → Hp → VK → Prop) (te : TE) (tl th : TO) : TE := fun σ H Q => te σ H fun x H1 => tl σ H1 fun l H2 => th σ H2 fun u H3 => r x l u H3 Q
theorem pe_slice {r : V → Option Int → Option Int → Hp → VK → Prop} (hr : SlR X r) (he : PE X e te) (hl : PO X lo tl) (hu : PO X hi th) : PE X (.Subscript e (.Slice lo hi none p2) pos) (tSl r te tl th) := by
  intro pins s σ H Q I h
  refine Subscript_ (thn (he pins s σ H _ I h) fun v s1 ⟨x, H1, I1, r1, q1⟩ => ?_)
  refine wpAny_Slice (thn (hl pins s1 σ H1 _ I1 q1) fun vl s2 ⟨l, H2, I2, pl, q2⟩ => thn (hu pins s2 σ H2 _ I2 q2) fun vu s3 ⟨u, H3, I3, pu, q3⟩ => ?_)
  rw [evalPart_none]
  refine wpAny_pure ?_
  have I4 : Inv X pins σ H3 { s3 with heap := s3.heap.push { cls := .type "slice", data := .fields #[vl, vu, .none] } } := I3.kept (t' := s3.toks) fun b ob q => Heap.get?_push_of_some _ q
  obtain ⟨T, id, hT, ht, hg⟩ := hr pins { s3 with heap := s3.heap.push { cls := .type "slice", data := .fields #[vl, vu, .none] } } σ H3 x v vl vu l u s3.heap.objs.size Q I4 r1 (Heap.IsSliceOf.new ..) pl pu q3
  show wpAny (model X.prog X.w) X.A (subscriptTail e (.Slice lo hi none p2) v (.ref s3.heap.objs.size)) (EP X pins σ Q) X.xe { s3 with heap := s3.heap.push { cls := .type "slice", data := .fields #[vl, vu, .none] } }
  exact tail_any (ops := [.ref s3.heap.objs.size, v]) ht hT hg (by with_unfolding_all rfl)
def cutV (xs : List V) (lo hi : Option Int) : List V := (xs.drop (HT.sIx xs.length 0 lo)).take (HT.sIx xs.length xs.length hi - HT.sIx xs.length 0 lo)
theorem cutV_length (xs : List V) (lo hi : Option Int) : (cutV xs lo hi).length ≤ xs.length := by
  unfold cutV
  rw [List.length_take, List.length_drop]
  omega
end
end L2
namespace L2
open PySem PySem.Spec PyProof.Rows
def ixN (n : Nat) (i : Int) : Option Nat := if 0 ≤ i then (if i < n then some i.toNat else none) else if -(n : Int) ≤ i then some (i + n).toNat else none
def atI {α : Type} (xs : List α) (i : Int) : Option α := (ixN xs.length i).bind fun j => xs[j]?
theorem ixN_seq {n : Nat} {i : Int} {j : Nat} (h : ixN n i = some j) : seqIndex? i n = some j ∧ j < n ∧ -(n : Int) ≤ i ∧ i < n := by
  unfold ixN at h
  by_cases h0 : 0 ≤ i
  · rw [if_pos h0] at h
    by_cases h1 : i < n
    · rw [if_pos h1] at h
      have e : i.toNat = j := Option.some.inj h
      exact ⟨by rw [seqIndex_of h0 h1, e], by omega, by omega, h1⟩
    · rw [if_neg h1] at h; cases h
  · rw [if_neg h0] at h
    by_cases h1 : -(n : Int) ≤ i
    · rw [if_pos h1] at h
      have e : (i + n).toNat = j := Option.some.inj h
      exact ⟨by rw [seqIndex_neg (by omega) h1, e], by omega, h1, by omega⟩
    · rw [if_neg h1] at h; cases h
theorem atI_get {α : Type} {xs : List α} {i : Int} {v : α} (h : atI xs i = some v) : ∃ j, seqIndex? i xs.length = some j ∧ xs[j]? = some v ∧ j < xs.length ∧ -(xs.length : Int) ≤ i ∧ i < xs.length := by
  unfold atI at h
  cases e : ixN xs.length i with
  | none => rw [e] at h; cases h
  | some j =>
    rw [e] at h
    obtain ⟨h1, h2, h3, h4⟩ := ixN_seq e
    exact ⟨j, h1, h, h2, h3, h4⟩
def PlainIx (b : Expr) : Prop := ∀ o i, subscripted b false o i = operate [o, i] (getItem o i)
def IxR (X : Cx) (r : R2) : Prop :=
  ∀ (value slice : Expr) (pins : List (Addr × Obj)) (s : Shared) (σ : St) (H : Hp) (x y : V) (v u : Value) (Q : VK), Inv X pins σ H s → RelV x v → RelV y u → r x y H Q →
    subscripted slice false v u = operate [v, u] (getItem v u) → wpAny (model X.prog X.w) X.A (subscriptTail value slice v u) (EP X pins σ Q) X.xe s
def MtR (X : Cx) (id : String) (r : V → List V → Hp → VK → Prop) : Prop :=
  ∀ (pins : List (Addr × Obj)) (s : Shared) (σ : St) (H : Hp) (x : V) (xs : List V) (v : Value) (us : List Value) (Q : VK), Inv X pins σ H s → RelV x v → Vals xs us → r x xs H Q →
    wpAny (model X.prog X.w) X.A (call (.builtin id) (v :: us)) (EP X pins σ Q) X.xe s
section
variable {X : Cx} {a b : Expr} {ta tb : TE} {pos : Pos}
theorem pe_ix {r : R2} (hr : IxR X r) (ha : PE X a ta) (hb : PE X b tb) (hs : PlainIx b) : PE X (.Subscript a b pos) (tOp r ta tb) := by
  intro pins s σ H Q I h
  exact Subscript_ (binT ha hb I h fun v u s2 x y H2 I2 rx ry q => hr a b pins s2 σ H2 x y v u Q I2 rx ry q (hs _ _))
def rIxL (K : PySem.W.Frag) : R2 := fun x y H Q => ∃ p xs i v, x = .ref p ∧ y = .int i ∧ SqL K H p xs ∧ atI xs i = some v ∧ Q v H
def rIxS : R2 := fun x y H Q => ∃ z i c, x = .str z ∧ y = .int i ∧ z.length ≤ sizeLine ∧ atI z.cps.toList i = some c ∧ Q (.str ⟨#[c]⟩) H
theorem ix_list : IxR X (rIxL X.K) := by
  intro value slice pins s σ H x y v u Q I rx ry h hs
  obtain ⟨p, xs, i, z, rfl, rfl, hq, he, q⟩ := h
  cases rx
  obtain ⟨t, rfl⟩ := ry
  obtain ⟨its, r, pl, hz⟩ := I.list hq
  obtain ⟨j, h1, h2, h3, h4, h5⟩ := atI_get he
  obtain ⟨w, ew, rw'⟩ := r.get h2
  have hl := r.length
  have hn := line63
  have fin : EP X pins σ Q w s := ⟨z, H, I, rw', q⟩
  by_cases h0 : 0 ≤ i
  · have hj : i.toNat = j := by
      rw [seqIndex_of h0 h5] at h1
      exact Option.some.inj h1
    exact item_listR pl.isList h0 (by omega) (by rw [hj]; simpa using ew) fin hs
  · have hj : (i + (its.toArray.size : Int)).toNat = j := by
      rw [seqIndex_neg (by omega) h4] at h1
      rw [List.size_toArray, ← hl]
      exact Option.some.inj h1
    exact subscriptTail_builtinR (x := w) pl.isList.typeIs slot_list_getitem.lookup
      (wpAny_getItem_list_neg (Q := fun r s' => r = w ∧ EP X pins σ Q r s') pl.isList (by omega) (by rw [List.size_toArray] <;> omega) (by omega) (by rw [hj]; simpa using ew) ⟨rfl, fin⟩) hs
theorem ix_str : IxR X rIxS := by
  intro value slice pins s σ H x y v u Q I rx ry h hs
  obtain ⟨z, i, c, rfl, rfl, hz, he, q⟩ := h
  obtain ⟨t, rfl⟩ := rx
  obtain ⟨t', rfl⟩ := ry
  obtain ⟨j, h1, h2, h3, h4, h5⟩ := atI_get he
  have hl : z.cps.toList.length = z.length := by simp [Str.length]
  rw [hl] at h1 h4 h5
  have hn := line63
  exact tail_any (typeIs_str s z t) slot_str_getitem.lookup (getItem_str (c := c) (by
    have e1 : decide (i < -(2 ^ 63 : Int)) = false := decide_eq_false (by omega)
    have e2 : decide (i ≥ 2 ^ 63) = false := decide_eq_false (by omega)
    rw [e1, e2, Bool.or_false]) (by rw [h1]; simpa using h2) ⟨.str ⟨#[c]⟩, H, I.tok _, ⟨_, rfl⟩, q⟩) hs
theorem slice_bounds (lo hi : Option Int) (n : Nat) : (sliceBounds lo hi none n).1 = ((HT.sIx n 0 lo : Nat) : Int) ∧ (sliceBounds lo hi none n).2.1 = ((HT.sIx n n hi : Nat) : Int) ∧ (sliceBounds lo hi none n).2.2 = 1 := by
  refine ⟨?_, ?_, rfl⟩
  · cases lo with
    | none => simp [sliceBounds, HT.sIx]
    | some i =>
      simp only [sliceBounds, HT.sIx, Option.getD_none, show (1 : Int) > 0 by decide, if_true]
      by_cases h : i < 0
      · simp only [h, if_true] <;> omega
      · simp only [h, if_false] <;> omega
  · cases hi with
    | none => simp [sliceBounds, HT.sIx]
    | some i =>
      simp only [sliceBounds, HT.sIx, Option.getD_none, show (1 : Int) > 0 by decide, if_true]
      by_cases h : i < 0
      · simp only [h, if_true] <;> omega
      · simp only [h, if_false] <;> omega
theorem slicePick_cut (its : List Value) (lo hi : Option Int) : slicePick its.toArray lo hi none = ((its.drop (HT.sIx its.length 0 lo)).take (HT.sIx its.length its.length hi - HT.sIx its.length 0 lo)).toArray := by
  obtain ⟨h1, h2, h3⟩ := slice_bounds lo hi its.toArray.size
  unfold slicePick
  rw [h1, h2, h3]
  simp only [sliceRange_one, pick_run, List.size_toArray] <;> rfl
def rSlL (K : PySem.W.Frag) : V → Option Int → Option Int → Hp → VK → Prop := fun x lo hi H Q => ∃ a xs, x = .ref a ∧ SqL K H a xs ∧ ∀ p, H p = none → Q (.ref p) (upd H p (.lst (cutV xs lo hi)))
theorem sl_list : SlR X (rSlL X.K) := by
  intro pins s σ H x v vl vu lo hi sl Q I rx hs pl pu h
  obtain ⟨a, xs, rfl, hx, q⟩ := h
  cases rx
  obtain ⟨its, r, ht, hz⟩ := I.list hx
  have hlen := r.length
  refine ⟨"list", _, slot_list_getitem.lookup, ht.isList.typeIs, ?_⟩
  refine wpAny_getItem_list_slice ht.isList hs pl pu .none (by simp) ?_ (by rw [List.size_toArray] <;> omega)
  rw [slicePick_cut, ← hlen]
  refine ⟨.ref s.heap.objs.size, _, I.laid (t' := s.toks) (o := .lst (cutV xs lo hi)) (fun b ob q => Heap.get?_push_of_some _ q) (Nat.le_refl _) ?_, rfl, q _ (I.hok.fresh (Nat.le_refl _))⟩
  exact ⟨Nat.le_trans (cutV_length xs lo hi) hz, _, 0, (r.drop (HT.sIx xs.length 0 lo)).take (HT.sIx xs.length xs.length hi - HT.sIx xs.length 0 lo), Heap.get?_push_size _ rfl⟩
def flatV : V → Bool
  | .non => true
  | .bl _ => true
  | .int _ => true
  | .str _ => true
  | _ => false
def eqV : V → V → Bool
  | .non, .non => true
  | .bl a, .bl b => a == b
  | .bl a, .int b => (if a then 1 else 0) == b
  | .int a, .bl b => a == (if b then 1 else 0)
  | .int a, .int b => a == b
  | .str a, .str b => a == b
  | _, _ => false
theorem eqAt_V {A : Around} {s : Shared} {y x : V} {u v : Value} (ry : RelV y u) (rx : RelV x v) (fy : flatV y = true) (fx : flatV x = true) : SeqAt.EqAt A s u v (eqV y x) := by
  cases y with
  | non =>
    cases ry
    cases x with
    | non => cases rx; exact SeqAt.EqAt.same _
    | bl b => cases rx; exact SeqAt.EqAt.none_bool b
    | int b => obtain ⟨t, rfl⟩ := rx; exact SeqAt.EqAt.none_int b t
    | str b => obtain ⟨t, rfl⟩ := rx; exact SeqAt.EqAt.none_str b t
    | _ => exact absurd (show false = true from fx) Bool.false_ne_true
  | bl a =>
    cases ry
    cases x with
    | non => cases rx; exact SeqAt.EqAt.bool_none a
    | bl b => cases rx; exact SeqAt.EqAt.bool_bool a b
    | int b => obtain ⟨t, rfl⟩ := rx; exact SeqAt.EqAt.bool_int a b t
    | str b => obtain ⟨t, rfl⟩ := rx; exact SeqAt.EqAt.bool_str a b t
    | _ => exact absurd (show false = true from fx) Bool.false_ne_true
  | int a =>
    obtain ⟨t', rfl⟩ := ry
    cases x with
    | non => cases rx; exact SeqAt.EqAt.int_none a t'
    | bl b => cases rx; exact SeqAt.EqAt.int_bool a t' b
    | int b => obtain ⟨t, rfl⟩ := rx; exact SeqAt.EqAt.int_int a t' b t
    | str b => obtain ⟨t, rfl⟩ := rx; exact SeqAt.EqAt.int_str a t' b t
    | _ => exact absurd (show false = true from fx) Bool.false_ne_true
  | str a =>
    obtain ⟨t', rfl⟩ := ry
    cases x with
    | non => cases rx; exact SeqAt.EqAt.str_none a t'
    | bl b => cases rx; exact SeqAt.EqAt.str_bool a t' b
    | int b => obtain ⟨t, rfl⟩ := rx; exact SeqAt.EqAt.str_int a t' b t
    | str b => obtain ⟨t, rfl⟩ := rx; exact SeqAt.EqAt.str_str a t' b t
    | _ => exact absurd (show false = true from fx) Bool.false_ne_true
  | _ => exact absurd (show false = true from fy) Bool.false_ne_true
def eqU (x : V) (u : Value) : Bool := match u with
  | .none => eqV .non x
  | .bool b => eqV (.bl b) x
  | .int i _ => eqV (.int i) x
  | .str z _ => eqV (.str z) x
  | _ => false
theorem eqU_of {x y : V} {u : Value} (r : RelV y u) (f : flatV y = true) : eqU x u = eqV y x := by
  cases y with
  | non => cases r; rfl
  | bl b => cases r; rfl
  | int i => obtain ⟨t, rfl⟩ := r; rfl
  | str z => obtain ⟨t, rfl⟩ := r; rfl
  | _ => exact absurd (show false = true from f) Bool.false_ne_true
theorem any_eqU {x : V} : ∀ {xs : List V} {us : List Value}, Vals xs us → xs.all flatV = true → us.any (eqU x) = xs.any fun y => eqV y x
  | _, _, .nil, _ => rfl
  | y :: xs, u :: us, .cons r t, f => by
    rw [List.all_cons, Bool.and_eq_true] at f
    rw [List.any_cons, List.any_cons, eqU_of r f.1, any_eqU t f.2]
theorem mem_eqAt {A : Around} {s : Shared} {x : V} {v : Value} (rx : RelV x v) (fx : flatV x = true) : ∀ {xs : List V} {us : List Value}, Vals xs us → xs.all flatV = true → ∀ u ∈ us, SeqAt.EqAt A s u v (eqU x u)
  | _, _, .nil, _ => fun u hu => by cases hu
  | y :: xs, u :: us, .cons r t, f => fun u' hu => by
    rw [List.all_cons, Bool.and_eq_true] at f
    rcases List.mem_cons.mp hu with rfl | hu
    · rw [eqU_of r f.1]; exact eqAt_V r rx f.1 fx
    · exact mem_eqAt rx fx t f.2 u' hu
def inV (x : V) (xs : List V) : Bool := xs.any fun y => eqV y x
def rIn (K : PySem.W.Frag) (neg : Bool) : R2 := fun x y H Q => ∃ p xs, y = .ref p ∧ (SqL K H p xs ∨ SqT K H p xs) ∧ flatV x = true ∧ xs.all flatV = true ∧ Q (.bl (if neg then !inV x xs else inV x xs)) H
theorem op_in_seq : OpR X (compareOp .In) (rIn X.K false) := by
  intro pins s σ H x y v u Q I rx ry h
  obtain ⟨p, xs, rfl, hq, fx, fs, q⟩ := h
  cases ry
  rcases hq with hq | hq
  · obtain ⟨its, r, pl, hz⟩ := I.list hq
    refine SeqAt.in_listAt (eqU x) pl.isList (fun w hw => mem_eqAt rx fx r fs w (by simpa using hw)) ⟨.bl _, H, I, rfl, ?_⟩
    rw [show its.toArray.any (eqU x) = its.any (eqU x) by simp, any_eqU r fs]
    exact q
  · obtain ⟨its, r, pl, hz⟩ := I.tuple hq
    refine SeqAt.in_tupleAt (eqU x) pl (fun w hw => mem_eqAt rx fx r fs w (by simpa using hw)) ⟨.bl _, H, I, rfl, ?_⟩
    rw [show its.toArray.any (eqU x) = its.any (eqU x) by simp, any_eqU r fs]
    exact q
theorem op_notIn_seq : OpR X (compareOp .NotIn) (rIn X.K true) := by
  intro pins s σ H x y v u Q I rx ry h
  obtain ⟨p, xs, rfl, hq, fx, fs, q⟩ := h
  cases ry
  rcases hq with hq | hq
  · obtain ⟨its, r, pl, hz⟩ := I.list hq
    refine SeqAt.notIn_listAt (eqU x) pl.isList (fun w hw => mem_eqAt rx fx r fs w (by simpa using hw)) ⟨.bl _, H, I, rfl, ?_⟩
    rw [show its.toArray.any (eqU x) = its.any (eqU x) by simp, any_eqU r fs]
    exact q
  · obtain ⟨its, r, pl, hz⟩ := I.tuple hq
    refine SeqAt.notIn_tupleAt (eqU x) pl (fun w hw => mem_eqAt rx fx r fs w (by simpa using hw)) ⟨.bl _, H, I, rfl, ?_⟩
    rw [show its.toArray.any (eqU x) = its.any (eqU x) by simp, any_eqU r fs]
    exact q
theorem call_list_of : CallR X (.type "list") (fun xs H Q => ∃ p ys, xs = [.ref p] ∧ (SqL X.K H p ys ∨ SqT X.K H p ys) ∧ ∀ l, H l = none → Q (.ref l) (upd H l (.lst ys))) := by
  intro pins s σ H xs us Q I r h
  obtain ⟨p, ys, rfl, hq, q⟩ := h
  obtain ⟨u, rfl, rx⟩ := vals1 r
  cases rx
  have fin : ∀ (its : List Value), Vals ys its → ys.length ≤ sizeLine → ∀ (h' : Heap) (c' : Nat), (∀ b o', s.heap.get? b = some o' → h'.get? b = some o') →
      h'.get? s.heap.objs.size = some { cls := .type "list", dict := none, data := .seq its.toArray c', slots := #[] } → EP X pins σ Q (.ref s.heap.objs.size) { s with heap := h' } := fun its r' hz h' c' kp e =>
    ⟨.ref s.heap.objs.size, _, I.laid (t' := s.toks) kp (Nat.le_refl _) (show ObjOk X.prog X.w _ h' _ (.lst ys) from ⟨hz, its, c', r', e⟩), rfl, q _ (I.hok.fresh (Nat.le_refl _))⟩
  rcases hq with hq | hq
  · obtain ⟨its, r', pl, hz⟩ := I.list hq
    have hlen := r'.length
    obtain ⟨o, ho, hc, n, hd⟩ := pl.isList
    exact call_list_seq p (.inl rfl) ho hc hd (fun h' c' kp e => fin its r' hz h' c' kp e) (by simp only [List.size_toArray] <;> omega)
  · obtain ⟨its, r', pl, hz⟩ := I.tuple hq
    have hlen := r'.length
    obtain ⟨o, ho, hc, n, hd⟩ := pl
    exact call_list_seq p (.inr rfl) ho hc hd (fun h' c' kp e => fin its r' hz h' c' kp e) (by simp only [List.size_toArray] <;> omega)
def tyV (K : PySem.W.Frag) (T : String) (x : V) (H : Hp) : Prop := match x with
  | .str _ => T = "str"
  | .int _ => T = "int"
  | .ref p => (T = "list" ∧ ∃ xs, SqL K H p xs) ∨ (T = "tuple" ∧ ∃ o, K.lookup p = some o ∧ o.cls = .type "tuple" ∧ o.dict = none) ∨
      (T = "dict" ∧ ((∃ kvs, H p = some (.dK kvs)) ∨ ∃ kvs, H p = some (.dT kvs))) ∨ (T = "set" ∧ ∃ S n, H p = some (.set S n))
  | _ => False
theorem tyV_is {pins : List (Addr × Obj)} {σ : St} {H : Hp} {s : Shared} {T : String} {x : V} {v : Value} (I : Inv X pins σ H s) (r : RelV x v) (ty : tyV X.K T x H) :
    s.TypeIs v T ∧ ∀ a, v = .ref a → ∃ ob, s.heap.get? a = some ob ∧ ob.dict = none := by
  cases x with
  | str z =>
    obtain ⟨t, rfl⟩ := r
    cases (show T = "str" from ty)
    exact ⟨typeIs_str s z t, fun _ e => nomatch e⟩
  | int i =>
    obtain ⟨t, rfl⟩ := r
    cases (show T = "int" from ty)
    exact ⟨typeIs_int s i t, fun _ e => nomatch e⟩
  | ref p =>
    cases r
    rcases ty with ⟨rfl, xs, hq⟩ | ⟨rfl, o, hk, hc, hd⟩ | ⟨rfl, hk⟩ | ⟨rfl, S, n, hk⟩
    · obtain ⟨its, _, pl, _⟩ := I.list hq
      refine ⟨pl.isList.typeIs, fun a e => ?_⟩
      cases e
      obtain ⟨o, n, e, c, hd, _⟩ := pl
      exact ⟨o, e, hd⟩
    · refine ⟨⟨o, I.kIn p o hk, hc⟩, fun a e => ?_⟩
      cases e
      exact ⟨o, I.kIn _ o hk, hd⟩
    · have z : ∃ o, s.heap.get? p = some o ∧ o.ExactDict := by
        rcases hk with ⟨kvs, hk⟩ | ⟨kvs, hk⟩
        · obtain ⟨_, _, _, _, o, _, _, e, ex, _⟩ := I.hok p _ hk
          exact ⟨o, e, ex⟩
        · obtain ⟨_, _, _, _, o, _, _, e, ex, _⟩ := I.hok p _ hk
          exact ⟨o, e, ex⟩
      obtain ⟨o, e, ex⟩ := z
      refine ⟨⟨o, e, ex.1⟩, fun a e2 => ?_⟩
      cases e2
      exact ⟨o, e, ex.2.1⟩
    · obtain ⟨o, _, _, _, e, ex, _⟩ := I.hok p _ hk
      refine ⟨⟨o, e, ex.1⟩, fun a e2 => ?_⟩
      cases e2
      exact ⟨o, e, ex.2.1⟩
  | _ => exact False.elim ty
def tBM (K : PySem.W.Frag) (T : String) (r : V → List V → Hp → VK → Prop) (to : TE) (t : TA) : TE := fun σ H Q => to σ H fun x H1 => tyV K T x H1 ∧ t σ H1 fun xs H2 => r x xs H2 Q
variable {o e : Expr} {es : List Expr} {to : TE} {t : TA} {name : Str} {apos cpos : Pos} {T id : String} {r : V → List V → Hp → VK → Prop}
theorem pe_bm (pa : PlainAttrs T) (slot : Slot T name id) (hty : typeOf (.builtin id) = pure (.type "method_descriptor")) (hm : MtR X id r) (ho : PE X o to) (ha : PA X (e :: es) t)
    (hbase : attributeBase o name X.env (eval o X.env) = eval o X.env := by rfl)
    (hfew : ((backTo cpos (starEach (e :: es) X.env)).all (fun x => !x.1) && (backToKw cpos (keywordEach [] X.env)).all (fun x => x.1.isSome)
      && decide ((e :: es).length + ([] : List Keyword).length + (if ([] : List Keyword).isEmpty then 0 else 1) < 30)) = true := by rfl)
    (hline : (apos.endLine == cpos.line) = true := by rfl) (hs : starEach (e :: es) X.env = (false, eval e X.env) :: starEach es X.env := by rfl) (hplain : (backTo cpos (starEach es X.env)).any (·.1) = false := by rfl) :
    PE X (.Call (.Attribute o name apos) (e :: es) [] cpos) (tBM X.K T r to t) := by
  intro pins s σ H Q I h
  refine wpAny_Call_method_late hbase hfew hline rfl (thn (ho pins s σ H _ I h) fun v s1 ⟨x, H1, I1, r1, ty, q1⟩ => ?_)
  obtain ⟨h1, h2⟩ := tyV_is I1 r1 ty
  refine ⟨T, id, pa, slot, hty, h1, h2, ?_⟩
  have hA := ha cpos pins s1 σ H1 _ I1 q1
  rw [hs] at hA ⊢
  refine Calls.callWith_builtin (by show (false || (backTo cpos (starEach es X.env)).any (·.1)) = false; rw [hplain] <;> rfl) (Calls.evalArgs_plain ?_)
  exact thn hA fun us s2 ⟨vs, H2, I2, r2, q2⟩ => hm pins s2 σ H2 x vs v us Q I2 r1 r2 q2
end
end L2
namespace L2
open PySem PySem.Spec PyProof.Rows
def MtM (X : Cx) (id : String) (r : V → List V → Hp → VK → Prop) : Prop :=
  ∀ (pins : List (Addr × Obj)) (s : Shared) (σ : St) (H : Hp) (x : V) (xs : List V) (v : Value) (us : List Value) (Q : VK), Inv X pins σ H s → RelV x v → Vals xs us → r x xs H Q →
    wpAny (model X.prog X.w) X.A (call (.builtin id) (v :: us)) (EP X pins σ Q) X.xe s
theorem Vals.one : ∀ {x : V} {us : List Value}, Vals [x] us → ∃ u, us = [u] ∧ RelV x u
  | _, _, .cons r .nil => ⟨_, rfl, r⟩
section
variable {X : Cx} {pins : List (Addr × Obj)} {σ : St} {H : Hp} {s : Shared} {l b : Addr} {xs ys zs : List V}
theorem Inv.lset {its its' : List Value} {n : Nat} {f : Array Value → Array Value} {t' : Nat} (I : Inv X pins σ H s) (hH : H l = some (.lst xs))
    (e : s.heap.get? l = some { cls := .type "list", data := .seq its.toArray n }) (hf : f its.toArray = its'.toArray) (hv : Vals ys its') (hz : ys.length ≤ sizeLine) :
    Inv X pins σ (upd H l (.lst ys)) { s with heap := s.heap.update l (Obj.mapSeq f), toks := t' } := by
  have q := PySem.IsL.update e f
  rw [hf] at q
  refine I.write (x := l) (e := l) (by rw [hH]; exact trivial) (.inl rfl) (fun b' u hb hu => (Heap.get?_update_other s.heap (Obj.mapSeq f) (Ne.symm hb)).trans hu) ⟨_, q⟩ ?_
  exact ⟨hz, its', _, hv, q⟩
theorem Inv.lstM (I : Inv X pins σ H s) (hH : H l = some (.lst xs)) : xs.length ≤ sizeLine ∧ ∃ (its : List Value) (n : Nat), Vals xs its ∧ xs.length = its.length ∧ s.heap.get? l = some { cls := .type "list", data := .seq its.toArray n } := by
  obtain ⟨z, its, n, r, e⟩ := I.hok l _ hH
  exact ⟨z, its, n, r, r.length, e⟩
end
section
variable {X : Cx}
def rAppend : V → List V → Hp → VK → Prop := fun x vs H Q => ∃ l xs y, x = .ref l ∧ vs = [y] ∧ H l = some (.lst xs) ∧ xs.length < sizeLine ∧ Q .non (upd H l (.lst (xs ++ [y])))
theorem mt_append : MtM X "list.append" rAppend := by
  intro pins s σ H x vs v us Q I rx rv h
  obtain ⟨l, xs, y, rfl, rfl, hH, hz, q⟩ := h
  cases rx
  obtain ⟨u, rfl, ru⟩ := rv.one
  obtain ⟨z, its, n, r, hl, e⟩ := I.lstM hH
  refine call_meets F.slot_list_append ⟨_, e, rfl⟩ F.entry_list_append (F.args_list_append_2 _ _) (PySem.list_append l its.toArray n u (by rw [List.size_toArray]; omega)) ⟨e, ?_⟩
  refine ⟨.non, _, I.lset (its' := its ++ [u]) hH e (by simp) (r.append (.cons ru .nil)) ?_, rfl, q⟩
  rw [List.length_append, List.length_singleton]
  omega
end
end L2
namespace L2
open PySem PySem.Spec PyProof.Rows
section
variable {κ : Type} [DecidableEq κ]
def valV (kvs : List (κ × V)) (k : κ) : Option V := (kvs.find? fun kv => decide (kv.1 = k)).map (·.2)
def putK (kvs : List (κ × V)) (k : κ) (v : V) : List (κ × V) :=
  if (kvs.any fun kv => decide (kv.1 = k)) = true then kvs.map (fun kv => if kv.1 = k then (kv.1, v) else kv) else kvs ++ [(k, v)]
theorem valV_pos {p : κ × V} {r : List (κ × V)} {k : κ} (e : p.1 = k) : valV (p :: r) k = some p.2 := by simp [valV, List.find?_cons, e]
theorem valV_neg {p : κ × V} {r : List (κ × V)} {k : κ} (e : ¬ p.1 = k) : valV (p :: r) k = valV r k := by simp [valV, List.find?_cons, e]
theorem valV_any (k : κ) : ∀ kvs : List (κ × V), (kvs.any fun kv => decide (kv.1 = k)) = (valV kvs k).isSome
  | [] => rfl
  | p :: r => by
    rw [List.any_cons]
    by_cases e : p.1 = k
    · simp only [valV_pos e, decide_eq_true e, Bool.true_or, Option.isSome_some]
    · rw [valV_neg e, decide_eq_false e, Bool.false_or]; exact valV_any k r
theorem length_putK (kvs : List (κ × V)) (k : κ) (v : V) : (putK kvs k v).length ≤ kvs.length + 1 := by
  unfold putK
  split
  · rw [List.length_map]; omega
  · rw [List.length_append, List.length_cons, List.length_nil]; omega
theorem RelO.isSome_eq {o : Option V} {u : Option Value} (r : RelO o u) : o.isSome = u.isSome := by
  cases o with
  | none => cases u with
    | none => rfl
    | some _ => exact (show False from r).elim
  | some _ => cases u with
    | none => exact (show False from r).elim
    | some _ => rfl
theorem KV.val {kvs : List (κ × V)} {vs : List (κ × Value)} (r : KV kvs vs) (k : κ) : RelO (valV kvs k) (valueAt vs k) := by
  unfold KV at r
  induction r with
  | nil => exact True.intro
  | @cons p q ps qs h t ih =>
    obtain ⟨h1, h2⟩ := h
    by_cases e : p.1 = k
    · have e' : q.1 = k := h1.symm.trans e
      have b : valueAt (q :: qs) k = some q.2 := by simp [valueAt, List.find?_cons, e']
      rw [valV_pos e, b]; exact h2
    · have e' : ¬ q.1 = k := fun z => e (h1.trans z)
      have b : valueAt (q :: qs) k = valueAt qs k := by simp [valueAt, List.find?_cons, e']
      rw [valV_neg e, b]; exact ih
theorem KV.any {kvs : List (κ × V)} {vs : List (κ × Value)} (r : KV kvs vs) (k : κ) : (kvs.any fun kv => decide (kv.1 = k)) = vs.any fun kv => decide (kv.1 = k) := by
  unfold KV at r
  induction r with
  | nil => rfl
  | cons h t ih => rw [List.any_cons, List.any_cons, ih, h.1]
theorem KV.repl {kvs : List (κ × V)} {vs : List (κ × Value)} (r : KV kvs vs) (k : κ) {y : V} {u : Value} (ry : RelV y u) :
    KV (kvs.map fun kv => if kv.1 = k then (kv.1, y) else kv) (vs.map fun kv => if kv.1 = k then (kv.1, u) else kv) := by
  unfold KV at r ⊢
  induction r with
  | nil => exact .nil
  | @cons p q ps qs h t ih =>
    rw [List.map_cons, List.map_cons]
    refine .cons ?_ ih
    obtain ⟨h1, h2⟩ := h
    by_cases e : p.1 = k
    · rw [if_pos e, if_pos (h1.symm.trans e)]; exact ⟨h1, ry⟩
    · rw [if_neg e, if_neg (fun z => e (h1.trans z))]; exact ⟨h1, h2⟩
theorem KV.put {kvs : List (κ × V)} {vs : List (κ × Value)} (r : KV kvs vs) (k : κ) {y : V} {u : Value} (ry : RelV y u) : KV (putK kvs k y) (stored vs k u) := by
  unfold putK stored
  rw [r.any k]
  by_cases e : (vs.any fun kv => decide (kv.1 = k)) = true
  · rw [if_pos e, if_pos e]; exact r.repl k ry
  · rw [if_neg e, if_neg e]; exact Paired.snoc r ⟨rfl, ry⟩
theorem KV.length {kvs : List (κ × V)} {vs : List (κ × Value)} (r : KV kvs vs) : kvs.length = vs.length := Paired.length r
end
theorem kV_is {P : Program} {w : World} {k : Key} {u : Value} (r : RelV (kV k) u) : (mixKind P w).is k u = true := by
  cases k with
  | inl i => obtain ⟨t, e⟩ := (show ∃ t, u = Value.int i t from r); subst e; exact mixKind_int P w i t
  | inr x => obtain ⟨t, e⟩ := (show ∃ t, u = Value.str x t from r); subst e; exact mixKind_str P w x t
theorem items_are {P : Program} {w : World} : ∀ {ks : List Key} {us : List Value}, Vals (ks.map kV) us → ItemsAre (mixKind P w) ks us
  | [], _, r => by rw [List.map_nil] at r; cases r; exact .nil
  | k :: ks, _, r => by
    rw [List.map_cons] at r
    cases r with
    | cons h t => exact .cons (kV_is h) (items_are t)
abbrev KT (H : Hp) : List (List Key × V) → List (List Key × Addr × Value) → Prop := Paired fun p q => p.1 = q.1 ∧ H q.2.1 = some (.tup (p.1.map kV)) ∧ RelV p.2 q.2.2
theorem KT.val {H : Hp} {kvs : List (List Key × V)} {xs : List (List Key × Addr × Value)} (r : KT H kvs xs) (k : List Key) : RelO (valV kvs k) ((atKey xs k).map (·.2)) := by
  induction r with
  | nil => exact True.intro
  | @cons p q ps qs h t ih =>
    obtain ⟨h1, _, h2⟩ := h
    by_cases e : p.1 = k
    · have e' : q.1 = k := h1.symm.trans e
      have b : atKey (q :: qs) k = some q.2 := by simp [atKey, List.find?_cons, e']
      rw [valV_pos e, b]; exact h2
    · have e' : ¬ q.1 = k := fun z => e (h1.trans z)
      have b : atKey (q :: qs) k = atKey qs k := by simp [atKey, List.find?_cons, e']
      rw [valV_neg e, b]; exact ih
theorem KT.repl {H : Hp} {kvs : List (List Key × V)} {xs : List (List Key × Addr × Value)} (r : KT H kvs xs) (k : List Key) {y : V} {u : Value} (ry : RelV y u) :
    KT H (kvs.map fun kv => if kv.1 = k then (kv.1, y) else kv) (xs.map (putAt k u)) := by
  induction r with
  | nil => exact .nil
  | @cons p q ps qs h t ih =>
    rw [List.map_cons, List.map_cons]
    refine .cons ?_ ih
    obtain ⟨h1, h2, h3⟩ := h
    unfold putAt
    by_cases e : p.1 = k
    · rw [if_pos e, if_pos (h1.symm.trans e)]; exact ⟨h1, h2, ry⟩
    · rw [if_neg e, if_neg (fun z => e (h1.trans z))]; exact ⟨h1, h2, h3⟩
theorem KT.put {H : Hp} {kvs : List (List Key × V)} {xs : List (List Key × Addr × Value)} (r : KT H kvs xs) (k : List Key) {b : Addr} {y : V} {u : Value} (hb : H b = some (.tup (k.map kV))) (ry : RelV y u) :
    KT H (putK kvs k y) (storedH xs k b u) := by
  have e : (kvs.any fun kv => decide (kv.1 = k)) = (atKey xs k).isSome := by
    rw [valV_any, (r.val k).isSome_eq, Option.isSome_map]
  unfold putK storedH
  rw [e]
  by_cases q : (atKey xs k).isSome = true
  · rw [if_pos q, if_pos q]; exact r.repl k ry
  · rw [if_neg q, if_neg q]; exact Paired.snoc r ⟨rfl, hb, ry⟩
theorem KT.keeps {H H' : Hp} {kvs : List (List Key × V)} {xs : List (List Key × Addr × Value)} (r : KT H kvs xs) (ht : ∀ b ys, H b = some (.tup ys) → H' b = some (.tup ys)) : KT H' kvs xs :=
  Paired.mapP r fun _ _ z => ⟨z.1, ht _ _ z.2.1, z.2.2⟩
section
variable {P : Program} {w : World} {H : Hp} {h : Heap} {a : Addr}
theorem rd_of {u : HO} (ok : HOk P w H h) (e : Rd H a u) : ObjOk P w H h a u := e.ok ok
theorem dk_rd {kvs : List (Key × V)} (ok : HOk P w H h) (e : Rd H a (.dK kvs)) : kvs.length ≤ sizeLine ∧ (a == sysModules) = false ∧ ∃ vs, KV kvs vs ∧ h.DictOf (mixKind P w) a vs :=
  show ObjOk P w H h a (.dK kvs) from rd_of ok e
theorem dk_of {kvs : List (Key × V)} (ok : HOk P w H h) (e : H a = some (.dK kvs)) : kvs.length ≤ sizeLine ∧ (a == sysModules) = false ∧ ∃ vs, KV kvs vs ∧ h.DictOf (mixKind P w) a vs := dk_rd ok (.inl e)
theorem key_of {ks : List Key} (ok : HOk P w H h) (e : H a = some (.tup (ks.map kV))) : (tupleKind (mixKind P w)).is h ks a := by
  obtain ⟨_, its, r, o, h1, h2, n, h3⟩ := (show ObjOk P w H h a (.tup (ks.map kV)) from ok a _ e)
  exact ⟨o, its.toArray, n, h1, h2, h3, by simpa using items_are r⟩
theorem dt_rd {kvs : List (List Key × V)} (ok : HOk P w H h) (e : Rd H a (.dT kvs)) : kvs.length ≤ sizeLine ∧ (a == sysModules) = false ∧
    ∃ xs, KT H kvs xs ∧ h.DictOfH (tupleKind (mixKind P w)) a xs := by
  obtain ⟨z, y, xs, r, o, es, ep, h1, h2, h3, h4, h5⟩ := (show ObjOk P w H h a (.dT kvs) from rd_of ok e)
  refine ⟨z, y, xs, r, o, es, ep, h1, h2, h3, h4, fun x hx => ?_, h5⟩
  have all : ∀ {l : List (List Key × V)} {m : List (List Key × Addr × Value)}, KT H l m → ∀ x ∈ m, (tupleKind (mixKind P w)).is h x.1 x.2.1 := by
    intro l m q
    induction q with
    | nil => intro x hx; exact nomatch hx
    | @cons p q ps qs hq t ih =>
      intro x hx
      rcases List.mem_cons.mp hx with e | hx
      · subst e
        exact key_of ok (by rw [← hq.1]; exact hq.2.1)
      · exact ih x hx
  exact all r x hx
theorem dt_of {kvs : List (List Key × V)} (ok : HOk P w H h) (e : H a = some (.dT kvs)) : kvs.length ≤ sizeLine ∧ (a == sysModules) = false ∧
    ∃ xs, KT H kvs xs ∧ h.DictOfH (tupleKind (mixKind P w)) a xs := dt_rd ok (.inl e)
end
def DGet (H : Hp) (a : Addr) (y : V) (r : Option V) : Prop :=
  (∃ kvs k, Rd H a (.dK kvs) ∧ y = kV k ∧ r = valV kvs k) ∨ ∃ kvs k b, Rd H a (.dT kvs) ∧ y = .ref b ∧ H b = some (.tup (k.map kV)) ∧ r = valV kvs k
def DPut (H : Hp) (a : Addr) (y v : V) (H' : Hp) : Prop :=
  (∃ kvs k, H a = some (.dK kvs) ∧ y = kV k ∧ kvs.length < sizeLine ∧ H' = upd H a (.dK (putK kvs k v))) ∨
  ∃ kvs k b, H a = some (.dT kvs) ∧ y = .ref b ∧ H b = some (.tup (k.map kV)) ∧ kvs.length < sizeLine ∧ H' = upd H a (.dT (putK kvs k v))
theorem DGet.k {H : Hp} {a : Addr} {kvs : List (Key × V)} {k : Key} (e : H a = some (.dK kvs)) : DGet H a (kV k) (valV kvs k) := .inl ⟨kvs, k, .inl e, rfl, rfl⟩
theorem DPut.k {H : Hp} {a : Addr} {kvs : List (Key × V)} {k : Key} {v : V} (e : H a = some (.dK kvs)) (hl : kvs.length < sizeLine) : DPut H a (kV k) v (upd H a (.dK (putK kvs k v))) := .inl ⟨kvs, k, e, rfl, hl, rfl⟩
section
variable {X : Cx} {pins : List (Addr × Obj)} {σ : St} {H : Hp} {s : Shared} {a : Addr} {y v : V} {u r : Value} {o : Option V} {A : Around} {E : Value → Shared → Prop}
theorem Inv.big (I : Inv X pins σ H s) : sysModules < s.heap.objs.size := by
  have h : mainGlobals < s.heap.objs.size := (I.mod.glob.keeps I.bk).lt
  exact Nat.lt_trans (by decide) h
theorem d_getItem {Q : Value → Shared → Prop} (hu : A.units + 1 < cLine) (I : Inv X pins σ H s) (g : DGet H a y (some v)) (ry : RelV y u) (h : ∀ w' s', Inv X pins σ H s' → RelV v w' → Q w' s') :
    wpAny (model X.prog X.w) A (getItem (.ref a) u) Q E s := by
  rcases g with ⟨kvs, k, e, ey, l⟩ | ⟨kvs, k, b, e, ey, eb, l⟩
  · subst ey
    obtain ⟨z, hd, vs, rel, dd⟩ := dk_rd I.hok e
    obtain ⟨w', hw, rw'⟩ := RelO.some_of (v := v) (o := valueAt vs k) (by rw [l]; exact rel.val k)
    exact wpAny_getItem_of (kV_is ry) dd.mapOf hw (h w' _ (I.tok _) rw')
  · subst ey
    cases (show u = Value.ref b from ry)
    obtain ⟨z, hd, xs, rel, dd⟩ := dt_rd I.hok e
    obtain ⟨w', hw, rw'⟩ := RelO.some_of (v := v) (o := (atKey xs k).map (·.2)) (by rw [l]; exact rel.val k)
    obtain ⟨p, hp, hp2⟩ := Option.map_eq_some_iff.mp hw
    refine wpAny_getItem_heap (tupleKind_room_in1 hu) (key_of I.hok eb) dd hp ?_
    rw [hp2]
    exact h w' _ (I.tok _) rw'
theorem d_write {h' : Heap} {t' : Nat} {ob : HO} (I : Inv X pins σ H s) (mu : Mut (H a)) (hs : Heap.SameBut a s.heap h') (he : ∃ q, h'.get? a = some q) (new : ObjOk X.prog X.w (upd H a ob) h' a ob) :
    Inv X pins σ (upd H a ob) { s with heap := h', toks := t' } :=
  I.write (x := a) (e := a) mu (.inl rfl) (fun b q hb z => (hs.2 b hb).trans z) he new
theorem dk_new {P : Program} {w : World} {H' : Hp} {h' : Heap} {kvs : List (Key × V)} {vs : List (Key × Value)} (z : kvs.length ≤ sizeLine) (hd : (a == sysModules) = false) (rel : KV kvs vs) (dd : h'.DictOf (mixKind P w) a vs) :
    ObjOk P w H' h' a (.dK kvs) := ⟨z, hd, vs, rel, dd⟩
end
def NoSl (i : Expr) : Prop := ∀ ov iv, subscripted i false ov iv = operate [ov, iv] (getItem ov iv)
theorem subD_of {prog : Program} {w : World} {A : Around} {E : Value → Shared → Prop} {s : Shared} {env : Env} {value slice : Expr} {pos : Pos} {T id : String} {Q : Value → Shared → Prop}
    (hl : typeLookup (.type T) "__getitem__" = pure (some (.builtin id))) (hs : NoSl slice)
    (h : wpAny (model prog w) A (eval value env) (fun o s₁ => wpAny (model prog w) A (eval slice env) (fun i s₂ => s₂.TypeIs o T ∧ wpAny (model prog w) A (getItem o i) Q E s₂) E s₁) E s) :
    wpAny (model prog w) A (eval (.Subscript value slice pos) env) Q E s := by
  refine Subscript_ (wpAny_mono h (fun o s₁ h₁ => wpAny_mono h₁ (fun i s₂ h₂ => ?_) fun _ _ x => x) fun _ _ x => x)
  obtain ⟨hT, h₂⟩ := h₂
  unfold subscriptTail
  refine wpAny_bind ?_
  rw [getitemInPython_of_ne hT.not_modules]
  refine wpAny_bind (wpAny_specialOf hT hl ?_)
  have fin : wpAny (model prog w) A (subscripted slice false o i) (fun r s₃ => wpAny (model prog w) A (letTemporaryGo value o r >>= fun _ => pure r) Q E s₃) E s₂ := by
    rw [hs o i]
    exact wpAny_operating (wpAny_mono h₂ (fun r s₃ h₃ => wpAny_bind (wpAny_letTemporaryGo (wpAny_pure h₃))) fun _ _ x => x)
  first
    | exact wpAny_pure (wpAny_bind fin)
    | exact wpAny_bind (wpAny_pure (wpAny_bind fin))
    | exact wpAny_bind fin
theorem dict_typeIs {X : Cx} {pins : List (Addr × Obj)} {σ : St} {H : Hp} {s : Shared} {a : Addr} {y : V} {o : Option V} (I : Inv X pins σ H s) (g : DGet H a y o) : s.TypeIs (.ref a) "dict" := by
  rcases g with ⟨kvs, k, e, _, _⟩ | ⟨kvs, k, b, e, _, _, _⟩
  · obtain ⟨_, _, vs, _, dd⟩ := dk_rd I.hok e
    exact dd.typeIs
  · obtain ⟨_, _, xs, _, dd⟩ := dt_rd I.hok e
    exact dd.typeIs
def tDGet (td ty : TE) : TE := fun σ H Q => td σ H fun x H1 => ty σ H1 fun y H2 => ∃ a v, x = .ref a ∧ DGet H2 a y (some v) ∧ Q v H2
section
variable {X : Cx} {o i e value : Expr} {pos pos' tpos : Pos} {td ty tv : TE}
theorem pe_dget (hu : X.A.units + 1 < cLine) (ho : PE X o td) (hi : PE X i ty) (hs : NoSl i) : PE X (.Subscript o i pos) (tDGet td ty) := by
  intro pins s σ H Q I h
  refine subD_of PySem.F.slot_dict_getitem.lookup hs (thn (ho pins s σ H _ I h) fun u s1 ⟨x, H1, I1, rx, q1⟩ => thn (hi pins s1 σ H1 _ I1 q1) fun iv s2 ⟨y, H2, I2, ry, a, v, ex, g, q2⟩ => ?_)
  subst ex
  obtain rfl : u = Value.ref a := rx
  exact ⟨dict_typeIs I2 g, d_getItem hu I2 g ry fun w' s3 I3 rw' => ⟨v, H2, I3, rw', q2⟩⟩
end
theorem dk_empty {P : Program} {w : World} {H : Hp} (h : Heap) (hb : sysModules < h.objs.size) : ObjOk P w H (h.push { cls := .type "dict", data := .dict #[] }) h.objs.size (.dK []) :=
  ⟨Nat.zero_le _, beq_eq_false_iff_ne.mpr (Ne.symm (Nat.ne_of_lt hb)), [], .nil, Heap.DictOf.new h⟩
theorem dt_empty {P : Program} {w : World} {H : Hp} (h : Heap) (hb : sysModules < h.objs.size) : ObjOk P w H (h.push { cls := .type "dict", data := .dict #[] }) h.objs.size (.dT []) :=
  ⟨Nat.zero_le _, beq_eq_false_iff_ne.mpr (Ne.symm (Nat.ne_of_lt hb)), [], .nil, _, #[], 0, Heap.get?_push_size _ rfl, ⟨rfl, rfl, rfl⟩, rfl, rfl, List.nodup_nil⟩
def tDNewK : TE := fun _ H Q => ∀ p, H p = none → Q (.ref p) (upd H p (.dK []))
section
variable {X : Cx} {pos : Pos}
theorem pe_dnewK : PE X (.Dict [] [] pos) tDNewK := fun pins s σ H Q I h =>
  wpAny_Dict_empty ⟨.ref s.heap.objs.size, _, I.laid (a := s.heap.objs.size) (o := .dK []) (t' := s.toks) (fun _ _ q => Heap.get?_push_of_some _ q) (Nat.le_refl _) (dk_empty s.heap I.big), rfl, h _ (I.hok.fresh (Nat.le_refl _))⟩
end
structure M2 (X : Cx) (o : Expr) (m : Str) (apos : Pos) (e f : Expr) (cpos : Pos) : Prop where
  base : attributeBase o m X.env (eval o X.env) = eval o X.env
  few : ((backTo cpos (starEach [e, f] X.env)).all (fun x => !x.1) && (backToKw cpos (keywordEach [] X.env)).all (fun x => x.1.isSome)
    && decide (([e, f] : List Expr).length + ([] : List Keyword).length + (if ([] : List Keyword).isEmpty then 0 else 1) < 30)) = true
  line : (apos.endLine == cpos.line) = true
  trees : backTo cpos (starEach [e, f] X.env) = [(false, eval e X.env), (false, eval f X.env)]
def IsD (H : Hp) (a : Addr) : Prop := (∃ kvs, Rd H a (.dK kvs)) ∨ ∃ kvs, Rd H a (.dT kvs)
theorem isD_at {X : Cx} {pins : List (Addr × Obj)} {σ : St} {H : Hp} {s : Shared} {a : Addr} (I : Inv X pins σ H s) (d : IsD H a) :
    s.TypeIs (.ref a) "dict" ∧ (∀ b, Value.ref a = .ref b → ∃ ob, s.heap.get? b = some ob ∧ ob.dict = none) ∧ (a == sysModules) = false := by
  rcases d with ⟨kvs, e⟩ | ⟨kvs, e⟩
  · obtain ⟨_, hd, vs, _, dd⟩ := dk_rd I.hok e
    refine ⟨dd.typeIs, fun b q => ?_, hd⟩
    cases q
    obtain ⟨ob, _, _, h1, h2, _⟩ := dd
    exact ⟨ob, h1, h2.2.1⟩
  · obtain ⟨_, hd, xs, _, dd⟩ := dt_rd I.hok e
    refine ⟨dd.typeIs, fun b q => ?_, hd⟩
    cases q
    obtain ⟨ob, _, _, h1, h2, _⟩ := dd
    exact ⟨ob, h1, h2.2.1⟩
end L2
namespace Att
open PySem PySem.W PySem.Calls PyProof.Rows
theorem ints_of_wellAll {P : Params} {h : Heap} : ∀ (ns : List Int) (vs : List Value), WellAll P h vs (ns.map WData.int) → IntsAre vs ns := by
  intro ns
  induction ns with
  | nil =>
    intro vs w
    rw [List.map_nil] at w
    cases w
    exact .nil
  | cons n ns ih =>
    intro vs w
    rw [List.map_cons] at w
    cases w with
    | cons a b =>
      cases a
      exact .cons _ _ (ih _ b)
theorem script_of {l : OpenLaw} {n : Nat} (hn : l.most = some n) {P : Params} {h : Heap} {args : List WData} {vals : List Value}
    (hpre : l.row.toRowW.claim.pre args = true) (hwl : WellAll P h vals args) :
    ∃ a vs ns, vals = [Value.ref a] ∧ args = [WData.list (ns.map WData.int)] ∧ h.get? a = some { cls := .type "list", data := .seq vs.toArray } ∧ IntsAre vs ns ∧ ns.length ≤ n := by
  have hsh : WShape.hasAll [] args [.list .int] = true := (pre_splitW hpre).1
  have hc : l.pre.holds [] { args := args } = true := (pre_splitW hpre).2
  obtain ⟨d, r, rfl, h1, h2⟩ := hasAllW_cons hsh
  obtain rfl := hasAllW_nil h2
  obtain ⟨xs, rfl, h3⟩ := hasW_list h1
  obtain ⟨ns, rfl⟩ := items_int h3
  have hlen : ns.length ≤ n := by
    unfold OpenLaw.pre at hc
    have h4 : (WTm.not (.lt (.lit (.int (n : Int))) (.len (.arg 0)))).holds [] { args := [.list (ns.map .int)] } = true := by
      have h4 := (holds_andW hc).1
      rw [hn] at h4
      exact h4
    have h5 := condW_of h4 (w_not (w_lt w_lit (w_len_list (w_arg rfl))))
    rw [List.length_map] at h5
    refine Nat.le_of_not_lt fun q => ?_
    have q' : (n : Int) < ((ns.length : Nat) : Int) := by omega
    first
      | (rw [decide_eq_true q'] at h5; exact absurd h5 (by decide))
      | (simp at h5; omega)
  cases hwl with
  | cons w1 w2 =>
    cases w2
    cases w1 with
    | list ho hall => exact ⟨_, _, ns, rfl, rfl, ho, ints_of_wellAll ns _ hall, hlen⟩
theorem post_true (l : OpenLaw) (args : List WData) : l.row.toRowW.claim.post args (.bool true) args = true :=
  postW_of (r := l.row.toRowW) (X := (true == true))
    (show WShape.has [] (.bool true) .bool = true by first | rfl | decide | simp [WShape.has, WShape.arms, WShape.armsAll])
    (show (WTm.eq .res (.lit (.bool true))).value [] { args := args, res := some (.bool true), after := args } = some (.bool (true == true)) from w_eq_bool (w_res rfl) w_lit) rfl
theorem attach_call {l : OpenLaw} {n : Nat} {q : Program} {loose : List Str} {XP : (Str → Option Value) → Heap → Prop} {YP : World → Heap → Prop} {d : DefRec}
    (hn : l.most = some n) (hdf : d.params.defaults = [])
    (call : ∀ (w : World) (s₀ s₁ : Shared) (mg mb : Str → Option Value) (fa : Addr) (o : Obj) (pm cd doc : Value) (a : Addr) (vs : List Value) (ns : List Int),
      Ground q loose [] XP w s₀ mg mb s₁.heap → YP w s₁.heap →
      s₁.heap.get? fa = some o → o.data = .func (docDef d.name d.params d.body d.scope pm cd doc) → s₁.heap.CodeRec cd d.name → mg d.name = some (.ref fa) →
      s₁.heap.get? a = some { cls := .type "list", data := .seq vs.toArray } → IntsAre vs ns → ns.length ≤ n → s₁.gens = #[] →
      codeAny (model l.prog w) callerA (.call (.ref fa) ⟨[.ref a], []⟩) (fun r s' => r = .ok (.ret (.bool true)) ∧ OldK s₁.heap s'.heap ∧ s'.os = s₁.os ∧ AllBare s'.gens) s₁) :
    WalkO q loose XP YP l.row.toRowW d [] (fun f vs => PySem.call f vs) := by
  intro w s₀ s₁ mg mb G Y fa o pm cd doc dV kV ho hd hcd hD hmg hg args vals as hpre hlay hrd hwl hlo
  obtain rfl : dV = .none := Dflts.none hD hdf
  obtain rfl : kV = .none := Dflts.noKw hD
  obtain ⟨a, vs, ns, rfl, rfl, hobj, hints, hlen⟩ := script_of hn hpre hwl
  refine enter_call (codeAny_mono (call w s₀ s₁ mg mb fa o pm cd doc a vs ns G Y ho (fd_plain hd) hcd hmg hobj hints hlen hg) fun r s' hq => ?_)
  obtain ⟨rfl, h2, h3, h4⟩ := hq
  exact ⟨.inl ⟨.bool true, .bool true, [], rfl, fun _ => rfl, .bool true, post_true l _, fun _ => ⟨List.Pairwise.nil, fun _ hm => (nomatch hm)⟩⟩, h2, h3, h4⟩
end Att
namespace L2
open PySem PySem.Spec PyProof.Rows
theorem vals_ints : ∀ {vs : List Value} {ns : List Int}, IntsAre vs ns → Vals (ns.map V.int) vs
  | _, _, .nil => .nil
  | _, _, .cons n t h => .cons ⟨t, rfl⟩ (vals_ints h)
def Only (H : Hp) : Prop := ∀ b, H b = none ∨ ∃ o xs, H b = some (.frz o (.lst xs))
theorem law_call {P : Program} {w : World} {K : PySem.W.Frag} {mg mb : Str → Option Value} {CX : CXT} {k : Nat} {fa a : Addr} {fd : FuncData} {x : Str} {sp : Sp} {s₁ : Shared} {vs : List Value} {ns : List Int}
    (KX : K.In s₁.heap) (hns : s₁.heap.Ns mainGlobals mg) (hb : s₁.heap.Ns builtinsNs mb) (hbb : ∀ x : Str, x ≠ "__name__" → mb x = bootBuiltins x) (hlim : s₁.heap.NoLimit) (hg : s₁.gens = #[])
    (ha : s₁.heap.get? a = some { cls := .type "list", data := .seq vs.toArray }) (hi : IntsAre vs ns) (hl : ns.length ≤ sizeLine) (hr : Room k callerA)
    (F : ∀ base : Heap, K.In base → base.Ns mainGlobals mg → FnOk P w K mg base CX k fa fd [x] sp) (hbind : ∀ (s : Shared) (u : Value), BindsTo s fd ⟨[u], []⟩ [(x, u)])
    (hsp : ∀ H : Hp, Only H → SqL K H a (ns.map V.int) → sp [.ref a] H (fun v _ => v = .bl true) fun _ _ _ => False)
    (hCX : ∀ H e s', CX [] H s₁ (fun _ _ _ => False) e s' → False) :
    codeAny (model P w) callerA (.call (.ref fa) ⟨[.ref a], []⟩) (fun r s' => r = .ok (.ret (.bool true)) ∧ OldK s₁.heap s'.heap ∧ s'.os = s₁.os ∧ AllBare s'.gens) s₁ := by
  have rv := vals_ints hi
  have lenV := hi.length
  have core : ∀ H : Hp, Only H → SqL K H a (ns.map V.int) → HOk P w H s₁.heap → (∀ b, H b ≠ none → b = a) → (H a ≠ none → K.lookup a = none) →
      codeAny (model P w) callerA (.call (.ref fa) ⟨[.ref a], []⟩) (fun r s' => r = .ok (.ret (.bool true)) ∧ OldK s₁.heap s'.heap ∧ s'.os = s₁.os ∧ AllBare s'.gens) s₁ := by
    intro H hO hS hok hA hK
    have base_of : ∀ {b : Addr} {o : Obj}, s₁.heap.get? b = some o → H b = none → (hidT s₁.heap H).get? b = some o := fun e n => hidT_get e n
    have noA : ∀ {b : Addr} {o : Obj} {es : Array DictEntry} {ep : Nat}, s₁.heap.get? b = some o → o.data = .dict es ep → H b = none := fun {b o es ep} e d => by
      cases q : H b with
      | none => rfl
      | some u =>
        have e' : b = a := hA b (by rw [q]; simp)
        subst e'
        rw [ha] at e; cases e
        have d' : Data.seq vs.toArray _ = Data.dict es ep := d
        cases d'
    have nsK : ∀ {b : Addr} {m : Str → Option Value}, s₁.heap.Ns b m → (hidT s₁.heap H).Ns b m := fun {b m} ⟨o, es, ep, e, d, r⟩ => ⟨o, es, ep, base_of e (noA e d), d, r⟩
    have hKb : K.In (hidT s₁.heap H) := fun b o e => base_of (KX b o e) (by
      cases q : H b with
      | none => rfl
      | some u =>
        have e' : b = a := hA b (by rw [q]; simp)
        subst e'
        rw [hK (by rw [q]; simp)] at e; cases e)
    have hM : Mod K mg (hidT s₁.heap H) := ⟨hKb, nsK hns, ⟨mb, nsK hb, hbb⟩, let ⟨mc, h1, h2⟩ := hlim; ⟨mc, nsK h1, h2⟩⟩
    have e0 : Env0 P w K mg (hidT s₁.heap H) callerA [] s₁ H := ⟨rfl, hM, fun b o e => of_hidT e, Nat.le_of_eq (hidT_size _ _), trivial, fun b hb => absurd (show b ∈ ([] : List Addr) from hb) (by simp), hok, .of_eq hg⟩
    refine codeAny_mono ((F _ hKb (nsK hns)).run callerA [] s₁ H ⟨[.ref a], []⟩ [.ref a] [.ref a] _ _ hr e0 (hbind s₁ (.ref a)) (.cons rfl .nil) (hsp H hO hS)) fun r s' h => ?_
    cases r with
    | error e => exact (hCX H e s' h).elim
    | ok fl =>
      cases fl with
      | next => exact False.elim h
      | brk => exact False.elim h
      | cont => exact False.elim h
      | ret u =>
        obtain ⟨v, H', os, bare, un, hok', r', q⟩ := h
        have q' : v = .bl true := q
        subst q'
        obtain rfl : u = Value.bool true := r'
        refine ⟨rfl, OldK.of_keep fun b o e => ?_, os, bare⟩
        cases q : H b with
        | none => exact un.keep b o e q (by intro z; exact absurd (show b ∈ ([] : List Addr) from z) (by simp)) (by simp)
        | some u =>
          rcases hO b with z | ⟨ob, xs, z⟩
          · rw [q] at z; cases z
          · have z2 := un.frzs b ob _ z
            obtain ⟨e1, _⟩ := hok b _ z
            obtain ⟨e2, _⟩ := hok' b _ z2
            rw [e] at e1; cases e1
            exact e2
  cases hk : K.lookup a with
  | some o =>
    have e := KX a o hk
    rw [ha] at e
    cases e
    refine core (fun _ => none) (fun _ => .inl rfl) (.inr ⟨_, vs.toArray, _, hk, rfl, rfl, rfl, by rw [List.size_toArray, lenV]; exact hl, by simpa using rv⟩) (fun b u z => by have z' : (none : Option HO) = some u := z; cases z') (fun b z => absurd rfl z) fun z => absurd rfl z
  | none =>
    refine core (fun b => if b = a then some (.frz { cls := .type "list", data := .seq vs.toArray } (.lst (ns.map V.int))) else none) (fun b => ?_) (.inl (.inr ⟨{ cls := .type "list", data := .seq vs.toArray }, if_pos rfl⟩)) (fun b u z => ?_) (fun b z => ?_) fun _ => hk
    · by_cases hb : b = a
      · exact .inr ⟨_, _, if_pos hb⟩
      · exact .inl (if_neg hb)
    · by_cases hb : b = a
      · have z' := (if_pos hb).symm.trans z
        cases z'
        subst hb
        exact ⟨ha, by rw [List.length_map]; exact hl, vs, _, rv, ha⟩
      · have z' := (if_neg hb).symm.trans z
        cases z'
    · by_cases hb : b = a
      · exact hb
      · exact absurd (if_neg hb) z
end L2
namespace L2
open PySem PySem.Spec PyProof.Rows
theorem walk_of {l : PySem.W.OpenLaw} {n k : Nat} {q : Program} {loose : List Str} {XP : (Str → Option Value) → Heap → Prop} {YP : World → Heap → Prop} {d : DefRec} {K : Params → PySem.W.Frag} {CX : World → CXT} {sp : World → Sp} {x : Str}
    (hn : l.most = some n) (hn2 : n ≤ sizeLine) (hdf : d.params.defaults = []) (hr : Room k callerA)
    (hY : ∀ (w : World) (h : Heap), YP w h → (K w.params).In h)
    (F : ∀ (w : World) (mg : Str → Option Value) (fa : Addr) (h : Heap), (K w.params).In h → h.Ns mainGlobals mg → mg d.name = some (.ref fa) →
      ∃ fd : FuncData, (∀ (s : Shared) (u : Value), BindsTo s fd ⟨[u], []⟩ [(x, u)]) ∧
        ∀ base : Heap, (K w.params).In base → base.Ns mainGlobals mg → FnOk l.prog w (K w.params) mg base (CX w) k fa fd [x] (sp w))
    (hsp : ∀ (w : World) (H : Hp) (a : Addr) (ns : List Int), ns.length ≤ n → Only H → SqL (K w.params) H a (ns.map V.int) → sp w [.ref a] H (fun v _ => v = .bl true) fun _ _ _ => False)
    (hCX : ∀ (w : World) (H : Hp) (s : Shared) (e : Value) (s' : Shared), CX w [] H s (fun _ _ _ => False) e s' → False) :
    PySem.W.WalkO q loose XP YP l.row.toRowW d [] (fun f vs => PySem.call f vs) := by
  refine Att.attach_call hn hdf fun w s₀ s₁ mg mb fa o pm cd doc a vs ns G Y ho hd hcd hmg hobj hints hlen hg => ?_
  have KX := hY w _ Y
  obtain ⟨fd, hb, hF⟩ := F w mg fa _ KX G.T.g hmg
  exact law_call KX G.T.g G.T.b G.T.builtins G.T.nolimit hg hobj hints (Nat.le_trans hlen hn2) hr hF hb (fun H hO hS => hsp w H a ns hlen hO hS) fun H e s' => hCX w H s₁ e s'
end L2
namespace L2
open PySem PySem.Spec PyProof.Rows
def defArgs (s : Stmt) : Arguments := match s with
  | .FunctionDef _ a _ _ _ _ _ _ _ _ => a
  | _ => { posonlyargs := [], args := [], vararg := none, kwonlyargs := [], kw_defaults := [], kwarg := none, defaults := [] }
def defBody (s : Stmt) : List Stmt := match s with
  | .FunctionDef _ _ b _ _ _ _ _ _ _ => b
  | _ => []
def defScope (s : Stmt) : Scope := match s with
  | .FunctionDef _ _ _ _ _ _ sc _ _ _ => sc
  | _ => { kind := .function, names := [], isGenerator := false, isCoroutine := false }
abbrev CX0 : CXT := fun _ _ _ _ _ _ => False
abbrev E0 : XK := fun _ _ _ => False
theorem pass0 {X : Cx} : Passes CX0 X E0 := fun _ _ _ _ _ _ _ h => h.elim
structure Fun (K : PySem.W.Frag) (x qual : Str) (st : Stmt) (f : Addr) (fd : FuncData) : Prop where
  ex : ∃ (oc : Value) (od : Option Addr) (kV doc pm : Value) (an : Option Addr) (cdv ct : Value) (osl : Array (Option Value)),
    fd = PySem.W.fnOf x qual (defArgs st) (defBody st) (defScope st) .none kV doc pm an cdv ct ∧ K.lookup f = some ⟨oc, od, .func fd, osl⟩ ∧ PySem.W.codeIn K cdv qual = true
  kp : PySem.W.keepIn K (.ref f) = true
section
variable {P : Program} {w : World} {K : PySem.W.Frag} {mg : Str → Option Value} {base : Heap}
theorem Fun.ok {x qual : Str} {st : Stmt} {f : Addr} {fd : FuncData} {N ps : List Str} {k : Nat} {sp : Sp} (F : Fun K x qual st f fd) (S : FnScope N ps (defScope st)) (len : ∀ vs H Q E, sp vs H Q E → vs.length = ps.length)
    (hbody : ∀ (cdv : Value) (A : Around) (outer : List Env) (s : Shared) (H : Hp) (vs : List V) (Q : VK) (E : XK), Room k (A.deeper (envOfC qual (defScope st) s.heap.objs.size f cdv)) → sp vs H Q E →
      ∃ t, PSs (cxOf CX0 P w K mg base N qual (defScope st) f cdv A outer s H E).nox (defBody st) t ∧ t { nx := fun _ H' => Q .non H', rt := Q } (start N vs) H) : FnOk P w K mg base CX0 (k + 1) f fd ps sp := by
  obtain ⟨oc, od, kV, doc, pm, an, cdv, ct, osl, rfl, lk, hcd⟩ := F.ex
  refine fn_of lk hcd S len fun A outer s H vs Q E hr hsp => ?_
  obtain ⟨t, h, q⟩ := hbody cdv A outer s H vs Q E hr hsp
  exact ⟨t, h.nox, q⟩
theorem Fun.binds {x qual : Str} {st : Stmt} {f : Addr} {fd : FuncData} {ps : List Str} (F : Fun K x qual st f fd)
    (h : ∀ (kV doc pm : Value) (an : Option Addr) (cdv ct : Value) (us : List Value), us.length = ps.length → bindArgs (PySem.W.fnOf x qual (defArgs st) (defBody st) (defScope st) .none kV doc pm an cdv ct) ⟨us, []⟩ = pure (ps.zip us)) : Binds K fd ps [] := by
  obtain ⟨oc, od, kV, doc, pm, an, cdv, ct, osl, rfl, lk, hcd⟩ := F.ex
  exact .all (h kV doc pm an cdv ct)
theorem fun_mk {x qual : Str} {st : Stmt} {f : Addr} {oc : Value} {od an : Option Addr} {osl : Array (Option Value)} {kV doc pm cdv ct : Value} (l : K.lookup f = some ⟨oc, od, .func (PySem.W.fnOf x qual (defArgs st) (defBody st) (defScope st) .none kV doc pm an cdv ct), osl⟩)
    (c : PySem.W.codeIn K cdv qual = true) (k : PySem.W.keepIn K (.ref f) = true) : Fun K x qual st f (PySem.W.fnOf x qual (defArgs st) (defBody st) (defScope st) .none kV doc pm an cdv ct) := ⟨⟨oc, od, kV, doc, pm, an, cdv, ct, osl, rfl, l, c⟩, k⟩
end
section
variable {X : Cx}
theorem pv (i : Nat) {x : Str} {pos : Pos} (hN : X.N[i]? = some x := by rfl) (hv : Vis X.env.scope x := by first | exact Or.inl rfl | exact Or.inr (Or.inl rfl) | exact Or.inr (Or.inr rfl)) (hd : (x == ("__debug__" : Str)) = false := by decide)
    (hcd : (x == ("__classdict__" : Str)) = false := by decide) : PE X (.Name x pos) (tVar i) := pe_var hN hv hd hcd
end
def Same (H H' : Hp) : Prop := ∀ b o, H b = some o → H' b = some o
theorem Same.refl (H : Hp) : Same H H := fun _ _ h => h
theorem Same.trans {H H1 H2 : Hp} (a : Same H H1) (b : Same H1 H2) : Same H H2 := fun c o h => b c o (a c o h)
theorem Same.seq {K : PySem.W.Frag} {H H' : Hp} {a : Addr} {xs : List V} (e : Same H H') (h : SqL K H a xs) : SqL K H' a xs := by
  rcases h with (h | ⟨o, h⟩) | h
  · exact .inl (.inl (e _ _ h))
  · exact .inl (.inr ⟨o, e _ _ h⟩)
  · exact .inr h
end L2
set_option maxHeartbeats 4000000
namespace L2
open PySem PySem.Spec PyProof.Rows
abbrev sOf (l : List Nat) : Str := ⟨l.toArray⟩
theorem sOf_len (l : List Nat) : (sOf l).length = l.length := by simp [Str.length, sOf]
theorem sOf_cps (l : List Nat) : (sOf l).cps.toList = l := by simp [sOf]
theorem sOf_append (a b : List Nat) : sOf a ++ sOf b = sOf (a ++ b) := by
  apply PySem.Str.ext'
  rw [PySem.Str.cps_append]
  simp [sOf]
theorem sOf_inj {a b : List Nat} (h : sOf a = sOf b) : a = b := by
  have := congrArg (fun x => x.cps.toList) h
  simpa [sOf] using this
theorem of_sOf (x : Str) : x = sOf x.cps.toList := by cases x; simp [sOf]
section
variable {X : Cx}
theorem op_is_bl : OpR X (compareOp .Is) (fun x y H Q => ∃ c, y = .bl c ∧ Q (.bl (decide (x = .bl c))) H) := by
  intro pins s σ H x y v u Q I rx ry h
  obtain ⟨c, rfl, q⟩ := h
  cases ry
  cases x with
  | bl b => cases rx; exact is_bool (fin_bl I q (by cases b <;> cases c <;> simp))
  | non => cases rx; exact wpAny_pure (fin_bl I q (by simp))
  | int i => obtain ⟨t, rfl⟩ := rx; exact wpAny_pure (fin_bl I q (by simp))
  | str i => obtain ⟨t, rfl⟩ := rx; exact wpAny_pure (fin_bl I q (by simp))
  | byt i => obtain ⟨t, rfl⟩ := rx; exact wpAny_pure (fin_bl I q (by simp))
  | flt i => obtain ⟨t, rfl⟩ := rx; exact wpAny_pure (fin_bl I q (by simp))
  | ref a => cases rx; exact wpAny_pure (fin_bl I q (by simp))
  | ty a => cases rx; exact wpAny_pure (fin_bl I q (by simp))
theorem op_mul_str : OpR X (binaryOp .Mult) (fun x y H Q => ∃ c n, x = .str (sOf [c]) ∧ y = .int n ∧ 0 ≤ n ∧ n ≤ 100000 ∧ Q (.str (sOf (List.replicate n.toNat c))) H) := by
  intro pins s σ H x y v u Q I rx ry h
  obtain ⟨c, n, rfl, rfl, h0, h1, q⟩ := h
  obtain ⟨t, rfl⟩ := rx
  obtain ⟨t', rfl⟩ := ry
  have hl : (sOf [c]).length = 1 := sOf_len [c]
  refine SB.mul ?_ fun t' k => ?_
  · refine ⟨?_, fun _ _ => ?_, fun _ _ => ?_⟩
    · have e1 : decide (n < -(2 ^ 63 : Int)) = false := decide_eq_false (by omega)
      have e2 : decide (n ≥ 2 ^ 63) = false := decide_eq_false (by omega)
      rw [e1, e2]; rfl
    · rw [hl]
      have h2 : 1 ≤ n := by omega
      have : (1 : Int) ≤ (2 ^ 63 - 1) / n := (Int.le_ediv_iff_mul_le (by omega)).mpr (by omega)
      omega
    · rw [hl]
      unfold Builtin.Str.tooLong
      have := sizeLine_eq
      simp
      omega
  · have e : Txt.mul (sOf [c]) n = sOf (List.replicate n.toNat c) := by
      rw [of_sOf (Txt.mul (sOf [c]) n)]
      show sOf ((Txt.mul ⟨#[c]⟩ n).cps.toList) = _
      rw [mul_one_list]
    exact ⟨.str _, H, I.tok _, ⟨t', rfl⟩, by rw [e]; exact q⟩
end
end L2
namespace L2
open PySem PySem.Spec PyProof.Rows
section
variable {X : Cx}
def cutN (l : List Nat) (lo hi : Option Int) : List Nat := (l.drop (HT.sIx l.length 0 lo)).take (HT.sIx l.length l.length hi - HT.sIx l.length 0 lo)
theorem str_bounds (lo hi : Option Int) (n : Nat) : Builtin.Str.strSliceIndices lo hi 1 n = sliceRange ((HT.sIx n 0 lo : Nat) : Int) ((HT.sIx n n hi : Nat) : Int) 1 := by
  unfold Builtin.Str.strSliceIndices
  have e1 : (match lo with | none => (0 : Int) | some i => max 0 (min (if i < 0 then i + (n : Int) else i) n)) = ((HT.sIx n 0 lo : Nat) : Int) := by
    cases lo with
    | none => simp [HT.sIx]
    | some i => simp only [HT.sIx]; by_cases h : i < 0 <;> simp only [h, if_true, if_false] <;> omega
  have e2 : (match hi with | none => (n : Int) | some i => max 0 (min (if i < 0 then i + (n : Int) else i) n)) = ((HT.sIx n n hi : Nat) : Int) := by
    cases hi with
    | none => simp [HT.sIx]
    | some i => simp only [HT.sIx]; by_cases h : i < 0 <;> simp only [h, if_true, if_false] <;> omega
  simp only [show (1 : Int) > 0 by decide, if_true]
  rw [← e1, ← e2]
  cases lo <;> cases hi <;> rfl
theorem slice_cut (l : List Nat) (lo hi : Option Int) : Txt.slice (sOf l) lo hi = sOf (cutN l lo hi) := by
  have hn : (sOf l).length = l.length := sOf_len l
  have hk : (Builtin.Str.strSliceIndices lo hi 1 l.length).filterMap ((sOf l).cps[·]?) = cutN l lo hi := by
    rw [str_bounds, sliceRange_one, pick_run]
    simp [cutN]
  have hlen : (Builtin.Str.strSliceIndices lo hi 1 l.length).length = (cutN l lo hi).length := by
    rw [str_bounds, sliceRange_one]
    have h1 := HT.sIx_le l.length 0 (Nat.zero_le _) lo
    have h2 := HT.sIx_le l.length l.length (Nat.le_refl _) hi
    simp [cutN]
    omega
  unfold Txt.slice
  rw [hn]
  split
  · rename_i h
    have h : (Builtin.Str.strSliceIndices lo hi 1 l.length).length = l.length := by simpa using h
    have hl := hlen.symm.trans h
    have e : cutN l lo hi = l := by
      have h3 : (cutN l lo hi).length ≤ (l.drop (HT.sIx l.length 0 lo)).length := by unfold cutN; simp; omega
      have h4 : HT.sIx l.length 0 lo = 0 ∨ l.length = 0 := by
        rw [List.length_drop] at h3; omega
      rcases h4 with h4 | h4
      · unfold cutN at hl ⊢
        rw [h4] at hl ⊢
        rw [List.drop_zero] at hl ⊢
        rw [List.length_take] at hl
        exact List.take_of_length_le (by omega)
      · have : l = [] := List.length_eq_zero_iff.mp h4
        subst this
        simp [cutN]
    rw [e]
  · rw [hk]
theorem sl_str : SlR X (fun x lo hi H Q => ∃ l, x = .str (sOf l) ∧ l.length ≤ sizeLine ∧ Q (.str (sOf (cutN l lo hi))) H) := by
  intro pins s σ H x v vl vu lo hi sl Q I rx hs pl pu h
  obtain ⟨l, rfl, hz, q⟩ := h
  obtain ⟨t, rfl⟩ := rx
  obtain ⟨a1, rfl, e1⟩ : ∃ a : Option (Int × Tok), vl = partValue a ∧ a.map (·.1) = lo := by
    cases pl with
    | none => exact ⟨none, rfl, rfl⟩
    | int i t => exact ⟨some (i, t), rfl, rfl⟩
  obtain ⟨a2, rfl, e2⟩ : ∃ a : Option (Int × Tok), vu = partValue a ∧ a.map (·.1) = hi := by
    cases pu with
    | none => exact ⟨none, rfl, rfl⟩
    | int i t => exact ⟨some (i, t), rfl, rfl⟩
  have hle : (Txt.slice (sOf l) lo hi).length ≤ sizeLine := Nat.le_trans (Txt.slice_le _ _ _) (by rw [sOf_len]; exact hz)
  refine ⟨"str", _, PySem.F.slot_str_getitem.lookup, typeIs_str _ _ _, wpAny_getItem_str_slice (l := a1) (u := a2) (st := none) hs rfl ?_⟩
  subst e1 e2
  refine post_val_or_str ⟨hle, fun t' k => ⟨.str _, H, I.tok _, ⟨t', rfl⟩, ?_⟩⟩
  have := slice_cut l (a1.map (·.1)) (a2.map (·.1))
  unfold Txt.slice at this
  show Q (.str (if _ then _ else _)) H
  exact this ▸ q
theorem strsAre_of {ys : List (List Nat)} : ∀ {us : List Value}, Vals (ys.map fun y => V.str (sOf y)) us → StrsAre us (ys.map sOf) := by
  induction ys with
  | nil => intro us r; cases r; exact .nil
  | cons y ys ih =>
    intro us r
    cases r with
    | cons r1 r2 =>
      obtain ⟨t, e⟩ := r1
      subst e
      exact .cons _ t (ih r2)
theorem join_empty (ys : List (List Nat)) : Txt.join (sOf []) (ys.map sOf) = sOf ys.flatten := by
  have key : ∀ (r : List (List Nat)) (acc : List Nat), (r.map sOf).foldl (fun acc p => acc ++ (sOf []).cps ++ p.cps) acc.toArray = (acc ++ r.flatten).toArray := by
    intro r
    induction r with
    | nil => intro acc; simp
    | cons a r ih =>
      intro acc
      rw [List.map_cons, List.foldl_cons, List.flatten_cons, ← List.append_assoc, ← ih (acc ++ a)]
      simp [sOf]
  cases ys with
  | nil => rfl
  | cons a r =>
    show Str.mk (((r.map sOf)).foldl (fun acc p => acc ++ (sOf []).cps ++ p.cps) a.toArray) = _
    rw [key]
    rfl
theorem mt_join : MtR X "str.join" (fun x xs H Q => ∃ (p : Addr) (ys : List (List Nat)), x = .str (sOf []) ∧ xs = [.ref p] ∧ SqL X.K H p (ys.map fun y => V.str (sOf y)) ∧ ys.flatten.length ≤ 100000 ∧ Q (.str (sOf ys.flatten)) H) := by
  intro pins s σ H x xs v us Q I rx rs h
  obtain ⟨p, ys, rfl, rfl, hp, hl, q⟩ := h
  obtain ⟨t, rfl⟩ := rx
  obtain ⟨u, rfl, r1⟩ := vals1 rs
  cases r1
  obtain ⟨its, r, pl, hz⟩ := I.list hp
  refine join_list pl.isList (by simpa using strsAre_of r) ?_ fun t' k => ⟨.str _, H, I.tok _, ⟨t', rfl⟩, by rw [join_empty]; exact q⟩
  have e : ((ys.map sOf).map (·.length)).sum = ys.flatten.length := by
    rw [List.map_map, List.length_flatten]
    congr 1
    all_goals exact List.map_congr_left fun y _ => sOf_len y
  have e2 : (sOf []).length = 0 := sOf_len []
  rw [e, e2]
  omega
theorem call_isinst : CallR X (.builtin "isinstance") (fun xs H Q => ∃ x T t b, xs = [x, .ty T] ∧ TyOf X.K H x t ∧ PySem.W.kitOne X.K t (.type T) = some b ∧ Q (.bl b) H) := by
  intro pins s σ H xs us Q I r h
  obtain ⟨x, T, t, b, rfl, ty, e, q⟩ := h
  obtain ⟨u, w', rfl, rx, rT⟩ := vals2 r
  obtain rfl : w' = .type T := rT
  exact isinst_ok I rx ty e fun tk => ⟨.bl b, H, I.tok _, rfl, q⟩
end
end L2
namespace L2
open PySem PySem.Spec PyProof.Rows
def closeOf (env : Env) : List (Str × NameKind) → List (Str × Addr) → List (Str × Addr)
  | [], acc => acc
  | (n, k) :: r, acc => closeOf env r (if (k == .free) = true then (n, (env.cells.lookup n).getD 0) :: acc else acc)
theorem closureFor_eq {scope : Scope} {env : Env} (h : ∀ x ∈ scope.names, x.2 = .free → ∃ c, env.cells.lookup x.1 = some c) : closureFor scope env = pure (closeOf env scope.names []) := by
  simp only [closureFor]
  have key : ∀ (names : List (Str × NameKind)) (acc : List (Str × Addr)), (∀ x ∈ names, x.2 = .free → ∃ c, env.cells.lookup x.1 = some c) →
      (forIn names acc fun (x : Str × NameKind) (cs : List (Str × Addr)) => if (x.2 == .free) = true then (do let a ← cellOf env x.1; pure (ForInStep.yield ((x.1, a) :: cs))) else pure (ForInStep.yield cs)) = (pure (closeOf env names acc) : Sem _) := by
    intro names
    induction names with
    | nil => intro acc _; rfl
    | cons x r ih =>
      intro acc hx
      obtain ⟨n, k⟩ := x
      rw [List.forIn_cons]
      have hr : ∀ y ∈ r, y.2 = .free → ∃ c, env.cells.lookup y.1 = some c := fun y hy => hx y (List.mem_cons_of_mem _ hy)
      unfold closeOf
      by_cases hk : (k == NameKind.free) = true
      · obtain ⟨c, hc⟩ := hx (n, k) List.mem_cons_self (by simpa using hk)
        have hc : env.cells.lookup n = some c := hc
        simp only [hk, if_true]
        unfold cellOf
        simp only [hc, Option.getD_some]
        exact ih _ hr
      · simp only [hk, if_false]
        exact ih _ hr
  have := key scope.names [] h
  rw [this]
  rfl
theorem closeOf_lookup {env : Env} {x : Str} {c : Addr} : ∀ (names : List (Str × NameKind)) (acc : List (Str × Addr)), (∀ y ∈ names, y.2 = .free → ∃ c, env.cells.lookup y.1 = some c) → (closeOf env names acc).lookup x = some c →
    ((x, NameKind.free) ∈ names ∧ env.cells.lookup x = some c) ∨ acc.lookup x = some c
  | [], _, _, h => .inr h
  | (n, k) :: r, acc, hx, h => by
    unfold closeOf at h
    rcases closeOf_lookup r _ (fun y hy => hx y (List.mem_cons_of_mem _ hy)) h with ⟨q1, q2⟩ | q
    · exact .inl ⟨List.mem_cons_of_mem _ q1, q2⟩
    · by_cases hk : (k == NameKind.free) = true
      · rw [if_pos hk] at q
        have hk' : k = .free := by simpa using hk
        subst hk'
        rw [List.lookup_cons] at q
        cases hb : x == n with
        | true =>
          rw [hb] at q
          have e : x = n := beq_iff_eq.mp hb
          subst e
          obtain ⟨c', hc⟩ := hx (x, .free) List.mem_cons_self rfl
          have hc : env.cells.lookup x = some c' := hc
          rw [hc] at q
          simp at q
          subst q
          exact .inl ⟨List.mem_cons_self, hc⟩
        | false => rw [hb] at q; exact .inr q
      · rw [if_neg hk] at q; exact .inr q
theorem closeOf_acc {env : Env} {x : Str} {c : Addr} : ∀ (names : List (Str × NameKind)) (acc : List (Str × Addr)), acc.lookup x = some c → env.cells.lookup x = some c → (closeOf env names acc).lookup x = some c
  | [], _, h, _ => h
  | (n, k) :: r, acc, h, he => by
    unfold closeOf
    refine closeOf_acc r _ ?_ he
    by_cases hk : (k == NameKind.free) = true
    · rw [if_pos hk, List.lookup_cons]
      cases hb : x == n with
      | true =>
        have e : x = n := beq_iff_eq.mp hb
        subst e
        simp [he]
      | false => exact h
    · rw [if_neg hk]; exact h
theorem closeOf_has {env : Env} {x : Str} {c : Addr} : ∀ (names : List (Str × NameKind)) (acc : List (Str × Addr)), (x, NameKind.free) ∈ names → env.cells.lookup x = some c → (closeOf env names acc).lookup x = some c
  | (n, k) :: r, acc, h, he => by
    unfold closeOf
    rcases List.mem_cons.mp h with e | h
    · cases e
      exact closeOf_acc r _ (by simp [he]) he
    · exact closeOf_has r _ h he
theorem cellsFrom_app : ∀ (names : List (Str × NameKind)) (n : Nat) (acc : List (Str × Addr)), cellsFrom n names acc = cellsFrom n names [] ++ acc
  | [], _, _ => rfl
  | (x, k) :: r, n, acc => by
    unfold cellsFrom
    split
    · rw [cellsFrom_app r _ ((x, n) :: acc), cellsFrom_app r _ [(x, n)], List.append_assoc]; rfl
    · exact cellsFrom_app r n acc
theorem cellsFrom_names : ∀ (names : List (Str × NameKind)) (n : Nat) {x : Str} {c : Addr}, (x, c) ∈ cellsFrom n names [] → (x, NameKind.cell) ∈ names
  | [], _, _, _, h => by cases h
  | (y, k) :: r, n, x, c, h => by
    unfold cellsFrom at h
    split at h
    · rename_i hk
      rw [cellsFrom_app] at h
      rcases List.mem_append.mp h with h | h
      · exact List.mem_cons_of_mem _ (cellsFrom_names r _ h)
      · have e : (x, c) = (y, n) := by simpa using h
        cases e
        have hk' : k = .cell := by simpa using hk
        subst hk'
        exact List.mem_cons_self
    · exact List.mem_cons_of_mem _ (cellsFrom_names r _ h)
theorem newCompEnv {M : Model} {A : Around} {E : Value → Shared → Prop} {s : Shared} {scope : Scope} {env : Env} {cl : List (Str × Addr)} {Q : Env → Shared → Prop}
    (hQ : Q (newEnv scope s.heap.objs.size env.globals (cellsFrom (s.heap.objs.size + 1) scope.names cl) env.qual none .none (some env) builtinsNs) { s with heap := pushCells (s.heap.push { cls := .type "dict", data := .dict #[] }) scope.names }) :
    wpAny M A (newFunctionEnv scope env.globals cl [] env.qual none .none (some env)) Q E s := by
  simp only [newFunctionEnv, Option.isSome_some, if_true]
  refine wpAny_bind (wpAny_alloc ?_)
  refine wpAny_bind (wpAny_layCells _ (fun name kind cells => by cases hkc : kind == NameKind.cell <;> simp [hkc]) _ _ _ _ ?_)
  rw [show ({ s with heap := s.heap.push { cls := .type "dict", data := .dict #[] } } : Shared).heap.objs.size = s.heap.objs.size + 1 from Heap.size_push ..]
  simp only [List.forIn_nil]
  exact wpAny_bind (wpAny_pure (wpAny_pure hQ))
section
variable {prog : Program} {w : World} {A : Around} {R : Result → Shared → Prop} {s : Shared}
theorem compLoop_gen {elt target iter : Expr} {ifs : List Expr} {scope : Scope} {pos : Pos} {it acc : Value} {env : Env} (I : Nat → Shared → Prop)
    (turn : ∀ n s, I n s → wpAny (model prog w) A (pyNext it) (fun r s₁ => match r with
      | none => R (.ok .next) s₁
      | some v => wpAny (model prog w) A (letOwnedTupleGo target it v) (fun _ s₁' => wpAny (model prog w) A (assign target env v) (fun _ s₂ =>
          wpAny (model prog w) A (forIn ifs true fun c r => if r = true then do let ok ← isTrue c env (eval c env); pure (ForInStep.yield ok) else pure (ForInStep.yield r)) (fun ok s₃ =>
            if ok = true then wpAny (model prog w) A (eval elt env) (fun x s₄ =>
              wpAny (model prog w) A (call (.builtin "list.append") [acc, x]) (fun _ s₅ => ∃ m, m < n ∧ I m s₅) (fun _ _ => False) s₄) (fun _ _ => False) s₃
            else ∃ m, m < n ∧ I m s₃) (fun _ _ => False) s₂) (fun _ _ => False) s₁') (fun _ _ => False) s₁) (fun _ _ => False) s)
    (n : Nat) (h : I n s) : codeAny (model prog w) A (.compLoop (.ListComp elt [⟨target, iter, ifs, 0⟩] scope pos) 0 it acc env) R s := by
  refine codeAny_loop rfl I (fun n s hI => ?_) n h
  show wpAny _ A ((compTurn (.ListComp elt [⟨target, iter, ifs, 0⟩] scope pos) 0 it acc env).onRaise (fun x => do noteFrame x env; theTreesLotGoes x)) _ _ s
  refine wpAny_noted ?_
  rw [compTurn_list]
  refine wpAny_bind (wpAny_standAt (wpAny_bind (wpAny_mono (turn n s hI) (fun r s₁ h₁ => ?_) fun _ _ h' => h'.elim)))
  cases r with
  | none => exact wpAny_pure h₁
  | some v =>
    refine wpAny_bind (wpAny_mono h₁ (fun _ s₁' h₁' => ?_) fun _ _ h' => h'.elim)
    refine wpAny_bind (wpAny_mono h₁' (fun _ s₂ h₂ => wpAny_bind (wpAny_mono h₂ (fun ok s₃ h₃ => ?_) fun _ _ h' => h'.elim)) fun _ _ h' => h'.elim)
    cases ok with
    | true =>
      rw [if_pos rfl] at h₃
      exact wpAny_bind (wpAny_bind (wpAny_mono h₃ (fun x s₄ h₄ => wpAny_bind (wpAny_mono h₄ (fun _ s₅ h₅ => wpAny_pure (wpAny_pure ⟨rfl, h₅⟩)) fun _ _ h' => h'.elim)) fun _ _ h' => h'.elim))
    | false =>
      rw [if_neg Bool.false_ne_true] at h₃
      exact wpAny_pure ⟨rfl, h₃⟩
end
def ownFn (scope : Scope) (x : Str) : Bool := scope.names.lookup x == some .local || scope.names.lookup x == some .cell
def compCx (X : Cx) (scope : Scope) (N : List Str) (s : Shared) (H : Hp) (C : Addr) (fp : List Addr) : Cx :=
  { X with N := N, s₀ := s, H₀ := H, env := compEnvC scope (cellsFrom (C + 1) scope.names (closeOf X.env scope.names [])) C X.env, outer := X.stack, ex := fp, fn := ownFn scope, pn := [], xe := fun _ _ => False }
def capSt (cap : List (Option Nat)) (σ : St) : St := cap.map fun o => o.bind fun j => (σ[j]?).bind id
structure CompScope (X : Cx) (scope : Scope) (N : List Str) (cap : List (Option Nat)) : Prop where
  kind : scope.kind = .function
  nd : N.Nodup
  len : cap.length = N.length
  uniq : (scope.names.map (·.1)).Nodup
  free : ∀ x ∈ scope.names, x.2 = .free → (X.env.kindOf x.1 = some .cell ∨ X.env.kindOf x.1 = some .free)
  cap : ∀ (k : Nat) (x : Str) (j : Nat), N[k]? = some x → cap[k]? = some (some j) → X.N[j]? = some x ∧ (x, NameKind.free) ∈ scope.names
theorem lookup_nodup {α : Type} : ∀ {l : List (Str × α)} {x : Str} {k : α}, (l.map (·.1)).Nodup → (x, k) ∈ l → l.lookup x = some k
  | (y, j) :: r, x, k, nd, h => by
    obtain ⟨n1, n2⟩ := List.nodup_cons.mp (show (y :: r.map (·.1)).Nodup from nd)
    rw [List.lookup_cons]
    rcases List.mem_cons.mp h with e | h
    · cases e; simp
    · have : (x == y) = false := beq_eq_false_iff_ne.mpr fun e => n1 (e ▸ List.mem_map.mpr ⟨(x, k), h, rfl⟩)
      rw [this]
      exact lookup_nodup n2 h
theorem relabel_lookup {env : Env} : ∀ {names : List (Str × NameKind)} {x : Str}, (names.map fun (p : Str × NameKind) => if (p.2 == NameKind.free && env.scope.kind == .function && env.kindOf p.1 == some .cell) = true then (p.1, NameKind.cell) else (p.1, p.2)).lookup x =
    (names.lookup x).map fun k => if (k == NameKind.free && env.scope.kind == .function && env.kindOf x == some .cell) = true then .cell else k
  | [], _ => rfl
  | (n, k) :: r, x => by
    rw [List.map_cons]
    have ih := @relabel_lookup env r x
    by_cases hx : x = n
    · subst hx
      by_cases hc : (k == NameKind.free && env.scope.kind == .function && env.kindOf x == some .cell) = true
      · simp only [hc, if_true, List.lookup_cons, beq_self_eq_true, Option.map_some]
      · rw [if_neg hc, List.lookup_cons, List.lookup_cons, beq_self_eq_true]; simp only [Option.map_some]; rw [if_neg hc]
    · have hb : (x == n) = false := beq_eq_false_iff_ne.mpr hx
      by_cases hc : (k == NameKind.free && env.scope.kind == .function && env.kindOf n == some .cell) = true
      · simp only [hc, if_true, List.lookup_cons, hb]; exact ih
      · rw [if_neg hc, List.lookup_cons, List.lookup_cons, hb]; exact ih
end L2
namespace L2
open PySem PySem.Spec PyProof.Rows
def PTs (X : Cx) (ifs : List Expr) (t : TT) : Prop :=
  ∀ (pins : List (Addr × Obj)) (s : Shared) (σ : St) (H : Hp) (Q : Bool → Hp → Prop), Inv X pins σ H s → t σ H Q →
    wpAny (model X.prog X.w) X.A (forIn ifs true fun c r => if r = true then do let ok ← isTrue c X.env (eval c X.env); pure (ForInStep.yield ok) else pure (ForInStep.yield r)) (TP X pins σ Q) X.xe s
def tYes : TT := fun _ H Q => Q true H
theorem pts_nil {X : Cx} : PTs X [] tYes := fun _ _ _ H _ I h => wpAny_tests_nil ⟨H, I, h⟩
theorem pts_one {X : Cx} {c : Expr} {t : TT} (h : PT X c t) : PTs X [c] t := fun pins s σ H Q I hq => wpAny_tests_one (h pins s σ H Q I hq)
def Keep : St → St → Prop
  | [], _ => True
  | none :: a, _ :: b => Keep a b
  | some v :: a, some u :: b => v = u ∧ Keep a b
  | _, _ => False
theorem Keep.get : ∀ {a b : St} {j : Nat} {v : V}, Keep a b → a[j]? = some (some v) → b[j]? = some (some v)
  | [], _, _, _, _, h => by simp at h
  | none :: a, _ :: b, 0, _, _, h => by simp at h
  | none :: a, _ :: b, j + 1, v, k, h => Keep.get (j := j) (a := a) (b := b) k h
  | some w :: a, some u :: b, 0, v, k, h => by
    have e : w = u := k.1
    subst e
    exact h
  | some w :: a, some u :: b, j + 1, v, k, h => Keep.get (j := j) (a := a) (b := b) k.2 h
  | none :: _, [], _, _, k, _ => k.elim
  | some _ :: _, [], _, _, k, _ => k.elim
  | some _ :: _, none :: _, _, _, k, _ => k.elim
def CompW (cap : List (Option Nat)) (g : TG) (tf : TT) (te : TE) (σ : St) (H1 : Hp) (Q : VK) (J : It) : Prop := ∃ W : Nat → Nat → List V → Hp → Prop, (∃ m, W 0 m [] H1) ∧ ∀ i m ys H, W i m ys H → ys.length < sizeLine ∧
  ((J.stop i H ∧ ∀ D, H D = none → Q (.ref D) (upd H D (.lst ys))) ∨
   (J.go i H ∧ ∃ N : List V → Hp → Prop, (∀ ys' H', N ys' H' → ∃ m', m' < m ∧ W (i + 1) m' ys' H') ∧ ∀ x H', J.yld i H x H' → g x (capSt cap σ) H' fun σ2 H2 => Keep (capSt cap σ) σ2 ∧ tf σ2 H2 fun b H3 => if b = true then te σ2 H3 fun y H4 => N (ys ++ [y]) H4 else N ys H3))
def tComp (cap : List (Option Nat)) (wi : TI) (g : TG) (tf : TT) (te : TE) : TE := fun σ H Q => wi σ H fun J H1 => CompW cap g tf te σ H1 Q J
theorem comp_cells {X : Cx} {scope : Scope} {C : Addr} {x : Str} {c : Addr} (frc : ∀ x ∈ scope.names, x.2 = .free → ∃ c, X.env.cells.lookup x.1 = some c)
    (h : (cellsFrom (C + 1) scope.names (closeOf X.env scope.names [])).lookup x = some c) : (x, c) ∈ cellsFrom (C + 1) scope.names [] ∨ ((x, NameKind.free) ∈ scope.names ∧ X.env.cells.lookup x = some c) := by
  rw [cellsFrom_app, List.lookup_append] at h
  cases e : (cellsFrom (C + 1) scope.names []).lookup x with
  | some d =>
    rw [e] at h
    have h : some d = some c := h
    cases h
    exact .inl (PySem.mem_of_lookup e)
  | none =>
    rw [e] at h
    have h : (closeOf X.env scope.names []).lookup x = some c := h
    rcases closeOf_lookup _ _ frc h with q | q
    · exact .inr q
    · cases q
theorem comp_has {X : Cx} {scope : Scope} {C : Addr} {x : Str} {c : Addr} (uq : (scope.names.map (·.1)).Nodup) (hx : (x, NameKind.free) ∈ scope.names) (hc : X.env.cells.lookup x = some c) :
    (cellsFrom (C + 1) scope.names (closeOf X.env scope.names [])).lookup x = some c := by
  rw [cellsFrom_app, List.lookup_append]
  cases e : (cellsFrom (C + 1) scope.names []).lookup x with
  | some d =>
    have h1 := lookup_nodup uq (cellsFrom_names _ _ (PySem.mem_of_lookup e))
    have h2 := lookup_nodup uq hx
    rw [h1] at h2; cases h2
  | none => exact closeOf_has _ _ hx hc
section
variable {X : Cx} {scope : Scope} {N : List Str} {cap : List (Option Nat)} {pins : List (Addr × Obj)} {σ : St} {H : Hp} {s : Shared} {C : Addr} {fp : List Addr}
theorem compCx_ok {h4 : Heap} (S : CompScope X scope N cap) (I : Inv X pins σ H s) (hC : s.heap.objs.size ≤ C) (ck : CellsOk h4 (C + 1) (cellsFrom (C + 1) scope.names []))
    (hf : ∀ b ∈ fp, FpOk X pins H b) (hlt : ∀ b ∈ fp, b < C) : (compCx X scope N s H C fp).Ok := by
  have frc : ∀ x ∈ scope.names, x.2 = .free → ∃ c, X.env.cells.lookup x.1 = some c := fun x hx hk => I.ok.has x.1 (S.free x hx hk)
  have old : ∀ x c, X.env.cells.lookup x = some c → c < C := fun x c e => by
    obtain ⟨v, q⟩ := I.cell x c e
    exact Nat.lt_of_lt_of_le q.lt hC
  have own : ∀ x c, (x, c) ∈ cellsFrom (C + 1) scope.names [] → C < c := fun x c e => (ck.empty x c e).2
  refine ⟨I.ok.mod, S.kind, I.ok.glob, I.ok.blt, hC, fun x y c h1 h2 => ?_, fun x hx => ?_, fun x c hfn h => ?_, I.ok.hd, I.ok.frames, .inl rfl, fun b hb => ⟨Nat.ne_of_lt (hlt b hb), fun x c h => ?_⟩, I.bs, Nat.le_trans I.ok.bsz I.sz, fun b o e hb => ?_, fun b hb z => ?_, I.stack, I.stkFree⟩
  · rcases comp_cells frc h1 with a | ⟨a1, a2⟩ <;> rcases comp_cells frc h2 with b | ⟨b1, b2⟩
    · exact name_of_addr ck.apart a b
    · exact absurd (Nat.lt_trans (own x c a) (old y c b2)) (Nat.lt_irrefl _)
    · exact absurd (Nat.lt_trans (own y c b) (old x c a2)) (Nat.lt_irrefl _)
    · exact I.ok.inj x y c a2 b2
  · have hx : (relabel scope X.env).names.lookup x = some .cell ∨ (relabel scope X.env).names.lookup x = some .free := hx
    have e : (relabel scope X.env).names.lookup x = _ := relabel_lookup (env := X.env) (names := scope.names) (x := x)
    rw [e] at hx
    cases q : scope.names.lookup x with
    | none => rw [q] at hx; rcases hx with z | z <;> cases z
    | some k =>
      have hm := PySem.mem_of_lookup q
      by_cases hk : k = .free
      · subst hk
        obtain ⟨c, hc⟩ := frc _ hm rfl
        exact ⟨c, comp_has S.uniq hm hc⟩
      · have hk' : (k == NameKind.free) = false := by simpa using hk
        rw [q] at hx
        simp only [Option.map_some, hk', Bool.false_and, Bool.false_eq_true, if_false] at hx
        have hkc : k = .cell := by
          rcases hx with z | z
          · exact Option.some.inj z
          · exact absurd (Option.some.inj z) hk
        subst hkc
        exact Option.isSome_iff_exists.mp (PySem.W.cellsFrom_some scope.names (C + 1) _ (.inl q))
  · rcases comp_cells frc h with a | ⟨a1, a2⟩
    · exact Nat.le_trans hC (Nat.le_of_lt (own x c a))
    · have q := lookup_nodup S.uniq a1
      have z : ownFn scope x = true := hfn
      unfold ownFn at z
      rw [q] at z
      exact absurd z (by decide)
  · rcases comp_cells frc h with a | ⟨a1, a2⟩
    · exact Nat.ne_of_gt (Nat.lt_trans (hlt b hb) (own x c a))
    · exact (hf b hb).2.2.2.2.1 x c a2
  · rcases (hf b hb).2.2.2.1 with z | z
    · exact I.ok.noex b o e z
    · exact absurd (Nat.lt_of_lt_of_le (Nat.lt_of_lt_of_le (Heap.lt_size e) I.ok.bsz) z) (Nat.lt_irrefl _)
  · rcases List.mem_cons.mp (I.stkSub b z) with q | q
    · exact (hf b hb).2.1 q
    · exact (hf b hb).2.2.1 q
theorem comp_start {s4 : Shared} (S : CompScope X scope N cap) (I : Inv X pins σ H s) (hC : s.heap.objs.size ≤ C) (ck : CellsOk s4.heap (C + 1) (cellsFrom (C + 1) scope.names []))
    (hf : ∀ b ∈ fp, FpOk X pins H b) (hlt : ∀ b ∈ fp, b < C) (h4 : ∃ h' tk, s4 = { s with heap := h', toks := tk }) (hn : s4.heap.Ns C fun _ => none) (hk : ∀ b o, s.heap.get? b = some o → s4.heap.get? b = some o) :
    Inv (compCx X scope N s H C fp) [] (capSt cap σ) H s4 := by
  have frc : ∀ x ∈ scope.names, x.2 = .free → ∃ c, X.env.cells.lookup x.1 = some c := fun x hx hk => I.ok.has x.1 (S.free x hx hk)
  obtain ⟨h', tk, rfl⟩ := h4
  refine ⟨compCx_ok S I hC ck hf hlt, rfl, I.bare, Un.kept hk, ⟨_, hn, fun i x v e1 e2 e3 => ?_⟩, fun x c h => ?_, I.hok.fresh hC, fun x c h => ?_, fun p hp => absurd (show p ∈ ([] : List (Addr × Obj)) from hp) (by simp), I.hok.kept hk, ?_⟩
  · have e1 : N[i]? = some x := e1
    unfold capSt at e2
    rw [List.getElem?_map] at e2
    cases q : cap[i]? with
    | none => rw [q] at e2; cases e2
    | some o =>
      cases o with
      | none => rw [q] at e2; cases e2
      | some j =>
        rw [q] at e2
        obtain ⟨hj, hm⟩ := S.cap i x j e1 q
        have e2 : σ[j]?.bind id = some v := Option.some.inj e2
        have e2' : σ[j]? = some (some v) := by
          cases z : σ[j]? with
          | none => rw [z] at e2; cases e2
          | some o => rw [z] at e2; exact congrArg some e2
        have kd := S.free _ hm rfl
        obtain ⟨m, _, hl⟩ := I.loc
        obtain ⟨u, r, lk⟩ := hl j x v hj e2' (by rcases kd with z | z; exact .inr (.inl z); exact .inr (.inr z))
        refine ⟨u, r, .inr ?_⟩
        rcases lk with ⟨z, _⟩ | ⟨_, c, hc, hcell⟩
        · rcases kd with q | q <;> · rw [show X.env.kindOf x = _ from q] at z; cases z
        · refine ⟨?_, c, comp_has S.uniq hm hc, hcell.keeps hk⟩
          have e : (relabel scope X.env).names.lookup x = _ := relabel_lookup (env := X.env) (names := scope.names) (x := x)
          rw [lookup_nodup S.uniq hm] at e
          simp only [Option.map_some] at e
          show (relabel scope X.env).names.lookup x = some .cell ∨ (relabel scope X.env).names.lookup x = some .free
          rw [e]
          split
          · exact .inl rfl
          · exact .inr rfl
  · rcases comp_cells frc h with a | ⟨a1, a2⟩
    · exact ⟨_, (ck.empty x c a).1⟩
    · obtain ⟨v, q⟩ := I.cell x c a2
      exact ⟨v, q.keeps hk⟩
  · rcases comp_cells frc h with a | ⟨a1, a2⟩
    · exact I.hok.fresh (Nat.le_trans hC (Nat.le_of_lt (ck.empty x c a).2))
    · exact I.freeC x c a2
  · show (capSt cap σ).length = N.length
    unfold capSt
    rw [List.length_map, S.len]
end
end L2
namespace L2
open PySem PySem.Spec PyProof.Rows
abbrev lObj (its : List Value) (k : Nat) : Obj := { cls := .type "list", data := .seq its.toArray k }
section
variable {X : Cx} {scope : Scope} {N : List Str} {cap : List (Option Nat)} {tg iter elt : Expr} {ifs : List Expr} {pos : Pos} {wi : TI} {g : TG} {tf : TT} {te : TE}
theorem comp_core (S : CompScope X scope N cap) (hc : X.calm = true)
    (hg : ∀ s H C fp, PG (compCx X scope N s H C fp) tg g) (hf : ∀ s H C fp, PTs (compCx X scope N s H C fp) ifs tf) (he : ∀ s H C fp, PE (compCx X scope N s H C fp) elt te)
    {pins : List (Addr × Obj)} {σ : St} {H2 : Hp} {s2 : Shared} {it : Addr} {fp : List Addr} {tn : Nat → Heap → Prop} {J : It} {Qv : VK} {E : Value → Shared → Prop} {RR : Value → Addr → Result → Shared → Prop}
    (I2 : Inv X pins σ H2 s2) (T : Turn X.prog X.w X.K tg J fp it tn) (st2 : tn 0 s2.heap) (f2 : ∀ b ∈ fp, FpOk X pins H2 b) {W : Nat → Nat → List V → Hp → Prop} (w0 : ∃ m, W 0 m [] H2)
    (turn : ∀ i m ys H, W i m ys H → ys.length < sizeLine ∧ ((J.stop i H ∧ ∀ D, H D = none → Qv (.ref D) (upd H D (.lst ys))) ∨
      (J.go i H ∧ ∃ N : List V → Hp → Prop, (∀ ys' H', N ys' H' → ∃ m', m' < m ∧ W (i + 1) m' ys' H') ∧ ∀ x H', J.yld i H x H' → g x (capSt cap σ) H' fun σ2 H2 => Keep (capSt cap σ) σ2 ∧ tf σ2 H2 fun b H3 => if b = true then te σ2 H3 fun y H4 => N (ys ++ [y]) H4 else N ys H3)))
    (fin : ∀ (D C : Addr) (σ' : St) (H' : Hp) (s' : Shared) (its : List Value) (k : Nat) (ys : List V), s2.heap.objs.size ≤ D → s2.heap.objs.size ≤ C → D ≠ C → Inv (compCx X scope N s2 H2 C fp) [(D, lObj its k)] σ' H' s' → Vals ys its → ys.length ≤ sizeLine →
      Qv (.ref D) (upd H' D (.lst ys)) → RR (.ref D) C (.ok .next) s') :
    wpAny (model X.prog X.w) X.A (newList []) (fun acc s₃ => wpAny (model X.prog X.w) X.A (newFunctionEnv scope X.env.globals (closeOf X.env scope.names []) [] X.env.qual none .none (some X.env)) (fun cenv s₄ =>
      codeAny (model X.prog X.w) X.A (.compStart (.ListComp elt [⟨tg, iter, ifs, 0⟩] scope pos) 0 (.ref it) acc { cenv with scope := relabel scope X.env }) (RR acc cenv.locals) s₄) E s₃) E s2 := by
  refine wpAny_newObj_type (newCompEnv ?_)
  generalize hD : s2.heap.objs.size = D
  generalize hH3 : s2.heap.push { cls := .type "list", dict := none, data := .seq ([] : List Value).toArray } = h3
  have hz3 : h3.objs.size = D + 1 := by rw [← hH3, Heap.size_push, hD]
  dsimp only
  have eC : ({ s2 with heap := h3 } : Shared).heap.objs.size = D + 1 := hz3
  rw [show h3.objs.size = D + 1 from hz3]
  generalize hH4 : pushCells (h3.push { cls := .type "dict", data := .dict #[] }) scope.names = h4
  have hz3' : (h3.push { cls := .type "dict", data := .dict #[] }).objs.size = D + 1 + 1 := by rw [Heap.size_push, hz3]
  have ck : CellsOk h4 (D + 1 + 1) (cellsFrom (D + 1 + 1) scope.names []) := by
    have := cellsFrom_ok scope.names (h3.push { cls := .type "dict", data := .dict #[] }) (D + 1 + 1) [] ⟨fun _ _ hm => (nomatch hm), List.Pairwise.nil⟩ (by rw [hz3']; exact Nat.le_refl _)
    rw [hz3', hH4] at this
    exact this
  have k23 : ∀ b o, s2.heap.get? b = some o → h3.get? b = some o := fun b o e => by rw [← hH3]; exact Heap.get?_push_of_some _ e
  have k34 : ∀ b o, h3.get? b = some o → h4.get? b = some o := fun b o e => by rw [← hH4]; exact pushCells_keeps _ _ b o (Heap.get?_push_of_some _ e)
  have hD4 : h4.get? D = some (lObj [] 0) := k34 _ _ (by rw [← hH3, ← hD]; exact Heap.get?_push_size _ rfl)
  have hn4 : h4.Ns (D + 1) fun _ => none := by
    rw [← hH4, ← hz3]
    exact (Heap.Ns.new h3 (.type "dict")).keeps (pushCells_keeps _ _)
  have fpD : ∀ b ∈ fp, b < D := fun b hb => by
    obtain ⟨o, e, _⟩ := T.obj _ _ st2 b hb
    rw [← hD]; exact Heap.lt_size e
  have hlt : ∀ b ∈ fp, b < D + 1 := fun b hb => Nat.lt_succ_of_lt (fpD b hb)
  have hDC : s2.heap.objs.size ≤ D + 1 := by rw [hD]; exact Nat.le_succ _
  have hDs : s2.heap.objs.size ≤ D := by rw [hD]; exact Nat.le_refl _
  have IC : Inv (compCx X scope N s2 H2 (D + 1) fp) [] (capSt cap σ) H2 { s2 with heap := h4 } :=
    comp_start S I2 hDC ck f2 hlt ⟨_, _, rfl⟩ hn4 fun b o e => k34 b o (k23 b o e)
  have okC := IC.ok
  have nfs : ∀ {b : Addr}, s2.heap.objs.size ≤ b → b ∉ frs X.stack := fun {b} hb hm => by
    obtain ⟨_, o, ho, _⟩ := I2.stack.mem hm
    exact absurd (Nat.lt_of_lt_of_le (Heap.lt_size ho) hb) (Nat.lt_irrefl _)
  have frc : ∀ x ∈ scope.names, x.2 = .free → ∃ c, X.env.cells.lookup x.1 = some c := fun x hx hk => I2.ok.has x.1 (S.free x hx hk)
  have cellsD : ∀ x c, (compCx X scope N s2 H2 (D + 1) fp).env.cells.lookup x = some c → c ≠ D := fun x c e => by
    rcases comp_cells frc e with a | ⟨_, a⟩
    · have q : D + 1 + 1 ≤ c := (ck.empty x c a).2
      exact Nat.ne_of_gt (Nat.lt_of_lt_of_le (Nat.lt_of_lt_of_le (Nat.lt_succ_self D) (Nat.le_succ _)) q)
    · obtain ⟨v, q⟩ := I2.cell x c a
      have := q.lt
      rw [hD] at this
      exact Nat.ne_of_lt this
  have fpO : ∀ {H' : Hp} {its : List Value} {k : Nat}, (∀ b ∈ fp, H' b = none) → ∀ b ∈ fp, FpOk (compCx X scope N s2 H2 (D + 1) fp) [(D, lObj its k)] H' b := fun {H' its k} hn b hb =>
    ⟨hn b hb, Nat.ne_of_lt (hlt b hb), okC.exfs b hb, .inl hb, (okC.exf b hb).2, fun p hp => by
      have e : p = (D, lObj its k) := by simpa [compCx] using hp
      subst e
      exact Nat.ne_of_gt (fpD b hb)⟩
  have pinD : ∀ {σ' : St} {H' : Hp} {s' : Shared} {its : List Value} {k : Nat}, Inv (compCx X scope N s2 H2 (D + 1) fp) [] σ' H' s' → s'.heap.get? D = some (lObj its k) → H' D = none → Inv (compCx X scope N s2 H2 (D + 1) fp) [(D, lObj its k)] σ' H' s' := fun {σ' H' s' its k} J e n =>
    J.pins_of fun p hp => by
      have e' : p = (D, lObj its k) := by simpa using hp
      subst e'
      exact ⟨e, n, Nat.ne_of_lt (Nat.lt_succ_self _), nfs hDs, fun v z => by
        have z' : Data.seq its.toArray k = Data.cell v := z
        cases z'⟩
  have loop : codeAny (model X.prog X.w) X.A (.compLoop (.ListComp elt [⟨tg, iter, ifs, 0⟩] scope pos) 0 (.ref it) (.ref D) (compCx X scope N s2 H2 (D + 1) fp).env) (RR (.ref D) (D + 1)) { s2 with heap := h4 } := by
    obtain ⟨m0, w0⟩ := w0
    refine compLoop_gen (fun n s' => ∃ i ys its k σ' H', Inv (compCx X scope N s2 H2 (D + 1) fp) [(D, lObj its k)] σ' H' s' ∧ tn i s'.heap ∧ (∀ b ∈ fp, H' b = none) ∧ Vals ys its ∧ (∀ (j : Nat) (v : V), (capSt cap σ)[j]? = some (some v) → σ'[j]? = some (some v)) ∧ W i n ys H') ?_ m0
      ⟨0, [], [], 0, capSt cap σ, H2, pinD IC hD4 (I2.hok.fresh hDs), T.keep _ _ _ st2 fun b hb o e => k34 b o (k23 b o e), fun b hb => (f2 b hb).1, .nil, fun _ _ e => e, w0⟩
    rintro n s3 ⟨i, ys, its, k, σ3, H3, I3, st3, fr3, rv, kp, w3⟩
    obtain ⟨hyl, tr⟩ := turn i n ys H3 w3
    have pin3 := I3.pin (D, lObj its k) (List.mem_append_right _ List.mem_cons_self)
    rcases tr with ⟨stop, qn⟩ | ⟨go, NN, hNN, step⟩
    · refine thn (T.done (compCx X scope N s2 H2 (D + 1) fp) rfl rfl rfl hc i _ s3 σ3 H3 _ I3 (fpO fr3) st3 stop) fun r s4 ⟨hr, I4⟩ => ?_
      subst hr
      exact fin D (D + 1) σ3 H3 s4 its k ys hDs hDC (Nat.ne_of_lt (Nat.lt_succ_self _)) I4 rv (Nat.le_of_lt hyl) (qn D pin3.2.1)
    · have I3' : Inv (compCx X scope N s2 H2 (D + 1) fp) [(D, lObj its k)] (capSt cap σ) H3 s3 := I3.weak (by rw [I3.len, IC.len]) kp
      refine thn (T.item (compCx X scope N s2 H2 (D + 1) fp) rfl rfl rfl hc i _ s3 _ H3 _ I3' (fpO fr3) st3 go) fun r s4 ⟨u, hr, h4⟩ => ?_
      subst hr
      refine thn h4 fun _ s5 ⟨x, H5, I5, r5, y5, st5, fr5⟩ => ?_
      have I5' := I5.pinned (fpO fr5) (T.obj _ _ st5)
      refine thn (hg _ _ _ _ _ s5 _ H5 x u _ I5' r5 (step x H5 y5)) fun _ s6 ⟨σ6, H6, I6, kp6, q6⟩ => ?_
      refine thn (hf _ _ _ _ _ s6 σ6 H6 _ I6 q6) fun ok s7 ⟨H7, I7, q7⟩ => ?_
      have back : ∀ {s8 : Shared} {H8 : Hp}, Inv (compCx X scope N s2 H2 (D + 1) fp) ([(D, lObj its k)] ++ pinsAt fp s5.heap) σ6 H8 s8 → tn (i + 1) s8.heap ∧ (∀ b ∈ fp, H8 b = none) ∧ s8.heap.get? D = some (lObj its k) ∧ H8 D = none := fun {s8 H8} I8 => by
        have at_ : ∀ b ∈ fp, ∀ o, s5.heap.get? b = some o → s8.heap.get? b = some o ∧ H8 b = none := fun b hb o e => by
          have z := I8.pin (b, o) (List.mem_append_right _ (List.mem_append_right _ (mem_pinsAt hb e)))
          exact ⟨z.1, z.2.1⟩
        have pd := I8.pin (D, lObj its k) (List.mem_append_right _ (List.mem_append_left _ List.mem_cons_self))
        refine ⟨T.keep _ _ _ st5 fun b hb o e => (at_ b hb o e).1, fun b hb => ?_, pd.1, pd.2.1⟩
        obtain ⟨o, e, d⟩ := T.obj _ _ st5 b hb
        exact (at_ b hb o e).2
      cases ok with
      | false =>
        rw [if_neg Bool.false_ne_true] at q7 ⊢
        obtain ⟨m', hm, w'⟩ := hNN _ _ q7
        obtain ⟨t7, f7, d7, n7⟩ := back I7
        exact ⟨m', hm, i + 1, ys, its, k, σ6, H7, I7.unpinned, t7, f7, rv, fun j v e => Keep.get kp6 e, w'⟩
      | true =>
        rw [if_pos rfl] at q7 ⊢
        refine thn (he _ _ _ _ _ s7 σ6 H7 _ I7 q7) fun y8 s8 ⟨y, H8, I8, r8, q8⟩ => ?_
        obtain ⟨m', hm, w'⟩ := hNN _ _ q8
        obtain ⟨t8, f8, d8, n8⟩ := back I8
        refine append_at (D := D) (its := its.toArray) (n := k) d8 (fun h' hs' hD' => ?_) (by rw [List.size_toArray, ← rv.length]; exact Nat.le_of_lt hyl)
        have J0 : Inv (compCx X scope N s2 H2 (D + 1) fp) [] σ6 H8 s8 := I8.pins_of fun p hp => by cases hp
        have J1 : Inv (compCx X scope N s2 H2 (D + 1) fp) [] σ6 H8 { s8 with heap := h' } := J0.turned (it := D) (t' := s8.toks) (fun b o hb e => (hs'.2 b hb).trans e) n8 (Nat.ne_of_lt (Nat.lt_succ_self _)) (.inr hDs) cellsD fun p hp => by
          have : p ∈ ([] : List (Addr × Obj)) := hp
          cases this
        refine ⟨m', hm, i + 1, ys ++ [y], its ++ [y8], k + 1, σ6, H8, pinD J1 (by simpa using hD') n8, T.keep _ _ _ t8 fun b hb o e => (hs'.2 b (Nat.ne_of_lt (fpD b hb))).trans e, f8, rv.append (.cons r8 .nil), fun j v e => Keep.get kp6 e, w'⟩
  exact codeAny_compStart_list loop (wpAny_mono (T.self _ 0 _ _ _ (T.keep _ _ _ st2 fun b hb o e => k34 b o (k23 b o e)) loop) (fun _ _ h => h) fun _ _ h => h)
end
end L2
namespace L2
open PySem PySem.Spec PyProof.Rows
section
variable {X : Cx} {scope : Scope} {N : List Str} {cap : List (Option Nat)} {tg iter elt : Expr} {ifs : List Expr} {pos : Pos} {wi : TI} {g : TG} {tf : TT} {te : TE}
theorem comp_out {pins : List (Addr × Obj)} {σ σ' : St} {H2 H' : Hp} {s2 s' : Shared} {fp : List Addr} {D C : Addr} {its : List Value} {k : Nat} {ys : List V} {h' : Heap} (I2 : Inv X pins σ H2 s2) (f2 : ∀ b ∈ fp, FpOk X pins H2 b)
    (hD : s2.heap.objs.size ≤ D) (hC : s2.heap.objs.size ≤ C) (hDC : D ≠ C) (I' : Inv (compCx X scope N s2 H2 C fp) [(D, lObj its k)] σ' H' s') (rv : Vals ys its) (hl : ys.length ≤ sizeLine) (hs : Heap.SameBut C s'.heap h') :
    Inv X pins σ (upd H' D (.lst ys)) { s' with heap := h' } := by
  have pd := I'.pin (D, lObj its k) (List.mem_append_right _ List.mem_cons_self)
  have nD : H' D = none := pd.2.1
  have nC : H' C = none := I'.free
  have lt2 : ∀ b o, s2.heap.get? b = some o → b ≠ D ∧ b ≠ C := fun b o e => ⟨Nat.ne_of_lt (Nat.lt_of_lt_of_le (Heap.lt_size e) hD), Nat.ne_of_lt (Nat.lt_of_lt_of_le (Heap.lt_size e) hC)⟩
  have hk : ∀ b o, b ≠ C → s'.heap.get? b = some o → h'.get? b = some o := fun b o hb e => (hs.2 b hb).trans e
  have B : Un (frs X.stack) fp H2 H' s2.heap s'.heap := I'.base
  have tr : ∀ b u, H' b = some u → b ≠ D ∧ b ≠ C := fun b u e => ⟨fun z => (by rw [z, nD] at e; cases e), fun z => (by rw [z, nC] at e; cases e)⟩
  refine I2.call' (ch := fp) I'.os ⟨fun b o e n hb hx => ?_, fun b o e n hb hx => ?_, fun b o e n hx => ?_, fun b o e hx => ?_, fun b xs e => ?_, fun b o u e => ?_, fun b ps e => ?_⟩ (fun b u e => ?_) I'.bare fun b hb => ⟨(f2 b hb).2.2.2.1, (f2 b hb).2.1, (f2 b hb).2.2.2.2.1, (f2 b hb).2.2.2.2.2⟩
  · exact hk b o (lt2 b o e).2 (B.keep b o e n hb hx)
  · obtain ⟨sl, q⟩ := B.slot b o e n hb hx
    exact ⟨sl, hk b _ (lt2 b o e).2 q⟩
  · rw [upd_ne (lt2 b o e).1]; exact B.free b o e n hx
  · obtain ⟨o', q⟩ := B.there b o e hx
    exact ⟨o', hk b _ (lt2 b o e).2 q⟩
  · rw [upd_ne (tr b _ (B.tups b xs e)).1]; exact B.tups b xs e
  · rw [upd_ne (tr b _ (B.frzs b o u e)).1]; exact B.frzs b o u e
  · obtain ⟨more, q⟩ := B.tbls b ps e
    exact ⟨more, by rw [upd_ne (tr b _ q).1]; exact q⟩
  · by_cases hb : b = D
    · subst hb
      rw [upd_same] at e; cases e
      exact ⟨hl, its, k, rv, hk _ _ hDC pd.1⟩
    · rw [upd_ne hb] at e
      refine (I'.hok b u e).stay (fun c w' hc q => hk c w' ?_ q) (fun c q => by rw [upd_ne (tr c _ q).1]; exact q) fun c xs q => by rw [upd_ne (tr c _ q).1]; exact q
      rcases hc with z | z
      · rw [z]; exact (tr b u e).2
      · exact (tr c _ z).2
theorem comp_names (S : CompScope X scope N cap) : ∀ x ∈ scope.names, x.2 = .local → scope.names.lookup x.1 = some .local := fun x hx hl => lookup_nodup S.uniq (by rw [← hl]; exact hx)
theorem pe_comp (S : CompScope X scope N cap) (hc : X.calm = true) (hi : PI X tg iter wi)
    (hg : ∀ s H C fp, PG (compCx X scope N s H C fp) tg g) (hf : ∀ s H C fp, PTs (compCx X scope N s H C fp) ifs tf) (he : ∀ s H C fp, PE (compCx X scope N s H C fp) elt te)
    (hs : ∀ x, foldedSetIterable iter X.env x = pure x := by intro _; rfl) : PE X (.ListComp elt [⟨tg, iter, ifs, 0⟩] scope pos) (tComp cap wi g tf te) := by
  intro pins s σ H Q I h
  rw [eval_ListComp]
  have frc : ∀ x ∈ scope.names, x.2 = .free → ∃ c, X.env.cells.lookup x.1 = some c := fun x hx hk => I.ok.has x.1 (S.free x hx hk)
  refine wpAny_comprehension_free (use := none) rfl hs (closureFor_eq frc) S.kind (comp_names S) (thn (hi pins s σ H _ I h) fun v s1 h1 => thn h1 fun itv s2 h2 => ?_)
  obtain ⟨it, fp, tn, J, H2, rfl, I2, T, st2, f2, W, w0, turn⟩ := h2
  refine comp_core (RR := fun acc C => compPost (model X.prog X.w) X.A X.xe none (EP X pins σ Q) acc C) S hc hg hf he I2 T st2 f2 w0 turn fun D C σ' H' s' its k ys hD hC hDC I' rv hl q => ?_
  obtain ⟨m, hn, _⟩ := I'.loc
  exact ⟨m, hn, fun h' hs' => ⟨.ref D, _, comp_out I2 f2 hD hC hDC I' rv hl hs', rfl, q⟩⟩
end
end L2
namespace L2
open PySem PySem.Spec PyProof.Rows
section
variable {X : Cx} {scope : Scope} {N : List Str} {cap : List (Option Nat)} {tg iter elt : Expr} {ifs : List Expr} {pos spos py : Pos} {wi : TI} {g : TG} {tf : TT} {te : TE} {i : Nat} {y : Str}
theorem ps_setComp (hN : X.N.Nodup) (hi' : X.N[i]? = some y) (hy : Loc X.env.scope y) (S : CompScope X scope N cap) (hc : X.calm = true) (hi : PI X tg iter wi)
    (hg : ∀ s H C fp, PG (compCx X scope N s H C fp) tg g) (hf : ∀ s H C fp, PTs (compCx X scope N s H C fp) ifs tf) (he : ∀ s H C fp, PE (compCx X scope N s H C fp) elt te)
    (hsw : swapsWith (.ListComp elt [⟨tg, iter, ifs, 0⟩] scope pos) (some (.Name y py)) spos.line X.env = pure true := by rfl)
    (hs : ∀ x, foldedSetIterable iter X.env x = pure x := by intro _; rfl) (hfn : X.fn y = true ∨ X.env.scope.names.lookup y = some .local := by first | exact .inl rfl | exact .inr rfl | assumption) :
    PS X (.Assign [.Name y py] (.ListComp elt [⟨tg, iter, ifs, 0⟩] scope pos) spos) (tAsg (tComp cap wi g tf te) (gName i)) := by
  intro pins s σ H D I h
  rw [exec_Assign_Name_used _ _ _ _ hsw]
  refine wpAny_bind (wpAny_standAt (wpAny_bind ?_))
  show wpAny _ X.A (do let _ ← comprehension (.ListComp elt [⟨tg, iter, ifs, 0⟩] scope pos) scope X.env _ (newList []) false (eval iter X.env) (some (assign (.Name y py) X.env))) _ _ s
  have frc : ∀ x ∈ scope.names, x.2 = .free → ∃ c, X.env.cells.lookup x.1 = some c := fun x hx hk => I.ok.has x.1 (S.free x hx hk)
  refine wpAny_bind (wpAny_mono (wpAny_comprehension_free (use := some (assign (.Name y py) X.env)) (Q := fun _ s' => SP X pins D .next s') rfl hs (closureFor_eq frc) S.kind (comp_names S) (thn (hi pins s σ H _ I h) fun v s1 h1 => thn h1 fun itv s2 h2 => ?_)) (fun _ s' hq => wpAny_pure (wpAny_pure hq)) fun _ _ e => e)
  obtain ⟨it, fp, tn, J, H2, rfl, I2, T, st2, f2, W, w0, turn⟩ := h2
  refine comp_core (Qv := fun x H1 => gName i x σ H1 D.nx) (RR := fun acc C => compPost (model X.prog X.w) X.A X.xe (some (assign (.Name y py) X.env)) (fun _ s' => SP X pins D .next s') acc C) S hc hg hf he I2 T st2 f2 w0 turn fun d C σ' H' s' its k ys hD hC hDC I' rv hl q => ?_
  obtain ⟨m, hn, _⟩ := I'.loc
  have I3 : Inv X pins σ (upd H' d (.lst ys)) s' := comp_out (h' := s'.heap) I2 f2 hD hC hDC I' rv hl (.refl ..)
  have nC : (upd H' d (.lst ys)) C = none := by rw [upd_ne (Ne.symm hDC)]; exact I'.free
  have cL : C ≠ X.env.locals := fun z => absurd (Nat.lt_of_lt_of_le I2.lt hC) (by rw [z]; exact Nat.lt_irrefl _)
  have cc : ∀ x c, X.env.cells.lookup x = some c → c ≠ C := fun x c e z => by
    obtain ⟨v, q⟩ := I2.cell x c e
    exact absurd (Nat.lt_of_lt_of_le q.lt hC) (by rw [z]; exact Nat.lt_irrefl _)
  show wpAny _ X.A (assign (.Name y py) X.env (.ref d)) _ _ _
  refine wpAny_assign_Name (store_ok2 (v := .ref d) I3 hN hi' hy rfl (fun s4 I4 ⟨a, sb, ha⟩ => ?_) hfn)
  have aC : C ≠ a := by
    rcases ha with z | z
    · rw [z]; exact cL
    · exact Ne.symm (cc _ _ z)
  refine ⟨m, hn.sameBut sb aC, fun h' hs' => ?_⟩
  exact ⟨_, _, I4.turned (it := C) (t' := s4.toks) (fun b o hb e => (hs'.2 b hb).trans e) nC cL (.inr (Nat.le_trans I2.sz hC)) cc (fun p hp z => absurd (Nat.lt_of_lt_of_le (Heap.lt_size (I2.pin p hp).1) hC) (by rw [z]; exact Nat.lt_irrefl _)), q⟩
end
inductive Src where
  | lst (a : Addr) | tup (a : Addr) | str (l : List Nat)
def Src.has (K : PySem.W.Frag) (H : Hp) : Src → List V → Prop
  | .lst a, xs => SqL K H a xs
  | .tup a, xs => SqT K H a xs
  | .str l, xs => xs = l.map fun c => V.str (sOf [c])
def Src.at (it : Addr) (i : Nat) (h : Heap) : Src → Prop
  | .lst a => h.IsListIter it a i
  | .tup a => h.IsTupleIter it a i
  | .str l => ∃ t, h.IsStrIter it "str_ascii_iterator" (sOf l) t i ∨ h.IsStrIter it "str_iterator" (sOf l) t i
def Src.val : Src → V
  | .lst a => .ref a
  | .tup a => .ref a
  | .str l => .str (sOf l)
section
variable {P : Program} {w : World} {A : Around} {E : Value → Shared → Prop} {s : Shared}
theorem nextTup_item {j a : Addr} {k : Nat} {us : Array Value} {x : Value} {Q : Value → Shared → Prop} (g : s.heap.IsTupleIter j a k) (ga : s.heap.IsTuple a us) (gx : us[k]? = some x)
    (q : ∀ h', h'.IsTupleIter j a (k + 1) → Heap.SameBut j s.heap h' → Q x { s with heap := h' }) : wpAny (model P w) A (Builtin.SmallTypes.nextOf (.ref j)) Q E s := by
  obtain ⟨ob, e1, e2, e3⟩ := id g; obtain ⟨ot, f1, _, nn, f3⟩ := ga
  unfold Builtin.SmallTypes.nextOf
  refine wpAny_bind (wpAny_callSpecial?_slot (name := Str.ofString "__next__") g.typeIs PySem.F.slot_tuple_iterator_next (wpAny_call_entry PySem.F.slot_tuple_iterator_next g.typeIs PySem.F.entry_tuple_iterator_next ?_ (PySem.F.args_tuple_iterator_next_1 _)))
  show wpAny (model P w) _ (field (.ref j) 0 >>= _) _ _ s
  refine wpAny_bind (wpAny_field e1 e3 (x := .ref a) rfl ?_)
  show wpAny (model P w) _ (if (Value.ref a == Value.none) = true then _ else _) _ _ s
  rw [if_neg (show ¬ ((Value.ref a == Value.none) = true) from Bool.false_ne_true)]
  show wpAny (model P w) _ (field (.ref j) 1 >>= _) _ _ s
  refine wpAny_bind (wpAny_field e1 e3 (x := .int k 0) rfl ?_)
  show wpAny (model P w) _ (seqItems? (.ref a) >>= _) _ _ s
  refine wpAny_bind (wpAny_seqItems f1 f3 ?_)
  simp only [Int.toNat_natCast, gx]
  refine wpAny_bind (wpAny_setField e1 e3 (by simp) (wpAny_pure ⟨x, rfl, wpAny_pure (q _ ⟨_, Heap.get?_update_self _ e1 (Obj.isFreed_of_fields (Obj.data_mapFields e3 _)), (Obj.cls_mapFields ..).trans e2, (by rw [Obj.data_mapFields e3]; simp [rawInt])⟩ (Heap.SameBut.update ..))⟩))
theorem nextTup_end {j a : Addr} {k : Nat} {us : Array Value} {Q : Value → Shared → Prop} (hh : A.handled = none) (g : s.heap.IsTupleIter j a k) (ga : s.heap.IsTuple a us) (gx : us[k]? = none)
    (q : ∀ h' e, Heap.ExtBut j s.heap h' → (∃ o, h'.get? e = some o ∧ o.cls = .type "StopIteration") → E (.ref e) { s with heap := h' }) : wpAny (model P w) A (Builtin.SmallTypes.nextOf (.ref j)) Q E s := by
  obtain ⟨ob, e1, e2, e3⟩ := id g; obtain ⟨ot, f1, _, nn, f3⟩ := ga
  unfold Builtin.SmallTypes.nextOf
  refine wpAny_bind (wpAny_callSpecial?_slot (name := Str.ofString "__next__") g.typeIs PySem.F.slot_tuple_iterator_next (wpAny_call_entry PySem.F.slot_tuple_iterator_next g.typeIs PySem.F.entry_tuple_iterator_next ?_ (PySem.F.args_tuple_iterator_next_1 _)))
  show wpAny (model P w) _ (field (.ref j) 0 >>= _) _ _ s
  refine wpAny_bind (wpAny_field e1 e3 (x := .ref a) rfl ?_)
  show wpAny (model P w) _ (if (Value.ref a == Value.none) = true then _ else _) _ _ s
  rw [if_neg (show ¬ ((Value.ref a == Value.none) = true) from Bool.false_ne_true)]
  show wpAny (model P w) _ (field (.ref j) 1 >>= _) _ _ s
  refine wpAny_bind (wpAny_field e1 e3 (x := .int k 0) rfl ?_)
  show wpAny (model P w) _ (seqItems? (.ref a) >>= _) _ _ s
  refine wpAny_bind (wpAny_seqItems f1 f3 ?_)
  simp only [Int.toNat_natCast, gx]
  refine wpAny_bind (wpAny_rule (wpAny_bind (wpAny_setField e1 e3 (by simp) ?_)))
  show wpAny (model P w) _ (newExc (.type "StopIteration") [] >>= _) _ _ _
  refine wpAny_bind ?_; simp only [newExc, newTuple]
  refine wpAny_bind (wpAny_newObj_type (wpAny_bind (m := firstArgMember _ _) (wpAny_of_eq (a := Value.none) (by first | rfl | (simp only [firstArgMember]; rfl)) (wpAny_newObj_type ?_ (by size_fits)))) (by size_fits))
  simp only [raiseNew]; refine wpAny_bind (wpAny_handled ?_)
  first | rw [show A.in1.handled = none from hh] | rw [hh]
  exact wpAny_bind (wpAny_pure (wpAny_throw (q _ _ (((Heap.SameBut.update ..).extBut.push _).push _) ⟨_, Heap.get?_push_size _ rfl, rfl⟩)))
theorem drawsTup (hh : A.handled = none) (j a : Addr) (ne : a ≠ j) (us : Array Value) : Draws P w A j [j, a] us.size (fun k v => us[k]? = some v) (fun k h => h.IsTupleIter j a k ∧ h.IsTuple a us) where
  live := fun _ _ st => by obtain ⟨⟨o, e, _⟩, _⟩ := st; exact ⟨o, e⟩
  frame := fun _ _ _ st hk => ⟨st.1.at fun o e => hk j (by simp) o e, by obtain ⟨o, e, r⟩ := st.2; exact ⟨o, hk a (by simp) o e, r⟩⟩
  item := fun k s Q E hk st q => nextTup_item st.1 st.2 (x := us[k]) (by simp [hk]) fun h' g' sb => q _ h' s.toks (by simp [hk]) ⟨g', by obtain ⟨o, e, r⟩ := st.2; exact ⟨o, (sb.2 a ne).trans e, r⟩⟩ sb
  done := fun s Q E st q => nextTup_end hh st.1 st.2 (by simp) q
theorem Src.draws {X : Cx} {pins : List (Addr × Obj)} {σ : St} {H : Hp} {s0 : Shared} {c : Src} {xs : List V} {it : Addr} {i : Nat} (hh : A.handled = none) (I : Inv X pins σ H s0) (hs : c.has X.K H xs) (ht : c.at it i s0.heap) (hit : H it = none) :
    ∃ (fp : List Addr) (Pt : Nat → Value → Prop) (St : Nat → Heap → Prop), Draws X.prog X.w A it fp xs.length Pt St ∧ St i s0.heap ∧ (∀ k v, Pt k v → ∃ x, xs[k]? = some x ∧ RelV x v) ∧ (∀ k h, St k h → c.at it k h) ∧ it ∈ fp ∧
      ∀ b ∈ fp, b = it ∨ H b ≠ none ∨ ∃ o, X.base.get? b = some o := by
  cases c with
  | lst a =>
    obtain ⟨its, rv, p, hz⟩ := I.list hs
    have ne : a ≠ it := fun z => by
      obtain ⟨o, e, c1, _⟩ := (show s0.heap.IsListIter it a i from ht)
      obtain ⟨o2, e2, c2, _⟩ := p.isList
      rw [z, e] at e2; cases e2; rw [c1] at c2; exact absurd c2 (by decide)
    have dr := Draws.list (prog := X.prog) (w := X.w) hh it a ne its.toArray
    rw [List.size_toArray, ← rv.length] at dr
    refine ⟨_, _, _, dr, ⟨ht, p.isList⟩, fun k v e => ?_, fun k h st => st.1, by simp, fun b hb => ?_⟩
    · have e : its[k]? = some v := by simpa using e
      have hk : k < xs.length := by rw [rv.length]; exact (List.getElem?_eq_some_iff.mp e).1
      obtain ⟨u, hu, ru⟩ := rv.get (i := k) (x := xs[k]) (by simp [hk])
      rw [e] at hu; cases hu
      exact ⟨_, by simp [hk], ru⟩
    · rcases List.mem_cons.mp hb with z | z
      · exact .inl z
      · have z : b = a := by simpa using z
        subst z
        rcases (show SqL X.K H b xs from hs) with (z | ⟨o, z⟩) | ⟨o, _, _, z, _⟩
        · exact .inr (.inl (by rw [z]; simp))
        · exact .inr (.inl (by rw [z]; simp))
        · exact .inr (.inr ⟨_, I.mod.kin _ _ z⟩)
  | tup a =>
    obtain ⟨its, rv, p, hz⟩ := I.tuple hs
    have p : s0.heap.IsTuple a its.toArray := p
    have ne : a ≠ it := fun z => by
      obtain ⟨o, e, c1, _⟩ := (show s0.heap.IsTupleIter it a i from ht)
      obtain ⟨o2, e2, c2, _⟩ := id p
      rw [z, e] at e2; cases e2; rw [c1] at c2; exact absurd c2 (by decide)
    have dr := drawsTup (P := X.prog) (w := X.w) hh it a ne its.toArray
    rw [List.size_toArray, ← rv.length] at dr
    refine ⟨_, _, _, dr, ⟨ht, p⟩, fun k v e => ?_, fun k h st => st.1, by simp, fun b hb => ?_⟩
    · have e : its[k]? = some v := by simpa using e
      have hk : k < xs.length := by rw [rv.length]; exact (List.getElem?_eq_some_iff.mp e).1
      obtain ⟨u, hu, ru⟩ := rv.get (i := k) (x := xs[k]) (by simp [hk])
      rw [e] at hu; cases hu
      exact ⟨_, by simp [hk], ru⟩
    · rcases List.mem_cons.mp hb with z | z
      · exact .inl z
      · have z : b = a := by simpa using z
        subst z
        rcases (show SqT X.K H b xs from hs) with (z | ⟨o, z⟩) | ⟨o, _, _, z, _⟩
        · exact .inr (.inl (by rw [z]; simp))
        · exact .inr (.inl (by rw [z]; simp))
        · exact .inr (.inr ⟨_, I.mod.kin _ _ z⟩)
  | str l =>
    have hs : xs = l.map fun c => V.str (sOf [c]) := hs
    obtain ⟨t, ht⟩ := (show ∃ t, s0.heap.IsStrIter it "str_ascii_iterator" (sOf l) t i ∨ s0.heap.IsStrIter it "str_iterator" (sOf l) t i from ht)
    have hn : (sOf l).cps.size = xs.length := by rw [hs]; simp [sOf]
    have sg : ∀ (k : Nat) (v : Value), (∃ c u, (sOf l).cps[k]? = some c ∧ v = .str ⟨#[c]⟩ u) → ∃ x, xs[k]? = some x ∧ RelV x v := fun k v ⟨c, u, e, ev⟩ => by
      have e : l[k]? = some c := by simpa [sOf] using e
      exact ⟨.str (sOf [c]), by rw [hs]; simp [e], ⟨u, ev⟩⟩
    rcases ht with ht | ht
    · exact ⟨_, _, _, hn ▸ Draws.strAscii hh it (sOf l) t, ht, sg, fun k h st => ⟨t, .inl st⟩, by simp, fun b hb => .inl (by simpa using hb)⟩
    · exact ⟨_, _, _, hn ▸ Draws.strWide hh it (sOf l) t, ht, sg, fun k h st => ⟨t, .inr st⟩, by simp, fun b hb => .inl (by simpa using hb)⟩
end
end L2
namespace L2
open PySem PySem.Spec PyProof.Rows
def IterOf (v : Value) (h : Heap) (o : Obj) : Prop := ∀ (prog : Program) (w : World) (A : Around) (E : Value → Shared → Prop) (Q : Value → Shared → Prop) (s : Shared), s.heap = h → Q (.ref h.objs.size) { s with heap := h.push o } → wpAny (model prog w) A (pyIter v) Q E s
def zp3 (h : Heap) (o1 o2 : Obj) : Heap := ((h.push o1).push o2).push { cls := .type "tuple", data := .seq #[.ref h.objs.size, .ref (h.push o1).objs.size] }
def zp4 (h : Heap) (o1 o2 : Obj) : Heap := (zp3 h o1 o2).push { cls := .type "tuple", data := .seq #[.none, .none] }
def zp5 (h : Heap) (o1 o2 : Obj) : Heap := (zp4 h o1 o2).push { cls := .type "zip", data := .fields #[.none, .bool false, .bool false, .ref ((h.push o1).push o2).objs.size, .ref (zp3 h o1 o2).objs.size] }
theorem zipNew_meets (v1 v2 : Value) (o1 o2 : Obj) : Meets (Builtin.«zip.__new__» ⟨[.type "zip", v1, v2], []⟩) (fun _ R s => IterOf v1 s.heap o1 ∧ IterOf v2 (s.heap.push o1) o2 ∧ R (.ok (.ret (.ref (zp4 s.heap o1 o2).objs.size))) { s with heap := zp5 s.heap o1 o2 }) :=
  .of_wp fun prog w A R s h => by
    obtain ⟨hp, g, d, tk, os⟩ := s; obtain ⟨i1, i2, h⟩ := h
    have hsub := sub_zip
    have j1 := fun (A : Around) (E : Value → Shared → Prop) (Q : Value → Shared → Prop) (q : Q _ _) => i1 prog w A E Q ⟨hp, g, d, tk, os⟩ rfl q
    have j2 := fun (A : Around) (E : Value → Shared → Prop) (Q : Value → Shared → Prop) (q : Q _ _) => i2 prog w A E Q ⟨hp.push o1, g, d, tk, os⟩ rfl q
    wp_walk using j1 _ _ _, j2 _ _ _
    exact ⟨_, rfl, h⟩
theorem call_zipG {P : Program} {w : World} {A : Around} {E : Value → Shared → Prop} {s : Shared} {v1 v2 : Value} {o1 o2 : Obj} {Q : Value → Shared → Prop} (i1 : IterOf v1 s.heap o1) (i2 : IterOf v2 (s.heap.push o1) o2)
    (f1 : o1.isFreed = false) (f2 : o2.isFreed = false)
    (q : ∀ h', IsZip h' (s.heap.objs.size + 4) (s.heap.objs.size + 2) (s.heap.objs.size + 3) .none → IsPair h' (s.heap.objs.size + 2) (.ref s.heap.objs.size) (.ref (s.heap.objs.size + 1)) → IsPair h' (s.heap.objs.size + 3) .none .none →
      h'.get? s.heap.objs.size = some o1 → h'.get? (s.heap.objs.size + 1) = some o2 → (∀ c o, s.heap.get? c = some o → h'.get? c = some o) → Q (.ref (s.heap.objs.size + 4)) { s with heap := h' }) :
    wpAny (model P w) A (call (.type "zip") [v1, v2]) Q E s := by
  refine callType_new PySem.F.called_zip (by decide) (PySem.F.typeCall_zip_2 _ _) (PySem.F.newCall_zip_2 _ _) (fun obj => PySem.F.args_object_init_3 obj _ _) PySem.F.entry_zip_new (zipNew_meets v1 v2 o1 o2) ⟨i1, i2, ?_⟩
  have z1 : (s.heap.push o1).objs.size = s.heap.objs.size + 1 := Heap.size_push ..
  have z2 : ((s.heap.push o1).push o2).objs.size = s.heap.objs.size + 2 := by rw [Heap.size_push, z1]
  have z3 : (zp3 s.heap o1 o2).objs.size = s.heap.objs.size + 3 := by unfold zp3; rw [Heap.size_push, z2]
  have z4 : (zp4 s.heap o1 o2).objs.size = s.heap.objs.size + 4 := by unfold zp4; rw [Heap.size_push, z3]
  have g5 : (zp5 s.heap o1 o2).get? (zp4 s.heap o1 o2).objs.size = some _ := Heap.get?_push_size _ rfl
  have g4 : (zp5 s.heap o1 o2).get? (zp3 s.heap o1 o2).objs.size = some _ := Heap.get?_push_of_some _ (Heap.get?_push_size _ rfl)
  have g3 : (zp5 s.heap o1 o2).get? ((s.heap.push o1).push o2).objs.size = some _ := Heap.get?_push_of_some _ (Heap.get?_push_of_some _ (Heap.get?_push_size _ rfl))
  have g2 : (zp5 s.heap o1 o2).get? (s.heap.push o1).objs.size = some o2 := Heap.get?_push_of_some _ (Heap.get?_push_of_some _ (Heap.get?_push_of_some _ (Heap.get?_push_size _ f2)))
  have g1 : (zp5 s.heap o1 o2).get? s.heap.objs.size = some o1 := Heap.get?_push_of_some _ (Heap.get?_push_of_some _ (Heap.get?_push_of_some _ (Heap.get?_push_of_some _ (Heap.get?_push_size _ f1))))
  show _ ∧ _
  rw [z2, z3, z4] at g5
  rw [z1, z2] at g3
  rw [z3] at g4
  rw [z1] at g2
  rw [z4]
  exact ⟨⟨_, g5, rfl⟩, q _ g5 g3 g4 g1 g2 fun c o x => Heap.get?_push_of_some _ (Heap.get?_push_of_some _ (Heap.get?_push_of_some _ (Heap.get?_push_of_some _ (Heap.get?_push_of_some _ x))))⟩
theorem Src.iter {X : Cx} {pins : List (Addr × Obj)} {σ : St} {H : Hp} {s : Shared} {c : Src} {xs : List V} {v : Value} {h : Heap} (I : Inv X pins σ H s) (hs : c.has X.K H xs) (rv : RelV c.val v) (k : ∀ b o, s.heap.get? b = some o → h.get? b = some o) :
    ∃ o, IterOf v h o ∧ o.isFreed = false ∧ (∀ h' : Heap, h'.get? h.objs.size = some o → c.at h.objs.size 0 h') := by
  cases c with
  | lst a =>
    obtain ⟨its, r, p, hz⟩ := I.list hs
    cases (show v = .ref a from rv)
    obtain ⟨o, e, r2⟩ := p.isList
    refine ⟨{ cls := .type "list_iterator", data := .fields #[.ref a, .int 0 0] }, fun prog w A E Q s' e' q => ?_, rfl, fun h' e' => ⟨_, e', rfl, rfl⟩⟩
    subst e'
    exact wpAny_pyIter_list ⟨o, k a o e, r2⟩ q
  | tup a =>
    obtain ⟨its, r, p, hz⟩ := I.tuple hs
    cases (show v = .ref a from rv)
    obtain ⟨o, e, r2⟩ := p
    refine ⟨{ cls := .type "tuple_iterator", data := .fields #[.ref a, .int 0 0] }, fun prog w A E Q s' e' q => ?_, rfl, fun h' e' => ⟨_, e', rfl, rfl⟩⟩
    subst e'
    exact wpAny_pyIter_tuple ⟨o, k a o e, r2⟩ q
  | str l =>
    obtain ⟨t, rfl⟩ := (show ∃ t, v = .str (sOf l) t from rv)
    cases ha : (sOf l).cps.all (· < 128)
    · exact ⟨{ cls := .type "str_iterator", data := .fields #[.str (sOf l) t, .int 0 0] }, fun prog w A E Q s' e' q => by subst e'; exact wpAny_pyIter_wide ha q, rfl, fun h' e' => ⟨t, .inr ⟨_, e', rfl, rfl⟩⟩⟩
    · exact ⟨{ cls := .type "str_ascii_iterator", data := .fields #[.str (sOf l) t, .int 0 0] }, fun prog w A E Q s' e' q => by subst e'; exact wpAny_pyIter_ascii ha q, rfl, fun h' e' => ⟨t, .inl ⟨_, e', rfl, rfl⟩⟩⟩
end L2
namespace L2
open PySem PySem.Spec PyProof.Rows
section
variable {P : Program} {w : World} {A : Around} {E : Value → Shared → Prop} {s : Shared} {z TI TO i1 i2 : Addr} {fp1 fp2 : List Addr} {n1 n2 k : Nat} {P1 P2 : Nat → Value → Prop} {S1 S2 : Nat → Heap → Prop} {a b : Value}
structure ZApart (z TI TO i1 i2 : Addr) (fp1 fp2 : List Addr) : Prop where
  c1 : TI ≠ z
  c2 : TO ≠ z
  c3 : i1 ≠ z
  c4 : i2 ≠ z
  c5 : TI ≠ TO
  c6 : TI ≠ i1
  c7 : TI ≠ i2
  c8 : TO ≠ i1
  c9 : TO ≠ i2
  d1 : z ∉ fp1 ∧ TO ∉ fp1 ∧ i2 ∉ fp1
  d2 : z ∉ fp2 ∧ TO ∉ fp2 ∧ i1 ∉ fp2
theorem frame_of {n : Nat} {it : Addr} {fp : List Addr} {Pt : Nat → Value → Prop} {S : Nat → Heap → Prop} (D : Draws P w A it fp n Pt S) {j : Nat} {h h' : Heap} {c : Addr} (st : S j h) (sb : Heap.SameBut c h h') (hc : c ∉ fp) : S j h' :=
  D.frame _ _ _ st fun b hb o e => (sb.2 b fun q => hc (q ▸ hb)).trans e
theorem zipG_item {Q : Option Value → Shared → Prop} (D1 : Draws P w A.in1 i1 fp1 n1 P1 S1) (D2 : Draws P w A.in1 i2 fp2 n2 P2 S2) (Z : ZApart z TI TO i1 i2 fp1 fp2) (h1 : k < n1) (h2 : k < n2) (hz : IsZip s.heap z TI TO .none)
    (hI : IsPair s.heap TI (.ref i1) (.ref i2)) (hO : IsPair s.heap TO a b) (t1 : S1 k s.heap) (t2 : S2 k s.heap)
    (q : ∀ x y h' tk T, P1 k x → P2 k y → T = s.heap.objs.size → IsZip h' z TI TO (rawInt T) → IsPair h' TO x y → S1 (k + 1) h' → S2 (k + 1) h' → IsPair h' T x y →
      (∀ c o, c ≠ z → c ≠ TO → c ≠ i1 → c ≠ i2 → s.heap.get? c = some o → h'.get? c = some o) → Q (some (.ref T)) { s with heap := h', toks := tk }) :
    wpAny (model P w) A (pyNext (.ref z)) Q E s := by
  have hT : s.TypeIs (.ref z) "zip" := ⟨_, hz, rfl⟩
  unfold pyNext
  refine wpAny_bind (wpAny_attempt (wpAny_callSpecial?_slot (name := Str.ofString "__next__") hT PySem.F.slot_zip_next (wpAny_call_entry PySem.F.slot_zip_next hT PySem.F.entry_zip_next ?_ (PySem.F.args_zip_next_1 _))))
  obtain ⟨hp, gg, dd, tk0, os⟩ := s
  show wpAny (model P w) _ (field (.ref z) 2 >>= _) _ _ _
  refine wpAny_bind (wpAny_field hz rfl (x := .bool false) rfl ?_)
  show wpAny (model P w) _ (field (.ref z) 3 >>= _) _ _ _
  refine wpAny_bind (wpAny_field hz rfl (x := .ref TI) rfl (wpAny_bind (wpAny_seqItems hI rfl ?_)))
  show wpAny (model P w) _ (Builtin.SmallTypes.ownedTupleIsFree (.ref z) >>= _) _ _ _
  refine wpAny_bind ?_; unfold Builtin.SmallTypes.ownedTupleIsFree
  refine wpAny_bind (wpAny_field hz rfl (x := .none) rfl (wpAny_pure ?_)); simp only [if_true]
  refine wpAny_bind (wpAny_rule (wpAny_bind (wpAny_field hz rfl (x := .ref TO) rfl (wpAny_bind (wpAny_setField_rec hz (by simp) fun g1 y1 b1 => ?_)))))
  replace y1 : IsZip g1 z TI TO .ellipsis := y1
  replace b1 : Heap.SameBut z hp g1 := b1
  refine wpAny_bind ?_; simp only [List.zipIdx_cons, List.zipIdx_nil, List.forIn_cons, List.forIn_nil]
  refine wpAny_bind (wpAny_bind (wpAny_onRaise ?_))
  show wpAny (model P w) _ (Builtin.SmallTypes.nextOf (.ref i1) >>= _) _ _ _
  refine wpAny_bind (D1.item k _ _ _ h1 (frame_of D1 t1 b1 Z.d1.1) fun x g2 tk2 px u1 b2 => wpAny_pure ?_)
  replace b2 : Heap.SameBut i1 g1 g2 := b2
  have O2 : IsPair g2 TO a b := b2.extBut _ _ Z.c8 (b1.extBut _ _ Z.c2 hO)
  refine wpAny_bind (wpAny_seqItems O2 rfl (wpAny_bind (wpAny_updateSeq_pair O2 fun g3 O3 b3 => ?_)))
  replace O3 : IsPair g3 TO x b := O3
  replace b3 : Heap.SameBut TO g2 g3 := b3
  refine wpAny_bind (wpAny_letGo (wpAny_pure (wpAny_bind (wpAny_bind (wpAny_onRaise ?_)))))
  show wpAny (model P w) _ (Builtin.SmallTypes.nextOf (.ref i2) >>= _) _ _ _
  refine wpAny_bind (D2.item k _ _ _ h2 (frame_of D2 (frame_of D2 (frame_of D2 t2 b1 Z.d2.1) b2 Z.d2.2.2) b3 Z.d2.2.1) fun y g4 tk4 py u2 b4 => wpAny_pure ?_)
  replace b4 : Heap.SameBut i2 g3 g4 := b4
  have O4 : IsPair g4 TO x b := b4.extBut _ _ Z.c9 O3
  refine wpAny_bind (wpAny_seqItems O4 rfl (wpAny_bind (wpAny_updateSeq_pair O4 fun g5 O5 b5 => ?_)))
  replace O5 : IsPair g5 TO x y := O5
  replace b5 : Heap.SameBut TO g4 g5 := b5
  refine wpAny_bind (wpAny_letGo (wpAny_pure (wpAny_pure (wpAny_bind (wpAny_seqItems O5 rfl (wpAny_bind (wpAny_newTuple ?_)))))))
  have sz : g5.objs.size = hp.objs.size := by rw [b5.1, b4.1, b3.1, b2.1, b1.1]
  have y5 : IsZip g5 z TI TO .ellipsis := b5.extBut _ _ Z.c2.symm (b4.extBut _ _ Z.c4.symm (b3.extBut _ _ Z.c2.symm (b2.extBut _ _ Z.c3.symm y1)))
  have k5 : ∀ c o, c ≠ z → c ≠ TO → c ≠ i1 → c ≠ i2 → hp.get? c = some o → g5.get? c = some o := fun c o e1 e2 e3 e4 e => b5.extBut _ _ e2 (b4.extBut _ _ e4 (b3.extBut _ _ e2 (b2.extBut _ _ e3 (b1.extBut _ _ e1 e))))
  have v1 : S1 (k + 1) g5 := frame_of D1 (frame_of D1 (frame_of D1 u1 b3 Z.d1.2.1) b4 Z.d1.2.2) b5 Z.d1.2.1
  have v2 : S2 (k + 1) g5 := frame_of D2 u2 b5 Z.d2.2.1
  have lz : z < g5.objs.size := Heap.lt_size y5
  show wpAny (model P w) _ (Builtin.SmallTypes.ownedTupleHandOut (.ref z) (.ref g5.objs.size) >>= _) _ _ _
  refine wpAny_bind ?_; unfold Builtin.SmallTypes.ownedTupleHandOut
  have y6 : IsZip (g5.push { cls := .type "tuple", data := .seq #[x, y] }) z TI TO .ellipsis := Heap.get?_push_of_some _ y5
  refine wpAny_bind (wpAny_setField_rec y6 (by simp) fun g7 y7 b7 => ?_)
  replace y7 : IsZip g7 z TI TO (rawInt g5.objs.size) := y7
  replace b7 : Heap.SameBut z (g5.push { cls := .type "tuple", data := .seq #[x, y] }) g7 := b7
  refine wpAny_setField_rec y7 (by simp) fun g8 y8 b8 => ?_
  replace y8 : IsZip g8 z TI TO (rawInt g5.objs.size) := y8
  replace b8 : Heap.SameBut z g7 g8 := b8
  have up : ∀ c o, c ≠ z → g5.get? c = some o → g8.get? c = some o := fun c o e1 e => b8.extBut _ _ e1 (b7.extBut _ _ e1 (Heap.get?_push_of_some _ e))
  have T8 : IsPair g8 g5.objs.size x y := b8.extBut _ _ (Nat.ne_of_gt lz) (b7.extBut _ _ (Nat.ne_of_gt lz) (Heap.get?_push_size _ rfl))
  refine wpAny_pure ⟨_, rfl, wpAny_pure (q x y g8 _ g5.objs.size px py sz y8 (up _ _ Z.c2 O5) (D1.frame _ _ _ v1 fun b hb o e => up b o (fun q => Z.d1.1 (q ▸ hb)) e) (D2.frame _ _ _ v2 fun b hb o e => up b o (fun q => Z.d2.1 (q ▸ hb)) e) T8 fun c o e1 e2 e3 e4 e => up c o e1 (k5 c o e1 e2 e3 e4 e))⟩
theorem zipG_end {Q : Option Value → Shared → Prop} (hh : A.handled = none) (D1 : Draws P w A.in1 i1 fp1 n1 P1 S1) (D2 : Draws P w A.in1 i2 fp2 n2 P2 S2) (Z : ZApart z TI TO i1 i2 fp1 fp2) (hk : k = n1 ∨ (k < n1 ∧ k = n2)) (hz : IsZip s.heap z TI TO .none)
    (hI : IsPair s.heap TI (.ref i1) (.ref i2)) (hO : IsPair s.heap TO a b) (t1 : S1 k s.heap) (t2 : S2 k s.heap)
    (q : ∀ h' tk, (∀ c o, c ≠ z → c ≠ TO → c ≠ i1 → c ≠ i2 → s.heap.get? c = some o → h'.get? c = some o) → Q none { s with heap := h', toks := tk }) :
    wpAny (model P w) A (pyNext (.ref z)) Q E s := by
  have hT : s.TypeIs (.ref z) "zip" := ⟨_, hz, rfl⟩
  unfold pyNext
  refine wpAny_bind (wpAny_attempt (wpAny_callSpecial?_slot (name := Str.ofString "__next__") hT PySem.F.slot_zip_next (wpAny_call_entry PySem.F.slot_zip_next hT PySem.F.entry_zip_next ?_ (PySem.F.args_zip_next_1 _))))
  obtain ⟨hp, gg, dd, tk0, os⟩ := s
  show wpAny (model P w) _ (field (.ref z) 2 >>= _) _ _ _
  refine wpAny_bind (wpAny_field hz rfl (x := .bool false) rfl ?_)
  show wpAny (model P w) _ (field (.ref z) 3 >>= _) _ _ _
  refine wpAny_bind (wpAny_field hz rfl (x := .ref TI) rfl (wpAny_bind (wpAny_seqItems hI rfl ?_)))
  show wpAny (model P w) _ (Builtin.SmallTypes.ownedTupleIsFree (.ref z) >>= _) _ _ _
  refine wpAny_bind ?_; unfold Builtin.SmallTypes.ownedTupleIsFree
  refine wpAny_bind (wpAny_field hz rfl (x := .none) rfl (wpAny_pure ?_)); simp only [if_true]
  refine wpAny_bind (wpAny_rule (wpAny_bind (wpAny_field hz rfl (x := .ref TO) rfl (wpAny_bind (wpAny_setField_rec hz (by simp) fun g1 y1 b1 => ?_)))))
  replace y1 : IsZip g1 z TI TO .ellipsis := y1
  replace b1 : Heap.SameBut z hp g1 := b1
  refine wpAny_bind ?_; simp only [List.zipIdx_cons, List.zipIdx_nil, List.forIn_cons, List.forIn_nil]
  refine wpAny_bind (wpAny_bind (wpAny_onRaise ?_))
  show wpAny (model P w) _ (Builtin.SmallTypes.nextOf (.ref i1) >>= _) _ _ _
  rcases hk with hk | ⟨hk1, hk2⟩
  · subst hk
    refine wpAny_bind (D1.done _ _ _ (frame_of D1 t1 b1 Z.d1.1) fun g2 e b2 he => ?_)
    obtain ⟨oe, hoe, hce⟩ := he
    replace b2 : Heap.ExtBut i1 g1 g2 := b2
    have y2 : IsZip g2 z TI TO .ellipsis := b2 _ _ Z.c3.symm y1
    have ez : e ≠ z := fun x => by subst x; rw [y2] at hoe; cases hoe; simp at hce
    refine wpAny_setField_rec y2 (by simp) fun g3 _ b3 => ?_
    exact wpAny_bind (wpAny_isInstance (T := "StopIteration") (b := true) ⟨oe, b3.extBut _ _ ez hoe, hce⟩ isSubtype_stop (wpAny_pure (q g3 _ fun c o e1 _ e3 _ x => b3.extBut _ _ e1 (b2 _ _ e3 (b1.extBut _ _ e1 x)))))
  · subst hk2
    refine wpAny_bind (D1.item k _ _ _ hk1 (frame_of D1 t1 b1 Z.d1.1) fun x g2 tk2 px u1 b2 => wpAny_pure ?_)
    replace b2 : Heap.SameBut i1 g1 g2 := b2
    have O2 : IsPair g2 TO a b := b2.extBut _ _ Z.c8 (b1.extBut _ _ Z.c2 hO)
    refine wpAny_bind (wpAny_seqItems O2 rfl (wpAny_bind (wpAny_updateSeq_pair O2 fun g3 O3 b3 => ?_)))
    replace b3 : Heap.SameBut TO g2 g3 := b3
    refine wpAny_bind (wpAny_letGo (wpAny_pure (wpAny_bind (wpAny_bind (wpAny_onRaise ?_)))))
    show wpAny (model P w) _ (Builtin.SmallTypes.nextOf (.ref i2) >>= _) _ _ _
    refine wpAny_bind (D2.done _ _ _ (frame_of D2 (frame_of D2 (frame_of D2 t2 b1 Z.d2.1) b2 Z.d2.2.2) b3 Z.d2.2.1) fun g4 e b4 he => ?_)
    obtain ⟨oe, hoe, hce⟩ := he
    replace b4 : Heap.ExtBut i2 g3 g4 := b4
    have y4 : IsZip g4 z TI TO .ellipsis := b4 _ _ Z.c4.symm (b3.extBut _ _ Z.c2.symm (b2.extBut _ _ Z.c3.symm y1))
    have ez : e ≠ z := fun x => by subst x; rw [y4] at hoe; cases hoe; simp at hce
    refine wpAny_setField_rec y4 (by simp) fun g5 _ b5 => ?_
    exact wpAny_bind (wpAny_isInstance (T := "StopIteration") (b := true) ⟨oe, b5.extBut _ _ ez hoe, hce⟩ isSubtype_stop (wpAny_pure (q g5 _ fun c o e1 e2 e3 e4 x => b5.extBut _ _ e1 (b4 _ _ e4 (b3.extBut _ _ e2 (b2.extBut _ _ e3 (b1.extBut _ _ e1 x)))))))
end
end L2
namespace L2
open PySem PySem.Spec PyProof.Rows
def Itz (K : PySem.W.Frag) (c1 c2 : Src) : It :=
  ⟨fun i H => ∃ xs ys x y, c1.has K H xs ∧ c2.has K H ys ∧ xs[i]? = some x ∧ ys[i]? = some y,
   fun i H v H' => ∃ p x y, H p = none ∧ v = .ref p ∧ (∀ xs, c1.has K H xs → xs[i]? = some x) ∧ (∀ ys, c2.has K H ys → ys[i]? = some y) ∧ H' = upd H p (.tup [x, y]),
   fun i H => ∃ xs ys, c1.has K H xs ∧ c2.has K H ys ∧ (i = xs.length ∨ (i < xs.length ∧ i = ys.length))⟩
theorem Src.inj {X : Cx} {pins : List (Addr × Obj)} {σ : St} {H : Hp} {s : Shared} {c : Src} {xs ys : List V} (I : Inv X pins σ H s) (h1 : c.has X.K H xs) (h2 : c.has X.K H ys) : xs = ys := by
  cases c with
  | lst a => exact I.list_inj h1 h2
  | tup a => exact I.tuple_inj h1 h2
  | str l => exact Eq.trans h1 (Eq.symm h2)
theorem Src.at_keep {c : Src} {it : Addr} {i : Nat} {h h' : Heap} (st : c.at it i h) (k : ∀ o, h.get? it = some o → h'.get? it = some o) : c.at it i h' := by
  cases c with
  | lst a => obtain ⟨o, e, r⟩ := st; exact ⟨o, k o e, r⟩
  | tup a => obtain ⟨o, e, r⟩ := st; exact ⟨o, k o e, r⟩
  | str l =>
    obtain ⟨t, st⟩ := st
    rcases st with ⟨o, e, r⟩ | ⟨o, e, r⟩
    · exact ⟨t, .inl ⟨o, k o e, r⟩⟩
    · exact ⟨t, .inr ⟨o, k o e, r⟩⟩
theorem Src.at_obj {c : Src} {it : Addr} {i : Nat} {h : Heap} (st : c.at it i h) : ∃ o, h.get? it = some o ∧ ∃ vs, o.data = .fields vs := by
  cases c with
  | lst a => obtain ⟨o, e, _, r⟩ := st; exact ⟨o, e, _, r⟩
  | tup a => obtain ⟨o, e, _, r⟩ := st; exact ⟨o, e, _, r⟩
  | str l =>
    obtain ⟨t, st⟩ := st
    rcases st with ⟨o, e, _, r⟩ | ⟨o, e, _, r⟩
    · exact ⟨o, e, _, r⟩
    · exact ⟨o, e, _, r⟩
def zTn (c1 c2 : Src) (z TI TO i1 i2 : Addr) (i : Nat) (h : Heap) : Prop := IsZip h z TI TO .none ∧ IsPair h TI (.ref i1) (.ref i2) ∧ (∃ a b, IsPair h TO a b) ∧ c1.at i1 i h ∧ c2.at i2 i h
structure ZIds (z TI TO i1 i2 : Addr) : Prop where
  c1 : TI ≠ z
  c2 : TO ≠ z
  c3 : i1 ≠ z
  c4 : i2 ≠ z
  c5 : TI ≠ TO
  c6 : TI ≠ i1
  c7 : TI ≠ i2
  c8 : TO ≠ i1
  c9 : TO ≠ i2
  c10 : i1 ≠ i2
theorem zap_of {X : Cx} {pins : List (Addr × Obj)} {σ : St} {H : Hp} {s : Shared} {z TI TO i1 i2 : Addr} {fp1 fp2 : List Addr} (I : Inv X pins σ H s) (Z : ZIds z TI TO i1 i2) (hf : ∀ b ∈ [z, TI, TO, i1, i2], FpOk X pins H b)
    (g1 : ∀ b ∈ fp1, b = i1 ∨ H b ≠ none ∨ ∃ o, X.base.get? b = some o) (g2 : ∀ b ∈ fp2, b = i2 ∨ H b ≠ none ∨ ∃ o, X.base.get? b = some o) : ZApart z TI TO i1 i2 fp1 fp2 := by
  have no : ∀ b ∈ [z, TI, TO, i1, i2], ¬ (H b ≠ none ∨ ∃ o, X.base.get? b = some o) := fun b hb q => by
    rcases q with q | ⟨o, q⟩
    · exact q (hf b hb).1
    · rcases (hf b hb).2.2.2.1 with y | y
      · exact I.ok.noex b o q y
      · exact absurd (Nat.lt_of_lt_of_le (Nat.lt_of_lt_of_le (Heap.lt_size q) I.ok.bsz) y) (Nat.lt_irrefl _)
  refine ⟨Z.c1, Z.c2, Z.c3, Z.c4, Z.c5, Z.c6, Z.c7, Z.c8, Z.c9, ⟨fun m => ?_, fun m => ?_, fun m => ?_⟩, ⟨fun m => ?_, fun m => ?_, fun m => ?_⟩⟩
  · exact (g1 _ m).elim (fun e => Z.c3 e.symm) (no z (by simp))
  · exact (g1 _ m).elim (fun e => Z.c8 e) (no TO (by simp))
  · exact (g1 _ m).elim (fun e => Z.c10 e.symm) (no i2 (by simp))
  · exact (g2 _ m).elim (fun e => Z.c4 e.symm) (no z (by simp))
  · exact (g2 _ m).elim (fun e => Z.c9 e) (no TO (by simp))
  · exact (g2 _ m).elim (fun e => Z.c10 e) (no i1 (by simp))
theorem turn_zip {P : Program} {w : World} {K : PySem.W.Frag} {elts : List Expr} {kk : Nat} {tp : Pos} (c1 c2 : Src) (z TI TO i1 i2 : Addr) (Z : ZIds z TI TO i1 i2) :
    Turn P w K (.Tuple elts kk tp) (Itz K c1 c2) [z, TI, TO, i1, i2] z (zTn c1 c2 z TI TO i1 i2) where
  mem := by simp
  obj := fun i h st b hb => by
    obtain ⟨hz, hI, ⟨a, b', hO⟩, t1, t2⟩ := st
    obtain ⟨o1, e1, v1, d1⟩ := Src.at_obj t1
    obtain ⟨o2, e2, v2, d2⟩ := Src.at_obj t2
    simp only [List.mem_cons, List.not_mem_nil, or_false] at hb
    rcases hb with rfl | rfl | rfl | rfl | rfl
    · exact ⟨_, hz, fun v q => by cases (show Data.fields _ = Data.cell v from q)⟩
    · exact ⟨_, hI, fun v q => by cases (show Data.seq _ _ = Data.cell v from q)⟩
    · exact ⟨_, hO, fun v q => by cases (show Data.seq _ _ = Data.cell v from q)⟩
    · exact ⟨_, e1, fun v q => by rw [d1] at q; cases q⟩
    · exact ⟨_, e2, fun v q => by rw [d2] at q; cases q⟩
  keep := fun i h h' st k => by
    obtain ⟨hz, hI, ⟨a, b', hO⟩, t1, t2⟩ := st
    exact ⟨k z (by simp) _ hz, k TI (by simp) _ hI, ⟨a, b', k TO (by simp) _ hO⟩, Src.at_keep t1 (k i1 (by simp)), Src.at_keep t2 (k i2 (by simp))⟩
  item := by
    intro X hP hw hK hc i pins s σ H E I hf st hg
    subst hP hw hK
    obtain ⟨xs, ys, x, y, hx, hy, ex, ey⟩ := hg
    obtain ⟨hz, hI, ⟨a, b', hO⟩, t1, t2⟩ := st
    have hh : X.A.in1.handled = none := I.ok.hd hc
    obtain ⟨fp1, P1, S1, D1, u1, r1, a1, _, g1⟩ := Src.draws (A := X.A.in1) hh I hx t1 (hf i1 (by simp)).1
    obtain ⟨fp2, P2, S2, D2, u2, r2, a2, _, g2⟩ := Src.draws (A := X.A.in1) hh I hy t2 (hf i2 (by simp)).1
    have ZA := zap_of I Z hf g1 g2
    refine zipG_item D1 D2 ZA (List.getElem?_eq_some_iff.mp ex).1 (List.getElem?_eq_some_iff.mp ey).1 hz hI hO u1 u2 fun vx vy h' tk T px py hT hz' hO' w1 w2 hTp kp => ?_
    obtain ⟨x', ex', rx⟩ := r1 i vx px
    obtain ⟨y', ey', ry⟩ := r2 i vy py
    rw [ex] at ex'; cases ex'
    rw [ey] at ey'; cases ey'
    have nT : H T = none := by rw [hT]; exact I.hok.fresh (Nat.le_refl _)
    refine ⟨_, rfl, wpAny_letOwnedTupleGo_zip hz' fun h2 hz2 sb => ?_⟩
    have lt : ∀ {c o}, s.heap.get? c = some o → c ≠ T := fun e => by rw [hT]; exact Nat.ne_of_lt (Heap.lt_size e)
    have up : ∀ c o, c ≠ z → h'.get? c = some o → h2.get? c = some o := fun c o hc e => (sb.2 c hc).trans e
    have kp2 : ∀ b o, b ∉ [z, TO, i1, i2] → s.heap.get? b = some o → h2.get? b = some o := fun b o hb e => by
      simp only [List.mem_cons, List.not_mem_nil, or_false, not_or] at hb
      exact up b o hb.1 (kp b o hb.1 hb.2.1 hb.2.2.1 hb.2.2.2 e)
    have ch : ∀ b ∈ [z, TO, i1, i2], b ∈ [z, TI, TO, i1, i2] := fun b hb => by
      simp only [List.mem_cons, List.not_mem_nil, or_false] at hb ⊢
      rcases hb with h | h | h | h <;> simp [h]
    have trk : ∀ b u, H b = some u → b ∉ [z, TO, i1, i2] ∧ b ≠ T := fun b u e => ⟨fun hb => (by rw [(hf b (ch b hb)).1] at e; cases e), fun q => (by rw [q, nT] at e; cases e)⟩
    have I2 : Inv X pins σ (upd H T (.tup [x, y])) { s with heap := h2, gens := s.gens, drawn := s.drawn, toks := tk } := by
      refine I.step (g' := s.gens) (d' := s.drawn) (t' := tk) (ch := [z, TO, i1, i2]) (fun b hb => ⟨(hf b (ch b hb)).2.2.2.1, (hf b (ch b hb)).2.1, (hf b (ch b hb)).2.2.2.2.1, (hf b (ch b hb)).2.2.2.2.2⟩) (fun b o _ _ hb e _ => kp2 b o hb e) (fun b o _ _ hb e _ => ⟨o.slots, kp2 b o hb e⟩)
        (fun b o hb e n => by rw [upd_ne (lt e)]; exact n) (fun b o hb e => ⟨o, kp2 b o hb e⟩) (fun b xs e => by rw [upd_ne (trk b _ e).2]; exact e) (fun b o u e => by rw [upd_ne (trk b _ e).2]; exact e) (fun b ps e => ⟨#[], by rw [upd_ne (trk b _ e).2, e]; simp⟩) (fun m hm => ?_) (fun b u e => ?_) I.bare
      · obtain ⟨o, es, ep, ho, r⟩ := hm
        exact ⟨o, es, ep, kp2 _ o (fun hb => (hf _ (ch _ hb)).2.1 rfl) ho, r⟩
      · by_cases hb : b = T
        · subst hb
          rw [upd_same] at e; cases e
          refine ⟨(by show 2 ≤ sizeLine; rw [sizeLine_eq]; decide), [vx, vy], .cons rx (.cons ry .nil), ⟨_, up _ _ ?_ hTp, rfl, _, rfl⟩⟩
          exact fun q => lt hz q.symm
        · rw [upd_ne hb] at e
          refine (I.hok b u e).stay (fun c v hc q => kp2 c v ?_ q) (fun c q => by rw [upd_ne (trk c _ q).2]; exact q) fun c xs q => by rw [upd_ne (trk c _ q).2]; exact q
          rcases hc with q | q
          · rw [q]; exact (trk b u e).1
          · exact (trk c _ q).1
    refine ⟨.ref T, _, I2, rfl, ⟨T, x, y, nT, rfl, fun xs' h => by rw [Src.inj I h hx]; exact ex, fun ys' h => by rw [Src.inj I h hy]; exact ey, rfl⟩, ⟨hz2, up _ _ Z.c1 (kp _ _ Z.c1 Z.c5 Z.c6 Z.c7 hI), ⟨_, _, up _ _ Z.c2 hO'⟩, Src.at_keep (a1 _ _ w1) fun o e => up _ o Z.c3 e, Src.at_keep (a2 _ _ w2) fun o e => up _ o Z.c4 e⟩, fun b hb => ?_⟩
    have hbT : b ≠ T := by
      obtain ⟨o, e⟩ : ∃ o, s.heap.get? b = some o := by
        obtain ⟨o1, e1, _⟩ := Src.at_obj t1
        obtain ⟨o2, e2, _⟩ := Src.at_obj t2
        simp only [List.mem_cons, List.not_mem_nil, or_false] at hb
        rcases hb with rfl | rfl | rfl | rfl | rfl
        · exact ⟨_, hz⟩
        · exact ⟨_, hI⟩
        · exact ⟨_, hO⟩
        · exact ⟨_, e1⟩
        · exact ⟨_, e2⟩
      exact lt e
    rw [upd_ne hbT]
    exact (hf b hb).1
  done := by
    intro X hP hw hK hc i pins s σ H E I hf st hg
    subst hP hw hK
    obtain ⟨xs, ys, hx, hy, hend⟩ := hg
    obtain ⟨hz, hI, ⟨a, b', hO⟩, t1, t2⟩ := st
    have hh : X.A.in1.handled = none := I.ok.hd hc
    obtain ⟨fp1, P1, S1, D1, u1, r1, a1, _, g1⟩ := Src.draws (A := X.A.in1) hh I hx t1 (hf i1 (by simp)).1
    obtain ⟨fp2, P2, S2, D2, u2, r2, a2, _, g2⟩ := Src.draws (A := X.A.in1) hh I hy t2 (hf i2 (by simp)).1
    have ZA := zap_of I Z hf g1 g2
    have ch : ∀ b ∈ [z, TO, i1, i2], b ∈ [z, TI, TO, i1, i2] := fun b hb => by
      simp only [List.mem_cons, List.not_mem_nil, or_false] at hb ⊢
      rcases hb with h | h | h | h <;> simp [h]
    refine zipG_end hh D1 D2 ZA hend hz hI hO u1 u2 fun h2 tk kp => ⟨rfl, ?_⟩
    have kp2 : ∀ b o, b ∉ [z, TO, i1, i2] → s.heap.get? b = some o → h2.get? b = some o := fun b o hb e => by
      simp only [List.mem_cons, List.not_mem_nil, or_false, not_or] at hb
      exact kp b o hb.1 hb.2.1 hb.2.2.1 hb.2.2.2 e
    refine I.step (g' := s.gens) (d' := s.drawn) (t' := tk) (ch := [z, TO, i1, i2]) (fun b hb => ⟨(hf b (ch b hb)).2.2.2.1, (hf b (ch b hb)).2.1, (hf b (ch b hb)).2.2.2.2.1, (hf b (ch b hb)).2.2.2.2.2⟩) (fun b o _ _ hb e _ => kp2 b o hb e) (fun b o _ _ hb e _ => ⟨o.slots, kp2 b o hb e⟩)
      (fun b o hb e n => n) (fun b o hb e => ⟨o, kp2 b o hb e⟩) (fun b xs e => e) (fun b o u e => e) (fun b ps e => ⟨#[], by rw [e]; simp⟩) (fun m hm => ?_) (fun b u e => ?_) I.bare
    · obtain ⟨o, es, ep, ho, r⟩ := hm
      exact ⟨o, es, ep, kp2 _ o (fun hb => (hf _ (ch _ hb)).2.1 rfl) ho, r⟩
    · have trk : ∀ b u, H b = some u → b ∉ [z, TO, i1, i2] := fun b u e hb => by rw [(hf b (ch b hb)).1] at e; cases e
      refine (I.hok b u e).stay (fun c v hc q => kp2 c v ?_ q) (fun c q => q) fun c xs q => q
      rcases hc with q | q
      · rw [q]; exact trk b u e
      · exact trk c _ q
  self := fun _ _ _ _ _ st h => wpAny_pyIter_zip st.1 h
theorem ne2 (n a b : Nat) (h : a ≠ b) : @Ne Nat (n + a) (n + b) := fun e => h (Nat.add_left_cancel e)
def iZip (K : PySem.W.Frag) (t : TA) : TI := fun σ H R => t σ H fun vs H1 => ∃ c1 c2 xs ys, vs = [c1.val, c2.val] ∧ c1.has K H1 xs ∧ c2.has K H1 ys ∧ R (Itz K c1 c2) H1
theorem pi_zip {X : Cx} {a b : Expr} {ta : TA} {p pos tp : Pos} {elts : List Expr} {kk : Nat} (hg : Gl X "zip") (hm : X.mg "zip" = none) (ha : PA X [a, b] ta)
    (hs : starEach [a, b] X.env = [(false, eval a X.env), (false, eval b X.env)] := by rfl) (hs2 : starEach [b] X.env = [(false, eval b X.env)] := by rfl) : PI X (.Tuple elts kk tp) (.Call (.Name "zip" p) [a, b] [] pos) (iZip X.K ta) := by
  intro pins s σ H R I h
  refine Call_ (ld_blt I hg hm boot_zip (PyProof.Rows.callWith_type1 (thn (ha pos pins s σ H _ I h) fun us s1 ⟨vs, H1, I1, r1, q1⟩ => ?_) (by rw [hs, hs2]) (by rw [hs2]; rfl)))
  obtain ⟨c1, c2, xs, ys, e, h1, h2, q⟩ := q1
  subst e
  obtain ⟨v1, v2, rfl, ra, rb⟩ := vals2 r1
  obtain ⟨o1, i1, f1, n1⟩ := Src.iter I1 h1 ra fun _ _ e => e
  obtain ⟨o2, i2, f2, n2⟩ := Src.iter (h := s1.heap.push o1) I1 h2 rb fun _ _ e => Heap.get?_push_of_some _ e
  have z1 : (s1.heap.push o1).objs.size = s1.heap.objs.size + 1 := Heap.size_push ..
  rw [z1] at n2
  refine call_zipG i1 i2 f1 f2 fun h' hz hI hO e1 e2 kp => ?_
  refine wpAny_pyIter_zip hz ?_
  have zi : ∀ n : Nat, ZIds (n + 4) (n + 2) (n + 3) n (n + 1) := fun n => ⟨(ne2 n 2 4 (by decide)), (ne2 n 3 4 (by decide)), (ne2 n 0 4 (by decide)), (ne2 n 1 4 (by decide)), (ne2 n 2 3 (by decide)), (ne2 n 2 0 (by decide)), (ne2 n 2 1 (by decide)), (ne2 n 3 0 (by decide)), (ne2 n 3 1 (by decide)), (ne2 n 0 1 (by decide))⟩
  refine ⟨s1.heap.objs.size + 4, [s1.heap.objs.size + 4, s1.heap.objs.size + 2, s1.heap.objs.size + 3, s1.heap.objs.size, s1.heap.objs.size + 1], _, _, H1, rfl, I1.kept (t' := s1.toks) kp, turn_zip c1 c2 _ _ _ _ _ (zi s1.heap.objs.size), ⟨hz, hI, ⟨_, _, hO⟩, n1 h' e1, n2 h' e2⟩, fun b hb => ?_, q⟩
  have hb' : s1.heap.objs.size ≤ b := by
    simp only [List.mem_cons, List.not_mem_nil, or_false] at hb
    rcases hb with z | z | z | z | z <;> rw [z]
    · exact Nat.le_add_right _ 4
    · exact Nat.le_add_right _ 2
    · exact Nat.le_add_right _ 3
    · exact Nat.le_refl _
    · exact Nat.le_add_right _ 1
  exact I1.fpOk hb' (I1.hok.fresh hb')
theorem for_zip {K : PySem.W.Frag} {c1 c2 : Src} {xs ys : List V} {g : TG} {tb : TS} {D : Ends} {σ : St} {H : Hp} (Pv : Nat → St → Hp → Prop) (h0 : Pv 0 σ H) (hl : ∀ i σ H, Pv i σ H → c1.has K H xs ∧ c2.has K H ys) (hn : xs.length = ys.length)
    (hs : ∀ i x y p σ H, xs[i]? = some x → ys[i]? = some y → H p = none → Pv i σ H → g (.ref p) σ (upd H p (.tup [x, y])) fun σ2 H2 => tb { D with nx := Pv (i + 1), ct := Pv (i + 1), bk := D.nx } σ2 H2) (hd : ∀ σ H, Pv xs.length σ H → D.nx σ H) :
    ∃ W : Nat → Nat → St → Hp → Prop, (∃ m, W 0 m σ H) ∧ ∀ i m σ H, W i m σ H →
      ((Itz K c1 c2).stop i H ∧ D.nx σ H) ∨ ((Itz K c1 c2).go i H ∧ ∃ N : St → Hp → Prop, (∀ σ' H', N σ' H' → ∃ m', m' < m ∧ W (i + 1) m' σ' H') ∧ ∀ x H', (Itz K c1 c2).yld i H x H' → g x σ H' fun σ2 H2 => tb { D with nx := N, ct := N, bk := D.nx } σ2 H2) := by
  refine ⟨fun i m σ H => m = xs.length - i ∧ i ≤ xs.length ∧ Pv i σ H, ⟨xs.length, by simp, Nat.zero_le _, h0⟩, ?_⟩
  rintro i m σ H ⟨rfl, hi, p⟩
  obtain ⟨q1, q2⟩ := hl i σ H p
  by_cases hlt : i < xs.length
  · refine .inr ⟨⟨xs, ys, xs[i], ys[i], q1, q2, by simp [hlt], by simp [← hn, hlt]⟩, Pv (i + 1), fun σ' H' p' => ⟨xs.length - (i + 1), by omega, rfl, hlt, p'⟩, fun v H' ⟨a, x, y, na, ev, ex, ey, eh⟩ => ?_⟩
    subst ev eh
    exact hs i x y a σ H (ex xs q1) (ey ys q2) na p
  · have e : i = xs.length := by omega
    subst e
    exact .inl ⟨⟨xs, ys, q1, q2, .inl rfl⟩, hd σ H p⟩
end L2
namespace L2
open PySem PySem.Spec PyProof.Rows
structure Cal (P : Program) (w : World) (K : PySem.W.Frag) (mg : Str → Option Value) (base : Heap) (x : Str) (ps : List Str) (k : Nat) (sp : Sp) : Prop where
  ex : ∃ (f : Addr) (fd : FuncData), FnOk P w K mg base CX0 k f fd ps sp ∧ mg x = some (.ref f) ∧ PySem.W.keepIn K (.ref f) = true ∧ Binds K fd ps []
theorem pe_cal {X : Cx} {x : Str} {ps : List Str} {k : Nat} {sp : Sp} {p pos : Pos} {e : Expr} {es : List Expr} {t : TA} (C : Cal X.prog X.w X.K X.mg X.base x ps k sp) (hr : Room k X.A) (hg : Gl X x) (ha : PA X (e :: es) t)
    (hdb : (x == ("__debug__" : Str)) = false := by decide) (he : starEach (e :: es) X.env = (false, eval e X.env) :: starEach es X.env := by rfl) (hpl : (backTo pos (starEach es X.env)).any (·.1) = false := by rfl) :
    PE X (.Call (.Name x p) (e :: es) [] pos) (tCall sp [] E0 t) := by
  obtain ⟨f, fd, F, hm, hk, hb⟩ := C.ex
  exact pe_call F hr hg hm hk hb .nil pass0 ha hdb he hpl
theorem mkCS {X : Cx} {scope : Scope} {N : List Str} {cap : List (Option Nat)} (kind : scope.kind = .function) (nd : N.Nodup) (len : cap.length = N.length) (uniq : (scope.names.map (·.1)).Nodup)
    (fr : (scope.names.all fun x => x.2 != .free || (X.env.kindOf x.1 == some .cell || X.env.kindOf x.1 == some .free)) = true)
    (cp : ((N.zip cap).all fun p => match p.2 with | none => true | some j => X.N[j]? == some p.1 && scope.names.contains (p.1, NameKind.free)) = true) : CompScope X scope N cap := by
  refine ⟨kind, nd, len, uniq, fun x hx hk => ?_, fun k x j h1 h2 => ?_⟩
  · have := List.all_eq_true.mp fr x hx
    rw [hk] at this
    simpa using this
  · have hm : (x, some j) ∈ N.zip cap := by
      rw [List.mem_iff_getElem?]
      exact ⟨k, by rw [List.getElem?_zip_eq_some]; exact ⟨h1, h2⟩⟩
    have := List.all_eq_true.mp cp _ hm
    simpa using this
def flat : V → Bool
  | .non => true
  | .bl _ => true
  | .int _ => true
  | .str _ => true
  | _ => false
theorem same_upd {H : Hp} {p : Addr} {o : HO} (h : H p = none) : Same H (upd H p o) := fun b u e => by rw [upd_ne (ne_of_none e h)]; exact e
end L2
namespace L2
open PySem PySem.Spec PyProof.Rows
theorem ofS (x : String) (l : List Nat) (h : (Str.ofString x).cps.toList = l) : Str.ofString x = sOf l := by rw [of_sOf (Str.ofString x), h]
end L2
namespace L2
open PySem PySem.Spec PyProof.Rows
section
variable {X : Cx} {K : PySem.W.Frag} {w : World}
theorem ix_listK (h : X.K = K) : IxR X (rIxL K) := h ▸ ix_list
theorem call_lenK (h : X.K = K) : CallR X (.builtin "len") (fun xs H Q => ∃ x n, xs = [x] ∧ LenV K x H n ∧ Q (.int n) H) := h ▸ call_len
theorem call_isinstK (h : X.K = K) : CallR X (.builtin "isinstance") (fun xs H Q => ∃ x T t b, xs = [x, .ty T] ∧ TyOf K H x t ∧ PySem.W.kitOne K t (.type T) = some b ∧ Q (.bl b) H) := h ▸ call_isinst
theorem mt_joinK (h : X.K = K) : MtR X "str.join" (fun x xs H Q => ∃ (p : Addr) (ys : List (List Nat)), x = .str (sOf []) ∧ xs = [.ref p] ∧ SqL K H p (ys.map fun y => V.str (sOf y)) ∧ ys.flatten.length ≤ 100000 ∧ Q (.str (sOf ys.flatten)) H) := h ▸ mt_join
theorem sl_listK (h : X.K = K) : SlR X (rSlL K) := h ▸ sl_list
theorem pg_tupK (h : X.K = K) {pos : Pos} {es : List Expr} {k : Nat} {t : TGs} {n : Nat} (hc : X.calm = true) (hg : PGs X es t) (hn : (assignEach es X.env).length = n := by rfl) (hst : (assignEach es X.env).findIdx? (·.1) = none := by rfl) : PG X (.Tuple es k pos) (gTup K n t) := h ▸ pg_tup hc hg hn hst
theorem pi_listK (h : X.K = K) {tg l : Expr} {tl : TE} (hl : PE X l tl) : PI X tg l (iList K tl) := h ▸ pi_list hl
theorem pi_zipK (h : X.K = K) {a b : Expr} {ta : TA} {p pos tp : Pos} {elts : List Expr} {kk : Nat} (hg : Gl X "zip") (hm : X.mg "zip" = none) (ha : PA X [a, b] ta)
    (hs : starEach [a, b] X.env = [(false, eval a X.env), (false, eval b X.env)] := by rfl) (hs2 : starEach [b] X.env = [(false, eval b X.env)] := by rfl) : PI X (.Tuple elts kk tp) (.Call (.Name "zip" p) [a, b] [] pos) (iZip K ta) := h ▸ pi_zip hg hm ha hs hs2
theorem pe_bmK (h : X.K = K) {o e : Expr} {es : List Expr} {to : TE} {t : TA} {name : Str} {apos cpos : Pos} {T id : String} {r : V → List V → Hp → VK → Prop} (pa : PlainAttrs T) (slot : Slot T name id) (hty : typeOf (.builtin id) = pure (.type "method_descriptor")) (hm : MtR X id r) (ho : PE X o to) (ha : PA X (e :: es) t)
    (hbase : attributeBase o name X.env (eval o X.env) = eval o X.env := by rfl)
    (hfew : ((backTo cpos (starEach (e :: es) X.env)).all (fun x => !x.1) && (backToKw cpos (keywordEach [] X.env)).all (fun x => x.1.isSome) && decide ((e :: es).length + ([] : List Keyword).length + (if ([] : List Keyword).isEmpty then 0 else 1) < 30)) = true := by rfl)
    (hline : (apos.endLine == cpos.line) = true := by rfl) (hs : starEach (e :: es) X.env = (false, eval e X.env) :: starEach es X.env := by rfl) (hplain : (backTo cpos (starEach es X.env)).any (·.1) = false := by rfl) :
    PE X (.Call (.Attribute o name apos) (e :: es) [] cpos) (tBM K T r to t) := h ▸ pe_bm pa slot hty hm ho ha hbase hfew hline hs hplain
end
end L2
namespace L2
open PySem PySem.Spec PyProof.Rows
def Ite (K : PySem.W.Frag) (a : Addr) : It :=
  ⟨fun i H => ∃ xs x, SqL K H a xs ∧ xs[i]? = some x,
   fun i H v H' => ∃ p x, H p = none ∧ v = .ref p ∧ (∀ xs, SqL K H a xs → xs[i]? = some x) ∧ H' = upd H p (.tup [.int i, x]),
   fun i H => ∃ xs, SqL K H a xs ∧ xs.length = i⟩
def eTn (a e it : Addr) (i : Nat) (h : Heap) : Prop := (∃ old, IsEnum h e it i old) ∧ h.IsListIter it a i
theorem turn_enum {P : Program} {w : World} {K : PySem.W.Frag} {elts : List Expr} {kk : Nat} {tp : Pos} (a e it : Addr) (ne : e ≠ it) : Turn P w K (.Tuple elts kk tp) (Ite K a) [e, it] e (eTn a e it) where
  mem := by simp
  obj := fun i h st b hb => by
    obtain ⟨⟨old, he⟩, t1⟩ := st
    obtain ⟨o1, e1, v1, d1⟩ := Src.at_obj (c := .lst a) t1
    simp only [List.mem_cons, List.not_mem_nil, or_false] at hb
    rcases hb with rfl | rfl
    · exact ⟨_, he, fun v q => by cases (show Data.fields _ = Data.cell v from q)⟩
    · exact ⟨_, e1, fun v q => by rw [d1] at q; cases q⟩
  keep := fun i h h' st k => by
    obtain ⟨⟨old, he⟩, t1⟩ := st
    exact ⟨⟨old, k e (by simp) _ he⟩, Src.at_keep (c := .lst a) t1 (k it (by simp))⟩
  item := by
    intro X hP hw hK hc i pins s σ H E I hf st hg
    subst hP hw hK
    obtain ⟨xs, x, hx, ex⟩ := hg
    obtain ⟨⟨old, he⟩, t1⟩ := st
    have hh : X.A.in1.handled = none := I.ok.hd hc
    obtain ⟨fp1, P1, S1, D1, u1, r1, a1, _, g1⟩ := Src.draws (A := X.A.in1) (c := .lst a) hh I hx t1 (hf it (by simp)).1
    have nof : e ∉ fp1 := fun m => by
      rcases g1 e m with q | q | ⟨o, q⟩
      · exact ne q
      · exact q (hf e (by simp)).1
      · rcases (hf e (by simp)).2.2.2.1 with y | y
        · exact I.ok.noex e o q y
        · exact absurd (Nat.lt_of_lt_of_le (Nat.lt_of_lt_of_le (Heap.lt_size q) I.ok.bsz) y) (Nat.lt_irrefl _)
    refine wpAny_pyNext_enum_itemD D1 he u1 (List.getElem?_eq_some_iff.mp ex).1 ne nof fun vx h' tk px ho w1 hTp hsz kp => ?_
    obtain ⟨x', ex', rx⟩ := r1 i vx px
    rw [ex] at ex'; cases ex'
    have nT : H s.heap.objs.size = none := I.hok.fresh (Nat.le_refl _)
    refine ⟨_, rfl, wpAny_letOwnedTupleGo_enum ho fun h2 he2 sb => ?_⟩
    have lt : ∀ {c o}, s.heap.get? c = some o → c ≠ s.heap.objs.size := fun e => Nat.ne_of_lt (Heap.lt_size e)
    have kp2 : ∀ b o, b ∉ [e, it] → s.heap.get? b = some o → h2.get? b = some o := fun b o hb q => by
      simp only [List.mem_cons, List.not_mem_nil, or_false, not_or] at hb
      exact (sb.2 b hb.1).trans (kp b o hb.1 hb.2 q)
    have trk : ∀ b u, H b = some u → b ∉ [e, it] ∧ b ≠ s.heap.objs.size := fun b u q => ⟨fun hb => (by rw [(hf b hb).1] at q; cases q), fun z => (by rw [z, nT] at q; cases q)⟩
    have I2 : Inv X pins σ (upd H s.heap.objs.size (.tup [.int i, x])) { s with heap := h2, gens := s.gens, drawn := s.drawn, toks := tk + 1 } := by
      refine I.step (g' := s.gens) (d' := s.drawn) (t' := tk + 1) (ch := [e, it]) (fun b hb => ⟨(hf b hb).2.2.2.1, (hf b hb).2.1, (hf b hb).2.2.2.2.1, (hf b hb).2.2.2.2.2⟩) (fun b o _ _ hb q _ => kp2 b o hb q) (fun b o _ _ hb q _ => ⟨o.slots, kp2 b o hb q⟩)
        (fun b o hb q n => by rw [upd_ne (lt q)]; exact n) (fun b o hb q => ⟨o, kp2 b o hb q⟩) (fun b xs q => by rw [upd_ne (trk b _ q).2]; exact q) (fun b o u q => by rw [upd_ne (trk b _ q).2]; exact q) (fun b ps q => ⟨#[], by rw [upd_ne (trk b _ q).2, q]; simp⟩) (fun m hm => ?_) (fun b u q => ?_) I.bare
      · obtain ⟨o, es, ep, ho', r⟩ := hm
        exact ⟨o, es, ep, kp2 _ o (fun hb => (hf _ hb).2.1 rfl) ho', r⟩
      · by_cases hb : b = s.heap.objs.size
        · subst hb
          rw [upd_same] at q; cases q
          refine ⟨(by show 2 ≤ sizeLine; rw [sizeLine_eq]; decide), [.int i tk, vx], .cons ⟨_, rfl⟩ (.cons rx .nil), ⟨_, (sb.2 _ ?_).trans hTp, rfl, _, rfl⟩⟩
          exact fun z => lt he z.symm
        · rw [upd_ne hb] at q
          refine (I.hok b u q).stay (fun c v hc z => kp2 c v ?_ z) (fun c z => by rw [upd_ne (trk c _ z).2]; exact z) fun c xs z => by rw [upd_ne (trk c _ z).2]; exact z
          rcases hc with z | z
          · rw [z]; exact (trk b u q).1
          · exact (trk c _ z).1
    refine ⟨.ref s.heap.objs.size, _, I2, rfl, ⟨_, x, nT, rfl, fun xs' h => by rw [I.list_inj h hx]; exact ex, rfl⟩, ⟨⟨_, by simpa using he2⟩, Src.at_keep (c := .lst a) (a1 _ _ w1) fun o q => (sb.2 _ (Ne.symm ne)).trans q⟩, fun b hb => ?_⟩
    have hbT : b ≠ s.heap.objs.size := by
      obtain ⟨o1, e1, _⟩ := Src.at_obj (c := .lst a) t1
      simp only [List.mem_cons, List.not_mem_nil, or_false] at hb
      rcases hb with rfl | rfl
      · exact lt he
      · exact lt e1
    rw [upd_ne hbT]
    exact (hf b hb).1
  done := by
    intro X hP hw hK hc i pins s σ H E I hf st hg
    subst hP hw hK
    obtain ⟨xs, hx, hl⟩ := hg
    obtain ⟨⟨old, he⟩, t1⟩ := st
    have hh : X.A.in1.handled = none := I.ok.hd hc
    obtain ⟨fp1, P1, S1, D1, u1, r1, a1, _, g1⟩ := Src.draws (A := X.A.in1) (c := .lst a) hh I hx t1 (hf it (by simp)).1
    subst hl
    obtain ⟨f0, f1, f2, f3, f4, f5⟩ := hf it (by simp)
    exact wpAny_pyNext_enum_endD D1 he u1 fun h' hx' => ⟨rfl, I.turned (t' := s.toks) (fun b o hb q => hx' b o hb q) f0 f1 f3 f4 f5⟩
  self := fun _ _ _ _ _ st h => by obtain ⟨⟨old, he⟩, _⟩ := st; exact wpAny_pyIter_enum he h
def iEnum (K : PySem.W.Frag) (t : TA) : TI := fun σ H R => t σ H fun vs H1 => ∃ a xs, vs = [.ref a] ∧ SqL K H1 a xs ∧ R (Ite K a) H1
theorem pi_enum {X : Cx} {K : PySem.W.Frag} (hK : X.K = K) {b : Expr} {ta : TA} {p pos tp : Pos} {elts : List Expr} {kk : Nat} (hg : Gl X "enumerate") (hm : X.mg "enumerate" = none) (ha : PA X [b] ta) (hs : starEach [b] X.env = [(false, eval b X.env)] := by rfl) :
    PI X (.Tuple elts kk tp) (.Call (.Name "enumerate" p) [b] [] pos) (iEnum K ta) := by
  subst hK
  intro pins s σ H R I h
  refine Call_ (ld_blt I hg hm boot_enumerate (PyProof.Rows.callWith_type1 (thn (ha pos pins s σ H _ I h) fun us s1 ⟨vs, H1, I1, r1, q1⟩ => ?_) hs rfl))
  obtain ⟨a, xs, e, h1, q⟩ := q1
  subst e
  obtain ⟨v1, rfl, ra⟩ := vals1 r1
  cases ra
  obtain ⟨its, rv, pl, hz⟩ := I1.list h1
  refine call_enumerate_list pl.isList fun h' he hi hsz kp => ?_
  refine wpAny_pyIter_enum he ?_
  refine ⟨s1.heap.objs.size + 1, [s1.heap.objs.size + 1, s1.heap.objs.size], _, _, H1, rfl, I1.kept (t' := s1.toks) kp, turn_enum a _ _ (ne2 s1.heap.objs.size 1 0 (by decide)), ⟨⟨_, he⟩, hi⟩, fun b hb => ?_, q⟩
  have hb' : s1.heap.objs.size ≤ b := by
    simp only [List.mem_cons, List.not_mem_nil, or_false] at hb
    rcases hb with z | z <;> rw [z]
    · exact Nat.le_add_right _ 1
    · exact Nat.le_refl _
  exact I1.fpOk hb' (I1.hok.fresh hb')
end L2
namespace L2
open PySem PySem.Spec PyProof.Rows
end L2
namespace Wb
open PySem L2
abbrev Rp (α : Type) := Hp → α → V → Prop
class Mono {α : Type} (R : Rp α) : Prop where
  mono : ∀ {H H' : Hp} {m : α} {v : V}, Same H H' → R H m v → R H' m v
def LR {α : Type} (R : Rp α) (H : Hp) (ms : List α) (vs : List V) : Prop := vs.length = ms.length ∧ ∀ (i : Nat) (v : V) (m : α), vs[i]? = some v → ms[i]? = some m → R H m v
theorem LR.nil {α : Type} {R : Rp α} {H : Hp} : LR R H [] [] := ⟨rfl, fun i v m e => by simp at e⟩
theorem LR.same {α : Type} {R : Rp α} [Mono R] {H H' : Hp} {ms : List α} {vs : List V} (h : LR R H ms vs) (e : Same H H') : LR R H' ms vs := ⟨h.1, fun i v m a b => Mono.mono e (h.2 i v m a b)⟩
theorem LR.snoc {α : Type} {R : Rp α} {H : Hp} {ms : List α} {vs : List V} {m : α} {v : V} (h : LR R H ms vs) (r : R H m v) : LR R H (ms ++ [m]) (vs ++ [v]) := by
  refine ⟨by simp [h.1], fun i v' m' a b => ?_⟩
  by_cases hi : i < vs.length
  · rw [List.getElem?_append_left hi] at a
    rw [List.getElem?_append_left (by rw [← h.1]; exact hi)] at b
    exact h.2 i v' m' a b
  · rw [List.getElem?_append_right (by omega)] at a
    rw [List.getElem?_append_right (by rw [← h.1]; omega)] at b
    rw [← h.1] at b
    cases e : i - vs.length with
    | zero => rw [e] at a b; simp at a b; subst a b; exact r
    | succ n => rw [e] at a; simp at a
theorem LR.get {α : Type} {R : Rp α} {H : Hp} {ms : List α} {vs : List V} {i : Nat} {m : α} (h : LR R H ms vs) (e : ms[i]? = some m) : ∃ v, vs[i]? = some v ∧ R H m v := by
  have hi : i < vs.length := by rw [h.1]; exact (List.getElem?_eq_some_iff.mp e).1
  exact ⟨vs[i], by simp [hi], h.2 i _ m (by simp [hi]) e⟩
theorem LR.got {α : Type} {R : Rp α} {H : Hp} {ms : List α} {vs : List V} {i : Nat} {v : V} (h : LR R H ms vs) (e : vs[i]? = some v) : ∃ m, ms[i]? = some m ∧ R H m v := by
  have hi : i < ms.length := by rw [← h.1]; exact (List.getElem?_eq_some_iff.mp e).1
  exact ⟨ms[i], by simp [hi], h.2 i v _ e (by simp [hi])⟩
def isL {α : Type} (R : Rp α) : Rp (List α) := fun H ms v => ∃ p vs, v = .ref p ∧ H p = some (.lst vs) ∧ LR R H ms vs
instance zkeep1 {α : Type} {R : Rp α} [Mono R] : Mono (isL R) := ⟨fun e ⟨p, vs, h1, h2, h3⟩ => ⟨p, vs, h1, e _ _ h2, h3.same e⟩⟩
def isS : Rp (List Nat) := fun _ l v => v = .str (sOf l)
instance zkeep2 : Mono isS := ⟨fun _ h => h⟩
def isI : Rp Int := fun _ l v => v = .int l
instance zkeep4 : Mono isI := ⟨fun _ h => h⟩
theorem LR.str {H : Hp} {ms : List (List Nat)} {vs : List V} (h : LR isS H ms vs) : vs = ms.map fun l => V.str (sOf l) := by
  refine List.ext_getElem? fun i => ?_
  rw [List.getElem?_map]
  cases e : ms[i]? with
  | none => rw [List.getElem?_eq_none_iff] at e; rw [List.getElem?_eq_none_iff.mpr (by rw [h.1]; exact e)]; rfl
  | some m => obtain ⟨v, a, b⟩ := h.get e; rw [a]; cases b; rfl
end Wb
namespace L2
open PySem PySem.Spec PyProof.Rows
section
variable {X : Cx} {K : PySem.W.Frag} {w : World}
theorem call_list_ofK (h : X.K = K) : CallR X (.type "list") (fun xs H Q => ∃ p ys, xs = [.ref p] ∧ (SqL K H p ys ∨ SqT K H p ys) ∧ ∀ l, H l = none → Q (.ref l) (upd H l (.lst ys))) := h ▸ call_list_of
end
end L2
namespace Wb
open PySem L2
theorem LR.take {α : Type} {R : Rp α} {H : Hp} {ms : List α} {vs : List V} (h : LR R H ms vs) (k : Nat) : LR R H (ms.take k) (vs.take k) := by
  refine ⟨by simp [h.1], fun i v m a b => ?_⟩
  rw [List.getElem?_take] at a b
  split at a
  · rw [if_pos (by assumption)] at b; exact h.2 i v m a b
  · cases a
theorem LR.drop {α : Type} {R : Rp α} {H : Hp} {ms : List α} {vs : List V} (h : LR R H ms vs) (k : Nat) : LR R H (ms.drop k) (vs.drop k) := by
  refine ⟨by simp [h.1], fun i v m a b => ?_⟩
  rw [List.getElem?_drop] at a b
  exact h.2 _ v m a b
theorem none_of {H H' : Hp} {p : Addr} (e : Same H H') (h : H' p = none) : H p = none := by
  cases z : H p with
  | none => rfl
  | some x => have := e _ _ z; rw [h] at this; cases this
theorem same_keep {H H3 : Hp} {p : Addr} {o : HO} (e : Same H H3) (h : H p = none) : Same H (upd H3 p o) := fun a u z => by
  rw [upd_ne (ne_of_none z h)]; exact e _ _ z
end Wb
namespace L2
open PySem PySem.Spec PyProof.Rows
end L2
namespace L2
open PySem PySem.Spec PyProof.Rows
theorem vals_idx : ∀ (xs : List V) (us : List Value), us.length = xs.length → (∀ (j : Nat) (x : V) (u : Value), xs[j]? = some x → us[j]? = some u → RelV x u) → Vals xs us
  | [], [], _, _ => .nil
  | x :: xs, u :: us, hl, h => .cons (h 0 x u rfl rfl) (vals_idx xs us (by simpa using hl) fun j x u a b => h (j + 1) x u (by simpa using a) (by simpa using b))
  | [], _ :: _, hl, _ => by simp at hl
  | _ :: _, [], hl, _ => by simp at hl
theorem paired_at {α β : Type} {F : α → β → Prop} : ∀ {l₁ : List α} {l₂ : List β}, Paired F l₁ l₂ → ∀ {j : Nat} {b : β}, l₂[j]? = some b → ∃ a, l₁[j]? = some a ∧ F a b
  | _, _, .nil, j, b, h => by simp at h
  | _, _, .cons r rs, 0, b, h => by simp at h; subst h; exact ⟨_, rfl, r⟩
  | _, _, .cons r rs, j + 1, b, h => by simp at h; obtain ⟨a, h1, h2⟩ := paired_at rs h; exact ⟨a, by simpa using h1, h2⟩
section
variable {X : Cx} {K : PySem.W.Frag} {w : World}
theorem call_sortedD (hc : X.calm = true) : CallR X (.builtin "sorted") (fun xs H Q => ∃ (p : Addr) (kvs : List (Key × V)) (ns : List Int), xs = [.ref p] ∧ H p = some (.dK kvs) ∧ kvs.map (·.1) = ns.map Sum.inl ∧ ns.length < 64 ∧ ∀ (q : Addr) (ns' : List Int), H q = none → ns'.Perm ns → ns'.Pairwise (· ≤ ·) → Q (.ref q) (upd H q (.lst (ns'.map V.int)))) := by
  intro pins s σ H xs us Q I r h
  obtain ⟨p, kvs, ns, rfl, hp, hks, h64, q⟩ := h
  obtain ⟨u, rfl, rx⟩ := vals1 r
  cases rx
  obtain ⟨hz, lo, vs, kv, hD⟩ := I.hok p _ hp
  obtain ⟨ep, hat⟩ := hD.dictAt
  have hvl : vs.length = ns.length := by
    have h1 : kvs.length = vs.length := Paired.length kv
    have h2 := congrArg List.length hks
    simp at h2; omega
  refine Calls.call_function_entry kind_sorted plain_sorted entry_sorted (args_sorted1 _) ?_
  unfold Builtin.«sorted»
  refine wpAny_bind (m := checkCount "sorted" 1 1 _) (wpAny_pure ?_)
  refine wpAny_bind (PySem.W.kdu_collect (A := X.A.in1) (PySem.W.kdl_dict (knd := mixKind X.prog X.w) (kvs := vs) (ep := ep) lo) (I.ok.hd hc) hat (by rw [sizeLine_eq]; omega) fun h' tk acc hk hacc => ?_)
  have hal : acc.toList.length = ns.length := by rw [Array.length_toList, hacc.1, hvl]
  have hI : IntsAre acc.toList ns := intsAre_of (vals_idx _ _ (by rw [hal, List.length_map]) fun j x u hx hu => by
    obtain ⟨k, y, h1, h2⟩ := hacc.2 j u (by rw [← Array.getElem?_toList]; exact hu)
    rw [List.getElem?_map] at hx
    obtain ⟨n, h3, rfl⟩ := Option.map_eq_some_iff.mp hx
    have h4 : (kvs.map (·.1))[j]? = some k := by
      obtain ⟨a, ha, hab⟩ := paired_at kv h1
      rw [List.getElem?_map, ha]
      exact congrArg some hab.1
    rw [hks, List.getElem?_map, h3] at h4
    cases h4
    rcases keyIs_shape (show keyIs (Sum.inl n) u = true from h2) with ⟨i, t, e1, rfl⟩ | ⟨x, t, e1, rfl⟩
    · cases e1; exact ⟨t, rfl⟩
    · cases e1)
  refine wpAny_bind (wpAny_newList ?_ (by rw [hal, sizeLine_eq]; omega))
  have hoL : (h'.push (seqObj "list" acc.toList.toArray 0)).get? h'.objs.size = some (seqObj "list" acc.toList.toArray 0) := Heap.get?_push_size _ rfl
  refine wpAny_bind (wpAny_holding (wpAny_call_entry slot_list_sort ⟨_, hoL, rfl⟩ entry_list_sort (list_sort_tree hoL hI (by omega) fun out ns' a1 a2 a3 => ⟨_, rfl, ?_⟩) (args_list_sort _)))
  obtain ⟨e, he⟩ := sortedHeap_at (h := h'.push (seqObj "list" acc.toList.toArray 0)) (a := h'.objs.size) (vs := acc.toList) (out := out) (n := 0) hoL
  have hl' := a2.length_eq
  have I' := I.kept (t' := tk) hk
  refine wpAny_pure ⟨_, rfl, .ref h'.objs.size, _, I'.laid (t' := tk) (fun b o z => ?_) (Nat.le_refl _) (show ObjOk X.prog X.w _ _ _ (.lst (ns'.map V.int)) from ⟨by rw [List.length_map, sizeLine_eq]; omega, out.toList, e, vals_ints a1, by rw [Array.toArray_toList]; exact he⟩), rfl, q _ ns' (I'.hok.fresh (Nat.le_refl _)) a2 a3⟩
  show (sortedHeap _ _ _ _).get? b = some o
  rw [sortedHeap_old (Nat.ne_of_lt (Heap.lt_size z)) (by rw [size_push']; exact Nat.lt_succ_of_lt (Heap.lt_size z))]
  exact Heap.get?_push_of_some _ z
theorem op_notIn_seqK (h : X.K = K) : OpR X (compareOp .NotIn) (rIn K true) := h ▸ op_notIn_seq
theorem op_in_seqK (h : X.K = K) : OpR X (compareOp .In) (rIn K false) := h ▸ op_in_seq
end
end L2
namespace L2
theorem units1 {k : Nat} {A : PySem.Around} (r : Room k A) : A.units + 1 < PySem.cLine := by have := r.un; omega
end L2
namespace L2
open PySem PySem.Spec PyProof.Rows
end L2
namespace L2
open PySem PySem.Spec PyProof.Rows
end L2
namespace Wb
open PySem L2
end Wb
namespace L2
open PySem PySem.Spec PyProof.Rows Wb
end L2
namespace L2
open PySem PySem.Spec PyProof.Rows
def tDSetdef (td ty tx : TE) : TE := fun σ H Q => td σ H fun x H1 => ∃ a, x = .ref a ∧ IsD H1 a ∧ ty σ H1 fun y H2 => tx σ H2 fun z H3 => ∃ kvs k, H3 a = some (.dK kvs) ∧ y = kV k ∧ kvs.length < sizeLine ∧
  (∀ v, valV kvs k = some v → Q v H3) ∧ (valV kvs k = none → Q z (upd H3 a (.dK (putK kvs k z))))
section
variable {X : Cx} {o e f : Expr} {apos cpos : Pos} {td ty tx : TE}
theorem d_setdef {pins : List (Addr × Obj)} {σ : St} {H : Hp} {s : Shared} {a : Addr} {kvs : List (Key × V)} {k : Key} {z : V} {u r : Value} {A : Around} {E : Value → Shared → Prop} {Q : Value → Shared → Prop} (I : Inv X pins σ H s) (e : H a = some (.dK kvs)) (ry : RelV (kV k) u) (rz : RelV z r) (hl : kvs.length < sizeLine)
    (h1 : ∀ v w' s', valV kvs k = some v → Inv X pins σ H s' → RelV v w' → Q w' s') (h2 : valV kvs k = none → ∀ s', Inv X pins σ (upd H a (.dK (putK kvs k z))) s' → Q r s') :
    wpAny (model X.prog X.w) A (call (.builtin "dict.setdefault") [.ref a, u, r]) Q E s := by
  obtain ⟨zz, hd, vs, rel, dd⟩ := dk_of I.hok e
  have hz : vs.length ≤ sizeLine := by rw [← rel.length]; exact zz
  have hp : (putK kvs k z).length ≤ sizeLine := by have := length_putK kvs k z; omega
  have rv := rel.val k
  refine call_meetsIn PySem.F.slot_dict_setdefault dd.typeIs PySem.F.entry_dict_setdefault (PySem.F.args_dict_setdefault_3 _ _ _) (kt_meets_setdefault (mixKind X.prog X.w) a (kV_is ry) hd r) ⟨vs, dd, hz, fun v hv => ?_, fun hn h' dd' hs => ?_⟩
  · rw [hv] at rv
    cases hk : valV kvs k with
    | none => rw [hk] at rv; exact absurd rv id
    | some v' => rw [hk] at rv; exact h1 v' v _ hk (I.tok _) rv
  · rw [hn] at rv
    have hk : valV kvs k = none := by
      cases hk : valV kvs k with
      | none => rfl
      | some v' => rw [hk] at rv; exact absurd rv id
    have he : ∃ q, h'.get? a = some q := let ⟨q, _, _, hq, _⟩ := dd'; ⟨q, hq⟩
    exact h2 hk _ (d_write (I.tok _) (by rw [e]; exact True.intro) hs he (dk_new hp hd (rel.put k rz) dd'))
theorem pe_dsetdef (ho : PE X o td) (he : PE X e ty) (hf : PE X f tx) (m : M2 X o "setdefault" apos e f cpos) : PE X (.Call (.Attribute o "setdefault" apos) [e, f] [] cpos) (tDSetdef td ty tx) := by
  intro pins s σ H Q I h
  refine wpAny_Call_method m.base m.few m.line PySem.F.plainAttrs_dict PySem.F.slot_dict_setdefault PySem.F.type_dict_setdefault (thn (ho pins s σ H _ I h) fun u s1 ⟨x, H1, I1, rx, a, ex, d, q1⟩ => ?_)
  subst ex
  obtain rfl : u = Value.ref a := rx
  obtain ⟨t1, t2, _⟩ := isD_at I1 d
  refine ⟨t1, t2, ?_⟩
  rw [m.trees]
  refine Calls.callWith_builtin rfl (Calls.evalArgs_plain (Calls.spliced_cons (thn (he pins s1 σ H1 _ I1 q1) fun iv s2 ⟨y, H2, I2, ry, q2⟩ =>
    Calls.spliced_cons (thn (hf pins s2 σ H2 _ I2 q2) fun fv s3 ⟨z, H3, I3, rz, kvs, k, ea, ey, hl, q3, q4⟩ => Calls.spliced_nil ?_))))
  subst ey
  exact d_setdef I3 ea ry rz hl (fun v w' s' hv I' rv => ⟨v, H3, I', rv, q3 v hv⟩) fun hn s' I' => ⟨z, _, I', rz, q4 hn⟩
def tListVals (td : TE) : TE := fun σ H Q => td σ H fun x H1 => ∃ a kvs, x = .ref a ∧ H1 a = some (.dK kvs) ∧ ∀ p, H1 p = none → Q (.ref p) (upd H1 p (.lst (kvs.map (·.2))))
theorem pe_listvals {p pos : Pos} (hg : Gl X "list") (hm : X.mg "list" = none) (hc : X.calm = true) (ho : PE X o td)
    (hbase : attributeBase o "values" X.env (eval o X.env) = eval o X.env := by rfl) (hline : (apos.endLine == cpos.line) = true := by rfl)
    (hs : starEach [.Call (.Attribute o "values" apos) [] [] cpos] X.env = [(false, eval (.Call (.Attribute o "values" apos) [] [] cpos) X.env)] := by rfl) :
    PE X (.Call (.Name "list" p) [.Call (.Attribute o "values" apos) [] [] cpos] [] pos) (tListVals td) := by
  intro pins s σ H Q I h
  refine wpAny_Call_Name_kw (ld_blt I hg hm boot_list ?_ (by decide) (by decide))
  refine PyProof.Rows.callWith_type1 ?_ hs rfl
  rw [hs]
  refine Calls.spliced_cons ?_
  refine wpAny_Call_method0_late hbase hline (thn (ho pins s σ H _ I h) fun v s1 ⟨x, H1, I1, r1, a, kvs, ex, ea, q1⟩ => ?_)
  subst ex
  obtain rfl : v = Value.ref a := r1
  obtain ⟨zz, hd, vs, rel, dd⟩ := dk_of I1.hok ea
  obtain ⟨ep, hat⟩ := dd.dictAt
  obtain ⟨t1, t2, _⟩ := isD_at I1 (show IsD H1 a from .inl ⟨kvs, .inl ea⟩)
  refine ⟨"dict", "dict.values", PySem.F.plainAttrs_dict, PySem.F.slot_dict_values, PySem.F.type_dict_values, t1, t2, Calls.callWith_builtin rfl (PySem.evalArgs_none ?_)⟩
  refine call_meetsIn PySem.F.slot_dict_values dd.typeIs PySem.F.entry_dict_values (PySem.F.args_dict_values_1 _) (meets_dict_values (mixKind X.prog X.w) a hd) ⟨⟨vs, dd⟩, ?_⟩
  refine Calls.spliced_nil ?_
  have hlen : kvs.length = vs.length := Paired.length rel
  have hv : (s1.heap.push { cls := .type "dict_values", data := .fields #[.ref a] }).IsValuesView s1.heap.objs.size a := ⟨_, Heap.get?_push_size _ rfl, rfl, rfl⟩
  have I2 : Inv X pins σ H1 { s1 with heap := s1.heap.push { cls := .type "dict_values", data := .fields #[.ref a] } } := I1.kept (t' := s1.toks) fun b ob q => Heap.get?_push_of_some _ q
  refine PySem.W.kdl_call (PySem.W.kdl_values (knd := mixKind X.prog X.w) (kvs := vs) (ep := ep)) (I2.ok.hd hc) ⟨hv, hat.push _⟩ (by rw [← hlen]; exact zz) fun h' tk acc c' hk e hacc => ?_
  refine ⟨.ref _, _, I2.laid (t' := tk) hk (Nat.le_refl _) (show ObjOk X.prog X.w _ h' _ (.lst (kvs.map (·.2))) from ⟨by rw [List.length_map]; exact zz, acc.toList, c', ?_, by rw [Array.toArray_toList]; exact e⟩), rfl, q1 _ (I2.hok.fresh (Nat.le_refl _))⟩
  refine vals_idx _ _ (by rw [Array.length_toList, hacc.1, List.length_map, hlen]) fun j x u hx hu => ?_
  obtain ⟨k, h1⟩ := hacc.2 j u (by rw [← Array.getElem?_toList]; exact hu)
  obtain ⟨z, h2, h3⟩ := paired_at rel h1
  rw [List.getElem?_map, h2] at hx
  cases hx
  exact h3.2
end
end L2
namespace L2
open PySem PySem.Spec PyProof.Rows
end L2
namespace L2
open PySem PySem.Spec PyProof.Rows
end L2
namespace Mi
inductive Res (α : Type) where
  | ok (a : α) | err (j : Nat) | stuck
namespace Res
variable {α β : Type}
def Ok (m : Res α) (P : α → Prop) : Prop := match m with | .ok a => P a | _ => False
def bind (m : Res α) (f : α → Res β) : Res β := match m with | .ok a => f a | .err j => .err j | .stuck => .stuck
theorem Ok.imp {m : Res α} {P Q : α → Prop} (h : m.Ok P) (k : ∀ a, P a → Q a) : m.Ok Q := by cases m <;> first | exact k _ h | exact h
def OkE (m : Res α) (Er : Nat → Prop) (P : α → Prop) : Prop := match m with | .ok a => P a | .err j => Er j | .stuck => False
theorem okE_bind {m : Res α} {f : α → Res β} {Er : Nat → Prop} {P : β → Prop} (h : (m.bind f).OkE Er P) : m.OkE Er fun a => (f a).OkE Er P := by cases m <;> exact h
theorem bind_okE {m : Res α} {f : α → Res β} {Er : Nat → Prop} {P : β → Prop} (h : m.OkE Er fun a => (f a).OkE Er P) : (m.bind f).OkE Er P := by cases m <;> exact h
theorem OkE.imp {m : Res α} {Er : Nat → Prop} {P Q : α → Prop} (h : m.OkE Er P) (k : ∀ a, P a → Q a) : m.OkE Er Q := by cases m <;> first | exact k _ h | exact h
theorem Ok.e {m : Res α} {Er : Nat → Prop} {P : α → Prop} (h : m.Ok P) : m.OkE Er P := by
  cases m with
  | ok a => exact h
  | err j => exact h.elim
  | stuck => exact h.elim
@[simp] theorem bind_ok' (a : α) (f : α → Res β) : (Res.ok a).bind f = f a := rfl
end Res
abbrev cap : Nat := 100000
def must (b : Prop) [Decidable b] {α : Type} (a : α) : Res α := if b then .ok a else .stuck
theorem must_ok {b : Prop} [Decidable b] {α : Type} {a : α} (h : b) : must b a = .ok a := if_pos h
theorem must_OkE {b : Prop} [Decidable b] {α : Type} {a : α} {Er : Nat → Prop} {P : α → Prop} (h : (must b a).OkE Er P) : b ∧ P a := by
  unfold must at h
  by_cases hb : b
  · rw [if_pos hb] at h; exact ⟨hb, h⟩
  · rw [if_neg hb] at h; exact h.elim
def ofO {α : Type} : Option α → Res α
  | some a => .ok a
  | none => .stuck
theorem ofO_OkE {α : Type} {o : Option α} {Er : Nat → Prop} {P : α → Prop} (h : (ofO o).OkE Er P) : ∃ a, o = some a ∧ P a := by
  cases o with
  | none => exact h.elim
  | some a => exact ⟨a, rfl, h⟩
abbrev Tx := List Nat
def absI (i : Int) : Int := if i < 0 then -i else i
def mulR (i j : Int) : Res Int := must ((-(2 ^ 64) < i ∧ i < 2 ^ 64) ∨ (-(2 ^ 64) < j ∧ j < 2 ^ 64)) (i * j)
def fdivR (i j : Int) : Res Int := must (0 < j ∧ j < 1073741824) (i / j)
def modR (i j : Int) : Res Int := must (0 < j) (i % j)
def ixN (n : Nat) (i : Int) : Option Nat := if 0 ≤ i then (if i < n then some i.toNat else none) else if -(n : Int) ≤ i then some (i + n).toNat else none
def atZ {α : Type} (xs : List α) (i : Int) : Option α := (ixN xs.length i).bind fun j => xs[j]?
theorem atZ_nat {α : Type} {xs : List α} {j : Nat} {v : α} (h : xs[j]? = some v) : atZ xs (j : Int) = some v := by
  have hl : j < xs.length := (List.getElem?_eq_some_iff.mp h).1
  unfold atZ ixN
  rw [if_pos (by omega), if_pos (by omega), Int.toNat_natCast]
  exact h
theorem atZ_of {α : Type} {xs : List α} {i : Int} (h0 : 0 ≤ i) (h1 : i < xs.length) : ∃ h : i.toNat < xs.length, atZ xs i = some xs[i.toNat] := by
  have h2 : i.toNat < xs.length := by omega
  refine ⟨h2, ?_⟩
  have := atZ_nat (xs := xs) (j := i.toNat) (v := xs[i.toNat]) (by simp [h2])
  rw [Int.toNat_of_nonneg h0] at this
  exact this
def ixL {α : Type} (xs : List α) (i : Int) : Res α := ofO (atZ xs i)
def ixS (x : Tx) (i : Int) : Res Tx := (must (x.length ≤ cap) x).bind fun x => (ofO (atZ x i)).bind fun c => .ok [c]
theorem ixL_ok {α : Type} {xs : List α} {j : Nat} {v : α} (h : xs[j]? = some v) : ixL xs (j : Int) = .ok v := by unfold ixL; rw [atZ_nat h]; rfl
def catS (a b : Tx) : Res Tx := must (a.length + b.length ≤ cap) (a ++ b)
def appL {α : Type} (a : List α) (x : α) : Res (List α) := must (a.length < cap) (a ++ [x])
def repS (a : Tx) (n : Int) : Res Tx := match a with
  | [c] => must (0 ≤ n ∧ n ≤ cap) (List.replicate n.toNat c)
  | _ => .stuck
def lenS (x : Tx) : Res Int := must (x.length ≤ cap) (x.length : Int)
def sIx (n d : Nat) : Option Int → Nat
  | none => d
  | some v => if v < 0 then (v + (n : Int)).toNat else min v.toNat n
def cut {α : Type} (l : List α) (lo hi : Option Int) : List α := (l.drop (sIx l.length 0 lo)).take (sIx l.length l.length hi - sIx l.length 0 lo)
def cutS (x : Tx) (lo hi : Option Int) : Res Tx := must (x.length ≤ cap) (cut x lo hi)
def joinE (xs : List Tx) : Res Tx := must (xs.flatten.length ≤ cap) xs.flatten
def look {κ α : Type} [DecidableEq κ] (kvs : List (κ × α)) (k : κ) : Option α := (kvs.find? fun p => decide (p.1 = k)).map (·.2)
def getD {κ α : Type} [DecidableEq κ] (kvs : List (κ × α)) (k : κ) : Res α := ofO (look kvs k)
def mapR {α β : Type} (f : α → Res β) : List α → Res (List β)
  | [] => .ok []
  | a :: r => (f a).bind fun b => (mapR f r).bind fun bs => .ok (b :: bs)
def compR {α β : Type} (xs : List α) (f : α → Res β) : Res (List β) := (must (xs.length ≤ cap) xs).bind fun xs => mapR f xs
def filtR {α β : Type} (f : α → Res (Option β)) : List α → Res (List β)
  | [] => .ok []
  | a :: r => (f a).bind fun b => (filtR f r).bind fun bs => .ok (match b with | some b => b :: bs | none => bs)
def compF {α β : Type} (xs : List α) (f : α → Res (Option β)) : Res (List β) := (must (xs.length ≤ cap) xs).bind fun xs => filtR f xs
def forR {α S : Type} (f : α → S → Res S) : List α → S → Res S
  | [], s => .ok s
  | a :: r, s => (f a s).bind fun s => forR f r s
inductive Fl (γ S : Type) where
  | nx (s : S) | bk (s : S) | rt (r : γ)
def flGo {S γ : Type} (k : S → Res (Fl γ S)) : Fl γ S → Res (Fl γ S)
  | .nx s => k s
  | .bk s => .ok (.nx s)
  | .rt x => .ok (.rt x)
def forF {α S γ : Type} (f : α → S → Res (Fl γ S)) : List α → S → Res (Fl γ S)
  | [], s => .ok (.nx s)
  | a :: r, s => (f a s).bind (flGo (forF f r))
def rangeN (n : Int) : List Int := (List.range n.toNat).map fun (i : Nat) => (i : Int)
def rangeR (n : Int) : Res (List Int) := must (-(2 ^ 62) ≤ n ∧ n < 2 ^ 62) (rangeN n)
def enumL {α : Type} (xs : List α) : List (Int × α) := (List.range xs.length).zipWith (fun (i : Nat) x => ((i : Int), x)) xs
def sorted (xs : List Int) : List Int := xs.mergeSort fun a b => decide (a ≤ b)
theorem sorted_perm (xs : List Int) : (sorted xs).Perm xs := List.mergeSort_perm _ _
theorem sorted_le (xs : List Int) : (sorted xs).Pairwise (· ≤ ·) := by
  have := List.pairwise_mergeSort (le := fun a b : Int => decide (a ≤ b)) (fun a b c h1 h2 => by simp at *; omega) (fun a b => by simp; omega) xs
  exact this.imp fun h => by simpa using h
theorem sorted_eq {xs ys : List Int} (h : ys.Perm xs) (hs : ys.Pairwise (· ≤ ·)) : ys = sorted xs :=
  List.Perm.eq_of_pairwise (le := (· ≤ ·)) (fun a b _ _ h1 h2 => by omega) hs (sorted_le xs) (h.trans (sorted_perm xs).symm)
def eqR {α : Type} [DecidableEq α] (a b : α) : Res Bool := if a = b then .ok true else .stuck
theorem mapR_ok {α β : Type} {f : α → Res β} {g : α → β} : ∀ {xs : List α}, (∀ x ∈ xs, f x = .ok (g x)) → mapR f xs = .ok (xs.map g)
  | [], _ => rfl
  | a :: r, h => by
    unfold mapR
    rw [h a (List.mem_cons_self ..), Res.bind_ok', mapR_ok fun x hx => h x (List.mem_cons_of_mem _ hx)]
    rfl
theorem compR_ok {α β : Type} {f : α → Res β} {g : α → β} {xs : List α} (hl : xs.length ≤ cap) (h : ∀ x ∈ xs, f x = .ok (g x)) : compR xs f = .ok (xs.map g) := by
  unfold compR; rw [must_ok hl, Res.bind_ok', mapR_ok h]
end Mi
namespace Mi
def rangeLn {α : Type} (xs : List α) : Res (List Int) := (must (xs.length ≤ cap) xs).bind fun xs => .ok (rangeN (xs.length : Int))
theorem rangeLn_ok {α : Type} {xs : List α} (h : xs.length ≤ cap) : rangeLn xs = .ok (rangeN (xs.length : Int)) := by unfold rangeLn must; rw [if_pos h]; rfl
end Mi
namespace Wb
open PySem L2 Mi
variable {Er : Nat → Prop}
structure Wd where
  G : Hp
  H : Hp
  ok : Same G H
structure Ext (W W' : Wd) : Prop where
  g : Same W.G W'.G
  h : Same W.H W'.H
  k : ∀ p, W.H p ≠ none → W'.G p = W.G p
theorem Ext.refl (W : Wd) : Ext W W := ⟨.refl _, .refl _, fun _ _ => rfl⟩
theorem Ext.trans {W W1 W2 : Wd} (a : Ext W W1) (b : Ext W1 W2) : Ext W W2 := ⟨a.g.trans b.g, a.h.trans b.h, fun p hp => by
  obtain ⟨o, ho⟩ := Option.ne_none_iff_exists'.mp hp
  rw [b.k p (by rw [a.h p o ho]; exact fun z => nomatch z), a.k p hp]⟩
theorem Same.upd2 {G H : Hp} (h : Same G H) (p : Addr) (o : HO) : Same (upd G p o) (upd H p o) := fun a u e => by
  by_cases z : a = p
  · subst z; rw [upd_same] at e ⊢; exact e
  · rw [upd_ne z] at e ⊢; exact h _ _ e
def Wd.new (W : Wd) (p : Addr) (o : HO) : Wd := ⟨upd W.G p o, upd W.H p o, Same.upd2 W.ok p o⟩
theorem Wd.gnone (W : Wd) {p : Addr} (h : W.H p = none) : W.G p = none := none_of W.ok h
theorem Ext.new {W : Wd} {p : Addr} (o : HO) (h : W.H p = none) : Ext W (W.new p o) := ⟨same_upd (W.gnone h), same_upd h, fun q hq => upd_ne fun z => hq (z ▸ h)⟩
def Wd.mut (W : Wd) (p : Addr) (o : HO) (h : W.G p = none) : Wd := ⟨W.G, upd W.H p o, same_keep W.ok h⟩
theorem Ext.own {W : Wd} {p : Addr} (o : HO) (h : W.H p = none) : Ext W (W.mut p o (W.gnone h)) := ⟨.refl _, same_upd h, fun _ _ => rfl⟩
def Wd.frz (W : Wd) (p : Addr) (o : HO) (h : W.H p = some o) : Wd := ⟨upd W.G p o, W.H, fun a u e => by
  by_cases z : a = p
  · subst z; rw [upd_same] at e; cases e; exact h
  · rw [upd_ne z] at e; exact W.ok _ _ e⟩
theorem Ext.mut {W0 W : Wd} {p : Addr} {o : HO} (e : Ext W0 W) (hp : W0.H p = none) (h : W.G p = none) : Ext W0 (W.mut p o h) :=
  ⟨e.g, fun a u z => by show upd W.H p o a = _; rw [upd_ne (ne_of_none z hp)]; exact e.h _ _ z, e.k⟩
theorem Ext.frz {W0 W : Wd} {p : Addr} {o : HO} (e : Ext W0 W) (hp : W0.H p = none) (h : W.H p = some o) (hg : W.G p = none) : Ext W0 (W.frz p o h) :=
  ⟨e.g.trans (same_upd hg), e.h, fun q hq => by show upd W.G p o q = _; rw [upd_ne (fun z => hq (by rw [z]; exact hp))]; exact e.k q hq⟩
abbrev Rw (α : Type) := Wd → α → V → Prop
class MonoW {α : Type} (R : Rw α) : Prop where
  mono : ∀ {W W' : Wd} {a : α} {v : V}, Ext W W' → R W a v → R W' a v
def sh {α : Type} (R : Rp α) : Rw α := fun W a v => R W.G a v
instance zkeep8 {α : Type} {R : Rp α} [Mono R] : MonoW (sh R) := ⟨fun e h => Mono.mono (R := R) e.g h⟩
def pk {α : Type} (R : Rp α) : Rw (List α) := fun W xs v => ∃ p vs, v = .ref p ∧ W.H p = some (.lst vs) ∧ LR R W.G xs vs
instance zkeep9 {α : Type} {R : Rp α} [Mono R] : MonoW (pk R) := ⟨fun e ⟨p, vs, a, b, c⟩ => ⟨p, vs, a, e.h _ _ b, c.same e.g⟩⟩
theorem pk.of {α : Type} {R : Rp α} {W : Wd} {xs : List α} {v : V} (h : isL R W.G xs v) : pk R W xs v := by
  obtain ⟨p, vs, a, b, c⟩ := h
  exact ⟨p, vs, a, W.ok _ _ b, c⟩
structure Ow {α : Type} (R : Rp α) (W : Wd) (p : Addr) (xs : List α) : Prop where
  g : W.G p = none
  h : ∃ vs, W.H p = some (.lst vs) ∧ LR R W.G xs vs
theorem Ow.mono {α : Type} {R : Rp α} [Mono R] {W W' : Wd} {p : Addr} {xs : List α} (o : Ow R W p xs) (e : Ext W W') : Ow R W' p xs := by
  obtain ⟨vs, a, b⟩ := o.h
  exact ⟨by rw [e.k p (by rw [a]; exact fun z => nomatch z)]; exact o.g, vs, e.h _ _ a, b.same e.g⟩
theorem Ow.pk {α : Type} {R : Rp α} {W : Wd} {p : Addr} {xs : List α} (o : Ow R W p xs) : pk R W xs (.ref p) := by
  obtain ⟨vs, a, b⟩ := o.h
  exact ⟨p, vs, rfl, a, b⟩
theorem Ow.frz {α : Type} {R : Rp α} [Mono R] {W0 W : Wd} {p : Addr} {xs : List α} (o : Ow R W p xs) (e : Ext W0 W) (hp : W0.H p = none) :
    ∃ W', W'.H = W.H ∧ Ext W0 W' ∧ Same W.G W'.G ∧ isL R W'.G xs (.ref p) ∧ ∀ q, q ≠ p → W'.G q = W.G q := by
  obtain ⟨vs, a, b⟩ := o.h
  exact ⟨W.frz p _ a, rfl, e.frz hp a o.g, same_upd o.g, ⟨p, vs, rfl, upd_same, b.same (same_upd o.g)⟩, fun q hq => upd_ne hq⟩
def EV (Er : Nat → Prop) {α : Type} (t : TE) (σ : St) (W : Wd) (R : Rw α) (m : Res α) : Prop := ∀ W1, Ext W W1 → ∀ Q : VK, m.OkE Er (fun a => ∀ v W2, Ext W1 W2 → R W2 a v → Q v W2.H) → t σ W1.H Q
def EVo (Er : Nat → Prop) {α : Type} (t : TE) (σ : St) (W : Wd) (R : Rp α) (m : Res (List α)) : Prop := ∀ W1, Ext W W1 → ∀ Q : VK, m.OkE Er (fun xs => ∀ p W2, Ext W1 W2 → W1.H p = none → Ow R W2 p xs → Q (.ref p) W2.H) → t σ W1.H Q
def TV (Er : Nat → Prop) (t : TT) (σ : St) (W : Wd) (m : Res Bool) : Prop := ∀ W1, Ext W W1 → ∀ Q : Bool → Hp → Prop, m.OkE Er (fun b => ∀ W2, Ext W1 W2 → Q b W2.H) → t σ W1.H Q
section
variable {α β γ : Type} {t ta tb : TE} {σ : St} {W W0 W' : Wd} {K : PySem.W.Frag}
theorem EV.imp {R R' : Rw α} {m : Res α} (h : EV Er t σ W R m) (f : ∀ W a v, R W a v → R' W a v) : EV Er t σ W R' m := fun W1 e1 Q k => h W1 e1 Q (k.imp fun a ka v W2 e2 r => ka v W2 e2 (f _ _ _ r))
theorem EVo.ev {R : Rp α} [Mono R] {m : Res (List α)} (h : EVo Er t σ W R m) : EV Er t σ W (sh (isL R)) m := fun W1 e1 Q k => h W1 e1 Q (k.imp fun xs kx p W2 e2 hp o => by
  obtain ⟨W3, hH, e3, _, r, _⟩ := o.frz e2 hp
  rw [← hH]
  exact kx (.ref p) W3 e3 r)
theorem EVo.pk {R : Rp α} [Mono R] {m : Res (List α)} (h : EVo Er t σ W R m) : EV Er t σ W (pk R) m := fun W1 e1 Q k => h W1 e1 Q (k.imp fun xs kx p W2 e2 hp o => kx (.ref p) W2 e2 o.pk)
theorem EV.pk {R : Rp α} {m : Res (List α)} (h : EV Er t σ W (sh (isL R)) m) : EV Er t σ W (pk R) m := h.imp fun _ _ _ r => pk.of r
theorem ev_var {R : Rw α} [MonoW R] {i : Nat} {v : V} {a : α} (r : R W a v) (h : σ[i]? = some (some v) := by rfl) : EV Er (tVar i) σ W R (.ok a) := fun W1 e1 Q k => ⟨v, h, k v W1 (.refl _) (MonoW.mono e1 r)⟩
theorem ev_varO {R : Rp α} [Mono R] {i : Nat} {p : Addr} {a : List α} (r : Ow R W p a) (h : σ[i]? = some (some (.ref p)) := by rfl) : EV Er (tVar i) σ W (pk R) (.ok a) := ev_var r.pk h
def isB : Rp Bool := fun _ b v => v = .bl b
instance zkeep10 : Mono isB := ⟨fun _ h => h⟩
def isO (R : Rp α) : Rp (Option α) := fun H o v => match o with | none => v = .non | some a => R H a v ∧ v ≠ .non
instance zkeep12 {R : Rp α} [Mono R] : Mono (isO R) := ⟨fun {H H' m v} e h => by
  cases m with
  | none => exact h
  | some a => exact ⟨Mono.mono e h.1, h.2⟩⟩
theorem ev_int {i : Int} : EV Er (tC (.int i)) σ W (sh isI) (.ok i) := fun W1 _ Q k => k _ W1 (.refl _) rfl
theorem ev_str {x : Str} {l : Tx} (h : x = sOf l) : EV Er (tC (.str x)) σ W (sh isS) (.ok l) := fun W1 _ Q k => k _ W1 (.refl _) (by rw [h]; rfl)
theorem ev_bl {b : Bool} : EV Er (tC (.bl b)) σ W (sh isB) (.ok b) := fun W1 _ Q k => k _ W1 (.refl _) rfl
theorem ev_none {R : Rp α} : EV Er (tC .non) σ W (sh (isO R)) (.ok none) := fun W1 _ Q k => k _ W1 (.refl _) rfl
theorem ev2 {r : R2} {Ra : Rw α} [MonoW Ra] {Rb : Rw β} {R : Rw γ} {ma : Res α} {mb : Res β} {f : α → β → Res γ} (ha : EV Er ta σ W Ra ma) (hb : EV Er tb σ W Rb mb)
    (h : ∀ W a b x y Q, Ra W a x → Rb W b y → (f a b).OkE Er (fun c => ∀ v W2, Ext W W2 → R W2 c v → Q v W2.H) → r x y W.H Q) : EV Er (tOp r ta tb) σ W R (ma.bind fun a => mb.bind fun b => f a b) := fun W1 e1 Q k => by
  refine ha W1 e1 _ ((Res.okE_bind k).imp fun a ka x W2 e2 hx => ?_)
  refine hb W2 (e1.trans e2) _ ((Res.okE_bind ka).imp fun b kb y W3 e3 hy => ?_)
  exact h W3 a b x y Q (MonoW.mono e3 hx) hy (kb.imp fun c kc v W4 e4 hv => kc v W4 ((e2.trans e3).trans e4) hv)
section
variable {ma mb : Res Int}
theorem ev_rI0 {g : Int → Int → Int} (ha : EV Er ta σ W (sh isI) ma) (hb : EV Er tb σ W (sh isI) mb) : EV Er (tOp (rI0 fun i j => .int (g i j)) ta tb) σ W (sh isI) (ma.bind fun a => mb.bind fun b => .ok (g a b)) :=
  ev2 ha hb fun W a b x y Q hx hy k => by cases hx; cases hy; exact ⟨a, b, rfl, rfl, k _ W (.refl _) rfl⟩
theorem ev_rI {C : Int → Int → Prop} {g : Int → Int → Int} {f : Int → Int → Res Int} (hf : ∀ a b P, (f a b).OkE Er P → C a b ∧ P (g a b)) (ha : EV Er ta σ W (sh isI) ma) (hb : EV Er tb σ W (sh isI) mb) :
    EV Er (tOp (rI C fun i j => .int (g i j)) ta tb) σ W (sh isI) (ma.bind fun a => mb.bind fun b => f a b) :=
  ev2 ha hb fun W a b x y Q hx hy k => by cases hx; cases hy; exact ⟨a, b, rfl, rfl, (hf a b _ k).1, (hf a b _ k).2 _ W (.refl _) rfl⟩
theorem ev_mul (ha : EV Er ta σ W (sh isI) ma) (hb : EV Er tb σ W (sh isI) mb) : EV Er (tOp (rI CMul fun i j => .int (i * j)) ta tb) σ W (sh isI) (ma.bind fun a => mb.bind fun b => mulR a b) := ev_rI (fun a b P h => by unfold mulR at h; obtain ⟨h1, h2⟩ := must_OkE h; exact ⟨h1, h2⟩) ha hb
theorem ev_fdiv (ha : EV Er ta σ W (sh isI) ma) (hb : EV Er tb σ W (sh isI) mb) : EV Er (tOp (rI CDiv fun i j => .int (i / j)) ta tb) σ W (sh isI) (ma.bind fun a => mb.bind fun b => fdivR a b) := ev_rI (fun a b P h => by unfold fdivR at h; obtain ⟨h1, h2⟩ := must_OkE h; exact ⟨h1, h2⟩) ha hb
theorem ev_mod (ha : EV Er ta σ W (sh isI) ma) (hb : EV Er tb σ W (sh isI) mb) : EV Er (tOp (rI (fun _ j => 0 < j) fun i j => .int (i % j)) ta tb) σ W (sh isI) (ma.bind fun a => mb.bind fun b => modR a b) := ev_rI (fun a b P h => by unfold modR at h; obtain ⟨h1, h2⟩ := must_OkE h; exact ⟨h1, h2⟩) ha hb
theorem ev_rIk {C : Int → Int → Prop} {g : Int → Int → Int} {n : Int} (hn : ∀ a, C a n) (ha : EV Er ta σ W (sh isI) ma) : EV Er (tOp (rI C fun i j => .int (g i j)) ta (tC (.int n))) σ W (sh isI) (ma.bind fun a => .ok (g a n)) :=
  fun W1 e1 Q k => ha W1 e1 _ ((Res.okE_bind k).imp fun a ka x W2 e2 hx => by cases hx; exact ⟨a, n, rfl, rfl, hn a, ka _ W2 e2 rfl⟩)
end
end
end Wb
namespace Wb
open PySem L2 Mi
variable {Er : Nat → Prop}
section
variable {α β γ δ : Type} {t ta tb tc : TE} {σ : St} {W W0 W' : Wd} {K : PySem.W.Frag}
theorem capL {n : Nat} (h : n ≤ cap) : n ≤ sizeLine := by rw [sizeLine_eq]; unfold cap at h; omega
section
variable {ma mb : Res Int}
theorem ev_cmp {g : Int → Int → Bool} (ha : EV Er ta σ W (sh isI) ma) (hb : EV Er tb σ W (sh isI) mb) : EV Er (tOp (rI0 fun i j => .bl (g i j)) ta tb) σ W (sh isB) (ma.bind fun a => mb.bind fun b => .ok (g a b)) :=
  ev2 ha hb fun W a b x y Q hx hy k => by cases hx; cases hy; exact ⟨a, b, rfl, rfl, k _ W (.refl _) rfl⟩
end
theorem dI {a b : Int} : decide (V.int a = V.int b) = decide (a = b) := by rw [Bool.eq_iff_iff]; simp
theorem dB {a b : Bool} : decide (V.bl a = V.bl b) = decide (a = b) := by rw [Bool.eq_iff_iff]; simp
theorem dS {a b : Tx} : decide (V.str (sOf a) = V.str (sOf b)) = decide (a = b) := by
  rw [Bool.eq_iff_iff, decide_eq_true_eq, decide_eq_true_eq]
  exact ⟨fun h => sOf_inj (V.str.inj h), fun h => by rw [h]⟩
theorem ev_eqI {ma mb : Res Int} (ha : EV Er ta σ W (sh isI) ma) (hb : EV Er tb σ W (sh isI) mb) : EV Er (tOp rEq ta tb) σ W (sh isB) (ma.bind fun a => mb.bind fun b => .ok (decide (a = b))) :=
  ev2 ha hb fun W a b x y Q hx hy k => by cases hx; cases hy; exact ⟨rfl, by rw [dI]; exact k _ W (.refl _) rfl⟩
theorem ev_eqS {ma mb : Res Tx} (ha : EV Er ta σ W (sh isS) ma) (hb : EV Er tb σ W (sh isS) mb) : EV Er (tOp rEq ta tb) σ W (sh isB) (ma.bind fun a => mb.bind fun b => .ok (decide (a = b))) :=
  ev2 ha hb fun W a b x y Q hx hy k => by cases hx; cases hy; exact ⟨rfl, by rw [dS]; exact k _ W (.refl _) rfl⟩
theorem ev_neS {ma mb : Res Tx} (ha : EV Er ta σ W (sh isS) ma) (hb : EV Er tb σ W (sh isS) mb) : EV Er (tOp rNe ta tb) σ W (sh isB) (ma.bind fun a => mb.bind fun b => .ok (!decide (a = b))) :=
  ev2 ha hb fun W a b x y Q hx hy k => by cases hx; cases hy; exact ⟨rfl, by rw [dS]; exact k _ W (.refl _) rfl⟩
theorem ev_isN {R : Rp α} {ma : Res (Option α)} (ha : EV Er ta σ W (sh (isO R)) ma) : EV Er (tOp (fun x y H Q => y = .non ∧ Q (.bl (decide (x = .non))) H) ta (tC .non)) σ W (sh isB) (ma.bind fun a => .ok a.isNone) := fun W1 e1 Q k =>
  ha W1 e1 _ ((Res.okE_bind k).imp fun a ka x W2 e2 hx => ⟨rfl, by
    have e : decide (x = V.non) = a.isNone := by
      cases a with
      | none => cases hx; rfl
      | some b => rw [decide_eq_false hx.2]; rfl
    rw [e]; exact ka _ W2 e2 rfl⟩)
theorem tv_test {m : Res Bool} (h : EV Er t σ W (sh isB) m) : TV Er (tTest t) σ W m := fun W1 e1 Q k => h W1 e1 _ (k.imp fun b kb v W2 e2 hv => ⟨b, hv, kb W2 e2⟩)
theorem tv_b {m : Res Bool} (h : EV Er t σ W (sh isB) m) : TV Er (tB t) σ W m := fun W1 e1 Q k => h W1 e1 _ (k.imp fun b kb v W2 e2 hv => ⟨b, hv, kb W2 e2⟩)
theorem tv_not {t : TT} {m : Res Bool} (h : TV Er t σ W m) : TV Er (tNot t) σ W (m.bind fun b => .ok (!b)) := fun W1 e1 Q k => h W1 e1 _ ((Res.okE_bind k).imp fun b kb W2 e2 => kb W2 e2)
theorem tv_and {t u : TT} {m n : Res Bool} (h : TV Er t σ W m) (g : TV Er u σ W n) : TV Er (tAnd t u) σ W (m.bind fun b => if b then n else .ok false) := fun W1 e1 Q k => h W1 e1 _ ((Res.okE_bind k).imp fun b kb W2 e2 => by
  cases b with
  | true => exact g W2 (e1.trans e2) _ (kb.imp fun c kc W3 e3 => kc W3 (e2.trans e3))
  | false => exact kb W2 e2)
theorem tv_or {t u : TT} {m n : Res Bool} (h : TV Er t σ W m) (g : TV Er u σ W n) : TV Er (tOr t u) σ W (m.bind fun b => if b then .ok true else n) := fun W1 e1 Q k => h W1 e1 _ ((Res.okE_bind k).imp fun b kb W2 e2 => by
  cases b with
  | true => exact kb W2 e2
  | false => exact g W2 (e1.trans e2) _ (kb.imp fun c kc W3 e3 => kc W3 (e2.trans e3)))
theorem ev_catS {ma mb : Res Tx} (ha : EV Er ta σ W (sh isS) ma) (hb : EV Er tb σ W (sh isS) mb) : EV Er (tOp (fun x y H Q => ∃ i j, x = .str i ∧ y = .str j ∧ i.length + j.length ≤ sizeLine ∧ Q (.str (i ++ j)) H) ta tb) σ W (sh isS) (ma.bind fun a => mb.bind fun b => catS a b) :=
  ev2 ha hb fun W a b x y Q hx hy k => by
    cases hx; cases hy
    obtain ⟨h1, h2⟩ := must_OkE k
    exact ⟨_, _, rfl, rfl, by rw [sOf_len, sOf_len]; exact capL h1, by rw [sOf_append]; exact h2 _ W (.refl _) rfl⟩
theorem ev_repS {ma : Res Tx} {mb : Res Int} (ha : EV Er ta σ W (sh isS) ma) (hb : EV Er tb σ W (sh isI) mb) : EV Er (tOp (fun x y H Q => ∃ c n, x = .str (sOf [c]) ∧ y = .int n ∧ 0 ≤ n ∧ n ≤ 100000 ∧ Q (.str (sOf (List.replicate n.toNat c))) H) ta tb) σ W (sh isS) (ma.bind fun a => mb.bind fun b => repS a b) :=
  ev2 ha hb fun W a b x y Q hx hy k => by
    cases hx; cases hy
    match a, k with
    | [c], k =>
      obtain ⟨h1, h2⟩ := must_OkE k
      exact ⟨c, b, rfl, rfl, h1.1, h1.2, h2 _ W (.refl _) rfl⟩
theorem ev_ixS {ma : Res Tx} {mb : Res Int} (ha : EV Er ta σ W (sh isS) ma) (hb : EV Er tb σ W (sh isI) mb) : EV Er (tOp rIxS ta tb) σ W (sh isS) (ma.bind fun a => mb.bind fun b => ixS a b) :=
  ev2 ha hb fun W a b x y Q hx hy k => by
    cases hx; cases hy
    obtain ⟨h1, h2⟩ := must_OkE (Res.okE_bind k)
    obtain ⟨c, h3, h4⟩ := ofO_OkE (Res.okE_bind h2)
    exact ⟨_, b, c, rfl, rfl, by rw [sOf_len]; exact capL h1, by rw [sOf_cps]; exact h3, h4 _ W (.refl _) rfl⟩
theorem ev_sl {R : Rw α} {r : V → Option Int → Option Int → Hp → VK → Prop} {Ra : Rw β} [MonoW Ra] {ma : Res β} {tl th : TO} {ml mh : Res (Option Int)} {f : β → Option Int → Option Int → Res α} (ha : EV Er ta σ W Ra ma)
    (hl : ∀ W1, Ext W W1 → ∀ Q : Option Int → Hp → Prop, ml.OkE Er (fun o => ∀ W2, Ext W1 W2 → Q o W2.H) → tl σ W1.H Q) (hh : ∀ W1, Ext W W1 → ∀ Q : Option Int → Hp → Prop, mh.OkE Er (fun o => ∀ W2, Ext W1 W2 → Q o W2.H) → th σ W1.H Q)
    (h : ∀ W a x lo hi Q, Ra W a x → (f a lo hi).OkE Er (fun c => ∀ v W2, Ext W W2 → R W2 c v → Q v W2.H) → r x lo hi W.H Q) : EV Er (tSl r ta tl th) σ W R (ma.bind fun a => ml.bind fun lo => mh.bind fun hi => f a lo hi) := fun W1 e1 Q k =>
  ha W1 e1 _ ((Res.okE_bind k).imp fun a ka x W2 e2 hx => hl W2 (e1.trans e2) _ ((Res.okE_bind ka).imp fun lo kl W3 e3 => hh W3 ((e1.trans e2).trans e3) _ ((Res.okE_bind kl).imp fun hi kh W4 e4 =>
    h W4 a x lo hi Q (MonoW.mono (e3.trans e4) hx) (kh.imp fun c kc v W5 e5 hv => kc v W5 (((e2.trans e3).trans e4).trans e5) hv))))
theorem po_no : ∀ W1, Ext W W1 → ∀ Q : Option Int → Hp → Prop, (Res.ok (none : Option Int)).OkE Er (fun o => ∀ W2, Ext W1 W2 → Q o W2.H) → tNoPart σ W1.H Q := fun W1 _ Q k => k W1 (.refl _)
theorem po_at {m : Res Int} (h : EV Er t σ W (sh isI) m) : ∀ W1, Ext W W1 → ∀ Q : Option Int → Hp → Prop, (m.bind fun i => .ok (some i)).OkE Er (fun o => ∀ W2, Ext W1 W2 → Q o W2.H) → tPart t σ W1.H Q := fun W1 e1 Q k =>
  h W1 e1 _ ((Res.okE_bind k).imp fun i ki v W2 e2 hv => ⟨i, hv, ki W2 e2⟩)
theorem ev_cutS {ma : Res Tx} {tl th : TO} {ml mh : Res (Option Int)} (ha : EV Er ta σ W (sh isS) ma)
    (hl : ∀ W1, Ext W W1 → ∀ Q : Option Int → Hp → Prop, ml.OkE Er (fun o => ∀ W2, Ext W1 W2 → Q o W2.H) → tl σ W1.H Q) (hh : ∀ W1, Ext W W1 → ∀ Q : Option Int → Hp → Prop, mh.OkE Er (fun o => ∀ W2, Ext W1 W2 → Q o W2.H) → th σ W1.H Q) :
    EV Er (tSl (fun x lo hi H Q => ∃ l, x = .str (sOf l) ∧ l.length ≤ sizeLine ∧ Q (.str (sOf (cutN l lo hi))) H) ta tl th) σ W (sh isS) (ma.bind fun a => ml.bind fun lo => mh.bind fun hi => cutS a lo hi) :=
  ev_sl ha hl hh fun W a x lo hi Q hx k => by
    cases hx
    obtain ⟨h1, h2⟩ := must_OkE k
    exact ⟨a, rfl, capL h1, h2 _ W (.refl _) rfl⟩
theorem Same.tup {H H' : Hp} {a : Addr} {xs : List V} (e : Same H H') (h : SqT K H a xs) : SqT K H' a xs := by
  rcases h with (h | ⟨o, h⟩) | h
  · exact .inl (.inl (e _ _ h))
  · exact .inl (.inr ⟨o, e _ _ h⟩)
  · exact .inr h
def isT2 (K : PySem.W.Frag) (R1 : Rp α) (R2 : Rp β) : Rp (α × β) := fun H a v => ∃ p x y, v = .ref p ∧ SqT K H p [x, y] ∧ R1 H a.1 x ∧ R2 H a.2 y
theorem atZ_rel {R : Rp α} {H : Hp} {as : List α} {xs : List V} (h : LR R H as xs) {i : Int} {a : α} (e : atZ as i = some a) : ∃ x, L2.atI xs i = some x ∧ R H a x := by
  unfold atZ at e
  unfold L2.atI
  rw [h.1]
  cases z : Mi.ixN as.length i with
  | none => rw [z] at e; cases e
  | some j =>
    rw [z] at e
    obtain ⟨x, h1, h2⟩ := h.get (i := j) e
    exact ⟨x, by show (L2.ixN as.length i).bind _ = _; rw [show L2.ixN as.length i = Mi.ixN as.length i from rfl, z]; exact h1, h2⟩
theorem ev_ixL {R : Rp α} [Mono R] {ma : Res (List α)} {mb : Res Int} (ha : EV Er ta σ W (pk R) ma) (hb : EV Er tb σ W (sh isI) mb) : EV Er (tOp (rIxL K) ta tb) σ W (sh R) (ma.bind fun a => mb.bind fun b => ixL a b) :=
  ev2 ha hb fun W a b x y Q hx hy k => by
    cases hy
    obtain ⟨p, vs, rfl, h, h1⟩ := hx
    obtain ⟨c, h4, h5⟩ := ofO_OkE k
    obtain ⟨z, h6, h7⟩ := atZ_rel h1 h4
    exact ⟨p, _, b, z, rfl, rfl, SqL.of h, h6, h5 _ W (.refl _) h7⟩
theorem ev_lst0 {R : Rp α} : EVo Er (tLst tNil) σ W R (.ok []) := fun W1 e1 Q k => ⟨by decide, fun p hp => k p (W1.mut p (.lst []) (W1.gnone hp)) (.own _ hp) hp ⟨W1.gnone hp, [], upd_same, .nil⟩⟩
theorem LR.cut {R : Rp α} {H : Hp} {as : List α} {vs : List V} (h : LR R H as vs) (lo hi : Option Int) : LR R H (Mi.cut as lo hi) (cutV vs lo hi) := by
  unfold Mi.cut cutV
  rw [h.1]
  exact (h.drop _).take _
theorem ev_cutL {R : Rp α} [Mono R] {ma : Res (List α)} {tl th : TO} {ml mh : Res (Option Int)} (ha : EV Er ta σ W (pk R) ma)
    (hl : ∀ W1, Ext W W1 → ∀ Q : Option Int → Hp → Prop, ml.OkE Er (fun o => ∀ W2, Ext W1 W2 → Q o W2.H) → tl σ W1.H Q) (hh : ∀ W1, Ext W W1 → ∀ Q : Option Int → Hp → Prop, mh.OkE Er (fun o => ∀ W2, Ext W1 W2 → Q o W2.H) → th σ W1.H Q) :
    EVo Er (tSl (rSlL K) ta tl th) σ W R (ma.bind fun a => ml.bind fun lo => mh.bind fun hi => .ok (Mi.cut a lo hi)) := fun W1 e1 Q k =>
  ha W1 e1 _ ((Res.okE_bind k).imp fun a ka x W2 e2 hx => hl W2 (e1.trans e2) _ ((Res.okE_bind ka).imp fun lo kl W3 e3 => hh W3 ((e1.trans e2).trans e3) _ ((Res.okE_bind kl).imp fun hi kh W4 e4 => by
    obtain ⟨p, vs, rfl, h1, h2⟩ := MonoW.mono (e3.trans e4) hx
    have e5 := (e2.trans e3).trans e4
    exact ⟨p, vs, rfl, SqL.of h1, fun r hr => kh r (W4.mut r (.lst (cutV vs lo hi)) (W4.gnone hr)) (e5.trans (.own _ hr)) (none_of e5.h hr) ⟨W4.gnone hr, _, upd_same, h2.cut lo hi⟩⟩)))
theorem ev_abs {ma : Res Int} (ha : EV Er ta σ W (sh isI) ma) : EV Er (tCB (fun xs H Q => ∃ i, xs = [.int i] ∧ Q (.int (if i < 0 then -i else i)) H) (tCons ta tNil)) σ W (sh isI) (ma.bind fun a => .ok (absI a)) := fun W1 e1 Q k =>
  ha W1 e1 _ ((Res.okE_bind k).imp fun a ka x W2 e2 hx => by cases hx; exact ⟨a, rfl, ka _ W2 e2 rfl⟩)
theorem ev_lenL {R : Rp α} {ma : Res (List α)} (ha : EV Er ta σ W (pk R) ma) : EV Er (tCB (fun xs H Q => ∃ x n, xs = [x] ∧ LenV K x H n ∧ Q (.int n) H) (tCons ta tNil)) σ W (sh isI) (ma.bind fun a => .ok (a.length : Int)) := fun W1 e1 Q k =>
  ha W1 e1 _ ((Res.okE_bind k).imp fun a ka x W2 e2 hx => by
    obtain ⟨p, vs, rfl, h1, h2⟩ := hx
    exact ⟨_, a.length, rfl, .inl ⟨vs, SqL.of h1, h2.1.symm⟩, ka _ W2 e2 rfl⟩)
theorem ev_lenS {ma : Res Tx} (ha : EV Er ta σ W (sh isS) ma) : EV Er (tCB (fun xs H Q => ∃ x n, xs = [x] ∧ LenV K x H n ∧ Q (.int n) H) (tCons ta tNil)) σ W (sh isI) (ma.bind fun a => lenS a) := fun W1 e1 Q k =>
  ha W1 e1 _ ((Res.okE_bind k).imp fun a ka x W2 e2 hx => by
    cases hx
    obtain ⟨h1, h2⟩ := must_OkE ka
    exact ⟨_, a.length, rfl, ⟨by rw [sOf_len]; exact capL h1, by rw [sOf_len]⟩, h2 _ W2 e2 rfl⟩)
theorem ev_join {ma : Res (List Tx)} {x : Str} (hx : x = sOf []) (ha : EV Er ta σ W (pk isS) ma) : EV Er (tBM K "str" (fun x xs H Q => ∃ (p : Addr) (ys : List (List Nat)), x = .str (sOf []) ∧ xs = [.ref p] ∧ SqL K H p (ys.map fun y => V.str (sOf y)) ∧ ys.flatten.length ≤ 100000 ∧ Q (.str (sOf ys.flatten)) H) (tC (.str x)) (tCons ta tNil)) σ W (sh isS) (ma.bind fun a => joinE a) := fun W1 e1 Q k =>
  ⟨by show tyV K "str" (.str x) W1.H; rfl, ha W1 e1 _ ((Res.okE_bind k).imp fun a ka v W2 e2 hv => by
    obtain ⟨p, vs, rfl, h1, h2⟩ := hv
    obtain ⟨h3, h4⟩ := must_OkE ka
    exact ⟨p, a, by rw [hx], rfl, SqL.of (by rw [h1, h2.str]), h3, h4 _ W2 e2 rfl⟩)⟩
end
end Wb
namespace Wb
open PySem L2 Mi
variable {Er : Nat → Prop}
abbrev Rt (β : Type) := Wd → β → VK → Prop
def rs {β : Type} (R : Rp β) : Rt β := fun W r Q => ∀ u W', Ext W W' → R W'.G r u → Q u W'.H
def ro {β : Type} (R : Rp β) : Rt (List β) := fun W r Q => ∀ p W', Ext W W' → W.H p = none → Ow R W' p r → Q (.ref p) W'.H
section
variable {α β γ δ ε ζ : Type}
def spM1 (R1 : Rp α) (rt : Rt β) (m : α → Res β) : Sp := fun vs H Q _ => ∃ (W : Wd) (a : α) (v : V), W.H = H ∧ vs = [v] ∧ R1 W.G a v ∧ ∃ Er : Nat → Prop, (m a).OkE Er fun r => rt W r Q
def spM2 (R1 : Rp α) (R2 : Rp γ) (rt : Rt β) (m : α → γ → Res β) : Sp := fun vs H Q _ => ∃ (W : Wd) (a : α) (b : γ) (v u : V), W.H = H ∧ vs = [v, u] ∧ R1 W.G a v ∧ R2 W.G b u ∧ ∃ Er : Nat → Prop, (m a b).OkE Er fun r => rt W r Q
def spM3 (R1 : Rp α) (R2 : Rp γ) (R3 : Rp δ) (rt : Rt β) (m : α → γ → δ → Res β) : Sp := fun vs H Q _ => ∃ (W : Wd) (a : α) (b : γ) (c : δ) (v u w : V), W.H = H ∧ vs = [v, u, w] ∧ R1 W.G a v ∧ R2 W.G b u ∧ R3 W.G c w ∧ ∃ Er : Nat → Prop, (m a b c).OkE Er fun r => rt W r Q
def spM4 (R1 : Rp α) (R2 : Rp γ) (R3 : Rp δ) (R4 : Rp ε) (rt : Rt β) (m : α → γ → δ → ε → Res β) : Sp := fun vs H Q _ => ∃ (W : Wd) (a : α) (b : γ) (c : δ) (d : ε) (v u w x : V), W.H = H ∧ vs = [v, u, w, x] ∧ R1 W.G a v ∧ R2 W.G b u ∧ R3 W.G c w ∧ R4 W.G d x ∧ ∃ Er : Nat → Prop, (m a b c d).OkE Er fun r => rt W r Q
variable {t t1 t2 t3 t4 t5 : TE} {σ : St} {W W0 W' : Wd} {K : PySem.W.Frag}
section
variable {R1 : Rp α} {R2 : Rp γ} {R3 : Rp δ} {R4 : Rp ε} {R5 : Rp ζ} [Mono R1] [Mono R2] [Mono R3] [Mono R4] [Mono R5] {m1 : Res α} {m2 : Res γ} {m3 : Res δ} {m4 : Res ε} {m5 : Res ζ} {E : XK}
theorem ev_call1o {R : Rp β} {m : α → Res (List β)} (h1 : EV Er t1 σ W (sh R1) m1) : EVo Er (tCall (spM1 R1 (ro R) m) [] E (tCons t1 tNil)) σ W R (m1.bind fun a => m a) := fun W1 e1 Q k =>
  h1 W1 e1 _ ((Res.okE_bind k).imp fun a ka v W2 e2 hv => ⟨W2, a, v, rfl, rfl, hv, Er, ka.imp fun r kr p W' e hp o => kr p W' (e2.trans e) (none_of e2.h hp) o⟩)
theorem ev_call2 {R : Rp β} {m : α → γ → Res β} (h1 : EV Er t1 σ W (sh R1) m1) (h2 : EV Er t2 σ W (sh R2) m2) : EV Er (tCall (spM2 R1 R2 (rs R) m) [] E (tCons t1 (tCons t2 tNil))) σ W (sh R) (m1.bind fun a => m2.bind fun b => m a b) := fun W1 e1 Q k =>
  h1 W1 e1 _ ((Res.okE_bind k).imp fun a ka v W2 e2 hv => h2 W2 (e1.trans e2) _ ((Res.okE_bind ka).imp fun b kb u W3 e3 hu => ⟨W3, a, b, v, u, rfl, rfl, MonoW.mono (R := sh R1) e3 hv, hu, Er, kb.imp fun r kr u W' e hu => kr u W' ((e2.trans e3).trans e) hu⟩))
theorem ev_call2o {R : Rp β} {m : α → γ → Res (List β)} (h1 : EV Er t1 σ W (sh R1) m1) (h2 : EV Er t2 σ W (sh R2) m2) : EVo Er (tCall (spM2 R1 R2 (ro R) m) [] E (tCons t1 (tCons t2 tNil))) σ W R (m1.bind fun a => m2.bind fun b => m a b) := fun W1 e1 Q k =>
  h1 W1 e1 _ ((Res.okE_bind k).imp fun a ka v W2 e2 hv => h2 W2 (e1.trans e2) _ ((Res.okE_bind ka).imp fun b kb u W3 e3 hu => ⟨W3, a, b, v, u, rfl, rfl, MonoW.mono (R := sh R1) e3 hv, hu, Er, kb.imp fun r kr p W' e hp o => kr p W' ((e2.trans e3).trans e) (none_of (e2.trans e3).h hp) o⟩))
theorem ev_call3 {R : Rp β} {m : α → γ → δ → Res β} (h1 : EV Er t1 σ W (sh R1) m1) (h2 : EV Er t2 σ W (sh R2) m2) (h3 : EV Er t3 σ W (sh R3) m3) : EV Er (tCall (spM3 R1 R2 R3 (rs R) m) [] E (tCons t1 (tCons t2 (tCons t3 tNil)))) σ W (sh R) (m1.bind fun a => m2.bind fun b => m3.bind fun c => m a b c) := fun W1 e1 Q k =>
  h1 W1 e1 _ ((Res.okE_bind k).imp fun a ka v W2 e2 hv => h2 W2 (e1.trans e2) _ ((Res.okE_bind ka).imp fun b kb u W3 e3 hu => h3 W3 ((e1.trans e2).trans e3) _ ((Res.okE_bind kb).imp fun c kc w W4 e4 hw =>
    ⟨W4, a, b, c, v, u, w, rfl, rfl, MonoW.mono (R := sh R1) (e3.trans e4) hv, MonoW.mono (R := sh R2) e4 hu, hw, Er, kc.imp fun r kr u W' e hu => kr u W' (((e2.trans e3).trans e4).trans e) hu⟩)))
theorem ev_call3o {R : Rp β} {m : α → γ → δ → Res (List β)} (h1 : EV Er t1 σ W (sh R1) m1) (h2 : EV Er t2 σ W (sh R2) m2) (h3 : EV Er t3 σ W (sh R3) m3) : EVo Er (tCall (spM3 R1 R2 R3 (ro R) m) [] E (tCons t1 (tCons t2 (tCons t3 tNil)))) σ W R (m1.bind fun a => m2.bind fun b => m3.bind fun c => m a b c) := fun W1 e1 Q k =>
  h1 W1 e1 _ ((Res.okE_bind k).imp fun a ka v W2 e2 hv => h2 W2 (e1.trans e2) _ ((Res.okE_bind ka).imp fun b kb u W3 e3 hu => h3 W3 ((e1.trans e2).trans e3) _ ((Res.okE_bind kb).imp fun c kc w W4 e4 hw =>
    ⟨W4, a, b, c, v, u, w, rfl, rfl, MonoW.mono (R := sh R1) (e3.trans e4) hv, MonoW.mono (R := sh R2) e4 hu, hw, Er, kc.imp fun r kr p W' e hp o => kr p W' (((e2.trans e3).trans e4).trans e) (none_of ((e2.trans e3).trans e4).h hp) o⟩)))
theorem ev_call4o {R : Rp β} {m : α → γ → δ → ε → Res (List β)} (h1 : EV Er t1 σ W (sh R1) m1) (h2 : EV Er t2 σ W (sh R2) m2) (h3 : EV Er t3 σ W (sh R3) m3) (h4 : EV Er t4 σ W (sh R4) m4) : EVo Er (tCall (spM4 R1 R2 R3 R4 (ro R) m) [] E (tCons t1 (tCons t2 (tCons t3 (tCons t4 tNil))))) σ W R (m1.bind fun a => m2.bind fun b => m3.bind fun c => m4.bind fun d => m a b c d) := fun W1 e1 Q k =>
  h1 W1 e1 _ ((Res.okE_bind k).imp fun a ka v W2 e2 hv => h2 W2 (e1.trans e2) _ ((Res.okE_bind ka).imp fun b kb u W3 e3 hu => h3 W3 ((e1.trans e2).trans e3) _ ((Res.okE_bind kb).imp fun c kc w W4 e4 hw => h4 W4 (((e1.trans e2).trans e3).trans e4) _ ((Res.okE_bind kc).imp fun d kd x W5 e5 hx =>
    ⟨W5, a, b, c, d, v, u, w, x, rfl, rfl, MonoW.mono (R := sh R1) ((e3.trans e4).trans e5) hv, MonoW.mono (R := sh R2) (e4.trans e5) hu, MonoW.mono (R := sh R3) e5 hw, hx, Er, kd.imp fun r kr p W' e hp o => kr p W' ((((e2.trans e3).trans e4).trans e5).trans e) (none_of (((e2.trans e3).trans e4).trans e5).h hp) o⟩))))
end
def Yl (J : It) (W : Wd) (R : Rp α) (xs : List α) : Prop := ∀ W1 : Wd, Same W.G W1.G → (∀ (i : Nat) (a : α), xs[i]? = some a → J.go i W1.H ∧ ∀ x H', J.yld i W1.H x H' → ∃ W2 : Wd, W2.H = H' ∧ Ext W1 W2 ∧ R W2.G a x) ∧ J.stop xs.length W1.H
def IV (Er : Nat → Prop) (wi : TI) (σ : St) (W : Wd) (R : Rp α) (m : Res (List α)) : Prop := ∀ W1, Ext W W1 → ∀ P : It → Hp → Prop, m.OkE Er (fun xs => ∀ J W2, Ext W1 W2 → Yl J W2 R xs → P J W2.H) → wi σ W1.H P
theorem iv_list {R : Rp α} [Mono R] {m : Res (List α)} (h : EV Er t σ W (sh (isL R)) m) : IV Er (iList K t) σ W R m := fun W1 e1 P k =>
  h W1 e1 _ (k.imp fun xs kx v W2 e2 hv => by
    obtain ⟨p, vs, rfl, h1, h2⟩ := hv
    refine ⟨p, rfl, ⟨vs, SqL.of (W2.ok _ _ h1)⟩, kx _ W2 e2 fun W3 e3 => ⟨fun i a ha => ?_, vs, SqL.of (W3.ok _ _ (e3 _ _ h1)), by rw [h2.1]; exact Nat.le_refl _⟩⟩
    obtain ⟨x, hx, hr⟩ := h2.get ha
    refine ⟨⟨vs, x, SqL.of (W3.ok _ _ (e3 _ _ h1)), hx⟩, fun y H' ⟨z1, z2⟩ => ⟨W3, z1.symm, .refl _, ?_⟩⟩
    have := z2 vs (SqL.of (W3.ok _ _ (e3 _ _ h1)))
    rw [hx] at this
    cases this
    exact Mono.mono e3 hr)
theorem iv_range {m : Res Int} (h : EV Er t σ W (sh isI) m) : IV Er (iRng1 (tCons t tNil)) σ W isI (m.bind fun n => rangeR n) := fun W1 e1 P k =>
  h W1 e1 _ ((Res.okE_bind k).imp fun n kn v W2 e2 hv => by
    cases hv
    obtain ⟨hb, kn⟩ := must_OkE kn
    refine ⟨n, rfl, hb.1, hb.2, kn _ W2 e2 fun W3 e3 => ⟨fun i a ha => ?_, by show n.toNat ≤ (rangeN n).length; simp [rangeN]⟩⟩
    unfold rangeN at ha
    rw [List.getElem?_map] at ha
    have hi : i < n.toNat := by
      refine Classical.byContradiction fun z => ?_
      rw [List.getElem?_eq_none_iff.mpr (by simp; omega)] at ha; cases ha
    rw [List.getElem?_range hi] at ha
    cases ha
    exact ⟨hi, fun y H' ⟨z1, z2⟩ => ⟨W3, z1.symm, .refl _, by rw [z2]; show V.int (0 + (i : Int)) = .int (i : Int); rw [Int.zero_add]⟩⟩)
theorem enum_get {xs : List α} {i : Nat} {p : Int × α} (h : (enumL xs)[i]? = some p) : p.1 = (i : Int) ∧ xs[i]? = some p.2 := by
  unfold enumL at h
  rw [List.getElem?_zipWith] at h
  cases h1 : (List.range xs.length)[i]? with
  | none => rw [h1] at h; cases h
  | some j =>
    cases h2 : xs[i]? with
    | none => rw [h1, h2] at h; cases h
    | some x =>
      rw [h1, h2] at h; cases h
      have hi := (List.getElem?_eq_some_iff.mp h2).1
      rw [List.getElem?_range hi] at h1
      cases h1
      exact ⟨rfl, rfl⟩
theorem enum_len {xs : List α} : (enumL xs).length = xs.length := by simp [enumL]
theorem iv_enum {R : Rp α} [Mono R] {m : Res (List α)} (h : EV Er t σ W (sh (isL R)) m) : IV Er (iEnum K (tCons t tNil)) σ W (isT2 K isI R) (m.bind fun xs => .ok (enumL xs)) := fun W1 e1 P k =>
  h W1 e1 _ ((Res.okE_bind k).imp fun xs kx v W2 e2 hv => by
    obtain ⟨p, vs, rfl, h1, h2⟩ := hv
    refine ⟨p, vs, rfl, SqL.of (W2.ok _ _ h1), kx _ W2 e2 fun W3 e3 => ⟨fun i ab hab => ?_, vs, SqL.of (W3.ok _ _ (e3 _ _ h1)), by rw [enum_len, h2.1]⟩⟩
    obtain ⟨hi, ha⟩ := enum_get hab
    obtain ⟨x, hx, rx⟩ := h2.get ha
    refine ⟨⟨vs, x, SqL.of (W3.ok _ _ (e3 _ _ h1)), hx⟩, fun z H' ⟨q, x', hq, z0, z1, z2⟩ => ⟨W3.new q (.tup [.int i, x']), by rw [z2]; rfl, .new _ hq, q, _, x', z0, SqT.of upd_same, by rw [hi]; rfl, ?_⟩⟩
    have := z1 vs (SqL.of (W3.ok _ _ (e3 _ _ h1))); rw [hx] at this; cases this
    exact Mono.mono (e3.trans (Ext.new _ hq).g) rx)
theorem mapR_drop {f : α → Res β} {xs : List α} {i : Nat} {a : α} (h : xs[i]? = some a) : mapR f (xs.drop i) = (f a).bind fun b => (mapR f (xs.drop (i + 1))).bind fun bs => .ok (b :: bs) := by
  obtain ⟨hi, e⟩ := List.getElem?_eq_some_iff.mp h
  rw [List.drop_eq_getElem_cons hi, e]
  rfl
theorem filtR_drop {f : α → Res (Option β)} {xs : List α} {i : Nat} {a : α} (h : xs[i]? = some a) : filtR f (xs.drop i) = (f a).bind fun b => (filtR f (xs.drop (i + 1))).bind fun bs => .ok (match b with | some b => b :: bs | none => bs) := by
  obtain ⟨hi, e⟩ := List.getElem?_eq_some_iff.mp h
  rw [List.drop_eq_getElem_cons hi, e]
  rfl
theorem ev_comp {cap : List (Option Nat)} {wi : TI} {g : TG} {te : TE} {R : Rp α} {R' : Rp β} [Mono R'] {m : Res (List α)} {f : α → Res β} (hi : IV Er wi σ W R m)
    (hb : ∀ (W1 : Wd) (a : α) (v : V), Ext W W1 → R W1.G a v → ∀ Q : VK, (f a).OkE Er (fun b => ∀ u W2, Ext W1 W2 → R' W2.G b u → Q u W2.H) → g v (capSt cap σ) W1.H fun σ2 H2 => Keep (capSt cap σ) σ2 ∧ te σ2 H2 Q) :
    EVo Er (tComp cap wi g tYes te) σ W R' (m.bind fun xs => compR xs f) := fun W1 e1 Q k => by
  refine hi W1 e1 _ ((Res.okE_bind k).imp fun xs kx J W2 e2 hy => ?_)
  obtain ⟨hl, kx⟩ := must_OkE (Res.okE_bind kx)
  refine ⟨fun i n ys H => n = xs.length - i ∧ i ≤ xs.length ∧ ys.length ≤ i ∧ ∃ (W3 : Wd) (bs : List β), W3.H = H ∧ Ext W2 W3 ∧ LR R' W3.G bs ys ∧ (mapR f (xs.drop i)).OkE Er (fun r => ∀ p W4, Ext W1 W4 → W1.H p = none → Ow R' W4 p (bs ++ r) → Q (.ref p) W4.H), ⟨xs.length, by simp, by simp, by simp, W2, [], rfl, .refl _, .nil, ?_⟩, ?_⟩
  · simpa using kx
  · rintro i n ys H ⟨rfl, hi1, hyl, W3, bs, rfl, e3, lr, q⟩
    refine ⟨by rw [sizeLine_eq]; unfold Mi.cap at hl; omega, ?_⟩
    by_cases hlt : i < xs.length
    · obtain ⟨a, ha⟩ : ∃ a, xs[i]? = some a := ⟨xs[i], by simp [hlt]⟩
      obtain ⟨h1, h2⟩ := (hy W3 e3.g).1 i a ha
      refine .inr ⟨h1, fun ys' H' => ys'.length ≤ i + 1 ∧ ∃ (W3 : Wd) (bs : List β), W3.H = H' ∧ Ext W2 W3 ∧ LR R' W3.G bs ys' ∧ (mapR f (xs.drop (i + 1))).OkE Er (fun r => ∀ p W4, Ext W1 W4 → W1.H p = none → Ow R' W4 p (bs ++ r) → Q (.ref p) W4.H), fun ys' H' ⟨z1, z2⟩ => ⟨xs.length - (i + 1), by omega, rfl, hlt, z1, z2⟩, fun x H' hx => ?_⟩
      obtain ⟨W4, rfl, e4, rx⟩ := h2 x H' hx
      rw [mapR_drop ha] at q
      have := hb W4 a x (e1.trans ((e2.trans e3).trans e4)) rx (fun y H4 => (ys ++ [y]).length ≤ i + 1 ∧ ∃ (W3 : Wd) (bs : List β), W3.H = H4 ∧ Ext W2 W3 ∧ LR R' W3.G bs (ys ++ [y]) ∧ (mapR f (xs.drop (i + 1))).OkE Er (fun r => ∀ p W4, Ext W1 W4 → W1.H p = none → Ow R' W4 p (bs ++ r) → Q (.ref p) W4.H))
        ((Res.okE_bind q).imp fun b kb u W5 e5 hu => ⟨by simp; exact hyl, W5, bs ++ [b], rfl, (e3.trans e4).trans e5, (lr.same (e4.trans e5).g).snoc hu, (Res.okE_bind kb).imp fun r kr => by rw [List.append_assoc]; exact kr⟩)
      exact this
    · have e : i = xs.length := by omega
      subst e
      rw [List.drop_length] at q
      refine .inl ⟨(hy W3 e3.g).2, fun D hD => ?_⟩
      have e13 := e2.trans e3
      have := q D (W3.mut D (.lst ys) (W3.gnone hD)) (e13.trans (.own _ hD)) (none_of e13.h hD) ⟨W3.gnone hD, ys, upd_same, by rw [List.append_nil]; exact lr⟩
      exact this
theorem ev_compF {cap : List (Option Nat)} {wi : TI} {g : TG} {tf : TT} {te : TE} {R : Rp α} {R' : Rp β} [Mono R'] {m : Res (List α)} {f : α → Res (Option β)} (hi : IV Er wi σ W R m)
    (hb : ∀ (W1 : Wd) (a : α) (v : V), Ext W W1 → R W1.G a v → ∀ Q : Option V → Hp → Prop, (f a).OkE Er (fun b => ∀ u W2, Ext W1 W2 → (match b, u with | some b, some u => R' W2.G b u | none, none => True | _, _ => False) → Q u W2.H) → g v (capSt cap σ) W1.H fun σ2 H2 => Keep (capSt cap σ) σ2 ∧ tf σ2 H2 fun b H3 => if b = true then te σ2 H3 (fun y H4 => Q (some y) H4) else Q none H3) :
    EVo Er (tComp cap wi g tf te) σ W R' (m.bind fun xs => compF xs f) := fun W1 e1 Q k => by
  refine hi W1 e1 _ ((Res.okE_bind k).imp fun xs kx J W2 e2 hy => ?_)
  obtain ⟨hl, kx⟩ := must_OkE (Res.okE_bind kx)
  refine ⟨fun i n ys H => n = xs.length - i ∧ i ≤ xs.length ∧ ys.length ≤ i ∧ ∃ (W3 : Wd) (bs : List β), W3.H = H ∧ Ext W2 W3 ∧ LR R' W3.G bs ys ∧ (filtR f (xs.drop i)).OkE Er (fun r => ∀ p W4, Ext W1 W4 → W1.H p = none → Ow R' W4 p (bs ++ r) → Q (.ref p) W4.H), ⟨xs.length, by simp, by simp, by simp, W2, [], rfl, .refl _, .nil, ?_⟩, ?_⟩
  · simpa using kx
  · rintro i n ys H ⟨rfl, hi1, hyl, W3, bs, rfl, e3, lr, q⟩
    refine ⟨by rw [sizeLine_eq]; unfold Mi.cap at hl; omega, ?_⟩
    by_cases hlt : i < xs.length
    · obtain ⟨a, ha⟩ : ∃ a, xs[i]? = some a := ⟨xs[i], by simp [hlt]⟩
      obtain ⟨h1, h2⟩ := (hy W3 e3.g).1 i a ha
      refine .inr ⟨h1, fun ys' H' => ys'.length ≤ i + 1 ∧ ∃ (W3 : Wd) (bs : List β), W3.H = H' ∧ Ext W2 W3 ∧ LR R' W3.G bs ys' ∧ (filtR f (xs.drop (i + 1))).OkE Er (fun r => ∀ p W4, Ext W1 W4 → W1.H p = none → Ow R' W4 p (bs ++ r) → Q (.ref p) W4.H), fun ys' H' ⟨z1, z2⟩ => ⟨xs.length - (i + 1), by omega, rfl, hlt, z1, z2⟩, fun x H' hx => ?_⟩
      obtain ⟨W4, rfl, e4, rx⟩ := h2 x H' hx
      rw [filtR_drop ha] at q
      have := hb W4 a x (e1.trans ((e2.trans e3).trans e4)) rx (fun y H4 => (match y with | some y => ys ++ [y] | none => ys).length ≤ i + 1 ∧ ∃ (W3 : Wd) (bs : List β), W3.H = H4 ∧ Ext W2 W3 ∧ LR R' W3.G bs (match y with | some y => ys ++ [y] | none => ys) ∧ (filtR f (xs.drop (i + 1))).OkE Er (fun r => ∀ p W4, Ext W1 W4 → W1.H p = none → Ow R' W4 p (bs ++ r) → Q (.ref p) W4.H))
        ((Res.okE_bind q).imp fun b kb u W5 e5 hu => by
          match b, u, hu, kb with
          | some b, some u, hu, kb => exact ⟨by simp; exact hyl, W5, bs ++ [b], rfl, (e3.trans e4).trans e5, (lr.same (e4.trans e5).g).snoc hu, (Res.okE_bind kb).imp fun r kr => by rw [List.append_assoc]; exact kr⟩
          | none, none, hu, kb => exact ⟨by show ys.length ≤ i + 1; omega, W5, bs, rfl, (e3.trans e4).trans e5, lr.same (e4.trans e5).g, (Res.okE_bind kb).imp fun r kr => kr⟩)
      exact this
    · have e : i = xs.length := by omega
      subst e
      rw [List.drop_length] at q
      refine .inl ⟨(hy W3 e3.g).2, fun D hD => ?_⟩
      have e13 := e2.trans e3
      have := q D (W3.mut D (.lst ys) (W3.gnone hD)) (e13.trans (.own _ hD)) (none_of e13.h hD) ⟨W3.gnone hD, ys, upd_same, by rw [List.append_nil]; exact lr⟩
      exact this
end
end Wb
namespace Wb
open PySem L2 Mi
variable {Er : Nat → Prop}
section
variable {α β γ δ : Type} {t u : TS} {te ti : TE} {g : TG} {D : Ends} {σ : St} {W W0 W' : Wd} {K : PySem.W.Frag} {i j k n : Nat} {P : St → Hp → Prop} {H : Hp} {v : V}
theorem gn {σ' : St} (h : P σ' H) (hσ : σ.set i (some v) = σ' := by rfl) : gName i v σ H P := by subst hσ; exact h
theorem gt2n {σ' : V → V → St} {R1 : Rp α} {R2 : Rp β} {ab : α × β} (h : isT2 K R1 R2 W.G ab v) (q : ∀ x y, R1 W.G ab.1 x → R2 W.G ab.2 y → P (σ' x y) W.H) (hσ : ∀ x y, (σ.set i (some x)).set j (some y) = σ' x y := by intro _ _; rfl) : gTup K 2 (gCons (gName i) (gCons (gName j) gNil)) v σ W.H P := by
  obtain ⟨p, x, y, h0, h, h1, h2⟩ := h
  exact ⟨p, _, h0, Same.tup W.ok h, rfl, x, _, rfl, y, _, rfl, rfl, by have := q x y h1 h2; rw [← hσ] at this; exact this⟩
theorem sv_asg {σ' : V → St} {R : Rw α} {m : Res α} (h : EV Er te σ W R m) (q : m.OkE Er fun a => ∀ v W', Ext W W' → R W' a v → D.nx (σ' v) W'.H) (hσ : ∀ v, σ.set i (some v) = σ' v := by intro _; rfl) : tAsg te (gName i) D σ W.H := h W (.refl _) _ (q.imp fun a k v W' e r => by have := k v W' e r; rw [← hσ] at this; exact this)
theorem sv_asgO {σ' : Addr → St} {R : Rp α} {m : Res (List α)} (h : EVo Er te σ W R m) (q : m.OkE Er fun a => ∀ p W', Ext W W' → W.H p = none → Ow R W' p a → D.nx (σ' p) W'.H) (hσ : ∀ p, σ.set i (some (.ref p)) = σ' p := by intro _; rfl) : tAsg te (gName i) D σ W.H := h W (.refl _) _ (q.imp fun a k p W' e hp r => by have := k p W' e hp r; rw [← hσ] at this; exact this)
theorem sv_ret {R : Rw α} {m : Res α} (h : EV Er te σ W R m) (q : m.OkE Er fun a => ∀ v W', Ext W W' → R W' a v → D.rt v W'.H) : tRet te D σ W.H := h W (.refl _) _ q
theorem sv_retO {R : Rp α} {m : Res (List α)} (h : EVo Er te σ W R m) (q : m.OkE Er fun a => ∀ p W', Ext W W' → W.H p = none → Ow R W' p a → D.rt (.ref p) W'.H) : tRet te D σ W.H := h W (.refl _) _ q
theorem sv_if {c : TT} {m : Res Bool} (h : TV Er c σ W m) (q : m.OkE Er fun b => ∀ W', Ext W W' → if b = true then t D σ W'.H else u D σ W'.H) : tIfS c t u D σ W.H := h W (.refl _) _ q
theorem sv_ifj {S : Type} {c : TT} {m : Res Bool} {mA mB : Res S} {P : S → Prop} (Iv : S → Wd → St → Prop) (h : TV Er c σ W m) (q : (m.bind fun b => if b then mA else mB).OkE Er P)
    (hA : ∀ W' (N : St → Hp → Prop), Ext W W' → (∀ s W1 σ1, Same W.G W1.G → Iv s W1 σ1 → P s → N σ1 W1.H) → mA.OkE Er P → t { D with nx := N } σ W'.H)
    (hB : ∀ W' (N : St → Hp → Prop), Ext W W' → (∀ s W1 σ1, Same W.G W1.G → Iv s W1 σ1 → P s → N σ1 W1.H) → mB.OkE Er P → u { D with nx := N } σ W'.H)
    (hd : ∀ s W1 σ1, Same W.G W1.G → Iv s W1 σ1 → P s → D.nx σ1 W1.H) : tIfS c t u D σ W.H := h W (.refl _) _ ((Res.okE_bind q).imp fun b kb W' e => by
  cases b with
  | true => exact hA W' D.nx e hd kb
  | false => exact hB W' D.nx e hd kb)
structure Mu (W W' : Wd) (p : Addr) : Prop where
  g : Same W.G W'.G
  e : ∀ W0 : Wd, Ext W0 W → W0.H p = none → Ext W0 W'
  h : ∀ q, q ≠ p → W.H q ≠ none → W'.H q = W.H q ∧ W'.G q = W.G q
theorem Mu.of {W1 : Wd} {p : Addr} {o : HO} (e1 : Ext W W1) (hg : W1.G p = none) : Mu W (W1.mut p o hg) p := ⟨e1.g, fun W0 e0 hp => (e0.trans e1).mut hp hg, fun q hq hn => by
  obtain ⟨o', ho⟩ := Option.ne_none_iff_exists'.mp hn
  exact ⟨by show upd W1.H p o q = _; rw [upd_ne hq, e1.h _ _ ho, ho], e1.k q hn⟩⟩
theorem sv_app {R : Rp α} [Mono R] {p : Addr} {xs : List α} {m : Res α} (o : Ow R W p xs) (h : EV Er te σ W (sh R) m) (q : (m.bind fun a => appL xs a).OkE Er fun ys => ∀ W', Mu W W' p → Ow R W' p ys → D.nx σ W'.H) (hi : σ[i]? = some (some (.ref p)) := by rfl) : tDrop (tBM K "list" rAppend (tVar i) (tCons te tNil)) D σ W.H := by
  obtain ⟨vs, h1, h2⟩ := o.h
  refine ⟨.ref p, hi, .inl ⟨rfl, vs, SqL.of h1⟩, h W (.refl _) _ ((Res.okE_bind q).imp fun a ka v W2 e2 hv => ?_)⟩
  obtain ⟨h3, h4⟩ := must_OkE ka
  have hg := (o.mono e2).g
  refine ⟨p, vs, v, rfl, rfl, e2.h _ _ h1, by rw [h2.1, sizeLine_eq]; unfold Mi.cap at h3; omega, h4 (W2.mut p (.lst (vs ++ [v])) hg) (.of e2 hg) ⟨hg, _, upd_same, (h2.same e2.g).snoc hv⟩⟩
def nxF {S : Type} (W : Wd) (Iv : S → Wd → St → Prop) (P : S → Prop) : St → Hp → Prop := fun σ' H' => ∃ s' W', W'.H = H' ∧ Same W.G W'.G ∧ Iv s' W' σ' ∧ P s'
theorem forR_drop {S : Type} {f : α → S → Res S} {xs : List α} {i : Nat} {a : α} {s : S} (h : xs[i]? = some a) : forR f (xs.drop i) s = (f a s).bind fun s => forR f (xs.drop (i + 1)) s := by
  obtain ⟨hi, e⟩ := List.getElem?_eq_some_iff.mp h
  rw [List.drop_eq_getElem_cons hi, e]
  rfl
theorem sv_for {S : Type} {wi : TI} {tb : TS} {R : Rp α} {m : Res (List α)} {f : α → S → Res S} {s0 : S} {P : S → Prop} (Iv : S → Wd → St → Prop) (hi : IV Er wi σ W R m) (q : (m.bind fun xs => forR f xs s0).OkE Er P)
    (h0 : ∀ W1, Ext W W1 → Iv s0 W1 σ)
    (hs : ∀ Wb W1 W2 a v s σ1 P', Same W.G W1.G → Same Wb.G W1.G → Iv s W1 σ1 → Ext W1 W2 → R W2.G a v → (f a s).OkE Er P' → g v σ1 W2.H fun σ2 H2 => tb { D with nx := nxF Wb Iv P', ct := nxF Wb Iv P', bk := D.nx } σ2 H2)
    (hd : ∀ s W1 σ1, Same W.G W1.G → Iv s W1 σ1 → P s → D.nx σ1 W1.H) : tFor wi g tb D σ W.H := by
  refine hi W (.refl _) _ ((Res.okE_bind q).imp fun xs kx J W1 e1 hy => ?_)
  refine ⟨fun i n σ' H' => n = xs.length - i ∧ i ≤ xs.length ∧ ∃ s' W', W'.H = H' ∧ Same W1.G W'.G ∧ Iv s' W' σ' ∧ (forR f (xs.drop i) s').OkE Er P, ⟨xs.length, by simp, by simp, s0, W1, rfl, .refl _, h0 W1 e1, by simpa using kx⟩, ?_⟩
  rintro i n σ1 H1 ⟨rfl, hi1, s, W2, rfl, e2, iv, k⟩
  by_cases hlt : i < xs.length
  · obtain ⟨a, ha⟩ : ∃ a, xs[i]? = some a := ⟨xs[i], by simp [hlt]⟩
    obtain ⟨h1, h2⟩ := (hy W2 e2).1 i a ha
    refine .inr ⟨h1, nxF W1 Iv fun s' => (forR f (xs.drop (i + 1)) s').OkE Er P, fun σ' H' ⟨s', W', z1, z2, z3, z4⟩ => ⟨xs.length - (i + 1), by omega, rfl, hlt, s', W', z1, z2, z3, z4⟩, fun x H' hx => ?_⟩
    obtain ⟨W3, rfl, e3, rx⟩ := h2 x H' hx
    rw [forR_drop ha] at k
    exact hs W1 W2 W3 a x s σ1 (fun s' => (forR f (xs.drop (i + 1)) s').OkE Er P) (e1.g.trans e2) e2 iv e3 rx (Res.okE_bind k)
  · have e : i = xs.length := by omega
    subst e
    rw [List.drop_length] at k
    exact .inl ⟨(hy W2 e2).2, hd s W2 σ1 (e1.g.trans e2) iv k⟩
theorem forF_drop {S : Type} {f : α → S → Res (Fl γ S)} {xs : List α} {i : Nat} {a : α} {s : S} (h : xs[i]? = some a) : forF f (xs.drop i) s = (f a s).bind (flGo (forF f (xs.drop (i + 1)))) := by
  obtain ⟨hi, e⟩ := List.getElem?_eq_some_iff.mp h
  rw [List.drop_eq_getElem_cons hi, e]
  rfl
theorem sv_forF {S : Type} {wi : TI} {tb : TS} {R : Rp α} {m : Res (List α)} {f : α → S → Res (Fl γ S)} {s0 : S} {P : Fl γ S → Prop} (Iv : S → Wd → St → Prop) (hi : IV Er wi σ W R m) (q : (m.bind fun xs => forF f xs s0).OkE Er P)
    (h0 : ∀ W1, Ext W W1 → Iv s0 W1 σ)
    (hs : ∀ Wb W1 W2 a v s σ1 P', Same W.G W1.G → Same Wb.G W1.G → Iv s W1 σ1 → Ext W1 W2 → R W2.G a v → (∀ r, P' (.rt r) → P (.rt r)) → (f a s).OkE Er P' → g v σ1 W2.H fun σ2 H2 => tb { D with nx := nxF Wb Iv fun s' => P' (.nx s'), ct := nxF Wb Iv fun s' => P' (.nx s'), bk := D.nx } σ2 H2)
    (hd : ∀ s W1 σ1, Same W.G W1.G → Iv s W1 σ1 → P (.nx s) → D.nx σ1 W1.H) : tFor wi g tb D σ W.H := by
  refine hi W (.refl _) _ ((Res.okE_bind q).imp fun xs kx J W1 e1 hy => ?_)
  refine ⟨fun i n σ' H' => n = xs.length - i ∧ i ≤ xs.length ∧ ∃ s' W', W'.H = H' ∧ Same W1.G W'.G ∧ Iv s' W' σ' ∧ (forF f (xs.drop i) s').OkE Er P, ⟨xs.length, by simp, by simp, s0, W1, rfl, .refl _, h0 W1 e1, by simpa using kx⟩, ?_⟩
  rintro i n σ1 H1 ⟨rfl, hi1, s, W2, rfl, e2, iv, k⟩
  by_cases hlt : i < xs.length
  · obtain ⟨a, ha⟩ : ∃ a, xs[i]? = some a := ⟨xs[i], by simp [hlt]⟩
    obtain ⟨h1, h2⟩ := (hy W2 e2).1 i a ha
    refine .inr ⟨h1, nxF W1 Iv fun s' => (forF f (xs.drop (i + 1)) s').OkE Er P, fun σ' H' ⟨s', W', z1, z2, z3, z4⟩ => ⟨xs.length - (i + 1), by omega, rfl, hlt, s', W', z1, z2, z3, z4⟩, fun x H' hx => ?_⟩
    obtain ⟨W3, rfl, e3, rx⟩ := h2 x H' hx
    rw [forF_drop ha] at k
    exact hs W1 W2 W3 a x s σ1 (fun fl => match fl with | .nx s' => (forF f (xs.drop (i + 1)) s').OkE Er P | .bk s' => P (.nx s') | .rt r => P (.rt r)) (e1.g.trans e2) e2 iv e3 rx (fun r h => h) ((Res.okE_bind k).imp fun fl h => by cases fl <;> exact h)
  · have e : i = xs.length := by omega
    subst e
    rw [List.drop_length] at k
    exact .inl ⟨(hy W2 e2).2, hd s W2 σ1 (e1.g.trans e2) iv k⟩
section
variable {r : TS}
theorem sv_asg_s {σ' : V → St} {R : Rw α} {m : Res α} (h : EV Er te σ W R m) (q : m.OkE Er fun a => ∀ v W', Ext W W' → R W' a v → r D (σ' v) W'.H) (hσ : ∀ v, σ.set i (some v) = σ' v := by intro _; rfl) : tSeq (tAsg te (gName i)) r D σ W.H := sv_asg (D := { D with nx := r D }) h q hσ
theorem sv_asgO_s {σ' : Addr → St} {R : Rp α} {m : Res (List α)} (h : EVo Er te σ W R m) (q : m.OkE Er fun a => ∀ p W', Ext W W' → W.H p = none → Ow R W' p a → r D (σ' p) W'.H) (hσ : ∀ p, σ.set i (some (.ref p)) = σ' p := by intro _; rfl) : tSeq (tAsg te (gName i)) r D σ W.H := sv_asgO (D := { D with nx := r D }) h q hσ
theorem sv_if_s {c : TT} {m : Res Bool} (h : TV Er c σ W m) (q : m.OkE Er fun b => ∀ W', Ext W W' → if b = true then t { D with nx := r D } σ W'.H else u { D with nx := r D } σ W'.H) : tSeq (tIfS c t u) r D σ W.H := h W (.refl _) _ q
theorem sv_ifj_s {S : Type} {c : TT} {m : Res Bool} {mA mB : Res S} {P : S → Prop} (Iv : S → Wd → St → Prop) (h : TV Er c σ W m) (q : (m.bind fun b => if b then mA else mB).OkE Er P)
    (hA : ∀ W' (N : St → Hp → Prop), Ext W W' → (∀ s W1 σ1, Same W.G W1.G → Iv s W1 σ1 → P s → N σ1 W1.H) → mA.OkE Er P → t { D with nx := N } σ W'.H)
    (hB : ∀ W' (N : St → Hp → Prop), Ext W W' → (∀ s W1 σ1, Same W.G W1.G → Iv s W1 σ1 → P s → N σ1 W1.H) → mB.OkE Er P → u { D with nx := N } σ W'.H)
    (hd : ∀ s W1 σ1, Same W.G W1.G → Iv s W1 σ1 → P s → r D σ1 W1.H) : tSeq (tIfS c t u) r D σ W.H := sv_ifj (D := { D with nx := r D }) Iv h q hA hB hd
theorem sv_app_s {R : Rp α} [Mono R] {p : Addr} {xs : List α} {m : Res α} (o : Ow R W p xs) (h : EV Er te σ W (sh R) m) (q : (m.bind fun a => appL xs a).OkE Er fun ys => ∀ W', Mu W W' p → Ow R W' p ys → r D σ W'.H) (hi : σ[i]? = some (some (.ref p)) := by rfl) : tSeq (tDrop (tBM K "list" rAppend (tVar i) (tCons te tNil))) r D σ W.H := sv_app (D := { D with nx := r D }) o h q hi
theorem sv_for_s {S : Type} {wi : TI} {tb : TS} {R : Rp α} {m : Res (List α)} {f : α → S → Res S} {s0 : S} {P : S → Prop} (Iv : S → Wd → St → Prop) (hi : IV Er wi σ W R m) (q : (m.bind fun xs => forR f xs s0).OkE Er P)
    (h0 : ∀ W1, Ext W W1 → Iv s0 W1 σ)
    (hs : ∀ Wb W1 W2 a v s σ1 P', Same W.G W1.G → Same Wb.G W1.G → Iv s W1 σ1 → Ext W1 W2 → R W2.G a v → (f a s).OkE Er P' → g v σ1 W2.H fun σ2 H2 => tb { D with nx := nxF Wb Iv P', ct := nxF Wb Iv P', bk := r D } σ2 H2)
    (hd : ∀ s W1 σ1, Same W.G W1.G → Iv s W1 σ1 → P s → r D σ1 W1.H) : tSeq (tFor wi g tb) r D σ W.H := sv_for (D := { D with nx := r D }) Iv hi q h0 hs hd
theorem sv_forF_s {S : Type} {wi : TI} {tb : TS} {R : Rp α} {m : Res (List α)} {f : α → S → Res (Fl γ S)} {s0 : S} {P : Fl γ S → Prop} (Iv : S → Wd → St → Prop) (hi : IV Er wi σ W R m) (q : (m.bind fun xs => forF f xs s0).OkE Er P)
    (h0 : ∀ W1, Ext W W1 → Iv s0 W1 σ)
    (hs : ∀ Wb W1 W2 a v s σ1 P', Same W.G W1.G → Same Wb.G W1.G → Iv s W1 σ1 → Ext W1 W2 → R W2.G a v → (∀ r, P' (.rt r) → P (.rt r)) → (f a s).OkE Er P' → g v σ1 W2.H fun σ2 H2 => tb { D with nx := nxF Wb Iv fun s' => P' (.nx s'), ct := nxF Wb Iv fun s' => P' (.nx s'), bk := r D } σ2 H2)
    (hd : ∀ s W1 σ1, Same W.G W1.G → Iv s W1 σ1 → P (.nx s) → r D σ1 W1.H) : tSeq (tFor wi g tb) r D σ W.H := sv_forF (D := { D with nx := r D }) Iv hi q h0 hs hd
end
theorem nxF_of {S : Type} {Wb W : Wd} {Iv : S → Wd → St → Prop} {P : S → Prop} (s : S) (hs : Same Wb.G W.G) (iv : Iv s W σ) (hq : P s) : nxF Wb Iv P σ W.H := ⟨s, W, rfl, hs, iv, hq⟩
end
end Wb
namespace L2
open PySem PySem.Spec PyProof.Rows
end L2
namespace Wb
open PySem L2 Mi
variable {Er : Nat → Prop}
section
variable {α β γ δ : Type} {t ta tb tc : TE} {σ : St} {W W0 W' : Wd} {K : PySem.W.Frag} {w : World}
theorem ev_powc {a n r : Int} (hc : 0 ≤ n ∧ n ≤ 1000000 ∧ a.natAbs < 2 ^ 64) (hr : a ^ n.toNat = r) : EV Er (tOp (rI CPow fun i j => .int (i ^ j.toNat)) (tC (.int a)) (tC (.int n))) σ W (sh isI) (.ok r) := fun W1 e1 Q k => ⟨a, n, rfl, rfl, hc, by show Q (.int (a ^ n.toNat)) W1.H; rw [hr]; exact k _ W1 (.refl _) rfl⟩
def isScr (K : PySem.W.Frag) : Rp (List Int) := fun H ns v => ∃ a, v = .ref a ∧ SqL K H a (ns.map V.int)
instance zkeep17 : Mono (isScr K) := ⟨fun e ⟨a, h1, h2⟩ => ⟨a, h1, e.seq h2⟩⟩
theorem ev_lenScr {ma : Res (List Int)} (ha : EV Er ta σ W (sh (isScr K)) ma) : EV Er (tCB (fun xs H Q => ∃ x n, xs = [x] ∧ LenV K x H n ∧ Q (.int n) H) (tCons ta tNil)) σ W (sh isI) (ma.bind fun a => .ok (a.length : Int)) := fun W1 e1 Q k =>
  ha W1 e1 _ ((Res.okE_bind k).imp fun a ka x W2 e2 hx => by
    obtain ⟨p, rfl, h1⟩ := hx
    exact ⟨_, a.length, rfl, .inl ⟨_, W2.ok.seq h1, by simp⟩, ka _ W2 e2 rfl⟩)
theorem ev_ixScr {ma : Res (List Int)} {mb : Res Int} (ha : EV Er ta σ W (sh (isScr K)) ma) (hb : EV Er tb σ W (sh isI) mb) : EV Er (tOp (rIxL K) ta tb) σ W (sh isI) (ma.bind fun a => mb.bind fun b => ixL a b) :=
  ev2 ha hb fun W a b x y Q hx hy k => by
    cases hy
    obtain ⟨p, rfl, h1⟩ := hx
    obtain ⟨c, h4, h5⟩ := ofO_OkE k
    have lr : LR isI W.G a (a.map V.int) := ⟨by simp, fun i v m e1 e2 => by rw [List.getElem?_map, e2] at e1; cases e1; rfl⟩
    obtain ⟨z, h6, h7⟩ := atZ_rel lr h4
    exact ⟨p, _, b, z, rfl, rfl, W.ok.seq h1, h6, h5 _ W (.refl _) h7⟩
theorem lr_own {R : Rp α} {W1 W2 : Wd} {xs : List α} {vs : List V} {Q : VK} (h : LR R W2.G xs vs) (e : Ext W1 W2) (k : ∀ p W2, Ext W1 W2 → W1.H p = none → Ow R W2 p xs → Q (.ref p) W2.H) (r : Addr) (hr : W2.H r = none) : Q (.ref r) (upd W2.H r (.lst vs)) :=
  k r (W2.mut r (.lst vs) (W2.gnone hr)) (e.trans (.own _ hr)) (none_of e.h hr) ⟨W2.gnone hr, vs, upd_same, h⟩
theorem ev_listL {R : Rp α} {ma : Res (List α)} (ha : EV Er ta σ W (pk R) ma) : EVo Er (tCB (fun xs H Q => ∃ p ys, xs = [.ref p] ∧ (SqL K H p ys ∨ SqT K H p ys) ∧ ∀ l, H l = none → Q (.ref l) (upd H l (.lst ys))) (tCons ta tNil)) σ W R ma := fun W1 e1 Q k =>
  ha W1 e1 _ (k.imp fun a ka x W2 e2 hx => by
    obtain ⟨p, vs, rfl, h1, h2⟩ := hx
    exact ⟨p, vs, rfl, .inl (SqL.of h1), fun l hl => lr_own h2 e2 ka l hl⟩)
theorem LR.ints {H : Hp} {ns : List Int} {vs : List V} (h : LR isI H ns vs) : vs = ns.map V.int := by
  refine List.ext_getElem? fun i => ?_
  rw [List.getElem?_map]
  cases e : ns[i]? with
  | none => rw [List.getElem?_eq_none_iff] at e; rw [List.getElem?_eq_none_iff.mpr (by rw [h.1]; exact e)]; rfl
  | some m => obtain ⟨v, a, b⟩ := h.get e; rw [a]; cases b; rfl
theorem inlI : ∀ a b : Int, (Sum.inl a : Key) = Sum.inl b → a = b := fun a b e => Sum.inl.inj e
theorem ev_inLI {ma : Res Int} {mb : Res (List Int)} (ha : EV Er ta σ W (sh isI) ma) (hb : EV Er tb σ W (pk isI) mb) : EV Er (tOp (rIn K false) ta tb) σ W (sh isB) (ma.bind fun a => mb.bind fun b => .ok (b.contains a)) :=
  ev2 ha hb fun W a b x y Q hx hy k => by
    cases hx
    obtain ⟨p, vs, rfl, h1, h2⟩ := hy
    refine ⟨p, vs, rfl, .inl (SqL.of h1), rfl, by rw [h2.ints]; simp [L2.flatV], ?_⟩
    have e : inV (.int a) vs = b.contains a := by
      rw [h2.ints]; unfold inV
      rw [List.any_map, Bool.eq_iff_iff]
      simp [L2.eqV]
      try exact ⟨fun ⟨x, h, e⟩ => by subst e; exact h, fun h => ⟨a, h, rfl⟩⟩
    rw [if_neg Bool.false_ne_true, e]
    exact k _ W (.refl _) rfl
def EqK (K : PySem.W.Frag) (H : Hp) : Nat → V → V → Prop
  | 0, v, u => v = u ∧ flat v = true
  | n + 1, v, u => (v = u ∧ flat v = true) ∨ ∃ p q xs ys, v = .ref p ∧ u = .ref q ∧ ((H p = some (.lst xs) ∧ H q = some (.lst ys)) ∨ (SqT K H p xs ∧ SqT K H q ys)) ∧ xs.length = ys.length ∧
      ∀ (i : Nat) (x y : V), xs[i]? = some x → ys[i]? = some y → EqK K H n x y
theorem EqK.same {H H' : Hp} (e : Same H H') : ∀ {n : Nat} {v u : V}, EqK K H n v u → EqK K H' n v u
  | 0, _, _, h => h
  | n + 1, _, _, h => by
    rcases h with h | ⟨p, q, xs, ys, h1, h2, h3, h4, h5⟩
    · exact .inl h
    · refine .inr ⟨p, q, xs, ys, h1, h2, ?_, h4, fun i x y e1 e2 => EqK.same e (h5 i x y e1 e2)⟩
      rcases h3 with ⟨a, b⟩ | ⟨a, b⟩
      · exact .inl ⟨e _ _ a, e _ _ b⟩
      · exact .inr ⟨Same.tup e a, Same.tup e b⟩
theorem EqK.flat {H : Hp} {n : Nat} {v : V} (h : L2.flat v = true) : EqK K H n v v := by cases n with | zero => exact ⟨rfl, h⟩ | succ n => exact .inl ⟨rfl, h⟩
class EqR (K : PySem.W.Frag) {α : Type} (R : Rp α) (n : outParam Nat) : Prop where
  eq : ∀ H a v u m, n ≤ m → R H a v → R H a u → EqK K H m v u
instance zkeep18 : EqR K isI 0 := ⟨fun H a v u m _ h1 h2 => by cases h1; cases h2; exact .flat rfl⟩
instance zkeep19 : EqR K isS 0 := ⟨fun H a v u m _ h1 h2 => by cases h1; cases h2; exact .flat rfl⟩
instance zkeep22 {R : Rp α} {n : Nat} [EqR K R n] : EqR K (isO R) n := ⟨fun H a v u m hm h1 h2 => by
  cases a with
  | none => cases h1; cases h2; exact .flat rfl
  | some a => exact EqR.eq H a v u m hm h1.1 h2.1⟩
instance zkeep23 {R : Rp α} {n : Nat} [EqR K R n] : EqR K (isL R) (n + 1) := ⟨fun H a v u m hm ⟨p, vs, h1, h2, h3⟩ ⟨q, us, g1, g2, g3⟩ => by
  cases m with
  | zero => omega
  | succ m =>
    refine .inr ⟨p, q, vs, us, h1, g1, .inl ⟨h2, g2⟩, by rw [h3.1, g3.1], fun i x y e1 e2 => ?_⟩
    obtain ⟨b, hb, rb⟩ := h3.got e1
    exact EqR.eq H b x y m (by omega) rb (g3.2 i y b e2 hb)⟩
end
end Wb
namespace L2
open PySem PySem.Spec PyProof.Rows
section
variable {X : Cx} {K : PySem.W.Frag} {w : World} {o e : Expr} {to : TE} {t : TA} {apos cpos : Pos}
def rJoin (K : PySem.W.Frag) : V → List V → Hp → VK → Prop := fun x xs H Q => ∃ (p : Addr) (ys : List (List Nat)), x = .str (sOf []) ∧ xs = [.ref p] ∧ SqL K H p (ys.map fun y => V.str (sOf y)) ∧ ys.flatten.length ≤ 100000 ∧ Q (.str (sOf ys.flatten)) H
abbrev Few (X : Cx) (cpos : Pos) (e : Expr) : Prop := ((backTo cpos (starEach [e] X.env)).all (fun x => !x.1) && (backToKw cpos (keywordEach [] X.env)).all (fun x => x.1.isSome) && decide ([e].length + ([] : List Keyword).length + (if ([] : List Keyword).isEmpty then 0 else 1) < 30)) = true
theorem pe_join1 (h : X.K = K) (ho : PE X o to) (ha : PA X [e] t) (hbase : attributeBase o "join" X.env (eval o X.env) = eval o X.env := by rfl) (hfew : Few X cpos e := by rfl) (hline : (apos.endLine == cpos.line) = true := by rfl) (hs : starEach [e] X.env = (false, eval e X.env) :: starEach [] X.env := by rfl) (hplain : (backTo cpos (starEach [] X.env)).any (·.1) = false := by rfl) :
    PE X (.Call (.Attribute o "join" apos) [e] [] cpos) (tBM K "str" (rJoin K) to t) := pe_bmK (K := K) h PySem.F.plainAttrs_str PySem.F.slot_str_join PySem.F.type_str_join (mt_joinK (K := K) h) ho ha hbase hfew hline hs hplain
theorem pe_append1 (h : X.K = K) (ho : PE X o to) (ha : PA X [e] t) (hbase : attributeBase o "append" X.env (eval o X.env) = eval o X.env := by rfl) (hfew : Few X cpos e := by rfl) (hline : (apos.endLine == cpos.line) = true := by rfl) (hs : starEach [e] X.env = (false, eval e X.env) :: starEach [] X.env := by rfl) (hplain : (backTo cpos (starEach [] X.env)).any (·.1) = false := by rfl) :
    PE X (.Call (.Attribute o "append" apos) [e] [] cpos) (tBM K "list" rAppend to t) := pe_bmK (K := K) h PySem.F.plainAttrs_list PySem.F.slot_list_append PySem.F.type_list_append mt_append ho ha hbase hfew hline hs hplain
end
end L2
namespace Wb
open PySem L2 Mi
variable {Er : Nat → Prop}
section
variable {α β γ δ : Type} {t t1 t2 t3 ta tb tc : TE} {σ : St} {W W0 W' : Wd} {K : PySem.W.Frag} {w : World}
class NN {α : Type} (R : Rp α) : Prop where
  nn : ∀ H a v, R H a v → v ≠ .non
instance zkeep26 : NN isI := ⟨fun _ _ _ h => by cases h; exact fun z => nomatch z⟩
theorem ev_someO {R : Rp α} [NN R] {m : Res α} (h : EV Er t σ W (sh R) m) : EV Er t σ W (sh (isO R)) (m.bind fun a => .ok (some a)) := fun W1 e1 Q k =>
  h W1 e1 _ ((Res.okE_bind k).imp fun a ka v W2 e2 hv => ka v W2 e2 ⟨hv, NN.nn _ _ _ hv⟩)
end
end Wb
namespace Mi
theorem modR_ok {a b : Int} (h : 0 < b) : modR a b = .ok (a % b) := must_ok h
theorem fdivR_ok {a b : Int} (h1 : 0 < b) (h2 : b < 1073741824) : fdivR a b = .ok (a / b) := must_ok ⟨h1, h2⟩
theorem mulR_okL {a b : Int} (h1 : -18446744073709551616 < a) (h2 : a < 18446744073709551616) : mulR a b = .ok (a * b) := must_ok (.inl ⟨h1, h2⟩)
theorem mulR_okR {a b : Int} (h1 : -18446744073709551616 < b) (h2 : b < 18446744073709551616) : mulR a b = .ok (a * b) := must_ok (.inr ⟨h1, h2⟩)
theorem appL_ok {α : Type} {xs : List α} {x : α} (h : xs.length < 100000) : appL xs x = .ok (xs ++ [x]) := must_ok h
theorem catS_ok {a b : Tx} (h : a.length + b.length ≤ 100000) : catS a b = .ok (a ++ b) := must_ok h
theorem lenS_ok {a : Tx} (h : a.length ≤ 100000) : lenS a = .ok (a.length : Int) := must_ok h
theorem repS_ok {c : Nat} {n : Int} (h0 : 0 ≤ n) (h1 : n ≤ 100000) : repS [c] n = .ok (List.replicate n.toNat c) := must_ok ⟨h0, h1⟩
theorem cutS_ok {a : Tx} {lo hi : Option Int} (h : a.length ≤ 100000) : cutS a lo hi = .ok (cut a lo hi) := must_ok h
theorem joinE_ok {xs : List Tx} (h : xs.flatten.length ≤ 100000) : joinE xs = .ok xs.flatten := must_ok h
theorem rangeR_ok {n : Nat} (h : n ≤ 100000) : rangeR (n : Int) = .ok ((List.range n).map fun (i : Nat) => (i : Int)) := by
  unfold rangeR; rw [must_ok ⟨by omega, by omega⟩]; simp [rangeN]
theorem ixL_get {α : Type} {xs : List α} {i : Int} (h0 : 0 ≤ i) (h1 : i < xs.length) : ∃ x, ixL xs i = .ok x ∧ xs[i.toNat]? = some x := by
  obtain ⟨h, e⟩ := atZ_of h0 h1
  exact ⟨xs[i.toNat], by unfold ixL; rw [e]; rfl, by simp [h]⟩
theorem ixS_get {x : Tx} {i : Int} (h0 : 0 ≤ i) (h1 : i < x.length) (h2 : x.length ≤ 100000) : ∃ c, ixS x i = .ok [c] ∧ x[i.toNat]? = some c := by
  obtain ⟨h, e⟩ := atZ_of h0 h1
  refine ⟨x[i.toNat], ?_, by simp [h]⟩
  unfold ixS; rw [must_ok h2]; show (ofO (atZ x i)).bind _ = _; rw [e]; rfl
theorem ixS_of {x : Tx} {i : Int} (h0 : 0 ≤ i) (h1 : i < x.length) (h2 : x.length ≤ 100000) : ixS x i = .ok [x[i.toNat]?.getD 0] := by
  obtain ⟨c, e, h⟩ := ixS_get h0 h1 h2
  rw [e, h]; rfl
theorem eqR_ok {α : Type} [DecidableEq α] {a b : α} (h : a = b) : eqR a b = .ok true := if_pos h
theorem forR_inv {α S : Type} {f : α → S → Res S} (I : List α → S → Prop) (xs : List α) (s0 : S) (h0 : I [] s0) (step : ∀ pre a post s, xs = pre ++ a :: post → I pre s → ∃ s', f a s = .ok s' ∧ I (pre ++ [a]) s') :
    ∃ s, forR f xs s0 = .ok s ∧ I xs s := by
  have key : ∀ (post pre : List α) (s : S), xs = pre ++ post → I pre s → ∃ s', forR f post s = .ok s' ∧ I xs s' := by
    intro post
    induction post with
    | nil => intro pre s e h; rw [List.append_nil] at e; subst e; exact ⟨s, rfl, h⟩
    | cons a r ih =>
      intro pre s e h
      obtain ⟨s1, e1, h1⟩ := step pre a r s e h
      obtain ⟨s2, e2, h2⟩ := ih (pre ++ [a]) s1 (by rw [e]; simp) h1
      exact ⟨s2, by unfold forR; rw [e1]; exact e2, h2⟩
  exact key xs [] s0 rfl h0
theorem forF_inv {α S γ : Type} {f : α → S → Res (Fl γ S)} (I : List α → S → Prop) (xs : List α) (s0 : S) (h0 : I [] s0) (step : ∀ pre a post s, xs = pre ++ a :: post → I pre s → ∃ s', f a s = .ok (.nx s') ∧ I (pre ++ [a]) s') :
    ∃ s, forF f xs s0 = .ok (.nx s) ∧ I xs s := by
  have key : ∀ (post pre : List α) (s : S), xs = pre ++ post → I pre s → ∃ s', forF f post s = .ok (.nx s') ∧ I xs s' := by
    intro post
    induction post with
    | nil => intro pre s e h; rw [List.append_nil] at e; subst e; exact ⟨s, rfl, h⟩
    | cons a r ih =>
      intro pre s e h
      obtain ⟨s1, e1, h1⟩ := step pre a r s e h
      obtain ⟨s2, e2, h2⟩ := ih (pre ++ [a]) s1 (by rw [e]; simp) h1
      exact ⟨s2, by unfold forF; rw [e1]; exact e2, h2⟩
  exact key xs [] s0 rfl h0
theorem forF_find {α γ : Type} {f : α → Unit → Res (Fl γ Unit)} {g : α → Option γ} (xs : List α) (step : ∀ a ∈ xs, f a () = .ok (match g a with | some r => .rt r | none => .nx ())) : forF f xs () = .ok (match xs.findSome? g with | some r => .rt r | none => .nx ()) := by
  induction xs with
  | nil => rfl
  | cons a r ih =>
    unfold forF
    rw [step a (List.mem_cons_self ..)]
    cases h : g a with
    | some z => simp [h, flGo]
    | none => simp only [Res.bind_ok', flGo, List.findSome?_cons, h]; exact ih fun b hb => step b (List.mem_cons_of_mem _ hb)
theorem filtR_ok {α β : Type} {f : α → Res (Option β)} {g : α → Option β} : ∀ {xs : List α}, (∀ x ∈ xs, f x = .ok (g x)) → filtR f xs = .ok (xs.filterMap g)
  | [], _ => rfl
  | a :: r, h => by
    unfold filtR
    rw [h a (List.mem_cons_self ..), Res.bind_ok', filtR_ok fun x hx => h x (List.mem_cons_of_mem _ hx), Res.bind_ok', List.filterMap_cons]
    cases g a <;> rfl
theorem compF_ok {α β : Type} {f : α → Res (Option β)} {g : α → Option β} {xs : List α} (hl : xs.length ≤ 100000) (h : ∀ x ∈ xs, f x = .ok (g x)) : compF xs f = .ok (xs.filterMap g) := by
  unfold compF; rw [must_ok hl, Res.bind_ok', filtR_ok h]
theorem flat1 (l : List Nat) : ((l.map fun c => [c]) : List Tx).flatten = l := by induction l with | nil => rfl | cons a r ih => simp [ih]
theorem cut_take {α : Type} (l : List α) (k : Nat) : cut l none (some (k : Int)) = l.take k := by
  unfold cut sIx; simp only []
  rw [if_neg (by omega), Int.toNat_natCast]; simp [List.take_eq_take_iff]
theorem cut_drop {α : Type} (l : List α) (k : Nat) : cut l (some (k : Int)) none = l.drop k := by
  unfold cut sIx; simp only []
  rw [if_neg (by omega), Int.toNat_natCast]
  by_cases h : k ≤ l.length
  · rw [Nat.min_eq_left h, List.take_of_length_le (by simp)]
  · rw [Nat.min_eq_right (by omega), List.drop_eq_nil_of_le (by omega), List.drop_eq_nil_of_le (by omega)]; simp
theorem absI_nn (a : Int) : 0 ≤ absI a := by unfold absI; split <;> omega
end Mi
namespace L2
open PySem PySem.Spec PyProof.Rows Wb
end L2
namespace L2
open PySem PySem.Spec PyProof.Rows
end L2
namespace Wb
open PySem L2 Mi
variable {Er : Nat → Prop}
section
variable {α β γ : Type} {K : PySem.W.Frag} {σ : L2.St} {W : Wd}
theorem rangeR_len {n : Nat} (h : n ≤ cap) : rangeR (n : Int) = .ok (rangeN (n : Int)) := by
  unfold rangeR
  exact must_ok (by unfold cap at h; omega)
theorem iv_rangeLn {ta : TE} {R : Rp α} {m : Res (List α)} (h : EV Er ta σ W (pk R) m) : IV Er (iRng1 (tCons (tCB (fun xs H Q => ∃ x n, xs = [x] ∧ LenV K x H n ∧ Q (.int n) H) (tCons ta tNil)) tNil)) σ W isI (m.bind fun xs => rangeLn xs) := fun W1 e1 P k =>
  iv_range (ev_lenL (K := K) h) W1 e1 P (Res.bind_okE (Res.bind_okE ((Res.okE_bind k).imp fun xs kx => by
      have hc : xs.length ≤ cap := by
        unfold rangeLn at kx
        exact (must_OkE (Res.okE_bind kx)).1
      rw [rangeLn_ok hc] at kx
      rw [show ∀ (Q : Int → Prop) (n : Int), (Res.ok n).OkE Er Q = Q n from fun _ _ => rfl, rangeR_len hc]
      exact kx)))
end
end Wb
namespace Mi
def putD {κ α : Type} [DecidableEq κ] (kvs : List (κ × α)) (k : κ) (a : α) : List (κ × α) :=
  if (kvs.any fun kv => decide (kv.1 = k)) = true then kvs.map (fun kv => if kv.1 = k then (kv.1, a) else kv) else kvs ++ [(k, a)]
def dput {κ α : Type} [DecidableEq κ] (kvs : List (κ × α)) (k : κ) (a : α) : Res (List (κ × α)) := must (kvs.length < cap) (putD kvs k a)
def sortD {α : Type} (kvs : List (Int × α)) : Res (List Int) := must (kvs.length < 64) (sorted (kvs.map (·.1)))
end Mi
namespace PySem
open Sem (wp)
open AutoSeq1 (wpAny_loadPart')
end PySem
namespace L2
open PySem PySem.Spec PyProof.Rows
end L2
namespace L2
end L2
namespace Wb
open PySem L2 Mi
variable {Er : Nat → Prop}
section
variable {α β γ δ : Type} {t t1 t2 t3 t4 ta tb tc td : TE} {σ : St} {W W0 W' : Wd} {K : PySem.W.Frag} {w : World}
def spSame2 (K : PySem.W.Frag) : Nat → Sp
  | 0 => fun _ _ _ _ => False
  | n + 1 => fun vs H Q _ => ∃ v u, vs = [v, u] ∧ ((EqK K H n v u ∧ ∀ H', Same H H' → Q (.bl true) H') ∨ ∃ x y, v = .str x ∧ u = .str y ∧ Q (.bl (decide (V.str x = V.str y))) H)
theorem ev_same2 [DecidableEq α] {R : Rp α} [Mono R] {n N : Nat} [EqR K R n] {E : XK} {ma mb : Res α} (hn : n < N) (ha : EV Er ta σ W (sh R) ma) (hb : EV Er tb σ W (sh R) mb) : EV Er (tCall (spSame2 K N) [] E (tCons ta (tCons tb tNil))) σ W (sh isB) (ma.bind fun a => mb.bind fun b => eqR a b) := fun W1 e1 Q k =>
  ha W1 e1 _ ((Res.okE_bind k).imp fun a ka x W2 e2 hx => hb W2 (e1.trans e2) _ ((Res.okE_bind ka).imp fun b kb y W3 e3 hy => by
    unfold eqR at kb
    by_cases z : a = b
    · rw [if_pos z] at kb
      subst z
      cases N with
      | zero => omega
      | succ N =>
        refine ⟨x, y, rfl, .inl ⟨EqR.eq W3.H a x y N (by omega) (Mono.mono W3.ok (Mono.mono (R := R) e3.g hx)) (Mono.mono W3.ok hy), fun H' hs => ?_⟩⟩
        exact kb (.bl true) ⟨W3.G, H', W3.ok.trans hs⟩ ⟨e2.g.trans e3.g, (e2.h.trans e3.h).trans hs, fun p hp => (e2.trans e3).k p hp⟩ rfl
    · rw [if_neg z] at kb; exact kb.elim))
structure OwD (gk : β → Key) (R : Rp α) (W : Wd) (p : Addr) (xs : List (β × α)) : Prop where
  g : W.G p = none
  h : ∃ kv, W.H p = some (.dK kv) ∧ kv.length = xs.length ∧ ∀ (i : Nat) (q : Key × V) (x : β × α), kv[i]? = some q → xs[i]? = some x → q.1 = gk x.1 ∧ R W.G x.2 q.2
section
variable {g : β → Key} {R : Rp α}
theorem OwD.mono [Mono R] {p : Addr} {xs : List (β × α)} (o : OwD g R W p xs) (e : Ext W W') : OwD g R W' p xs := by
  obtain ⟨kv, a, b, c⟩ := o.h
  exact ⟨by rw [e.k p (by rw [a]; exact fun z => nomatch z)]; exact o.g, kv, e.h _ _ a, b, fun i q x h1 h2 => ⟨(c i q x h1 h2).1, Mono.mono e.g (c i q x h1 h2).2⟩⟩
theorem dict_look [DecidableEq β] (hg : ∀ a b, g a = g b → a = b) {H : Hp} : ∀ (kv : List (Key × V)) (xs : List (β × α)), kv.length = xs.length → (∀ (i : Nat) (q : Key × V) (x : β × α), kv[i]? = some q → xs[i]? = some x → q.1 = g x.1 ∧ R H x.2 q.2) → ∀ k, match look xs k with | none => valV kv (g k) = none | some a => ∃ v, valV kv (g k) = some v ∧ R H a v
  | [], [], _, _, k => rfl
  | q :: kv, x :: xs, hl, h, k => by
    have h0 := h 0 q x rfl rfl
    have ih := dict_look hg kv xs (by simpa using hl) (fun i q x h1 h2 => h (i + 1) q x h1 h2) k
    by_cases e : x.1 = k
    · have e1 : look (x :: xs) k = some x.2 := by unfold look; rw [List.find?_cons_of_pos (by simpa using e)]; rfl
      rw [e1]
      exact ⟨q.2, valV_pos (by rw [h0.1, e]), h0.2⟩
    · have e1 : look (x :: xs) k = look xs k := by unfold look; rw [List.find?_cons_of_neg (by simpa using e)]
      rw [e1]
      have e2 : valV (q :: kv) (g k) = valV kv (g k) := valV_neg (fun z => e (hg _ _ (by rw [← h0.1]; exact z)))
      rw [e2]
      exact ih
def EVd (Er : Nat → Prop) (t : TE) (σ : St) (W : Wd) (g : β → Key) (R : Rp α) (m : Res (List (β × α))) : Prop := ∀ W1, Ext W W1 → ∀ Q : VK, m.OkE Er (fun xs => ∀ p W2, Ext W1 W2 → W1.H p = none → OwD g R W2 p xs → Q (.ref p) W2.H) → t σ W1.H Q
theorem ev_dget1 [DecidableEq β] [Mono R] {Rk : Rp β} {i : Nat} {p : Addr} {xs : List (β × α)} {mk : Res β} (hg : ∀ a b, g a = g b → a = b) (hk : ∀ H b v, Rk H b v → v = kV (g b)) (o : OwD g R W p xs) (h : EV Er t σ W (sh Rk) mk) (hi : σ[i]? = some (some (.ref p)) := by rfl) :
    EV Er (tDGet (tVar i) t) σ W (sh R) (mk.bind fun k => getD xs k) := fun W1 e1 Q k => ⟨.ref p, hi, h W1 e1 _ ((Res.okE_bind k).imp fun b kb v W2 e2 hv => by
    obtain ⟨a, h1, h2⟩ := ofO_OkE kb
    obtain ⟨kv, o1, o2, o3⟩ := (o.mono (e1.trans e2)).h
    have hl := dict_look hg kv xs o2 o3 b
    rw [h1] at hl
    obtain ⟨u, hu, ru⟩ := hl
    refine ⟨p, u, rfl, ?_, h2 u W2 e2 ru⟩
    rw [hk _ _ _ hv, ← hu]
    exact DGet.k o1)⟩
theorem put_rel [DecidableEq β] (hg : ∀ a b, g a = g b → a = b) {H : Hp} {kv : List (Key × V)} {xs : List (β × α)} (hl : kv.length = xs.length) (h : ∀ (i : Nat) (q : Key × V) (x : β × α), kv[i]? = some q → xs[i]? = some x → q.1 = g x.1 ∧ R H x.2 q.2) {k : β} {a : α} {v : V} (r : R H a v) :
    (putK kv (g k) v).length = (putD xs k a).length ∧ ∀ (i : Nat) (q : Key × V) (x : β × α), (putK kv (g k) v)[i]? = some q → (putD xs k a)[i]? = some x → q.1 = g x.1 ∧ R H x.2 q.2 := by
  have hany : (kv.any fun p => decide (p.1 = g k)) = (xs.any fun p => decide (p.1 = k)) := by
    have key : ∀ (kv : List (Key × V)) (xs : List (β × α)), kv.length = xs.length → (∀ (i : Nat) (q : Key × V) (x : β × α), kv[i]? = some q → xs[i]? = some x → q.1 = g x.1 ∧ R H x.2 q.2) → (kv.any fun p => decide (p.1 = g k)) = (xs.any fun p => decide (p.1 = k)) := by
      intro kv
      induction kv with
      | nil => intro xs hl _; cases xs with | nil => rfl | cons _ _ => cases hl
      | cons q kv ih =>
        intro xs hl h
        cases xs with
        | nil => cases hl
        | cons x xs =>
          rw [List.any_cons, List.any_cons, ih xs (by simpa using hl) fun i q x h1 h2 => h (i + 1) q x h1 h2]
          congr 1
          rw [(h 0 q x rfl rfl).1, Bool.eq_iff_iff]
          simp only [decide_eq_true_eq]
          exact ⟨hg _ _, fun e => by rw [e]⟩
    exact key kv xs hl h
  unfold putK putD
  rw [hany]
  by_cases c : (xs.any fun p => decide (p.1 = k)) = true
  · rw [if_pos c, if_pos c]
    refine ⟨by simp [hl], fun i q x h1 h2 => ?_⟩
    rw [List.getElem?_map] at h1 h2
    obtain ⟨q0, hq0, rfl⟩ := Option.map_eq_some_iff.mp h1
    obtain ⟨x0, hx0, rfl⟩ := Option.map_eq_some_iff.mp h2
    obtain ⟨h3, h4⟩ := h i q0 x0 hq0 hx0
    by_cases z : x0.1 = k
    · rw [if_pos z, if_pos (by rw [h3, z])]; exact ⟨h3, r⟩
    · rw [if_neg z, if_neg (fun e => z (hg _ _ (by rw [← h3]; exact e)))]; exact ⟨h3, h4⟩
  · rw [if_neg c, if_neg c]
    refine ⟨by simp [hl], fun i q x h1 h2 => ?_⟩
    by_cases hi : i < kv.length
    · rw [List.getElem?_append_left hi] at h1
      rw [List.getElem?_append_left (by rw [← hl]; exact hi)] at h2
      exact h i q x h1 h2
    · rw [List.getElem?_append_right (by omega)] at h1
      rw [List.getElem?_append_right (by rw [← hl]; omega), ← hl] at h2
      match i - kv.length, h1, h2 with
      | 0, h1, h2 => cases h1; cases h2; exact ⟨rfl, r⟩
end
section
variable {g : β → Key} {R : Rp α} {D : Ends} {r : TS} {te ti : TE} {i : Nat}
theorem sv_asgD {σ' : Addr → St} {m : Res (List (β × α))} (h : EVd Er te σ W g R m) (q : m.OkE Er fun a => ∀ p W', Ext W W' → W.H p = none → OwD g R W' p a → D.nx (σ' p) W'.H) (hσ : ∀ p, σ.set i (some (.ref p)) = σ' p := by intro _; rfl) : tAsg te (gName i) D σ W.H := h W (.refl _) _ (q.imp fun a k p W' e hp r => by have := k p W' e hp r; rw [← hσ] at this; exact this)
theorem sv_asgD_s {σ' : Addr → St} {m : Res (List (β × α))} (h : EVd Er te σ W g R m) (q : m.OkE Er fun a => ∀ p W', Ext W W' → W.H p = none → OwD g R W' p a → r D (σ' p) W'.H) (hσ : ∀ p, σ.set i (some (.ref p)) = σ' p := by intro _; rfl) : tSeq (tAsg te (gName i)) r D σ W.H := sv_asgD (D := { D with nx := r D }) h q hσ
end
theorem ev_sortD {R : Rp α} [Mono R] {i : Nat} {p : Addr} {xs : List (Int × α)} (o : OwD Sum.inl R W p xs) (hi : σ[i]? = some (some (.ref p)) := by rfl) : EVo Er (tCB (fun xs H Q => ∃ (p : Addr) (kvs : List (Key × V)) (ns : List Int), xs = [.ref p] ∧ H p = some (.dK kvs) ∧ kvs.map (·.1) = ns.map Sum.inl ∧ ns.length < 64 ∧ ∀ (q : Addr) (ns' : List Int), H q = none → ns'.Perm ns → ns'.Pairwise (· ≤ ·) → Q (.ref q) (upd H q (.lst (ns'.map V.int)))) (tCons (tVar i) tNil)) σ W isI (sortD xs) := fun W1 e1 Q k => by
  obtain ⟨h3, h4⟩ := must_OkE k
  obtain ⟨kv, o1, o2, o3⟩ := (o.mono e1).h
  refine ⟨.ref p, hi, p, kv, xs.map (·.1), rfl, o1, ?_, by simpa using h3, fun q ns' hq hp hs => ?_⟩
  · refine List.ext_getElem? fun j => ?_
    rw [List.getElem?_map, List.getElem?_map, List.getElem?_map]
    cases z : xs[j]? with
    | none =>
      have : kv[j]? = none := List.getElem?_eq_none_iff.mpr (by rw [o2]; exact List.getElem?_eq_none_iff.mp z)
      rw [this]; rfl
    | some x =>
      have hj : j < kv.length := by rw [o2]; exact (List.getElem?_eq_some_iff.mp z).1
      rw [List.getElem?_eq_getElem hj]
      exact congrArg some (o3 j _ x (List.getElem?_eq_getElem hj) z).1
  · rw [sorted_eq hp hs]
    exact lr_own (vs := (sorted (xs.map (·.1))).map V.int) ⟨by simp, fun i v m e1 e2 => by rw [List.getElem?_map, e2] at e1; cases e1; rfl⟩ (.refl _) h4 q hq
theorem kI : ∀ (H : Hp) (b : Int) (v : V), isI H b v → v = kV (Sum.inl b) := fun _ _ _ h => h
theorem EV.go {W1 : Wd} {R : Rw α} {m : Res α} {Q : VK} (e : Ext W W1) (h : EV Er t σ W R m) (k : m.OkE Er fun a => ∀ v W2, Ext W1 W2 → R W2 a v → Q v W2.H) : t σ W1.H Q := h W1 e Q k
end
end Wb
namespace Mi
end Mi
namespace L2
open PySem PySem.Spec PyProof.Rows
end L2
namespace L2
open PySem PySem.Spec PyProof.Rows
end L2
namespace L2
open PySem PySem.Spec PyProof.Rows
end L2
namespace L2
open PySem PySem.Spec PyProof.Rows
end L2
namespace L2
open PySem PySem.Spec PyProof.Rows
end L2
namespace L2
open PySem PySem.Spec PyProof.Rows
end L2
namespace L2
open PySem PySem.Spec PyProof.Rows
end L2
namespace L2
open PySem PySem.Spec PyProof.Rows
end L2
namespace L2
open PySem PySem.Spec PySem.Calls PyProof.Rows
open PySem.W (findIn findObj mroIn looks_findIn looks_find looks_mroIn class_get KitX clsIn Frag)
end L2
namespace L2
open PySem PySem.Spec PySem.Calls PyProof.Rows
end L2
namespace L2
open PySem PySem.Spec PySem.Calls PyProof.Rows Mi
end L2
namespace Wb
open PySem L2 Mi
end Wb
namespace Wb
open PySem L2 Mi
end Wb
namespace Wb
open PySem L2 Mi
end Wb
namespace Wb
open PySem L2 Mi
end Wb
namespace Wb
open PySem L2 Mi
open PySem.W (findIn findObj mroIn kitOne kitCls clsIn typeIn subIn specialIn takesIn Frag)
end Wb
namespace Wb
open PySem L2 Mi
theorem LR.txts {H : Hp} {ns : List Tx} {vs : List V} (h : LR isS H ns vs) : vs = ns.map fun x => V.str (sOf x) := by
  refine List.ext_getElem? fun i => ?_
  rw [List.getElem?_map]
  cases e : ns[i]? with
  | none => rw [List.getElem?_eq_none_iff] at e; rw [List.getElem?_eq_none_iff.mpr (by rw [h.1]; exact e)]; rfl
  | some m => obtain ⟨v, a, b⟩ := h.get e; rw [a]; cases b; rfl
theorem inV_txts (a : Tx) (b : List Tx) : inV (.str (sOf a)) (b.map fun x => V.str (sOf x)) = b.contains a := by
  unfold inV
  rw [List.any_map, Bool.eq_iff_iff, List.any_eq_true, List.contains_iff_mem]
  constructor
  · rintro ⟨x, hx, e⟩
    have : sOf x = sOf a := by simpa [L2.eqV] using e
    rw [← sOf_inj this]; exact hx
  · intro h
    exact ⟨a, h, by simp [L2.eqV]⟩
section
variable {Er : Nat → Prop} {ta tb : TE} {σ : St} {W : Wd} {K : PySem.W.Frag}
theorem ev_notinLS {ma : Res Tx} {mb : Res (List Tx)} (ha : EV Er ta σ W (sh isS) ma) (hb : EV Er tb σ W (pk isS) mb) : EV Er (tOp (rIn K true) ta tb) σ W (sh isB) (ma.bind fun a => mb.bind fun b => .ok (!b.contains a)) :=
  ev2 ha hb fun W a b x y Q hx hy k => by
    cases hx
    obtain ⟨p, vs, rfl, h1, h2⟩ := hy
    refine ⟨p, vs, rfl, .inl (SqL.of h1), rfl, by rw [LR.txts h2]; simp [L2.flatV], ?_⟩
    rw [if_pos rfl, LR.txts h2, inV_txts]
    exact k _ W (.refl _) rfl
end
end Wb
namespace L2
open PySem PySem.Spec PyProof.Rows
end L2
namespace Wb
open PySem L2 Mi
end Wb
namespace Mi
end Mi
namespace Mi
end Mi
namespace Wb
open PySem L2 Mi
end Wb
namespace Wb
open PySem L2 Mi
end Wb
namespace L2
open PySem PySem.Spec PyProof.Rows
end L2
namespace Wb
open PySem L2 Mi
end Wb
namespace L2
open PySem PySem.Spec PySem.Calls PyProof.Rows Mi
end L2
namespace Wb
open PySem L2 Mi
end Wb
namespace L2
open PySem PySem.Spec PyProof.Rows
end L2
namespace L2
open PySem PySem.Spec PyProof.Rows
end L2
namespace Wb
open PySem L2 Mi
end Wb
namespace L2
open PySem PySem.Spec PyProof.Rows
end L2
namespace Wb
open PySem L2 Mi
end Wb
namespace Wb
open PySem L2 Mi
end Wb
namespace Mi
def isFirst (c : Nat → Tx) (k : Nat) : Bool := (List.range k).all fun j => decide (c j ≠ c k)
def fi (c : Nat → Tx) (i : Nat) : List Nat := (List.range i).filter (isFirst c)
def grp (c : Nat → Tx) (i k : Nat) : List Nat := (List.range i).filter fun j => decide (c j = c k)
def packsOf (c : Nat → Tx) (n : Nat) : List (List Int) := (fi c n).map fun k => (grp c n k).map fun (j : Nat) => (j : Int)
def colR (m : List Tx → Int → Res Tx) (plan : List Tx) (k : Nat) : Tx := match m plan (k : Int) with | .ok x => x | _ => []
end Mi
namespace Wb
open PySem L2 Mi
end Wb
namespace Wb
open PySem L2 Mi
end Wb
namespace Wb
open PySem L2 Mi
end Wb
namespace L2
open PySem PySem.Spec PyProof.Rows
def turnTree (tg iter : Expr) (ifs : List Expr) (body : Sem Unit) (it : Value) (env : Env) (c : Code) : Sem Fin := do
  standAt iter.pos
  match ← pyNext it with
  | none => pure (.done .next)
  | some v =>
    letOwnedTupleGo tg it v
    assign tg env v
    let mut ok := true
    for c in ifs do
      if ok then ok ← isTrue c env (eval c env)
    if ok then body
    again c
structure CompE (e : Expr) : Prop where
  a : ∀ (A : Around) (d : Nat) (it acc : Value) (env : Env), A.under (.compLoop e d it acc env) = A
  b : ∀ (A : Around) (d : Nat) (it acc : Value) (env : Env), A.under (.compStart e d it acc env) = A
  c : ∀ (prog : Program) (w : World) (d : Nat) (it acc : Value) (env : Env), (model prog w).den (.compLoop e d it acc env) = (compTurn e d it acc env).onRaise (fun x => do noteFrame x env; theTreesLotGoes x)
  d : ∀ (prog : Program) (w : World) (d : Nat) (it acc : Value) (env : Env), (model prog w).den (.compStart e d it acc env) = (compStart e d it acc env).onRaise (fun x => do noteFrame x env; standAt theWindowsPlace)
theorem CompE.dict {k v : Expr} {gs : List Comprehension} {sc : Scope} {pos : Pos} : CompE (.DictComp k v gs sc pos) := ⟨fun _ _ _ _ _ => rfl, fun _ _ _ _ _ => rfl, fun _ _ _ _ _ _ => rfl, fun _ _ _ _ _ _ => rfl⟩
section
variable {prog : Program} {w : World} {A : Around} {R : Result → Shared → Prop} {s : Shared}
theorem compLoop_tree {e : Expr} (ce : CompE e) {d : Nat} {tg iter : Expr} {ifs : List Expr} {it acc : Value} {env : Env} {body : Sem Unit} (ht : compTurn e d it acc env = turnTree tg iter ifs body it env (.compLoop e d it acc env)) (I : Nat → Shared → Prop)
    (turn : ∀ n s, I n s → wpAny (model prog w) A (pyNext it) (fun r s₁ => match r with
      | none => R (.ok .next) s₁
      | some v => wpAny (model prog w) A (letOwnedTupleGo tg it v) (fun _ s₁' => wpAny (model prog w) A (assign tg env v) (fun _ s₂ =>
          wpAny (model prog w) A (forIn ifs true fun c r => if r = true then do let ok ← isTrue c env (eval c env); pure (ForInStep.yield ok) else pure (ForInStep.yield r)) (fun ok s₃ =>
            if ok = true then wpAny (model prog w) A body (fun _ s₅ => ∃ m, m < n ∧ I m s₅) (fun _ _ => False) s₃
            else ∃ m, m < n ∧ I m s₃) (fun _ _ => False) s₂) (fun _ _ => False) s₁') (fun _ _ => False) s₁) (fun _ _ => False) s)
    (n : Nat) (h : I n s) : codeAny (model prog w) A (.compLoop e d it acc env) R s := by
  refine codeAny_loop rfl I (fun n s hI => ?_) n h
  rw [ce.a, ce.c]
  refine wpAny_noted ?_
  rw [ht]
  unfold turnTree
  refine wpAny_bind (wpAny_standAt (wpAny_bind (wpAny_mono (turn n s hI) (fun r s₁ h₁ => ?_) fun _ _ h' => h'.elim)))
  cases r with
  | none => exact wpAny_pure h₁
  | some v =>
    refine wpAny_bind (wpAny_mono h₁ (fun _ s₁' h₁' => ?_) fun _ _ h' => h'.elim)
    refine wpAny_bind (wpAny_mono h₁' (fun _ s₂ h₂ => wpAny_bind (wpAny_mono h₂ (fun ok s₃ h₃ => ?_) fun _ _ h' => h'.elim)) fun _ _ h' => h'.elim)
    cases ok with
    | true =>
      rw [if_pos rfl] at h₃
      exact wpAny_bind (wpAny_mono h₃ (fun _ s₄ h₄ => wpAny_pure ⟨rfl, h₄⟩) fun _ _ h' => h'.elim)
    | false =>
      rw [if_neg Bool.false_ne_true] at h₃
      exact wpAny_pure ⟨rfl, h₃⟩
theorem compStart_any {e : Expr} (ce : CompE e) {d : Nat} {g : Comprehension} {it acc : Value} {env : Env} (hg : (clausesOf e)[d]? = some g) (ha : g.is_async = 0)
    (h0 : codeAny (model prog w) A (.compLoop e d it acc env) R s)
    (h : wpAny (model prog w) A (pyIter it) (fun it' s' => codeAny (model prog w) A (.compLoop e d it' acc env) R s') (notedBy (model prog w) A env fun x s' => R (.error x) s') s) :
    codeAny (model prog w) A (.compStart e d it acc env) R s := by
  refine codeAny_of_tree ?_
  rw [ce.b, ce.d]
  refine wpAny_notedAt ?_
  unfold compStart
  rw [hg]
  simp only [Option.elim_some, ha, bne_self_eq_false, Bool.false_eq_true, if_false]
  refine wpAny_bind (wpAny_askSetting (wpAny_ite ?_))
  split
  · first
      | exact wpAny_bind (wpAny_pure (wpAny_pure (And.intro rfl h0)))
      | exact wpAny_pure (And.intro rfl h0)
  · first
      | exact wpAny_bind (wpAny_rule (wpAny_bind (wpAny_standAt (wpAny_bind (wpAny_mono h (fun it' s' h' => wpAny_pure (And.intro rfl h')) fun _ _ x => x)))))
      | (refine wpAny_bind (wpAny_rule ?_); exact wpAny_bind (wpAny_standAt (wpAny_bind (wpAny_mono h (fun it' s' h' => wpAny_pure (And.intro rfl h')) fun _ _ x => x))))
end
def emitD (kx vx : Expr) (env : Env) (acc : Value) : Sem Unit := do
        let kv ← eval kx env
        let vv ← holding [kv] (eval vx env)
        match acc with
        | .ref d => do
          standAt { kx.pos with endLine := vx.pos.endLine, endCol := vx.pos.endCol }
          holding [kv, vv] (dictSet d kv vv)
        | _ => unsupported "internal:dictcomp"
def genB (iter : Expr) (e : Expr) (d : Nat) (env : Env) (acc : Value) : Sem Unit := do
        let x ← eval iter env
        standAt iter.pos
        let x ← foldedSetIterable iter env x
        let _ ← runOwn (.compStart e d (← holding [x] (pyIter x)) acc env) env
abbrev TB := Addr → St → Hp → (Hp → Prop) → Prop
def PB (Y : Cx) (body : Value → Sem Unit) (tb : TB) : Prop := ∀ (D : Addr) (pins : List (Addr × Obj)) (s : Shared) (σ : St) (H : Hp) (N : Hp → Prop), Inv Y pins σ H s → tb D σ H N →
  wpAny (model Y.prog Y.w) Y.A (body (.ref D)) (fun _ s' => ∃ σ' H', Inv Y pins σ' H' s' ∧ (∀ (j : Nat) (v : V), σ[j]? = some (some v) → σ'[j]? = some (some v)) ∧ N H') (fun _ _ => False) s
def GenW (g : TG) (tf : TT) (tb : TB) (D : Addr) (σ : St) (H1 : Hp) (N : Hp → Prop) (J : It) : Prop := ∃ W : Nat → Nat → Hp → Prop, (∃ m, W 0 m H1) ∧ ∀ i m H, W i m H →
  ((J.stop i H ∧ N H) ∨ (J.go i H ∧ ∃ M : Hp → Prop, (∀ H', M H' → ∃ m', m' < m ∧ W (i + 1) m' H') ∧ ∀ x H', J.yld i H x H' → g x σ H' fun σ2 H2 => Keep σ σ2 ∧ tf σ2 H2 fun b H3 => if b = true then tb D σ2 H3 M else M H3))
def tGen (wi : TI) (g : TG) (tf : TT) (tb : TB) : TB := fun D σ H N => wi σ H fun J H1 => GenW g tf tb D σ H1 N J
def tCompG (mk : HO) (cap : List (Option Nat)) (wi : TI) (g : TG) (tf : TT) (tb : TB) : TE := fun σ H Q => wi σ H fun J H1 => ∀ D, H1 D = none → GenW g tf tb D (capSt cap σ) (upd H1 D mk) (fun H' => Q (.ref D) H') J
def tEmitD (tk tv : TE) : TB := fun D σ H N => tk σ H fun x H1 => tv σ H1 fun y H2 => ∃ H3, DPut H2 D x y H3 ∧ N H3
section
variable {Y : Cx} {tg iter elt kx vx : Expr} {ifs : List Expr} {g : TG} {tf : TT} {tb : TB} {body : Value → Sem Unit} {te tk tv : TE} {wi : TI}
theorem d_set {X : Cx} {pins : List (Addr × Obj)} {σ : St} {H H' : Hp} {s : Shared} {a : Addr} {y v : V} {u r : Value} {A : Around} {E : Value → Shared → Prop} {Q : Unit → Shared → Prop} (hu : A.units + 1 < cLine) (I : Inv X pins σ H s) (g : DPut H a y v H') (ry : RelV y u) (rv : RelV v r) (h : ∀ s', Inv X pins σ H' s' → Q () s') :
    wpAny (model X.prog X.w) A (dictSet a u r) Q E s := by
  rcases g with ⟨kvs, k, e, ey, l, eH⟩ | ⟨kvs, k, b, e, ey, eb, l, eH⟩
  · subst ey eH
    obtain ⟨z, hd, vs, rel, dd⟩ := dk_of I.hok e
    have hz : vs.length ≤ sizeLine := by rw [← rel.length]; exact z
    have hl : (putK kvs k v).length ≤ sizeLine := by have := length_putK kvs k v; omega
    refine wpAny_dictSet_pairs (hsz := hz) (kV_is ry) dd fun h' dd' hs => h _ ?_
    have he : ∃ q, h'.get? a = some q := let ⟨q, _, _, hq, _⟩ := dd'; ⟨q, hq⟩
    exact d_write I (by rw [e]; exact True.intro) hs he (dk_new hl hd (rel.put k rv) dd')
  · subst ey eH
    cases (show u = Value.ref b from ry)
    obtain ⟨z, hd, xs, rel, dd⟩ := dt_of I.hok e
    have hz : xs.length ≤ sizeLine := by rw [← Paired.length rel]; exact z
    have hl : (putK kvs k v).length ≤ sizeLine := by have := length_putK kvs k v; omega
    refine wpAny_dictSet_heap (hsz := hz) (show (tupleKind (mixKind X.prog X.w)).room A from Nat.lt_of_succ_lt hu) (key_of I.hok eb) dd fun h' dd' hs => h _ ?_
    obtain ⟨q, es, ep, hq, h2, h3, h4, _, h5⟩ := dd'
    refine d_write I (by rw [e]; exact True.intro) hs ⟨q, hq⟩ ⟨hl, hd, _, (rel.put k eb rv).keeps fun c ys ec => ?_, q, es, ep, hq, h2, h3, h4, h5⟩
    rw [upd_ne (ne_of ec e (fun z => nomatch z))]
    exact ec
theorem pb_dict (hxe : Y.xe = fun _ _ => False) (hu : Y.A.units + 1 < cLine) (hk : PE Y kx tk) (hv : PE Y vx tv) : PB Y (emitD kx vx Y.env) (tEmitD tk tv) := by
  intro D pins s σ H N I h
  have hk' := hk pins s σ H _ I h
  rw [hxe] at hk'
  refine wpAny_bind (thn hk' fun u s1 ⟨x, H1, I1, r1, q1⟩ => ?_)
  have hv' := hv pins s1 σ H1 _ I1 q1
  rw [hxe] at hv'
  refine wpAny_bind (wpAny_holding (thn hv' fun r s2 ⟨y, H2, I2, r2, H3, g, q⟩ => ?_))
  refine wpAny_bind (wpAny_standAt (wpAny_holding (d_set hu I2 g r1 r2 fun s' I' => ⟨σ, H3, I', fun _ _ e => e, q⟩)))
theorem gen_loop (hc : Y.calm = true) (hxe : Y.xe = fun _ _ => False) (hg : PG Y tg g) (hf : PTs Y ifs tf) (hb : PB Y body tb) {e : Expr} (ce : CompE e) {d : Nat} {it : Addr} {fp : List Addr} {tn : Nat → Heap → Prop} {J : It} (T : Turn Y.prog Y.w Y.K tg J fp it tn)
    {pins : List (Addr × Obj)} {s : Shared} {σ : St} {H : Hp} {D : Addr} {N : Hp → Prop} {R : Result → Shared → Prop} (I : Inv Y pins σ H s) (st : tn 0 s.heap) (f : ∀ b ∈ fp, FpOk Y pins H b) (w : GenW g tf tb D σ H N J)
    (ht : compTurn e d (.ref it) (.ref D) Y.env = turnTree tg iter ifs (body (.ref D)) (.ref it) Y.env (.compLoop e d (.ref it) (.ref D) Y.env))
    (fin : ∀ σ' H' s', Inv Y pins σ' H' s' → (∀ (j : Nat) (v : V), σ[j]? = some (some v) → σ'[j]? = some (some v)) → N H' → R (.ok .next) s') :
    codeAny (model Y.prog Y.w) Y.A (.compLoop e d (.ref it) (.ref D) Y.env) R s := by
  obtain ⟨W, ⟨m0, w0⟩, turn⟩ := w
  have stat : ∀ {H' : Hp}, (∀ b ∈ fp, H' b = none) → ∀ b ∈ fp, FpOk Y pins H' b := fun hn b hb => ⟨hn b hb, (f b hb).2⟩
  refine compLoop_tree ce ht (fun n s' => ∃ i σ' H', Inv Y pins σ' H' s' ∧ tn i s'.heap ∧ (∀ b ∈ fp, H' b = none) ∧ (∀ (j : Nat) (v : V), σ[j]? = some (some v) → σ'[j]? = some (some v)) ∧ W i n H') ?_ m0 ⟨0, σ, H, I, st, fun b hb => (f b hb).1, fun _ _ e => e, w0⟩
  rintro n s3 ⟨i, σ3, H3, I3, st3, fr3, kp, w3⟩
  rcases turn i n H3 w3 with ⟨stop, qn⟩ | ⟨go, M, hM, step⟩
  · refine thn (T.done Y rfl rfl rfl hc i pins s3 σ3 H3 _ I3 (stat fr3) st3 stop) fun r s4 ⟨hr, I4⟩ => ?_
    subst hr
    exact fin σ3 H3 s4 I4 kp qn
  · have I3' : Inv Y pins σ H3 s3 := I3.weak (by rw [I3.len, I.len]) kp
    refine thn (T.item Y rfl rfl rfl hc i pins s3 σ H3 _ I3' (stat fr3) st3 go) fun r s4 ⟨u, hr, h4⟩ => ?_
    subst hr
    refine thn h4 fun _ s5 ⟨x, H5, I5, r5, y5, st5, fr5⟩ => ?_
    have I5' := I5.pinned (stat fr5) (T.obj _ _ st5)
    have hg' := hg _ s5 σ H5 x u _ I5' r5 (step x H5 y5)
    rw [hxe] at hg'
    refine thn hg' fun _ s6 ⟨σ6, H6, I6, kp6, q6⟩ => ?_
    have hf' := hf _ s6 σ6 H6 _ I6 q6
    rw [hxe] at hf'
    refine thn hf' fun ok s7 ⟨H7, I7, q7⟩ => ?_
    have again : ∀ {s8 : Shared} {σ7 : St} {H7 : Hp}, Inv Y (pins ++ pinsAt fp s5.heap) σ7 H7 s8 → (∀ (j : Nat) (v : V), σ6[j]? = some (some v) → σ7[j]? = some (some v)) → M H7 → ∃ m, m < n ∧ ∃ i σ' H', Inv Y pins σ' H' s8 ∧ tn i s8.heap ∧ (∀ b ∈ fp, H' b = none) ∧ (∀ (j : Nat) (v : V), σ[j]? = some (some v) → σ'[j]? = some (some v)) ∧ W i m H' := fun {s8 σ7 H7} I7 k7 n7 => by
      obtain ⟨m', hm, w7⟩ := hM H7 n7
      refine ⟨m', hm, i + 1, σ7, H7, I7.unpinned, T.keep _ _ _ st5 fun b hb o e => (I7.pin (b, o) (List.mem_append_right _ (List.mem_append_right _ (mem_pinsAt hb e)))).1, fun b hb => ?_, fun j v e => k7 j v (Keep.get kp6 e), w7⟩
      obtain ⟨o, e, d⟩ := T.obj _ _ st5 b hb
      exact (I7.pin (b, o) (List.mem_append_right _ (List.mem_append_right _ (mem_pinsAt hb e)))).2.1
    cases ok with
    | false =>
      rw [if_neg Bool.false_ne_true] at q7 ⊢
      exact again I7 (fun _ _ e => e) q7
    | true =>
      rw [if_pos rfl] at q7 ⊢
      exact thn (hb D _ s7 σ6 H7 _ I7 q7) fun _ s8 ⟨σ8, H8, I8, k8, q8⟩ => again I8 k8 q8
theorem pb_gen (hc : Y.calm = true) (hxe : Y.xe = fun _ _ => False) (hi : PI Y tg iter wi) (hg : PG Y tg g) (hf : PTs Y ifs tf) {body : Env → Value → Sem Unit} (hb : PB Y (body Y.env) tb) {e : Expr} (ce : CompE e) {d : Nat} (hcl : (clausesOf e)[d]? = some ⟨tg, iter, ifs, 0⟩)
    (ht : ∀ env it acc, compTurn e d it acc env = turnTree tg iter ifs (body env acc) it env (.compLoop e d it acc env) := by intro _ _ _; rfl) (hs : ∀ x, foldedSetIterable iter Y.env x = pure x := by intro _; rfl) :
    PB Y (genB iter e d Y.env) (tGen wi g tf tb) := by
  intro D pins s σ H N I h
  have hi' := hi pins s σ H _ I h
  rw [hxe] at hi'
  refine wpAny_bind (thn hi' fun v s1 h1 => wpAny_bind (wpAny_standAt (wpAny_bind (wpAny_of_eq (hs v) (wpAny_bind (wpAny_holding (thn h1 fun itv s2 h2 => ?_)))))))
  obtain ⟨it, fp, tn, J, H2, rfl, I2, T, st2, f2, w⟩ := h2
  have lp : codeAny (model Y.prog Y.w) Y.A (.compLoop e d (.ref it) (.ref D) Y.env) (fun r s' => match r with | .ok f => (∃ σ' H', Inv Y pins σ' H' s' ∧ (∀ (j : Nat) (v : V), σ[j]? = some (some v) → σ'[j]? = some (some v)) ∧ N H') | .error x => cameBackBy (model Y.prog Y.w) Y.A Y.env (fun _ _ => False) x s') s2 :=
    gen_loop hc hxe hg hf hb ce T I2 st2 f2 w (ht _ _ _) fun σ' H' s' I' k' n' => ⟨σ', H', I', k', n'⟩
  refine wpAny_bind (wpAny_runOwn (compStart_any ce hcl rfl ?_ ?_))
  · exact codeAny_mono lp fun r s' h => by
      cases r with
      | ok f => exact wpAny_pure h
      | error x => exact h
  · refine T.self _ 0 _ _ _ st2 (codeAny_mono lp fun r s' h => by
      cases r with
      | ok f => exact wpAny_pure h
      | error x => exact h)
end
end L2
namespace L2
open PySem PySem.Spec PyProof.Rows
section
variable {X : Cx} {scope : Scope} {N : List Str} {cap : List (Option Nat)} {tg iter : Expr} {ifs : List Expr} {pos : Pos} {wi : TI} {g : TG} {tf : TT} {tb : TB} {body : Env → Value → Sem Unit}
theorem comp_outT {pins : List (Addr × Obj)} {σ σ' : St} {H2 H' : Hp} {s2 s' : Shared} {fp : List Addr} {C : Addr} {h' : Heap} (I2 : Inv X pins σ H2 s2) (f2 : ∀ b ∈ fp, FpOk X pins H2 b)
    (hC : s2.heap.objs.size ≤ C) (I' : Inv (compCx X scope N s2 H2 C fp) [] σ' H' s') (hs : Heap.SameBut C s'.heap h') : Inv X pins σ H' { s' with heap := h' } := by
  have nC : H' C = none := I'.free
  have lt2 : ∀ b o, s2.heap.get? b = some o → b ≠ C := fun b o e => Nat.ne_of_lt (Nat.lt_of_lt_of_le (Heap.lt_size e) hC)
  have hk : ∀ b o, b ≠ C → s'.heap.get? b = some o → h'.get? b = some o := fun b o hb e => (hs.2 b hb).trans e
  have B : Un (frs X.stack) fp H2 H' s2.heap s'.heap := I'.base
  have tr : ∀ b u, H' b = some u → b ≠ C := fun b u e z => by rw [z, nC] at e; cases e
  refine I2.call' (ch := fp) I'.os ⟨fun b o e n hb hx => ?_, fun b o e n hb hx => ?_, fun b o e n hx => ?_, fun b o e hx => ?_, fun b xs e => ?_, fun b o u e => ?_, fun b ps e => ?_⟩ (fun b u e => ?_) I'.bare fun b hb => ⟨(f2 b hb).2.2.2.1, (f2 b hb).2.1, (f2 b hb).2.2.2.2.1, (f2 b hb).2.2.2.2.2⟩
  · exact hk b o (lt2 b o e) (B.keep b o e n hb hx)
  · obtain ⟨sl, q⟩ := B.slot b o e n hb hx
    exact ⟨sl, hk b _ (lt2 b o e) q⟩
  · exact B.free b o e n hx
  · obtain ⟨o', q⟩ := B.there b o e hx
    exact ⟨o', hk b _ (lt2 b o e) q⟩
  · exact B.tups b xs e
  · exact B.frzs b o u e
  · exact B.tbls b ps e
  · refine (I'.hok b u e).stay (fun c w' hc q => hk c w' ?_ q) (fun c q => q) fun c xs q => q
    rcases hc with z | z
    · rw [z]; exact tr b u e
    · exact tr c _ z
theorem comp_coreG (S : CompScope X scope N cap) (hc : X.calm = true) {e : Expr} (ce : CompE e) (hcl : (clausesOf e)[0]? = some ⟨tg, iter, ifs, 0⟩)
    (hg : ∀ s H C fp, PG (compCx X scope N s H C fp) tg g) (hf : ∀ s H C fp, PTs (compCx X scope N s H C fp) ifs tf) (hb : ∀ s H C fp, PB (compCx X scope N s H C fp) (body (compCx X scope N s H C fp).env) tb)
    (ht : ∀ env it acc, compTurn e 0 it acc env = turnTree tg iter ifs (body env acc) it env (.compLoop e 0 it acc env))
    {pins : List (Addr × Obj)} {σ : St} {H3 : Hp} {s3 : Shared} {it D : Addr} {fp : List Addr} {tn : Nat → Heap → Prop} {J : It} {Qv : Hp → Prop} {E : Value → Shared → Prop} {RR : Addr → Result → Shared → Prop}
    (I3 : Inv X pins σ H3 s3) (T : Turn X.prog X.w X.K tg J fp it tn) (st3 : tn 0 s3.heap) (f3 : ∀ b ∈ fp, FpOk X pins H3 b) (w : GenW g tf tb D (capSt cap σ) H3 Qv J)
    (fin : ∀ (C : Addr) (σ' : St) (H' : Hp) (s' : Shared), s3.heap.objs.size ≤ C → Inv (compCx X scope N s3 H3 C fp) [] σ' H' s' → Qv H' → RR C (.ok .next) s') :
    wpAny (model X.prog X.w) X.A (newFunctionEnv scope X.env.globals (closeOf X.env scope.names []) [] X.env.qual none .none (some X.env)) (fun cenv s₄ =>
      codeAny (model X.prog X.w) X.A (.compStart e 0 (.ref it) (.ref D) { cenv with scope := relabel scope X.env }) (RR cenv.locals) s₄) E s3 := by
  refine newCompEnv ?_
  generalize hC : s3.heap.objs.size = C
  generalize hH4 : pushCells (s3.heap.push { cls := .type "dict", data := .dict #[] }) scope.names = h4
  have hz3' : (s3.heap.push { cls := .type "dict", data := .dict #[] }).objs.size = C + 1 := by rw [Heap.size_push, hC]
  have ck : CellsOk h4 (C + 1) (cellsFrom (C + 1) scope.names []) := by
    have := cellsFrom_ok scope.names (s3.heap.push { cls := .type "dict", data := .dict #[] }) (C + 1) [] ⟨fun _ _ hm => (nomatch hm), List.Pairwise.nil⟩ (by rw [hz3']; exact Nat.le_refl _)
    rw [hz3', hH4] at this
    exact this
  have k34 : ∀ b o, s3.heap.get? b = some o → h4.get? b = some o := fun b o e => by rw [← hH4]; exact pushCells_keeps _ _ b o (Heap.get?_push_of_some _ e)
  have hn4 : h4.Ns C fun _ => none := by
    rw [← hH4, ← hC]
    exact (Heap.Ns.new s3.heap (.type "dict")).keeps (pushCells_keeps _ _)
  have hlt : ∀ b ∈ fp, b < C := fun b hb => by
    obtain ⟨o, e, _⟩ := T.obj _ _ st3 b hb
    rw [← hC]; exact Heap.lt_size e
  have hCs : s3.heap.objs.size ≤ C := by rw [hC]; exact Nat.le_refl _
  have IC : Inv (compCx X scope N s3 H3 C fp) [] (capSt cap σ) H3 { s3 with heap := h4 } :=
    comp_start S I3 hCs ck f3 hlt ⟨_, _, rfl⟩ hn4 fun b o e => k34 b o e
  have okC := IC.ok
  have fO : ∀ b ∈ fp, FpOk (compCx X scope N s3 H3 C fp) [] H3 b := fun b hb =>
    ⟨(f3 b hb).1, Nat.ne_of_lt (hlt b hb), okC.exfs b hb, .inl hb, (okC.exf b hb).2, fun p hp => by
      have : p ∈ ([] : List (Addr × Obj)) := hp
      cases this⟩
  have st4 : tn 0 h4 := T.keep _ _ _ st3 fun b hb o e => k34 b o e
  have loop : codeAny (model X.prog X.w) X.A (.compLoop e 0 (.ref it) (.ref D) (compCx X scope N s3 H3 C fp).env) (RR C) { s3 with heap := h4 } :=
    gen_loop (Y := compCx X scope N s3 H3 C fp) hc rfl (hg _ _ _ _) (hf _ _ _ _) (hb _ _ _ _) ce T IC st4 fO w (ht _ _ _) fun σ' H' s' I' _ q => fin C σ' H' s' hCs I' q
  exact compStart_any ce hcl rfl loop (T.self _ 0 _ _ _ st4 loop)
theorem pe_compD {mk : HO} (hmk : mk = .dK [] ∨ mk = .dT []) (S : CompScope X scope N cap) (hc : X.calm = true) {kx vx : Expr} {gs : List Comprehension} (hi : PI X tg iter wi)
    (hg : ∀ s H C fp, PG (compCx X scope N s H C fp) tg g) (hf : ∀ s H C fp, PTs (compCx X scope N s H C fp) ifs tf) (hb : ∀ s H C fp, PB (compCx X scope N s H C fp) (body (compCx X scope N s H C fp).env) tb)
    (ht : ∀ env it acc, compTurn (.DictComp kx vx (⟨tg, iter, ifs, 0⟩ :: gs) scope pos) 0 it acc env = turnTree tg iter ifs (body env acc) it env (.compLoop (.DictComp kx vx (⟨tg, iter, ifs, 0⟩ :: gs) scope pos) 0 it acc env) := by intro _ _ _; rfl)
    (hs : ∀ x, foldedSetIterable iter X.env x = pure x := by intro _; rfl) : PE X (.DictComp kx vx (⟨tg, iter, ifs, 0⟩ :: gs) scope pos) (tCompG mk cap wi g tf tb) := by
  intro pins s σ H Q I h
  rw [arm_eval_DictComp]
  have frc : ∀ x ∈ scope.names, x.2 = .free → ∃ c, X.env.cells.lookup x.1 = some c := fun x hx hk => I.ok.has x.1 (S.free x hx hk)
  refine wpAny_comprehension_free (use := none) rfl hs (closureFor_eq frc) S.kind (comp_names S) (thn (hi pins s σ H _ I h) fun v s1 h1 => thn h1 fun itv s2 h2 => ?_)
  obtain ⟨it, fp, tn, J, H2, rfl, I2, T, st2, f2, w⟩ := h2
  refine wpAny_newObj_type ?_
  have hz : H2 s2.heap.objs.size = none := I2.hok.fresh (Nat.le_refl _)
  have I3 : Inv X pins σ (upd H2 s2.heap.objs.size mk) { s2 with heap := s2.heap.push { cls := .type "dict", dict := none, data := .dict #[] } } := by
    rcases hmk with rfl | rfl
    · exact I2.laid (a := s2.heap.objs.size) (o := .dK []) (t' := s2.toks) (fun _ _ q => Heap.get?_push_of_some _ q) (Nat.le_refl _) (dk_empty s2.heap I2.big)
    · exact I2.laid (a := s2.heap.objs.size) (o := .dT []) (t' := s2.toks) (fun _ _ q => Heap.get?_push_of_some _ q) (Nat.le_refl _) (dt_empty s2.heap I2.big)
  have nD : ∀ b ∈ fp, b ≠ s2.heap.objs.size := fun b hb => by
    obtain ⟨o, e, _⟩ := T.obj _ _ st2 b hb
    exact Nat.ne_of_lt (Heap.lt_size e)
  have f3 : ∀ b ∈ fp, FpOk X pins (upd H2 s2.heap.objs.size mk) b := fun b hb => ⟨by rw [upd_ne (nD b hb)]; exact (f2 b hb).1, (f2 b hb).2⟩
  refine comp_coreG (RR := fun C => compPost (model X.prog X.w) X.A X.xe none (EP X pins σ Q) (.ref s2.heap.objs.size) C) S hc CompE.dict rfl hg hf hb ht I3 T (T.keep _ _ _ st2 fun b hb o e => Heap.get?_push_of_some _ e) f3 (w _ hz) fun C σ' H' s' hC I' q => ?_
  obtain ⟨m, hn, _⟩ := I'.loc
  exact ⟨m, hn, fun h' hs' => ⟨.ref _, H', comp_outT I3 f3 hC I' hs', rfl, q⟩⟩
theorem turn_nest {it acc : Value} {env : Env} {e iter2 : Expr} {d : Nat} {c : Code} : turnTree tg iter ifs (genB iter2 e d env acc) it env c = (do
  standAt iter.pos
  match ← pyNext it with
  | none => pure (.done .next)
  | some v =>
    letOwnedTupleGo tg it v
    assign tg env v
    let mut ok := true
    for c in ifs do
      if ok then ok ← isTrue c env (eval c env)
    if ok then
        let x ← eval iter2 env
        standAt iter2.pos
        let x ← foldedSetIterable iter2 env x
        let _ ← runOwn (.compStart e d (← holding [x] (pyIter x)) acc env) env
    again c) := by
  unfold turnTree genB
  simp only [bind_assoc, pure_bind]
  all_goals rfl
variable {kx vx elt tg2 iter2 tg3 iter3 : Expr} {ifs2 ifs3 : List Expr} {wi2 wi3 : TI} {g2 g3 : TG} {tf2 tf3 : TT} {te tk tv : TE} {mk : HO}
theorem pe_compD2 (hmk : mk = .dK [] ∨ mk = .dT []) (hu : X.A.units + 1 < cLine) (S : CompScope X scope N cap) (hc : X.calm = true) (hi : PI X tg iter wi)
    (hg : ∀ s H C fp, PG (compCx X scope N s H C fp) tg g) (hf : ∀ s H C fp, PTs (compCx X scope N s H C fp) ifs tf)
    (hi2 : ∀ s H C fp, PI (compCx X scope N s H C fp) tg2 iter2 wi2) (hg2 : ∀ s H C fp, PG (compCx X scope N s H C fp) tg2 g2) (hf2 : ∀ s H C fp, PTs (compCx X scope N s H C fp) ifs2 tf2) (hk : ∀ s H C fp, PE (compCx X scope N s H C fp) kx tk) (hv : ∀ s H C fp, PE (compCx X scope N s H C fp) vx tv)
    (hs : ∀ x, foldedSetIterable iter X.env x = pure x := by intro _; rfl) (hs2 : ∀ env x, foldedSetIterable iter2 env x = pure x := by intro _ _; rfl) : PE X (.DictComp kx vx [⟨tg, iter, ifs, 0⟩, ⟨tg2, iter2, ifs2, 0⟩] scope pos) (tCompG mk cap wi g tf (tGen wi2 g2 tf2 (tEmitD tk tv))) :=
  pe_compD hmk S hc hi hg hf (body := genB iter2 (.DictComp kx vx [⟨tg, iter, ifs, 0⟩, ⟨tg2, iter2, ifs2, 0⟩] scope pos) 1)
    (fun s H C fp => pb_gen (Y := compCx X scope N s H C fp) hc rfl (hi2 s H C fp) (hg2 s H C fp) (hf2 s H C fp) (body := emitD kx vx) (pb_dict (Y := compCx X scope N s H C fp) rfl hu (hk s H C fp) (hv s H C fp)) CompE.dict rfl (fun _ _ _ => rfl) (hs2 _)) (fun _ _ _ => by rw [turn_nest]; rfl) hs
end
end L2
namespace Wb
open PySem L2 Mi
section
variable {Er : Nat → Prop} {α β γ S : Type} {K : PySem.W.Frag} {W W' W0 Wb W1 W2 : Wd} {σ : St} {t ta tb te ti tk tv : TE} {i : Nat} {O : Wd → Addr → S → Prop}
theorem ev_neB {ma mb : Res Bool} (ha : EV Er ta σ W (sh isB) ma) (hb : EV Er tb σ W (sh isB) mb) : EV Er (tOp rNe ta tb) σ W (sh isB) (ma.bind fun a => mb.bind fun b => .ok (!decide (a = b))) :=
  ev2 ha hb fun W a b x y Q hx hy k => by cases hx; cases hy; exact ⟨rfl, by rw [dB]; exact k _ W (.refl _) rfl⟩
theorem yesB {t : TB} {D : Addr} {H : Hp} {M : Hp → Prop} (h : t D σ H M) : tYes σ H fun b H3 => if b = true then t D σ H3 M else M H3 := by
  show (if true = true then t D σ H M else M H)
  rw [if_pos rfl]; exact h
def BV (Er : Nat → Prop) (t : TB) (σ : St) (Wb W : Wd) (O : Wd → Addr → S → Prop) (D : Addr) (m : S → Res S) : Prop := ∀ W1 s (N : Hp → Prop), Ext W W1 → O W1 D s → (m s).OkE Er (fun s' => ∀ W', Same W1.G W'.G → Ext Wb W' → O W' D s' → N W'.H) → t D σ W1.H N
theorem bv_dict {g : β → Key} {R : Rp α} [DecidableEq β] [Mono R] {Rk : Rp β} [Mono Rk] {mk : Res β} {mv : Res α} {D : Addr} (hg : ∀ a b, g a = g b → a = b) (hk : ∀ H b v, Rk H b v → v = kV (g b)) (eb : Ext Wb W) (hD : Wb.H D = none) (h : EV Er tk σ W (sh Rk) mk) (h' : EV Er tv σ W (sh R) mv) : BV Er (tEmitD tk tv) σ Wb W (OwD g R) D (fun kvs => mk.bind fun k => mv.bind fun a => dput kvs k a) := fun W1 xs N e1 o k =>
  h W1 e1 _ ((Res.okE_bind k).imp fun b kb x W2 e2 hx => h' W2 (e1.trans e2) _ ((Res.okE_bind kb).imp fun a ka v W3 e3 hv => by
    obtain ⟨h3, h4⟩ := must_OkE ka
    have o' := o.mono (e2.trans e3)
    obtain ⟨kv, o1, o2, o3⟩ := o'.h
    obtain ⟨p1, p2⟩ := put_rel hg o2 o3 (k := b) hv
    have e := (e1.trans e2).trans e3
    refine ⟨_, by rw [hk _ _ _ hx]; exact DPut.k o1 (by rw [o2, sizeLine_eq]; unfold Mi.cap at h3; omega), h4 (W3.mut D (.dK (putK kv (g b) v)) o'.g) (e2.trans e3).g ((eb.trans e).mut hD o'.g) ⟨o'.g, _, upd_same, p1, p2⟩⟩))
theorem genW_of {R : Rp α} {J : It} {xs : List α} {g : TG} {tf : TT} {t : TB} {f : α → S → Res S} {D : Addr} {N : Hp → Prop} {s0 : S} (hy : Yl J W R xs) (h0 : Ext W W1 ∨ Same W.G W1.G) (eb : Ext Wb W1) (o : O W1 D s0)
    (hs : ∀ W2 a v s (M : Hp → Prop), Same W.G W2.G → Ext Wb W2 → O W2 D s → R W2.G a v → (f a s).OkE Er (fun s' => ∀ W', Same W2.G W'.G → Ext Wb W' → O W' D s' → M W'.H) → g v σ W2.H fun σ2 H2 => Keep σ σ2 ∧ tf σ2 H2 fun b H3 => if b = true then t D σ2 H3 M else M H3)
    (mono : ∀ W W' s, Ext W W' → O W D s → O W' D s)
    (k : (forR f xs s0).OkE Er fun s' => ∀ W', Same W.G W'.G → Ext Wb W' → O W' D s' → N W'.H) : GenW g tf t D σ W1.H N J := by
  have hs1 : Same W.G W1.G := h0.elim (fun e => e.g) id
  refine ⟨fun i n H => n = xs.length - i ∧ i ≤ xs.length ∧ ∃ (W3 : Wd) (s : S), W3.H = H ∧ Same W.G W3.G ∧ Ext Wb W3 ∧ O W3 D s ∧ (forR f (xs.drop i) s).OkE Er fun s' => ∀ W', Same W.G W'.G → Ext Wb W' → O W' D s' → N W'.H, ⟨xs.length, by simp, by simp, W1, s0, rfl, hs1, eb, o, by simpa using k⟩, ?_⟩
  rintro i n H ⟨rfl, hi1, W3, s, rfl, e3, eb3, o3, q⟩
  by_cases hlt : i < xs.length
  · obtain ⟨a, ha⟩ : ∃ a, xs[i]? = some a := ⟨xs[i], by simp [hlt]⟩
    obtain ⟨h1, h2⟩ := (hy W3 e3).1 i a ha
    refine .inr ⟨h1, fun H' => ∃ (W3 : Wd) (s : S), W3.H = H' ∧ Same W.G W3.G ∧ Ext Wb W3 ∧ O W3 D s ∧ (forR f (xs.drop (i + 1)) s).OkE Er fun s' => ∀ W', Same W.G W'.G → Ext Wb W' → O W' D s' → N W'.H, fun H' z => ⟨xs.length - (i + 1), by omega, rfl, hlt, z⟩, fun x H' hx => ?_⟩
    obtain ⟨W4, rfl, e4, rx⟩ := h2 x H' hx
    rw [forR_drop ha] at q
    exact hs W4 a x s _ (e3.trans e4.g) (eb3.trans e4) (mono _ _ _ e4 o3) rx ((Res.okE_bind q).imp fun s' ks W' z1 z2 z3 => ⟨W', s', rfl, (e3.trans e4.g).trans z1, z2, z3, ks⟩)
  · have e : i = xs.length := by omega
    subst e
    rw [List.drop_length] at q
    exact .inl ⟨(hy W3 e3).2, q W3 e3 eb3 o3⟩
theorem bv_gen {R : Rp α} {wi : TI} {g : TG} {tf : TT} {t : TB} {mi : Res (List α)} {f : α → S → Res S} {D : Addr} (eb : Ext Wb W) (hi : IV Er wi σ W R mi) (mono : ∀ W W' s, Ext W W' → O W D s → O W' D s)
    (hs : ∀ W2 a v s (M : Hp → Prop), Same W.G W2.G → Ext Wb W2 → O W2 D s → R W2.G a v → (f a s).OkE Er (fun s' => ∀ W', Same W2.G W'.G → Ext Wb W' → O W' D s' → M W'.H) → g v σ W2.H fun σ2 H2 => Keep σ σ2 ∧ tf σ2 H2 fun b H3 => if b = true then t D σ2 H3 M else M H3) :
    BV Er (tGen wi g tf t) σ Wb W O D (fun s => mi.bind fun xs => forR f xs s) := fun W1 s N e1 o k =>
  hi W1 e1 _ ((Res.okE_bind k).imp fun xs kx J W2 e2 hy => genW_of (W := W2) (Wb := Wb) hy (.inl (.refl _)) ((eb.trans e1).trans e2) (mono _ _ _ e2 o) (fun W3 a v s M e3 eb3 o3 r k3 => hs W3 a v s M ((e1.trans e2).g.trans e3) eb3 o3 r k3) mono (kx.imp fun s' ks W' z1 z2 z3 => ks W' (e2.g.trans z1) z2 z3))
theorem ev_compD {gk : β → Key} {R : Rp α} {R' : Rp γ} [Mono R'] {cap : List (Option Nat)} {wi : TI} {g : TG} {tf : TT} {t : TB} {mi : Res (List α)} {f : α → List (β × γ) → Res (List (β × γ))} (hi : IV Er wi σ W R mi)
    (hs : ∀ Wb D W2 a v s (M : Hp → Prop), Same W.G W2.G → Ext W Wb → Wb.H D = none → Ext Wb W2 → OwD gk R' W2 D s → R W2.G a v → (f a s).OkE Er (fun s' => ∀ W', Same W2.G W'.G → Ext Wb W' → OwD gk R' W' D s' → M W'.H) → g v (capSt cap σ) W2.H fun σ2 H2 => Keep (capSt cap σ) σ2 ∧ tf σ2 H2 fun b H3 => if b = true then t D σ2 H3 M else M H3) :
    EVd Er (tCompG (.dK []) cap wi g tf t) σ W gk R' (mi.bind fun xs => forR f xs []) := fun W1 e1 Q k =>
  hi W1 e1 _ ((Res.okE_bind k).imp fun xs kx J W2 e2 hy D hD => by
    refine genW_of (W := W2) (W1 := W2.mut D (.dK []) (W2.gnone hD)) (Wb := W2) (O := OwD gk R') (s0 := []) hy (.inr (.refl _)) (.own _ hD) ⟨W2.gnone hD, [], upd_same, rfl, fun i q x h => by simp at h⟩ (fun W3 a v s M e3 eb3 o3 r k3 => hs W2 D W3 a v s M ((e1.trans e2).g.trans e3) (e1.trans e2) hD eb3 o3 r k3) (fun _ _ _ e o => o.mono e) ?_
    exact kx.imp fun s' ks W' z1 z2 z3 => ks D W' (e2.trans z2) (none_of e2.h hD) z3)
end
end Wb
namespace Mi
noncomputable section
@[irreducible] def M_l_at  (l_script : List Int) (l_k : Int) : Res Int := if (decide (l_k < (l_script.length : Int))) then ixL l_script l_k else (mulR ((l_k * 48271) + (11 : Int)) ((l_script.length : Int) + (7 : Int))).bind fun y8 => Res.ok (y8 % 1000003)
def m_l_at (l_script : List Int) (l_k : Int) : Res Int := M_l_at  l_script l_k
@[irreducible] def M_l_row_b1 (l_cell : Int) (l_base : Int) (a19 : Int) (s20 : (Int × Int × (List Int))) : Res (Int × Int × (List Int)) := ((if (decide ((1000000000000000000 : Int) ≤ absI l_cell)) then Res.ok (decide ((0 : Int) < s20.2.1)) else Res.ok false).bind fun y45 => (if y45 then ((modR s20.2.1 l_base).bind fun y56 => appL s20.2.2 y56).bind fun y55 => (fdivR s20.2.1 l_base).bind fun y59 => Res.ok (y59, y55) else ((((mulR ((((s20.1 * 48271) + (7919 : Int)) + a19) % 2147483647) ((((s20.1 * 48271) + (7919 : Int)) + a19) % 2147483647)).bind fun y63 => Res.ok (y63 % 1000003)).bind fun y64 => modR y64 l_base).bind fun y69 => appL s20.2.2 y69).bind fun y68 => Res.ok (s20.2.1, y68) : Res (Int × (List Int)))).bind fun s70 => Res.ok (((((s20.1 * 48271) + (7919 : Int)) + a19) % 2147483647), s70.1, s70.2)
@[irreducible] def M_l_row  (l_cell : Int) (l_many : Int) (l_base : Int) : Res (List Int) := ((rangeR l_many).bind fun y78 => forR (M_l_row_b1 l_cell l_base) y78 (((absI l_cell) % 2147483647), absI l_cell, ([] : List Int))).bind fun s79 => Res.ok s79.2.2
def m_l_row (l_cell : Int) (l_many : Int) (l_base : Int) : Res (List Int) := M_l_row  l_cell l_many l_base
@[irreducible] def M_l_turns (m_l_row : Int → Int → Int → Res (List Int)) (l_cell : Int) (l_many : Int) : Res Tx := if (decide ((l_cell % 7) = (3 : Int))) then (ixS ([102, 98, 105] : Tx) ((l_cell / 7) % 3)).bind fun y3 => repS y3 l_many else ((m_l_row (l_cell / 7) l_many (3 : Int)).bind fun y18 => compR y18 (fun (a9 : Int) => ixS ([102, 98, 105] : Tx) a9)).bind fun y19 => joinE y19
def m_l_turns (l_cell : Int) (l_many : Int) : Res Tx := M_l_turns m_l_row l_cell l_many
@[irreducible] def M_l_cols_b1 (m_l_at : List Int → Int → Res Int) (m_l_turns : Int → Int → Res Tx) (l_script : List Int) (l_at_here : Int) (l_many : Int) (a7 : Int) (s8 : (List Tx)) : Res (List Tx) := (m_l_at l_script (l_at_here + a7)).bind fun y35 => (m_l_turns (y35 / 4) l_many).bind fun y40 => ((if (decide ((0 : Int) < a7)) then Res.ok (decide ((y35 % 4) < (2 : Int))) else Res.ok false).bind fun y43 => (if y43 then ((modR (y35 / 4) a7).bind fun y52 => ixL s8 y52).bind fun y53 => Res.ok y53 else Res.ok y40 : Res Tx)).bind fun s57 => ((if (decide ((0 : Int) < a7)) then if (decide ((0 : Int) < l_many)) then Res.ok (decide ((y35 % 4) = (2 : Int))) else Res.ok false else Res.ok false).bind fun y65 => (if y65 then ((modR (y35 / 4) a7).bind fun y74 => ixL s8 y74).bind fun y75 => (modR (y35 / 32) l_many).bind fun y80 => (((cutS y75 none (some y80)).bind fun y85 => (ixS ([102, 98, 105] : Tx) ((y35 / 7) % 3)).bind fun y86 => catS y85 y86).bind fun y87 => (cutS y75 (some (y80 + (1 : Int))) none).bind fun y88 => catS y87 y88).bind fun y89 => Res.ok y89 else Res.ok s57 : Res Tx)).bind fun s93 => (appL s8 s93).bind fun y106 => Res.ok y106
@[irreducible] def M_l_cols (m_l_at : List Int → Int → Res Int) (m_l_turns : Int → Int → Res Tx) (l_script : List Int) (l_at_here : Int) (l_width : Int) (l_many : Int) : Res (List Tx) := ((rangeR l_width).bind fun y107 => forR (M_l_cols_b1 m_l_at m_l_turns l_script l_at_here l_many) y107 ([] : List Tx)).bind fun s108 => Res.ok s108
def m_l_cols (l_script : List Int) (l_at_here : Int) (l_width : Int) (l_many : Int) : Res (List Tx) := M_l_cols m_l_at m_l_turns l_script l_at_here l_width l_many
@[irreducible] def M_l_joined  (l_cols_here : List Tx) (l_many : Int) : Res (List Tx) := (rangeR l_many).bind fun y21 => compR y21 (fun (a1 : Int) => (compR l_cols_here (fun (a9 : Tx) => ixS a9 a1)).bind fun y18 => joinE y18)
def m_l_joined (l_cols_here : List Tx) (l_many : Int) : Res (List Tx) := M_l_joined  l_cols_here l_many
@[irreducible] def M_l_groups_b1 (l_cols_here : List Tx) (a7 : Int × Tx) (s8 : (List (List Int))) : Res (List (List Int)) := (if (!(cut l_cols_here none (some a7.1)).contains a7.2) then (((rangeLn l_cols_here).bind fun y55 => compF y55 (fun (a42 : Int) => ((ixL l_cols_here a42).bind fun y52 => Res.ok (decide (y52 = a7.2))).bind fun y54 => if y54 then Res.ok (some a42) else Res.ok none)).bind fun y68 => appL s8 y68).bind fun y67 => Res.ok y67 else Res.ok s8 : Res (List (List Int))).bind fun s70 => Res.ok s70
@[irreducible] def M_l_groups  (l_cols_here : List Tx) : Res (List (List Int)) := (forR (M_l_groups_b1 l_cols_here) (enumL l_cols_here) ([] : List (List Int))).bind fun s78 => Res.ok s78
def m_l_groups (l_cols_here : List Tx) : Res (List (List Int)) := M_l_groups  l_cols_here
@[irreducible] def M_column  (plan : List Tx) (k : Int) : Res Tx := (compR plan (fun (a1 : Tx) => ixS a1 k)).bind fun y10 => joinE y10
def m_column (plan : List Tx) (k : Int) : Res Tx := M_column  plan k
open Classical in
@[irreducible] noncomputable def M_grouped (m_column : List Tx → Int → Res Tx) (plan : List Tx) (width : Int) : Res (List (List Int)) := must (0 ≤ width ∧ width ≤ 300 ∧ ∀ k, k < width.toNat → ∃ x, m_column plan (k : Int) = .ok x) (packsOf (colR m_column plan) width.toNat)
noncomputable def m_grouped (plan : List Tx) (width : Int) : Res (List (List Int)) := M_grouped m_column plan width
@[irreducible] def M_called (m_grouped : (List Tx) → Int → Res (List (List Int))) (plan : List Tx) (width : Int) : Res (List Tx) := ((m_grouped plan width).bind fun y12 => compR y12 (fun (a3 : List Int) => ixL a3 (0 : Int))).bind fun y13 => compR plan (fun (a16 : Tx) => (compR y13 (fun (a24 : Int) => ixS a16 a24)).bind fun y33 => joinE y33)
def m_called (plan : List Tx) (width : Int) : Res (List Tx) := M_called m_grouped plan width
@[irreducible] def M_unpacked  (packs : List (List Int)) (calls : List Tx) : Res (List Tx) := (forR (fun (a8 : Int × (List Int)) (s10 : List (Int × Int)) => forR (fun (a22 : Int) (s24 : List (Int × Int)) => dput s24 a22 a8.1) a8.2 s10) (enumL packs) ([] : List (Int × Int))).bind fun y34 => compR calls (fun (a39 : Tx) => ((sortD y34).bind fun y58 => compR y58 (fun (a47 : Int) => (getD y34 a47).bind fun y55 => ixS a39 y55)).bind fun y59 => joinE y59)
def m_unpacked (packs : List (List Int)) (calls : List Tx) : Res (List Tx) := M_unpacked  packs calls
@[irreducible] def M_l_parts_b1 (l_one : Tx) (l_other : Tx) (a2 : Int) (s3 : Unit) : Res (Fl (Option Int) Unit) := ((ixS l_one a2).bind fun y23 => (ixS l_other a2).bind fun y24 => Res.ok (!decide (y23 = y24))).bind fun y25 => if y25 then Res.ok (.rt (some a2)) else Res.ok (.nx ())
@[irreducible] def M_l_parts  (l_one : Tx) (l_other : Tx) : Res (Option Int) := (((lenS l_one).bind fun y1 => rangeR y1).bind fun y32 => forF (M_l_parts_b1 l_one l_other) y32 ()).bind (fun | .nx s33 => (Res.ok (none : Option Int)) | .rt r => Res.ok r | .bk _ => Res.stuck)
def m_l_parts (l_one : Tx) (l_other : Tx) : Res (Option Int) := M_l_parts  l_one l_other
@[irreducible] def M_parted_b1 (one : Int) (other : Int) (a1 : Int × Tx) (s2 : Unit) : Res (Fl (Option Int) Unit) := ((ixS a1.2 one).bind fun y29 => (ixS a1.2 other).bind fun y30 => Res.ok (!decide (y29 = y30))).bind fun y31 => if y31 then Res.ok (.rt (some a1.1)) else Res.ok (.nx ())
@[irreducible] def M_parted  (plan : List Tx) (one : Int) (other : Int) : Res (Option Int) := (forF (M_parted_b1 one other) (enumL plan) ()).bind (fun | .nx s38 => (Res.ok (none : Option Int)) | .rt r => Res.ok r | .bk _ => Res.stuck)
def m_parted (plan : List Tx) (one : Int) (other : Int) : Res (Option Int) := M_parted  plan one other
@[irreducible] def M_law_b1 (m_l_parts : Tx → Tx → Res (Option Int)) (m_parted : (List Tx) → Int → Int → Res (Option Int)) (y38 : List Tx) (y43 : List Tx) (y79 : List (List Int)) (a123 : Int) (a146 : Int) (s147 : Unit) : Res (Fl Bool Unit) := ((ixL y38 a123).bind fun y170 => (ixL y38 a146).bind fun y171 => m_l_parts y170 y171).bind fun y172 => (((m_parted y43 a123 a146).bind fun y175 => eqR y175 y172).bind fun y176 => Res.ok (!y176)).bind fun y177 => if y177 then Res.ok (.rt false) else ((((compF y79 (fun (a184 : List Int) => (if a184.contains a123 then Res.ok (a184.contains a146) else Res.ok false).bind fun y194 => if y194 then Res.ok (some a184) else Res.ok none)).bind fun y203 => Res.ok (y203.length : Int)).bind fun y204 => Res.ok (decide (y204 = (1 : Int)))).bind fun y205 => Res.ok (!decide (y172.isNone = y205))).bind fun y206 => if y206 then Res.ok (.rt false) else Res.ok (.nx ())
@[irreducible] def M_law_b2 (m_l_parts : Tx → Tx → Res (Option Int)) (m_parted : (List Tx) → Int → Int → Res (Option Int)) (y5 : Int) (y38 : List Tx) (y43 : List Tx) (y79 : List (List Int)) (a123 : Int) (s124 : Unit) : Res (Fl Bool Unit) := ((rangeR y5).bind fun y213 => forF (M_law_b1 m_l_parts m_parted y38 y43 y79 a123) y213 ()).bind (fun | .nx s214 => (Res.ok (.nx ())) | .rt r => Res.ok (.rt r) | .bk _ => Res.stuck)
@[irreducible] def M_law (m_l_at : List Int → Int → Res Int) (m_l_cols : List Int → Int → Int → Int → Res (List Tx)) (m_l_joined : (List Tx) → Int → Res (List Tx)) (m_l_groups : (List Tx) → Res (List (List Int))) (m_grouped : (List Tx) → Int → Res (List (List Int))) (m_unpacked : (List (List Int)) → (List Tx) → Res (List Tx)) (m_called : (List Tx) → Int → Res (List Tx)) (m_l_parts : Tx → Tx → Res (Option Int)) (m_parted : (List Tx) → Int → Int → Res (Option Int)) (l_script : List Int) : Res Bool := (((m_l_at l_script (0 : Int)).bind fun y3 => Res.ok (y3 % 8)).bind fun y4 => Res.ok ((1 : Int) + y4)).bind fun y5 => ((m_l_at l_script (1 : Int)).bind fun y10 => Res.ok (y10 % 21)).bind fun y11 => (((((m_l_at l_script (1 : Int)).bind fun y14 => Res.ok (y14 / 21)).bind fun y15 => Res.ok (y15 % 8)).bind fun y16 => Res.ok (decide (y16 = (1 : Int)))).bind fun y17 => (if y17 then Res.ok (240 : Int) else Res.ok y11 : Res Int)).bind fun s29 => (m_l_cols l_script (2 : Int) y5 s29).bind fun y38 => (m_l_joined y38 s29).bind fun y43 => (m_l_groups y38).bind fun y48 => (compR y43 (fun (a53 : Tx) => (compR y48 (fun (a61 : List Int) => (ixL a61 (0 : Int)).bind fun y68 => ixS a53 y68)).bind fun y71 => joinE y71)).bind fun y74 => (m_grouped y43 y5).bind fun y79 => ((((m_called y43 y5).bind fun y82 => m_unpacked y79 y82).bind fun y83 => eqR y83 y43).bind fun y84 => Res.ok (!y84)).bind fun y85 => if y85 then Res.ok false else (compR y48 (fun (a94 : List Int) => Res.ok a94)).bind fun y103 => ((((m_unpacked y103 y74).bind fun y110 => eqR y110 y43).bind fun y111 => Res.ok (!y111)).bind fun y115 => if y115 then Res.ok true else ((eqR y103 y48).bind fun y112 => Res.ok (!y112)).bind fun y114 => if y114 then Res.ok true else (eqR y74 y74).bind fun y113 => Res.ok (!y113)).bind fun y116 => if y116 then Res.ok false else ((rangeR y5).bind fun y218 => forF (M_law_b2 m_l_parts m_parted y5 y38 y43 y79) y218 ()).bind (fun | .nx s219 => (Res.ok true) | .rt r => Res.ok r | .bk _ => Res.stuck)
def m_law (l_script : List Int) : Res Bool := M_law m_l_at m_l_cols m_l_joined m_l_groups m_grouped m_unpacked m_called m_l_parts m_parted l_script
end
end Mi
namespace Wb
open PySem L2 Mi
def tp (i : Nat) : Stmt := PySem.Challenge.pw_wornband_k10_packs_back_to_plans.main.body.getD i (.Pass ⟨0, 0, 0, 0⟩)
end Wb
namespace Wb
open PySem L2 Mi
section
variable {P : Program} {w : World} {K : PySem.W.Frag} {mg : Str → Option Value} {base : Heap}
theorem r_l_at {f : Addr} {fd : FuncData} (F : Fun K "_law_at" "_law_at" (tp 10) f fd) (h_len : mg "len" = none) : FnOk P w K mg base CX0 (1) f fd ["_law_script", "_law_k"] (spM2 (isScr K) isI (rs isI) (M_l_at )) := by
  have SC : FnScope ["_law_script", "_law_k"] ["_law_script", "_law_k"] (defScope (tp 10)) := ⟨rfl, rfl, rfl, by decide +kernel, rfl, by decide +kernel, by decide +kernel⟩
  refine F.ok SC (fun vs H Q E h => ?_) (fun cdv A outer s H vs Q E hr h => ?_)
  · obtain ⟨_, _, _, _, _, _, rfl, _⟩ := h; rfl
  · obtain ⟨W0, l_script, l_k, v_l_script, _, rfl, rfl, h_l_script, z_l_k, Er, hq⟩ := h
    cases z_l_k
    refine ⟨_, (pss_cons (ps_if (pt_cmpR op_lt (pv 1) (pe_callB (call_lenK (K := K) rfl) (by rfl) h_len PySem.boot_len (pa_cons (pv 0) pa_nil)) (nomark _)) (pss_one (ps_ret (pe_ix (ix_listK (K := K) rfl) (pv 0) (pv 1) (fun _ _ => rfl)))) pss_nil)
      (pss_one (ps_ret (pe_op op_mod (pe_op op_mul (pe_op op_add (pe_op op_mul (pv 1) pe_int) pe_int) (pe_op op_add (pe_callB (call_lenK (K := K) rfl) (by rfl) h_len PySem.boot_len (pa_cons (pv 0) pa_nil)) pe_int)) pe_int)))), ?_⟩
    have E0 : Ext W0 W0 := .refl W0
    rw [show L2.start ["_law_script", "_law_k"] [v_l_script, .int l_k] = [some v_l_script, some (.int l_k)] from rfl]
    unfold M_l_at at hq
    refine sv_if_s (Er := Er) (tv_test (ev_cmp (ev_var (R := sh isI) (a := l_k) (v := .int l_k) rfl) (ev_lenScr (ev_var (R := sh (isScr K)) h_l_script)))) (fun W1 e2 => ?_)
    have E0 := E0.trans e2
    have h_l_script := Mono.mono (R := (isScr K)) e2.g h_l_script
    by_cases hb13 : (decide (l_k < (l_script.length : Int))) = true
    · rw [if_pos hb13] at hq ⊢
      exact sv_ret (Er := Er) (R := sh isI) (ev_ixScr (ev_var (R := sh (isScr K)) h_l_script) (ev_var (R := sh isI) (a := l_k) (v := .int l_k) rfl)) (Res.OkE.imp hq fun y3 hq v4 W5 e6 h7 => hq v4 W5 (E0.trans e6) h7)
    · rw [if_neg hb13] at hq ⊢
      try dsimp only [tNext]
      exact sv_ret (Er := Er) (R := sh isI) (ev_rIk (fun _ => by decide) (ev_mul (ev_rI0 (ev_rIk (fun _ => .inr ⟨by decide, by decide⟩) (ev_var (R := sh isI) (a := l_k) (v := .int l_k) rfl)) ev_int) (ev_rI0 (ev_lenScr (ev_var (R := sh (isScr K)) h_l_script)) ev_int))) (Res.OkE.imp hq fun y9 hq v10 W11 e12 h13 => hq v10 W11 (E0.trans e12) h13)
theorem r_l_row {f : Addr} {fd : FuncData} (F : Fun K "_law_row" "_law_row" (tp 8) f fd) (h_abs : mg "abs" = none) (h_range : mg "range" = none) : FnOk P w K mg base CX0 (1) f fd ["_law_cell", "_law_many", "_law_base"] (spM3 isI isI isI (ro isI) (M_l_row )) := by
  have SC : FnScope ["_law_cell", "_law_many", "_law_base", "_law_now", "_law_far", "_law_mix", "_law_out", "_law_k"] ["_law_cell", "_law_many", "_law_base"] (defScope (tp 8)) := ⟨rfl, rfl, rfl, by decide +kernel, rfl, by decide +kernel, by decide +kernel⟩
  refine F.ok SC (fun vs H Q E h => ?_) (fun cdv A outer s H vs Q E hr h => ?_)
  · obtain ⟨_, _, _, _, _, _, _, _, rfl, _⟩ := h; rfl
  · obtain ⟨W0, l_cell, l_many, l_base, _, _, _, rfl, rfl, z_l_cell, z_l_many, z_l_base, Er, hq⟩ := h
    cases z_l_cell
    cases z_l_many
    cases z_l_base
    refine ⟨_, (pss_cons (ps_set (i := 3) SC.nd rfl (by first | exact Or.inl rfl | exact Or.inr rfl) (pe_callB call_abs (by rfl) h_abs PyProof.Rows.boot_abs (pa_cons (pv 0) pa_nil)))
      (pss_cons (ps_set (i := 4) SC.nd rfl (by first | exact Or.inl rfl | exact Or.inr rfl) (pe_cmpR op_ge (pv 3) (pe_op op_pow pe_int pe_int) (nomark _)))
      (pss_cons (ps_set (i := 5) SC.nd rfl (by first | exact Or.inl rfl | exact Or.inr rfl) (pe_op op_mod (pv 3) pe_int))
      (pss_cons (ps_set (i := 6) SC.nd rfl (by first | exact Or.inl rfl | exact Or.inr rfl) (pe_lst pa_nil))
      (pss_cons (ps_for PassesOwn.never rfl (pi_range1 rfl h_range (pa_cons (pv 1) pa_nil)) (pg_name (i := 7) SC.nd rfl (by first | exact Or.inl rfl | exact Or.inr rfl)) (pss_cons (ps_set (i := 5) SC.nd rfl (by first | exact Or.inl rfl | exact Or.inr rfl) (pe_op op_mod (pe_op op_add (pe_op op_add (pe_op op_mul (pv 5) pe_int) pe_int) (pv 7)) pe_int))
      (pss_one (ps_if (PW.pt (pw_and (pt_val (pv 4)) (pw_and1 (pt_cmpR op_gt (pv 3) pe_int (nomark _))))) (pss_cons (ps_expr (pe_append1 (K := K) rfl (pv 6) (pa_cons (pe_op op_mod (pv 3) (pv 2)) pa_nil)))
      (pss_one (ps_set (i := 3) SC.nd rfl (by first | exact Or.inl rfl | exact Or.inr rfl) (pe_op op_fdiv (pv 3) (pv 2))))) (pss_one (ps_expr (pe_append1 (K := K) rfl (pv 6) (pa_cons (pe_op op_mod (pe_op op_mod (pe_op op_mul (pv 5) (pv 5)) pe_int) (pv 2)) pa_nil))))))))
      (pss_one (ps_ret (pv 6)))))))), ?_⟩
    have E0 : Ext W0 W0 := .refl W0
    rw [show L2.start ["_law_cell", "_law_many", "_law_base", "_law_now", "_law_far", "_law_mix", "_law_out", "_law_k"] [.int l_cell, .int l_many, .int l_base] = [some (.int l_cell), some (.int l_many), some (.int l_base), none, none, none, none, none] from rfl]
    unfold M_l_row at hq
    refine sv_asg_s (Er := Er) (i := 3) (R := sh isI) (σ' := fun v3 => [some (.int l_cell), some (.int l_many), some (.int l_base), some v3, none, none, none, none]) (ev_abs (ev_var (R := sh isI) (a := l_cell) (v := .int l_cell) rfl)) (fun v3 W1 e2 h4 => ?_)
    cases h4
    have E0 := E0.trans e2
    refine sv_asg_s (Er := Er) (i := 4) (R := sh isB) (σ' := fun v7 => [some (.int l_cell), some (.int l_many), some (.int l_base), some (.int (absI l_cell)), some v7, none, none, none]) (ev_cmp (ev_var (R := sh isI) (a := (absI l_cell)) (v := .int (absI l_cell)) rfl) (ev_powc (r := 1000000000000000000) (by decide) (by decide))) (fun v7 W5 e6 h8 => ?_)
    cases h8
    have E0 := E0.trans e6
    refine sv_asg_s (Er := Er) (i := 5) (R := sh isI) (σ' := fun v11 => [some (.int l_cell), some (.int l_many), some (.int l_base), some (.int (absI l_cell)), some (.bl (decide ((1000000000000000000 : Int) ≤ absI l_cell))), some v11, none, none]) (ev_rIk (fun _ => by decide) (ev_var (R := sh isI) (a := (absI l_cell)) (v := .int (absI l_cell)) rfl)) (fun v11 W9 e10 h12 => ?_)
    cases h12
    have E0 := E0.trans e10
    refine sv_asgO_s (Er := Er) (i := 6) (σ' := fun p15 => [some (.int l_cell), some (.int l_many), some (.int l_base), some (.int (absI l_cell)), some (.bl (decide ((1000000000000000000 : Int) ≤ absI l_cell))), some (.int ((absI l_cell) % 2147483647)), some (.ref p15), none]) (ev_lst0 (R := isI)) (fun p15 W13 e14 hp16 o17 => ?_)
    have fr18 := none_of E0.h hp16
    have E0 := E0.trans e14
    refine sv_for_s (Er := Er) (f := (M_l_row_b1 l_cell l_base)) (s0 := (((absI l_cell) % 2147483647), absI l_cell, ([] : List Int))) (Iv := fun (s21 : (Int × Int × (List Int))) (W22 : Wd) (g23 : St) => ∃ (d25 : Option V), g23 = [some (.int l_cell), some (.int l_many), some (.int l_base), some (.int s21.2.1), some (.bl (decide ((1000000000000000000 : Int) ≤ absI l_cell))), some (.int s21.1), some (.ref p15), d25] ∧ Ext W0 W22 ∧ Ow isI W22 p15 s21.2.2) (iv_range (ev_var (R := sh isI) (a := l_many) (v := .int l_many) rfl)) (Res.okE_bind hq) ?_ ?_ ?_
    · intro W37 e38
      have E0 := E0.trans e38
      have o17 := o17.mono e38
      exact ⟨_, rfl, E0, o17⟩
    · intro Wb26 W27 W28 a19 v29 s20 sg30 P31 hW32 hB33 iv e34 h35 hq
      obtain ⟨d25, rfl, E0, o24⟩ := iv
      have E0 := E0.trans e34
      have hB33 := hB33.trans e34.g
      have o24 := o24.mono e34
      cases h35
      refine gn (σ' := [some (.int l_cell), some (.int l_many), some (.int l_base), some (.int s20.2.1), some (.bl (decide ((1000000000000000000 : Int) ≤ absI l_cell))), some (.int s20.1), some (.ref p15), some (.int a19)]) ?_
      unfold M_l_row_b1 at hq
      refine sv_asg_s (Er := Er) (i := 5) (R := sh isI) (σ' := fun v43 => [some (.int l_cell), some (.int l_many), some (.int l_base), some (.int s20.2.1), some (.bl (decide ((1000000000000000000 : Int) ≤ absI l_cell))), some v43, some (.ref p15), some (.int a19)]) (ev_rIk (fun _ => by decide) (ev_rI0 (ev_rI0 (ev_rIk (fun _ => .inr ⟨by decide, by decide⟩) (ev_var (R := sh isI) (a := s20.1) (v := .int s20.1) rfl)) ev_int) (ev_var (R := sh isI) (a := a19) (v := .int a19) rfl))) (fun v43 W41 e42 h44 => ?_)
      cases h44
      have E0 := E0.trans e42
      have hB33 := hB33.trans e42.g
      have o24 := o24.mono e42
      refine sv_ifj (Er := Er) (Iv := fun (s74 : (Int × (List Int))) (W75 : Wd) (g76 : St) => g76 = [some (.int l_cell), some (.int l_many), some (.int l_base), some (.int s74.1), some (.bl (decide ((1000000000000000000 : Int) ≤ absI l_cell))), some (.int ((((s20.1 * 48271) + (7919 : Int)) + a19) % 2147483647)), some (.ref p15), some (.int a19)] ∧ Ext W0 W75 ∧ Ow isI W75 p15 s74.2) (tv_and (tv_b (ev_var (R := sh isB) (a := (decide ((1000000000000000000 : Int) ≤ absI l_cell))) (v := .bl (decide ((1000000000000000000 : Int) ≤ absI l_cell))) rfl)) (tv_test (ev_cmp (ev_var (R := sh isI) (a := s20.2.1) (v := .int s20.2.1) rfl) ev_int))) (Res.okE_bind hq) ?_ ?_ ?_
      · intro W46 N49 e47 hN50 hq
        have hs51 := e47.g
        have E0 := E0.trans e47
        have hB33 := hB33.trans e47.g
        have o24 := o24.mono e47
        refine sv_app_s (Er := Er) o24 (ev_mod (ev_var (R := sh isI) (a := s20.2.1) (v := .int s20.2.1) rfl) (ev_var (R := sh isI) (a := l_base) (v := .int l_base) rfl)) ((Res.okE_bind hq).imp fun y55 hq W52 mu53 o54 => ?_)
        have E0 := mu53.e _ E0 fr18
        have hB33 := hB33.trans mu53.g
        have hs51 := hs51.trans mu53.g
        refine sv_asg (Er := Er) (i := 3) (R := sh isI) (σ' := fun v60 => [some (.int l_cell), some (.int l_many), some (.int l_base), some v60, some (.bl (decide ((1000000000000000000 : Int) ≤ absI l_cell))), some (.int ((((s20.1 * 48271) + (7919 : Int)) + a19) % 2147483647)), some (.ref p15), some (.int a19)]) (ev_fdiv (ev_var (R := sh isI) (a := s20.2.1) (v := .int s20.2.1) rfl) (ev_var (R := sh isI) (a := l_base) (v := .int l_base) rfl)) ((Res.okE_bind hq).imp fun y59 hq v60 W57 e58 h61 => ?_)
        cases h61
        have E0 := E0.trans e58
        have hB33 := hB33.trans e58.g
        have hs51 := hs51.trans e58.g
        have o54 := o54.mono e58
        exact hN50 (y59, y55) W57 _ hs51 ⟨rfl, E0, o54⟩ hq
      · intro W46 N49 e47 hN50 hq
        have hs62 := e47.g
        have E0 := E0.trans e47
        have hB33 := hB33.trans e47.g
        have o24 := o24.mono e47
        refine sv_app (Er := Er) o24 (ev_mod (ev_rIk (fun _ => by decide) (ev_mul (ev_var (R := sh isI) (a := ((((s20.1 * 48271) + (7919 : Int)) + a19) % 2147483647)) (v := .int ((((s20.1 * 48271) + (7919 : Int)) + a19) % 2147483647)) rfl) (ev_var (R := sh isI) (a := ((((s20.1 * 48271) + (7919 : Int)) + a19) % 2147483647)) (v := .int ((((s20.1 * 48271) + (7919 : Int)) + a19) % 2147483647)) rfl))) (ev_var (R := sh isI) (a := l_base) (v := .int l_base) rfl)) ((Res.okE_bind hq).imp fun y68 hq W65 mu66 o67 => ?_)
        have E0 := mu66.e _ E0 fr18
        have hB33 := hB33.trans mu66.g
        have hs62 := hs62.trans mu66.g
        exact hN50 (s20.2.1, y68) W65 _ hs62 ⟨rfl, E0, o67⟩ hq
      · intro s70 W71 sg72 hS73 iv hq
        obtain ⟨rfl, E0, o77⟩ := iv
        have hB33 := hB33.trans hS73
        try dsimp only
        refine nxF_of (W := W71) (((((s20.1 * 48271) + (7919 : Int)) + a19) % 2147483647), s70.1, s70.2) hB33 ?_ hq
        exact ⟨_, rfl, E0, o77⟩
    · intro s79 W80 sg81 hS82 iv hq
      obtain ⟨d25, rfl, E0, o24⟩ := iv
      exact ⟨.ref p15, rfl, hq p15 W80 E0 fr18 o24⟩
theorem r_l_turns {f : Addr} {fd : FuncData} (F : Fun K "_law_turns" "_law_turns" (tp 9) f fd) {m_l_row : Int → Int → Int → Res (List Int)} (C__law_row : Cal P w K mg base "_law_row" ["_law_cell", "_law_many", "_law_base"] (1) (spM3 isI isI isI (ro isI) m_l_row)) : FnOk P w K mg base CX0 (2) f fd ["_law_cell", "_law_many"] (spM2 isI isI (rs isS) (M_l_turns m_l_row)) := by
  have SC : FnScope ["_law_cell", "_law_many"] ["_law_cell", "_law_many"] (defScope (tp 9)) := ⟨rfl, rfl, rfl, by decide +kernel, rfl, by decide +kernel, by decide +kernel⟩
  refine F.ok SC (fun vs H Q E h => ?_) (fun cdv A outer s H vs Q E hr h => ?_)
  · obtain ⟨_, _, _, _, _, _, rfl, _⟩ := h; rfl
  · obtain ⟨W0, l_cell, l_many, _, _, rfl, rfl, z_l_cell, z_l_many, Er, hq⟩ := h
    cases z_l_cell
    cases z_l_many
    refine ⟨_, (pss_cons (ps_if (pt_cmpR op_eq (pe_op op_mod (pv 0) pe_int) pe_int (nomark _)) (pss_one (ps_ret (pe_op op_mul_str (pe_ix ix_str pe_str (pe_op op_mod (pe_op op_fdiv (pv 0) pe_int) pe_int) (fun _ _ => rfl)) (pv 1)))) pss_nil)
      (pss_one (ps_ret (pe_join1 (K := K) rfl pe_str (pa_cons (pe_comp (N := ["_law_d"]) (cap := [none]) (mkCS rfl (by decide +kernel) rfl (by decide +kernel) (by rfl) (by rfl)) rfl (pi_listK (K := K) rfl (pe_cal C__law_row (hr.mono (by decide)) (by rfl) (pa_cons (pe_op op_fdiv (pv 0) pe_int) (pa_cons (pv 1) (pa_cons pe_int pa_nil))))) (fun _ _ _ _ => (pg_name (i := 0) (show List.Nodup (["_law_d"] : List Str) by decide +kernel) rfl (by first | exact Or.inl rfl | exact Or.inr rfl))) (fun _ _ _ _ => pts_nil) (fun _ _ _ _ => (pe_ix ix_str pe_str (pv 0) (fun _ _ => rfl)))) pa_nil))))), ?_⟩
    have E0 : Ext W0 W0 := .refl W0
    rw [show L2.start ["_law_cell", "_law_many"] [.int l_cell, .int l_many] = [some (.int l_cell), some (.int l_many)] from rfl]
    unfold M_l_turns at hq
    refine sv_if_s (Er := Er) (tv_test (ev_eqI (ev_rIk (fun _ => by decide) (ev_var (R := sh isI) (a := l_cell) (v := .int l_cell) rfl)) ev_int)) (fun W1 e2 => ?_)
    have E0 := E0.trans e2
    by_cases hb24 : (decide ((l_cell % 7) = (3 : Int))) = true
    · rw [if_pos hb24] at hq ⊢
      exact sv_ret (Er := Er) (R := sh isS) (ev_repS (ev_ixS (ev_str (x := Str.ofString "fbi") (l := [102, 98, 105]) (ofS _ _ (by decide +kernel))) (ev_rIk (fun _ => by decide) (ev_rIk (fun _ => ⟨by decide, by decide⟩) (ev_var (R := sh isI) (a := l_cell) (v := .int l_cell) rfl)))) (ev_var (R := sh isI) (a := l_many) (v := .int l_many) rfl)) (Res.OkE.imp hq fun y4 hq v5 W6 e7 h8 => hq v5 W6 (E0.trans e7) h8)
    · rw [if_neg hb24] at hq ⊢
      try dsimp only [tNext]
      exact sv_ret (Er := Er) (R := sh isS) (ev_join (ofS _ _ (by decide +kernel)) (EVo.pk (ev_comp (f := fun (a9 : Int) => ixS ([102, 98, 105] : Tx) a9) (iv_list (EVo.ev (ev_call3o (ev_rIk (fun _ => ⟨by decide, by decide⟩) (ev_var (R := sh isI) (a := l_cell) (v := .int l_cell) rfl)) (ev_var (R := sh isI) (a := l_many) (v := .int l_many) rfl) ev_int))) fun W11 a9 v10 e12 h13 Q16 k17 => by
        cases h13
        refine gn ?_
        exact ⟨by simp [Keep, capSt], ((ev_ixS (ev_str (x := Str.ofString "fbi") (l := [102, 98, 105]) (ofS _ _ (by decide +kernel))) (ev_var (R := sh isI) (a := a9) (v := .int a9) rfl)) : EV Er _ [some (.int a9)] _ _ _) _ (.refl _) _ k17⟩))) (Res.OkE.imp hq fun y20 hq v21 W22 e23 h24 => hq v21 W22 (E0.trans e23) h24)
theorem r_l_cols {f : Addr} {fd : FuncData} (F : Fun K "_law_cols" "_law_cols" (tp 11) f fd) {m_l_at : List Int → Int → Res Int} {m_l_turns : Int → Int → Res Tx} (C__law_at : Cal P w K mg base "_law_at" ["_law_script", "_law_k"] (1) (spM2 (isScr K) isI (rs isI) m_l_at)) (C__law_turns : Cal P w K mg base "_law_turns" ["_law_cell", "_law_many"] (2) (spM2 isI isI (rs isS) m_l_turns)) (h_range : mg "range" = none) : FnOk P w K mg base CX0 (3) f fd ["_law_script", "_law_at_here", "_law_width", "_law_many"] (spM4 (isScr K) isI isI isI (ro isS) (M_l_cols m_l_at m_l_turns)) := by
  have SC : FnScope ["_law_script", "_law_at_here", "_law_width", "_law_many", "_law_cols_here", "_law_k", "_law_cell", "_law_turns_here", "_law_near", "_law_cut"] ["_law_script", "_law_at_here", "_law_width", "_law_many"] (defScope (tp 11)) := ⟨rfl, rfl, rfl, by decide +kernel, rfl, by decide +kernel, by decide +kernel⟩
  refine F.ok SC (fun vs H Q E h => ?_) (fun cdv A outer s H vs Q E hr h => ?_)
  · obtain ⟨_, _, _, _, _, _, _, _, _, _, rfl, _⟩ := h; rfl
  · obtain ⟨W0, l_script, l_at_here, l_width, l_many, v_l_script, _, _, _, rfl, rfl, h_l_script, z_l_at_here, z_l_width, z_l_many, Er, hq⟩ := h
    cases z_l_at_here
    cases z_l_width
    cases z_l_many
    refine ⟨_, (pss_cons (ps_set (i := 4) SC.nd rfl (by first | exact Or.inl rfl | exact Or.inr rfl) (pe_lst pa_nil))
      (pss_cons (ps_for PassesOwn.never rfl (pi_range1 rfl h_range (pa_cons (pv 2) pa_nil)) (pg_name (i := 5) SC.nd rfl (by first | exact Or.inl rfl | exact Or.inr rfl)) (pss_cons (ps_set (i := 6) SC.nd rfl (by first | exact Or.inl rfl | exact Or.inr rfl) (pe_cal C__law_at (hr.mono (by decide)) (by rfl) (pa_cons (pv 0) (pa_cons (pe_op op_add (pv 1) (pv 5)) pa_nil))))
      (pss_cons (ps_set (i := 7) SC.nd rfl (by first | exact Or.inl rfl | exact Or.inr rfl) (pe_cal C__law_turns (hr.mono (by decide)) (by rfl) (pa_cons (pe_op op_fdiv (pv 6) pe_int) (pa_cons (pv 3) pa_nil))))
      (pss_cons (ps_if (PW.pt (pw_and (pt_cmpR op_gt (pv 5) pe_int (nomark _)) (pw_and1 (pt_cmpR op_lt (pe_op op_mod (pv 6) pe_int) pe_int (nomark _))))) (pss_one (ps_set (i := 7) SC.nd rfl (by first | exact Or.inl rfl | exact Or.inr rfl) (pe_ix (ix_listK (K := K) rfl) (pv 4) (pe_op op_mod (pe_op op_fdiv (pv 6) pe_int) (pv 5)) (fun _ _ => rfl)))) pss_nil)
      (pss_cons (ps_if (PW.pt (pw_and (pt_cmpR op_gt (pv 5) pe_int (nomark _)) (pw_and (pt_cmpR op_gt (pv 3) pe_int (nomark _)) (pw_and1 (pt_cmpR op_eq (pe_op op_mod (pv 6) pe_int) pe_int (nomark _)))))) (pss_cons (ps_set (i := 8) SC.nd rfl (by first | exact Or.inl rfl | exact Or.inr rfl) (pe_ix (ix_listK (K := K) rfl) (pv 4) (pe_op op_mod (pe_op op_fdiv (pv 6) pe_int) (pv 5)) (fun _ _ => rfl)))
      (pss_cons (ps_set (i := 9) SC.nd rfl (by first | exact Or.inl rfl | exact Or.inr rfl) (pe_op op_mod (pe_op op_fdiv (pv 6) pe_int) (pv 3)))
      (pss_one (ps_set (i := 7) SC.nd rfl (by first | exact Or.inl rfl | exact Or.inr rfl) (pe_op op_add_str (pe_op op_add_str (pe_slice sl_str (pv 8) po_none (po_some (pv 9))) (pe_ix ix_str pe_str (pe_op op_mod (pe_op op_fdiv (pv 6) pe_int) pe_int) (fun _ _ => rfl))) (pe_slice sl_str (pv 8) (po_some (pe_op op_add (pv 9) pe_int)) po_none)))))) pss_nil)
      (pss_one (ps_expr (pe_append1 (K := K) rfl (pv 4) (pa_cons (pv 7) pa_nil)))))))))
      (pss_one (ps_ret (pv 4))))), ?_⟩
    have E0 : Ext W0 W0 := .refl W0
    rw [show L2.start ["_law_script", "_law_at_here", "_law_width", "_law_many", "_law_cols_here", "_law_k", "_law_cell", "_law_turns_here", "_law_near", "_law_cut"] [v_l_script, .int l_at_here, .int l_width, .int l_many] = [some v_l_script, some (.int l_at_here), some (.int l_width), some (.int l_many), none, none, none, none, none, none] from rfl]
    unfold M_l_cols at hq
    refine sv_asgO_s (Er := Er) (i := 4) (σ' := fun p3 => [some v_l_script, some (.int l_at_here), some (.int l_width), some (.int l_many), some (.ref p3), none, none, none, none, none]) (ev_lst0 (R := isS)) (fun p3 W1 e2 hp4 o5 => ?_)
    have fr6 := none_of E0.h hp4
    have E0 := E0.trans e2
    have h_l_script := Mono.mono (R := (isScr K)) e2.g h_l_script
    refine sv_for_s (Er := Er) (f := (M_l_cols_b1 m_l_at m_l_turns l_script l_at_here l_many)) (s0 := ([] : List Tx)) (Iv := fun (s9 : (List Tx)) (W10 : Wd) (g11 : St) => ∃ (d13 : Option V) (d14 : Option V) (d15 : Option V) (d16 : Option V) (d17 : Option V), g11 = [some v_l_script, some (.int l_at_here), some (.int l_width), some (.int l_many), some (.ref p3), d17, d13, d14, d15, d16] ∧ Ext W0 W10 ∧ Ow isS W10 p3 s9) (iv_range (ev_var (R := sh isI) (a := l_width) (v := .int l_width) rfl)) (Res.okE_bind hq) ?_ ?_ ?_
    · intro W29 e30
      have E0 := E0.trans e30
      have h_l_script := Mono.mono (R := (isScr K)) e30.g h_l_script
      have o5 := o5.mono e30
      exact ⟨_, _, _, _, _, rfl, E0, o5⟩
    · intro Wb18 W19 W20 a7 v21 s8 sg22 P23 hW24 hB25 iv e26 h27 hq
      obtain ⟨d13, d14, d15, d16, d17, rfl, E0, o12⟩ := iv
      have h_l_script := Mono.mono (R := (isScr K)) hW24 h_l_script
      have E0 := E0.trans e26
      have hB25 := hB25.trans e26.g
      have h_l_script := Mono.mono (R := (isScr K)) e26.g h_l_script
      have o12 := o12.mono e26
      cases h27
      refine gn (σ' := [some v_l_script, some (.int l_at_here), some (.int l_width), some (.int l_many), some (.ref p3), some (.int a7), d13, d14, d15, d16]) ?_
      unfold M_l_cols_b1 at hq
      refine sv_asg_s (Er := Er) (i := 6) (R := sh isI) (σ' := fun v36 => [some v_l_script, some (.int l_at_here), some (.int l_width), some (.int l_many), some (.ref p3), some (.int a7), some v36, d14, d15, d16]) (ev_call2 (ev_var (R := sh (isScr K)) h_l_script) (ev_rI0 (ev_var (R := sh isI) (a := l_at_here) (v := .int l_at_here) rfl) (ev_var (R := sh isI) (a := a7) (v := .int a7) rfl))) ((Res.okE_bind hq).imp fun y35 hq v36 W33 e34 h37 => ?_)
      cases h37
      have E0 := E0.trans e34
      have hB25 := hB25.trans e34.g
      have h_l_script := Mono.mono (R := (isScr K)) e34.g h_l_script
      have o12 := o12.mono e34
      refine sv_asg_s (Er := Er) (i := 7) (R := sh isS) (σ' := fun v41 => [some v_l_script, some (.int l_at_here), some (.int l_width), some (.int l_many), some (.ref p3), some (.int a7), some (.int y35), some v41, d15, d16]) (ev_call2 (ev_rIk (fun _ => ⟨by decide, by decide⟩) (ev_var (R := sh isI) (a := y35) (v := .int y35) rfl)) (ev_var (R := sh isI) (a := l_many) (v := .int l_many) rfl)) ((Res.okE_bind hq).imp fun y40 hq v41 W38 e39 h42 => ?_)
      cases h42
      have E0 := E0.trans e39
      have hB25 := hB25.trans e39.g
      have h_l_script := Mono.mono (R := (isScr K)) e39.g h_l_script
      have o12 := o12.mono e39
      refine sv_ifj_s (Er := Er) (Iv := fun (s61 : Tx) (W62 : Wd) (g63 : St) => g63 = [some v_l_script, some (.int l_at_here), some (.int l_width), some (.int l_many), some (.ref p3), some (.int a7), some (.int y35), some (.str (sOf s61)), d15, d16] ∧ Ext W0 W62 ∧ Ow isS W62 p3 s8) (tv_and (tv_test (ev_cmp (ev_var (R := sh isI) (a := a7) (v := .int a7) rfl) ev_int)) (tv_test (ev_cmp (ev_rIk (fun _ => by decide) (ev_var (R := sh isI) (a := y35) (v := .int y35) rfl)) ev_int))) (Res.okE_bind hq) ?_ ?_ ?_
      · intro W44 N47 e45 hN48 hq
        have hs49 := e45.g
        have E0 := E0.trans e45
        have hB25 := hB25.trans e45.g
        have h_l_script := Mono.mono (R := (isScr K)) e45.g h_l_script
        have o12 := o12.mono e45
        refine sv_asg (Er := Er) (i := 7) (R := sh isS) (σ' := fun v54 => [some v_l_script, some (.int l_at_here), some (.int l_width), some (.int l_many), some (.ref p3), some (.int a7), some (.int y35), some v54, d15, d16]) (ev_ixL (ev_varO o12) (ev_mod (ev_rIk (fun _ => ⟨by decide, by decide⟩) (ev_var (R := sh isI) (a := y35) (v := .int y35) rfl)) (ev_var (R := sh isI) (a := a7) (v := .int a7) rfl))) ((Res.okE_bind hq).imp fun y53 hq v54 W50 e51 h55 => ?_)
        cases h55
        have E0 := E0.trans e51
        have hB25 := hB25.trans e51.g
        have hs49 := hs49.trans e51.g
        have h_l_script := Mono.mono (R := (isScr K)) e51.g h_l_script
        have o12 := o12.mono e51
        exact hN48 y53 W50 _ hs49 ⟨rfl, E0, o12⟩ hq
      · intro W44 N47 e45 hN48 hq
        have hs56 := e45.g
        have E0 := E0.trans e45
        have hB25 := hB25.trans e45.g
        have h_l_script := Mono.mono (R := (isScr K)) e45.g h_l_script
        have o12 := o12.mono e45
        try dsimp only [tNext]
        exact hN48 y40 W44 _ hs56 ⟨rfl, E0, o12⟩ hq
      · intro s57 W58 sg59 hS60 iv hq
        obtain ⟨rfl, E0, o64⟩ := iv
        have hB25 := hB25.trans hS60
        have h_l_script := Mono.mono (R := (isScr K)) hS60 h_l_script
        refine sv_ifj_s (Er := Er) (Iv := fun (s97 : Tx) (W98 : Wd) (g99 : St) => ∃ (d100 : Option V) (d101 : Option V), g99 = [some v_l_script, some (.int l_at_here), some (.int l_width), some (.int l_many), some (.ref p3), some (.int a7), some (.int y35), some (.str (sOf s97)), d100, d101] ∧ Ext W0 W98 ∧ Ow isS W98 p3 s8) (tv_and (tv_test (ev_cmp (ev_var (R := sh isI) (a := a7) (v := .int a7) rfl) ev_int)) (tv_and (tv_test (ev_cmp (ev_var (R := sh isI) (a := l_many) (v := .int l_many) rfl) ev_int)) (tv_test (ev_eqI (ev_rIk (fun _ => by decide) (ev_var (R := sh isI) (a := y35) (v := .int y35) rfl)) ev_int)))) (Res.okE_bind hq) ?_ ?_ ?_
        · intro W66 N69 e67 hN70 hq
          have hs71 := e67.g
          have E0 := E0.trans e67
          have hB25 := hB25.trans e67.g
          have h_l_script := Mono.mono (R := (isScr K)) e67.g h_l_script
          have o64 := o64.mono e67
          refine sv_asg_s (Er := Er) (i := 8) (R := sh isS) (σ' := fun v76 => [some v_l_script, some (.int l_at_here), some (.int l_width), some (.int l_many), some (.ref p3), some (.int a7), some (.int y35), some (.str (sOf s57)), some v76, d16]) (ev_ixL (ev_varO o64) (ev_mod (ev_rIk (fun _ => ⟨by decide, by decide⟩) (ev_var (R := sh isI) (a := y35) (v := .int y35) rfl)) (ev_var (R := sh isI) (a := a7) (v := .int a7) rfl))) ((Res.okE_bind hq).imp fun y75 hq v76 W72 e73 h77 => ?_)
          cases h77
          have E0 := E0.trans e73
          have hB25 := hB25.trans e73.g
          have hs71 := hs71.trans e73.g
          have h_l_script := Mono.mono (R := (isScr K)) e73.g h_l_script
          have o64 := o64.mono e73
          refine sv_asg_s (Er := Er) (i := 9) (R := sh isI) (σ' := fun v81 => [some v_l_script, some (.int l_at_here), some (.int l_width), some (.int l_many), some (.ref p3), some (.int a7), some (.int y35), some (.str (sOf s57)), some (.str (sOf y75)), some v81]) (ev_mod (ev_rIk (fun _ => ⟨by decide, by decide⟩) (ev_var (R := sh isI) (a := y35) (v := .int y35) rfl)) (ev_var (R := sh isI) (a := l_many) (v := .int l_many) rfl)) ((Res.okE_bind hq).imp fun y80 hq v81 W78 e79 h82 => ?_)
          cases h82
          have E0 := E0.trans e79
          have hB25 := hB25.trans e79.g
          have hs71 := hs71.trans e79.g
          have h_l_script := Mono.mono (R := (isScr K)) e79.g h_l_script
          have o64 := o64.mono e79
          refine sv_asg (Er := Er) (i := 7) (R := sh isS) (σ' := fun v90 => [some v_l_script, some (.int l_at_here), some (.int l_width), some (.int l_many), some (.ref p3), some (.int a7), some (.int y35), some v90, some (.str (sOf y75)), some (.int y80)]) (ev_catS (ev_catS (ev_cutS (ev_var (R := sh isS) (a := y75) (v := .str (sOf y75)) rfl) po_no (po_at (ev_var (R := sh isI) (a := y80) (v := .int y80) rfl))) (ev_ixS (ev_str (x := Str.ofString "fbi") (l := [102, 98, 105]) (ofS _ _ (by decide +kernel))) (ev_rIk (fun _ => by decide) (ev_rIk (fun _ => ⟨by decide, by decide⟩) (ev_var (R := sh isI) (a := y35) (v := .int y35) rfl))))) (ev_cutS (ev_var (R := sh isS) (a := y75) (v := .str (sOf y75)) rfl) (po_at (ev_rI0 (ev_var (R := sh isI) (a := y80) (v := .int y80) rfl) ev_int)) po_no)) ((Res.okE_bind hq).imp fun y89 hq v90 W83 e84 h91 => ?_)
          cases h91
          have E0 := E0.trans e84
          have hB25 := hB25.trans e84.g
          have hs71 := hs71.trans e84.g
          have h_l_script := Mono.mono (R := (isScr K)) e84.g h_l_script
          have o64 := o64.mono e84
          exact hN70 y89 W83 _ hs71 ⟨_, _, rfl, E0, o64⟩ hq
        · intro W66 N69 e67 hN70 hq
          have hs92 := e67.g
          have E0 := E0.trans e67
          have hB25 := hB25.trans e67.g
          have h_l_script := Mono.mono (R := (isScr K)) e67.g h_l_script
          have o64 := o64.mono e67
          try dsimp only [tNext]
          exact hN70 s57 W66 _ hs92 ⟨_, _, rfl, E0, o64⟩ hq
        · intro s93 W94 sg95 hS96 iv hq
          obtain ⟨d100, d101, rfl, E0, o102⟩ := iv
          have hB25 := hB25.trans hS96
          have h_l_script := Mono.mono (R := (isScr K)) hS96 h_l_script
          refine sv_app (Er := Er) o102 (ev_var (R := sh isS) (a := s93) (v := .str (sOf s93)) rfl) ((Res.okE_bind hq).imp fun y106 hq W103 mu104 o105 => ?_)
          have E0 := mu104.e _ E0 fr6
          have hB25 := hB25.trans mu104.g
          have h_l_script := Mono.mono (R := (isScr K)) mu104.g h_l_script
          try dsimp only
          refine nxF_of (W := W103) y106 hB25 ?_ hq
          exact ⟨_, _, _, _, _, rfl, E0, o105⟩
    · intro s108 W109 sg110 hS111 iv hq
      obtain ⟨d13, d14, d15, d16, d17, rfl, E0, o12⟩ := iv
      exact ⟨.ref p3, rfl, hq p3 W109 E0 fr6 o12⟩
theorem r_l_joined {f : Addr} {fd : FuncData} (F : Fun K "_law_joined" "_law_joined" (tp 12) f fd) (h_range : mg "range" = none) : FnOk P w K mg base CX0 (1) f fd ["_law_cols_here", "_law_many"] (spM2 (isL isS) isI (ro isS) (M_l_joined )) := by
  have SC : FnScope ["_law_cols_here", "_law_many"] ["_law_cols_here", "_law_many"] (defScope (tp 12)) := ⟨rfl, rfl, rfl, by decide +kernel, rfl, by decide +kernel, by decide +kernel⟩
  refine F.ok SC (fun vs H Q E h => ?_) (fun cdv A outer s H vs Q E hr h => ?_)
  · obtain ⟨_, _, _, _, _, _, rfl, _⟩ := h; rfl
  · obtain ⟨W0, l_cols_here, l_many, v_l_cols_here, _, rfl, rfl, h_l_cols_here, z_l_many, Er, hq⟩ := h
    cases z_l_many
    refine ⟨_, (pss_one (ps_ret (pe_comp (N := ["_law_at_here", "_law_cols_here"]) (cap := [none, some 0]) (mkCS rfl (by decide +kernel) rfl (by decide +kernel) (by rfl) (by rfl)) rfl (pi_range1 rfl h_range (pa_cons (pv 1) pa_nil)) (fun _ _ _ _ => (pg_name (i := 0) (show List.Nodup (["_law_at_here", "_law_cols_here"] : List Str) by decide +kernel) rfl (by first | exact Or.inl rfl | exact Or.inr rfl))) (fun _ _ _ _ => pts_nil) (fun _ _ _ _ => (pe_join1 (K := K) rfl pe_str (pa_cons (pe_comp (N := ["_law_turns_here", "_law_at_here"]) (cap := [none, some 0]) (mkCS rfl (by decide +kernel) rfl (by decide +kernel) (by rfl) (by rfl)) rfl (pi_listK (K := K) rfl (pv 1)) (fun _ _ _ _ => (pg_name (i := 0) (show List.Nodup (["_law_turns_here", "_law_at_here"] : List Str) by decide +kernel) rfl (by first | exact Or.inl rfl | exact Or.inr rfl))) (fun _ _ _ _ => pts_nil) (fun _ _ _ _ => (pe_ix ix_str (pv 0) (pv 1) (fun _ _ => rfl)))) pa_nil)))))), ?_⟩
    have E0 : Ext W0 W0 := .refl W0
    rw [show L2.start ["_law_cols_here", "_law_many"] [v_l_cols_here, .int l_many] = [some v_l_cols_here, some (.int l_many)] from rfl]
    unfold M_l_joined at hq
    exact sv_retO (Er := Er) (ev_comp (f := fun (a1 : Int) => (compR l_cols_here (fun (a9 : Tx) => ixS a9 a1)).bind fun y18 => joinE y18) (iv_range (ev_var (R := sh isI) (a := l_many) (v := .int l_many) rfl)) fun W3 a1 v2 e4 h5 Q19 k20 => by
      have h6 := MonoW.mono (R := sh (isL isS)) e4 h_l_cols_here
      cases h5
      refine gn ?_
      exact ⟨by simp [Keep, capSt], ((ev_join (ofS _ _ (by decide +kernel)) (EVo.pk (ev_comp (f := fun (a9 : Tx) => ixS a9 a1) (iv_list (ev_var (R := sh (isL isS)) h6)) fun W11 a9 v10 e12 h13 Q16 k17 => by
        cases h13
        refine gn ?_
        exact ⟨by simp [Keep, capSt], ((ev_ixS (ev_var (R := sh isS) (a := a9) (v := .str (sOf a9)) rfl) (ev_var (R := sh isI) (a := a1) (v := .int a1) rfl)) : EV Er _ [some (.str (sOf a9)), some (.int a1)] _ _ _) _ (.refl _) _ k17⟩))) : EV Er _ [some (.int a1), some v_l_cols_here] _ _ _) _ (.refl _) _ k20⟩) (Res.OkE.imp hq fun y22 hq p23 W24 e25 hp26 o27 => hq p23 W24 (E0.trans e25) (none_of E0.h hp26) o27)
theorem r_l_groups {f : Addr} {fd : FuncData} (F : Fun K "_law_groups" "_law_groups" (tp 13) f fd) (h_enumerate : mg "enumerate" = none) (h_len : mg "len" = none) (h_range : mg "range" = none) : FnOk P w K mg base CX0 (1) f fd ["_law_cols_here"] (spM1 (isL isS) (ro (isL isI)) (M_l_groups )) := by
  have SC : FnScope ["_law_cols_here", "_law_out", "_law_k", "_law_turns_here"] ["_law_cols_here"] (defScope (tp 13)) := ⟨rfl, rfl, rfl, by decide +kernel, rfl, by decide +kernel, by decide +kernel⟩
  refine F.ok SC (fun vs H Q E h => ?_) (fun cdv A outer s H vs Q E hr h => ?_)
  · obtain ⟨_, _, _, _, rfl, _⟩ := h; rfl
  · obtain ⟨W0, l_cols_here, v_l_cols_here, rfl, rfl, h_l_cols_here, Er, hq⟩ := h
    refine ⟨_, (pss_cons (ps_set (i := 1) SC.nd rfl (by first | exact Or.inl rfl | exact Or.inr rfl) (pe_lst pa_nil))
      (pss_cons (ps_for PassesOwn.never rfl (pi_enum (K := K) rfl rfl h_enumerate (pa_cons (pv 0) pa_nil)) (pg_tupK (K := K) (n := 2) rfl rfl (pgs_cons (pg_name (i := 2) SC.nd rfl (by first | exact Or.inl rfl | exact Or.inr rfl)) (pgs_cons (pg_name (i := 3) SC.nd rfl (by first | exact Or.inl rfl | exact Or.inr rfl)) pgs_nil))) (pss_one (ps_if (pt_cmpR (op_notIn_seqK (K := K) rfl) (pv 3) (pe_slice (sl_listK (K := K) rfl) (pv 0) po_none (po_some (pv 2))) (by with_unfolding_all rfl)) (pss_one (ps_expr (pe_append1 (K := K) rfl (pv 1) (pa_cons (pe_comp (N := ["_law_j", "_law_cols_here", "_law_turns_here"]) (cap := [none, some 0, some 3]) (mkCS rfl (by decide +kernel) rfl (by decide +kernel) (by rfl) (by rfl)) rfl (pi_range1 rfl h_range (pa_cons (pe_callB (call_lenK (K := K) rfl) (by rfl) h_len PySem.boot_len (pa_cons (pv 0) pa_nil)) pa_nil)) (fun _ _ _ _ => (pg_name (i := 0) (show List.Nodup (["_law_j", "_law_cols_here", "_law_turns_here"] : List Str) by decide +kernel) rfl (by first | exact Or.inl rfl | exact Or.inr rfl))) (fun _ _ _ _ => (pts_one (pt_cmpR op_eq (pe_ix (ix_listK (K := K) rfl) (pv 1) (pv 0) (fun _ _ => rfl)) (pv 2) (nomark _)))) (fun _ _ _ _ => (pv 0))) pa_nil)))) pss_nil)))
      (pss_one (ps_ret (pv 1))))), ?_⟩
    have E0 : Ext W0 W0 := .refl W0
    rw [show L2.start ["_law_cols_here", "_law_out", "_law_k", "_law_turns_here"] [v_l_cols_here] = [some v_l_cols_here, none, none, none] from rfl]
    unfold M_l_groups at hq
    refine sv_asgO_s (Er := Er) (i := 1) (σ' := fun p3 => [some v_l_cols_here, some (.ref p3), none, none]) (ev_lst0 (R := (isL isI))) (fun p3 W1 e2 hp4 o5 => ?_)
    have fr6 := none_of E0.h hp4
    have E0 := E0.trans e2
    have h_l_cols_here := Mono.mono (R := (isL isS)) e2.g h_l_cols_here
    refine sv_for_s (Er := Er) (f := (M_l_groups_b1 l_cols_here)) (s0 := ([] : List (List Int))) (Iv := fun (s9 : (List (List Int))) (W10 : Wd) (g11 : St) => ∃ (d13 : Option V) (d14 : Option V), g11 = [some v_l_cols_here, some (.ref p3), d13, d14] ∧ Ext W0 W10 ∧ Ow (isL isI) W10 p3 s9) (iv_enum (ev_var (R := sh (isL isS)) h_l_cols_here)) (Res.okE_bind hq) ?_ ?_ ?_
    · intro W26 e27
      have E0 := E0.trans e27
      have h_l_cols_here := Mono.mono (R := (isL isS)) e27.g h_l_cols_here
      have o5 := o5.mono e27
      exact ⟨_, _, rfl, E0, o5⟩
    · intro Wb15 W16 W17 a7 v18 s8 sg19 P20 hW21 hB22 iv e23 h24 hq
      obtain ⟨d13, d14, rfl, E0, o12⟩ := iv
      have h_l_cols_here := Mono.mono (R := (isL isS)) hW21 h_l_cols_here
      have E0 := E0.trans e23
      have hB22 := hB22.trans e23.g
      have h_l_cols_here := Mono.mono (R := (isL isS)) e23.g h_l_cols_here
      have o12 := o12.mono e23
      refine gt2n (σ' := fun v32 v34 => [some v_l_cols_here, some (.ref p3), some v32, some v34]) h24 fun v32 v34 h33 h35 => ?_
      cases h33
      cases h35
      unfold M_l_groups_b1 at hq
      refine sv_ifj (Er := Er) (Iv := fun (s74 : (List (List Int))) (W75 : Wd) (g76 : St) => g76 = [some v_l_cols_here, some (.ref p3), some (.int a7.1), some (.str (sOf a7.2))] ∧ Ext W0 W75 ∧ Ow (isL isI) W75 p3 s74) (tv_test (ev_notinLS (ev_var (R := sh isS) (a := a7.2) (v := .str (sOf a7.2)) rfl) (EVo.pk (ev_cutL (EV.pk (ev_var (R := sh (isL isS)) h_l_cols_here)) po_no (po_at (ev_var (R := sh isI) (a := a7.1) (v := .int a7.1) rfl)))))) (Res.okE_bind hq) ?_ ?_ ?_
      · intro W36 N39 e37 hN40 hq
        have hs41 := e37.g
        have E0 := E0.trans e37
        have hB22 := hB22.trans e37.g
        have h_l_cols_here := Mono.mono (R := (isL isS)) e37.g h_l_cols_here
        have o12 := o12.mono e37
        refine sv_app (Er := Er) o12 (EVo.ev (ev_compF (f := fun (a42 : Int) => ((ixL l_cols_here a42).bind fun y52 => Res.ok (decide (y52 = a7.2))).bind fun y54 => if y54 then Res.ok (some a42) else Res.ok none) (iv_rangeLn (EV.pk (ev_var (R := sh (isL isS)) h_l_cols_here))) fun W44 a42 v43 e45 h46 Q50 k51 => by
          have h47 := MonoW.mono (R := sh (isL isS)) e45 h_l_cols_here
          cases h46
          refine gn ?_
          refine ⟨by simp [Keep, capSt], ((tv_test (ev_eqS (ev_ixL (EV.pk (ev_var (R := sh (isL isS)) h47)) (ev_var (R := sh isI) (a := a42) (v := .int a42) rfl)) (ev_var (R := sh isS) (a := a7.2) (v := .str (sOf a7.2)) rfl))) : TV Er _ [some (.int a42), some v_l_cols_here, some (.str (sOf a7.2))] _ _) _ (.refl _) _ (Res.OkE.imp (P := fun b53 => (if b53 = true then Res.ok (some a42) else Res.ok none : Res (Option Int)).OkE Er _) (Res.okE_bind k51) fun b53 k58 W56 e57 => ?_)⟩
          cases b53 with
          | false => exact k58 none _ e57 trivial
          | true =>
            rw [if_pos rfl]
            refine EV.go (Er := Er) (σ := [some (.int a42), some v_l_cols_here, some (.str (sOf a7.2))]) (W1 := W56) e57 (ev_var (R := sh isI) (a := a42) (v := .int a42) rfl) ?_
            exact fun u61 W59 e60 h62 => k58 (some u61) _ (e57.trans e60) h62)) ((Res.okE_bind hq).imp fun y67 hq W64 mu65 o66 => ?_)
        have E0 := mu65.e _ E0 fr6
        have hB22 := hB22.trans mu65.g
        have hs41 := hs41.trans mu65.g
        have h_l_cols_here := Mono.mono (R := (isL isS)) mu65.g h_l_cols_here
        exact hN40 y67 W64 _ hs41 ⟨rfl, E0, o66⟩ hq
      · intro W36 N39 e37 hN40 hq
        have hs69 := e37.g
        have E0 := E0.trans e37
        have hB22 := hB22.trans e37.g
        have h_l_cols_here := Mono.mono (R := (isL isS)) e37.g h_l_cols_here
        have o12 := o12.mono e37
        try dsimp only [tNext]
        exact hN40 s8 W36 _ hs69 ⟨rfl, E0, o12⟩ hq
      · intro s70 W71 sg72 hS73 iv hq
        obtain ⟨rfl, E0, o77⟩ := iv
        have hB22 := hB22.trans hS73
        have h_l_cols_here := Mono.mono (R := (isL isS)) hS73 h_l_cols_here
        try dsimp only
        refine nxF_of (W := W71) s70 hB22 ?_ hq
        exact ⟨_, _, rfl, E0, o77⟩
    · intro s78 W79 sg80 hS81 iv hq
      obtain ⟨d13, d14, rfl, E0, o12⟩ := iv
      exact ⟨.ref p3, rfl, hq p3 W79 E0 fr6 o12⟩
theorem r_column {f : Addr} {fd : FuncData} (F : Fun K "column" "column" (tp 1) f fd)  : FnOk P w K mg base CX0 (1) f fd ["plan", "k"] (spM2 (isL isS) isI (rs isS) (M_column )) := by
  have SC : FnScope ["plan", "k"] ["plan", "k"] (defScope (tp 1)) := ⟨rfl, rfl, rfl, by decide +kernel, rfl, by decide +kernel, by decide +kernel⟩
  refine F.ok SC (fun vs H Q E h => ?_) (fun cdv A outer s H vs Q E hr h => ?_)
  · obtain ⟨_, _, _, _, _, _, rfl, _⟩ := h; rfl
  · obtain ⟨W0, plan, k, v_plan, _, rfl, rfl, h_plan, z_k, Er, hq⟩ := h
    cases z_k
    refine ⟨_, (pss_one (ps_ret (pe_join1 (K := K) rfl pe_str (pa_cons (pe_comp (N := ["row", "k"]) (cap := [none, some 1]) (mkCS rfl (by decide +kernel) rfl (by decide +kernel) (by rfl) (by rfl)) rfl (pi_listK (K := K) rfl (pv 0)) (fun _ _ _ _ => (pg_name (i := 0) (show List.Nodup (["row", "k"] : List Str) by decide +kernel) rfl (by first | exact Or.inl rfl | exact Or.inr rfl))) (fun _ _ _ _ => pts_nil) (fun _ _ _ _ => (pe_ix ix_str (pv 0) (pv 1) (fun _ _ => rfl)))) pa_nil)))), ?_⟩
    have E0 : Ext W0 W0 := .refl W0
    rw [show L2.start ["plan", "k"] [v_plan, .int k] = [some v_plan, some (.int k)] from rfl]
    unfold M_column at hq
    exact sv_ret (Er := Er) (R := sh isS) (ev_join (ofS _ _ (by decide +kernel)) (EVo.pk (ev_comp (f := fun (a1 : Tx) => ixS a1 k) (iv_list (ev_var (R := sh (isL isS)) h_plan)) fun W3 a1 v2 e4 h5 Q8 k9 => by
      cases h5
      refine gn ?_
      exact ⟨by simp [Keep, capSt], ((ev_ixS (ev_var (R := sh isS) (a := a1) (v := .str (sOf a1)) rfl) (ev_var (R := sh isI) (a := k) (v := .int k) rfl)) : EV Er _ [some (.str (sOf a1)), some (.int k)] _ _ _) _ (.refl _) _ k9⟩))) (Res.OkE.imp hq fun y11 hq v12 W13 e14 h15 => hq v12 W13 (E0.trans e14) h15)
theorem frzNew {W : Wd} {H' : Hp} (s : Same W.H H') : ∃ W' : Wd, W'.H = H' ∧ Ext W W' ∧ ∀ q, W.H q = none → W'.G q = H' q := by
  refine ⟨⟨fun q => match W.H q with | none => H' q | some _ => W.G q, H', fun a o h => ?_⟩, rfl, ⟨fun a o h => ?_, s, fun q hq => ?_⟩, fun q hq => ?_⟩
  · have h : (match W.H a with | none => H' a | some _ => W.G a) = some o := h
    cases z : W.H a with
    | none => rw [z] at h; exact h
    | some x => rw [z] at h; exact s _ _ (W.ok _ _ h)
  · show (match W.H a with | none => H' a | some _ => W.G a) = some o
    rw [W.ok _ _ h]; exact h
  · show (match W.H q with | none => H' q | some _ => W.G q) = W.G q
    cases z : W.H q with
    | none => exact absurd z hq
    | some x => rfl
  · show (match W.H q with | none => H' q | some _ => W.G q) = H' q
    rw [hq]
theorem fi_succ {c : Nat → List Nat} {i : Nat} : fi c (i + 1) = if isFirst c i = true then fi c i ++ [i] else fi c i := by
  unfold fi; rw [List.range_succ, List.filter_append]
  by_cases h : isFirst c i = true <;> simp [h]
theorem grp_succ {c : Nat → List Nat} {i k : Nat} : grp c (i + 1) k = if c i = c k then grp c i k ++ [i] else grp c i k := by
  unfold grp; rw [List.range_succ, List.filter_append]
  by_cases h : c i = c k <;> simp [h]
theorem fi_mem {c : Nat → List Nat} {i k : Nat} : k ∈ fi c i ↔ k < i ∧ ∀ j, j < k → c j ≠ c k := by
  unfold fi isFirst; simp
theorem fi_inj {c : Nat → List Nat} {i k l : Nat} (hk : k ∈ fi c i) (hl : l ∈ fi c i) (h : c k = c l) : k = l := by
  rw [fi_mem] at hk hl
  rcases Nat.lt_trichotomy k l with z | z | z
  · exact absurd h (hl.2 k z)
  · exact z
  · exact absurd h.symm (hk.2 l z)
theorem first_of {c : Nat → List Nat} {i : Nat} (h : ¬ isFirst c i = true) : ∃ k, k ∈ fi c i ∧ c k = c i := by
  have h1 : ∃ j, j < i ∧ c j = c i := by
    unfold isFirst at h
    simp only [List.all_eq_true, List.mem_range, decide_eq_true_eq] at h
    obtain ⟨j, h2⟩ := Classical.not_forall.mp h
    obtain ⟨hj, h2⟩ := Classical.not_imp.mp h2
    exact ⟨j, hj, Classical.not_not.mp h2⟩
  obtain ⟨j, hj, hc⟩ := h1
  induction j using Nat.strongRecOn with
  | _ j ih =>
    by_cases hf : ∀ l, l < j → c l ≠ c j
    · exact ⟨j, fi_mem.mpr ⟨hj, hf⟩, hc⟩
    · obtain ⟨l, h2⟩ := Classical.not_forall.mp hf
      obtain ⟨hl, h2⟩ := Classical.not_imp.mp h2
      have h2 : c l = c j := Classical.not_not.mp h2
      exact ih l hl (by omega) (h2.trans hc)
theorem grp_self {c : Nat → List Nat} {i : Nat} (h : isFirst c i = true) : grp c (i + 1) i = [i] := by
  rw [grp_succ, if_pos rfl]
  have : grp c i i = [] := by
    unfold grp; rw [List.filter_eq_nil_iff]
    intro j hj
    unfold isFirst at h
    rw [List.all_eq_true] at h
    have := h j hj
    simp at this ⊢
    exact this
  rw [this]; rfl
def natV (l : List Nat) : List V := l.map fun (k : Nat) => V.int (k : Int)
structure PackSt (c : Nat → List Nat) (H0 : Hp) (d : Addr) (i : Nat) (G : Hp) (ps : List Addr) : Prop where
  same : Same H0 G
  new : ∀ p ∈ ps, H0 p = none
  notd : ∀ p ∈ ps, p ≠ d
  nodup : ps.Nodup
  len : ps.length = (fi c i).length
  at_ : G d = some (.dK (((fi c i).zip ps).map fun q => (Sum.inr (sOf (c q.1)), V.ref q.2)))
  own : ∀ (j k : Nat) (p : Addr), (fi c i)[j]? = some k → ps[j]? = some p → G p = some (.lst (natV (grp c i k)))
abbrev kvsOf (c : Nat → List Nat) (L : List (Nat × Addr)) : List (Key × V) := L.map fun q => (Sum.inr (sOf (c q.1)), V.ref q.2)
theorem dec_key {a b : List Nat} : decide ((Sum.inr (sOf a) : Key) = Sum.inr (sOf b)) = decide (a = b) := by
  by_cases e : a = b
  · subst e; simp
  · have : ¬ (Sum.inr (sOf a) : Key) = Sum.inr (sOf b) := fun z => e (sOf_inj (Sum.inr.inj z))
    rw [decide_eq_false e, decide_eq_false this]
theorem valV_kvs {c : Nat → List Nat} {L : List (Nat × Addr)} {x : List Nat} : valV (kvsOf c L) (Sum.inr (sOf x)) = (L.find? fun q => decide (c q.1 = x)).map fun q => V.ref q.2 := by
  unfold valV kvsOf
  rw [List.find?_map, Option.map_map]
  have : ((fun kv : Key × V => decide (kv.1 = Sum.inr (sOf x))) ∘ fun q : Nat × Addr => ((Sum.inr (sOf (c q.1)), V.ref q.2) : Key × V)) = fun q => decide (c q.1 = x) := by
    funext q; exact dec_key
  rw [this]; rfl
theorem putK_kvs {c : Nat → List Nat} {L : List (Nat × Addr)} {i : Nat} {z : Addr} (h : ∀ q ∈ L, c q.1 ≠ c i) : putK (kvsOf c L) (Sum.inr (sOf (c i))) (V.ref z) = kvsOf c (L ++ [(i, z)]) := by
  have : ((kvsOf c L).any fun kv => decide (kv.1 = Sum.inr (sOf (c i)))) = false := by
    rw [Bool.eq_false_iff]
    intro hh
    rw [List.any_eq_true] at hh
    obtain ⟨kv, h1, h2⟩ := hh
    obtain ⟨q, h3, rfl⟩ := List.mem_map.mp h1
    rw [dec_key] at h2
    exact h q h3 (of_decide_eq_true h2)
  unfold putK
  rw [this, if_neg (by decide)]
  unfold kvsOf; rw [List.map_append]; rfl
theorem zip_at {ks : List Nat} {ps : List Addr} {q : Nat × Addr} (h : q ∈ ks.zip ps) : ∃ j : Nat, ks[j]? = some q.1 ∧ ps[j]? = some q.2 := by
  obtain ⟨j, hj⟩ := List.mem_iff_getElem?.mp h
  rw [List.getElem?_zip_eq_some] at hj
  exact ⟨j, hj⟩
theorem nd_inj {α : Type} {l : List α} (h : l.Nodup) {i j : Nat} {p : α} (hi : l[i]? = some p) (hj : l[j]? = some p) : i = j := by
  obtain ⟨l1, e1⟩ := List.getElem?_eq_some_iff.mp hi
  obtain ⟨l2, e2⟩ := List.getElem?_eq_some_iff.mp hj
  have hp := List.pairwise_iff_getElem.mp h
  rcases Nat.lt_trichotomy i j with z | z | z
  · exact absurd (e1.trans e2.symm) (hp i j l1 l2 z)
  · exact z
  · exact absurd (e2.trans e1.symm) (hp j i l2 l1 z)
theorem PackSt.old {c : Nat → List Nat} {H0 G G' : Hp} {d : Addr} {i : Nat} {ps : List Addr} (S : PackSt c H0 d i G ps) (e : Same G G') (hf : ¬ isFirst c i = true) :
    ∃ p l, valV (kvsOf c ((fi c i).zip ps)) (Sum.inr (sOf (c i))) = some (.ref p) ∧ G' p = some (.lst l) ∧ l.length ≤ i ∧ PackSt c H0 d (i + 1) (upd G' p (.lst (l ++ [.int i]))) ps := by
  obtain ⟨k0, hk0, hc0⟩ := first_of hf
  obtain ⟨q, hq⟩ : ∃ q, ((fi c i).zip ps).find? (fun q => decide (c q.1 = c i)) = some q := by
    rw [← Option.isSome_iff_exists, List.find?_isSome]
    obtain ⟨j, hj⟩ := List.mem_iff_getElem?.mp hk0
    have hj2 : j < ps.length := by rw [S.len]; exact (List.getElem?_eq_some_iff.mp hj).1
    refine ⟨(k0, ps[j]), List.mem_iff_getElem?.mpr ⟨j, by rw [List.getElem?_zip_eq_some]; exact ⟨hj, by simp [hj2]⟩⟩, by simp [hc0]⟩
  have hqc : c q.1 = c i := by have := List.find?_some hq; simpa using this
  obtain ⟨j, hj1, hj2⟩ := zip_at (List.mem_of_find?_eq_some hq)
  have hown := S.own j q.1 q.2 hj1 hj2
  have hpm : q.2 ∈ ps := List.mem_of_getElem? hj2
  have efi : fi c (i + 1) = fi c i := by rw [fi_succ, if_neg hf]
  refine ⟨q.2, _, by rw [valV_kvs, hq]; rfl, e _ _ hown, ?_, ?_⟩
  · unfold natV grp; rw [List.length_map]; exact Nat.le_trans (List.length_filter_le _ _) (by rw [List.length_range]; exact Nat.le_refl _)
  · refine ⟨same_keep (S.same.trans e) (S.new _ hpm), S.new, S.notd, S.nodup, by rw [efi]; exact S.len, ?_, fun j' k' p' h1 h2 => ?_⟩
    · rw [upd_ne (Ne.symm (S.notd _ hpm)), efi]; exact e _ _ S.at_
    · rw [efi] at h1
      by_cases hp : p' = q.2
      · subst hp
        have := nd_inj S.nodup h2 hj2
        subst this
        rw [hj1] at h1; cases h1
        rw [upd_same, grp_succ, if_pos hqc.symm]
        unfold natV; rw [List.map_append]; rfl
      · rw [upd_ne hp, grp_succ, if_neg]
        · exact e _ _ (S.own j' k' p' h1 h2)
        · intro hh
          have hk : k' = q.1 := fi_inj (List.mem_of_getElem? h1) (List.mem_of_getElem? hj1) (hh.symm.trans hqc.symm)
          subst hk
          have nd : (fi c i).Nodup := List.Pairwise.filter _ List.nodup_range
          have : j' = j := nd_inj nd h1 hj1
          subst this
          rw [hj2] at h2; cases h2
          exact hp rfl
theorem PackSt.newp {c : Nat → List Nat} {H0 G G' : Hp} {d z : Addr} {i : Nat} {ps : List Addr} (S : PackSt c H0 d i G ps) (e : Same G G') (hz : G' z = none) (hd0 : H0 d = none) (hf : isFirst c i = true) :
    valV (kvsOf c ((fi c i).zip ps)) (Sum.inr (sOf (c i))) = none ∧ PackSt c H0 d (i + 1) (upd (upd (upd G' z (.lst [])) d (.dK (putK (kvsOf c ((fi c i).zip ps)) (Sum.inr (sOf (c i))) (.ref z)))) z (.lst ([] ++ [.int i]))) (ps ++ [z]) := by
  have hne : ∀ q ∈ (fi c i).zip ps, c q.1 ≠ c i := fun q hq => by
    obtain ⟨j, h1, _⟩ := zip_at hq
    have hm := fi_mem.mp (List.mem_of_getElem? h1)
    unfold isFirst at hf
    rw [List.all_eq_true] at hf
    have := hf q.1 (List.mem_range.mpr hm.1)
    simpa using this
  have hdz : d ≠ z := fun h => by have := e _ _ S.at_; rw [h, hz] at this; cases this
  have hzp : ∀ p ∈ ps, p ≠ z := fun p hp h => by
    obtain ⟨j, hj⟩ := List.mem_iff_getElem?.mp hp
    have hj2 : j < (fi c i).length := by rw [← S.len]; exact (List.getElem?_eq_some_iff.mp hj).1
    have := e _ _ (S.own j (fi c i)[j] p (by simp [hj2]) hj)
    rw [h, hz] at this; cases this
  have efi : fi c (i + 1) = fi c i ++ [i] := by rw [fi_succ, if_pos hf]
  refine ⟨?_, ?_⟩
  · rw [valV_kvs, List.find?_eq_none.mpr fun q hq => by simpa using hne q hq]; rfl
  · refine ⟨?_, ?_, ?_, ?_, by rw [efi]; simp [S.len], ?_, fun j' k' p' h1 h2 => ?_⟩
    · exact same_keep (same_keep ((S.same.trans e).trans (same_upd hz)) hd0) (none_of (S.same.trans e) hz)
    · intro p hp
      rcases List.mem_append.mp hp with h | h
      · exact S.new p h
      · rw [List.mem_singleton.mp h]; exact none_of (S.same.trans e) hz
    · intro p hp
      rcases List.mem_append.mp hp with h | h
      · exact S.notd p h
      · rw [List.mem_singleton.mp h]; exact Ne.symm hdz
    · rw [List.nodup_append]
      exact ⟨S.nodup, by simp, fun a ha b hb => by rw [List.mem_singleton.mp hb]; exact hzp a ha⟩
    · rw [upd_ne hdz, upd_same, putK_kvs hne, efi, List.zip_append S.len.symm]; rfl
    · rw [efi] at h1
      by_cases hj : j' < ps.length
      · rw [List.getElem?_append_left hj] at h2
        rw [List.getElem?_append_left (by rw [← S.len]; exact hj)] at h1
        have hp := List.mem_of_getElem? h2
        rw [upd_ne (hzp p' hp), upd_ne (S.notd p' hp), upd_ne (hzp p' hp), grp_succ, if_neg]
        · exact e _ _ (S.own j' k' p' h1 h2)
        · intro hh
          have hm := fi_mem.mp (List.mem_of_getElem? h1)
          unfold isFirst at hf
          rw [List.all_eq_true] at hf
          have := hf k' (List.mem_range.mpr hm.1)
          simp at this
          exact this hh.symm
      · have hjl : j' = ps.length := by have := (List.getElem?_eq_some_iff.mp h2).1; simp at this; omega
        subst hjl
        rw [List.getElem?_append_right (Nat.le_refl _)] at h2
        rw [S.len, List.getElem?_append_right (Nat.le_refl _)] at h1
        simp at h1 h2
        subst h1 h2
        rw [upd_same, grp_self hf]; rfl
open Classical in
theorem r_grouped {f : Addr} {fd : FuncData} (F : Fun K "grouped" "grouped" (tp 3) f fd) {m_column : (List Tx) → Int → Res Tx} (C_column : Cal P w K mg base "column" ["plan", "k"] (1) (spM2 (isL isS) isI (rs isS) m_column)) (h_list : mg "list" = none) (h_range : mg "range" = none) : FnOk P w K mg base CX0 (2) f fd ["plan", "width"] (spM2 (isL isS) isI (rs (isL (isL isI))) (M_grouped m_column)) := by
  have SC : FnScope ["plan", "width", "packs", "k"] ["plan", "width"] (defScope (tp 3)) := ⟨rfl, rfl, rfl, by decide +kernel, rfl, by decide +kernel, by decide +kernel⟩
  refine F.ok SC (fun vs H Q E h => ?_) (fun cdv A outer s H vs Q E hr h => ?_)
  · obtain ⟨_, _, _, _, _, _, rfl, _⟩ := h; rfl
  · obtain ⟨W0, rows, width, v1, v2, rfl, rfl, hp0, hw, Er, hq⟩ := h
    cases hw
    unfold M_grouped at hq
    obtain ⟨⟨hw0, hw1, hcol⟩, q⟩ := must_OkE hq
    obtain ⟨n, rfl⟩ := Int.eq_ofNat_of_zero_le hw0
    rw [Int.toNat_natCast] at hcol q
    have hn : n ≤ 300 := by omega
    obtain ⟨p, vs0, rfl, hpG, hpL⟩ := id hp0
    generalize hcc : colR m_column rows = c at q
    have hcol : ∀ k, k < n → m_column rows (k : Int) = .ok (c k) := fun k hk => by
      obtain ⟨x, hx⟩ := hcol k hk
      rw [← hcc]; unfold colR; rw [hx]
    generalize hHH : W0.H = H at *
    refine ⟨_, (pss_cons (ps_set (i := 2) SC.nd rfl (by first | exact Or.inl rfl | exact Or.inr rfl) pe_dnewK)
      (pss_cons (ps_for PassesOwn.never rfl (pi_range1 rfl h_range (pa_cons (pv 1) pa_nil)) (pg_name (i := 3) SC.nd rfl (by first | exact Or.inl rfl | exact Or.inr rfl)) (pss_one (ps_expr (pe_bmK (K := K) rfl PySem.F.plainAttrs_list PySem.F.slot_list_append PySem.F.type_list_append mt_append (pe_dsetdef (pv 2) (pe_cal C_column (hr.mono (by decide)) (by rfl) (pa_cons (pv 0) (pa_cons (pv 3) pa_nil))) (pe_lst pa_nil) ⟨rfl, rfl, rfl, rfl⟩) (pa_cons (pv 3) pa_nil)))))
      (pss_one (ps_ret (pe_listvals (by rfl) h_list rfl (pv 2)))))), ?_⟩
    simp only [rSlL, tSeq, tIfS, tTest, tOp, tVar, tC, tCB, tCons, tNil, tRet, tNext, tAsg, gName, gTup, gCons, gNil, tB, rI0, rI, tLst, tCall, tDrop, tAnd, tOr, tNot, tAndV, tNotV, tSl, tPart, tNoPart, tBM, tDNewK, rIn, rEq, rNe, scal, rIxL, rIxS, rAppend, L2.start, List.map_cons, List.map_nil, List.cons_append, List.nil_append, List.append_nil, List.length_cons, List.length_nil, List.replicate, List.set_cons_zero, List.set_cons_succ, List.getElem?_cons_zero, List.getElem?_cons_succ, Option.some.injEq, exists_eq_left', exists_eq_left, exists_and_left, exists_eq', exists_const, V.int.injEq, V.bl.injEq, V.str.injEq, V.ref.injEq, V.ty.injEq, List.cons.injEq, and_true, true_and, reduceCtorEq, false_and, and_false, exists_false, or_false, false_or, decide_eq_true_eq, Bool.not_eq_true', decide_eq_false_iff_not, if_true, if_false, Bool.false_eq_true, ite_true, ite_false, Bool.not_true, Bool.not_false, Nat.reduceAdd, Nat.reduceSub, and_assoc, tDSetdef, tListVals]
    refine fun d hd => ?_
    refine ⟨_, rfl, (n : Int), rfl, by omega, by omega, for_range (lo := 0) (n := (n : Int).toNat) (fun i σ G => ∃ (ps : List Addr) (v3 : Option V), σ = [some (.ref p), some (.int n), some (.ref d), v3] ∧ PackSt c H d i G ps)
      ⟨[], none, rfl, same_upd hd, by simp, by simp, by simp, rfl, upd_same, fun j k p h1 h2 => by simp at h2⟩ ?_ ?_⟩
    · rintro i σ G hi ⟨ps, v3, rfl, S⟩
      have hi : i < n := by omega
      simp only [rSlL, tSeq, tIfS, tTest, tOp, tVar, tC, tCB, tCons, tNil, tRet, tNext, tAsg, gName, gTup, gCons, gNil, tB, rI0, rI, tLst, tCall, tDrop, tAnd, tOr, tNot, tAndV, tNotV, tSl, tPart, tNoPart, tBM, tDNewK, rIn, rEq, rNe, scal, rIxL, rIxS, rAppend, L2.start, List.map_cons, List.map_nil, List.cons_append, List.nil_append, List.append_nil, List.length_cons, List.length_nil, List.replicate, List.set_cons_zero, List.set_cons_succ, List.getElem?_cons_zero, List.getElem?_cons_succ, Option.some.injEq, exists_eq_left', exists_eq_left, exists_and_left, exists_eq', exists_const, V.int.injEq, V.bl.injEq, V.str.injEq, V.ref.injEq, V.ty.injEq, List.cons.injEq, and_true, true_and, reduceCtorEq, false_and, and_false, exists_false, or_false, false_or, decide_eq_true_eq, Bool.not_eq_true', decide_eq_false_iff_not, if_true, if_false, Bool.false_eq_true, ite_true, ite_false, Bool.not_true, Bool.not_false, Nat.reduceAdd, Nat.reduceSub, and_assoc, tDSetdef, tListVals]
      rw [Int.zero_add]
      refine ⟨.inl ⟨_, .inl S.at_⟩, ⟨W0.G, G, fun a o h => S.same _ _ (by rw [← hHH]; exact W0.ok _ _ h)⟩, rows, i, .ref p, .int i, rfl, rfl, hp0, rfl, fun _ => False, ?_⟩
      rw [hcol i hi]
      intro u W9 e9 hu
      cases hu
      have e1 : Same G W9.H := e9.h
      generalize W9.H = G1 at e1 ⊢
      have hfl : (fi c i).length ≤ i := by unfold fi; exact Nat.le_trans (List.length_filter_le _ _) (by rw [List.length_range]; exact Nat.le_refl _)
      refine ⟨Nat.zero_le _, fun z hz => ?_⟩
      have e2 := e1.trans (same_upd (o := .lst []) hz)
      refine ⟨_, e2 _ _ S.at_, Sum.inr (sOf (c i)), rfl, by rw [List.length_map, List.length_zip, sizeLine_eq]; omega, ?_, ?_⟩
      · intro v hv
        by_cases hf : isFirst c i = true
        · rw [(S.newp e1 hz hd hf).1] at hv; cases hv
        · obtain ⟨p', l, h1, h2, h3, S'⟩ := S.old e2 hf
          rw [h1] at hv; cases hv
          exact ⟨.inl ⟨rfl, _, SqL.of h2⟩, p', rfl, l, h2, by rw [sizeLine_eq]; omega, ps, S'⟩
      · intro hv
        by_cases hf : isFirst c i = true
        · obtain ⟨h1, S'⟩ := S.newp e1 hz hd hf
          have hdz : z ≠ d := fun h => by have := e1 _ _ S.at_; rw [← h, hz] at this; cases this
          have hzat : upd (upd G1 z (.lst [])) d (.dK (putK (kvsOf c ((fi c i).zip ps)) (Sum.inr (sOf (c i))) (.ref z))) z = some (.lst []) := by rw [upd_ne hdz, upd_same]
          exact ⟨.inl ⟨rfl, _, SqL.of hzat⟩, [], hzat, by rw [sizeLine_eq]; decide, _, S'⟩
        · obtain ⟨p', l, h1, _⟩ := S.old e2 hf
          rw [h1] at hv; cases hv
    · rintro σ G ⟨ps, v3, rfl, S⟩
      rw [Int.toNat_natCast] at S
      simp only [rSlL, tSeq, tIfS, tTest, tOp, tVar, tC, tCB, tCons, tNil, tRet, tNext, tAsg, gName, gTup, gCons, gNil, tB, rI0, rI, tLst, tCall, tDrop, tAnd, tOr, tNot, tAndV, tNotV, tSl, tPart, tNoPart, tBM, tDNewK, rIn, rEq, rNe, scal, rIxL, rIxS, rAppend, L2.start, List.map_cons, List.map_nil, List.cons_append, List.nil_append, List.append_nil, List.length_cons, List.length_nil, List.replicate, List.set_cons_zero, List.set_cons_succ, List.getElem?_cons_zero, List.getElem?_cons_succ, Option.some.injEq, exists_eq_left', exists_eq_left, exists_and_left, exists_eq', exists_const, V.int.injEq, V.bl.injEq, V.str.injEq, V.ref.injEq, V.ty.injEq, List.cons.injEq, and_true, true_and, reduceCtorEq, false_and, and_false, exists_false, or_false, false_or, decide_eq_true_eq, Bool.not_eq_true', decide_eq_false_iff_not, if_true, if_false, Bool.false_eq_true, ite_true, ite_false, Bool.not_true, Bool.not_false, Nat.reduceAdd, Nat.reduceSub, and_assoc, tDSetdef, tListVals]
      refine ⟨_, S.at_, fun b hb => ?_⟩
      obtain ⟨W9, h91, h92, h93⟩ := frzNew (W := W0) (H' := upd G b (.lst ((((fi c n).zip ps).map fun q => ((Sum.inr (sOf (c q.1)), V.ref q.2) : Key × V)).map (·.2)))) (by rw [hHH]; exact S.same.trans (same_upd hb))
      rw [hHH] at h93
      rw [← h91]
      refine q (.ref b) W9 h92 ⟨b, _, rfl, by rw [h93 b (none_of S.same hb)]; exact upd_same, ?_⟩
      have hps : (((fi c n).zip ps).map fun q => ((Sum.inr (sOf (c q.1)), V.ref q.2) : Key × V)).map (·.2) = ps.map V.ref := by
        rw [List.map_map]
        have : ((fun x : Key × V => x.2) ∘ fun q : Nat × Addr => ((Sum.inr (sOf (c q.1)), V.ref q.2) : Key × V)) = V.ref ∘ Prod.snd := rfl
        rw [this, ← List.map_map, List.map_snd_zip (by rw [S.len]; exact Nat.le_refl _)]
      rw [hps]
      refine ⟨by rw [List.length_map, S.len]; unfold packsOf; rw [List.length_map], fun j v m h1 h2 => ?_⟩
      rw [List.getElem?_map] at h1
      unfold packsOf at h2
      rw [List.getElem?_map] at h2
      obtain ⟨p', h3, rfl⟩ := Option.map_eq_some_iff.mp h1
      obtain ⟨k, h4, rfl⟩ := Option.map_eq_some_iff.mp h2
      have hown := S.own j k p' h4 h3
      refine ⟨p', _, rfl, by rw [h93 p' (S.new p' (List.mem_of_getElem? h3))]; exact same_upd hb _ _ hown, ?_⟩
      have : natV (grp c n k) = ((grp c n k).map fun (j : Nat) => (j : Int)).map V.int := by unfold natV; rw [List.map_map]; rfl
      rw [this]
      exact ⟨by simp, fun i v m a b => by rw [List.getElem?_map, b] at a; cases a; rfl⟩
theorem r_called {f : Addr} {fd : FuncData} (F : Fun K "called" "called" (tp 4) f fd) {m_grouped : (List Tx) → Int → Res (List (List Int))} (C_grouped : Cal P w K mg base "grouped" ["plan", "width"] (2) (spM2 (isL isS) isI (rs (isL (isL isI))) m_grouped)) : FnOk P w K mg base CX0 (3) f fd ["plan", "width"] (spM2 (isL isS) isI (ro isS) (M_called m_grouped)) := by
  have SC : FnScope ["plan", "width", "firsts"] ["plan", "width"] (defScope (tp 4)) := ⟨rfl, rfl, rfl, by decide +kernel, rfl, by decide +kernel, by decide +kernel⟩
  refine F.ok SC (fun vs H Q E h => ?_) (fun cdv A outer s H vs Q E hr h => ?_)
  · obtain ⟨_, _, _, _, _, _, rfl, _⟩ := h; rfl
  · obtain ⟨W0, plan, width, v_plan, _, rfl, rfl, h_plan, z_width, Er, hq⟩ := h
    cases z_width
    refine ⟨_, (pss_cons (ps_set (i := 2) SC.nd rfl (by first | exact Or.inl rfl | exact Or.inr rfl) (pe_comp (N := ["pack"]) (cap := [none]) (mkCS rfl (by decide +kernel) rfl (by decide +kernel) (by rfl) (by rfl)) rfl (pi_listK (K := K) rfl (pe_cal C_grouped (hr.mono (by decide)) (by rfl) (pa_cons (pv 0) (pa_cons (pv 1) pa_nil)))) (fun _ _ _ _ => (pg_name (i := 0) (show List.Nodup (["pack"] : List Str) by decide +kernel) rfl (by first | exact Or.inl rfl | exact Or.inr rfl))) (fun _ _ _ _ => pts_nil) (fun _ _ _ _ => (pe_ix (ix_listK (K := K) rfl) (pv 0) pe_int (fun _ _ => rfl)))))
      (pss_one (ps_ret (pe_comp (N := ["row", "firsts"]) (cap := [none, some 2]) (mkCS rfl (by decide +kernel) rfl (by decide +kernel) (by rfl) (by rfl)) rfl (pi_listK (K := K) rfl (pv 0)) (fun _ _ _ _ => (pg_name (i := 0) (show List.Nodup (["row", "firsts"] : List Str) by decide +kernel) rfl (by first | exact Or.inl rfl | exact Or.inr rfl))) (fun _ _ _ _ => pts_nil) (fun _ _ _ _ => (pe_join1 (K := K) rfl pe_str (pa_cons (pe_comp (N := ["k", "row"]) (cap := [none, some 0]) (mkCS rfl (by decide +kernel) rfl (by decide +kernel) (by rfl) (by rfl)) rfl (pi_listK (K := K) rfl (pv 1)) (fun _ _ _ _ => (pg_name (i := 0) (show List.Nodup (["k", "row"] : List Str) by decide +kernel) rfl (by first | exact Or.inl rfl | exact Or.inr rfl))) (fun _ _ _ _ => pts_nil) (fun _ _ _ _ => (pe_ix ix_str (pv 1) (pv 0) (fun _ _ => rfl)))) pa_nil))))))), ?_⟩
    have E0 : Ext W0 W0 := .refl W0
    rw [show L2.start ["plan", "width", "firsts"] [v_plan, .int width] = [some v_plan, some (.int width), none] from rfl]
    unfold M_called at hq
    refine sv_asg_s (Er := Er) (i := 2) (R := sh (isL isI)) (σ' := fun v14 => [some v_plan, some (.int width), some v14]) (EVo.ev (ev_comp (f := fun (a3 : List Int) => ixL a3 (0 : Int)) (iv_list (ev_call2 (ev_var (R := sh (isL isS)) h_plan) (ev_var (R := sh isI) (a := width) (v := .int width) rfl))) fun W5 a3 v4 e6 h7 Q10 k11 => by
      refine gn ?_
      exact ⟨by simp [Keep, capSt], ((ev_ixL (EV.pk (ev_var (R := sh (isL isI)) h7)) ev_int) : EV Er _ [some v4] _ _ _) _ (.refl _) _ k11⟩)) ((Res.okE_bind hq).imp fun y13 hq v14 W1 e2 h15 => ?_)
    have E0 := E0.trans e2
    have h_plan := Mono.mono (R := (isL isS)) e2.g h_plan
    exact sv_retO (Er := Er) (ev_comp (f := fun (a16 : Tx) => (compR y13 (fun (a24 : Int) => ixS a16 a24)).bind fun y33 => joinE y33) (iv_list (ev_var (R := sh (isL isS)) h_plan)) fun W18 a16 v17 e19 h20 Q34 k35 => by
      have h21 := MonoW.mono (R := sh (isL isI)) e19 h15
      cases h20
      refine gn ?_
      exact ⟨by simp [Keep, capSt], ((ev_join (ofS _ _ (by decide +kernel)) (EVo.pk (ev_comp (f := fun (a24 : Int) => ixS a16 a24) (iv_list (ev_var (R := sh (isL isI)) h21)) fun W26 a24 v25 e27 h28 Q31 k32 => by
        cases h28
        refine gn ?_
        exact ⟨by simp [Keep, capSt], ((ev_ixS (ev_var (R := sh isS) (a := a16) (v := .str (sOf a16)) rfl) (ev_var (R := sh isI) (a := a24) (v := .int a24) rfl)) : EV Er _ [some (.int a24), some (.str (sOf a16))] _ _ _) _ (.refl _) _ k32⟩))) : EV Er _ [some (.str (sOf a16)), some v14] _ _ _) _ (.refl _) _ k35⟩) (Res.OkE.imp hq fun y36 hq p37 W38 e39 hp40 o41 => hq p37 W38 (E0.trans e39) (none_of E0.h hp40) o41)
theorem r_unpacked {f : Addr} {fd : FuncData} (F : Fun K "unpacked" "unpacked" (tp 5) f fd) (h_enumerate : mg "enumerate" = none) (h_sorted : mg "sorted" = none) : FnOk P w K mg base CX0 (1) f fd ["packs", "calls"] (spM2 (isL (isL isI)) (isL isS) (ro isS) (M_unpacked )) := by
  have SC : FnScope ["packs", "calls", "homes"] ["packs", "calls"] (defScope (tp 5)) := ⟨rfl, rfl, rfl, by decide +kernel, rfl, by decide +kernel, by decide +kernel⟩
  refine F.ok SC (fun vs H Q E h => ?_) (fun cdv A outer s H vs Q E hr h => ?_)
  · obtain ⟨_, _, _, _, _, _, rfl, _⟩ := h; rfl
  · obtain ⟨W0, packs, calls, v_packs, v_calls, rfl, rfl, h_packs, h_calls, Er, hq⟩ := h
    refine ⟨_, (pss_cons (ps_set (i := 2) SC.nd rfl (by first | exact Or.inl rfl | exact Or.inr rfl) (pe_compD2 (mk := .dK []) (.inl rfl) (units1 hr) (N := ["at", "pack", "k"]) (cap := [none, none, none]) (mkCS rfl (by decide +kernel) rfl (by decide +kernel) (by rfl) (by rfl)) rfl (pi_enum (K := K) rfl rfl h_enumerate (pa_cons (pv 0) pa_nil)) (fun _ _ _ _ => (pg_tupK (K := K) (n := 2) rfl rfl (pgs_cons (pg_name (i := 0) (show List.Nodup (["at", "pack", "k"] : List Str) by decide +kernel) rfl (by first | exact Or.inl rfl | exact Or.inr rfl)) (pgs_cons (pg_name (i := 1) (show List.Nodup (["at", "pack", "k"] : List Str) by decide +kernel) rfl (by first | exact Or.inl rfl | exact Or.inr rfl)) pgs_nil)))) (fun _ _ _ _ => pts_nil) (fun _ _ _ _ => (pi_listK (K := K) rfl (pv 1))) (fun _ _ _ _ => (pg_name (i := 2) (show List.Nodup (["at", "pack", "k"] : List Str) by decide +kernel) rfl (by first | exact Or.inl rfl | exact Or.inr rfl))) (fun _ _ _ _ => pts_nil) (fun _ _ _ _ => (pv 2)) (fun _ _ _ _ => (pv 0))))
      (pss_one (ps_ret (pe_comp (N := ["call", "homes"]) (cap := [none, some 2]) (mkCS rfl (by decide +kernel) rfl (by decide +kernel) (by rfl) (by rfl)) rfl (pi_listK (K := K) rfl (pv 1)) (fun _ _ _ _ => (pg_name (i := 0) (show List.Nodup (["call", "homes"] : List Str) by decide +kernel) rfl (by first | exact Or.inl rfl | exact Or.inr rfl))) (fun _ _ _ _ => pts_nil) (fun _ _ _ _ => (pe_join1 (K := K) rfl pe_str (pa_cons (pe_comp (N := ["k", "call", "homes"]) (cap := [none, some 0, some 1]) (mkCS rfl (by decide +kernel) rfl (by decide +kernel) (by rfl) (by rfl)) rfl (pi_listK (K := K) rfl (pe_callB (call_sortedD rfl) (by rfl) h_sorted PyProof.Rows.boot_sorted (pa_cons (pv 1) pa_nil))) (fun _ _ _ _ => (pg_name (i := 0) (show List.Nodup (["k", "call", "homes"] : List Str) by decide +kernel) rfl (by first | exact Or.inl rfl | exact Or.inr rfl))) (fun _ _ _ _ => pts_nil) (fun _ _ _ _ => (pe_ix ix_str (pv 1) (pe_dget (units1 hr) (pv 2) (pv 0) (fun _ _ => rfl)) (fun _ _ => rfl)))) pa_nil))))))), ?_⟩
    have E0 : Ext W0 W0 := .refl W0
    rw [show L2.start ["packs", "calls", "homes"] [v_packs, v_calls] = [some v_packs, some v_calls, none] from rfl]
    unfold M_unpacked at hq
    refine sv_asgD_s (Er := Er) (i := 2) (σ' := fun p35 => [some v_packs, some v_calls, some (.ref p35)]) (ev_compD (gk := Sum.inl) (R' := isI) (f := fun (a8 : Int × (List Int)) (s10 : List (Int × Int)) => forR (fun (a22 : Int) (s24 : List (Int × Int)) => dput s24 a22 a8.1) a8.2 s10) (iv_enum (ev_var (R := sh (isL (isL isI))) h_packs)) (fun W3 D4 W7 a8 v9 s10 M11 hS12 e5 h6 e13 o14 h15 k16 => by
      refine gt2n h15 fun v17 v19 h18 h20 => ?_
      cases h18
      exact ⟨by simp [Keep, capSt], yesB (((bv_gen (f := fun (a22 : Int) (s24 : List (Int × Int)) => dput s24 a22 a8.1) e13 (iv_list (ev_var (R := sh (isL isI)) h20)) (fun _ _ _ e o => o.mono e) (fun W21 a22 v23 s24 M25 hS26 e27 o28 h29 k30 => by
        have h31 := Mono.mono (R := (isL isI)) hS26 h20
        cases h29
        refine gn ?_
        exact ⟨by simp [Keep, capSt], yesB (((bv_dict inlI kI e27 h6 (ev_var (R := sh isI) (a := a22) (v := .int a22) rfl) (ev_var (R := sh isI) (a := a8.1) (v := .int a8.1) rfl)) : BV Er _ [some (.int a8.1), some v19, some (.int a22)] _ _ _ _ _) _ _ _ (.refl _) o28 k30)⟩)) : BV Er _ [some (.int a8.1), some v19, none] _ _ _ _ _) _ _ _ (.refl _) o14 k16)⟩)) ((Res.okE_bind hq).imp fun y34 hq p35 W1 e2 hp36 o37 => ?_)
    have fr38 := none_of E0.h hp36
    have E0 := E0.trans e2
    have h_calls := Mono.mono (R := (isL isS)) e2.g h_calls
    exact sv_retO (Er := Er) (ev_comp (f := fun (a39 : Tx) => ((sortD y34).bind fun y58 => compR y58 (fun (a47 : Int) => (getD y34 a47).bind fun y55 => ixS a39 y55)).bind fun y59 => joinE y59) (iv_list (ev_var (R := sh (isL isS)) h_calls)) fun W41 a39 v40 e42 h43 Q60 k61 => by
      have o44 := o37.mono e42
      cases h43
      refine gn ?_
      exact ⟨by simp [Keep, capSt], ((ev_join (ofS _ _ (by decide +kernel)) (EVo.pk (ev_comp (f := fun (a47 : Int) => (getD y34 a47).bind fun y55 => ixS a39 y55) (iv_list (EVo.ev (ev_sortD o44))) fun W49 a47 v48 e50 h51 Q56 k57 => by
        have o52 := o44.mono e50
        cases h51
        refine gn ?_
        exact ⟨by simp [Keep, capSt], ((ev_ixS (ev_var (R := sh isS) (a := a39) (v := .str (sOf a39)) rfl) (ev_dget1 inlI kI o52 (ev_var (R := sh isI) (a := a47) (v := .int a47) rfl))) : EV Er _ [some (.int a47), some (.str (sOf a39)), some (.ref p35)] _ _ _) _ (.refl _) _ k57⟩))) : EV Er _ [some (.str (sOf a39)), some (.ref p35)] _ _ _) _ (.refl _) _ k61⟩) (Res.OkE.imp hq fun y62 hq p63 W64 e65 hp66 o67 => hq p63 W64 (E0.trans e65) (none_of E0.h hp66) o67)
theorem r_l_parts {f : Addr} {fd : FuncData} (F : Fun K "_law_parts" "_law_parts" (tp 15) f fd) (h_len : mg "len" = none) (h_range : mg "range" = none) : FnOk P w K mg base CX0 (1) f fd ["_law_one", "_law_other"] (spM2 isS isS (rs (isO isI)) (M_l_parts )) := by
  have SC : FnScope ["_law_one", "_law_other", "_law_at_here"] ["_law_one", "_law_other"] (defScope (tp 15)) := ⟨rfl, rfl, rfl, by decide +kernel, rfl, by decide +kernel, by decide +kernel⟩
  refine F.ok SC (fun vs H Q E h => ?_) (fun cdv A outer s H vs Q E hr h => ?_)
  · obtain ⟨_, _, _, _, _, _, rfl, _⟩ := h; rfl
  · obtain ⟨W0, l_one, l_other, _, _, rfl, rfl, z_l_one, z_l_other, Er, hq⟩ := h
    cases z_l_one
    cases z_l_other
    refine ⟨_, (pss_cons (ps_for PassesOwn.never rfl (pi_range1 rfl h_range (pa_cons (pe_callB (call_lenK (K := K) rfl) (by rfl) h_len PySem.boot_len (pa_cons (pv 0) pa_nil)) pa_nil)) (pg_name (i := 2) SC.nd rfl (by first | exact Or.inl rfl | exact Or.inr rfl)) (pss_one (ps_if (pt_cmpR op_ne (pe_ix ix_str (pv 0) (pv 2) (fun _ _ => rfl)) (pe_ix ix_str (pv 1) (pv 2) (fun _ _ => rfl)) (nomark _)) (pss_one (ps_ret (pv 2))) pss_nil)))
      (pss_one (ps_ret pe_non))), ?_⟩
    have E0 : Ext W0 W0 := .refl W0
    rw [show L2.start ["_law_one", "_law_other", "_law_at_here"] [.str (sOf l_one), .str (sOf l_other)] = [some (.str (sOf l_one)), some (.str (sOf l_other)), none] from rfl]
    unfold M_l_parts at hq
    refine sv_forF_s (Er := Er) (f := (M_l_parts_b1 l_one l_other)) (s0 := ()) (Iv := fun (s4 : Unit) (W5 : Wd) (g6 : St) => ∃ (d7 : Option V), g6 = [some (.str (sOf l_one)), some (.str (sOf l_other)), d7] ∧ Ext W0 W5) (iv_range (ev_lenS (ev_var (R := sh isS) (a := l_one) (v := .str (sOf l_one)) rfl))) (Res.okE_bind hq) ?_ ?_ ?_
    · intro W19 e20
      have E0 := E0.trans e20
      exact ⟨_, rfl, E0⟩
    · intro Wb8 W9 W10 a2 v11 s3 sg12 P13 hW14 hB15 iv e16 h17 hrt18 hq
      obtain ⟨d7, rfl, E0⟩ := iv
      have E0 := E0.trans e16
      have hB15 := hB15.trans e16.g
      cases h17
      refine gn (σ' := [some (.str (sOf l_one)), some (.str (sOf l_other)), some (.int a2)]) ?_
      unfold M_l_parts_b1 at hq
      refine sv_if (Er := Er) (tv_test (ev_neS (ev_ixS (ev_var (R := sh isS) (a := l_one) (v := .str (sOf l_one)) rfl) (ev_var (R := sh isI) (a := a2) (v := .int a2) rfl)) (ev_ixS (ev_var (R := sh isS) (a := l_other) (v := .str (sOf l_other)) rfl) (ev_var (R := sh isI) (a := a2) (v := .int a2) rfl)))) ((Res.okE_bind hq).imp fun y25 hq W26 e27 => ?_)
      have E0 := E0.trans e27
      have hB15 := hB15.trans e27.g
      by_cases hb31 : y25 = true
      · rw [if_pos hb31] at hq ⊢
        exact sv_ret (Er := Er) (R := sh (isO isI)) (ev_someO (ev_var (R := sh isI) (a := a2) (v := .int a2) rfl)) (fun v28 W29 e30 h31 => (hrt18 _ hq) v28 W29 (E0.trans e30) h31)
      · rw [if_neg hb31] at hq ⊢
        try dsimp only [tNext]
        try dsimp only
        refine nxF_of (W := W26) () hB15 ?_ hq
        exact ⟨_, rfl, E0⟩
    · intro s33 W34 sg35 hS36 iv hq
      obtain ⟨d7, rfl, E0⟩ := iv
      exact sv_ret (Er := Er) (R := sh (isO isI)) (ev_none (R := isI)) (fun v37 W38 e39 h40 => hq v37 W38 (E0.trans e39) h40)
theorem r_parted {f : Addr} {fd : FuncData} (F : Fun K "parted" "parted" (tp 6) f fd) (h_enumerate : mg "enumerate" = none) : FnOk P w K mg base CX0 (1) f fd ["plan", "one", "other"] (spM3 (isL isS) isI isI (rs (isO isI)) (M_parted )) := by
  have SC : FnScope ["plan", "one", "other", "at", "row"] ["plan", "one", "other"] (defScope (tp 6)) := ⟨rfl, rfl, rfl, by decide +kernel, rfl, by decide +kernel, by decide +kernel⟩
  refine F.ok SC (fun vs H Q E h => ?_) (fun cdv A outer s H vs Q E hr h => ?_)
  · obtain ⟨_, _, _, _, _, _, _, _, rfl, _⟩ := h; rfl
  · obtain ⟨W0, plan, one, other, v_plan, _, _, rfl, rfl, h_plan, z_one, z_other, Er, hq⟩ := h
    cases z_one
    cases z_other
    refine ⟨_, (pss_cons (ps_for PassesOwn.never rfl (pi_enum (K := K) rfl rfl h_enumerate (pa_cons (pv 0) pa_nil)) (pg_tupK (K := K) (n := 2) rfl rfl (pgs_cons (pg_name (i := 3) SC.nd rfl (by first | exact Or.inl rfl | exact Or.inr rfl)) (pgs_cons (pg_name (i := 4) SC.nd rfl (by first | exact Or.inl rfl | exact Or.inr rfl)) pgs_nil))) (pss_one (ps_if (pt_cmpR op_ne (pe_ix ix_str (pv 4) (pv 1) (fun _ _ => rfl)) (pe_ix ix_str (pv 4) (pv 2) (fun _ _ => rfl)) (nomark _)) (pss_one (ps_ret (pv 3))) pss_nil)))
      (pss_one (ps_ret pe_non))), ?_⟩
    have E0 : Ext W0 W0 := .refl W0
    rw [show L2.start ["plan", "one", "other", "at", "row"] [v_plan, .int one, .int other] = [some v_plan, some (.int one), some (.int other), none, none] from rfl]
    unfold M_parted at hq
    refine sv_forF_s (Er := Er) (f := (M_parted_b1 one other)) (s0 := ()) (Iv := fun (s3 : Unit) (W4 : Wd) (g5 : St) => ∃ (d6 : Option V) (d7 : Option V), g5 = [some v_plan, some (.int one), some (.int other), d6, d7] ∧ Ext W0 W4) (iv_enum (ev_var (R := sh (isL isS)) h_plan)) (Res.okE_bind hq) ?_ ?_ ?_
    · intro W19 e20
      have E0 := E0.trans e20
      exact ⟨_, _, rfl, E0⟩
    · intro Wb8 W9 W10 a1 v11 s2 sg12 P13 hW14 hB15 iv e16 h17 hrt18 hq
      obtain ⟨d6, d7, rfl, E0⟩ := iv
      have E0 := E0.trans e16
      have hB15 := hB15.trans e16.g
      refine gt2n (σ' := fun v25 v27 => [some v_plan, some (.int one), some (.int other), some v25, some v27]) h17 fun v25 v27 h26 h28 => ?_
      cases h26
      cases h28
      unfold M_parted_b1 at hq
      refine sv_if (Er := Er) (tv_test (ev_neS (ev_ixS (ev_var (R := sh isS) (a := a1.2) (v := .str (sOf a1.2)) rfl) (ev_var (R := sh isI) (a := one) (v := .int one) rfl)) (ev_ixS (ev_var (R := sh isS) (a := a1.2) (v := .str (sOf a1.2)) rfl) (ev_var (R := sh isI) (a := other) (v := .int other) rfl)))) ((Res.okE_bind hq).imp fun y31 hq W32 e33 => ?_)
      have E0 := E0.trans e33
      have hB15 := hB15.trans e33.g
      by_cases hb37 : y31 = true
      · rw [if_pos hb37] at hq ⊢
        exact sv_ret (Er := Er) (R := sh (isO isI)) (ev_someO (ev_var (R := sh isI) (a := a1.1) (v := .int a1.1) rfl)) (fun v34 W35 e36 h37 => (hrt18 _ hq) v34 W35 (E0.trans e36) h37)
      · rw [if_neg hb37] at hq ⊢
        try dsimp only [tNext]
        try dsimp only
        refine nxF_of (W := W32) () hB15 ?_ hq
        exact ⟨_, _, rfl, E0⟩
    · intro s38 W39 sg40 hS41 iv hq
      obtain ⟨d6, d7, rfl, E0⟩ := iv
      exact sv_ret (Er := Er) (R := sh (isO isI)) (ev_none (R := isI)) (fun v42 W43 e44 h45 => hq v42 W43 (E0.trans e44) h45)
theorem r_law {f : Addr} {fd : FuncData} (F : Fun K "law" "law" (tp 16) f fd) {m_l_at : List Int → Int → Res Int} {m_l_cols : List Int → Int → Int → Int → Res (List Tx)} {m_l_joined : (List Tx) → Int → Res (List Tx)} {m_l_groups : (List Tx) → Res (List (List Int))} {m_grouped : (List Tx) → Int → Res (List (List Int))} {m_unpacked : (List (List Int)) → (List Tx) → Res (List Tx)} {m_called : (List Tx) → Int → Res (List Tx)} {m_l_parts : Tx → Tx → Res (Option Int)} {m_parted : (List Tx) → Int → Int → Res (Option Int)} (C__law_at : Cal P w K mg base "_law_at" ["_law_script", "_law_k"] (1) (spM2 (isScr K) isI (rs isI) m_l_at)) (C__law_cols : Cal P w K mg base "_law_cols" ["_law_script", "_law_at_here", "_law_width", "_law_many"] (3) (spM4 (isScr K) isI isI isI (ro isS) m_l_cols)) (C__law_joined : Cal P w K mg base "_law_joined" ["_law_cols_here", "_law_many"] (1) (spM2 (isL isS) isI (ro isS) m_l_joined)) (C__law_groups : Cal P w K mg base "_law_groups" ["_law_cols_here"] (1) (spM1 (isL isS) (ro (isL isI)) m_l_groups)) (C_grouped : Cal P w K mg base "grouped" ["plan", "width"] (2) (spM2 (isL isS) isI (rs (isL (isL isI))) m_grouped)) (C__law_same : Cal P w K mg base "_law_same" ["_law_found", "_law_due"] 26 (spSame2 K 26)) (C_unpacked : Cal P w K mg base "unpacked" ["packs", "calls"] (1) (spM2 (isL (isL isI)) (isL isS) (ro isS) m_unpacked)) (C_called : Cal P w K mg base "called" ["plan", "width"] (3) (spM2 (isL isS) isI (ro isS) m_called)) (C__law_parts : Cal P w K mg base "_law_parts" ["_law_one", "_law_other"] (1) (spM2 isS isS (rs (isO isI)) m_l_parts)) (C_parted : Cal P w K mg base "parted" ["plan", "one", "other"] (1) (spM3 (isL isS) isI isI (rs (isO isI)) m_parted)) (h_len : mg "len" = none) (h_list : mg "list" = none) (h_range : mg "range" = none) : FnOk P w K mg base CX0 (27) f fd ["_law_script"] (spM1 (isScr K) (rs isB) (M_law m_l_at m_l_cols m_l_joined m_l_groups m_grouped m_unpacked m_called m_l_parts m_parted)) := by
  have SC : FnScope ["_law_script", "_law_width", "_law_many", "_law_cols_here", "_law_plan", "_law_mine", "_law_calls", "_law_packs", "_law_hand", "_law_lent", "_law_k", "_law_j", "_law_due"] ["_law_script"] (defScope (tp 16)) := ⟨rfl, rfl, rfl, by decide +kernel, rfl, by decide +kernel, by decide +kernel⟩
  refine F.ok SC (fun vs H Q E h => ?_) (fun cdv A outer s H vs Q E hr h => ?_)
  · obtain ⟨_, _, _, _, rfl, _⟩ := h; rfl
  · obtain ⟨W0, l_script, v_l_script, rfl, rfl, h_l_script, Er, hq⟩ := h
    refine ⟨_, (pss_cons (ps_set (i := 1) SC.nd rfl (by first | exact Or.inl rfl | exact Or.inr rfl) (pe_op op_add pe_int (pe_op op_mod (pe_cal C__law_at (hr.mono (by decide)) (by rfl) (pa_cons (pv 0) (pa_cons pe_int pa_nil))) pe_int)))
      (pss_cons (ps_set (i := 2) SC.nd rfl (by first | exact Or.inl rfl | exact Or.inr rfl) (pe_op op_mod (pe_cal C__law_at (hr.mono (by decide)) (by rfl) (pa_cons (pv 0) (pa_cons pe_int pa_nil))) pe_int))
      (pss_cons (ps_if (pt_cmpR op_eq (pe_op op_mod (pe_op op_fdiv (pe_cal C__law_at (hr.mono (by decide)) (by rfl) (pa_cons (pv 0) (pa_cons pe_int pa_nil))) pe_int) pe_int) pe_int (nomark _)) (pss_one (ps_set (i := 2) SC.nd rfl (by first | exact Or.inl rfl | exact Or.inr rfl) pe_int)) pss_nil)
      (pss_cons (ps_set (i := 3) SC.nd rfl (by first | exact Or.inl rfl | exact Or.inr rfl) (pe_cal C__law_cols (hr.mono (by decide)) (by rfl) (pa_cons (pv 0) (pa_cons pe_int (pa_cons (pv 1) (pa_cons (pv 2) pa_nil))))))
      (pss_cons (ps_set (i := 4) SC.nd rfl (by first | exact Or.inl rfl | exact Or.inr rfl) (pe_cal C__law_joined (hr.mono (by decide)) (by rfl) (pa_cons (pv 3) (pa_cons (pv 2) pa_nil))))
      (pss_cons (ps_set (i := 5) SC.nd rfl (by first | exact Or.inl rfl | exact Or.inr rfl) (pe_cal C__law_groups (hr.mono (by decide)) (by rfl) (pa_cons (pv 3) pa_nil)))
      (pss_cons (ps_setComp (i := 6) SC.nd rfl (by first | exact Or.inl rfl | exact Or.inr rfl) (N := ["_law_row_here", "_law_mine"]) (cap := [none, some 5]) (mkCS rfl (by decide +kernel) rfl (by decide +kernel) (by rfl) (by rfl)) rfl (pi_listK (K := K) rfl (pv 4)) (fun _ _ _ _ => (pg_name (i := 0) (show List.Nodup (["_law_row_here", "_law_mine"] : List Str) by decide +kernel) rfl (by first | exact Or.inl rfl | exact Or.inr rfl))) (fun _ _ _ _ => pts_nil) (fun _ _ _ _ => (pe_join1 (K := K) rfl pe_str (pa_cons (pe_comp (N := ["_law_pack", "_law_row_here"]) (cap := [none, some 0]) (mkCS rfl (by decide +kernel) rfl (by decide +kernel) (by rfl) (by rfl)) rfl (pi_listK (K := K) rfl (pv 1)) (fun _ _ _ _ => (pg_name (i := 0) (show List.Nodup (["_law_pack", "_law_row_here"] : List Str) by decide +kernel) rfl (by first | exact Or.inl rfl | exact Or.inr rfl))) (fun _ _ _ _ => pts_nil) (fun _ _ _ _ => (pe_ix ix_str (pv 1) (pe_ix (ix_listK (K := K) rfl) (pv 0) pe_int (fun _ _ => rfl)) (fun _ _ => rfl)))) pa_nil))))
      (pss_cons (ps_set (i := 7) SC.nd rfl (by first | exact Or.inl rfl | exact Or.inr rfl) (pe_cal C_grouped (hr.mono (by decide)) (by rfl) (pa_cons (pv 4) (pa_cons (pv 1) pa_nil))))
      (pss_cons (ps_if (pt_not (pt_val (pe_cal C__law_same (hr.mono (by decide)) (by rfl) (pa_cons (pe_cal C_unpacked (hr.mono (by decide)) (by rfl) (pa_cons (pv 7) (pa_cons (pe_cal C_called (hr.mono (by decide)) (by rfl) (pa_cons (pv 4) (pa_cons (pv 1) pa_nil))) pa_nil))) (pa_cons (pv 4) pa_nil))))) (pss_one (ps_ret pe_bl)) pss_nil)
      (pss_cons (ps_setComp (i := 8) SC.nd rfl (by first | exact Or.inl rfl | exact Or.inr rfl) (N := ["_law_pack"]) (cap := [none]) (mkCS rfl (by decide +kernel) rfl (by decide +kernel) (by rfl) (by rfl)) rfl (pi_listK (K := K) rfl (pv 5)) (fun _ _ _ _ => (pg_name (i := 0) (show List.Nodup (["_law_pack"] : List Str) by decide +kernel) rfl (by first | exact Or.inl rfl | exact Or.inr rfl))) (fun _ _ _ _ => pts_nil) (fun _ _ _ _ => (pe_callTy (call_list_ofK (K := K) rfl) (by rfl) h_list PyProof.Rows.boot_list (pa_cons (pv 0) pa_nil))))
      (pss_cons (ps_set (i := 9) SC.nd rfl (by first | exact Or.inl rfl | exact Or.inr rfl) (pe_callTy (call_list_ofK (K := K) rfl) (by rfl) h_list PyProof.Rows.boot_list (pa_cons (pv 6) pa_nil)))
      (pss_cons (ps_if (PW.pt (pw_or (pt_not (pt_val (pe_cal C__law_same (hr.mono (by decide)) (by rfl) (pa_cons (pe_cal C_unpacked (hr.mono (by decide)) (by rfl) (pa_cons (pv 8) (pa_cons (pv 9) pa_nil))) (pa_cons (pv 4) pa_nil))))) (pw_or (pt_not (pt_val (pe_cal C__law_same (hr.mono (by decide)) (by rfl) (pa_cons (pv 8) (pa_cons (pv 5) pa_nil))))) (pw_or1 (pt_not (pt_val (pe_cal C__law_same (hr.mono (by decide)) (by rfl) (pa_cons (pv 9) (pa_cons (pv 6) pa_nil))))))))) (pss_one (ps_ret pe_bl)) pss_nil)
      (pss_cons (ps_for PassesOwn.never rfl (pi_range1 rfl h_range (pa_cons (pv 1) pa_nil)) (pg_name (i := 10) SC.nd rfl (by first | exact Or.inl rfl | exact Or.inr rfl)) (pss_one (ps_for PassesOwn.never rfl (pi_range1 rfl h_range (pa_cons (pv 1) pa_nil)) (pg_name (i := 11) SC.nd rfl (by first | exact Or.inl rfl | exact Or.inr rfl)) (pss_cons (ps_set (i := 12) SC.nd rfl (by first | exact Or.inl rfl | exact Or.inr rfl) (pe_cal C__law_parts (hr.mono (by decide)) (by rfl) (pa_cons (pe_ix (ix_listK (K := K) rfl) (pv 3) (pv 10) (fun _ _ => rfl)) (pa_cons (pe_ix (ix_listK (K := K) rfl) (pv 3) (pv 11) (fun _ _ => rfl)) pa_nil))))
      (pss_cons (ps_if (pt_not (pt_val (pe_cal C__law_same (hr.mono (by decide)) (by rfl) (pa_cons (pe_cal C_parted (hr.mono (by decide)) (by rfl) (pa_cons (pv 4) (pa_cons (pv 10) (pa_cons (pv 11) pa_nil)))) (pa_cons (pv 12) pa_nil))))) (pss_one (ps_ret pe_bl)) pss_nil)
      (pss_one (ps_if (pt_cmpR op_ne (pe_cmpR op_isN (pv 12) pe_non (nomark _)) (pe_cmpR op_eq (pe_callB (call_lenK (K := K) rfl) (by rfl) h_len PySem.boot_len (pa_cons (pe_comp (N := ["_law_pack", "_law_k", "_law_j"]) (cap := [none, some 10, some 11]) (mkCS rfl (by decide +kernel) rfl (by decide +kernel) (by rfl) (by rfl)) rfl (pi_listK (K := K) rfl (pv 7)) (fun _ _ _ _ => (pg_name (i := 0) (show List.Nodup (["_law_pack", "_law_k", "_law_j"] : List Str) by decide +kernel) rfl (by first | exact Or.inl rfl | exact Or.inr rfl))) (fun _ _ _ _ => (pts_one (PW.pt (pw_and (pt_cmpR (op_in_seqK (K := K) rfl) (pv 1) (pv 0) (by with_unfolding_all rfl)) (pw_and1 (pt_cmpR (op_in_seqK (K := K) rfl) (pv 2) (pv 0) (by with_unfolding_all rfl))))))) (fun _ _ _ _ => (pv 0))) pa_nil)) pe_int (nomark _)) (nomark _)) (pss_one (ps_ret pe_bl)) pss_nil)))))))
      (pss_one (ps_ret pe_bl))))))))))))))), ?_⟩
    have E0 : Ext W0 W0 := .refl W0
    rw [show L2.start ["_law_script", "_law_width", "_law_many", "_law_cols_here", "_law_plan", "_law_mine", "_law_calls", "_law_packs", "_law_hand", "_law_lent", "_law_k", "_law_j", "_law_due"] [v_l_script] = [some v_l_script, none, none, none, none, none, none, none, none, none, none, none, none] from rfl]
    unfold M_law at hq
    refine sv_asg_s (Er := Er) (i := 1) (R := sh isI) (σ' := fun v6 => [some v_l_script, some v6, none, none, none, none, none, none, none, none, none, none, none]) (ev_rI0 ev_int (ev_rIk (fun _ => by decide) (ev_call2 (ev_var (R := sh (isScr K)) h_l_script) ev_int))) ((Res.okE_bind hq).imp fun y5 hq v6 W1 e2 h7 => ?_)
    cases h7
    have E0 := E0.trans e2
    have h_l_script := Mono.mono (R := (isScr K)) e2.g h_l_script
    refine sv_asg_s (Er := Er) (i := 2) (R := sh isI) (σ' := fun v12 => [some v_l_script, some (.int y5), some v12, none, none, none, none, none, none, none, none, none, none]) (ev_rIk (fun _ => by decide) (ev_call2 (ev_var (R := sh (isScr K)) h_l_script) ev_int)) ((Res.okE_bind hq).imp fun y11 hq v12 W8 e9 h13 => ?_)
    cases h13
    have E0 := E0.trans e9
    have h_l_script := Mono.mono (R := (isScr K)) e9.g h_l_script
    refine sv_ifj_s (Er := Er) (Iv := fun (s33 : Int) (W34 : Wd) (g35 : St) => g35 = [some v_l_script, some (.int y5), some (.int s33), none, none, none, none, none, none, none, none, none, none] ∧ Ext W0 W34) (tv_test (ev_eqI (ev_rIk (fun _ => by decide) (ev_rIk (fun _ => ⟨by decide, by decide⟩) (ev_call2 (ev_var (R := sh (isScr K)) h_l_script) ev_int))) ev_int)) (Res.okE_bind hq) ?_ ?_ ?_
    · intro W18 N21 e19 hN22 hq
      have hs23 := e19.g
      have E0 := E0.trans e19
      have h_l_script := Mono.mono (R := (isScr K)) e19.g h_l_script
      refine sv_asg (Er := Er) (i := 2) (R := sh isI) (σ' := fun v26 => [some v_l_script, some (.int y5), some v26, none, none, none, none, none, none, none, none, none, none]) ev_int (fun v26 W24 e25 h27 => ?_)
      cases h27
      have E0 := E0.trans e25
      have hs23 := hs23.trans e25.g
      have h_l_script := Mono.mono (R := (isScr K)) e25.g h_l_script
      exact hN22 (240 : Int) W24 _ hs23 ⟨rfl, E0⟩ hq
    · intro W18 N21 e19 hN22 hq
      have hs28 := e19.g
      have E0 := E0.trans e19
      have h_l_script := Mono.mono (R := (isScr K)) e19.g h_l_script
      try dsimp only [tNext]
      exact hN22 y11 W18 _ hs28 ⟨rfl, E0⟩ hq
    · intro s29 W30 sg31 hS32 iv hq
      obtain ⟨rfl, E0⟩ := iv
      have h_l_script := Mono.mono (R := (isScr K)) hS32 h_l_script
      refine sv_asg_s (Er := Er) (i := 3) (R := sh (isL isS)) (σ' := fun v39 => [some v_l_script, some (.int y5), some (.int s29), some v39, none, none, none, none, none, none, none, none, none]) (EVo.ev (ev_call4o (ev_var (R := sh (isScr K)) h_l_script) ev_int (ev_var (R := sh isI) (a := y5) (v := .int y5) rfl) (ev_var (R := sh isI) (a := s29) (v := .int s29) rfl))) ((Res.okE_bind hq).imp fun y38 hq v39 W36 e37 h40 => ?_)
      have E0 := E0.trans e37
      refine sv_asg_s (Er := Er) (i := 4) (R := sh (isL isS)) (σ' := fun v44 => [some v_l_script, some (.int y5), some (.int s29), some v39, some v44, none, none, none, none, none, none, none, none]) (EVo.ev (ev_call2o (ev_var (R := sh (isL isS)) h40) (ev_var (R := sh isI) (a := s29) (v := .int s29) rfl))) ((Res.okE_bind hq).imp fun y43 hq v44 W41 e42 h45 => ?_)
      have E0 := E0.trans e42
      have h40 := Mono.mono (R := (isL isS)) e42.g h40
      refine sv_asg_s (Er := Er) (i := 5) (R := sh (isL (isL isI))) (σ' := fun v49 => [some v_l_script, some (.int y5), some (.int s29), some v39, some v44, some v49, none, none, none, none, none, none, none]) (EVo.ev (ev_call1o (ev_var (R := sh (isL isS)) h40))) ((Res.okE_bind hq).imp fun y48 hq v49 W46 e47 h50 => ?_)
      have E0 := E0.trans e47
      have h40 := Mono.mono (R := (isL isS)) e47.g h40
      have h45 := Mono.mono (R := (isL isS)) e47.g h45
      refine sv_asg_s (Er := Er) (i := 6) (R := sh (isL isS)) (σ' := fun v75 => [some v_l_script, some (.int y5), some (.int s29), some v39, some v44, some v49, some v75, none, none, none, none, none, none]) (EVo.ev (ev_comp (f := fun (a53 : Tx) => (compR y48 (fun (a61 : List Int) => (ixL a61 (0 : Int)).bind fun y68 => ixS a53 y68)).bind fun y71 => joinE y71) (iv_list (ev_var (R := sh (isL isS)) h45)) fun W55 a53 v54 e56 h57 Q72 k73 => by
        have h58 := MonoW.mono (R := sh (isL (isL isI))) e56 h50
        cases h57
        refine gn ?_
        exact ⟨by simp [Keep, capSt], ((ev_join (ofS _ _ (by decide +kernel)) (EVo.pk (ev_comp (f := fun (a61 : List Int) => (ixL a61 (0 : Int)).bind fun y68 => ixS a53 y68) (iv_list (ev_var (R := sh (isL (isL isI))) h58)) fun W63 a61 v62 e64 h65 Q69 k70 => by
          refine gn ?_
          exact ⟨by simp [Keep, capSt], ((ev_ixS (ev_var (R := sh isS) (a := a53) (v := .str (sOf a53)) rfl) (ev_ixL (EV.pk (ev_var (R := sh (isL isI)) h65)) ev_int)) : EV Er _ [some v62, some (.str (sOf a53))] _ _ _) _ (.refl _) _ k70⟩))) : EV Er _ [some (.str (sOf a53)), some v49] _ _ _) _ (.refl _) _ k73⟩)) ((Res.okE_bind hq).imp fun y74 hq v75 W51 e52 h76 => ?_)
      have E0 := E0.trans e52
      have h40 := Mono.mono (R := (isL isS)) e52.g h40
      have h45 := Mono.mono (R := (isL isS)) e52.g h45
      have h50 := Mono.mono (R := (isL (isL isI))) e52.g h50
      refine sv_asg_s (Er := Er) (i := 7) (R := sh (isL (isL isI))) (σ' := fun v80 => [some v_l_script, some (.int y5), some (.int s29), some v39, some v44, some v49, some v75, some v80, none, none, none, none, none]) (ev_call2 (ev_var (R := sh (isL isS)) h45) (ev_var (R := sh isI) (a := y5) (v := .int y5) rfl)) ((Res.okE_bind hq).imp fun y79 hq v80 W77 e78 h81 => ?_)
      have E0 := E0.trans e78
      have h40 := Mono.mono (R := (isL isS)) e78.g h40
      have h45 := Mono.mono (R := (isL isS)) e78.g h45
      have h50 := Mono.mono (R := (isL (isL isI))) e78.g h50
      have h76 := Mono.mono (R := (isL isS)) e78.g h76
      refine sv_if_s (Er := Er) (tv_not (tv_b (ev_same2 (by decide) (EVo.ev (ev_call2o (ev_var (R := sh (isL (isL isI))) h81) (EVo.ev (ev_call2o (ev_var (R := sh (isL isS)) h45) (ev_var (R := sh isI) (a := y5) (v := .int y5) rfl))))) (ev_var (R := sh (isL isS)) h45)))) ((Res.okE_bind hq).imp fun y85 hq W86 e87 => ?_)
      have E0 := E0.trans e87
      have h40 := Mono.mono (R := (isL isS)) e87.g h40
      have h45 := Mono.mono (R := (isL isS)) e87.g h45
      have h50 := Mono.mono (R := (isL (isL isI))) e87.g h50
      have h76 := Mono.mono (R := (isL isS)) e87.g h76
      have h81 := Mono.mono (R := (isL (isL isI))) e87.g h81
      by_cases hb226 : y85 = true
      · rw [if_pos hb226] at hq ⊢
        exact sv_ret (Er := Er) (R := sh isB) ev_bl (fun v88 W89 e90 h91 => hq v88 W89 (E0.trans e90) h91)
      · rw [if_neg hb226] at hq ⊢
        try dsimp only [tNext]
        refine sv_asg_s (Er := Er) (i := 8) (R := sh (isL (isL isI))) (σ' := fun v104 => [some v_l_script, some (.int y5), some (.int s29), some v39, some v44, some v49, some v75, some v80, some v104, none, none, none, none]) (EVo.ev (ev_comp (f := fun (a94 : List Int) => Res.ok a94) (iv_list (ev_var (R := sh (isL (isL isI))) h50)) fun W96 a94 v95 e97 h98 Q101 k102 => by
          refine gn ?_
          exact ⟨by simp [Keep, capSt], ((EVo.ev (ev_listL (EV.pk (ev_var (R := sh (isL isI)) h98)))) : EV Er _ [some v95] _ _ _) _ (.refl _) _ k102⟩)) ((Res.okE_bind hq).imp fun y103 hq v104 W92 e93 h105 => ?_)
        have E0 := E0.trans e93
        have h40 := Mono.mono (R := (isL isS)) e93.g h40
        have h45 := Mono.mono (R := (isL isS)) e93.g h45
        have h50 := Mono.mono (R := (isL (isL isI))) e93.g h50
        have h76 := Mono.mono (R := (isL isS)) e93.g h76
        have h81 := Mono.mono (R := (isL (isL isI))) e93.g h81
        refine sv_asg_s (Er := Er) (i := 9) (R := sh (isL isS)) (σ' := fun v108 => [some v_l_script, some (.int y5), some (.int s29), some v39, some v44, some v49, some v75, some v80, some v104, some v108, none, none, none]) (EVo.ev (ev_listL (EV.pk (ev_var (R := sh (isL isS)) h76)))) (fun v108 W106 e107 h109 => ?_)
        have E0 := E0.trans e107
        have h40 := Mono.mono (R := (isL isS)) e107.g h40
        have h45 := Mono.mono (R := (isL isS)) e107.g h45
        have h50 := Mono.mono (R := (isL (isL isI))) e107.g h50
        have h76 := Mono.mono (R := (isL isS)) e107.g h76
        have h81 := Mono.mono (R := (isL (isL isI))) e107.g h81
        have h105 := Mono.mono (R := (isL (isL isI))) e107.g h105
        refine sv_if_s (Er := Er) (tv_or (tv_not (tv_b (ev_same2 (by decide) (EVo.ev (ev_call2o (ev_var (R := sh (isL (isL isI))) h105) (ev_var (R := sh (isL isS)) h109))) (ev_var (R := sh (isL isS)) h45)))) (tv_or (tv_not (tv_b (ev_same2 (by decide) (ev_var (R := sh (isL (isL isI))) h105) (ev_var (R := sh (isL (isL isI))) h50)))) (tv_not (tv_b (ev_same2 (by decide) (ev_var (R := sh (isL isS)) h109) (ev_var (R := sh (isL isS)) h76)))))) ((Res.okE_bind hq).imp fun y116 hq W117 e118 => ?_)
        have E0 := E0.trans e118
        have h40 := Mono.mono (R := (isL isS)) e118.g h40
        have h45 := Mono.mono (R := (isL isS)) e118.g h45
        have h50 := Mono.mono (R := (isL (isL isI))) e118.g h50
        have h76 := Mono.mono (R := (isL isS)) e118.g h76
        have h81 := Mono.mono (R := (isL (isL isI))) e118.g h81
        have h105 := Mono.mono (R := (isL (isL isI))) e118.g h105
        have h109 := Mono.mono (R := (isL isS)) e118.g h109
        by_cases hb226 : y116 = true
        · rw [if_pos hb226] at hq ⊢
          exact sv_ret (Er := Er) (R := sh isB) ev_bl (fun v119 W120 e121 h122 => hq v119 W120 (E0.trans e121) h122)
        · rw [if_neg hb226] at hq ⊢
          try dsimp only [tNext]
          refine sv_forF_s (Er := Er) (f := (M_law_b2 m_l_parts m_parted y5 y38 y43 y79)) (s0 := ()) (Iv := fun (s125 : Unit) (W126 : Wd) (g127 : St) => ∃ (d128 : Option V) (d129 : Option V) (d130 : Option V), g127 = [some v_l_script, some (.int y5), some (.int s29), some v39, some v44, some v49, some v75, some v80, some v104, some v108, d130, d128, d129] ∧ Ext W0 W126) (iv_range (ev_var (R := sh isI) (a := y5) (v := .int y5) rfl)) (Res.okE_bind hq) ?_ ?_ ?_
          · intro W142 e143
            have E0 := E0.trans e143
            have h40 := Mono.mono (R := (isL isS)) e143.g h40
            have h45 := Mono.mono (R := (isL isS)) e143.g h45
            have h81 := Mono.mono (R := (isL (isL isI))) e143.g h81
            exact ⟨_, _, _, rfl, E0⟩
          · intro Wb131 W132 W133 a123 v134 s124 sg135 P136 hW137 hB138 iv e139 h140 hrt141 hq
            obtain ⟨d128, d129, d130, rfl, E0⟩ := iv
            have h40 := Mono.mono (R := (isL isS)) hW137 h40
            have h45 := Mono.mono (R := (isL isS)) hW137 h45
            have h81 := Mono.mono (R := (isL (isL isI))) hW137 h81
            have E0 := E0.trans e139
            have hB138 := hB138.trans e139.g
            have h40 := Mono.mono (R := (isL isS)) e139.g h40
            have h45 := Mono.mono (R := (isL isS)) e139.g h45
            have h81 := Mono.mono (R := (isL (isL isI))) e139.g h81
            cases h140
            refine gn (σ' := [some v_l_script, some (.int y5), some (.int s29), some v39, some v44, some v49, some v75, some v80, some v104, some v108, some (.int a123), d128, d129]) ?_
            unfold M_law_b2 at hq
            refine sv_forF (Er := Er) (f := (M_law_b1 m_l_parts m_parted y38 y43 y79 a123)) (s0 := ()) (Iv := fun (s148 : Unit) (W149 : Wd) (g150 : St) => ∃ (d151 : Option V) (d152 : Option V), g150 = [some v_l_script, some (.int y5), some (.int s29), some v39, some v44, some v49, some v75, some v80, some v104, some v108, some (.int a123), d152, d151] ∧ Ext W0 W149) (iv_range (ev_var (R := sh isI) (a := y5) (v := .int y5) rfl)) (Res.okE_bind hq) ?_ ?_ ?_
            · intro W164 e165
              have E0 := E0.trans e165
              have hB138 := hB138.trans e165.g
              have h40 := Mono.mono (R := (isL isS)) e165.g h40
              have h45 := Mono.mono (R := (isL isS)) e165.g h45
              have h81 := Mono.mono (R := (isL (isL isI))) e165.g h81
              exact ⟨_, _, rfl, E0⟩
            · intro Wb153 W154 W155 a146 v156 s147 sg157 P158 hW159 hB160 iv e161 h162 hrt163 hq
              obtain ⟨d151, d152, rfl, E0⟩ := iv
              have hB138 := hB138.trans hW159
              have h40 := Mono.mono (R := (isL isS)) hW159 h40
              have h45 := Mono.mono (R := (isL isS)) hW159 h45
              have h81 := Mono.mono (R := (isL (isL isI))) hW159 h81
              have E0 := E0.trans e161
              have hB138 := hB138.trans e161.g
              have hB160 := hB160.trans e161.g
              have h40 := Mono.mono (R := (isL isS)) e161.g h40
              have h45 := Mono.mono (R := (isL isS)) e161.g h45
              have h81 := Mono.mono (R := (isL (isL isI))) e161.g h81
              cases h162
              refine gn (σ' := [some v_l_script, some (.int y5), some (.int s29), some v39, some v44, some v49, some v75, some v80, some v104, some v108, some (.int a123), some (.int a146), d151]) ?_
              unfold M_law_b1 at hq
              refine sv_asg_s (Er := Er) (i := 12) (R := sh (isO isI)) (σ' := fun v173 => [some v_l_script, some (.int y5), some (.int s29), some v39, some v44, some v49, some v75, some v80, some v104, some v108, some (.int a123), some (.int a146), some v173]) (ev_call2 (ev_ixL (EV.pk (ev_var (R := sh (isL isS)) h40)) (ev_var (R := sh isI) (a := a123) (v := .int a123) rfl)) (ev_ixL (EV.pk (ev_var (R := sh (isL isS)) h40)) (ev_var (R := sh isI) (a := a146) (v := .int a146) rfl))) ((Res.okE_bind hq).imp fun y172 hq v173 W168 e169 h174 => ?_)
              have E0 := E0.trans e169
              have hB138 := hB138.trans e169.g
              have hB160 := hB160.trans e169.g
              have h40 := Mono.mono (R := (isL isS)) e169.g h40
              have h45 := Mono.mono (R := (isL isS)) e169.g h45
              have h81 := Mono.mono (R := (isL (isL isI))) e169.g h81
              refine sv_if_s (Er := Er) (tv_not (tv_b (ev_same2 (by decide) (ev_call3 (ev_var (R := sh (isL isS)) h45) (ev_var (R := sh isI) (a := a123) (v := .int a123) rfl) (ev_var (R := sh isI) (a := a146) (v := .int a146) rfl)) (ev_var (R := sh (isO isI)) h174)))) ((Res.okE_bind hq).imp fun y177 hq W178 e179 => ?_)
              have E0 := E0.trans e179
              have hB138 := hB138.trans e179.g
              have hB160 := hB160.trans e179.g
              have h40 := Mono.mono (R := (isL isS)) e179.g h40
              have h45 := Mono.mono (R := (isL isS)) e179.g h45
              have h81 := Mono.mono (R := (isL (isL isI))) e179.g h81
              have h174 := Mono.mono (R := (isO isI)) e179.g h174
              by_cases hb212 : y177 = true
              · rw [if_pos hb212] at hq ⊢
                exact sv_ret (Er := Er) (R := sh isB) ev_bl (fun v180 W181 e182 h183 => (hrt141 _ (hrt163 _ hq)) v180 W181 (E0.trans e182) h183)
              · rw [if_neg hb212] at hq ⊢
                try dsimp only [tNext]
                refine sv_if (Er := Er) (tv_test (ev_neB (ev_isN (ev_var (R := sh (isO isI)) h174)) (ev_eqI (ev_lenL (EVo.pk (ev_compF (f := fun (a184 : List Int) => (if a184.contains a123 then Res.ok (a184.contains a146) else Res.ok false).bind fun y194 => if y194 then Res.ok (some a184) else Res.ok none) (iv_list (ev_var (R := sh (isL (isL isI))) h81)) fun W186 a184 v185 e187 h188 Q191 k192 => by
                  refine gn ?_
                  refine ⟨by simp [Keep, capSt], ((tv_and (tv_test (ev_inLI (ev_var (R := sh isI) (a := a123) (v := .int a123) rfl) (EV.pk (ev_var (R := sh (isL isI)) h188)))) (tv_test (ev_inLI (ev_var (R := sh isI) (a := a146) (v := .int a146) rfl) (EV.pk (ev_var (R := sh (isL isI)) h188))))) : TV Er _ [some v185, some (.int a123), some (.int a146)] _ _) _ (.refl _) _ (Res.OkE.imp (P := fun b193 => (if b193 = true then Res.ok (some a184) else Res.ok none : Res (Option (List Int))).OkE Er _) (Res.okE_bind k192) fun b193 k197 W195 e196 => ?_)⟩
                  cases b193 with
                  | false => exact k197 none _ e196 trivial
                  | true =>
                    rw [if_pos rfl]
                    refine EV.go (Er := Er) (σ := [some v185, some (.int a123), some (.int a146)]) (W1 := W195) e196 (ev_var (R := sh (isL isI)) h188) ?_
                    exact fun u200 W198 e199 h201 => k197 (some u200) _ (e196.trans e199) h201))) ev_int))) ((Res.okE_bind hq).imp fun y206 hq W207 e208 => ?_)
                have E0 := E0.trans e208
                have hB138 := hB138.trans e208.g
                have hB160 := hB160.trans e208.g
                have h40 := Mono.mono (R := (isL isS)) e208.g h40
                have h45 := Mono.mono (R := (isL isS)) e208.g h45
                have h81 := Mono.mono (R := (isL (isL isI))) e208.g h81
                have h174 := Mono.mono (R := (isO isI)) e208.g h174
                by_cases hb212 : y206 = true
                · rw [if_pos hb212] at hq ⊢
                  exact sv_ret (Er := Er) (R := sh isB) ev_bl (fun v209 W210 e211 h212 => (hrt141 _ (hrt163 _ hq)) v209 W210 (E0.trans e211) h212)
                · rw [if_neg hb212] at hq ⊢
                  try dsimp only [tNext]
                  try dsimp only
                  refine nxF_of (W := W207) () hB160 ?_ hq
                  exact ⟨_, _, rfl, E0⟩
            · intro s214 W215 sg216 hS217 iv hq
              obtain ⟨d151, d152, rfl, E0⟩ := iv
              have hB138 := hB138.trans hS217
              have h40 := Mono.mono (R := (isL isS)) hS217 h40
              have h45 := Mono.mono (R := (isL isS)) hS217 h45
              have h81 := Mono.mono (R := (isL (isL isI))) hS217 h81
              try dsimp only
              refine nxF_of (W := W215) () hB138 ?_ hq
              exact ⟨_, _, _, rfl, E0⟩
          · intro s219 W220 sg221 hS222 iv hq
            obtain ⟨d128, d129, d130, rfl, E0⟩ := iv
            exact sv_ret (Er := Er) (R := sh isB) ev_bl (fun v223 W224 e225 h226 => hq v223 W224 (E0.trans e225) h226)
end
end Wb
namespace Wb
open PySem L2
section
variable {P : Program} {w : World} {K : PySem.W.Frag} {mg : Str → Option Value} {base : Heap}
theorem ok_none {f : Addr} {fd : FuncData} {ps : List Str} {k : Nat} : FnOk P w K mg base CX0 k f fd ps (spSame2 K 0) := ⟨fun _ _ _ _ h => h.elim, fun _ _ _ _ _ _ _ _ _ _ _ _ _ h => h.elim⟩
theorem kit {K : PySem.W.Frag} (a b : String) (r : Bool) (h : PySem.W.kitOne [] (.type a) (.type b) = some r) : PySem.W.kitOne K (.type a) (.type b) = some r := by first | exact h | (rw [← h]; rfl)
theorem skip1 {c : TT} {t rest : TS} {D : Ends} {σ : St} {H : Hp} (h : ∀ Q : Bool → Hp → Prop, Q false H → c σ H Q) (k : rest D σ H) : tSeq (tIfS c t tNext) rest D σ H := h _ k
theorem take1 {c : TT} {t rest : TS} {D : Ends} {σ : St} {H : Hp} (h : ∀ Q : Bool → Hp → Prop, Q true H → c σ H Q) (k : t { D with nx := rest D } σ H) : tSeq (tIfS c t tNext) rest D σ H := h _ k
theorem ok_same1 {f : Addr} {fd : FuncData} (F : Fun K "_law_same" "_law_same" (tp 14) f fd) (h_len : mg "len" = none) (h_isinstance : mg "isinstance" = none) (h_bool : mg "bool" = none) (h_int : mg "int" = none) (h_str : mg "str" = none) (h_list : mg "list" = none) (h_tuple : mg "tuple" = none) (h_zip : mg "zip" = none) {n : Nat}
    (C__law_same : Cal P w K mg base "_law_same" ["_law_found", "_law_due"] n (spSame2 K n)) : FnOk P w K mg base CX0 (n + 1) f fd ["_law_found", "_law_due"] (spSame2 K (n + 1)) := by
  have SC : FnScope ["_law_found", "_law_due", "_law_one", "_law_other"] ["_law_found", "_law_due"] (defScope (tp 14)) := ⟨rfl, rfl, rfl, by decide +kernel, rfl, by decide +kernel, by decide +kernel⟩
  refine F.ok SC (fun vs H Q E h => ?_) (fun cdv A outer s H vs Q E hr h => ?_)
  · obtain ⟨v, u, rfl, _⟩ := h; rfl
  · obtain ⟨v, u, rfl, h⟩ := h
    have hr : Room n _ := hr
    refine ⟨_, (pss_cons (ps_if (PW.pt (pw_or (pt_cmpR (op_isN.or op_is_bl) (pv 1) pe_non (nomark _)) (pw_or (pt_cmpR (op_isN.or op_is_bl) (pv 1) pe_bl (nomark _)) (pw_or1 (pt_cmpR (op_isN.or op_is_bl) (pv 1) pe_bl (nomark _)))))) (pss_one (ps_ret (pe_and (pe_cmpR op_eq (pe_callB (call_isinstK (K := K) rfl) (by rfl) h_isinstance PyProof.Rows.boot_isinstance (pa_cons (pv 0) (pa_cons (pe_bltn (v := .ty "bool") (by rfl) h_bool PyProof.Rows.boot_bool rfl) pa_nil))) (pe_callB (call_isinstK (K := K) rfl) (by rfl) h_isinstance PyProof.Rows.boot_isinstance (pa_cons (pv 1) (pa_cons (pe_bltn (v := .ty "bool") (by rfl) h_bool PyProof.Rows.boot_bool rfl) pa_nil))) (nomark _)) (pe_one (pe_cmpR op_eq (pv 0) (pv 1) (nomark _)))))) pss_nil)
      (pss_cons (ps_if (pt_val (pe_callB (call_isinstK (K := K) rfl) (by rfl) h_isinstance PyProof.Rows.boot_isinstance (pa_cons (pv 1) (pa_cons (pe_bltn (v := .ty "int") (by rfl) h_int PyProof.Rows.boot_int rfl) pa_nil)))) (pss_one (ps_ret (pe_and (pe_callB (call_isinstK (K := K) rfl) (by rfl) h_isinstance PyProof.Rows.boot_isinstance (pa_cons (pv 0) (pa_cons (pe_bltn (v := .ty "int") (by rfl) h_int PyProof.Rows.boot_int rfl) pa_nil))) (pe_and (pe_not (pe_callB (call_isinstK (K := K) rfl) (by rfl) h_isinstance PyProof.Rows.boot_isinstance (pa_cons (pv 0) (pa_cons (pe_bltn (v := .ty "bool") (by rfl) h_bool PyProof.Rows.boot_bool rfl) pa_nil)))) (pe_one (pe_cmpR op_eq (pv 0) (pv 1) (nomark _))))))) pss_nil)
      (pss_cons (ps_if (pt_val (pe_callB (call_isinstK (K := K) rfl) (by rfl) h_isinstance PyProof.Rows.boot_isinstance (pa_cons (pv 1) (pa_cons (pe_bltn (v := .ty "str") (by rfl) h_str PyProof.Rows.boot_str rfl) pa_nil)))) (pss_one (ps_ret (pe_and (pe_callB (call_isinstK (K := K) rfl) (by rfl) h_isinstance PyProof.Rows.boot_isinstance (pa_cons (pv 0) (pa_cons (pe_bltn (v := .ty "str") (by rfl) h_str PyProof.Rows.boot_str rfl) pa_nil))) (pe_one (pe_cmpR op_eq (pv 0) (pv 1) (nomark _)))))) pss_nil)
      (pss_cons (ps_if (PW.pt (pw_and (pt_val (pe_callB (call_isinstK (K := K) rfl) (by rfl) h_isinstance PyProof.Rows.boot_isinstance (pa_cons (pv 1) (pa_cons (pe_bltn (v := .ty "list") (by rfl) h_list PyProof.Rows.boot_list rfl) pa_nil)))) (pw_and1 (pt_not (pt_val (pe_callB (call_isinstK (K := K) rfl) (by rfl) h_isinstance PyProof.Rows.boot_isinstance (pa_cons (pv 0) (pa_cons (pe_bltn (v := .ty "list") (by rfl) h_list PyProof.Rows.boot_list rfl) pa_nil)))))))) (pss_one (ps_ret pe_bl)) pss_nil)
      (pss_cons (ps_if (PW.pt (pw_and (pt_val (pe_callB (call_isinstK (K := K) rfl) (by rfl) h_isinstance PyProof.Rows.boot_isinstance (pa_cons (pv 1) (pa_cons (pe_bltn (v := .ty "tuple") (by rfl) h_tuple PyProof.Rows.boot_tuple rfl) pa_nil)))) (pw_and1 (pt_not (pt_val (pe_callB (call_isinstK (K := K) rfl) (by rfl) h_isinstance PyProof.Rows.boot_isinstance (pa_cons (pv 0) (pa_cons (pe_bltn (v := .ty "tuple") (by rfl) h_tuple PyProof.Rows.boot_tuple rfl) pa_nil)))))))) (pss_one (ps_ret pe_bl)) pss_nil)
      (pss_cons (ps_if (pt_cmpR op_ne (pe_callB (call_lenK (K := K) rfl) (by rfl) h_len PySem.boot_len (pa_cons (pv 0) pa_nil)) (pe_callB (call_lenK (K := K) rfl) (by rfl) h_len PySem.boot_len (pa_cons (pv 1) pa_nil)) (nomark _)) (pss_one (ps_ret pe_bl)) pss_nil)
      (pss_cons (ps_for PassesOwn.never rfl (pi_zipK (K := K) rfl rfl h_zip (pa_cons (pv 0) (pa_cons (pv 1) pa_nil))) (pg_tupK (K := K) (n := 2) rfl rfl (pgs_cons (pg_name (i := 2) SC.nd rfl (by first | exact Or.inl rfl | exact Or.inr rfl)) (pgs_cons (pg_name (i := 3) SC.nd rfl (by first | exact Or.inl rfl | exact Or.inr rfl)) pgs_nil))) (pss_one (ps_if (pt_not (pt_val (pe_cal C__law_same hr (by rfl) (pa_cons (pv 2) (pa_cons (pv 3) pa_nil))))) (pss_one (ps_ret pe_bl)) pss_nil)))
      (pss_one (ps_ret pe_bl))))))))), ?_⟩
    rcases h with ⟨he, q⟩ | ⟨x, y, rfl, rfl, q⟩
    rotate_left
    · refine skip1 (fun Q q => ?_) (skip1 (fun Q q => ?_) (take1 (fun Q q => ?_) ?_))
      · simp only [rSlL, tTest, tOp, tVar, tC, tCB, tCons, tNil, tRet, tNext, tAsg, gName, gTup, gCons, gNil, tB, rI0, rI, tLst, tCall, tDrop, tAnd, tOr, tNot, tAndV, tNotV, tSl, tPart, tNoPart, tBM, tDNewK, rIn, rEq, rNe, scal, rIxL, rIxS, rAppend, L2.start, List.map_cons, List.map_nil, List.cons_append, List.nil_append, List.append_nil, List.length_cons, List.length_nil, List.replicate, List.set_cons_zero, List.set_cons_succ, List.getElem?_cons_zero, List.getElem?_cons_succ, Option.some.injEq, exists_eq_left', exists_eq_left, exists_and_left, exists_eq', exists_const, V.int.injEq, V.bl.injEq, V.str.injEq, V.ref.injEq, V.ty.injEq, List.cons.injEq, and_true, true_and, reduceCtorEq, false_and, and_false, exists_false, or_false, false_or, decide_eq_true_eq, Bool.not_eq_true', decide_eq_false_iff_not, if_true, if_false, Bool.false_eq_true, ite_true, ite_false, Bool.not_true, Bool.not_false, Nat.reduceAdd, Nat.reduceSub, and_assoc]; exact q
      · simp only [rSlL, tTest, tOp, tVar, tC, tCB, tCons, tNil, tRet, tNext, tAsg, gName, gTup, gCons, gNil, tB, rI0, rI, tLst, tCall, tDrop, tAnd, tOr, tNot, tAndV, tNotV, tSl, tPart, tNoPart, tBM, tDNewK, rIn, rEq, rNe, scal, rIxL, rIxS, rAppend, L2.start, List.map_cons, List.map_nil, List.cons_append, List.nil_append, List.append_nil, List.length_cons, List.length_nil, List.replicate, List.set_cons_zero, List.set_cons_succ, List.getElem?_cons_zero, List.getElem?_cons_succ, Option.some.injEq, exists_eq_left', exists_eq_left, exists_and_left, exists_eq', exists_const, V.int.injEq, V.bl.injEq, V.str.injEq, V.ref.injEq, V.ty.injEq, List.cons.injEq, and_true, true_and, reduceCtorEq, false_and, and_false, exists_false, or_false, false_or, decide_eq_true_eq, Bool.not_eq_true', decide_eq_false_iff_not, if_true, if_false, Bool.false_eq_true, ite_true, ite_false, Bool.not_true, Bool.not_false, Nat.reduceAdd, Nat.reduceSub, and_assoc]; exact ⟨_, .str _, _, kit "str" "int" false rfl, q⟩
      · simp only [rSlL, tTest, tOp, tVar, tC, tCB, tCons, tNil, tRet, tNext, tAsg, gName, gTup, gCons, gNil, tB, rI0, rI, tLst, tCall, tDrop, tAnd, tOr, tNot, tAndV, tNotV, tSl, tPart, tNoPart, tBM, tDNewK, rIn, rEq, rNe, scal, rIxL, rIxS, rAppend, L2.start, List.map_cons, List.map_nil, List.cons_append, List.nil_append, List.append_nil, List.length_cons, List.length_nil, List.replicate, List.set_cons_zero, List.set_cons_succ, List.getElem?_cons_zero, List.getElem?_cons_succ, Option.some.injEq, exists_eq_left', exists_eq_left, exists_and_left, exists_eq', exists_const, V.int.injEq, V.bl.injEq, V.str.injEq, V.ref.injEq, V.ty.injEq, List.cons.injEq, and_true, true_and, reduceCtorEq, false_and, and_false, exists_false, or_false, false_or, decide_eq_true_eq, Bool.not_eq_true', decide_eq_false_iff_not, if_true, if_false, Bool.false_eq_true, ite_true, ite_false, Bool.not_true, Bool.not_false, Nat.reduceAdd, Nat.reduceSub, and_assoc]; exact ⟨_, .str _, _, kit "str" "str" true rfl, q⟩
      · simp only [rSlL, tTest, tOp, tVar, tC, tCB, tCons, tNil, tRet, tNext, tAsg, gName, gTup, gCons, gNil, tB, rI0, rI, tLst, tCall, tDrop, tAnd, tOr, tNot, tAndV, tNotV, tSl, tPart, tNoPart, tBM, tDNewK, rIn, rEq, rNe, scal, rIxL, rIxS, rAppend, L2.start, List.map_cons, List.map_nil, List.cons_append, List.nil_append, List.append_nil, List.length_cons, List.length_nil, List.replicate, List.set_cons_zero, List.set_cons_succ, List.getElem?_cons_zero, List.getElem?_cons_succ, Option.some.injEq, exists_eq_left', exists_eq_left, exists_and_left, exists_eq', exists_const, V.int.injEq, V.bl.injEq, V.str.injEq, V.ref.injEq, V.ty.injEq, List.cons.injEq, and_true, true_and, reduceCtorEq, false_and, and_false, exists_false, or_false, false_or, decide_eq_true_eq, Bool.not_eq_true', decide_eq_false_iff_not, if_true, if_false, Bool.false_eq_true, ite_true, ite_false, Bool.not_true, Bool.not_false, Nat.reduceAdd, Nat.reduceSub, and_assoc]
        refine ⟨_, .str _, _, kit "str" "str" true rfl, ?_⟩
        simp only [rSlL, tTest, tOp, tVar, tC, tCB, tCons, tNil, tRet, tNext, tAsg, gName, gTup, gCons, gNil, tB, rI0, rI, tLst, tCall, tDrop, tAnd, tOr, tNot, tAndV, tNotV, tSl, tPart, tNoPart, tBM, tDNewK, rIn, rEq, rNe, scal, rIxL, rIxS, rAppend, L2.start, List.map_cons, List.map_nil, List.cons_append, List.nil_append, List.append_nil, List.length_cons, List.length_nil, List.replicate, List.set_cons_zero, List.set_cons_succ, List.getElem?_cons_zero, List.getElem?_cons_succ, Option.some.injEq, exists_eq_left', exists_eq_left, exists_and_left, exists_eq', exists_const, V.int.injEq, V.bl.injEq, V.str.injEq, V.ref.injEq, V.ty.injEq, List.cons.injEq, and_true, true_and, reduceCtorEq, false_and, and_false, exists_false, or_false, false_or, decide_eq_true_eq, Bool.not_eq_true', decide_eq_false_iff_not, if_true, if_false, Bool.false_eq_true, ite_true, ite_false, Bool.not_true, Bool.not_false, Nat.reduceAdd, Nat.reduceSub, and_assoc]
        simpa using q
    have fl : ∀ v, L2.flat v = true → (∀ H', Same H H' → Q (.bl true) H') → (v = .non ∨ (∃ b, v = .bl b) ∨ (∃ i, v = .int i) ∨ ∃ x, v = .str x) := fun v hv _ => by
      cases v with
      | non => exact .inl rfl
      | bl b => exact .inr (.inl ⟨b, rfl⟩)
      | int b => exact .inr (.inr (.inl ⟨b, rfl⟩))
      | str b => exact .inr (.inr (.inr ⟨b, rfl⟩))
      | _ => cases hv
    have he' : (v = u ∧ L2.flat v = true) ∨ ∃ m p q xs ys, n = m + 1 ∧ v = .ref p ∧ u = .ref q ∧ ((H p = some (.lst xs) ∧ H q = some (.lst ys)) ∨ (SqT K H p xs ∧ SqT K H q ys)) ∧ xs.length = ys.length ∧ ∀ (i : Nat) (x y : V), xs[i]? = some x → ys[i]? = some y → EqK K H m x y := by
      cases n with
      | zero => exact .inl he
      | succ m => rcases he with z | ⟨p, q, xs, ys, z⟩; exact .inl z; exact .inr ⟨m, p, q, xs, ys, rfl, z⟩
    rcases he' with ⟨rfl, hf⟩ | ⟨m, p, q', xs, ys, hnm, rfl, rfl, hk, hl, hi⟩
    · rcases fl v hf q with rfl | ⟨b, rfl⟩ | ⟨i, rfl⟩ | ⟨x, rfl⟩
      · refine take1 (fun Q q => ?_) ?_
        · simp only [rSlL, tTest, tOp, tVar, tC, tCB, tCons, tNil, tRet, tNext, tAsg, gName, gTup, gCons, gNil, tB, rI0, rI, tLst, tCall, tDrop, tAnd, tOr, tNot, tAndV, tNotV, tSl, tPart, tNoPart, tBM, tDNewK, rIn, rEq, rNe, scal, rIxL, rIxS, rAppend, L2.start, List.map_cons, List.map_nil, List.cons_append, List.nil_append, List.append_nil, List.length_cons, List.length_nil, List.replicate, List.set_cons_zero, List.set_cons_succ, List.getElem?_cons_zero, List.getElem?_cons_succ, Option.some.injEq, exists_eq_left', exists_eq_left, exists_and_left, exists_eq', exists_const, V.int.injEq, V.bl.injEq, V.str.injEq, V.ref.injEq, V.ty.injEq, List.cons.injEq, and_true, true_and, reduceCtorEq, false_and, and_false, exists_false, or_false, false_or, decide_eq_true_eq, Bool.not_eq_true', decide_eq_false_iff_not, if_true, if_false, Bool.false_eq_true, ite_true, ite_false, Bool.not_true, Bool.not_false, Nat.reduceAdd, Nat.reduceSub, and_assoc]; exact q
        · simp only [rSlL, tTest, tOp, tVar, tC, tCB, tCons, tNil, tRet, tNext, tAsg, gName, gTup, gCons, gNil, tB, rI0, rI, tLst, tCall, tDrop, tAnd, tOr, tNot, tAndV, tNotV, tSl, tPart, tNoPart, tBM, tDNewK, rIn, rEq, rNe, scal, rIxL, rIxS, rAppend, L2.start, List.map_cons, List.map_nil, List.cons_append, List.nil_append, List.append_nil, List.length_cons, List.length_nil, List.replicate, List.set_cons_zero, List.set_cons_succ, List.getElem?_cons_zero, List.getElem?_cons_succ, Option.some.injEq, exists_eq_left', exists_eq_left, exists_and_left, exists_eq', exists_const, V.int.injEq, V.bl.injEq, V.str.injEq, V.ref.injEq, V.ty.injEq, List.cons.injEq, and_true, true_and, reduceCtorEq, false_and, and_false, exists_false, or_false, false_or, decide_eq_true_eq, Bool.not_eq_true', decide_eq_false_iff_not, if_true, if_false, Bool.false_eq_true, ite_true, ite_false, Bool.not_true, Bool.not_false, Nat.reduceAdd, Nat.reduceSub, and_assoc]
          refine ⟨_, .non, _, kit "NoneType" "bool" false rfl, _, .non, _, kit "NoneType" "bool" false rfl, ?_⟩
          simp only [rSlL, tTest, tOp, tVar, tC, tCB, tCons, tNil, tRet, tNext, tAsg, gName, gTup, gCons, gNil, tB, rI0, rI, tLst, tCall, tDrop, tAnd, tOr, tNot, tAndV, tNotV, tSl, tPart, tNoPart, tBM, tDNewK, rIn, rEq, rNe, scal, rIxL, rIxS, rAppend, L2.start, List.map_cons, List.map_nil, List.cons_append, List.nil_append, List.append_nil, List.length_cons, List.length_nil, List.replicate, List.set_cons_zero, List.set_cons_succ, List.getElem?_cons_zero, List.getElem?_cons_succ, Option.some.injEq, exists_eq_left', exists_eq_left, exists_and_left, exists_eq', exists_const, V.int.injEq, V.bl.injEq, V.str.injEq, V.ref.injEq, V.ty.injEq, List.cons.injEq, and_true, true_and, reduceCtorEq, false_and, and_false, exists_false, or_false, false_or, decide_eq_true_eq, Bool.not_eq_true', decide_eq_false_iff_not, if_true, if_false, Bool.false_eq_true, ite_true, ite_false, Bool.not_true, Bool.not_false, Nat.reduceAdd, Nat.reduceSub, and_assoc]
          exact q H (.refl H)
      · refine take1 (fun Q q => ?_) ?_
        · cases b <;> simp only [rSlL, tTest, tOp, tVar, tC, tCB, tCons, tNil, tRet, tNext, tAsg, gName, gTup, gCons, gNil, tB, rI0, rI, tLst, tCall, tDrop, tAnd, tOr, tNot, tAndV, tNotV, tSl, tPart, tNoPart, tBM, tDNewK, rIn, rEq, rNe, scal, rIxL, rIxS, rAppend, L2.start, List.map_cons, List.map_nil, List.cons_append, List.nil_append, List.append_nil, List.length_cons, List.length_nil, List.replicate, List.set_cons_zero, List.set_cons_succ, List.getElem?_cons_zero, List.getElem?_cons_succ, Option.some.injEq, exists_eq_left', exists_eq_left, exists_and_left, exists_eq', exists_const, V.int.injEq, V.bl.injEq, V.str.injEq, V.ref.injEq, V.ty.injEq, List.cons.injEq, and_true, true_and, reduceCtorEq, false_and, and_false, exists_false, or_false, false_or, decide_eq_true_eq, Bool.not_eq_true', decide_eq_false_iff_not, if_true, if_false, Bool.false_eq_true, ite_true, ite_false, Bool.not_true, Bool.not_false, Nat.reduceAdd, Nat.reduceSub, and_assoc] <;> exact q
        · simp only [rSlL, tTest, tOp, tVar, tC, tCB, tCons, tNil, tRet, tNext, tAsg, gName, gTup, gCons, gNil, tB, rI0, rI, tLst, tCall, tDrop, tAnd, tOr, tNot, tAndV, tNotV, tSl, tPart, tNoPart, tBM, tDNewK, rIn, rEq, rNe, scal, rIxL, rIxS, rAppend, L2.start, List.map_cons, List.map_nil, List.cons_append, List.nil_append, List.append_nil, List.length_cons, List.length_nil, List.replicate, List.set_cons_zero, List.set_cons_succ, List.getElem?_cons_zero, List.getElem?_cons_succ, Option.some.injEq, exists_eq_left', exists_eq_left, exists_and_left, exists_eq', exists_const, V.int.injEq, V.bl.injEq, V.str.injEq, V.ref.injEq, V.ty.injEq, List.cons.injEq, and_true, true_and, reduceCtorEq, false_and, and_false, exists_false, or_false, false_or, decide_eq_true_eq, Bool.not_eq_true', decide_eq_false_iff_not, if_true, if_false, Bool.false_eq_true, ite_true, ite_false, Bool.not_true, Bool.not_false, Nat.reduceAdd, Nat.reduceSub, and_assoc]
          refine ⟨_, .bl _, _, kit "bool" "bool" true rfl, _, .bl _, _, kit "bool" "bool" true rfl, ?_⟩
          simp only [rSlL, tTest, tOp, tVar, tC, tCB, tCons, tNil, tRet, tNext, tAsg, gName, gTup, gCons, gNil, tB, rI0, rI, tLst, tCall, tDrop, tAnd, tOr, tNot, tAndV, tNotV, tSl, tPart, tNoPart, tBM, tDNewK, rIn, rEq, rNe, scal, rIxL, rIxS, rAppend, L2.start, List.map_cons, List.map_nil, List.cons_append, List.nil_append, List.append_nil, List.length_cons, List.length_nil, List.replicate, List.set_cons_zero, List.set_cons_succ, List.getElem?_cons_zero, List.getElem?_cons_succ, Option.some.injEq, exists_eq_left', exists_eq_left, exists_and_left, exists_eq', exists_const, V.int.injEq, V.bl.injEq, V.str.injEq, V.ref.injEq, V.ty.injEq, List.cons.injEq, and_true, true_and, reduceCtorEq, false_and, and_false, exists_false, or_false, false_or, decide_eq_true_eq, Bool.not_eq_true', decide_eq_false_iff_not, if_true, if_false, Bool.false_eq_true, ite_true, ite_false, Bool.not_true, Bool.not_false, Nat.reduceAdd, Nat.reduceSub, and_assoc]
          exact q H (.refl H)
      · refine skip1 (fun Q q => ?_) (take1 (fun Q q => ?_) ?_)
        · simp only [rSlL, tTest, tOp, tVar, tC, tCB, tCons, tNil, tRet, tNext, tAsg, gName, gTup, gCons, gNil, tB, rI0, rI, tLst, tCall, tDrop, tAnd, tOr, tNot, tAndV, tNotV, tSl, tPart, tNoPart, tBM, tDNewK, rIn, rEq, rNe, scal, rIxL, rIxS, rAppend, L2.start, List.map_cons, List.map_nil, List.cons_append, List.nil_append, List.append_nil, List.length_cons, List.length_nil, List.replicate, List.set_cons_zero, List.set_cons_succ, List.getElem?_cons_zero, List.getElem?_cons_succ, Option.some.injEq, exists_eq_left', exists_eq_left, exists_and_left, exists_eq', exists_const, V.int.injEq, V.bl.injEq, V.str.injEq, V.ref.injEq, V.ty.injEq, List.cons.injEq, and_true, true_and, reduceCtorEq, false_and, and_false, exists_false, or_false, false_or, decide_eq_true_eq, Bool.not_eq_true', decide_eq_false_iff_not, if_true, if_false, Bool.false_eq_true, ite_true, ite_false, Bool.not_true, Bool.not_false, Nat.reduceAdd, Nat.reduceSub, and_assoc]; exact q
        · simp only [rSlL, tTest, tOp, tVar, tC, tCB, tCons, tNil, tRet, tNext, tAsg, gName, gTup, gCons, gNil, tB, rI0, rI, tLst, tCall, tDrop, tAnd, tOr, tNot, tAndV, tNotV, tSl, tPart, tNoPart, tBM, tDNewK, rIn, rEq, rNe, scal, rIxL, rIxS, rAppend, L2.start, List.map_cons, List.map_nil, List.cons_append, List.nil_append, List.append_nil, List.length_cons, List.length_nil, List.replicate, List.set_cons_zero, List.set_cons_succ, List.getElem?_cons_zero, List.getElem?_cons_succ, Option.some.injEq, exists_eq_left', exists_eq_left, exists_and_left, exists_eq', exists_const, V.int.injEq, V.bl.injEq, V.str.injEq, V.ref.injEq, V.ty.injEq, List.cons.injEq, and_true, true_and, reduceCtorEq, false_and, and_false, exists_false, or_false, false_or, decide_eq_true_eq, Bool.not_eq_true', decide_eq_false_iff_not, if_true, if_false, Bool.false_eq_true, ite_true, ite_false, Bool.not_true, Bool.not_false, Nat.reduceAdd, Nat.reduceSub, and_assoc]; exact ⟨_, .int _, _, kit "int" "int" true rfl, q⟩
        · simp only [rSlL, tTest, tOp, tVar, tC, tCB, tCons, tNil, tRet, tNext, tAsg, gName, gTup, gCons, gNil, tB, rI0, rI, tLst, tCall, tDrop, tAnd, tOr, tNot, tAndV, tNotV, tSl, tPart, tNoPart, tBM, tDNewK, rIn, rEq, rNe, scal, rIxL, rIxS, rAppend, L2.start, List.map_cons, List.map_nil, List.cons_append, List.nil_append, List.append_nil, List.length_cons, List.length_nil, List.replicate, List.set_cons_zero, List.set_cons_succ, List.getElem?_cons_zero, List.getElem?_cons_succ, Option.some.injEq, exists_eq_left', exists_eq_left, exists_and_left, exists_eq', exists_const, V.int.injEq, V.bl.injEq, V.str.injEq, V.ref.injEq, V.ty.injEq, List.cons.injEq, and_true, true_and, reduceCtorEq, false_and, and_false, exists_false, or_false, false_or, decide_eq_true_eq, Bool.not_eq_true', decide_eq_false_iff_not, if_true, if_false, Bool.false_eq_true, ite_true, ite_false, Bool.not_true, Bool.not_false, Nat.reduceAdd, Nat.reduceSub, and_assoc]
          refine ⟨_, .int _, _, kit "int" "int" true rfl, ?_⟩
          simp only [rSlL, tTest, tOp, tVar, tC, tCB, tCons, tNil, tRet, tNext, tAsg, gName, gTup, gCons, gNil, tB, rI0, rI, tLst, tCall, tDrop, tAnd, tOr, tNot, tAndV, tNotV, tSl, tPart, tNoPart, tBM, tDNewK, rIn, rEq, rNe, scal, rIxL, rIxS, rAppend, L2.start, List.map_cons, List.map_nil, List.cons_append, List.nil_append, List.append_nil, List.length_cons, List.length_nil, List.replicate, List.set_cons_zero, List.set_cons_succ, List.getElem?_cons_zero, List.getElem?_cons_succ, Option.some.injEq, exists_eq_left', exists_eq_left, exists_and_left, exists_eq', exists_const, V.int.injEq, V.bl.injEq, V.str.injEq, V.ref.injEq, V.ty.injEq, List.cons.injEq, and_true, true_and, reduceCtorEq, false_and, and_false, exists_false, or_false, false_or, decide_eq_true_eq, Bool.not_eq_true', decide_eq_false_iff_not, if_true, if_false, Bool.false_eq_true, ite_true, ite_false, Bool.not_true, Bool.not_false, Nat.reduceAdd, Nat.reduceSub, and_assoc]
          refine ⟨_, .int _, _, kit "int" "bool" false rfl, ?_⟩
          simp only [rSlL, tTest, tOp, tVar, tC, tCB, tCons, tNil, tRet, tNext, tAsg, gName, gTup, gCons, gNil, tB, rI0, rI, tLst, tCall, tDrop, tAnd, tOr, tNot, tAndV, tNotV, tSl, tPart, tNoPart, tBM, tDNewK, rIn, rEq, rNe, scal, rIxL, rIxS, rAppend, L2.start, List.map_cons, List.map_nil, List.cons_append, List.nil_append, List.append_nil, List.length_cons, List.length_nil, List.replicate, List.set_cons_zero, List.set_cons_succ, List.getElem?_cons_zero, List.getElem?_cons_succ, Option.some.injEq, exists_eq_left', exists_eq_left, exists_and_left, exists_eq', exists_const, V.int.injEq, V.bl.injEq, V.str.injEq, V.ref.injEq, V.ty.injEq, List.cons.injEq, and_true, true_and, reduceCtorEq, false_and, and_false, exists_false, or_false, false_or, decide_eq_true_eq, Bool.not_eq_true', decide_eq_false_iff_not, if_true, if_false, Bool.false_eq_true, ite_true, ite_false, Bool.not_true, Bool.not_false, Nat.reduceAdd, Nat.reduceSub, and_assoc]
          exact q H (.refl H)
      · refine skip1 (fun Q q => ?_) (skip1 (fun Q q => ?_) (take1 (fun Q q => ?_) ?_))
        · simp only [rSlL, tTest, tOp, tVar, tC, tCB, tCons, tNil, tRet, tNext, tAsg, gName, gTup, gCons, gNil, tB, rI0, rI, tLst, tCall, tDrop, tAnd, tOr, tNot, tAndV, tNotV, tSl, tPart, tNoPart, tBM, tDNewK, rIn, rEq, rNe, scal, rIxL, rIxS, rAppend, L2.start, List.map_cons, List.map_nil, List.cons_append, List.nil_append, List.append_nil, List.length_cons, List.length_nil, List.replicate, List.set_cons_zero, List.set_cons_succ, List.getElem?_cons_zero, List.getElem?_cons_succ, Option.some.injEq, exists_eq_left', exists_eq_left, exists_and_left, exists_eq', exists_const, V.int.injEq, V.bl.injEq, V.str.injEq, V.ref.injEq, V.ty.injEq, List.cons.injEq, and_true, true_and, reduceCtorEq, false_and, and_false, exists_false, or_false, false_or, decide_eq_true_eq, Bool.not_eq_true', decide_eq_false_iff_not, if_true, if_false, Bool.false_eq_true, ite_true, ite_false, Bool.not_true, Bool.not_false, Nat.reduceAdd, Nat.reduceSub, and_assoc]; exact q
        · simp only [rSlL, tTest, tOp, tVar, tC, tCB, tCons, tNil, tRet, tNext, tAsg, gName, gTup, gCons, gNil, tB, rI0, rI, tLst, tCall, tDrop, tAnd, tOr, tNot, tAndV, tNotV, tSl, tPart, tNoPart, tBM, tDNewK, rIn, rEq, rNe, scal, rIxL, rIxS, rAppend, L2.start, List.map_cons, List.map_nil, List.cons_append, List.nil_append, List.append_nil, List.length_cons, List.length_nil, List.replicate, List.set_cons_zero, List.set_cons_succ, List.getElem?_cons_zero, List.getElem?_cons_succ, Option.some.injEq, exists_eq_left', exists_eq_left, exists_and_left, exists_eq', exists_const, V.int.injEq, V.bl.injEq, V.str.injEq, V.ref.injEq, V.ty.injEq, List.cons.injEq, and_true, true_and, reduceCtorEq, false_and, and_false, exists_false, or_false, false_or, decide_eq_true_eq, Bool.not_eq_true', decide_eq_false_iff_not, if_true, if_false, Bool.false_eq_true, ite_true, ite_false, Bool.not_true, Bool.not_false, Nat.reduceAdd, Nat.reduceSub, and_assoc]; exact ⟨_, .str _, _, kit "str" "int" false rfl, q⟩
        · simp only [rSlL, tTest, tOp, tVar, tC, tCB, tCons, tNil, tRet, tNext, tAsg, gName, gTup, gCons, gNil, tB, rI0, rI, tLst, tCall, tDrop, tAnd, tOr, tNot, tAndV, tNotV, tSl, tPart, tNoPart, tBM, tDNewK, rIn, rEq, rNe, scal, rIxL, rIxS, rAppend, L2.start, List.map_cons, List.map_nil, List.cons_append, List.nil_append, List.append_nil, List.length_cons, List.length_nil, List.replicate, List.set_cons_zero, List.set_cons_succ, List.getElem?_cons_zero, List.getElem?_cons_succ, Option.some.injEq, exists_eq_left', exists_eq_left, exists_and_left, exists_eq', exists_const, V.int.injEq, V.bl.injEq, V.str.injEq, V.ref.injEq, V.ty.injEq, List.cons.injEq, and_true, true_and, reduceCtorEq, false_and, and_false, exists_false, or_false, false_or, decide_eq_true_eq, Bool.not_eq_true', decide_eq_false_iff_not, if_true, if_false, Bool.false_eq_true, ite_true, ite_false, Bool.not_true, Bool.not_false, Nat.reduceAdd, Nat.reduceSub, and_assoc]; exact ⟨_, .str _, _, kit "str" "str" true rfl, q⟩
        · simp only [rSlL, tTest, tOp, tVar, tC, tCB, tCons, tNil, tRet, tNext, tAsg, gName, gTup, gCons, gNil, tB, rI0, rI, tLst, tCall, tDrop, tAnd, tOr, tNot, tAndV, tNotV, tSl, tPart, tNoPart, tBM, tDNewK, rIn, rEq, rNe, scal, rIxL, rIxS, rAppend, L2.start, List.map_cons, List.map_nil, List.cons_append, List.nil_append, List.append_nil, List.length_cons, List.length_nil, List.replicate, List.set_cons_zero, List.set_cons_succ, List.getElem?_cons_zero, List.getElem?_cons_succ, Option.some.injEq, exists_eq_left', exists_eq_left, exists_and_left, exists_eq', exists_const, V.int.injEq, V.bl.injEq, V.str.injEq, V.ref.injEq, V.ty.injEq, List.cons.injEq, and_true, true_and, reduceCtorEq, false_and, and_false, exists_false, or_false, false_or, decide_eq_true_eq, Bool.not_eq_true', decide_eq_false_iff_not, if_true, if_false, Bool.false_eq_true, ite_true, ite_false, Bool.not_true, Bool.not_false, Nat.reduceAdd, Nat.reduceSub, and_assoc]
          refine ⟨_, .str _, _, kit "str" "str" true rfl, ?_⟩
          simp only [rSlL, tTest, tOp, tVar, tC, tCB, tCons, tNil, tRet, tNext, tAsg, gName, gTup, gCons, gNil, tB, rI0, rI, tLst, tCall, tDrop, tAnd, tOr, tNot, tAndV, tNotV, tSl, tPart, tNoPart, tBM, tDNewK, rIn, rEq, rNe, scal, rIxL, rIxS, rAppend, L2.start, List.map_cons, List.map_nil, List.cons_append, List.nil_append, List.append_nil, List.length_cons, List.length_nil, List.replicate, List.set_cons_zero, List.set_cons_succ, List.getElem?_cons_zero, List.getElem?_cons_succ, Option.some.injEq, exists_eq_left', exists_eq_left, exists_and_left, exists_eq', exists_const, V.int.injEq, V.bl.injEq, V.str.injEq, V.ref.injEq, V.ty.injEq, List.cons.injEq, and_true, true_and, reduceCtorEq, false_and, and_false, exists_false, or_false, false_or, decide_eq_true_eq, Bool.not_eq_true', decide_eq_false_iff_not, if_true, if_false, Bool.false_eq_true, ite_true, ite_false, Bool.not_true, Bool.not_false, Nat.reduceAdd, Nat.reduceSub, and_assoc]
          exact q H (.refl H)
    · subst hnm
      obtain ⟨T, tp1, tp2, tl, src1, src2, h1, h2, e1, e2⟩ : ∃ (T : String) (tp1 : TyOf K H (.ref p) (.type T)) (tp2 : TyOf K H (.ref q') (.type T)) (tl : (T = "list" ∧ SqL K H p xs ∧ SqL K H q' ys) ∨ (T = "tuple" ∧ SqT K H p xs ∧ SqT K H q' ys)) (src1 src2 : Src), (∀ H', Same H H' → src1.has K H' xs) ∧ (∀ H', Same H H' → src2.has K H' ys) ∧ src1.val = .ref p ∧ src2.val = .ref q' := by
        rcases hk with ⟨a, b⟩ | ⟨a, b⟩
        · exact ⟨"list", .lst a, .lst b, .inl ⟨rfl, SqL.of a, SqL.of b⟩, .lst p, .lst q', fun H' e => SqL.of (e _ _ a), fun H' e => SqL.of (e _ _ b), rfl, rfl⟩
        · exact ⟨"tuple", .tup a, .tup b, .inr ⟨rfl, a, b⟩, .tup p, .tup q', fun H' e => Same.tup e a, fun H' e => Same.tup e b, rfl, rfl⟩
      have hi0 : PySem.W.kitOne K (.type T) (.type "int") = some false := by rcases tl with ⟨rfl, _⟩ | ⟨rfl, _⟩; exact kit _ _ _ rfl; exact kit _ _ _ rfl
      have hs0 : PySem.W.kitOne K (.type T) (.type "str") = some false := by rcases tl with ⟨rfl, _⟩ | ⟨rfl, _⟩; exact kit _ _ _ rfl; exact kit _ _ _ rfl
      obtain ⟨bl, hl0, hl1⟩ : ∃ bl, PySem.W.kitOne K (.type T) (.type "list") = some bl ∧ PySem.W.kitOne K (.type T) (.type "tuple") = some (!bl) := by rcases tl with ⟨rfl, _⟩ | ⟨rfl, _⟩; exact ⟨true, kit _ _ _ rfl, kit _ _ _ rfl⟩; exact ⟨false, kit _ _ _ rfl, kit _ _ _ rfl⟩
      have ln1 : LenV K (.ref p) H xs.length := by rcases tl with ⟨_, t1, _⟩ | ⟨_, t1, _⟩; exact .inl ⟨_, t1, rfl⟩; exact .inr ⟨_, t1, rfl⟩
      have ln2 : LenV K (.ref q') H ys.length := by rcases tl with ⟨_, _, t2⟩ | ⟨_, _, t2⟩; exact .inl ⟨_, t2, rfl⟩; exact .inr ⟨_, t2, rfl⟩
      refine skip1 (fun Q q => ?_) (skip1 (fun Q q => ?_) (skip1 (fun Q q => ?_) (skip1 (fun Q q => ?_) (skip1 (fun Q q => ?_) (skip1 (fun Q q => ?_) ?_)))))
      · simp only [rSlL, tTest, tOp, tVar, tC, tCB, tCons, tNil, tRet, tNext, tAsg, gName, gTup, gCons, gNil, tB, rI0, rI, tLst, tCall, tDrop, tAnd, tOr, tNot, tAndV, tNotV, tSl, tPart, tNoPart, tBM, tDNewK, rIn, rEq, rNe, scal, rIxL, rIxS, rAppend, L2.start, List.map_cons, List.map_nil, List.cons_append, List.nil_append, List.append_nil, List.length_cons, List.length_nil, List.replicate, List.set_cons_zero, List.set_cons_succ, List.getElem?_cons_zero, List.getElem?_cons_succ, Option.some.injEq, exists_eq_left', exists_eq_left, exists_and_left, exists_eq', exists_const, V.int.injEq, V.bl.injEq, V.str.injEq, V.ref.injEq, V.ty.injEq, List.cons.injEq, and_true, true_and, reduceCtorEq, false_and, and_false, exists_false, or_false, false_or, decide_eq_true_eq, Bool.not_eq_true', decide_eq_false_iff_not, if_true, if_false, Bool.false_eq_true, ite_true, ite_false, Bool.not_true, Bool.not_false, Nat.reduceAdd, Nat.reduceSub, and_assoc]; exact q
      · simp only [rSlL, tTest, tOp, tVar, tC, tCB, tCons, tNil, tRet, tNext, tAsg, gName, gTup, gCons, gNil, tB, rI0, rI, tLst, tCall, tDrop, tAnd, tOr, tNot, tAndV, tNotV, tSl, tPart, tNoPart, tBM, tDNewK, rIn, rEq, rNe, scal, rIxL, rIxS, rAppend, L2.start, List.map_cons, List.map_nil, List.cons_append, List.nil_append, List.append_nil, List.length_cons, List.length_nil, List.replicate, List.set_cons_zero, List.set_cons_succ, List.getElem?_cons_zero, List.getElem?_cons_succ, Option.some.injEq, exists_eq_left', exists_eq_left, exists_and_left, exists_eq', exists_const, V.int.injEq, V.bl.injEq, V.str.injEq, V.ref.injEq, V.ty.injEq, List.cons.injEq, and_true, true_and, reduceCtorEq, false_and, and_false, exists_false, or_false, false_or, decide_eq_true_eq, Bool.not_eq_true', decide_eq_false_iff_not, if_true, if_false, Bool.false_eq_true, ite_true, ite_false, Bool.not_true, Bool.not_false, Nat.reduceAdd, Nat.reduceSub, and_assoc]; exact ⟨_, tp2, _, hi0, q⟩
      · simp only [rSlL, tTest, tOp, tVar, tC, tCB, tCons, tNil, tRet, tNext, tAsg, gName, gTup, gCons, gNil, tB, rI0, rI, tLst, tCall, tDrop, tAnd, tOr, tNot, tAndV, tNotV, tSl, tPart, tNoPart, tBM, tDNewK, rIn, rEq, rNe, scal, rIxL, rIxS, rAppend, L2.start, List.map_cons, List.map_nil, List.cons_append, List.nil_append, List.append_nil, List.length_cons, List.length_nil, List.replicate, List.set_cons_zero, List.set_cons_succ, List.getElem?_cons_zero, List.getElem?_cons_succ, Option.some.injEq, exists_eq_left', exists_eq_left, exists_and_left, exists_eq', exists_const, V.int.injEq, V.bl.injEq, V.str.injEq, V.ref.injEq, V.ty.injEq, List.cons.injEq, and_true, true_and, reduceCtorEq, false_and, and_false, exists_false, or_false, false_or, decide_eq_true_eq, Bool.not_eq_true', decide_eq_false_iff_not, if_true, if_false, Bool.false_eq_true, ite_true, ite_false, Bool.not_true, Bool.not_false, Nat.reduceAdd, Nat.reduceSub, and_assoc]; exact ⟨_, tp2, _, hs0, q⟩
      · simp only [rSlL, tTest, tOp, tVar, tC, tCB, tCons, tNil, tRet, tNext, tAsg, gName, gTup, gCons, gNil, tB, rI0, rI, tLst, tCall, tDrop, tAnd, tOr, tNot, tAndV, tNotV, tSl, tPart, tNoPart, tBM, tDNewK, rIn, rEq, rNe, scal, rIxL, rIxS, rAppend, L2.start, List.map_cons, List.map_nil, List.cons_append, List.nil_append, List.append_nil, List.length_cons, List.length_nil, List.replicate, List.set_cons_zero, List.set_cons_succ, List.getElem?_cons_zero, List.getElem?_cons_succ, Option.some.injEq, exists_eq_left', exists_eq_left, exists_and_left, exists_eq', exists_const, V.int.injEq, V.bl.injEq, V.str.injEq, V.ref.injEq, V.ty.injEq, List.cons.injEq, and_true, true_and, reduceCtorEq, false_and, and_false, exists_false, or_false, false_or, decide_eq_true_eq, Bool.not_eq_true', decide_eq_false_iff_not, if_true, if_false, Bool.false_eq_true, ite_true, ite_false, Bool.not_true, Bool.not_false, Nat.reduceAdd, Nat.reduceSub, and_assoc]
        refine ⟨_, tp2, _, hl0, ?_⟩
        cases bl with
        | false => exact q
        | true => simp only [rSlL, tTest, tOp, tVar, tC, tCB, tCons, tNil, tRet, tNext, tAsg, gName, gTup, gCons, gNil, tB, rI0, rI, tLst, tCall, tDrop, tAnd, tOr, tNot, tAndV, tNotV, tSl, tPart, tNoPart, tBM, tDNewK, rIn, rEq, rNe, scal, rIxL, rIxS, rAppend, L2.start, List.map_cons, List.map_nil, List.cons_append, List.nil_append, List.append_nil, List.length_cons, List.length_nil, List.replicate, List.set_cons_zero, List.set_cons_succ, List.getElem?_cons_zero, List.getElem?_cons_succ, Option.some.injEq, exists_eq_left', exists_eq_left, exists_and_left, exists_eq', exists_const, V.int.injEq, V.bl.injEq, V.str.injEq, V.ref.injEq, V.ty.injEq, List.cons.injEq, and_true, true_and, reduceCtorEq, false_and, and_false, exists_false, or_false, false_or, decide_eq_true_eq, Bool.not_eq_true', decide_eq_false_iff_not, if_true, if_false, Bool.false_eq_true, ite_true, ite_false, Bool.not_true, Bool.not_false, Nat.reduceAdd, Nat.reduceSub, and_assoc]; exact ⟨_, tp1, _, hl0, q⟩
      · simp only [rSlL, tTest, tOp, tVar, tC, tCB, tCons, tNil, tRet, tNext, tAsg, gName, gTup, gCons, gNil, tB, rI0, rI, tLst, tCall, tDrop, tAnd, tOr, tNot, tAndV, tNotV, tSl, tPart, tNoPart, tBM, tDNewK, rIn, rEq, rNe, scal, rIxL, rIxS, rAppend, L2.start, List.map_cons, List.map_nil, List.cons_append, List.nil_append, List.append_nil, List.length_cons, List.length_nil, List.replicate, List.set_cons_zero, List.set_cons_succ, List.getElem?_cons_zero, List.getElem?_cons_succ, Option.some.injEq, exists_eq_left', exists_eq_left, exists_and_left, exists_eq', exists_const, V.int.injEq, V.bl.injEq, V.str.injEq, V.ref.injEq, V.ty.injEq, List.cons.injEq, and_true, true_and, reduceCtorEq, false_and, and_false, exists_false, or_false, false_or, decide_eq_true_eq, Bool.not_eq_true', decide_eq_false_iff_not, if_true, if_false, Bool.false_eq_true, ite_true, ite_false, Bool.not_true, Bool.not_false, Nat.reduceAdd, Nat.reduceSub, and_assoc]
        refine ⟨_, tp2, _, hl1, ?_⟩
        cases bl with
        | true => exact q
        | false => simp only [rSlL, tTest, tOp, tVar, tC, tCB, tCons, tNil, tRet, tNext, tAsg, gName, gTup, gCons, gNil, tB, rI0, rI, tLst, tCall, tDrop, tAnd, tOr, tNot, tAndV, tNotV, tSl, tPart, tNoPart, tBM, tDNewK, rIn, rEq, rNe, scal, rIxL, rIxS, rAppend, L2.start, List.map_cons, List.map_nil, List.cons_append, List.nil_append, List.append_nil, List.length_cons, List.length_nil, List.replicate, List.set_cons_zero, List.set_cons_succ, List.getElem?_cons_zero, List.getElem?_cons_succ, Option.some.injEq, exists_eq_left', exists_eq_left, exists_and_left, exists_eq', exists_const, V.int.injEq, V.bl.injEq, V.str.injEq, V.ref.injEq, V.ty.injEq, List.cons.injEq, and_true, true_and, reduceCtorEq, false_and, and_false, exists_false, or_false, false_or, decide_eq_true_eq, Bool.not_eq_true', decide_eq_false_iff_not, if_true, if_false, Bool.false_eq_true, ite_true, ite_false, Bool.not_true, Bool.not_false, Nat.reduceAdd, Nat.reduceSub, and_assoc]; exact ⟨_, tp1, _, hl1, q⟩
      · simp only [rSlL, tTest, tOp, tVar, tC, tCB, tCons, tNil, tRet, tNext, tAsg, gName, gTup, gCons, gNil, tB, rI0, rI, tLst, tCall, tDrop, tAnd, tOr, tNot, tAndV, tNotV, tSl, tPart, tNoPart, tBM, tDNewK, rIn, rEq, rNe, scal, rIxL, rIxS, rAppend, L2.start, List.map_cons, List.map_nil, List.cons_append, List.nil_append, List.append_nil, List.length_cons, List.length_nil, List.replicate, List.set_cons_zero, List.set_cons_succ, List.getElem?_cons_zero, List.getElem?_cons_succ, Option.some.injEq, exists_eq_left', exists_eq_left, exists_and_left, exists_eq', exists_const, V.int.injEq, V.bl.injEq, V.str.injEq, V.ref.injEq, V.ty.injEq, List.cons.injEq, and_true, true_and, reduceCtorEq, false_and, and_false, exists_false, or_false, false_or, decide_eq_true_eq, Bool.not_eq_true', decide_eq_false_iff_not, if_true, if_false, Bool.false_eq_true, ite_true, ite_false, Bool.not_true, Bool.not_false, Nat.reduceAdd, Nat.reduceSub, and_assoc]
        refine ⟨_, ln1, _, ln2, ?_⟩
        simp only [hl, rSlL, tTest, tOp, tVar, tC, tCB, tCons, tNil, tRet, tNext, tAsg, gName, gTup, gCons, gNil, tB, rI0, rI, tLst, tCall, tDrop, tAnd, tOr, tNot, tAndV, tNotV, tSl, tPart, tNoPart, tBM, tDNewK, rIn, rEq, rNe, scal, rIxL, rIxS, rAppend, L2.start, List.map_cons, List.map_nil, List.cons_append, List.nil_append, List.append_nil, List.length_cons, List.length_nil, List.replicate, List.set_cons_zero, List.set_cons_succ, List.getElem?_cons_zero, List.getElem?_cons_succ, Option.some.injEq, exists_eq_left', exists_eq_left, exists_and_left, exists_eq', exists_const, V.int.injEq, V.bl.injEq, V.str.injEq, V.ref.injEq, V.ty.injEq, List.cons.injEq, and_true, true_and, reduceCtorEq, false_and, and_false, exists_false, or_false, false_or, decide_eq_true_eq, Bool.not_eq_true', decide_eq_false_iff_not, if_true, if_false, Bool.false_eq_true, ite_true, ite_false, Bool.not_true, Bool.not_false, Nat.reduceAdd, Nat.reduceSub, and_assoc]
        exact q
      · simp only [rSlL, tSeq, tIfS, tTest, tOp, tVar, tC, tCB, tCons, tNil, tRet, tNext, tAsg, gName, gTup, gCons, gNil, tB, rI0, rI, tLst, tCall, tDrop, tAnd, tOr, tNot, tAndV, tNotV, tSl, tPart, tNoPart, tBM, tDNewK, rIn, rEq, rNe, scal, rIxL, rIxS, rAppend, L2.start, List.map_cons, List.map_nil, List.cons_append, List.nil_append, List.append_nil, List.length_cons, List.length_nil, List.replicate, List.set_cons_zero, List.set_cons_succ, List.getElem?_cons_zero, List.getElem?_cons_succ, Option.some.injEq, exists_eq_left', exists_eq_left, exists_and_left, exists_eq', exists_const, V.int.injEq, V.bl.injEq, V.str.injEq, V.ref.injEq, V.ty.injEq, List.cons.injEq, and_true, true_and, reduceCtorEq, false_and, and_false, exists_false, or_false, false_or, decide_eq_true_eq, Bool.not_eq_true', decide_eq_false_iff_not, if_true, if_false, Bool.false_eq_true, ite_true, ite_false, Bool.not_true, Bool.not_false, Nat.reduceAdd, Nat.reduceSub, and_assoc]
        refine ⟨_, rfl, _, rfl, src1, src2, xs, ys, by rw [e1, e2], h1 H (.refl H), h2 H (.refl H), for_zip (fun i σ H2 => Same H H2 ∧ ∃ a b, σ = [some (.ref p), some (.ref q'), a, b]) ⟨.refl H, none, none, rfl⟩ (fun i σ H2 ⟨e, _⟩ => ⟨h1 H2 e, h2 H2 e⟩) hl ?_ ?_⟩
        · rintro i x y r σ H2 hx hy hr' ⟨e, a, b, rfl⟩
          simp only [rSlL, tSeq, tIfS, tTest, tOp, tVar, tC, tCB, tCons, tNil, tRet, tNext, tAsg, gName, gTup, gCons, gNil, tB, rI0, rI, tLst, tCall, tDrop, tAnd, tOr, tNot, tAndV, tNotV, tSl, tPart, tNoPart, tBM, tDNewK, rIn, rEq, rNe, scal, rIxL, rIxS, rAppend, L2.start, List.map_cons, List.map_nil, List.cons_append, List.nil_append, List.append_nil, List.length_cons, List.length_nil, List.replicate, List.set_cons_zero, List.set_cons_succ, List.getElem?_cons_zero, List.getElem?_cons_succ, Option.some.injEq, exists_eq_left', exists_eq_left, exists_and_left, exists_eq', exists_const, V.int.injEq, V.bl.injEq, V.str.injEq, V.ref.injEq, V.ty.injEq, List.cons.injEq, and_true, true_and, reduceCtorEq, false_and, and_false, exists_false, or_false, false_or, decide_eq_true_eq, Bool.not_eq_true', decide_eq_false_iff_not, if_true, if_false, Bool.false_eq_true, ite_true, ite_false, Bool.not_true, Bool.not_false, Nat.reduceAdd, Nat.reduceSub, and_assoc]
          refine ⟨_, SqT.of upd_same, rfl, ?_⟩
          simp only [rSlL, tSeq, tIfS, tTest, tOp, tVar, tC, tCB, tCons, tNil, tRet, tNext, tAsg, gName, gTup, gCons, gNil, tB, rI0, rI, tLst, tCall, tDrop, tAnd, tOr, tNot, tAndV, tNotV, tSl, tPart, tNoPart, tBM, tDNewK, rIn, rEq, rNe, scal, rIxL, rIxS, rAppend, L2.start, List.map_cons, List.map_nil, List.cons_append, List.nil_append, List.append_nil, List.length_cons, List.length_nil, List.replicate, List.set_cons_zero, List.set_cons_succ, List.getElem?_cons_zero, List.getElem?_cons_succ, Option.some.injEq, exists_eq_left', exists_eq_left, exists_and_left, exists_eq', exists_const, V.int.injEq, V.bl.injEq, V.str.injEq, V.ref.injEq, V.ty.injEq, List.cons.injEq, and_true, true_and, reduceCtorEq, false_and, and_false, exists_false, or_false, false_or, decide_eq_true_eq, Bool.not_eq_true', decide_eq_false_iff_not, if_true, if_false, Bool.false_eq_true, ite_true, ite_false, Bool.not_true, Bool.not_false, Nat.reduceAdd, Nat.reduceSub, and_assoc]
          refine ⟨x, y, rfl, .inl ⟨(hi i x y hx hy).same (e.trans (same_upd hr')), fun H3 e3 => ?_⟩⟩
          simp only [rSlL, tSeq, tIfS, tTest, tOp, tVar, tC, tCB, tCons, tNil, tRet, tNext, tAsg, gName, gTup, gCons, gNil, tB, rI0, rI, tLst, tCall, tDrop, tAnd, tOr, tNot, tAndV, tNotV, tSl, tPart, tNoPart, tBM, tDNewK, rIn, rEq, rNe, scal, rIxL, rIxS, rAppend, L2.start, List.map_cons, List.map_nil, List.cons_append, List.nil_append, List.append_nil, List.length_cons, List.length_nil, List.replicate, List.set_cons_zero, List.set_cons_succ, List.getElem?_cons_zero, List.getElem?_cons_succ, Option.some.injEq, exists_eq_left', exists_eq_left, exists_and_left, exists_eq', exists_const, V.int.injEq, V.bl.injEq, V.str.injEq, V.ref.injEq, V.ty.injEq, List.cons.injEq, and_true, true_and, reduceCtorEq, false_and, and_false, exists_false, or_false, false_or, decide_eq_true_eq, Bool.not_eq_true', decide_eq_false_iff_not, if_true, if_false, Bool.false_eq_true, ite_true, ite_false, Bool.not_true, Bool.not_false, Nat.reduceAdd, Nat.reduceSub, and_assoc]
          exact e.trans ((same_upd hr').trans e3)
        · rintro σ H2 ⟨e, a, b, rfl⟩
          simp only [rSlL, tSeq, tIfS, tTest, tOp, tVar, tC, tCB, tCons, tNil, tRet, tNext, tAsg, gName, gTup, gCons, gNil, tB, rI0, rI, tLst, tCall, tDrop, tAnd, tOr, tNot, tAndV, tNotV, tSl, tPart, tNoPart, tBM, tDNewK, rIn, rEq, rNe, scal, rIxL, rIxS, rAppend, L2.start, List.map_cons, List.map_nil, List.cons_append, List.nil_append, List.append_nil, List.length_cons, List.length_nil, List.replicate, List.set_cons_zero, List.set_cons_succ, List.getElem?_cons_zero, List.getElem?_cons_succ, Option.some.injEq, exists_eq_left', exists_eq_left, exists_and_left, exists_eq', exists_const, V.int.injEq, V.bl.injEq, V.str.injEq, V.ref.injEq, V.ty.injEq, List.cons.injEq, and_true, true_and, reduceCtorEq, false_and, and_false, exists_false, or_false, false_or, decide_eq_true_eq, Bool.not_eq_true', decide_eq_false_iff_not, if_true, if_false, Bool.false_eq_true, ite_true, ite_false, Bool.not_true, Bool.not_false, Nat.reduceAdd, Nat.reduceSub, and_assoc]
          exact q H2 e
def spLaw (K : PySem.W.Frag) : Sp := fun vs H Q _ => ∃ (a : Addr) (ns : List Int), vs = [.ref a] ∧ SqL K H a (ns.map V.int) ∧ ns.length ≤ 63 ∧ ∀ H', Q (.bl true) H'
end
end Wb
namespace Mi
theorem at_ok {s : List Int} (hs : s.length ≤ 63) (k : Nat) (hk : k ≤ 200) : ∃ n, m_l_at s (k : Int) = .ok n := by
  unfold m_l_at M_l_at
  by_cases h : (k : Int) < (s.length : Int)
  · rw [if_pos (by simpa using h)]
    obtain ⟨x, e, _⟩ := ixL_get (xs := s) (i := (k : Int)) (by omega) h
    exact ⟨x, e⟩
  · rw [if_neg (by simpa using h), mulR_okR (by omega) (by omega)]
    exact ⟨_, rfl⟩
theorem row_b1 (c b : Int) (hb : 1 ≤ b) (hb2 : b < 1073741824) (k : Nat) (s : Int × Int × List Int) (h1 : 0 ≤ s.2.1) (hl : s.2.2.length < 100000) : ∃ s' : Int × Int × List Int, M_l_row_b1 c b (k : Int) s = .ok s' ∧ 0 ≤ s'.2.1 ∧ ∃ v, 0 ≤ v ∧ v < b ∧ s'.2.2 = s.2.2 ++ [v] := by
  unfold M_l_row_b1
  have hm0 := Int.emod_nonneg (s.1 * 48271 + 7919 + (k : Int)) (show (2147483647 : Int) ≠ 0 by decide)
  have hm1 := Int.emod_lt_of_pos (s.1 * 48271 + 7919 + (k : Int)) (show (0 : Int) < 2147483647 by decide)
  generalize (s.1 * 48271 + 7919 + (k : Int)) % 2147483647 = mx at *
  have other : ∀ z : Int, 0 ≤ z % b ∧ z % b < b := fun z => ⟨Int.emod_nonneg _ (by omega), Int.emod_lt_of_pos _ (by omega)⟩
  have A : ∀ z : Int, appL s.2.2 z = .ok (s.2.2 ++ [z]) := fun z => appL_ok hl
  have e2 : ((((mulR mx mx).bind fun y63 => Res.ok (y63 % 1000003)).bind fun y64 => modR y64 b).bind fun y69 => appL s.2.2 y69) = .ok (s.2.2 ++ [mx * mx % 1000003 % b]) := by
    rw [mulR_okL (by omega) (by omega)]; simp only [Res.bind_ok']; rw [modR_ok (by omega)]; exact A _
  have e1 : ((modR s.2.1 b).bind fun y56 => appL s.2.2 y56) = .ok (s.2.2 ++ [s.2.1 % b]) := by rw [modR_ok (by omega)]; exact A _
  by_cases hf : (1000000000000000000 : Int) ≤ absI c
  · rw [decide_eq_true hf]
    by_cases hp : 0 < s.2.1
    · rw [decide_eq_true hp]
      simp only [if_true, Res.bind_ok', e1, fdivR_ok (show 0 < b by omega) hb2]
      exact ⟨_, rfl, Int.ediv_nonneg h1 (by omega), _, (other _).1, (other _).2, rfl⟩
    · rw [decide_eq_false hp]
      simp only [if_true, Res.bind_ok', Bool.false_eq_true, if_false, e2]
      exact ⟨_, rfl, h1, _, (other _).1, (other _).2, rfl⟩
  · rw [decide_eq_false hf]
    simp only [Res.bind_ok', Bool.false_eq_true, if_false, e2]
    exact ⟨_, rfl, h1, _, (other _).1, (other _).2, rfl⟩
theorem row_ok (c : Int) (n : Nat) (b : Int) (hn : n ≤ 1000) (hb : 1 ≤ b) (hb2 : b < 1073741824) : ∃ ns, m_l_row c (n : Int) b = .ok ns ∧ ns.length = n ∧ ∀ x ∈ ns, 0 ≤ x ∧ x < b := by
  unfold m_l_row M_l_row
  rw [rangeR_ok (by omega), Res.bind_ok']
  obtain ⟨s, e, h0, hl, hb⟩ := forR_inv (f := M_l_row_b1 c b) (fun pre (s : Int × Int × List Int) => 0 ≤ s.2.1 ∧ s.2.2.length = pre.length ∧ ∀ x ∈ s.2.2, 0 ≤ x ∧ x < b) ((List.range n).map fun (i : Nat) => (i : Int)) ((absI c) % 2147483647, absI c, []) ⟨absI_nn c, rfl, by simp⟩ (by
    intro pre a post s e ⟨h0, hl, hb'⟩
    have hlen : pre.length < n := by have := congrArg List.length e; simp at this; omega
    obtain ⟨k, rfl⟩ : ∃ k : Nat, a = (k : Int) := by
      have : a ∈ (List.range n).map fun (i : Nat) => (i : Int) := by rw [e]; simp
      obtain ⟨k, _, hk⟩ := List.mem_map.mp this; exact ⟨k, hk.symm⟩
    obtain ⟨s', e', h0', v, v0, v1, ev⟩ := row_b1 c b hb hb2 k s h0 (by omega)
    refine ⟨s', e', h0', by rw [ev]; simp [hl], fun x hx => ?_⟩
    rw [ev] at hx
    rcases List.mem_append.mp hx with z | z
    · exact hb' x z
    · rw [List.mem_singleton.mp z]; exact ⟨v0, v1⟩)
  rw [e]
  exact ⟨_, rfl, by rw [hl]; simp, hb⟩
def isTurn (c : Nat) : Prop := c = 102 ∨ c = 98 ∨ c = 105
def Turns (t : Tx) : Prop := ∀ c ∈ t, isTurn c
theorem fbi_at (d : Int) (h0 : 0 ≤ d) (h1 : d < 3) : ∃ c, ixS ([102, 98, 105] : Tx) d = .ok [c] ∧ isTurn c := by
  obtain ⟨c, e, h⟩ := ixS_get (x := ([102, 98, 105] : Tx)) (i := d) h0 (by simp; omega) (by decide)
  refine ⟨c, e, ?_⟩
  have := List.mem_of_getElem? h
  simpa [isTurn] using this
theorem turns_ok (c : Int) (n : Nat) (hn : n ≤ 1000) : ∃ t, m_l_turns c (n : Int) = .ok t ∧ t.length = n ∧ Turns t := by
  unfold m_l_turns M_l_turns
  by_cases h : c % 7 = 3
  · rw [if_pos (by simpa using h)]
    obtain ⟨y, e, hy⟩ := fbi_at (c / 7 % 3) (Int.emod_nonneg _ (by decide)) (Int.emod_lt_of_pos _ (by decide))
    rw [e, Res.bind_ok', repS_ok (by omega) (by omega)]
    refine ⟨_, rfl, by simp, fun x hx => ?_⟩
    rw [List.eq_of_mem_replicate hx]; exact hy
  · rw [if_neg (by simpa using h)]
    obtain ⟨ds, e, hl, hb⟩ := row_ok (c / 7) n 3 hn (by decide) (by decide)
    rw [e, Res.bind_ok']
    have key : ∃ t : List Nat, compR ds (fun (a9 : Int) => ixS ([102, 98, 105] : Tx) a9) = .ok (t.map fun c => [c]) ∧ t.length = n ∧ Turns t := by
      have : ∀ d ∈ ds, ∃ c : Nat, ixS ([102, 98, 105] : Tx) d = .ok [c] ∧ isTurn c := fun d hd => fbi_at d (hb d hd).1 (hb d hd).2
      have hf : ∀ d ∈ ds, ixS ([102, 98, 105] : Tx) d = .ok ((fun d => [if d = 0 then 102 else if d = 1 then 98 else 105]) d) := fun d hd => by
        have h1 := hb d hd
        have : d = 0 ∨ d = 1 ∨ d = 2 := by omega
        rcases this with rfl | rfl | rfl <;> rfl
      rw [compR_ok (by show ds.length ≤ 100000; omega) hf]
      refine ⟨ds.map fun d => if d = 0 then 102 else if d = 1 then 98 else 105, by simp, by simp [hl], fun x hx => ?_⟩
      obtain ⟨d, _, rfl⟩ := List.mem_map.mp hx
      unfold isTurn; split
      · exact .inl rfl
      · split
        · exact .inr (.inl rfl)
        · exact .inr (.inr rfl)
    obtain ⟨t, e2, hl2, ht⟩ := key
    rw [e2, Res.bind_ok', joinE_ok (by rw [flat1]; omega), flat1]
    exact ⟨t, rfl, hl2, ht⟩
theorem enum_at {α : Type} {xs : List α} {i : Nat} {x : α} (h : xs[i]? = some x) : (enumL xs)[i]? = some ((i : Int), x) := by
  have hi : i < xs.length := (List.getElem?_eq_some_iff.mp h).1
  unfold enumL
  rw [List.getElem?_zipWith, List.getElem?_range hi, h]
theorem enum_of {α : Type} {xs : List α} {i : Nat} {y : Int × α} (h : (enumL xs)[i]? = some y) : y.1 = (i : Int) ∧ xs[i]? = some y.2 := by
  unfold enumL at h
  rw [List.getElem?_zipWith] at h
  cases hx : xs[i]? with
  | none => rw [hx] at h; cases hr : (List.range xs.length)[i]? <;> rw [hr] at h <;> cases h
  | some x =>
    have hi : i < xs.length := (List.getElem?_eq_some_iff.mp hx).1
    rw [hx, List.getElem?_range hi] at h
    cases h
    exact ⟨rfl, rfl⟩
theorem enum_length {α : Type} (xs : List α) : (enumL xs).length = xs.length := by unfold enumL; simp
theorem enum_snd {α : Type} (xs : List α) : (enumL xs).map (·.2) = xs := by
  apply List.ext_getElem?
  intro i
  rw [List.getElem?_map]
  cases hx : xs[i]? with
  | none => rw [List.getElem?_eq_none_iff.mpr (by rw [enum_length]; exact List.getElem?_eq_none_iff.mp hx)]; rfl
  | some x => rw [enum_at hx]; rfl
theorem pk_fi {c : Nat → Tx} {n k : Nat} : k ∈ fi c n ↔ k < n ∧ ∀ j, j < k → c j ≠ c k := by
  unfold fi isFirst; simp
theorem pk_grp {c : Nat → Tx} {n k i : Nat} : i ∈ grp c n k ↔ i < n ∧ c i = c k := by
  unfold grp; simp
theorem pk_inj {c : Nat → Tx} {n k l : Nat} (hk : k ∈ fi c n) (hl : l ∈ fi c n) (h : c k = c l) : k = l := by
  rw [pk_fi] at hk hl
  rcases Nat.lt_trichotomy k l with z | z | z
  · exact absurd h (hl.2 k z)
  · exact z
  · exact absurd h.symm (hk.2 l z)
theorem pk_first {c : Nat → Tx} {n : Nat} : ∀ i, i < n → ∃ k, k ∈ fi c n ∧ c k = c i := by
  intro i
  induction i using Nat.strongRecOn with
  | ind i ih =>
    intro hi
    by_cases h : ∀ j, j < i → c j ≠ c i
    · exact ⟨i, pk_fi.mpr ⟨hi, h⟩, rfl⟩
    · obtain ⟨j, hj, e⟩ : ∃ j, j < i ∧ c j = c i := by simpa using h
      obtain ⟨k, h1, h2⟩ := ih j hj (by omega)
      exact ⟨k, h1, h2.trans e⟩
def pN (c : Nat → Tx) (n : Nat) : List (List Nat) := (fi c n).map (grp c n)
theorem pN_packs (c : Nat → Tx) (n : Nat) : packsOf c n = (pN c n).map fun g => g.map fun (j : Nat) => (j : Int) := by unfold packsOf pN; rw [List.map_map]; rfl
theorem fi_nodup (c : Nat → Tx) (n : Nat) : (fi c n).Nodup := List.Pairwise.filter _ List.nodup_range
theorem grp_nodup (c : Nat → Tx) (n k : Nat) : (grp c n k).Nodup := List.Pairwise.filter _ List.nodup_range
theorem pN_flat_mem {c : Nat → Tx} {n i : Nat} : i ∈ (pN c n).flatten ↔ i < n := by
  rw [List.mem_flatten]
  constructor
  · rintro ⟨g, hg, hi⟩
    obtain ⟨k, hk, rfl⟩ := List.mem_map.mp hg
    exact (pk_grp.mp hi).1
  · intro h
    obtain ⟨k, hk, e⟩ := pk_first (c := c) i h
    exact ⟨_, List.mem_map.mpr ⟨k, hk, rfl⟩, pk_grp.mpr ⟨h, e.symm⟩⟩
theorem pN_nodup (c : Nat → Tx) (n : Nat) : (pN c n).flatten.Nodup := by
  unfold pN List.Nodup
  rw [List.pairwise_flatten]
  constructor
  · intro g hg
    obtain ⟨k, hk, rfl⟩ := List.mem_map.mp hg
    exact grp_nodup c n k
  · rw [List.pairwise_map]
    exact (fi_nodup c n).imp_of_mem fun {a b} ha hb hab => fun x h1 y h2 e => hab (pk_inj ha hb ((pk_grp.mp h1).2.symm.trans (by rw [e]; exact (pk_grp.mp h2).2)))
theorem pN_perm (c : Nat → Tx) (n : Nat) : (pN c n).flatten.Perm (List.range n) := (List.perm_ext_iff_of_nodup (pN_nodup c n) List.nodup_range).mpr fun a => by rw [pN_flat_mem, List.mem_range]
theorem pN_hd {c : Nat → Tx} {n : Nat} {g : List Nat} (h : g ∈ pN c n) : ∃ j, g[0]? = some j ∧ j < n ∧ ∀ i ∈ g, c i = c j := by
  obtain ⟨k, hk, rfl⟩ := List.mem_map.mp h
  have hm : k ∈ grp c n k := pk_grp.mpr ⟨(pk_fi.mp hk).1, rfl⟩
  cases e : grp c n k with
  | nil => rw [e] at hm; cases hm
  | cons a r =>
    have ha : a ∈ grp c n k := by rw [e]; simp
    refine ⟨a, rfl, (pk_grp.mp ha).1, fun i hi => ?_⟩
    rw [← e] at hi
    exact (pk_grp.mp hi).2.trans (pk_grp.mp ha).2.symm
theorem packs_congr {c c' : Nat → Tx} {n : Nat} (h : ∀ k, k < n → c k = c' k) : packsOf c n = packsOf c' n := by
  have e1 : fi c n = fi c' n := by
    unfold fi
    refine List.filter_congr fun k hk => ?_
    have hk := List.mem_range.mp hk
    unfold isFirst
    rw [Bool.eq_iff_iff, List.all_eq_true, List.all_eq_true]
    constructor <;> intro z j hj <;> have := z j hj <;> have hj := List.mem_range.mp hj <;> simp only [h j (by omega), h k hk] at * <;> exact this
  unfold packsOf
  rw [e1]
  refine List.map_congr_left fun k hk => ?_
  have hk := (pk_fi.mp hk).1
  unfold grp
  congr 1
  refine List.filter_congr fun j hj => ?_
  rw [h j (List.mem_range.mp hj), h k hk]
theorem dput_new {kvs : List (Int × Int)} {k a : Int} (h : k ∉ kvs.map (·.1)) (hl : kvs.length < 100000) : dput kvs k a = .ok (kvs ++ [(k, a)]) := by
  unfold dput
  rw [must_ok hl]
  unfold putD
  rw [if_neg]
  intro z
  rw [List.any_eq_true] at z
  obtain ⟨x, h1, h2⟩ := z
  exact h (List.mem_map.mpr ⟨x, h1, of_decide_eq_true h2⟩)
theorem put_all (a : Int) : ∀ (pk : List Int) (s : List (Int × Int)), (s.map (·.1) ++ pk).Nodup → s.length + pk.length < 100000 → forR (fun (a22 : Int) (s24 : List (Int × Int)) => dput s24 a22 a) pk s = .ok (s ++ pk.map fun k => (k, a))
  | [], s, _, _ => by simp [forR]
  | k :: r, s, h, hl => by
    unfold forR
    have hk : k ∉ s.map (·.1) := fun z => by
      rw [List.nodup_append] at h
      exact h.2.2 k z k (by simp) rfl
    rw [dput_new hk (by simp at hl; omega), Res.bind_ok', put_all a r _ (by simpa using h) (by simp at hl ⊢; omega)]
    simp
def homes (packs : List (List Int)) : List (Int × Int) := (enumL packs).flatMap fun p => p.2.map fun k => (k, p.1)
theorem homes_keys (packs : List (List Int)) : (homes packs).map (·.1) = packs.flatten := by
  unfold homes
  rw [List.map_flatMap]
  simp only [List.map_map, Function.comp_def, List.map_id']
  rw [List.flatMap_def, enum_snd]
theorem homes_ok {packs : List (List Int)} (h : packs.flatten.Nodup) (hl : packs.flatten.length < 100000) : forR (fun (a8 : Int × (List Int)) (s10 : List (Int × Int)) => forR (fun (a22 : Int) (s24 : List (Int × Int)) => dput s24 a22 a8.1) a8.2 s10) (enumL packs) ([] : List (Int × Int)) = .ok (homes packs) := by
  obtain ⟨s, e, hs⟩ := forR_inv (f := fun (a8 : Int × (List Int)) (s10 : List (Int × Int)) => forR (fun (a22 : Int) (s24 : List (Int × Int)) => dput s24 a22 a8.1) a8.2 s10) (fun pre (s : List (Int × Int)) => s = pre.flatMap fun p => p.2.map fun k => (k, p.1)) (enumL packs) [] rfl (by
    intro pre a post s e hs
    have hk : s.map (·.1) = (pre.map (·.2)).flatten := by
      rw [hs, List.map_flatMap]
      simp only [List.map_map, Function.comp_def, List.map_id']
      rw [List.flatMap_def]
    have hp : packs = pre.map (·.2) ++ a.2 :: post.map (·.2) := by rw [← enum_snd packs, e]; simp
    have hnd : (s.map (·.1) ++ a.2).Nodup := by
      rw [hk]
      rw [hp] at h
      rw [List.flatten_append, List.flatten_cons, ← List.append_assoc] at h
      exact (List.nodup_append.mp h).1
    have hll : s.length + a.2.length < 100000 := by
      have h1 : s.length = ((pre.map (·.2)).flatten).length := by rw [← hk, List.length_map]
      rw [hp, List.flatten_append, List.flatten_cons, List.length_append, List.length_append] at hl
      omega
    refine ⟨_, put_all a.1 a.2 s hnd hll, ?_⟩
    rw [hs]; simp)
  rw [e, hs]; rfl
theorem look_of {kvs : List (Int × Int)} (h : (kvs.map (·.1)).Nodup) {k a : Int} (hm : (k, a) ∈ kvs) : look kvs k = some a := by
  induction kvs with
  | nil => cases hm
  | cons x r ih =>
    unfold look
    rw [List.map_cons, List.nodup_cons] at h
    by_cases e : x.1 = k
    · rw [List.find?_cons_of_pos (by simpa using e)]
      rcases List.mem_cons.mp hm with z | z
      · rw [← z]; rfl
      · exact absurd (List.mem_map.mpr ⟨(k, a), z, e.symm⟩) h.1
    · rw [List.find?_cons_of_neg (by simpa using e)]
      rcases List.mem_cons.mp hm with z | z
      · exact absurd (by rw [← z]) e
      · exact ih h.2 z
def cAt (cols : List Tx) (k : Nat) : Tx := cols[k]?.getD []
def joinR (cols : List Tx) (m : Nat) : List Tx := (List.range m).map fun r => cols.map fun t => t[r]?.getD 0
structure GC (w m : Nat) (cols : List Tx) : Prop where
  len : cols.length = w
  col : ∀ t ∈ cols, t.length = m
theorem cols_ok {s : List Int} (hs : s.length ≤ 63) (w m : Nat) (hw : w ≤ 9) (hm : m ≤ 300) : ∃ cols, m_l_cols s (2 : Int) (w : Int) (m : Int) = .ok cols ∧ GC w m cols := by
  unfold m_l_cols M_l_cols
  rw [rangeR_ok (by omega), Res.bind_ok']
  obtain ⟨cols, e, h1, h2⟩ := forR_inv (f := M_l_cols_b1 m_l_at m_l_turns s (2 : Int) (m : Int)) (fun pre (c : List Tx) => c.length = pre.length ∧ ∀ t ∈ c, t.length = m) ((List.range w).map fun (i : Nat) => (i : Int)) [] ⟨rfl, by simp⟩ (by
    intro pre a post c e ⟨h1, h2⟩
    have hlen : pre.length < w := by have := congrArg List.length e; simp at this; omega
    have ha : a = (pre.length : Int) := by
      have : ((List.range w).map fun (i : Nat) => (i : Int))[pre.length]? = some a := by rw [e]; simp
      rw [List.getElem?_map, List.getElem?_range hlen] at this
      exact (Option.some.inj this).symm
    subst ha
    obtain ⟨v, ev⟩ := at_ok hs (2 + pre.length) (by omega)
    have ev : m_l_at s ((2 : Int) + (pre.length : Int)) = .ok v := by rw [← ev]; congr 1
    obtain ⟨t, et, ht, _⟩ := turns_ok (v / 4) m (by omega)
    unfold M_l_cols_b1
    rw [ev]
    simp only [Res.bind_ok', et]
    have get : ∀ (x : Int), (0 : Int) < (pre.length : Int) → ∃ y, (modR x (pre.length : Int)).bind (fun z => ixL c z) = .ok y ∧ y.length = m := fun x hx => by
      have b0 := Int.emod_nonneg x (show (pre.length : Int) ≠ 0 by omega)
      have b1 := Int.emod_lt_of_pos x hx
      rw [modR_ok hx, Res.bind_ok']
      obtain ⟨y, ey, hy⟩ := ixL_get (xs := c) (i := x % (pre.length : Int)) b0 (by omega)
      exact ⟨y, ey, h2 y (List.mem_of_getElem? hy)⟩
    have fin : ∀ y : Tx, y.length = m → ∃ s', ((appL c y).bind fun y106 => Res.ok y106) = .ok s' ∧ s'.length = (pre ++ [(pre.length : Int)]).length ∧ ∀ t ∈ s', t.length = m := fun y hy => by
      rw [appL_ok (by omega)]
      refine ⟨_, rfl, by simp [h1], fun x hx => ?_⟩
      rcases List.mem_append.mp hx with z | z
      · exact h2 x z
      · rw [List.mem_singleton.mp z]; exact hy
    obtain ⟨u, eu, hu⟩ : ∃ u : Tx, ((if decide ((0 : Int) < (pre.length : Int)) = true then Res.ok (decide (v % 4 < (2 : Int))) else Res.ok false).bind fun y43 => (if y43 = true then ((modR (v / 4) (pre.length : Int)).bind fun y52 => ixL c y52).bind fun y53 => Res.ok y53 else Res.ok t : Res Tx)) = .ok u ∧ u.length = m := by
      by_cases z : (0 : Int) < (pre.length : Int)
      · by_cases z2 : v % 4 < 2
        · obtain ⟨y, ey, hy⟩ := get (v / 4) z
          simp only [z, z2, decide_true, if_true, Res.bind_ok', ey]
          exact ⟨y, rfl, hy⟩
        · simp only [z, z2, decide_true, decide_false, if_true, Res.bind_ok', Bool.false_eq_true, if_false]
          exact ⟨t, rfl, ht⟩
      · simp only [z, decide_false, Res.bind_ok', Bool.false_eq_true, if_false]
        exact ⟨t, rfl, ht⟩
    rw [eu]
    simp only [Res.bind_ok']
    by_cases z : (0 : Int) < (pre.length : Int)
    · by_cases z2 : (0 : Int) < (m : Int)
      · by_cases z3 : v % 4 = 2
        · obtain ⟨y, ey, hy⟩ := get (v / 4) z
          simp only [z, z2, z3, decide_true, if_true, Res.bind_ok', ey]
          have b0 := Int.emod_nonneg (v / 32) (show (m : Int) ≠ 0 by omega)
          have b1 := Int.emod_lt_of_pos (v / 32) z2
          rw [modR_ok z2, Res.bind_ok']
          obtain ⟨i, hi⟩ : ∃ i : Nat, v / 32 % (m : Int) = (i : Int) := ⟨(v / 32 % (m : Int)).toNat, by omega⟩
          rw [hi] at b1 ⊢
          obtain ⟨x, ex, _⟩ := fbi_at (v / 7 % 3) (by omega) (by omega)
          rw [cutS_ok (by omega), cutS_ok (by omega), ex]
          rw [show (i : Int) + 1 = ((i + 1 : Nat) : Int) from rfl, cut_take, cut_drop]
          simp only [Res.bind_ok']
          rw [catS_ok (by simp; omega), Res.bind_ok', catS_ok (by simp; omega)]
          simp only [Res.bind_ok']
          exact fin _ (by simp; omega)
        · simp only [z, z2, z3, decide_true, decide_false, if_true, Res.bind_ok', Bool.false_eq_true, if_false]
          exact fin u hu
      · simp only [z, z2, decide_true, decide_false, if_true, Res.bind_ok', Bool.false_eq_true, if_false]
        exact fin u hu
    · simp only [z, decide_false, Res.bind_ok', Bool.false_eq_true, if_false]
      exact fin u hu)
  rw [e]
  exact ⟨cols, rfl, by rw [h1]; simp, h2⟩
section
variable {w m : Nat} {cols : List Tx}
theorem GC.at (h : GC w m cols) {k : Nat} (hk : k < w) : cols[k]? = some (cAt cols k) ∧ (cAt cols k).length = m := by
  have hl : k < cols.length := by rw [h.len]; exact hk
  have e : cols[k]? = some cols[k] := by simp [hl]
  have e2 : cAt cols k = cols[k] := by unfold cAt; rw [e]; rfl
  exact ⟨by rw [e2]; exact e, by rw [e2]; exact h.col _ (List.getElem_mem hl)⟩
theorem joined_ok (h : GC w m cols) (hw : w ≤ 9) (hm : m ≤ 300) : m_l_joined cols (m : Int) = .ok (joinR cols m) := by
  unfold m_l_joined M_l_joined
  rw [rangeR_ok (by omega), Res.bind_ok', compR_ok (g := fun (a : Int) => cols.map fun t => t[a.toNat]?.getD 0) (by simp [cap]; omega) fun a ha => ?_]
  · unfold joinR
    rw [List.map_map]; rfl
  · obtain ⟨r, hr, rfl⟩ := List.mem_map.mp ha
    have hr := List.mem_range.mp hr
    rw [compR_ok (g := fun (t : Tx) => [t[r]?.getD 0]) (by have := h.len; simp [cap]; omega) fun t ht => by
      have := ixS_of (x := t) (i := (r : Int)) (by omega) (by rw [h.col t ht]; omega) (by rw [h.col t ht]; omega)
      rw [this]; simp]
    rw [Res.bind_ok', joinE_ok, show (cols.map fun t : Tx => [t[r]?.getD 0]) = (cols.map fun t : Tx => t[r]?.getD 0).map fun c => [c] by rw [List.map_map]; rfl, flat1]
    · simp
    · rw [show (cols.map fun t : Tx => [t[r]?.getD 0]) = (cols.map fun t : Tx => t[r]?.getD 0).map fun c => [c] by rw [List.map_map]; rfl, flat1]
      have := h.len; simp; omega
theorem join_row (h : GC w m cols) {row : Tx} (hr : row ∈ joinR cols m) : row.length = w ∧ ∃ r, r < m ∧ ∀ k, k < w → row[k]? = some ((cAt cols k)[r]?.getD 0) := by
  obtain ⟨r, hr', rfl⟩ := List.mem_map.mp hr
  refine ⟨by simp [h.len], r, List.mem_range.mp hr', fun k hk => ?_⟩
  rw [List.getElem?_map, (h.at hk).1]; rfl
theorem ixS_row (h : GC w m cols) (hw : w ≤ 9) {row : Tx} (hr : row ∈ joinR cols m) {k : Nat} (hk : k < w) : ixS row (k : Int) = .ok [row[k]?.getD 0] := by
  have := (join_row h hr).1
  have := ixS_of (x := row) (i := (k : Int)) (by omega) (by omega) (by omega)
  rw [this]; simp
theorem column_ok (h : GC w m cols) (hw : w ≤ 9) (hm : m ≤ 300) {k : Nat} (hk : k < w) : m_column (joinR cols m) (k : Int) = .ok (cAt cols k) := by
  unfold m_column M_column
  have hl : (joinR cols m).length = m := by simp [joinR]
  have e : ((joinR cols m).map fun row : Tx => [row[k]?.getD 0]) = (cAt cols k).map fun c => [c] := by
    apply List.ext_getElem?
    intro i
    rw [List.getElem?_map, List.getElem?_map]
    by_cases hi : i < m
    · have h1 : (joinR cols m)[i]? = some (cols.map fun t => t[i]?.getD 0) := by unfold joinR; rw [List.getElem?_map, List.getElem?_range hi]; rfl
      have h2 : (cAt cols k)[i]? = some ((cAt cols k)[i]?.getD 0) := by
        have : i < (cAt cols k).length := by rw [(h.at hk).2]; exact hi
        simp [this]
      rw [h1, h2]
      simp only [Option.map_some]
      rw [List.getElem?_map, (h.at hk).1]; simp
    · rw [List.getElem?_eq_none_iff.mpr (by omega), List.getElem?_eq_none_iff.mpr (by rw [(h.at hk).2]; omega)]; rfl
  rw [compR_ok (g := fun (row : Tx) => [row[k]?.getD 0]) (by simp [cap, hl]; omega) fun row hr => ixS_row h hw hr hk, Res.bind_ok', e, joinE_ok (by rw [flat1, (h.at hk).2]; omega), flat1]
open Classical in
theorem grouped_ok (h : GC w m cols) (hw : w ≤ 9) (hm : m ≤ 300) : m_grouped (joinR cols m) (w : Int) = .ok (packsOf (cAt cols) w) := by
  unfold m_grouped M_grouped
  rw [must_ok ⟨by omega, by omega, fun k hk => ⟨_, column_ok h hw hm (by simpa using hk)⟩⟩]
  congr 1
  rw [Int.toNat_natCast]
  exact packs_congr fun k hk => by unfold colR; rw [column_ok h hw hm hk]
theorem groups_ok (h : GC w m cols) (hw : w ≤ 9) : m_l_groups cols = .ok (packsOf (cAt cols) w) := by
  unfold m_l_groups M_l_groups
  have hl := h.len
  obtain ⟨s, e, hs⟩ := forR_inv (f := M_l_groups_b1 cols) (fun pre (s : List (List Int)) => s = ((List.range pre.length).filter (isFirst (cAt cols))).map fun k => (grp (cAt cols) w k).map fun (j : Nat) => (j : Int)) (enumL cols) [] rfl (by
    intro pre a post s e hs
    have hlen : pre.length < w := by have := congrArg List.length e; rw [enum_length] at this; simp at this; omega
    have ha : (enumL cols)[pre.length]? = some a := by rw [e]; simp
    obtain ⟨a1, a2⟩ := enum_of ha
    have ea : a.2 = cAt cols pre.length := by rw [(h.at hlen).1] at a2; exact (Option.some.inj a2).symm
    have hf : isFirst (cAt cols) pre.length = !(cut cols none (some a.1)).contains a.2 := by
      rw [a1, cut_take, ea, Bool.eq_iff_iff]
      unfold isFirst
      rw [List.all_eq_true, Bool.not_eq_true', ← Bool.not_eq_true, List.contains_iff_mem]
      constructor
      · intro z hm
        obtain ⟨i, hi⟩ := List.mem_iff_getElem?.mp hm
        rw [List.getElem?_take] at hi
        by_cases z2 : i < pre.length
        · rw [if_pos z2, (h.at (by omega)).1] at hi
          have := z i (List.mem_range.mpr z2)
          simp at this
          exact this (Option.some.inj hi)
        · rw [if_neg z2] at hi; cases hi
      · intro z j hj
        have hj := List.mem_range.mp hj
        simp only [decide_eq_true_eq]
        intro y
        exact z (List.mem_iff_getElem?.mpr ⟨j, by rw [List.getElem?_take, if_pos hj, (h.at (by omega)).1, y]⟩)
    have hsl : s.length ≤ 9 := by
      rw [hs, List.length_map]
      have := List.length_filter_le (isFirst (cAt cols)) (List.range pre.length)
      simp at this; omega
    unfold M_l_groups_b1
    rw [← hf, show (pre ++ [a]).length = pre.length + 1 by simp, List.range_succ, List.filter_append, List.map_append, ← hs]
    by_cases z : isFirst (cAt cols) pre.length = true
    · rw [z]
      simp only [if_true]
      rw [rangeLn_ok (by unfold cap; omega), Res.bind_ok', compF_ok (g := fun (i : Int) => if cAt cols i.toNat = cAt cols pre.length then some i else none) (by simp [rangeN]; omega) fun i hi => ?_]
      · simp only [Res.bind_ok']
        rw [appL_ok (by omega)]
        refine ⟨_, rfl, ?_⟩
        congr 1
        simp only [List.filter_cons, z, if_true, List.filter_nil, List.map_cons, List.map_nil]
        congr 1
        unfold rangeN grp
        rw [List.filterMap_map, Int.toNat_natCast, hl]
        rw [show ((fun (i : Int) => if cAt cols i.toNat = cAt cols pre.length then some i else none) ∘ fun (i : Nat) => (i : Int)) = fun (i : Nat) => if cAt cols i = cAt cols pre.length then some (i : Int) else none from by funext i; simp]
        induction List.range w with
        | nil => rfl
        | cons x r ih =>
          rw [List.filterMap_cons, List.filter_cons]
          by_cases y : cAt cols x = cAt cols pre.length
          · simp only [y, if_true, decide_true, List.map_cons]; rw [ih]
          · simp only [y, if_false, decide_false, Bool.false_eq_true]; rw [ih]
      · obtain ⟨j, hj, rfl⟩ := List.mem_map.mp hi
        have hj : j < w := by have := List.mem_range.mp hj; simpa [hl] using this
        rw [show ixL cols (j : Int) = .ok (cAt cols j) from ixL_ok (h.at hj).1]
        simp only [Res.bind_ok', Int.toNat_natCast, ea]
        by_cases y : cAt cols j = cAt cols pre.length <;> simp [y]
    · rw [Bool.not_eq_true] at z
      rw [z]
      simp only [Bool.false_eq_true, if_false, Res.bind_ok']
      exact ⟨s, rfl, by simp [z]⟩)
  rw [e, hs, enum_length, hl]
  rfl
def callOf (packs : List (List Nat)) (row : Tx) : Tx := packs.map fun g => row[g[0]?.getD 0]?.getD 0
theorem call_row (h : GC w m cols) (hw : w ≤ 9) {row : Tx} (hr : row ∈ joinR cols m) : ∀ g ∈ pN (cAt cols) w, ∃ j : Nat, (g.map fun (i : Nat) => (i : Int))[0]? = some (j : Int) ∧ j = g[0]?.getD 0 ∧ j < w ∧ ixS row (j : Int) = .ok [row[g[0]?.getD 0]?.getD 0] := fun g hg => by
  obtain ⟨j, h1, h2, _⟩ := pN_hd hg
  refine ⟨j, by rw [List.getElem?_map, h1]; rfl, by rw [h1]; rfl, h2, ?_⟩
  rw [ixS_row h hw hr h2, h1]; rfl
theorem packs_len (hw : w ≤ 9) : (pN (cAt cols) w).length ≤ 9 := by
  unfold pN fi
  rw [List.length_map]
  have := List.length_filter_le (isFirst (cAt cols)) (List.range w)
  simp at this; omega
theorem joinE_one (l : Tx) (hl : l.length ≤ 100000) : joinE (l.map fun c => [c]) = .ok l := by rw [joinE_ok (by rw [flat1]; exact hl), flat1]
theorem calls_ok (h : GC w m cols) (hw : w ≤ 9) (hm : m ≤ 300) : compR (joinR cols m) (fun (a53 : Tx) => (compR (packsOf (cAt cols) w) (fun (a61 : List Int) => (ixL a61 (0 : Int)).bind fun y68 => ixS a53 y68)).bind fun y71 => joinE y71) = .ok ((joinR cols m).map (callOf (pN (cAt cols) w))) := by
  refine compR_ok (by simp [joinR, cap]; omega) fun row hr => ?_
  have hp := packs_len (cols := cols) hw
  rw [pN_packs, compR_ok (g := fun (pk : List Int) => [row[(pk[0]?.getD 0).toNat]?.getD 0]) (by simp [cap]; omega) fun pk hpk => ?_]
  · rw [Res.bind_ok', List.map_map]
    have : ((fun pk : List Int => [row[(pk[0]?.getD 0).toNat]?.getD 0]) ∘ fun g : List Nat => g.map fun (j : Nat) => (j : Int)) = (fun c => [c]) ∘ fun g : List Nat => row[g[0]?.getD 0]?.getD 0 := by
      funext g
      simp only [Function.comp]
      cases g with
      | nil => rfl
      | cons x r => simp
    rw [this, ← List.map_map]
    exact joinE_one _ (by simp; omega)
  · obtain ⟨g, hg, rfl⟩ := List.mem_map.mp hpk
    obtain ⟨j, h1, h2, _, h4⟩ := call_row h hw hr g hg
    rw [show ixL (g.map fun (j : Nat) => (j : Int)) (0 : Int) = .ok (j : Int) from (ixL_ok (j := 0) h1 : ixL (g.map fun (j : Nat) => (j : Int)) ((0 : Nat) : Int) = .ok (j : Int)), Res.bind_ok', h4, h1]
    simp [h2]
theorem called_ok (h : GC w m cols) (hw : w ≤ 9) (hm : m ≤ 300) : m_called (joinR cols m) (w : Int) = .ok ((joinR cols m).map (callOf (pN (cAt cols) w))) := by
  unfold m_called M_called
  have hp := packs_len (cols := cols) hw
  rw [grouped_ok h hw hm, Res.bind_ok', pN_packs, compR_ok (g := fun (pk : List Int) => pk[0]?.getD 0) (by simp [cap]; omega) fun pk hpk => ?_]
  · rw [Res.bind_ok', List.map_map]
    refine compR_ok (by simp [joinR, cap]; omega) fun row hr => ?_
    rw [compR_ok (g := fun (j : Int) => [row[j.toNat]?.getD 0]) (by simp [cap]; omega) fun j hj => ?_]
    · rw [Res.bind_ok', List.map_map]
      have : ((fun j : Int => [row[j.toNat]?.getD 0]) ∘ ((fun pk : List Int => pk[0]?.getD 0) ∘ fun g : List Nat => g.map fun (j : Nat) => (j : Int))) = (fun c => [c]) ∘ fun g : List Nat => row[g[0]?.getD 0]?.getD 0 := by
        funext g
        simp only [Function.comp]
        cases g with
        | nil => rfl
        | cons x r => simp
      rw [this, ← List.map_map]
      exact joinE_one _ (by simp; omega)
    · obtain ⟨g, hg, rfl⟩ := List.mem_map.mp hj
      obtain ⟨j, h1, h2, _, h4⟩ := call_row h hw hr g hg
      simp only [Function.comp, h1, Option.getD_some, Int.toNat_natCast]
      rw [h4, h2]
  · obtain ⟨g, hg, rfl⟩ := List.mem_map.mp hpk
    obtain ⟨j, h1, _⟩ := pN_hd hg
    have h1' : (g.map fun (j : Nat) => (j : Int))[0]? = some (j : Int) := by rw [List.getElem?_map, h1]; rfl
    rw [show ixL (g.map fun (j : Nat) => (j : Int)) (0 : Int) = .ok (j : Int) from (ixL_ok (j := 0) h1' : ixL (g.map fun (j : Nat) => (j : Int)) ((0 : Nat) : Int) = .ok (j : Int)), h1']
    rfl
theorem unpacked_ok (h : GC w m cols) (hw : w ≤ 9) (hm : m ≤ 300) : m_unpacked (packsOf (cAt cols) w) ((joinR cols m).map (callOf (pN (cAt cols) w))) = .ok (joinR cols m) := by
  unfold m_unpacked M_unpacked
  have hfl : (packsOf (cAt cols) w).flatten = (pN (cAt cols) w).flatten.map fun (j : Nat) => (j : Int) := by rw [pN_packs, List.map_flatten]
  have hperm := pN_perm (cAt cols) w
  have hlen : (packsOf (cAt cols) w).flatten.length = w := by rw [hfl, List.length_map, hperm.length_eq, List.length_range]
  have hnd : (packsOf (cAt cols) w).flatten.Nodup := by
    rw [hfl]
    exact List.Pairwise.map _ (fun a b hab e => hab (by omega)) (pN_nodup _ _)
  rw [homes_ok hnd (by omega), Res.bind_ok']
  have hk := homes_keys (packsOf (cAt cols) w)
  have hsort : sortD (homes (packsOf (cAt cols) w)) = .ok ((List.range w).map fun (i : Nat) => (i : Int)) := by
    unfold sortD
    have hl : (homes (packsOf (cAt cols) w)).length < 64 := by rw [← List.length_map (f := (·.1)), hk, hlen]; omega
    rw [must_ok hl, hk, hfl]
    congr 1
    refine (sorted_eq ((hperm.symm.map _)) ?_).symm
    rw [List.pairwise_map]
    exact List.pairwise_lt_range.imp fun h => by omega
  rw [compR_ok (g := fun (call : Tx) => (List.range w).map fun (k : Nat) => call[((look (homes (packsOf (cAt cols) w)) (k : Int)).getD 0).toNat]?.getD 0) (by simp [joinR, cap]; omega) fun call hc => ?_]
  · congr 1
    rw [List.map_map]
    conv => rhs; rw [← List.map_id (joinR cols m)]
    refine List.map_congr_left fun row hr => ?_
    simp only [Function.comp, id]
    obtain ⟨hrl, r, hr2, hrow⟩ := join_row h hr
    apply List.ext_getElem?
    intro k
    rw [List.getElem?_map]
    by_cases z : k < w
    · rw [List.getElem?_range z]
      simp only [Option.map_some]
      have hkm : k ∈ (pN (cAt cols) w).flatten := pN_flat_mem.mpr z
      obtain ⟨g, hg, hkg⟩ := List.mem_flatten.mp hkm
      obtain ⟨i, hi⟩ := List.mem_iff_getElem?.mp hg
      have hin : ((k : Int), (i : Int)) ∈ homes (packsOf (cAt cols) w) := by
        unfold homes
        rw [List.mem_flatMap]
        refine ⟨((i : Int), g.map fun (j : Nat) => (j : Int)), List.mem_iff_getElem?.mpr ⟨i, enum_at (by rw [pN_packs, List.getElem?_map, hi]; rfl)⟩, List.mem_map.mpr ⟨(k : Int), List.mem_map.mpr ⟨k, hkg, rfl⟩, rfl⟩⟩
      rw [look_of (by rw [hk]; exact hnd) hin]
      simp only [Option.getD_some, Int.toNat_natCast]
      unfold callOf
      rw [List.getElem?_map, hi]
      simp only [Option.map_some, Option.getD_some]
      obtain ⟨j, hj1, hj2, hj3⟩ := pN_hd hg
      rw [hj1]
      simp only [Option.getD_some]
      rw [hrow k z, hrow j hj2, hj3 k hkg]; rfl
    · rw [List.getElem?_eq_none_iff.mpr (by simp; omega), List.getElem?_eq_none_iff.mpr (by omega)]; rfl
  · obtain ⟨row, hr, rfl⟩ := List.mem_map.mp hc
    have hcl : (callOf (pN (cAt cols) w) row).length = (pN (cAt cols) w).length := by simp [callOf]
    have hp := packs_len (cols := cols) hw
    rw [hsort, Res.bind_ok', compR_ok (g := fun (k : Int) => [(callOf (pN (cAt cols) w) row)[((look (homes (packsOf (cAt cols) w)) k).getD 0).toNat]?.getD 0]) (by simp [cap]; omega) fun k hk' => ?_]
    · rw [Res.bind_ok', List.map_map, show ((fun k : Int => [(callOf (pN (cAt cols) w) row)[((look (homes (packsOf (cAt cols) w)) k).getD 0).toNat]?.getD 0]) ∘ fun (i : Nat) => (i : Int)) = (fun c => [c]) ∘ fun (k : Nat) => (callOf (pN (cAt cols) w) row)[((look (homes (packsOf (cAt cols) w)) (k : Int)).getD 0).toNat]?.getD 0 from rfl, ← List.map_map]
      exact joinE_one _ (by simp; omega)
    · obtain ⟨k, hk2, rfl⟩ := List.mem_map.mp hk'
      have z := List.mem_range.mp hk2
      have hkm : k ∈ (pN (cAt cols) w).flatten := pN_flat_mem.mpr z
      obtain ⟨g, hg, hkg⟩ := List.mem_flatten.mp hkm
      obtain ⟨i, hi⟩ := List.mem_iff_getElem?.mp hg
      have hin : ((k : Int), (i : Int)) ∈ homes (packsOf (cAt cols) w) := by
        unfold homes
        rw [List.mem_flatMap]
        refine ⟨((i : Int), g.map fun (j : Nat) => (j : Int)), List.mem_iff_getElem?.mpr ⟨i, enum_at (by rw [pN_packs, List.getElem?_map, hi]; rfl)⟩, List.mem_map.mpr ⟨(k : Int), List.mem_map.mpr ⟨k, hkg, rfl⟩, rfl⟩⟩
      have hlk := look_of (by rw [hk]; exact hnd) hin
      unfold getD
      rw [hlk]
      have hil : i < (pN (cAt cols) w).length := (List.getElem?_eq_some_iff.mp hi).1
      show (Res.ok (i : Int)).bind _ = _
      rw [Res.bind_ok', ixS_of (by omega) (by rw [hcl]; omega) (by rw [hcl]; omega)]
      simp
theorem enum_map {f : Nat → Tx} (m : Nat) : enumL ((List.range m).map f) = (List.range m).map fun (r : Nat) => ((r : Int), f r) := by
  apply List.ext_getElem?
  intro i
  rw [List.getElem?_map]
  by_cases hi : i < m
  · rw [List.getElem?_range hi, enum_at (x := f i) (by rw [List.getElem?_map, List.getElem?_range hi]; rfl)]; rfl
  · rw [List.getElem?_eq_none_iff.mpr (by rw [enum_length]; simp; omega), List.getElem?_eq_none_iff.mpr (by simp; omega)]; rfl
def ptO (a b : Tx) (m : Nat) : Option (Option Int) := (List.range m).findSome? fun (i : Nat) => if a[i]?.getD 0 = b[i]?.getD 0 then none else some (some (i : Int))
def ptI (a b : Tx) (m : Nat) : Option Int := match ptO a b m with | some r => r | none => none
theorem parts_ok {a b : Tx} (ha : a.length = m) (hb : b.length = m) (hm : m ≤ 300) : m_l_parts a b = .ok (ptI a b m) := by
  unfold m_l_parts M_l_parts
  rw [lenS_ok (by omega), Res.bind_ok', ha, rangeR_ok (by omega), Res.bind_ok', forF_find (g := fun (i : Int) => if a[i.toNat]?.getD 0 = b[i.toNat]?.getD 0 then none else some (some i)) _ fun i hi => ?_]
  · rw [List.findSome?_map]
    unfold ptI ptO
    rw [show ((fun (i : Int) => if a[i.toNat]?.getD 0 = b[i.toNat]?.getD 0 then none else some (some i)) ∘ fun (i : Nat) => (i : Int)) = fun (i : Nat) => if a[i]?.getD 0 = b[i]?.getD 0 then none else some (some (i : Int)) from by funext i; simp]
    cases (List.range m).findSome? fun (i : Nat) => if a[i]?.getD 0 = b[i]?.getD 0 then none else some (some (i : Int)) <;> rfl
  · obtain ⟨r, hr, rfl⟩ := List.mem_map.mp hi
    have hr := List.mem_range.mp hr
    unfold M_l_parts_b1
    rw [ixS_of (x := a) (by omega) (by omega) (by omega), ixS_of (x := b) (by omega) (by omega) (by omega)]
    simp only [Res.bind_ok', Int.toNat_natCast]
    by_cases z : a[r]?.getD 0 = b[r]?.getD 0 <;> simp [z]
theorem parted_ok (h : GC w m cols) (hw : w ≤ 9) (hm : m ≤ 300) {k j : Nat} (hk : k < w) (hj : j < w) : m_parted (joinR cols m) (k : Int) (j : Int) = .ok (ptI (cAt cols k) (cAt cols j) m) := by
  unfold m_parted M_parted
  rw [show enumL (joinR cols m) = _ from enum_map m, forF_find (g := fun (p : Int × Tx) => if p.2[k]?.getD 0 = p.2[j]?.getD 0 then none else some (some p.1)) _ fun p hp => ?_]
  · rw [List.findSome?_map]
    unfold ptI ptO
    rw [show ((fun (p : Int × Tx) => if p.2[k]?.getD 0 = p.2[j]?.getD 0 then none else some (some p.1)) ∘ fun (r : Nat) => ((r : Int), cols.map fun t => t[r]?.getD 0)) = fun (i : Nat) => if (cAt cols k)[i]?.getD 0 = (cAt cols j)[i]?.getD 0 then none else some (some (i : Int)) from by
      funext r
      simp only [Function.comp, List.getElem?_map, (h.at hk).1, (h.at hj).1, Option.map_some, Option.getD_some]]
    cases (List.range m).findSome? fun (i : Nat) => if (cAt cols k)[i]?.getD 0 = (cAt cols j)[i]?.getD 0 then none else some (some (i : Int)) <;> rfl
  · obtain ⟨r, hr, rfl⟩ := List.mem_map.mp hp
    have hrow : (cols.map fun t => t[r]?.getD 0) ∈ joinR cols m := List.mem_map.mpr ⟨r, hr, rfl⟩
    unfold M_parted_b1
    rw [ixS_row h hw hrow hk, ixS_row h hw hrow hj]
    simp only [Res.bind_ok']
    generalize (cols.map fun t => t[r]?.getD 0) = row
    by_cases z : row[k]?.getD 0 = row[j]?.getD 0 <;> simp [z]
theorem pt_none {a b : Tx} (ha : a.length = m) (hb : b.length = m) : (ptI a b m).isNone = decide (a = b) := by
  rw [Bool.eq_iff_iff, decide_eq_true_eq]
  have key : ptO a b m = none ↔ a = b := by
    unfold ptO
    rw [List.findSome?_eq_none_iff]
    constructor
    · intro h
      apply List.ext_getElem?
      intro i
      by_cases hi : i < m
      · have := h i (List.mem_range.mpr hi)
        by_cases z : a[i]?.getD 0 = b[i]?.getD 0
        · have e1 : i < a.length := by omega
          have e2 : i < b.length := by omega
          simp [e1, e2] at z ⊢
          exact z
        · simp [z] at this
      · rw [List.getElem?_eq_none_iff.mpr (by omega), List.getElem?_eq_none_iff.mpr (by omega)]
    · intro h i _
      rw [h]; simp
  rw [← key]
  unfold ptI
  cases e : ptO a b m with
  | none => simp
  | some r =>
    have hr : r.isNone = false := by
      unfold ptO at e
      obtain ⟨i, _, hi⟩ := List.exists_of_findSome?_eq_some e
      split at hi
      · cases hi
      · cases hi; rfl
    simp [hr]
theorem filt_one {l : List Nat} (nd : l.Nodup) {a : Nat} (h : a ∈ l) {p : Nat → Bool} (hp : ∀ x ∈ l, p x = true ↔ x = a) : (l.filter p).length = 1 := by
  induction l with
  | nil => cases h
  | cons x r ih =>
    rw [List.nodup_cons] at nd
    rw [List.filter_cons]
    by_cases z : x = a
    · rw [if_pos ((hp x (by simp)).mpr z)]
      have : r.filter p = [] := List.filter_eq_nil_iff.mpr fun y hy hy2 => nd.1 (by rw [z, ← (hp y (by simp [hy])).mp hy2]; exact hy)
      rw [this]; rfl
    · rw [if_neg fun y => z ((hp x (by simp)).mp y)]
      rcases List.mem_cons.mp h with y | y
      · exact absurd y.symm z
      · exact ih nd.2 y fun y hy => hp y (List.mem_cons_of_mem _ hy)
theorem has_pack {g : List Nat} {k : Nat} : (g.map fun (i : Nat) => (i : Int)).contains (k : Int) = g.contains k := by
  rw [Bool.eq_iff_iff, List.contains_iff_mem, List.contains_iff_mem, List.mem_map]
  constructor
  · rintro ⟨x, h1, h2⟩
    have : x = k := by omega
    rw [← this]; exact h1
  · exact fun h => ⟨k, h, rfl⟩
theorem both_ok (h : GC w m cols) (hw : w ≤ 9) {k j : Nat} (hk : k < w) (hj : j < w) : ∃ l, compF (packsOf (cAt cols) w) (fun (a184 : List Int) => (if a184.contains (k : Int) = true then Res.ok (a184.contains (j : Int)) else Res.ok false).bind fun y194 => if y194 = true then Res.ok (some a184) else Res.ok none) = .ok l ∧ decide ((l.length : Int) = 1) = decide (cAt cols k = cAt cols j) := by
  have hp := packs_len (cols := cols) hw
  rw [pN_packs, compF_ok (g := fun (pk : List Int) => if pk.contains (k : Int) = true ∧ pk.contains (j : Int) = true then some pk else none) (by simp; omega) fun pk _ => by
    cases pk.contains (k : Int) <;> cases pk.contains (j : Int) <;> simp]
  refine ⟨_, rfl, ?_⟩
  have e : (((pN (cAt cols) w).map fun g => g.map fun (i : Nat) => (i : Int)).filterMap fun (pk : List Int) => if pk.contains (k : Int) = true ∧ pk.contains (j : Int) = true then some pk else none).length = ((fi (cAt cols) w).filter fun f => decide (cAt cols k = cAt cols f ∧ cAt cols j = cAt cols f)).length := by
    unfold pN
    rw [List.map_map]
    induction fi (cAt cols) w with
    | nil => rfl
    | cons x r ih =>
      rw [List.map_cons, List.filterMap_cons, List.filter_cons]
      have hc : ∀ i, i < w → ((grp (cAt cols) w x).contains i = true ↔ cAt cols i = cAt cols x) := fun i hi => by rw [List.contains_iff_mem, pk_grp]; exact ⟨fun z => z.2, fun z => ⟨hi, z⟩⟩
      simp only [Function.comp, has_pack, hc k hk, hc j hj]
      by_cases z : cAt cols k = cAt cols x ∧ cAt cols j = cAt cols x
      · rw [if_pos z, if_pos (by simpa using z)]
        simp only [List.length_cons]
        rw [ih]
      · rw [if_neg z, if_neg (by simpa using z)]; first | exact ih | (simp only [Function.comp, has_pack] at ih; exact ih)
  rw [e]
  by_cases z : cAt cols k = cAt cols j
  · obtain ⟨f, hf, ef⟩ := pk_first (c := cAt cols) k hk
    rw [filt_one (fi_nodup _ _) hf fun x hx => by
      rw [decide_eq_true_eq]
      exact ⟨fun y => pk_inj hx hf (y.1.symm.trans ef.symm), fun y => by rw [y]; exact ⟨ef.symm, by rw [← z]; exact ef.symm⟩⟩]
    simp [z]
  · rw [List.filter_eq_nil_iff.mpr fun x _ y => z (by simp at y; exact y.1.trans y.2.symm)]
    simp [z]
theorem law_b1_ok (h : GC w m cols) (hw : w ≤ 9) (hm : m ≤ 300) {k j : Nat} (hk : k < w) (hj : j < w) : M_law_b1 m_l_parts m_parted cols (joinR cols m) (packsOf (cAt cols) w) (k : Int) (j : Int) () = .ok (.nx ()) := by
  unfold M_law_b1
  rw [ixL_ok (h.at hk).1, ixL_ok (h.at hj).1]
  simp only [Res.bind_ok']
  rw [parts_ok (h.at hk).2 (h.at hj).2 hm, parted_ok h hw hm hk hj]
  simp only [Res.bind_ok', eqR_ok rfl, Bool.not_true, Bool.false_eq_true, if_false]
  obtain ⟨l, e, hl⟩ := both_ok h hw hk hj
  rw [e]
  simp only [Res.bind_ok', hl, pt_none (h.at hk).2 (h.at hj).2, decide_true, Bool.not_true, Bool.false_eq_true, if_false]
end
theorem range_mem {n : Nat} {pre post : List Int} {a : Int} (e : ((List.range n).map fun (i : Nat) => (i : Int)) = pre ++ a :: post) : ∃ k : Nat, k < n ∧ a = (k : Int) := by
  have : a ∈ (List.range n).map fun (i : Nat) => (i : Int) := by rw [e]; simp
  obtain ⟨k, hk, e⟩ := List.mem_map.mp this
  exact ⟨k, List.mem_range.mp hk, e.symm⟩
theorem law_ok (ns : List Int) (h : ns.length ≤ 63) : (m_law ns).Ok (· = true) := by
  unfold m_law M_law
  obtain ⟨a0, e0⟩ := at_ok h 0 (by omega)
  obtain ⟨a1, e1⟩ := at_ok h 1 (by omega)
  have e0 : m_l_at ns (0 : Int) = .ok a0 := e0
  have e1 : m_l_at ns (1 : Int) = .ok a1 := e1
  rw [e0, e1]
  simp only [Res.bind_ok']
  obtain ⟨w, hw⟩ : ∃ w : Nat, (1 : Int) + a0 % 8 = (w : Int) := ⟨((1 : Int) + a0 % 8).toNat, by omega⟩
  have hw8 : w ≤ 9 := by omega
  obtain ⟨m, em, hm⟩ : ∃ m : Nat, (if decide (a1 / 21 % 8 = (1 : Int)) = true then Res.ok (240 : Int) else Res.ok (a1 % 21) : Res Int) = .ok (m : Int) ∧ m ≤ 300 := by
    by_cases z : a1 / 21 % 8 = 1
    · rw [if_pos (by simpa using z)]; exact ⟨240, rfl, by omega⟩
    · rw [if_neg (by simpa using z)]; exact ⟨(a1 % 21).toNat, by congr 1; omega, by omega⟩
  rw [em, Res.bind_ok', hw, rangeR_ok (n := w) (by omega)]
  obtain ⟨cols, ec, g⟩ := cols_ok h w m hw8 hm
  rw [ec, Res.bind_ok', joined_ok g hw8 hm, Res.bind_ok', groups_ok g hw8, Res.bind_ok', calls_ok g hw8 hm, Res.bind_ok', grouped_ok g hw8 hm, Res.bind_ok', called_ok g hw8 hm, Res.bind_ok', unpacked_ok g hw8 hm]
  have hp := packs_len (cols := cols) hw8
  rw [compR_ok (xs := packsOf (cAt cols) w) (g := fun pk => pk) (by rw [pN_packs]; simp [cap]; omega) fun _ _ => rfl, List.map_id']
  simp only [Res.bind_ok', eqR_ok rfl, Bool.not_true, Bool.false_eq_true, if_false, unpacked_ok g hw8 hm]
  obtain ⟨s, e, _⟩ := forF_inv (f := M_law_b2 m_l_parts m_parted (w : Int) cols (joinR cols m) (packsOf (cAt cols) w)) (fun _ _ => True) ((List.range w).map fun (i : Nat) => (i : Int)) () trivial (by
    intro pre a post s e _
    obtain ⟨k, hk, rfl⟩ := range_mem e
    obtain ⟨s2, e2, _⟩ := forF_inv (f := M_law_b1 m_l_parts m_parted cols (joinR cols m) (packsOf (cAt cols) w) (k : Int)) (fun _ _ => True) ((List.range w).map fun (i : Nat) => (i : Int)) () trivial (by
      intro pre a post s e _
      obtain ⟨j, hj, rfl⟩ := range_mem e
      exact ⟨(), law_b1_ok g hw8 hm hk hj, trivial⟩)
    refine ⟨(), ?_, trivial⟩
    unfold M_law_b2
    rw [rangeR_ok (by omega), Res.bind_ok', e2]; rfl)
  rw [e]
  rfl
end Mi
def PySem.W.Fast.tw13810262117814702294 : Unit := ()
def PySem.W.Fast.tw8060666987683057360 : Unit := ()
def PySem.W.Fast.tw13769103115541136327 : Unit := ()
def PySem.W.Fast.tw11766667032028208565 : Unit := ()
def PySem.W.Fast.tw9919008367099125623 : Unit := ()
def PySem.W.Fast.tw6953138203311097117 : Unit := ()
def PySem.W.Fast.tw1725486776273817318 : Unit := ()
def PySem.W.Fast.tw2353497105660221152 : Unit := ()
def PySem.W.Fast.tw6469784823511061222 : Unit := ()
def PySem.W.Fast.tw5444512763150141072 : Unit := ()
def PySem.W.Fast.tw16140922888777852060 : Unit := ()
def PySem.W.Fast.tw17062427158221528723 : Unit := ()
def PySem.W.Fast.tw861502493610598483 : Unit := ()
def PySem.W.Fast.tw5449601097390414333 : Unit := ()
def PySem.W.Fast.tw17214186515701724070 : Unit := ()
def PySem.W.Fast.tw6356304189028158447 : Unit := ()
def PySem.W.Fast.tw4077048163395320219 : Unit := ()
def PySem.W.Fast.tw11823594873375168262 : Unit := ()
def PySem.W.Fast.tw7424060955962978353 : Unit := ()
def PySem.W.Fast.tw12727641955093265886 : Unit := ()
def PySem.W.Fast.tw17963105932079019327 : Unit := ()
def PySem.W.Fast.tw11401859456886640639 : Unit := ()
def PySem.W.Fast.tw938635154573522699 : Unit := ()
def PySem.W.Fast.tw14703100239697439463 : Unit := ()
def PySem.W.Fast.tw3419001889969749887 : Unit := ()
def PySem.W.Fast.tw4635989785427082552 : Unit := ()
def PySem.W.Fast.tw2400638427578300857 : Unit := ()
def PySem.W.Fast.tw6229817132586351632 : Unit := ()
def PySem.W.Fast.tw3042748168174471775 : Unit := ()
def PySem.W.Fast.tw3300454383303005205 : Unit := ()
def PySem.W.Fast.tw7476452910721959123 : Unit := ()
def PySem.W.Fast.tw14955867047931536645 : Unit := ()
def PySem.W.Fast.tw3239113980409921550 : Unit := ()
def PySem.W.Fast.tw4490611911172417597 : Unit := ()
def PySem.W.Fast.tw3543459598558145280 : Unit := ()
def PySem.W.Fast.tw18101783494082082527 : Unit := ()
def PySem.W.Fast.tw10374632558016547081 : Unit := ()
def PySem.W.Fast.tw643336161829623379 : Unit := ()
def PySem.W.Fast.tw6002674938131639716 : Unit := ()
def PySem.W.Fast.tw6522051377940421278 : Unit := ()
def PySem.W.Fast.tw9796564346219866840 : Unit := ()
def PySem.W.Fast.tw11564986514327137767 : Unit := ()
def PySem.W.Fast.tw4884199854448574 : Unit := ()
def PySem.W.Fast.tw10016166984437732892 : Unit := ()
def PySem.W.Fast.tw5362036446546632119 : Unit := ()
def PySem.W.Fast.tw2295934692909999376 : Unit := ()
def PySem.W.Fast.tw14226173905949225808 : Unit := ()
def PySem.W.Fast.tw12382822922155266910 : Unit := ()
def PySem.W.Fast.tw7217548393331319763 : Unit := ()
def PySem.W.Fast.tw11421057715548341654 : Unit := ()
def PySem.W.Fast.tw2646887283097553488 : Unit := ()
def PySem.W.Fast.tw3382625519597670723 : Unit := ()
def PySem.W.Fast.tw5498123283257192965 : Unit := ()
def PySem.W.Fast.tw2692750590507578028 : Unit := ()
def PySem.W.Fast.tw5438652380644606353 : Unit := ()
def PySem.W.Fast.tw16053306600634468012 : Unit := ()
def PySem.W.Fast.tw14935467056822913822 : Unit := ()
def PySem.W.Fast.tw16864618592142003386 : Unit := ()
def PySem.W.Fast.tw2789304352393801511 : Unit := ()
def PySem.W.Fast.tw5702276774652866934 : Unit := ()
def PySem.W.Fast.tw16279288168775177219 : Unit := ()
def PySem.W.Fast.tw2483420100392427323 : Unit := ()
def PySem.W.Fast.tw2950685276103557050 : Unit := ()
def PySem.W.Fast.tw10294118229990073760 : Unit := ()
def PySem.W.Fast.tw10792498714594961201 : Unit := ()
def PySem.W.Fast.tw16670775579421159206 : Unit := ()
def PySem.W.Fast.tw1624323068313547334 : Unit := ()
def PySem.W.Fast.tw8912161614967838395 : Unit := ()
def PySem.W.Fast.tw523537741815420091 : Unit := ()
def PySem.W.Fast.tw10295913840692754127 : Unit := ()
def PySem.W.Fast.tw7774113678449685934 : Unit := ()
def PySem.W.Fast.tw10869898076806036182 : Unit := ()
def PySem.W.Fast.tw18157406047293677543 : Unit := ()
def PySem.W.Fast.tw12176265147828701554 : Unit := ()
def PySem.W.Fast.tw15127105006835628225 : Unit := ()
def PySem.W.Fast.tw8159993647027272844 : Unit := ()
def PySem.W.Fast.tw1717767836212652739 : Unit := ()
def PySem.W.Fast.tw3641951560692057861 : Unit := ()
def PySem.W.Fast.tw8480184845173159842 : Unit := ()
def PySem.W.Fast.tw8972062959192195235 : Unit := ()
def PySem.W.Fast.tw2403389108928632939 : Unit := ()
def PySem.W.Fast.tw8297923619242306668 : Unit := ()
def PySem.W.Fast.tw4075453323654395381 : Unit := ()
def PySem.W.Fast.tw8997383693586321770 : Unit := ()
def PySem.W.Fast.tw11898673842065290130 : Unit := ()
def PySem.W.Fast.tw2409349359128827420 : Unit := ()
def PySem.W.Fast.tw9860861378791804195 : Unit := ()
section
open PySem PySem.W PyProof.Rows
set_option maxHeartbeats 0 in
open_top hd for PySem.Challenge.rw_wornband_k10_packs_back_to_plans
end
namespace Wb
open PySem L2 Mi
theorem law_imp {K : PySem.W.Frag} : ∀ vs H Q E, spLaw K vs H Q E → spM1 (isScr K) (rs isB) m_law vs H Q E := fun vs H Q E ⟨a, ns, h1, h2, h3, h4⟩ =>
  ⟨⟨H, H, .refl _⟩, ns, .ref a, rfl, h1, ⟨a, rfl, h2⟩, fun _ => False, Res.Ok.e ((law_ok ns h3).imp fun r hr u W' _ hu => by cases hr; cases hu; exact h4 _)⟩
theorem fin_mk {l : PySem.W.OpenLaw} {w : World} {K : PySem.W.Frag} {h : Heap} {mg : Str → Option Value} {fa : Addr} {f__law_same : Addr} {od__law_same an__law_same : Option Addr} {sl__law_same : Array (Option Value)} {oc__law_same kV__law_same dc__law_same pm__law_same cd__law_same ct__law_same : Value} {f__law_at : Addr} {od__law_at an__law_at : Option Addr} {sl__law_at : Array (Option Value)} {oc__law_at kV__law_at dc__law_at pm__law_at cd__law_at ct__law_at : Value} {f__law_row : Addr} {od__law_row an__law_row : Option Addr} {sl__law_row : Array (Option Value)} {oc__law_row kV__law_row dc__law_row pm__law_row cd__law_row ct__law_row : Value} {f__law_turns : Addr} {od__law_turns an__law_turns : Option Addr} {sl__law_turns : Array (Option Value)} {oc__law_turns kV__law_turns dc__law_turns pm__law_turns cd__law_turns ct__law_turns : Value} {f__law_cols : Addr} {od__law_cols an__law_cols : Option Addr} {sl__law_cols : Array (Option Value)} {oc__law_cols kV__law_cols dc__law_cols pm__law_cols cd__law_cols ct__law_cols : Value} {f__law_joined : Addr} {od__law_joined an__law_joined : Option Addr} {sl__law_joined : Array (Option Value)} {oc__law_joined kV__law_joined dc__law_joined pm__law_joined cd__law_joined ct__law_joined : Value} {f__law_groups : Addr} {od__law_groups an__law_groups : Option Addr} {sl__law_groups : Array (Option Value)} {oc__law_groups kV__law_groups dc__law_groups pm__law_groups cd__law_groups ct__law_groups : Value} {f_column : Addr} {od_column an_column : Option Addr} {sl_column : Array (Option Value)} {oc_column kV_column dc_column pm_column cd_column ct_column : Value} {f_grouped : Addr} {od_grouped an_grouped : Option Addr} {sl_grouped : Array (Option Value)} {oc_grouped kV_grouped dc_grouped pm_grouped cd_grouped ct_grouped : Value} {f_called : Addr} {od_called an_called : Option Addr} {sl_called : Array (Option Value)} {oc_called kV_called dc_called pm_called cd_called ct_called : Value} {f_unpacked : Addr} {od_unpacked an_unpacked : Option Addr} {sl_unpacked : Array (Option Value)} {oc_unpacked kV_unpacked dc_unpacked pm_unpacked cd_unpacked ct_unpacked : Value} {f__law_parts : Addr} {od__law_parts an__law_parts : Option Addr} {sl__law_parts : Array (Option Value)} {oc__law_parts kV__law_parts dc__law_parts pm__law_parts cd__law_parts ct__law_parts : Value} {f_parted : Addr} {od_parted an_parted : Option Addr} {sl_parted : Array (Option Value)} {oc_parted kV_parted dc_parted pm_parted cd_parted ct_parted : Value} {f_law : Addr} {od_law an_law : Option Addr} {sl_law : Array (Option Value)} {oc_law kV_law dc_law pm_law cd_law ct_law : Value} (X : K.In h) (G : h.Ns mainGlobals mg) (hfa : mg "law" = some (.ref fa))
    (a__law_same : PySem.W.nsIn K mainGlobals "_law_same" = some (some (.ref f__law_same)))
    (l__law_same : K.lookup f__law_same = some ⟨oc__law_same, od__law_same, .func (PySem.W.fnOf "_law_same" "_law_same" (defArgs (tp 14)) (defBody (tp 14)) (defScope (tp 14)) .none kV__law_same dc__law_same pm__law_same an__law_same cd__law_same ct__law_same), sl__law_same⟩)
    (c__law_same : PySem.W.codeIn K cd__law_same "_law_same" = true)
    (k__law_same : PySem.W.keepIn K (.ref f__law_same) = true)
    (a__law_at : PySem.W.nsIn K mainGlobals "_law_at" = some (some (.ref f__law_at)))
    (l__law_at : K.lookup f__law_at = some ⟨oc__law_at, od__law_at, .func (PySem.W.fnOf "_law_at" "_law_at" (defArgs (tp 10)) (defBody (tp 10)) (defScope (tp 10)) .none kV__law_at dc__law_at pm__law_at an__law_at cd__law_at ct__law_at), sl__law_at⟩)
    (c__law_at : PySem.W.codeIn K cd__law_at "_law_at" = true)
    (k__law_at : PySem.W.keepIn K (.ref f__law_at) = true)
    (a__law_row : PySem.W.nsIn K mainGlobals "_law_row" = some (some (.ref f__law_row)))
    (l__law_row : K.lookup f__law_row = some ⟨oc__law_row, od__law_row, .func (PySem.W.fnOf "_law_row" "_law_row" (defArgs (tp 8)) (defBody (tp 8)) (defScope (tp 8)) .none kV__law_row dc__law_row pm__law_row an__law_row cd__law_row ct__law_row), sl__law_row⟩)
    (c__law_row : PySem.W.codeIn K cd__law_row "_law_row" = true)
    (k__law_row : PySem.W.keepIn K (.ref f__law_row) = true)
    (a__law_turns : PySem.W.nsIn K mainGlobals "_law_turns" = some (some (.ref f__law_turns)))
    (l__law_turns : K.lookup f__law_turns = some ⟨oc__law_turns, od__law_turns, .func (PySem.W.fnOf "_law_turns" "_law_turns" (defArgs (tp 9)) (defBody (tp 9)) (defScope (tp 9)) .none kV__law_turns dc__law_turns pm__law_turns an__law_turns cd__law_turns ct__law_turns), sl__law_turns⟩)
    (c__law_turns : PySem.W.codeIn K cd__law_turns "_law_turns" = true)
    (k__law_turns : PySem.W.keepIn K (.ref f__law_turns) = true)
    (a__law_cols : PySem.W.nsIn K mainGlobals "_law_cols" = some (some (.ref f__law_cols)))
    (l__law_cols : K.lookup f__law_cols = some ⟨oc__law_cols, od__law_cols, .func (PySem.W.fnOf "_law_cols" "_law_cols" (defArgs (tp 11)) (defBody (tp 11)) (defScope (tp 11)) .none kV__law_cols dc__law_cols pm__law_cols an__law_cols cd__law_cols ct__law_cols), sl__law_cols⟩)
    (c__law_cols : PySem.W.codeIn K cd__law_cols "_law_cols" = true)
    (k__law_cols : PySem.W.keepIn K (.ref f__law_cols) = true)
    (a__law_joined : PySem.W.nsIn K mainGlobals "_law_joined" = some (some (.ref f__law_joined)))
    (l__law_joined : K.lookup f__law_joined = some ⟨oc__law_joined, od__law_joined, .func (PySem.W.fnOf "_law_joined" "_law_joined" (defArgs (tp 12)) (defBody (tp 12)) (defScope (tp 12)) .none kV__law_joined dc__law_joined pm__law_joined an__law_joined cd__law_joined ct__law_joined), sl__law_joined⟩)
    (c__law_joined : PySem.W.codeIn K cd__law_joined "_law_joined" = true)
    (k__law_joined : PySem.W.keepIn K (.ref f__law_joined) = true)
    (a__law_groups : PySem.W.nsIn K mainGlobals "_law_groups" = some (some (.ref f__law_groups)))
    (l__law_groups : K.lookup f__law_groups = some ⟨oc__law_groups, od__law_groups, .func (PySem.W.fnOf "_law_groups" "_law_groups" (defArgs (tp 13)) (defBody (tp 13)) (defScope (tp 13)) .none kV__law_groups dc__law_groups pm__law_groups an__law_groups cd__law_groups ct__law_groups), sl__law_groups⟩)
    (c__law_groups : PySem.W.codeIn K cd__law_groups "_law_groups" = true)
    (k__law_groups : PySem.W.keepIn K (.ref f__law_groups) = true)
    (a_column : PySem.W.nsIn K mainGlobals "column" = some (some (.ref f_column)))
    (l_column : K.lookup f_column = some ⟨oc_column, od_column, .func (PySem.W.fnOf "column" "column" (defArgs (tp 1)) (defBody (tp 1)) (defScope (tp 1)) .none kV_column dc_column pm_column an_column cd_column ct_column), sl_column⟩)
    (c_column : PySem.W.codeIn K cd_column "column" = true)
    (k_column : PySem.W.keepIn K (.ref f_column) = true)
    (a_grouped : PySem.W.nsIn K mainGlobals "grouped" = some (some (.ref f_grouped)))
    (l_grouped : K.lookup f_grouped = some ⟨oc_grouped, od_grouped, .func (PySem.W.fnOf "grouped" "grouped" (defArgs (tp 3)) (defBody (tp 3)) (defScope (tp 3)) .none kV_grouped dc_grouped pm_grouped an_grouped cd_grouped ct_grouped), sl_grouped⟩)
    (c_grouped : PySem.W.codeIn K cd_grouped "grouped" = true)
    (k_grouped : PySem.W.keepIn K (.ref f_grouped) = true)
    (a_called : PySem.W.nsIn K mainGlobals "called" = some (some (.ref f_called)))
    (l_called : K.lookup f_called = some ⟨oc_called, od_called, .func (PySem.W.fnOf "called" "called" (defArgs (tp 4)) (defBody (tp 4)) (defScope (tp 4)) .none kV_called dc_called pm_called an_called cd_called ct_called), sl_called⟩)
    (c_called : PySem.W.codeIn K cd_called "called" = true)
    (k_called : PySem.W.keepIn K (.ref f_called) = true)
    (a_unpacked : PySem.W.nsIn K mainGlobals "unpacked" = some (some (.ref f_unpacked)))
    (l_unpacked : K.lookup f_unpacked = some ⟨oc_unpacked, od_unpacked, .func (PySem.W.fnOf "unpacked" "unpacked" (defArgs (tp 5)) (defBody (tp 5)) (defScope (tp 5)) .none kV_unpacked dc_unpacked pm_unpacked an_unpacked cd_unpacked ct_unpacked), sl_unpacked⟩)
    (c_unpacked : PySem.W.codeIn K cd_unpacked "unpacked" = true)
    (k_unpacked : PySem.W.keepIn K (.ref f_unpacked) = true)
    (a__law_parts : PySem.W.nsIn K mainGlobals "_law_parts" = some (some (.ref f__law_parts)))
    (l__law_parts : K.lookup f__law_parts = some ⟨oc__law_parts, od__law_parts, .func (PySem.W.fnOf "_law_parts" "_law_parts" (defArgs (tp 15)) (defBody (tp 15)) (defScope (tp 15)) .none kV__law_parts dc__law_parts pm__law_parts an__law_parts cd__law_parts ct__law_parts), sl__law_parts⟩)
    (c__law_parts : PySem.W.codeIn K cd__law_parts "_law_parts" = true)
    (k__law_parts : PySem.W.keepIn K (.ref f__law_parts) = true)
    (a_parted : PySem.W.nsIn K mainGlobals "parted" = some (some (.ref f_parted)))
    (l_parted : K.lookup f_parted = some ⟨oc_parted, od_parted, .func (PySem.W.fnOf "parted" "parted" (defArgs (tp 6)) (defBody (tp 6)) (defScope (tp 6)) .none kV_parted dc_parted pm_parted an_parted cd_parted ct_parted), sl_parted⟩)
    (c_parted : PySem.W.codeIn K cd_parted "parted" = true)
    (k_parted : PySem.W.keepIn K (.ref f_parted) = true)
    (a_law : PySem.W.nsIn K mainGlobals "law" = some (some (.ref f_law)))
    (l_law : K.lookup f_law = some ⟨oc_law, od_law, .func (PySem.W.fnOf "law" "law" (defArgs (tp 16)) (defBody (tp 16)) (defScope (tp 16)) .none kV_law dc_law pm_law an_law cd_law ct_law), sl_law⟩)
    (c_law : PySem.W.codeIn K cd_law "law" = true)
    (k_law : PySem.W.keepIn K (.ref f_law) = true)
    (z_abs : PySem.W.nsIn K mainGlobals "abs" = some none)
    (z_bool : PySem.W.nsIn K mainGlobals "bool" = some none)
    (z_enumerate : PySem.W.nsIn K mainGlobals "enumerate" = some none)
    (z_int : PySem.W.nsIn K mainGlobals "int" = some none)
    (z_isinstance : PySem.W.nsIn K mainGlobals "isinstance" = some none)
    (z_len : PySem.W.nsIn K mainGlobals "len" = some none)
    (z_list : PySem.W.nsIn K mainGlobals "list" = some none)
    (z_range : PySem.W.nsIn K mainGlobals "range" = some none)
    (z_sorted : PySem.W.nsIn K mainGlobals "sorted" = some none)
    (z_str : PySem.W.nsIn K mainGlobals "str" = some none)
    (z_tuple : PySem.W.nsIn K mainGlobals "tuple" = some none)
    (z_zip : PySem.W.nsIn K mainGlobals "zip" = some none)
    : ∃ fd : FuncData, (∀ (s : Shared) (v : Value), BindsTo s fd ⟨[v], []⟩ [("_law_script", v)]) ∧ ∀ base : Heap, K.In base → base.Ns mainGlobals mg → FnOk l.prog w K mg base CX0 27 fa fd ["_law_script"] (spLaw K) := by
  have e := hfa.symm.trans (PySem.W.mg_of X G a_law)
  cases e
  have F__law_same := fun_mk (st := tp 14) l__law_same c__law_same k__law_same
  have b__law_same := F__law_same.binds (ps := ["_law_found", "_law_due"]) fun _ _ _ _ _ _ us hl => match us, hl with | [_, _], _ => rfl
  have F__law_at := fun_mk (st := tp 10) l__law_at c__law_at k__law_at
  have b__law_at := F__law_at.binds (ps := ["_law_script", "_law_k"]) fun _ _ _ _ _ _ us hl => match us, hl with | [_, _], _ => rfl
  have F__law_row := fun_mk (st := tp 8) l__law_row c__law_row k__law_row
  have b__law_row := F__law_row.binds (ps := ["_law_cell", "_law_many", "_law_base"]) fun _ _ _ _ _ _ us hl => match us, hl with | [_, _, _], _ => rfl
  have F__law_turns := fun_mk (st := tp 9) l__law_turns c__law_turns k__law_turns
  have b__law_turns := F__law_turns.binds (ps := ["_law_cell", "_law_many"]) fun _ _ _ _ _ _ us hl => match us, hl with | [_, _], _ => rfl
  have F__law_cols := fun_mk (st := tp 11) l__law_cols c__law_cols k__law_cols
  have b__law_cols := F__law_cols.binds (ps := ["_law_script", "_law_at_here", "_law_width", "_law_many"]) fun _ _ _ _ _ _ us hl => match us, hl with | [_, _, _, _], _ => rfl
  have F__law_joined := fun_mk (st := tp 12) l__law_joined c__law_joined k__law_joined
  have b__law_joined := F__law_joined.binds (ps := ["_law_cols_here", "_law_many"]) fun _ _ _ _ _ _ us hl => match us, hl with | [_, _], _ => rfl
  have F__law_groups := fun_mk (st := tp 13) l__law_groups c__law_groups k__law_groups
  have b__law_groups := F__law_groups.binds (ps := ["_law_cols_here"]) fun _ _ _ _ _ _ us hl => match us, hl with | [_], _ => rfl
  have F_column := fun_mk (st := tp 1) l_column c_column k_column
  have b_column := F_column.binds (ps := ["plan", "k"]) fun _ _ _ _ _ _ us hl => match us, hl with | [_, _], _ => rfl
  have F_grouped := fun_mk (st := tp 3) l_grouped c_grouped k_grouped
  have b_grouped := F_grouped.binds (ps := ["plan", "width"]) fun _ _ _ _ _ _ us hl => match us, hl with | [_, _], _ => rfl
  have F_called := fun_mk (st := tp 4) l_called c_called k_called
  have b_called := F_called.binds (ps := ["plan", "width"]) fun _ _ _ _ _ _ us hl => match us, hl with | [_, _], _ => rfl
  have F_unpacked := fun_mk (st := tp 5) l_unpacked c_unpacked k_unpacked
  have b_unpacked := F_unpacked.binds (ps := ["packs", "calls"]) fun _ _ _ _ _ _ us hl => match us, hl with | [_, _], _ => rfl
  have F__law_parts := fun_mk (st := tp 15) l__law_parts c__law_parts k__law_parts
  have b__law_parts := F__law_parts.binds (ps := ["_law_one", "_law_other"]) fun _ _ _ _ _ _ us hl => match us, hl with | [_, _], _ => rfl
  have F_parted := fun_mk (st := tp 6) l_parted c_parted k_parted
  have b_parted := F_parted.binds (ps := ["plan", "one", "other"]) fun _ _ _ _ _ _ us hl => match us, hl with | [_, _, _], _ => rfl
  have F_law := fun_mk (st := tp 16) l_law c_law k_law
  have b_law := F_law.binds (ps := ["_law_script"]) fun _ _ _ _ _ _ us hl => match us, hl with | [_], _ => rfl
  have h_abs := PySem.W.mg_none_of X G z_abs
  have h_bool := PySem.W.mg_none_of X G z_bool
  have h_enumerate := PySem.W.mg_none_of X G z_enumerate
  have h_int := PySem.W.mg_none_of X G z_int
  have h_isinstance := PySem.W.mg_none_of X G z_isinstance
  have h_len := PySem.W.mg_none_of X G z_len
  have h_list := PySem.W.mg_none_of X G z_list
  have h_range := PySem.W.mg_none_of X G z_range
  have h_sorted := PySem.W.mg_none_of X G z_sorted
  have h_str := PySem.W.mg_none_of X G z_str
  have h_tuple := PySem.W.mg_none_of X G z_tuple
  have h_zip := PySem.W.mg_none_of X G z_zip
  refine ⟨PySem.W.fnOf "law" "law" (defArgs (tp 16)) (defBody (tp 16)) (defScope (tp 16)) .none kV_law dc_law pm_law an_law cd_law ct_law, fun s v => .of_eq rfl, fun base KB _ => ?_⟩
  have SA : ∀ n : Nat, Cal l.prog w K mg base "_law_same" ["_law_found", "_law_due"] n (spSame2 K n) := fun n => by
    induction n with
    | zero => exact ⟨f__law_same, _, ok_none, PySem.W.mg_of X G a__law_same, k__law_same, b__law_same⟩
    | succ n ih => exact ⟨f__law_same, _, ok_same1 F__law_same h_len h_isinstance h_bool h_int h_str h_list h_tuple h_zip ih, PySem.W.mg_of X G a__law_same, k__law_same, b__law_same⟩
  have C__law_same := SA 26
  have C__law_at : Cal l.prog w K mg base "_law_at" ["_law_script", "_law_k"] (1) (spM2 (isScr K) isI (rs isI) m_l_at) := ⟨f__law_at, _, r_l_at F__law_at h_len, PySem.W.mg_of X G a__law_at, k__law_at, b__law_at⟩
  have C__law_row : Cal l.prog w K mg base "_law_row" ["_law_cell", "_law_many", "_law_base"] (1) (spM3 isI isI isI (ro isI) m_l_row) := ⟨f__law_row, _, r_l_row F__law_row h_abs h_range, PySem.W.mg_of X G a__law_row, k__law_row, b__law_row⟩
  have C__law_turns : Cal l.prog w K mg base "_law_turns" ["_law_cell", "_law_many"] (2) (spM2 isI isI (rs isS) m_l_turns) := ⟨f__law_turns, _, r_l_turns F__law_turns C__law_row, PySem.W.mg_of X G a__law_turns, k__law_turns, b__law_turns⟩
  have C__law_cols : Cal l.prog w K mg base "_law_cols" ["_law_script", "_law_at_here", "_law_width", "_law_many"] (3) (spM4 (isScr K) isI isI isI (ro isS) m_l_cols) := ⟨f__law_cols, _, r_l_cols F__law_cols C__law_at C__law_turns h_range, PySem.W.mg_of X G a__law_cols, k__law_cols, b__law_cols⟩
  have C__law_joined : Cal l.prog w K mg base "_law_joined" ["_law_cols_here", "_law_many"] (1) (spM2 (isL isS) isI (ro isS) m_l_joined) := ⟨f__law_joined, _, r_l_joined F__law_joined h_range, PySem.W.mg_of X G a__law_joined, k__law_joined, b__law_joined⟩
  have C__law_groups : Cal l.prog w K mg base "_law_groups" ["_law_cols_here"] (1) (spM1 (isL isS) (ro (isL isI)) m_l_groups) := ⟨f__law_groups, _, r_l_groups F__law_groups h_enumerate h_len h_range, PySem.W.mg_of X G a__law_groups, k__law_groups, b__law_groups⟩
  have C_column : Cal l.prog w K mg base "column" ["plan", "k"] (1) (spM2 (isL isS) isI (rs isS) m_column) := ⟨f_column, _, r_column F_column , PySem.W.mg_of X G a_column, k_column, b_column⟩
  have C_grouped : Cal l.prog w K mg base "grouped" ["plan", "width"] (2) (spM2 (isL isS) isI (rs (isL (isL isI))) m_grouped) := ⟨f_grouped, _, r_grouped F_grouped C_column h_list h_range, PySem.W.mg_of X G a_grouped, k_grouped, b_grouped⟩
  have C_called : Cal l.prog w K mg base "called" ["plan", "width"] (3) (spM2 (isL isS) isI (ro isS) m_called) := ⟨f_called, _, r_called F_called C_grouped, PySem.W.mg_of X G a_called, k_called, b_called⟩
  have C_unpacked : Cal l.prog w K mg base "unpacked" ["packs", "calls"] (1) (spM2 (isL (isL isI)) (isL isS) (ro isS) m_unpacked) := ⟨f_unpacked, _, r_unpacked F_unpacked h_enumerate h_sorted, PySem.W.mg_of X G a_unpacked, k_unpacked, b_unpacked⟩
  have C__law_parts : Cal l.prog w K mg base "_law_parts" ["_law_one", "_law_other"] (1) (spM2 isS isS (rs (isO isI)) m_l_parts) := ⟨f__law_parts, _, r_l_parts F__law_parts h_len h_range, PySem.W.mg_of X G a__law_parts, k__law_parts, b__law_parts⟩
  have C_parted : Cal l.prog w K mg base "parted" ["plan", "one", "other"] (1) (spM3 (isL isS) isI isI (rs (isO isI)) m_parted) := ⟨f_parted, _, r_parted F_parted h_enumerate, PySem.W.mg_of X G a_parted, k_parted, b_parted⟩
  exact FnOk.imp (r_law F_law C__law_at C__law_cols C__law_joined C__law_groups C_grouped C__law_same C_unpacked C_called C__law_parts C_parted h_len h_list h_range) law_imp
theorem walk {l : PySem.W.OpenLaw} {q : Program} {loose : List Str} {XP : (Str → Option Value) → Heap → Prop} {YP : World → Heap → Prop} {d : DefRec} {K : Params → PySem.W.Frag} (hn : l.most = some 63) (hdf : d.params.defaults = []) (hY : ∀ (w : World) (h : Heap), YP w h → (K w.params).In h)
    (F : ∀ (w : World) (mg : Str → Option Value) (fa : Addr) (h : Heap), (K w.params).In h → h.Ns mainGlobals mg → mg d.name = some (.ref fa) → ∃ fd : FuncData, (∀ (s : Shared) (u : Value), BindsTo s fd ⟨[u], []⟩ [("_law_script", u)]) ∧ ∀ base : Heap, (K w.params).In base → base.Ns mainGlobals mg → FnOk l.prog w (K w.params) mg base CX0 27 fa fd ["_law_script"] (spLaw (K w.params))) :
    PySem.W.WalkO q loose XP YP l.row.toRowW d [] (fun f vs => PySem.call f vs) :=
  L2.walk_of (n := 63) (k := 27) (x := "_law_script") (CX := fun _ => CX0) (sp := fun w => spLaw (K w.params)) hn (by decide) hdf ⟨rfl, by decide, by decide⟩ hY F (fun _ _ a ns hl _ hS => ⟨a, ns, rfl, hS, hl, fun _ => rfl⟩) fun _ _ _ _ _ z => z
end Wb
open PySem PySem.W PyProof.Rows
set_option maxRecDepth 100000 in
set_option maxHeartbeats 0 in
theorem PySem.Challenge.cw_wornband_k10_packs_back_to_plans_holds : PySem.Challenge.rw_wornband_k10_packs_back_to_plans.Holds := by
  refine hd ?_
  k_fill
  refine Wb.walk (l := PySem.Challenge.rw_wornband_k10_packs_back_to_plans) rfl rfl (fun w h Y => PySem.W.kIn_of Y) ?F
  case F =>
    intro w mg fa h KX G hmg
    refine' Wb.fin_mk KX G hmg ?a__law_same ?l__law_same ?c__law_same ?k__law_same ?a__law_at ?l__law_at ?c__law_at ?k__law_at ?a__law_row ?l__law_row ?c__law_row ?k__law_row ?a__law_turns ?l__law_turns ?c__law_turns ?k__law_turns ?a__law_cols ?l__law_cols ?c__law_cols ?k__law_cols ?a__law_joined ?l__law_joined ?c__law_joined ?k__law_joined ?a__law_groups ?l__law_groups ?c__law_groups ?k__law_groups ?a_column ?l_column ?c_column ?k_column ?a_grouped ?l_grouped ?c_grouped ?k_grouped ?a_called ?l_called ?c_called ?k_called ?a_unpacked ?l_unpacked ?c_unpacked ?k_unpacked ?a__law_parts ?l__law_parts ?c__law_parts ?k__law_parts ?a_parted ?l_parted ?c_parted ?k_parted ?a_law ?l_law ?c_law ?k_law ?z_abs ?z_bool ?z_enumerate ?z_int ?z_isinstance ?z_len ?z_list ?z_range ?z_sorted ?z_str ?z_tuple ?z_zip
    (case a__law_same => k_is)
    (case l__law_same => k_is)
    (case c__law_same => k_is)
    (case k__law_same => k_is)
    (case a__law_at => k_is)
    (case l__law_at => k_is)
    (case c__law_at => k_is)
    (case k__law_at => k_is)
    (case a__law_row => k_is)
    (case l__law_row => k_is)
    (case c__law_row => k_is)
    (case k__law_row => k_is)
    (case a__law_turns => k_is)
    (case l__law_turns => k_is)
    (case c__law_turns => k_is)
    (case k__law_turns => k_is)
    (case a__law_cols => k_is)
    (case l__law_cols => k_is)
    (case c__law_cols => k_is)
    (case k__law_cols => k_is)
    (case a__law_joined => k_is)
    (case l__law_joined => k_is)
    (case c__law_joined => k_is)
    (case k__law_joined => k_is)
    (case a__law_groups => k_is)
    (case l__law_groups => k_is)
    (case c__law_groups => k_is)
    (case k__law_groups => k_is)
    (case a_column => k_is)
    (case l_column => k_is)
    (case c_column => k_is)
    (case k_column => k_is)
    (case a_grouped => k_is)
    (case l_grouped => k_is)
    (case c_grouped => k_is)
    (case k_grouped => k_is)
    (case a_called => k_is)
    (case l_called => k_is)
    (case c_called => k_is)
    (case k_called => k_is)
    (case a_unpacked => k_is)
    (case l_unpacked => k_is)
    (case c_unpacked => k_is)
    (case k_unpacked => k_is)
    (case a__law_parts => k_is)
    (case l__law_parts => k_is)
    (case c__law_parts => k_is)
    (case k__law_parts => k_is)
    (case a_parted => k_is)
    (case l_parted => k_is)
    (case c_parted => k_is)
    (case k_parted => k_is)
    (case a_law => k_is)
    (case l_law => k_is)
    (case c_law => k_is)
    (case k_law => k_is)
    (case z_abs => k_is)
    (case z_bool => k_is)
    (case z_enumerate => k_is)
    (case z_int => k_is)
    (case z_isinstance => k_is)
    (case z_len => k_is)
    (case z_list => k_is)
    (case z_range => k_is)
    (case z_sorted => k_is)
    (case z_str => k_is)
    (case z_tuple => k_is)
    (case z_zip => k_is)
