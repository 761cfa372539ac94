import PyProof.Rows.All
import Wide.All
import OpenK.AllK
import Wide.FinOn
import Lean
import PyProof.EqAt
import PyProof.EqKinds
import PyProof.TupleCall
import KE.KDictSum
import PySem.Challenge.RW_wornband_k19_whole_plain_forms
set_option Elab.async false
set_option linter.all false
set_option maxRecDepth 100000
/-! THE HAND LAYER, for ints, bools, texts, own classes, LISTS and tuples (index, slices, in, append, pop ..), calls, loops. Paste it whole ahead of your own text; what your proof does not reach may be deleted. -/
namespace L2
open PySem PySem.Spec PyProof.Rows

/-- a key: an int or a str -/
abbrev Key := Sum Int Str
def keyIs : Key → Value → Bool
  | .inl k, v => Value.isInt k v
  | .inr x, v => Value.isStrOf x v
def keyH (w : World) : Key → Int
  | .inl k => hashInt k
  | .inr x => hashStr w x
theorem keyIs_shape : ∀ {k : Key} {v : Value}, keyIs k v = true → (∃ i t, k = Sum.inl i ∧ v = Value.int i t) ∨ (∃ x t, k = Sum.inr x ∧ v = Value.str x t)
  | .inl i, v, h => by
    obtain ⟨t, e⟩ := Value.isInt_shape (k := i) (v := v) h
    exact .inl ⟨i, t, rfl, e⟩
  | .inr x, v, h => by
    obtain ⟨t, e⟩ := Value.isStrOf_shape (x := x) (v := v) h
    exact .inr ⟨x, t, rfl, e⟩
theorem keyIs_int (i : Int) (t : Tok) : keyIs (.inl i) (.int i t) = true := by simp [keyIs, Value.isInt]
theorem keyIs_str (x : Str) (t : Tok) : keyIs (.inr x) (.str x t) = true := by simp [keyIs, Value.isStrOf]
theorem key_ll (a b : Int) : decide ((Sum.inl a : Key) = Sum.inl b) = (a == b) := by
  by_cases e : a = b
  · subst e; simp
  · have h : ¬ (Sum.inl a : Key) = Sum.inl b := fun q => e (Sum.inl.inj q)
    rw [decide_eq_false h]
    exact (beq_eq_false_iff_ne.mpr e).symm
theorem key_rr (a b : Str) : decide ((Sum.inr a : Key) = Sum.inr b) = decide (a = b) := by
  by_cases e : a = b
  · subst e; simp
  · have h : ¬ (Sum.inr a : Key) = Sum.inr b := fun q => e (Sum.inr.inj q)
    rw [decide_eq_false h, decide_eq_false e]
theorem key_lr (a : Int) (b : Str) : decide ((Sum.inl a : Key) = Sum.inr b) = false := decide_eq_false (fun q => nomatch q)
theorem key_rl (a : Str) (b : Int) : decide ((Sum.inr a : Key) = Sum.inl b) = false := decide_eq_false (fun q => nomatch q)

def mixKind (prog : Program) (w : World) : PySem.KeyKind prog w Key where
  is := keyIs
  hash := keyH w
  inj := fun v a b ha hb => by
    rcases keyIs_shape ha with ⟨i, t, rfl, rfl⟩ | ⟨x, t, rfl, rfl⟩
    · rcases keyIs_shape hb with ⟨j, u, rfl, e⟩ | ⟨y, u, rfl, e⟩
      · injection e with e1 _; rw [e1]
      · exact nomatch e
    · rcases keyIs_shape hb with ⟨j, u, rfl, e⟩ | ⟨y, u, rfl, e⟩
      · exact nomatch e
      · injection e with e1 _; rw [e1]
  byValue := fun k v h => by
    rcases keyIs_shape h with ⟨i, t, rfl, rfl⟩ | ⟨x, t, rfl, rfl⟩ <;> rfl
  pyHash := fun hv h => by
    rcases keyIs_shape hv with ⟨i, t, rfl, rfl⟩ | ⟨x, t, rfl, rfl⟩
    · exact wpAny_pyHash_int h
    · exact wpAny_pyHash_str h
  eqBool := fun hu hv h => by
    rcases keyIs_shape hu with ⟨i, t, rfl, rfl⟩ | ⟨x, t, rfl, rfl⟩
    · rcases keyIs_shape hv with ⟨j, u, rfl, rfl⟩ | ⟨y, u, rfl, rfl⟩
      · rw [key_ll] at h; exact wpAny_eqBool_int h
      · rw [key_lr] at h; exact SeqAt.EqAt.int_str i t y u _ _ _ _ h
    · rcases keyIs_shape hv with ⟨j, u, rfl, rfl⟩ | ⟨y, u, rfl, rfl⟩
      · rw [key_rl] at h; exact SeqAt.EqAt.str_int x t j u _ _ _ _ h
      · rw [key_rr] at h; exact wpAny_eqBool_str h
  «strs» := fun k x t v h => by
    rcases keyIs_shape h with ⟨i, u, rfl, e⟩ | ⟨y, u, rfl, e⟩
    · exact nomatch e
    · injection e with e1 _
      subst e1
      cases v <;> rfl

theorem mixKind_int (prog : Program) (w : World) (i : Int) (t : Tok) : (mixKind prog w).is (.inl i) (.int i t) = true := keyIs_int i t
theorem mixKind_str (prog : Program) (w : World) (x : Str) (t : Tok) : (mixKind prog w).is (.inr x) (.str x t) = true := keyIs_str x t
end L2

namespace L2
open PySem PySem.Spec PyProof.Rows

/-- a value, without the heap -/
inductive V where
  | non | bl (b : Bool) | int (i : Int) | str (x : Str) | byt (b : Array UInt8) | flt (b : UInt64) | ref (a : Addr) | ty (n : String)
  deriving DecidableEq

def RelV : V → Value → Prop
  | .non, u => u = Value.none
  | .bl b, u => u = Value.bool b
  | .int i, u => ∃ t, u = Value.int i t
  | .str x, u => ∃ t, u = Value.str x t
  | .byt b, u => ∃ t, u = Value.bytes b t
  | .flt b, u => ∃ t, u = Value.float b t
  | .ref a, u => u = Value.ref a
  | .ty n, u => u = Value.type n

abbrev Vals : List V → List Value → Prop := Paired RelV
theorem Vals.length {xs : List V} {us : List Value} (r : Vals xs us) : xs.length = us.length := Paired.length r
theorem Vals.get : ∀ {xs : List V} {us : List Value} {i : Nat} {x : V}, Vals xs us → xs[i]? = some x → ∃ u, us[i]? = some u ∧ RelV x u
  | _, _, _, _, .nil, e => by simp at e
  | _, _, 0, _, .cons r _, e => by simp at e; subst e; exact ⟨_, rfl, r⟩
  | _, _, i + 1, x, .cons _ t, e => by
    obtain ⟨u, h1, h2⟩ := Vals.get (i := i) (x := x) t (by simpa using e)
    exact ⟨u, by simpa using h1, h2⟩
theorem Vals.set {x : V} {u : Value} (r : RelV x u) : ∀ {xs : List V} {us : List Value} (i : Nat), Vals xs us → Vals (xs.set i x) (us.set i u)
  | _, _, _, .nil => .nil
  | _, _, 0, .cons _ t => .cons r t
  | _, _, i + 1, .cons q t => .cons q (Vals.set r i t)
theorem Vals.append : ∀ {xs ys : List V} {us ws : List Value}, Vals xs us → Vals ys ws → Vals (xs ++ ys) (us ++ ws)
  | _, _, _, _, .nil, s => s
  | _, _, _, _, .cons r t, s => .cons r (Vals.append t s)
theorem Vals.take : ∀ {xs : List V} {us : List Value} (n : Nat), Vals xs us → Vals (xs.take n) (us.take n)
  | _, _, 0, _ => .nil
  | _, _, _ + 1, .nil => .nil
  | _, _, n + 1, .cons r t => .cons r (Vals.take n t)
theorem Vals.drop : ∀ {xs : List V} {us : List Value} (n : Nat), Vals xs us → Vals (xs.drop n) (us.drop n)
  | _, _, 0, r => r
  | _, _, _ + 1, .nil => .nil
  | _, _, n + 1, .cons _ t => Vals.drop n t
theorem Vals.none_of : ∀ {xs : List V} {us : List Value} {i : Nat}, Vals xs us → xs[i]? = none → us[i]? = none := fun {xs us i} r e => by
  have h1 := r.length
  have h2 : xs.length ≤ i := List.getElem?_eq_none_iff.mp e
  exact List.getElem?_eq_none_iff.mpr (by omega)

def RelO : Option V → Option Value → Prop
  | some v, some u => RelV v u
  | none, none => True
  | _, _ => False
def KV {κ : Type} : List (κ × V) → List (κ × Value) → Prop := Paired fun (p : κ × V) (q : κ × Value) => p.1 = q.1 ∧ RelV p.2 q.2

/-- a key of a dict (00_mix): an int or a text -/
def kV : Key → V
  | .inl i => .int i
  | .inr x => .str x

/-- what stands at a tracked address -/
inductive HO where
  /-- a list -/
  | lst (xs : List V)
  /-- a tuple (never changes) -/
  | tup (xs : List V)
  /-- a dict whose keys are ints and texts; one whose keys are tuples of ints and texts (the empty one is both) -/
  | dK (kvs : List (Key × V)) | dT (kvs : List (List Key × V))
  /-- a set of ints: its members, its size -/
  | set (S : Int → Bool) (n : Nat)
  /-- an instance of the class at C, its dict at dx, its attributes -/
  | ins (C dx : Addr) (fs : List (Str × V))
  /-- the dict of the instance at x -/
  | own (x : Addr)
  /-- the dict of an exception -/
  | xd (fs : List (Str × V))
  /-- a bound method, f of x -/
  | met (f x : Addr)
  /-- a range object lo, lo + 1, .. below hi -/
  | rng (lo hi : Int)
  /-- a thing that is known to the object (the script; a dict while a loop walks it): read, never written while it is so -/
  | frz (o : Obj) (u : HO)
  /-- a code object's table -/
  | tbl (ps : Array Value)
  /-- any other thing, by what is true of its one object (a def of one's own: SetO a S n := HO.ext fun h => ..) -/
  | ext (φ : Heap → Prop)

abbrev Hp := Addr → Option HO
def upd (H : Hp) (a : Addr) (o : HO) : Hp := fun b => if b = a then some o else H b
theorem upd_same {H : Hp} {a : Addr} {o : HO} : upd H a o a = some o := by unfold upd; rw [if_pos rfl]
theorem upd_ne {H : Hp} {a b : Addr} {o : HO} (h : b ≠ a) : upd H a o b = H b := by unfold upd; rw [if_neg h]
theorem upd_upd {H : Hp} {a : Addr} {o u : HO} : upd (upd H a o) a u = upd H a u := by
  funext b; unfold upd; split <;> rfl
/-- two objects of different content stand apart -/
theorem ne_of {H : Hp} {a b : Addr} {o u : HO} (h : H a = some o) (h' : H b = some u) (d : o ≠ u) : a ≠ b := by
  intro e; subst e; rw [h] at h'; exact d (Option.some.inj h')
theorem ne_of_none {H : Hp} {a b : Addr} {o : HO} (h : H a = some o) (h' : H b = none) : a ≠ b := by
  intro e; subst e; rw [h] at h'; cases h'

section
variable (P : Program) (w : World)
def ObjOk (H : Hp) (h : Heap) (a : Addr) : HO → Prop
  | .lst xs => xs.length ≤ sizeLine ∧ ∃ (its : List Value) (n : Nat), Vals xs its ∧ h.get? a = some { cls := .type "list", data := .seq its.toArray n }
  | .tup xs => xs.length ≤ sizeLine ∧ ∃ its : List Value, Vals xs its ∧ IsTup h a its.toArray
  | .dK kvs => kvs.length ≤ sizeLine ∧ (a == sysModules) = false ∧ ∃ vs, KV kvs vs ∧ h.DictOf (mixKind P w) a vs
  | .dT kvs => kvs.length ≤ sizeLine ∧ (a == sysModules) = false ∧ ∃ xs : List (List Key × Addr × Value),
      Paired (fun (p : List Key × V) (q : List Key × Addr × Value) => p.1 = q.1 ∧ H q.2.1 = some (.tup (p.1.map kV)) ∧ RelV p.2 q.2.2) kvs xs ∧
      ∃ o es ep, h.get? a = some o ∧ o.ExactDict ∧ o.data = .dict es ep ∧ es.toList = xs.map (entryOfKey (tupleKind (mixKind P w))) ∧ (xs.map (·.1)).Nodup
  | .set S n => h.SetOf (intKind P w) a S n
  | .ins C dx fs => H dx = some (.own a) ∧ fs.length ≤ 1000 ∧ dx ≠ a ∧ h.get? a = some (PySem.W.instObj C dx) ∧
      ∃ mA, h.Ns1 dx mA ∧ (∀ f, RelO (fs.lookup f) (mA f)) ∧ PySem.Within mA (fs.map (·.1))
  | .own _ => ∃ o, h.get? a = some o
  | .xd fs => ∃ mA, h.Ns1 a mA ∧ ∀ f, RelO (fs.lookup f) (mA f)
  | .rng lo hi => ∃ t u v, h.get? a = some { cls := .type "range", data := .fields #[.int lo t, .int hi u, .int 1 v] }
  | .frz o u => h.get? a = some o ∧ ObjOk H h a u
  | .tbl ps => h.get? a = some { cls := .none, data := .fields ps }
  | .met f x => h.get? a = some (PySem.W.methodObj (.ref f) (.ref x))
  | .ext φ => φ h ∧ (∃ o, h.get? a = some o) ∧ ∀ h1 h2 : Heap, φ h1 → (∀ o, h1.get? a = some o → h2.get? a = some o) → φ h2
/-- the abstract heap is held -/
def HOk (H : Hp) (h : Heap) : Prop := ∀ a o, H a = some o → ObjOk P w H h a o
end

section
variable {P : Program} {w : World} {H H' : Hp} {h h' : Heap} {a : Addr} {o : HO}
theorem ObjOk.lt (x : ObjOk P w H h a o) : a < h.objs.size := by
  cases o with
  | lst xs => obtain ⟨_, _, _, _, e⟩ := x; exact Heap.lt_size e
  | tup xs => obtain ⟨_, _, _, p⟩ := x; exact p.lt
  | dK kvs => obtain ⟨_, _, _, _, o, _, _, e, _⟩ := x; exact Heap.lt_size e
  | dT kvs => obtain ⟨_, _, _, _, o, _, _, e, _⟩ := x; exact Heap.lt_size e
  | set S n => obtain ⟨o, _, _, _, e, _⟩ := x; exact Heap.lt_size e
  | ins C dx fs => obtain ⟨_, _, _, e, _⟩ := x; exact Heap.lt_size e
  | own y => obtain ⟨_, e⟩ := x; exact Heap.lt_size e
  | xd fs => obtain ⟨_, ⟨_, _, _, e, _⟩, _⟩ := x; exact Heap.lt_size e
  | rng lo hi => obtain ⟨_, _, _, e⟩ := x; exact Heap.lt_size e
  | frz ob u => obtain ⟨e, _⟩ := x; exact Heap.lt_size e
  | tbl ps => exact Heap.lt_size (show h.get? a = some _ from x)
  | met f y => exact Heap.lt_size (show h.get? a = some _ from x)
  | ext φ => obtain ⟨_, ⟨_, e⟩, _⟩ := x; exact Heap.lt_size e
theorem Paired.mapP {α β : Type} {F G : α → β → Prop} : ∀ {l₁ : List α} {l₂ : List β}, Paired F l₁ l₂ → (∀ a b, F a b → G a b) → Paired G l₁ l₂
  | _, _, .nil, _ => .nil
  | _, _, .cons r t, f => .cons (f _ _ r) (Paired.mapP t f)
/-- what an object's description leans on: its own object, its own dict, the tuples -/
theorem ObjOk.stay (x : ObjOk P w H h a o) (k : ∀ b u, (b = a ∨ H b = some (.own a)) → h.get? b = some u → h'.get? b = some u)
    (ho : ∀ b, H b = some (.own a) → H' b = some (.own a)) (ht : ∀ b xs, H b = some (.tup xs) → H' b = some (.tup xs)) : ObjOk P w H' h' a o := by
  induction o with
  | lst xs => obtain ⟨z, its, n, r, e⟩ := x; exact ⟨z, its, n, r, k _ _ (.inl rfl) e⟩
  | tup xs => obtain ⟨z, its, r, ob, e, c⟩ := x; exact ⟨z, its, r, ob, k _ _ (.inl rfl) e, c⟩
  | dK kvs => obtain ⟨z, y, vs, r, ob, es, ep, e, c⟩ := x; exact ⟨z, y, vs, r, ob, es, ep, k _ _ (.inl rfl) e, c⟩
  | dT kvs =>
    obtain ⟨z, y, xs, r, ob, es, ep, e, c⟩ := x
    exact ⟨z, y, xs, Paired.mapP r fun p q z => ⟨z.1, ht _ _ z.2.1, z.2.2⟩, ob, es, ep, k _ _ (.inl rfl) e, c⟩
  | set S n => obtain ⟨ob, es, ep, t, e, c⟩ := x; exact ⟨ob, es, ep, t, k _ _ (.inl rfl) e, c⟩
  | ins C dx fs =>
    obtain ⟨d, z, ne, e, mA, ⟨od, es, ep, e2, c⟩, r⟩ := x
    exact ⟨ho _ d, z, ne, k _ _ (.inl rfl) e, mA, ⟨od, es, ep, k _ _ (.inr d) e2, c⟩, r⟩
  | own y => obtain ⟨ob, e⟩ := x; exact ⟨ob, k _ _ (.inl rfl) e⟩
  | xd fs => obtain ⟨mA, ⟨od, es, ep, e, c⟩, r⟩ := x; exact ⟨mA, ⟨od, es, ep, k _ _ (.inl rfl) e, c⟩, r⟩
  | rng lo hi => obtain ⟨t, u, v, e⟩ := x; exact ⟨t, u, v, k _ _ (.inl rfl) e⟩
  | frz ob u ih => obtain ⟨e, q⟩ := x; exact ⟨k _ _ (.inl rfl) e, ih q⟩
  | tbl ps =>
    have e : h.get? a = some { cls := .none, data := .fields ps } := x
    show h'.get? a = some { cls := .none, data := .fields ps }
    exact k a _ (.inl rfl) e
  | met f y =>
    have e : h.get? a = some (PySem.W.methodObj (.ref f) (.ref y)) := x
    show h'.get? a = some (PySem.W.methodObj (.ref f) (.ref y))
    exact k a _ (.inl rfl) e
  | ext φ => obtain ⟨p, ⟨o, e⟩, st⟩ := x; exact ⟨st _ _ p fun o q => k _ _ (.inl rfl) q, ⟨o, k _ _ (.inl rfl) e⟩, st⟩
theorem HOk.lt (x : HOk P w H h) (e : H a = some o) : a < h.objs.size := (x a o e).lt
theorem HOk.fresh (x : HOk P w H h) (e : h.objs.size ≤ a) : H a = none := by
  cases q : H a with
  | none => rfl
  | some u => exact absurd (Nat.lt_of_lt_of_le (x.lt q) e) (Nat.lt_irrefl _)
/-- every object of the heap is kept -/
theorem HOk.kept (x : HOk P w H h) (k : ∀ b u, h.get? b = some u → h'.get? b = some u) : HOk P w H h' := fun a o e =>
  (x a o e).stay (fun b u _ q => k b u q) (fun _ q => q) fun _ _ q => q
/-- a new object is laid and tracked -/
theorem HOk.laid (x : HOk P w H h) (k : ∀ b u, h.get? b = some u → h'.get? b = some u) (hp : h.objs.size ≤ a) (new : ObjOk P w (upd H a o) h' a o) : HOk P w (upd H a o) h' := fun b u e => by
  have hn := x.fresh hp
  by_cases hb : b = a
  · subst hb; rw [upd_same] at e; cases e; exact new
  · rw [upd_ne hb] at e
    exact (x b u e).stay (fun c v _ q => k c v q) (fun c q => by rw [upd_ne (ne_of_none q hn)]; exact q) fun c xs q => by rw [upd_ne (ne_of_none q hn)]; exact q
end

/-- what may be read as u: it is u, or a known u -/
def Rd (H : Hp) (a : Addr) (u : HO) : Prop := H a = some u ∨ ∃ o, H a = some (.frz o u)
theorem Rd.of {H : Hp} {a : Addr} {u : HO} (h : H a = some u) : Rd H a u := .inl h
theorem Rd.ok {P : Program} {w : World} {H : Hp} {h : Heap} {a : Addr} {u : HO} (r : Rd H a u) (x : HOk P w H h) : ObjOk P w H h a u := by
  rcases r with r | ⟨o, r⟩
  · exact x a u r
  · obtain ⟨_, q⟩ := x a _ r
    exact q
/-- what may be written -/
def Mut : Option HO → Prop
  | some (.lst _) => True
  | some (.dK _) => True
  | some (.dT _) => True
  | some (.set _ _) => True
  | some (.ins _ _ _) => True
  | some (.ext _) => True
  | _ => False
section
variable {P : Program} {w : World} {H : Hp} {h h' : Heap} {x e : Addr} {o' : HO}
/-- the object at e is changed: x itself, or the dict of the instance x -/
theorem HOk.write (ok : HOk P w H h) (mu : Mut (H x)) (he : e = x ∨ H e = some (.own x)) (k : ∀ b u, b ≠ e → h.get? b = some u → h'.get? b = some u) (heo : ∃ u, h'.get? e = some u)
    (new : ObjOk P w (upd H x o') h' x o') : HOk P w (upd H x o') h' := fun b u q => by
  have nown : ∀ c y, H c = some (.own y) → c ≠ x := fun c y r z => by subst z; rw [r] at mu; exact mu
  have ntup : ∀ c xs, H c = some (.tup xs) → c ≠ x := fun c xs r z => by subst z; rw [r] at mu; exact mu
  by_cases hb : b = x
  · subst hb; rw [upd_same] at q; cases q; exact new
  · rw [upd_ne hb] at q
    by_cases hbe : b = e
    · have q' : H b = some (.own x) := by
        rcases he with z | z
        · exact absurd (hbe.trans z) hb
        · rw [hbe]; exact z
      rw [q] at q'; cases q'
      obtain ⟨v, hv⟩ := heo
      exact ⟨v, by rw [hbe]; exact hv⟩
    · refine (ok b u q).stay (fun c v hc r => k c v ?_ r) (fun c r => by rw [upd_ne (nown c b r)]; exact r) fun c xs r => by rw [upd_ne (ntup c xs r)]; exact r
      rcases hc with rfl | hc
      · exact hbe
      · rintro rfl
        rcases he with z | z
        · exact nown c b hc z
        · rw [hc] at z; cases z; exact hb rfl
end

/-! ### kept unless tracked; of the frames at fs (the callers') the slots may change (an exception that passes writes there); of the records at ex (iterators) nothing is said -/
structure Un (fs ex : List Addr) (H H' : Hp) (h h' : Heap) : Prop where
  keep : ∀ b o, h.get? b = some o → H b = none → b ∉ fs → b ∉ ex → h'.get? b = some o
  slot : ∀ b o, h.get? b = some o → H b = none → b ∈ fs → b ∉ ex → ∃ sl, h'.get? b = some { o with slots := sl }
  free : ∀ b o, h.get? b = some o → H b = none → b ∉ ex → H' b = none
  there : ∀ b o, h.get? b = some o → b ∉ ex → ∃ o', h'.get? b = some o'
  tups : ∀ b xs, H b = some (.tup xs) → H' b = some (.tup xs)
  frzs : ∀ b o u, H b = some (.frz o u) → H' b = some (.frz o u)
  tbls : ∀ b ps, H b = some (.tbl ps) → ∃ more, H' b = some (.tbl (ps ++ more))
section
variable {fs fs' ex ex' : List Addr} {H H1 H2 : Hp} {h h1 h2 h' : Heap} {a x e : Addr} {o : HO}
theorem Un.any (u : Un fs ex H H1 h h1) {b : Addr} {ob : Obj} (q : h.get? b = some ob) (n : H b = none) (hx : b ∉ ex) : ∃ sl, h1.get? b = some { ob with slots := sl } := by
  by_cases hb : b ∈ fs
  · exact u.slot b ob q n hb hx
  · exact ⟨ob.slots, u.keep b ob q n hb hx⟩
theorem Un.trans (a : Un fs ex H H1 h h1) (b : Un fs ex H1 H2 h1 h2) : Un fs ex H H2 h h2 where
  keep := fun c ob q n hc hx => b.keep c ob (a.keep c ob q n hc hx) (a.free c ob q n hx) hc hx
  slot := fun c ob q n hc hx => by
    obtain ⟨sl, e1⟩ := a.slot c ob q n hc hx
    obtain ⟨sl', e2⟩ := b.slot c _ e1 (a.free c ob q n hx) hc hx
    exact ⟨sl', e2⟩
  free := fun c ob q n hx => by
    obtain ⟨o', e1⟩ := a.there c ob q hx
    exact b.free c o' e1 (a.free c ob q n hx) hx
  there := fun c ob q hx => by
    obtain ⟨o', e1⟩ := a.there c ob q hx
    exact b.there c o' e1 hx
  tups := fun c xs q => b.tups c xs (a.tups c xs q)
  frzs := fun c ob xs q => b.frzs c ob xs (a.frzs c ob xs q)
  tbls := fun c ps q => by
    obtain ⟨m1, e1⟩ := a.tbls c ps q
    obtain ⟨m2, e2⟩ := b.tbls c _ e1
    exact ⟨m1 ++ m2, by rw [e2, Array.append_assoc]⟩
theorem Un.kept (k : ∀ b u, h.get? b = some u → h'.get? b = some u) : Un fs ex H H h h' :=
  ⟨fun b ob q _ _ _ => k b ob q, fun b ob q _ _ _ => ⟨ob.slots, k b ob q⟩, fun _ _ _ n _ => n, fun b ob q _ => ⟨ob, k b ob q⟩, fun _ _ q => q, fun _ _ _ q => q, fun _ ps q => ⟨#[], by rw [q]; simp⟩⟩
theorem Un.refl : Un fs ex H H h h := Un.kept fun _ _ q => q
theorem Un.laid (k : ∀ b u, h.get? b = some u → h'.get? b = some u) (hp : h.objs.size ≤ a) (hn : H a = none) : Un fs ex H (upd H a o) h h' where
  keep := fun b u q _ _ _ => k b u q
  slot := fun b u q _ _ _ => ⟨u.slots, k b u q⟩
  free := fun b u q n _ => by rw [upd_ne (Nat.ne_of_lt (Nat.lt_of_lt_of_le (Heap.lt_size q) hp))]; exact n
  there := fun b u q _ => ⟨u, k b u q⟩
  tups := fun b xs q => by rw [upd_ne (ne_of_none q hn)]; exact q
  frzs := fun b u xs q => by rw [upd_ne (ne_of_none q hn)]; exact q
  tbls := fun b ps q => ⟨#[], by rw [upd_ne (ne_of_none q hn), q]; simp⟩
theorem Un.write (mu : Mut (H x)) (he : e = x ∨ H e = some (.own x)) (k : ∀ b u, b ≠ e → h.get? b = some u → h'.get? b = some u) (heo : ∃ u, h'.get? e = some u) : Un fs ex H (upd H x o) h h' := by
  have hx : ∀ b, H b = none → b ≠ x := fun b n z => by subst z; rw [n] at mu; exact mu
  have hb : ∀ b, H b = none → b ≠ e := fun b n z => by
    subst z
    rcases he with r | r
    · exact hx b n r
    · rw [n] at r; cases r
  have hm : ∀ b u, H b = some u → ¬ Mut (some u) → b ≠ x := fun b u q nm z => by subst z; rw [q] at mu; exact nm mu
  refine ⟨fun b u q n _ _ => k b u (hb b n) q, fun b u q n _ _ => ⟨u.slots, k b u (hb b n) q⟩, fun b u q n _ => by rw [upd_ne (hx b n)]; exact n, fun b u q _ => ?_,
    fun b xs q => by rw [upd_ne (hm b _ q fun z => z)]; exact q, fun b u xs q => by rw [upd_ne (hm b _ q fun z => z)]; exact q, fun b ps q => ⟨#[], by rw [upd_ne (hm b _ q fun z => z), q]; simp⟩⟩
  by_cases hbe : b = e
  · subst hbe; exact heo
  · exact ⟨u, k b u hbe q⟩
theorem Un.mono (u : Un fs ex H H1 h h1) (hs : ∀ b ∈ fs, b ∈ fs') (hx : ∀ b ∈ ex, b ∈ ex') : Un fs' ex' H H1 h h1 :=
  ⟨fun b ob q n hb he => u.keep b ob q n (fun z => hb (hs b z)) fun z => he (hx b z), fun _ _ q n _ he => u.any q n fun z => he (hx _ z), fun b ob q n he => u.free b ob q n fun z => he (hx b z), fun b ob q he => u.there b ob q fun z => he (hx b z), u.tups, u.frzs, u.tbls⟩
end

/-! ### the heap without what is tracked -/
def trk (h : Heap) (H : Hp) : List Addr := (List.range h.objs.size).filter fun a => (H a).isSome
def hidT (h : Heap) (H : Hp) : Heap := PySem.W.hideAll h (trk h H)
theorem hidT_size (h : Heap) (H : Hp) : (hidT h H).objs.size = h.objs.size := PySem.W.hideAll_size _ _
theorem hidT_get {h : Heap} {H : Hp} {b : Addr} {o : Obj} (e : h.get? b = some o) (n : H b = none) : (hidT h H).get? b = some o :=
  PySem.W.hideAll_get _ e fun hm => by
    have q : (H b).isSome = true := (List.mem_filter.mp hm).2
    rw [n] at q; simp at q
theorem of_hidT {h : Heap} {H : Hp} {b : Addr} {o : Obj} (e : (hidT h H).get? b = some o) : h.get? b = some o ∧ H b = none := by
  have e' : h.get? b = some o := PySem.W.of_hideAll (trk h H) e
  refine ⟨e', ?_⟩
  cases q : H b with
  | none => rfl
  | some x =>
    have hm : b ∈ trk h H := List.mem_filter.mpr ⟨List.mem_range.mpr (Heap.lt_size e'), by simp [q]⟩
    have z : (hidT h H).get? b = none := PySem.W.hideAll_none (trk h H) hm
    rw [z] at e; cases e

/-! ### OpenK's ledger, filled with every new object but one -/
def allNews (g h : Heap) (L : Addr) : List (Addr × Obj) := (List.range h.objs.size).filterMap fun a => if a = L ∨ (g.get? a).isSome = true then none else (h.get? a).map fun o => (a, o)
def rest (g h : Heap) (L d : Addr) : List (Addr × Obj) := (allNews g h L).filter fun p => decide (p.1 ≠ d)
end L2

namespace L2
open PySem PySem.Spec PyProof.Rows

/-- the module's facts, over the base: the heap at the law's entry without what is tracked there -/
structure Mod (K : PySem.W.Frag) (mg : Str → Option Value) (base : Heap) : Prop where
  kin : K.In base
  glob : base.Ns mainGlobals mg
  blt : ∃ mb, base.Ns builtinsNs mb ∧ ∀ x : Str, x ≠ "__name__" → mb x = bootBuiltins x
  nolimit : base.NoLimit

/-- the context: a def's body (or a comprehension's block) running. base: fixed through the whole law; s₀, H₀: the entry; outer: the frames whose slots others may change (a def's callers); stack: all frames that run;
   ex: iterators that were made ahead of the entry and are walked here (a comprehension's); fn: the names whose cells were made at the entry (a def: all; a comprehension's block: its own); calm: not within an except suite; pn: pins that every state bears; xe: what is wanted of an exception that leaves the code -/
structure Cx where
  prog : Program
  w : World
  K : PySem.W.Frag
  mg : Str → Option Value
  base : Heap
  A : Around
  N : List Str
  s₀ : Shared
  H₀ : Hp
  env : Env
  outer : List Env
  stack : List Env
  ex : List Addr
  fn : Str → Bool
  calm : Bool
  pn : List (Addr × Obj)
  xe : Value → Shared → Prop
/-- the callers' frames -/
def frs (l : List Env) : List Addr := l.filterMap (·.frame)
abbrev Cx.fs (X : Cx) : List Addr := frs X.outer

def Vis (sc : Scope) (x : Str) : Prop := sc.names.lookup x = some .local ∨ sc.names.lookup x = some .cell ∨ sc.names.lookup x = some .free
def Loc (sc : Scope) (x : Str) : Prop := sc.names.lookup x = some .local ∨ sc.names.lookup x = some .cell
def Look (env : Env) (h : Heap) (m : Str → Option Value) (x : Str) (u : Value) : Prop :=
  (env.kindOf x = some .local ∧ m x = some u) ∨ ((env.kindOf x = some .cell ∨ env.kindOf x = some .free) ∧ ∃ c, env.cells.lookup x = some c ∧ h.IsCell c (some u))

structure Cx.Ok (X : Cx) : Prop where
  mod : Mod X.K X.mg X.base
  kind : X.env.scope.kind = .function
  glob : X.env.globals = mainGlobals
  blt : X.env.builtins = builtinsNs
  above : X.s₀.heap.objs.size ≤ X.env.locals
  inj : ∀ x y c, X.env.cells.lookup x = some c → X.env.cells.lookup y = some c → x = y
  has : ∀ x, (X.env.kindOf x = some .cell ∨ X.env.kindOf x = some .free) → ∃ c, X.env.cells.lookup x = some c
  cab : ∀ x c, X.fn x = true → X.env.cells.lookup x = some c → X.s₀.heap.objs.size ≤ c
  hd : X.calm = true → X.A.handled = none
  frames : X.A.frames = some X.stack
  stk : X.stack = X.outer ∨ (X.stack = X.env :: X.outer ∧ X.env.frame = some X.env.locals)
  exf : ∀ b ∈ X.ex, b ≠ X.env.locals ∧ ∀ x c, X.env.cells.lookup x = some c → c ≠ b
  bs : ∀ b o, X.base.get? b = some o → X.s₀.heap.get? b = some o ∧ X.H₀ b = none
  bsz : X.base.objs.size ≤ X.s₀.heap.objs.size
  noex : ∀ b o, X.base.get? b = some o → b ∉ X.ex
  exfs : ∀ b ∈ X.ex, b ∉ X.fs
  funs : X.s₀.heap.FunFrames X.base X.outer
  frf : ∀ b ∈ X.fs, X.H₀ b = none

structure Inv (X : Cx) (pins : List (Addr × Obj)) (σ : List (Option V)) (H : Hp) (s : Shared) : Prop where
  ok : X.Ok
  os : s.os = X.s₀.os
  bare : AllBare s.gens
  base : Un X.fs X.ex X.H₀ H X.s₀.heap s.heap
  loc : ∃ m, s.heap.Ns X.env.locals m ∧ ∀ (i : Nat) (x : Str) (v : V), X.N[i]? = some x → σ[i]? = some (some v) → Vis X.env.scope x → ∃ u, RelV v u ∧ Look X.env s.heap m x u
  cell : ∀ x c, X.env.cells.lookup x = some c → ∃ v, s.heap.IsCell c v
  free : H X.env.locals = none
  freeC : ∀ x c, X.env.cells.lookup x = some c → H c = none
  pin : ∀ p ∈ X.pn ++ pins, s.heap.get? p.1 = some p.2 ∧ H p.1 = none ∧ p.1 ≠ X.env.locals ∧ p.1 ∉ X.fs ∧ ∀ v, p.2.data ≠ .cell v
  hok : HOk X.prog X.w H s.heap
  len : σ.length = X.N.length

section
variable {X : Cx} {pins : List (Addr × Obj)} {σ : List (Option V)} {H H' : Hp} {s : Shared} {h' : Heap}

theorem Cx.Ok.nofr (ok : X.Ok) {b : Addr} {o : Obj} (e : X.base.get? b = some o) : b ∉ X.fs := fun hb => by
  have := (ok.funs.mem hb).1
  rw [e] at this; cases this
theorem Inv.bs (I : Inv X pins σ H s) : ∀ b o, X.base.get? b = some o → s.heap.get? b = some o ∧ H b = none := fun b o e =>
  ⟨I.base.keep b o (I.ok.bs b o e).1 (I.ok.bs b o e).2 (I.ok.nofr e) (I.ok.noex b o e), I.base.free b o (I.ok.bs b o e).1 (I.ok.bs b o e).2 (I.ok.noex b o e)⟩
theorem Inv.bk (I : Inv X pins σ H s) : ∀ b o, X.base.get? b = some o → s.heap.get? b = some o := fun b o e => (I.bs b o e).1
theorem Inv.mod (I : Inv X pins σ H s) : Mod X.K X.mg X.base := I.ok.mod
theorem Inv.kIn (I : Inv X pins σ H s) : X.K.In s.heap := I.ok.mod.kin.keeps I.bk
theorem Inv.nolimit (I : Inv X pins σ H s) : s.heap.NoLimit := I.ok.mod.nolimit.keeps I.bk
/-- the frame over the base: for OpenK's rules (K.In X.base is I.mod.kin) -/
theorem Inv.fr (I : Inv X pins σ H s) : ∃ m, Fr X.base X.env.locals s.heap m :=
  let ⟨m, hn, _⟩ := I.loc
  ⟨m, hn, I.bk, Nat.le_trans I.ok.bsz I.ok.above⟩
theorem Inv.lt (I : Inv X pins σ H s) : X.env.locals < s.heap.objs.size := let ⟨_, hn, _⟩ := I.loc; hn.lt
theorem Inv.sz (I : Inv X pins σ H s) : X.s₀.heap.objs.size ≤ s.heap.objs.size := Nat.le_trans I.ok.above (Nat.le_of_lt I.lt)
theorem Inv.nofs (I : Inv X pins σ H s) {a : Addr} (h : s.heap.objs.size ≤ a) : a ∉ X.fs := fun hb => by
  obtain ⟨_, o, ho, _⟩ := I.ok.funs.mem hb
  exact absurd (Nat.lt_of_lt_of_le (Heap.lt_size ho) (Nat.le_trans I.sz h)) (Nat.lt_irrefl _)
theorem Inv.cne (I : Inv X pins σ H s) : ∀ x c, X.env.cells.lookup x = some c → c ≠ X.env.locals := fun x c e z => by
  obtain ⟨v, o, ho, hd⟩ := I.cell x c e
  obtain ⟨m, ⟨o', es, ep, ho', hd', _⟩, _⟩ := I.loc
  rw [z, ho'] at ho; cases ho; rw [hd'] at hd; cases hd
theorem Inv.funs (I : Inv X pins σ H s) : s.heap.FunFrames X.base X.outer := by
  have all : ∀ (l : List Env), (∀ b ∈ frs l, b ∈ X.fs) → X.s₀.heap.FunFrames X.base l → s.heap.FunFrames X.base l := by
    intro l
    induction l with
    | nil => intro _ _; trivial
    | cons env r ih =>
      intro hs hl
      obtain ⟨hk, ⟨L, o, hf, hn, ho, hd⟩, hr⟩ := hl
      have hL : L ∈ X.fs := hs L (by unfold frs; rw [List.filterMap_cons, hf]; exact List.mem_cons_self)
      obtain ⟨sl, e⟩ := I.base.slot L o ho (I.ok.frf L hL) hL fun z => I.ok.exfs L z hL
      exact ⟨hk, ⟨L, _, hf, hn, e, hd⟩, ih (fun b hb => hs b (by unfold frs; rw [List.filterMap_cons, hf]; exact List.mem_cons_of_mem _ hb)) hr⟩
  exact all X.outer (fun _ hb => hb) I.ok.funs

/-- the frames that run, for a call -/
theorem Inv.stack (I : Inv X pins σ H s) : s.heap.FunFrames X.base X.stack := by
  rcases I.ok.stk with e | ⟨e, hf⟩
  · rw [e]; exact I.funs
  · rw [e]
    obtain ⟨m, hn, _⟩ := I.loc
    refine .cons (by rw [I.ok.kind]; decide) hf hn ?_ I.funs
    exact Heap.get?_none_of_le (Nat.le_trans I.ok.bsz I.ok.above)
theorem Inv.stkSub (I : Inv X pins σ H s) : ∀ b ∈ frs X.stack, b ∈ X.env.locals :: X.fs := fun b hb => by
  rcases I.ok.stk with e | ⟨e, hf⟩
  · rw [e] at hb; exact List.mem_cons_of_mem _ hb
  · rw [e] at hb
    unfold frs at hb
    rw [List.filterMap_cons, hf] at hb
    exact hb
theorem Inv.stkFree (I : Inv X pins σ H s) : ∀ b ∈ frs X.stack, H b = none := fun b hb => by
  rcases List.mem_cons.mp (I.stkSub b hb) with e | hb
  · rw [e]; exact I.free
  · obtain ⟨_, o, ho, _⟩ := I.ok.funs.mem hb
    exact I.base.free b o ho (I.ok.frf b hb) fun z => I.ok.exfs b z hb

/-- THE STEP: the untracked objects but the frame and the records at ch are kept (the callers' frames up to slots), the frame's map is kept, the new abstract heap is held -/
theorem Inv.step {g' : Array GenState} {t' : Nat} {d' : Drawn} {ch : List Addr} (I : Inv X pins σ H s)
    (hch : ∀ b ∈ ch, (b ∈ X.ex ∨ X.s₀.heap.objs.size ≤ b) ∧ b ≠ X.env.locals ∧ (∀ x c, X.env.cells.lookup x = some c → c ≠ b) ∧ ∀ p ∈ X.pn ++ pins, p.1 ≠ b)
    (keep : ∀ b o, b ≠ X.env.locals → b ∉ X.fs → b ∉ ch → s.heap.get? b = some o → H b = none → h'.get? b = some o)
    (slot : ∀ b o, b ≠ X.env.locals → b ∈ X.fs → b ∉ ch → s.heap.get? b = some o → H b = none → ∃ sl, h'.get? b = some { o with slots := sl }) (free : ∀ b o, b ∉ ch → s.heap.get? b = some o → H b = none → H' b = none)
    (there : ∀ b o, b ∉ ch → s.heap.get? b = some o → ∃ o', h'.get? b = some o')
    (tups : ∀ b xs, H b = some (.tup xs) → H' b = some (.tup xs)) (frzs : ∀ b o u, H b = some (.frz o u) → H' b = some (.frz o u)) (tbls : ∀ b ps, H b = some (.tbl ps) → ∃ more, H' b = some (.tbl (ps ++ more)))
    (ns : ∀ m, s.heap.Ns X.env.locals m → h'.Ns X.env.locals m) (hok : HOk X.prog X.w H' h') (hg : AllBare g') :
    Inv X pins σ H' { s with heap := h', gens := g', drawn := d', toks := t' } := by
  have neL : ∀ b o, X.s₀.heap.get? b = some o → b ≠ X.env.locals := fun b o e => Nat.ne_of_lt (Nat.lt_of_lt_of_le (Heap.lt_size e) I.ok.above)
  have neC : ∀ b o, X.s₀.heap.get? b = some o → b ∉ X.ex → b ∉ ch := fun b o e hx hb => by
    rcases (hch b hb).1 with z | z
    · exact hx z
    · exact absurd (Nat.lt_of_lt_of_le (Heap.lt_size e) z) (Nat.lt_irrefl _)
  have cellK : ∀ x c, X.env.cells.lookup x = some c → ∀ v, s.heap.IsCell c v → h'.IsCell c v := fun x c e v ⟨o, ho, hd⟩ => by
    have nch : c ∉ ch := fun z => (hch c z).2.2.1 x c e rfl
    by_cases hc : c ∈ X.fs
    · obtain ⟨sl, q⟩ := slot c o (I.cne x c e) hc nch ho (I.freeC x c e)
      exact ⟨_, q, hd⟩
    · exact ⟨o, keep c o (I.cne x c e) hc nch ho (I.freeC x c e), hd⟩
  refine ⟨I.ok, I.os, hg, ⟨fun b o e n hb hx => ?_, fun b o e n hb hx => ?_, fun b o e n hx => ?_, fun b o e hx => ?_, fun b xs e => tups b xs (I.base.tups b xs e), fun b o xs e => frzs b o xs (I.base.frzs b o xs e), fun b ps e => ?_⟩, ?_, fun x c e => ?_, ?_, fun x c e => ?_, fun p hp => ?_, hok, I.len⟩
  · exact keep b o (neL b o e) hb (neC b o e hx) (I.base.keep b o e n hb hx) (I.base.free b o e n hx)
  · obtain ⟨sl, e1⟩ := I.base.slot b o e n hb hx
    obtain ⟨sl', e2⟩ := slot b _ (neL b o e) hb (neC b o e hx) e1 (I.base.free b o e n hx)
    exact ⟨sl', e2⟩
  · obtain ⟨o', e1⟩ := I.base.there b o e hx
    exact free b o' (neC b o e hx) e1 (I.base.free b o e n hx)
  · obtain ⟨o', e1⟩ := I.base.there b o e hx
    exact there b o' (neC b o e hx) e1
  · obtain ⟨m1, e1⟩ := I.base.tbls b ps e
    obtain ⟨m2, e2⟩ := tbls b _ e1
    exact ⟨m1 ++ m2, by rw [e2, Array.append_assoc]⟩
  · obtain ⟨m, hn, hl⟩ := I.loc
    refine ⟨m, ns m hn, fun i x v e1 e2 e3 => ?_⟩
    obtain ⟨u, r, l⟩ := hl i x v e1 e2 e3
    refine ⟨u, r, ?_⟩
    rcases l with l | ⟨k, c, e, z⟩
    · exact .inl l
    · exact .inr ⟨k, c, e, cellK x c e _ z⟩
  · obtain ⟨v, z⟩ := I.cell x c e
    exact ⟨v, cellK x c e v z⟩
  · obtain ⟨m, ⟨o, _, _, ho, _⟩, _⟩ := I.loc
    exact free _ o (fun z => (hch _ z).2.1 rfl) ho I.free
  · obtain ⟨v, o, ho, hd⟩ := I.cell x c e
    exact free c o (fun z => (hch c z).2.2.1 x c e rfl) ho (I.freeC x c e)
  · obtain ⟨e, n, ne, nf, d⟩ := I.pin p hp
    have nch : p.1 ∉ ch := fun z => (hch p.1 z).2.2.2 p hp rfl
    exact ⟨keep p.1 p.2 ne nf nch e n, free p.1 p.2 nch e n, ne, nf, d⟩
/-- .. where the frame's own object is kept too -/
theorem Inv.un {t' : Nat} (I : Inv X pins σ H s) (u : Un X.fs [] H H' s.heap h') (hok : HOk X.prog X.w H' h') : Inv X pins σ H' { s with heap := h', toks := t' } := by
  obtain ⟨m, ⟨o, es, ep, ho, r⟩, _⟩ := id I.loc
  obtain ⟨sl, hL⟩ := u.any ho I.free (by simp)
  exact I.step (g' := s.gens) (d' := s.drawn) (ch := []) (fun _ z => nomatch z) (fun b o _ hb _ e n => u.keep b o e n hb (by simp)) (fun b o _ hb _ e n => u.slot b o e n hb (by simp)) (fun b o _ e n => u.free b o e n (by simp)) (fun b o _ e => u.there b o e (by simp)) u.tups u.frzs u.tbls (fun m' hm => by
    obtain ⟨o', es', ep', ho', r'⟩ := hm
    rw [ho] at ho'; cases ho'
    exact ⟨_, es', ep', hL, r'⟩) hok I.bare
/-- behind a call (or a comprehension's block): the slots of this frame may have changed too, the records at ch may have turned -/
theorem Inv.call {g' : Array GenState} {t' : Nat} {d' : Drawn} {ch : List Addr} (I : Inv X pins σ H s) (u : Un (frs X.stack) ch H H' s.heap h') (hok : HOk X.prog X.w H' h') (hg : AllBare g')
    (hch : ∀ b ∈ ch, (b ∈ X.ex ∨ X.s₀.heap.objs.size ≤ b) ∧ b ≠ X.env.locals ∧ (∀ x c, X.env.cells.lookup x = some c → c ≠ b) ∧ ∀ p ∈ X.pn ++ pins, p.1 ≠ b) :
    Inv X pins σ H' { s with heap := h', gens := g', drawn := d', toks := t' } := by
  obtain ⟨m, ⟨o, es, ep, ho, r⟩, _⟩ := id I.loc
  obtain ⟨sl, hL⟩ := u.any ho I.free fun z => (hch _ z).2.1 rfl
  exact I.step (ch := ch) hch (fun b o hL hb hc e n => u.keep b o e n (fun z => (List.mem_cons.mp (I.stkSub b z)).elim hL hb) hc) (fun b o _ _ hc e n => u.any e n hc) (fun b o hc e n => u.free b o e n hc) (fun b o hc e => u.there b o e hc) u.tups u.frzs u.tbls (fun m' hm => by
    obtain ⟨o', es', ep', ho', r'⟩ := hm
    rw [ho] at ho'; cases ho'
    exact ⟨_, es', ep', hL, r'⟩) hok hg
/-- an untracked record of ours (an iterator) has turned -/
theorem Inv.turned {t' : Nat} {it : Addr} (I : Inv X pins σ H s) (k : ∀ b o, b ≠ it → s.heap.get? b = some o → h'.get? b = some o) (hn : H it = none) (hL : it ≠ X.env.locals)
    (h1 : it ∈ X.ex ∨ X.s₀.heap.objs.size ≤ it) (h2 : ∀ x c, X.env.cells.lookup x = some c → c ≠ it) (h3 : ∀ p ∈ X.pn ++ pins, p.1 ≠ it) : Inv X pins σ H { s with heap := h', toks := t' } := by
  have nit : ∀ b u, H b = some u → b ≠ it := fun b u e z => by rw [z, hn] at e; cases e
  refine I.step (g' := s.gens) (d' := s.drawn) (ch := [it]) (fun b hb => ?_) (fun b o _ _ hc e _ => k b o (fun z => hc (by simp [z])) e) (fun b o _ _ hc e _ => ⟨o.slots, k b o (fun z => hc (by simp [z])) e⟩) (fun _ _ _ _ n => n)
    (fun b o hc e => ⟨o, k b o (fun z => hc (by simp [z])) e⟩) (fun _ _ e => e) (fun _ _ _ e => e) (fun b ps e => ⟨#[], by rw [e]; simp⟩) (fun m hm => ?_) (fun b u e => ?_) I.bare
  · have e : b = it := by simpa using hb
    subst e
    exact ⟨h1, hL, h2, h3⟩
  · obtain ⟨o, es, ep, ho, r⟩ := hm
    exact ⟨o, es, ep, k _ o (Ne.symm hL) ho, r⟩
  · refine (I.hok b u e).stay (fun c v hc q => k c v ?_ q) (fun _ q => q) fun _ _ q => q
    rcases hc with z | z
    · rw [z]; exact nit b u e
    · exact nit c _ z
theorem Inv.tok (I : Inv X pins σ H s) (t : Nat) : Inv X pins σ H { s with toks := t } := I.un (h' := s.heap) (t' := t) Un.refl I.hok
/-- all objects kept -/
theorem Inv.kept {t' : Nat} (I : Inv X pins σ H s) (k : ∀ b u, s.heap.get? b = some u → h'.get? b = some u) : Inv X pins σ H { s with heap := h', toks := t' } := I.un (Un.kept k) (I.hok.kept k)
/-- a new object laid and tracked -/
theorem Inv.laid {a : Addr} {o : HO} {t' : Nat} (I : Inv X pins σ H s) (k : ∀ b u, s.heap.get? b = some u → h'.get? b = some u) (hp : s.heap.objs.size ≤ a) (new : ObjOk X.prog X.w (upd H a o) h' a o) :
    Inv X pins σ (upd H a o) { s with heap := h', toks := t' } := I.un (Un.laid k hp (I.hok.fresh hp)) (I.hok.laid k hp new)
/-- an object written -/
theorem Inv.write {x e : Addr} {o : HO} {t' : Nat} (I : Inv X pins σ H s) (mu : Mut (H x)) (he : e = x ∨ H e = some (.own x)) (k : ∀ b u, b ≠ e → s.heap.get? b = some u → h'.get? b = some u) (heo : ∃ u, h'.get? e = some u)
    (new : ObjOk X.prog X.w (upd H x o) h' x o) : Inv X pins σ (upd H x o) { s with heap := h', toks := t' } := I.un (Un.write mu he k heo) (I.hok.write mu he k heo new)
/-- forgetting slots, pins -/
theorem Inv.weak {σ' : List (Option V)} (I : Inv X pins σ H s) (hl : σ'.length = σ.length) (w : ∀ (i : Nat) v, σ'[i]? = some (some v) → σ[i]? = some (some v)) : Inv X pins σ' H s :=
  ⟨I.ok, I.os, I.bare, I.base, let ⟨m, hn, hl'⟩ := I.loc; ⟨m, hn, fun i x v e1 e2 e3 => hl' i x v e1 (w i v e2) e3⟩, I.cell, I.free, I.freeC, I.pin, I.hok, hl.trans I.len⟩
theorem Inv.pins_of {pins' : List (Addr × Obj)} (I : Inv X pins σ H s) (h : ∀ p ∈ pins', s.heap.get? p.1 = some p.2 ∧ H p.1 = none ∧ p.1 ≠ X.env.locals ∧ p.1 ∉ X.fs ∧ ∀ v, p.2.data ≠ .cell v) : Inv X pins' σ H s :=
  ⟨I.ok, I.os, I.bare, I.base, I.loc, I.cell, I.free, I.freeC, fun p hp => (List.mem_append.mp hp).elim (fun z => I.pin p (List.mem_append_left _ z)) (h p), I.hok, I.len⟩

theorem nodup_ix {N : List Str} (hN : N.Nodup) {i j : Nat} {x : Str} (a : N[i]? = some x) (b : N[j]? = some x) : i = j := by
  obtain ⟨h1, e1⟩ := List.getElem?_eq_some_iff.mp a
  obtain ⟨h2, e2⟩ := List.getElem?_eq_some_iff.mp b
  exact (List.getElem_inj hN).mp (e1.trans e2.symm)

/-- a name is stored; what changed -/
theorem store_ok2 {M : Model} {A : Around} {E : Value → Shared → Prop} {i : Nat} {x : Str} {v : V} {u : Value} {Q : Unit → Shared → Prop} (I : Inv X pins σ H s) (hN : X.N.Nodup) (hi : X.N[i]? = some x) (hx : Loc X.env.scope x) (r : RelV v u)
    (h : ∀ s', Inv X pins (σ.set i (some v)) H s' → (∃ a, Heap.SameBut a s.heap s'.heap ∧ (a = X.env.locals ∨ X.env.cells.lookup x = some a)) → Q () s') (hf : X.fn x = true ∨ X.env.scope.names.lookup x = some .local := by first | exact .inl rfl | exact .inr rfl | assumption) : wpAny M A (storeName X.env x u) Q E s := by
  obtain ⟨m, hn, hl⟩ := id I.loc
  have hcls : (X.env.scope.kind == .class || (X.env.scope.kind == .module && X.env.locals != X.env.globals)) = false := by rw [I.ok.kind]; rfl
  have hiσ : i < σ.length := by rw [I.len]; exact (List.getElem?_eq_some_iff.mp hi).1
  have cne := I.cne
  have tracked : ∀ {a : Addr} {h' : Heap}, (∃ o, s.heap.get? a = some o ∧ H a = none) → Heap.SameBut a s.heap h' → HOk X.prog X.w H h' := fun {a h'} ha hs b ob e => by
    obtain ⟨_, _, hfree⟩ := ha
    refine (I.hok b ob e).stay (fun c w' hc q => (hs.2 c ?_).trans q) (fun _ q => q) fun _ _ q => q
    rintro rfl
    rcases hc with rfl | hc
    · rw [hfree] at e; cases e
    · rw [hfree] at hc; cases hc
  rcases hx with hk | hk
  · refine wpAny_storeName_local hk hn (fun h' hn' hs => ?_) hcls
    obtain ⟨oL, _, _, hoL, _⟩ := id hn
    refine h _ ⟨I.ok, I.os, I.bare, ⟨fun b o e n hb hx => ?_, fun b o e n hb hx => ?_, I.base.free, fun b o e hx => ?_, I.base.tups, I.base.frzs, I.base.tbls⟩, ⟨_, hn', fun j y v' e1 e2 e3 => ?_⟩, fun y c e => ?_, I.free, I.freeC, fun p hp => ?_, tracked ⟨oL, hoL, I.free⟩ hs, by simpa using I.len⟩ ⟨_, hs, .inl rfl⟩
    · exact (hs.2 b (Nat.ne_of_lt (Nat.lt_of_lt_of_le (Heap.lt_size e) I.ok.above))).trans (I.base.keep b o e n hb hx)
    · obtain ⟨sl, e1⟩ := I.base.slot b o e n hb hx
      exact ⟨sl, (hs.2 b (Nat.ne_of_lt (Nat.lt_of_lt_of_le (Heap.lt_size e) I.ok.above))).trans e1⟩
    · obtain ⟨o', e1⟩ := I.base.there b o e hx
      exact ⟨o', (hs.2 b (Nat.ne_of_lt (Nat.lt_of_lt_of_le (Heap.lt_size e) I.ok.above))).trans e1⟩
    · by_cases hj : j = i
      · subst hj
        rw [hi] at e1; cases e1
        rw [List.getElem?_set_self hiσ] at e2
        cases e2
        exact ⟨u, r, .inl ⟨hk, by simp⟩⟩
      · rw [List.getElem?_set_ne (Ne.symm hj)] at e2
        obtain ⟨u', r', q⟩ := hl j y v' e1 e2 e3
        refine ⟨u', r', ?_⟩
        rcases q with ⟨k, e⟩ | ⟨k, c, e, z⟩
        · refine .inl ⟨k, ?_⟩
          have : y ≠ x := fun e => hj (nodup_ix hN e1 (e ▸ hi))
          simp [this, e]
        · exact .inr ⟨k, c, e, z.sameBut hs (cne y c e)⟩
    · obtain ⟨w', z⟩ := I.cell y c e
      exact ⟨w', z.sameBut hs (cne y c e)⟩
    · obtain ⟨e, n, ne, nf, d⟩ := I.pin p hp
      exact ⟨(hs.2 p.1 ne).trans e, n, ne, nf, d⟩
  · have hfn : X.fn x = true := by
      rcases hf with z | z
      · exact z
      · rw [z] at hk; cases hk
    obtain ⟨c, hc⟩ := I.ok.has x (.inl hk)
    obtain ⟨w', z⟩ := I.cell x c hc
    refine wpAny_storeName_cell I.ok.kind hk hc z (fun h' hc' hs => ?_)
    obtain ⟨oc, hoc, hocd⟩ := id z
    refine h { s with heap := h' } ⟨I.ok, I.os, I.bare, ⟨fun b o e n hb hx => ?_, fun b o e n hb hx => ?_, I.base.free, fun b o e hx => ?_, I.base.tups, I.base.frzs, I.base.tbls⟩, ⟨m, hn.sameBut hs (Ne.symm (cne x c hc)), fun j y v' e1 e2 e3 => ?_⟩, fun y c' e => ?_, I.free, I.freeC, fun p hp => ?_, tracked ⟨oc, hoc, I.freeC x c hc⟩ hs, by simpa using I.len⟩ ⟨c, hs, .inr hc⟩
    · exact (hs.2 b (Nat.ne_of_lt (Nat.lt_of_lt_of_le (Heap.lt_size e) (I.ok.cab x c hfn hc)))).trans (I.base.keep b o e n hb hx)
    · obtain ⟨sl, e1⟩ := I.base.slot b o e n hb hx
      exact ⟨sl, (hs.2 b (Nat.ne_of_lt (Nat.lt_of_lt_of_le (Heap.lt_size e) (I.ok.cab x c hfn hc)))).trans e1⟩
    · obtain ⟨o', e1⟩ := I.base.there b o e hx
      exact ⟨o', (hs.2 b (Nat.ne_of_lt (Nat.lt_of_lt_of_le (Heap.lt_size e) (I.ok.cab x c hfn hc)))).trans e1⟩
    · by_cases hj : j = i
      · subst hj
        rw [hi] at e1; cases e1
        rw [List.getElem?_set_self hiσ] at e2
        cases e2
        exact ⟨u, r, .inr ⟨.inl hk, c, hc, hc'⟩⟩
      · rw [List.getElem?_set_ne (Ne.symm hj)] at e2
        obtain ⟨u', r', q⟩ := hl j y v' e1 e2 e3
        refine ⟨u', r', ?_⟩
        rcases q with q | ⟨k, c', e, z'⟩
        · exact .inl q
        · refine .inr ⟨k, c', e, z'.sameBut hs ?_⟩
          rintro rfl
          exact hj (nodup_ix hN e1 (I.ok.inj _ _ _ e hc ▸ hi))
    · by_cases hcc : c' = c
      · subst hcc; exact ⟨_, hc'⟩
      · obtain ⟨w2, z2⟩ := I.cell y c' e
        exact ⟨w2, z2.sameBut hs hcc⟩
    · obtain ⟨e, n, ne, nf, d⟩ := I.pin p hp
      refine ⟨(hs.2 p.1 ?_).trans e, n, ne, nf, d⟩
      intro q
      rw [q, hoc] at e
      have q' : oc = p.2 := Option.some.inj e
      exact d w' (by rw [← q']; exact hocd)
theorem store_ok {M : Model} {A : Around} {E : Value → Shared → Prop} {i : Nat} {x : Str} {v : V} {u : Value} {Q : Unit → Shared → Prop} (I : Inv X pins σ H s) (hN : X.N.Nodup) (hi : X.N[i]? = some x) (hx : Loc X.env.scope x) (r : RelV v u)
    (h : ∀ s', Inv X pins (σ.set i (some v)) H s' → Q () s') (hf : X.fn x = true ∨ X.env.scope.names.lookup x = some .local := by first | exact .inl rfl | exact .inr rfl | assumption) : wpAny M A (storeName X.env x u) Q E s :=
  store_ok2 I hN hi hx r (fun s' I' _ => h s' I') hf
/-- behind a call or a block, the state as it is -/
theorem Inv.call' {s' : Shared} {ch : List Addr} (I : Inv X pins σ H s) (ho : s'.os = s.os) (u : Un (frs X.stack) ch H H' s.heap s'.heap) (hok : HOk X.prog X.w H' s'.heap) (hg : AllBare s'.gens)
    (hch : ∀ b ∈ ch, (b ∈ X.ex ∨ X.s₀.heap.objs.size ≤ b) ∧ b ≠ X.env.locals ∧ (∀ x c, X.env.cells.lookup x = some c → c ≠ b) ∧ ∀ p ∈ X.pn ++ pins, p.1 ≠ b) : Inv X pins σ H' s' := by
  obtain ⟨h', g', d', t', o'⟩ := s'
  have e : o' = s.os := ho
  subst e
  exact I.call (g' := g') (t' := t') (d' := d') u hok hg hch
end

/-! ### the judgements -/
/-- an exception: its class, its own dict's address (where it has one), the abstract heap behind it -/
abbrev XK := Value → Option Addr → Hp → Prop
abbrev St := List (Option V)
abbrev VK := V → Hp → Prop
/-- an expression's reading; a test's; an argument list's -/
abbrev TE := St → Hp → VK → Prop
abbrev TT := St → Hp → (Bool → Hp → Prop) → Prop
abbrev TA := St → Hp → (List V → Hp → Prop) → Prop
/-- what is wanted behind a statement -/
structure Ends where
  nx : St → Hp → Prop
  rt : VK
  bk : St → Hp → Prop := fun _ _ => False
  ct : St → Hp → Prop := fun _ _ => False
abbrev TS := Ends → St → Hp → Prop

def EP (X : Cx) (pins : List (Addr × Obj)) (σ : St) (Q : VK) (u : Value) (s' : Shared) : Prop := ∃ v H', Inv X pins σ H' s' ∧ RelV v u ∧ Q v H'
def TP (X : Cx) (pins : List (Addr × Obj)) (σ : St) (Q : Bool → Hp → Prop) (b : Bool) (s' : Shared) : Prop := ∃ H', Inv X pins σ H' s' ∧ Q b H'
def AP (X : Cx) (pins : List (Addr × Obj)) (σ : St) (Q : List V → Hp → Prop) (us : List Value) (s' : Shared) : Prop := ∃ vs H', Inv X pins σ H' s' ∧ Vals vs us ∧ Q vs H'
def SP (X : Cx) (pins : List (Addr × Obj)) (D : Ends) (f : Flow) (s' : Shared) : Prop :=
  match f with
  | .next => ∃ σ' H', Inv X pins σ' H' s' ∧ D.nx σ' H'
  | .brk => ∃ σ' H', Inv X pins σ' H' s' ∧ D.bk σ' H'
  | .cont => ∃ σ' H', Inv X pins σ' H' s' ∧ D.ct σ' H'
  | .ret u => ∃ v σ' H', Inv X pins σ' H' s' ∧ RelV v u ∧ D.rt v H'

def PE (X : Cx) (e : Expr) (t : TE) : Prop :=
  ∀ (pins : List (Addr × Obj)) (s : Shared) (σ : St) (H : Hp) (Q : VK), Inv X pins σ H s → t σ H Q → wpAny (model X.prog X.w) X.A (eval e X.env) (EP X pins σ Q) X.xe s
def PT (X : Cx) (e : Expr) (t : TT) : Prop :=
  ∀ (pins : List (Addr × Obj)) (s : Shared) (σ : St) (H : Hp) (Q : Bool → Hp → Prop), Inv X pins σ H s → t σ H Q → wpAny (model X.prog X.w) X.A (isTrue e X.env (eval e X.env)) (TP X pins σ Q) X.xe s
/-- a test whatever its 'whole' is (and, or) -/
def PW (X : Cx) (e : Expr) (t : TT) : Prop :=
  ∀ (whole : Sem Value) (pins : List (Addr × Obj)) (s : Shared) (σ : St) (H : Hp) (Q : Bool → Hp → Prop), Inv X pins σ H s → t σ H Q → wpAny (model X.prog X.w) X.A (isTrue e X.env whole) (TP X pins σ Q) X.xe s
theorem PW.pt {X : Cx} {e : Expr} {t : TT} (h : PW X e t) : PT X e t := h _
/-- an argument list (no star), from the left -/
def PA (X : Cx) (es : List Expr) (t : TA) : Prop :=
  ∀ (pos : Pos) (pins : List (Addr × Obj)) (s : Shared) (σ : St) (H : Hp) (Q : List V → Hp → Prop), Inv X pins σ H s → t σ H Q → wpAny (model X.prog X.w) X.A (spliced (backTo pos (starEach es X.env))) (AP X pins σ Q) X.xe s
def PS (X : Cx) (st : Stmt) (t : TS) : Prop :=
  ∀ (pins : List (Addr × Obj)) (s : Shared) (σ : St) (H : Hp) (D : Ends), Inv X pins σ H s → t D σ H → wpAny (model X.prog X.w) X.A (exec st X.env) (SP X pins D) X.xe s
def PSs (X : Cx) (st : List Stmt) (t : TS) : Prop :=
  ∀ (pins : List (Addr × Obj)) (s : Shared) (σ : St) (H : Hp) (D : Ends), Inv X pins σ H s → t D σ H → wpAny (model X.prog X.w) X.A (execs st X.env) (SP X pins D) X.xe s
/-- weaken the end -/
theorem thn {α : Type} {t : Sem α} {Q Q' : α → Shared → Prop} {M : Model} {A : Around} {E : Value → Shared → Prop} {s : Shared} (h : wpAny M A t Q E s) (hQ : ∀ a s, Q a s → Q' a s) : wpAny M A t Q' E s := wpAny_mono h hQ fun _ _ x => x
end L2

namespace L2
open PySem PySem.Spec PyProof.Rows
section
variable {X : Cx}

/-! ### names and constants -/
def tVar (i : Nat) : TE := fun σ H Q => ∃ v, σ[i]? = some (some v) ∧ Q v H
def tC (v : V) : TE := fun _ H Q => Q v H
theorem pe_var {i : Nat} {x : Str} {pos : Pos} (hN : X.N[i]? = some x) (hv : Vis X.env.scope x) (hd : (x == ("__debug__" : Str)) = false := by decide) (hcd : (x == ("__classdict__" : Str)) = false := by decide) : PE X (.Name x pos) (tVar i) := by
  intro pins s σ H Q I h
  obtain ⟨v, e, h⟩ := h
  obtain ⟨m, hn, hl⟩ := I.loc
  obtain ⟨u, r, l⟩ := hl i x v hN e hv
  have fin : EP X pins σ Q u s := ⟨v, H, I, r, h⟩
  rcases l with ⟨hk, hm⟩ | ⟨hk, c, hc, hcell⟩
  · exact wpAny_Name (wpAny_loadName_local I.ok.kind hk hn hm fin) hd
  · rcases hk with hk | hk
    · exact wpAny_Name (wpAny_loadName_cell I.ok.kind hk hc hcell fin) hd
    · exact wpAny_Name (wpAny_loadName_free I.ok.kind hk hc hcell fin hcd) hd
theorem pe_int {i j pos} : PE X (.Constant (.int i) j pos) (tC (.int i)) := fun _ _ _ H _ I h => wpAny_Constant_int ⟨.int i, H, I.tok _, ⟨_, rfl⟩, h⟩
theorem pe_bl {b j pos} : PE X (.Constant (.bool b) j pos) (tC (.bl b)) := fun _ _ _ H _ I h => Constant_bool ⟨.bl b, H, I, rfl, h⟩
theorem pe_non {j pos} : PE X (.Constant .none j pos) (tC .non) := fun _ _ _ H _ I h => Constant_none ⟨.non, H, I, rfl, h⟩
theorem pe_str {x j pos} : PE X (.Constant (.str x) j pos) (tC (.str x)) := fun _ _ _ H _ I h => Calls.Constant_str ⟨.str x, H, I.tok _, ⟨_, rfl⟩, h⟩

/-- a global name of the def -/
def Gl (X : Cx) (x : Str) : Prop := X.env.kindOf x = some .globalImplicit
theorem ld_glob {E : Value → Shared → Prop} {pins : List (Addr × Obj)} {s : Shared} {σ : St} {H : Hp} {x : Str} {u : Value} {pos : Pos} {Q : Value → Shared → Prop} (I : Inv X pins σ H s) (hg : Gl X x) (hm : X.mg x = some u) (h : Q u s)
    (hd : (x == ("__debug__" : Str)) = false := by decide) : wpAny (model X.prog X.w) X.A (eval (.Name x pos) X.env) Q E s :=
  Calls.Name_function_global I.ok.kind hg (Calls.loadGlobal_global (by rw [I.ok.glob]; exact I.mod.glob.keeps I.bk) hm h) hd
theorem ld_blt {E : Value → Shared → Prop} {pins : List (Addr × Obj)} {s : Shared} {σ : St} {H : Hp} {x : Str} {u : Value} {pos : Pos} {Q : Value → Shared → Prop} (I : Inv X pins σ H s) (hg : Gl X x) (hm : X.mg x = none) (hv : bootBuiltins x = some u) (h : Q u s)
    (hn : x ≠ "__name__" := by decide) (hd : (x == ("__debug__" : Str)) = false := by decide) : wpAny (model X.prog X.w) X.A (eval (.Name x pos) X.env) Q E s := by
  obtain ⟨mb, h1, h2⟩ := I.mod.blt
  exact Calls.Name_function_global I.ok.kind hg (Calls.loadGlobal_builtin (by rw [I.ok.glob]; exact I.mod.glob.keeps I.bk) hm (by rw [I.ok.blt]; exact h1.keeps I.bk) ((h2 x hn).trans hv) h) hd
/-- a module's constant, a class, a function, as a value -/
theorem pe_glob {x : Str} {v : V} {u : Value} {pos : Pos} (hg : Gl X x) (hm : X.mg x = some u) (r : RelV v u) (hd : (x == ("__debug__" : Str)) = false := by decide) : PE X (.Name x pos) (tC v) :=
  fun _ _ _ H _ I h => ld_glob I hg hm ⟨v, H, I, r, h⟩ hd
theorem pe_bltn {x : Str} {v : V} {u : Value} {pos : Pos} (hg : Gl X x) (hm : X.mg x = none) (hv : bootBuiltins x = some u) (r : RelV v u) (hn : x ≠ "__name__" := by decide) (hd : (x == ("__debug__" : Str)) = false := by decide) : PE X (.Name x pos) (tC v) :=
  fun _ _ _ H _ I h => ld_blt I hg hm hv ⟨v, H, I, r, h⟩ hn hd

/-! ### arithmetic -/
variable {a b : Expr} {ta tb : TE} {pos : Pos}
/-! ### comparisons -/
/-- a comparison as a value, as a test -/
def tB (t : TE) : TT := fun σ H Q => t σ H fun x H1 => ∃ c, x = .bl c ∧ Q c H1
/-- an expression whose value is a bool, as a test -/
theorem pt_val {e : Expr} {t : TE} (h : PE X e t) (he : ∀ whole, isTrue e X.env whole = (do let v ← whole; standAt e.pos; holding [v] (truthy v)) := by intro _; rfl) : PT X e (tB t) := by
  intro pins s σ H Q I hw
  refine isTrue_plain (thn (h pins s σ H _ I hw) fun v s1 ⟨x, H1, I1, r1, q1⟩ => ?_) (he _)
  obtain ⟨d, rfl, q⟩ := q1
  cases r1
  exact wpAny_truthy_bool ⟨H1, I1, q⟩

/-! ### and, or, not -/
variable {tA tB' : TT} {rest : List Expr}
def tAnd (t u : TT) : TT := fun σ H Q => t σ H fun c H1 => if c = true then u σ H1 Q else Q false H1
def tOr (t u : TT) : TT := fun σ H Q => t σ H fun c H1 => if c = true then Q true H1 else u σ H1 Q
def tNot (t : TT) : TT := fun σ H Q => t σ H fun c H1 => Q (!c) H1
theorem pw_and1 (ha : PT X a tA) : PW X (.BoolOp .And [a] pos) tA := by
  intro wh pins s σ H Q I h
  refine isTrue_and (thn (ha pins s σ H Q I h) fun c s1 e => ?_)
  cases c with
  | true => exact isTrue_and_nil e
  | false => exact e
theorem pw_or1 (ha : PT X a tA) : PW X (.BoolOp .Or [a] pos) tA := by
  intro wh pins s σ H Q I h
  refine isTrue_or (thn (ha pins s σ H Q I h) fun c s1 e => ?_)
  cases c with
  | false => exact isTrue_or_nil e
  | true => exact e
theorem pw_and (ha : PT X a tA) (hb : PW X (.BoolOp .And (b :: rest) pos) tB') : PW X (.BoolOp .And (a :: b :: rest) pos) (tAnd tA tB') := by
  intro wh pins s σ H Q I h
  refine isTrue_and (thn (ha pins s σ H _ I h) fun c s1 ⟨H1, I1, q1⟩ => ?_)
  cases c with
  | true => exact hb wh pins s1 σ H1 Q I1 q1
  | false => exact ⟨H1, I1, q1⟩
theorem pw_or (ha : PT X a tA) (hb : PW X (.BoolOp .Or (b :: rest) pos) tB') : PW X (.BoolOp .Or (a :: b :: rest) pos) (tOr tA tB') := by
  intro wh pins s σ H Q I h
  refine isTrue_or (thn (ha pins s σ H _ I h) fun c s1 ⟨H1, I1, q1⟩ => ?_)
  cases c with
  | true => exact ⟨H1, I1, q1⟩
  | false => exact hb wh pins s1 σ H1 Q I1 q1
theorem pt_not (ha : PT X a tA) : PT X (.UnaryOp .Not a pos) (tNot tA) := by
  intro pins s σ H Q I h
  exact isTrue_not (ha pins s σ H (fun c H1 => Q (!c) H1) I h)
/-- .. as values (bools) -/
def tAndV (ta tb : TE) : TE := fun σ H Q => ta σ H fun x H1 => ∃ c, x = .bl c ∧ if c = true then tb σ H1 Q else Q (.bl false) H1
def tOrV (ta tb : TE) : TE := fun σ H Q => ta σ H fun x H1 => ∃ c, x = .bl c ∧ if c = true then Q (.bl true) H1 else tb σ H1 Q
def tNotV (ta : TE) : TE := fun σ H Q => ta σ H fun x H1 => ∃ c, x = .bl c ∧ Q (.bl (!c)) H1
theorem pe_one {op} {t : TE} (h : PE X a t) : PE X (.BoolOp op [a] pos) t := fun pins s σ H Q I hw => BoolOp_one (h pins s σ H Q I hw)
theorem pe_and (ha : PE X a ta) (hb : PE X (.BoolOp .And (b :: rest) pos) tb) : PE X (.BoolOp .And (a :: b :: rest) pos) (tAndV ta tb) := by
  intro pins s σ H Q I h
  refine BoolOp_and (thn (ha pins s σ H _ I h) fun v s1 ⟨x, H1, I1, r1, q1⟩ => ?_)
  obtain ⟨c, rfl, q1⟩ := q1
  cases r1
  refine wpAny_truthy_bool ?_
  cases c with
  | true => exact hb pins s1 σ H1 Q I1 q1
  | false => exact ⟨.bl false, H1, I1, rfl, q1⟩
theorem pe_not (ha : PE X a ta) : PE X (.UnaryOp .Not a pos) (tNotV ta) := by
  intro pins s σ H Q I h
  refine UnaryOp_ (thn (ha pins s σ H _ I h) fun v s1 ⟨x, H1, I1, r1, q1⟩ => ?_)
  obtain ⟨c, rfl, q1⟩ := q1
  cases r1
  exact not_of (wpAny_truthy_bool ⟨.bl (!c), H1, I1, rfl, q1⟩)
/-- a if t else b -/
def tIf (t : TT) (ta tb : TE) : TE := fun σ H Q => t σ H fun c H1 => if c = true then ta σ H1 Q else tb σ H1 Q
theorem pe_ifExp {c : Expr} (hc : PT X c tA) (ha : PE X a ta) (hb : PE X b tb) : PE X (.IfExp c a b pos) (tIf tA ta tb) := by
  intro pins s σ H Q I h
  refine wpAny_IfExp (thn (hc pins s σ H _ I h) fun d s1 ⟨H1, I1, q1⟩ => ?_)
  cases d with
  | true => exact ha pins s1 σ H1 Q I1 q1
  | false => exact hb pins s1 σ H1 Q I1 q1
end
end L2

namespace L2
open PySem PySem.Spec PyProof.Rows

/-! ### a list, a tuple that is read: tracked, frozen, or an object of the module -/
def SqL (K : PySem.W.Frag) (H : Hp) (a : Addr) (xs : List V) : Prop :=
  Rd H a (.lst xs) ∨
    ∃ (o : Obj) (its : Array Value) (n : Nat), K.lookup a = some o ∧ o.cls = .type "list" ∧ o.dict = none ∧ o.data = .seq its n ∧ its.size ≤ sizeLine ∧ Vals xs its.toList
def SqT (K : PySem.W.Frag) (H : Hp) (a : Addr) (xs : List V) : Prop :=
  Rd H a (.tup xs) ∨
    ∃ (o : Obj) (its : Array Value) (n : Nat), K.lookup a = some o ∧ o.cls = .type "tuple" ∧ o.data = .seq its n ∧ its.size ≤ sizeLine ∧ Vals xs its.toList
def absV : Value → Option V
  | .none => some .non
  | .bool b => some (.bl b)
  | .int i _ => some (.int i)
  | .str x _ => some (.str x)
  | .bytes b _ => some (.byt b)
  | .float b _ => some (.flt b)
  | .ref a => some (.ref a)
  | .type n => some (.ty n)
  | _ => none
theorem RelV.abs {x : V} {u : Value} (r : RelV x u) : absV u = some x := by
  cases x with
  | non => cases r; rfl
  | bl _ => cases r; rfl
  | int _ => obtain ⟨t, rfl⟩ := r; rfl
  | str _ => obtain ⟨t, rfl⟩ := r; rfl
  | byt _ => obtain ⟨t, rfl⟩ := r; rfl
  | flt _ => obtain ⟨t, rfl⟩ := r; rfl
  | ref _ => cases r; rfl
  | ty _ => cases r; rfl
theorem RelV.inj {x y : V} {u : Value} (r : RelV x u) (q : RelV y u) : x = y := Option.some.inj (r.abs.symm.trans q.abs)
theorem Vals.inj : ∀ {xs ys : List V} {us : List Value}, Vals xs us → Vals ys us → xs = ys
  | _, _, _, .nil, .nil => rfl
  | _, _, _, .cons r t, .cons r' t' => by rw [r.inj r', Vals.inj t t']
section
variable {X : Cx} {pins : List (Addr × Obj)} {σ : St} {H : Hp} {s : Shared} {a : Addr} {xs ys : List V}
theorem SqL.of {K : PySem.W.Frag} (h : H a = some (.lst xs)) : SqL K H a xs := .inl (.inl h)
theorem SqT.of {K : PySem.W.Frag} (h : H a = some (.tup xs)) : SqT K H a xs := .inl (.inl h)
theorem Inv.list (I : Inv X pins σ H s) (h : SqL X.K H a xs) : ∃ its : List Value, Vals xs its ∧ PlainL s.heap a its.toArray ∧ xs.length ≤ sizeLine := by
  rcases h with h | ⟨o, its, n, hk, hc, hd, hs, hz, r⟩
  · obtain ⟨z, its, n, r, e⟩ := h.ok I.hok
    exact ⟨its, r, ⟨_, n, e, rfl, rfl, rfl⟩, z⟩
  · refine ⟨its.toList, r, ⟨o, n, I.kIn a o hk, hc, hd, by simpa using hs⟩, ?_⟩
    have e := r.length
    simp only [Array.length_toList] at e
    omega
theorem Inv.tuple (I : Inv X pins σ H s) (h : SqT X.K H a xs) : ∃ its : List Value, Vals xs its ∧ IsTup s.heap a its.toArray ∧ xs.length ≤ sizeLine := by
  rcases h with h | ⟨o, its, n, hk, hc, hs, hz, r⟩
  · obtain ⟨z, its, r, p⟩ := h.ok I.hok
    exact ⟨its, r, p, z⟩
  · refine ⟨its.toList, r, ⟨o, I.kIn a o hk, hc, n, by simpa using hs⟩, ?_⟩
    have e := r.length
    simp only [Array.length_toList] at e
    omega
theorem Inv.list_inj (I : Inv X pins σ H s) (h : SqL X.K H a xs) (h' : SqL X.K H a ys) : xs = ys := by
  obtain ⟨its, r, ⟨o, n, e, _, _, d⟩, _⟩ := I.list h
  obtain ⟨its', r', ⟨o', n', e', _, _, d'⟩, _⟩ := I.list h'
  rw [e] at e'; cases e'
  rw [d] at d'
  injection d' with d1 _
  have : its = its' := by simpa using congrArg Array.toList d1
  subst this
  exact r.inj r'
theorem Inv.tuple_inj (I : Inv X pins σ H s) (h : SqT X.K H a xs) (h' : SqT X.K H a ys) : xs = ys := by
  obtain ⟨its, r, ⟨o, e, _, n, d⟩, _⟩ := I.tuple h
  obtain ⟨its', r', ⟨o', e', _, n', d'⟩, _⟩ := I.tuple h'
  rw [e] at e'; cases e'
  rw [d] at d'
  injection d' with d1 _
  have : its = its' := by simpa using congrArg Array.toList d1
  subst this
  exact r.inj r'
end

/-! ### another wish about exceptions -/
abbrev Cx.wish (X : Cx) (E : Value → Shared → Prop) : Cx := { X with xe := E }
/-- no exception leaves -/
abbrev Cx.nox (X : Cx) : Cx := X.wish fun _ _ => False
theorem Cx.Ok.wish {X : Cx} (ok : X.Ok) (E : Value → Shared → Prop) : (X.wish E).Ok :=
  ⟨ok.mod, ok.kind, ok.glob, ok.blt, ok.above, ok.inj, ok.has, ok.cab, ok.hd, ok.frames, ok.stk, ok.exf, ok.bs, ok.bsz, ok.noex, ok.exfs, ok.funs, ok.frf⟩
theorem Cx.Ok.unwish {X : Cx} {E : Value → Shared → Prop} (ok : (X.wish E).Ok) : X.Ok :=
  ⟨ok.mod, ok.kind, ok.glob, ok.blt, ok.above, ok.inj, ok.has, ok.cab, ok.hd, ok.frames, ok.stk, ok.exf, ok.bs, ok.bsz, ok.noex, ok.exfs, ok.funs, ok.frf⟩
section
variable {X : Cx} {pins : List (Addr × Obj)} {σ : St} {H : Hp} {s : Shared} {E : Value → Shared → Prop}
theorem Inv.wish (I : Inv X pins σ H s) (E : Value → Shared → Prop) : Inv (X.wish E) pins σ H s := ⟨I.ok.wish E, I.os, I.bare, I.base, I.loc, I.cell, I.free, I.freeC, I.pin, I.hok, I.len⟩
theorem Inv.unwish (I : Inv (X.wish E) pins σ H s) : Inv X pins σ H s := ⟨I.ok.unwish, I.os, I.bare, I.base, I.loc, I.cell, I.free, I.freeC, I.pin, I.hok, I.len⟩
theorem SP.unwish {D : Ends} {f : Flow} {s' : Shared} (h : SP (X.wish E) pins D f s') : SP X pins D f s' := by
  cases f with
  | next => obtain ⟨σ', H', I, q⟩ := h; exact ⟨σ', H', I.unwish, q⟩
  | brk => obtain ⟨σ', H', I, q⟩ := h; exact ⟨σ', H', I.unwish, q⟩
  | cont => obtain ⟨σ', H', I, q⟩ := h; exact ⟨σ', H', I.unwish, q⟩
  | ret u => obtain ⟨v, σ', H', I, r, q⟩ := h; exact ⟨v, σ', H', I.unwish, r, q⟩
theorem PE.nox {e : Expr} {t : TE} (h : PE X.nox e t) : PE X e t := fun pins s σ H Q I hw =>
  wpAny_mono (h pins s σ H Q (I.wish _) hw) (fun _ _ ⟨v, H', I', r, q⟩ => ⟨v, H', I'.unwish, r, q⟩) fun _ _ z => False.elim z
theorem PT.nox {e : Expr} {t : TT} (h : PT X.nox e t) : PT X e t := fun pins s σ H Q I hw =>
  wpAny_mono (h pins s σ H Q (I.wish _) hw) (fun _ _ ⟨H', I', q⟩ => ⟨H', I'.unwish, q⟩) fun _ _ z => False.elim z
theorem PSs.nox {st : List Stmt} {t : TS} (h : PSs X.nox st t) : PSs X st t := fun pins s σ H D I hw =>
  wpAny_mono (h pins s σ H D (I.wish _) hw) (fun _ _ q => q.unwish) fun _ _ z => False.elim z
end

/-! ### blocks and small statements -/
section
variable {X : Cx} {st : Stmt} {rest : List Stmt} {t u : TS} {e : Expr} {te : TE} {pos : Pos}
def tNext : TS := fun D σ H => D.nx σ H
def tSeq (t u : TS) : TS := fun D σ H => t { D with nx := u D } σ H
theorem pss_nil : PSs X [] tNext := fun _ _ σ H _ I h => wpAny_execs_nil ⟨σ, H, I, h⟩
theorem pss_cons (h1 : PS X st t) (h2 : PSs X rest u) : PSs X (st :: rest) (tSeq t u) := by
  intro pins s σ H D I h
  refine wpAny_execs_cons (thn (h1 pins s σ H { D with nx := u D } I h) fun f s1 q => ?_)
  cases f with
  | next =>
    obtain ⟨σ', H', I', q⟩ := q
    exact h2 pins s1 σ' H' D I' q
  | ret v => exact q
  | brk => exact q
  | cont => exact q
theorem pss_one (h1 : PS X st t) : PSs X [st] t := by
  intro pins s σ H D I h
  refine wpAny_execs_cons (thn (h1 pins s σ H D I h) fun f s1 q => ?_)
  cases f with
  | next => exact wpAny_execs_nil q
  | ret v => exact q
  | brk => exact q
  | cont => exact q
/-- in a def's body nothing is shown -/
theorem Inv.quiet {pins : List (Addr × Obj)} {σ : St} {H : Hp} {s : Shared} (I : Inv X pins σ H s) : interactive X.env = false := by simp [interactive, I.ok.kind]
/-- an expression whose value is dropped -/
def tDrop (te : TE) : TS := fun D σ H => te σ H fun _ H1 => D.nx σ H1
theorem ps_expr (he : PE X e te) (hs : swapsWith e none pos.line X.env = pure false := by rfl) : PS X (.Expr e pos) (tDrop te) := by
  intro pins s σ H D I h
  exact wpAny_Expr_any (thn (he pins s σ H _ I h) fun v s1 ⟨x, H1, I1, r1, q1⟩ => ⟨σ, H1, I1, q1⟩) I.quiet hs
def tRet (te : TE) : TS := fun D σ H => te σ H D.rt
theorem ps_ret (he : PE X e te) : PS X (.Return (some e) pos) (tRet te) := by
  intro pins s σ H D I h
  exact wpAny_Return_some (thn (he pins s σ H _ I h) fun v s1 ⟨x, H1, I1, r1, q1⟩ => ⟨x, σ, H1, I1, r1, q1⟩)
def tIfS (c : TT) (t u : TS) : TS := fun D σ H => c σ H fun b H1 => if b = true then t D σ H1 else u D σ H1
theorem ps_if {c : Expr} {a b : List Stmt} {tc : TT} (hc : PT X c tc) (ha : PSs X a t) (hb : PSs X b u) : PS X (.If c a b pos) (tIfS tc t u) := by
  intro pins s σ H D I h
  refine wpAny_If (thn (hc pins s σ H _ I h) fun d s1 ⟨H1, I1, q1⟩ => ?_)
  cases d with
  | true => exact ha pins s1 σ H1 D I1 q1
  | false => exact hb pins s1 σ H1 D I1 q1
end

/-! ### targets -/
abbrev TG := V → St → Hp → (St → Hp → Prop) → Prop
abbrev TGs := List V → St → Hp → (St → Hp → Prop) → Prop
def PG (X : Cx) (target : Expr) (t : TG) : Prop :=
  ∀ (pins : List (Addr × Obj)) (s : Shared) (σ : St) (H : Hp) (v : V) (u : Value) (Q : St → Hp → Prop), Inv X pins σ H s → RelV v u → t v σ H Q →
    wpAny (model X.prog X.w) X.A (assign target X.env u) (fun _ s' => ∃ σ' H', Inv X pins σ' H' s' ∧ Q σ' H') X.xe s
/-- several targets, one after another -/
def PGs (X : Cx) (ts : List Expr) (t : TGs) : Prop :=
  ∀ (pins : List (Addr × Obj)) (s : Shared) (σ : St) (H : Hp) (vs : List V) (us : List Value) (Q : St → Hp → Prop), Inv X pins σ H s → Vals vs us → t vs σ H Q →
    wpAny (model X.prog X.w) X.A (assignInOrder ((assignEach ts X.env).map (·.2)) us) (fun _ s' => ∃ σ' H', Inv X pins σ' H' s' ∧ Q σ' H') X.xe s
section
variable {X : Cx} {pos : Pos}
def gName (i : Nat) : TG := fun v σ H Q => Q (σ.set i (some v)) H
theorem pg_name {i : Nat} {x : Str} (hN : X.N.Nodup) (hi : X.N[i]? = some x) (hx : Loc X.env.scope x) (hf : X.fn x = true ∨ X.env.scope.names.lookup x = some .local := by first | exact .inl rfl | exact .inr rfl | assumption) : PG X (.Name x pos) (gName i) := by
  intro pins s σ H v u Q I r h
  exact wpAny_assign_Name (store_ok I hN hi hx r (fun s' I' => ⟨_, H, I', h⟩) hf)
def gNil : TGs := fun vs σ H Q => vs = [] ∧ Q σ H
def gCons (t : TG) (u : TGs) : TGs := fun vs σ H Q => ∃ v r, vs = v :: r ∧ t v σ H fun σ' H' => u r σ' H' Q
theorem pgs_nil : PGs X [] gNil := by
  intro pins s σ H vs us Q I r h
  obtain ⟨e, h⟩ := h
  subst e
  cases r
  exact assignInOrder_nil ⟨σ, H, I, h⟩
theorem pgs_cons {e : Expr} {es : List Expr} {t : TG} {u : TGs} (h1 : PG X e t) (h2 : PGs X es u)
    (hs : (assignEach (e :: es) X.env).map (·.2) = assign e X.env :: (assignEach es X.env).map (·.2) := by rfl) : PGs X (e :: es) (gCons t u) := by
  intro pins s σ H vs us Q I r h
  obtain ⟨v, vr, e1, h⟩ := h
  subst e1
  cases r with
  | cons r rr =>
    rw [hs]
    refine assignInOrder_cons (thn (h1 pins s σ H _ _ _ I r h) fun _ s1 ⟨σ1, H1, I1, q1⟩ => ?_)
    exact h2 pins s1 σ1 H1 _ _ Q I1 rr q1
/-- (a, b, ..) = a tuple of that length -/
def gTup (K : PySem.W.Frag) (n : Nat) (t : TGs) : TG := fun v σ H Q => ∃ a xs, v = .ref a ∧ SqT K H a xs ∧ xs.length = n ∧ t xs σ H Q
theorem pg_tup {es : List Expr} {k : Nat} {t : TGs} {n : Nat} (hc : X.calm = true) (h : PGs X es t)
    (hn : (assignEach es X.env).length = n := by rfl) (hst : (assignEach es X.env).findIdx? (·.1) = none := by rfl) : PG X (.Tuple es k pos) (gTup X.K n t) := by
  intro pins s σ H v u Q I r hw
  obtain ⟨a, xs, e1, hq, hl, hw⟩ := hw
  subst e1
  cases r
  obtain ⟨its, rv, ht, hz⟩ := I.tuple hq
  refine assign_Tuple_tuple (I.ok.hd hc) ht (by simp [hn, ← hl, rv.length]) hst fun h' hx => ?_
  have I1 : Inv X pins σ H { s with heap := h' } := I.kept (t' := s.toks) fun b o e => hx b o (Nat.ne_of_lt (Heap.lt_size e)) e
  exact h pins _ σ H xs _ Q I1 (by simpa using rv) hw
/-- target = value -/
def tAsg (te : TE) (g : TG) : TS := fun D σ H => te σ H fun x H1 => g x σ H1 D.nx
theorem ps_asg {tg e : Expr} {te : TE} {g : TG} (he : PE X e te) (hg : PG X tg g) (hs : swapsWithSole [tg] e pos.line X.env = pure false := by rfl) (hw : swappedStores [tg] e X.env = pure none := by rfl)
    (h1 : (assignEach [tg] X.env).map (·.2) = [assign tg X.env] := by rfl) : PS X (.Assign [tg] e pos) (tAsg te g) := by
  intro pins s σ H D I h
  refine wpAny_Assign_stores (thn (he pins s σ H _ I h) fun v s1 ⟨x, H1, I1, r1, q1⟩ => ?_) hs hw
  rw [h1]
  exact thn (hg pins s1 σ H1 x v _ I1 r1 q1) fun _ s2 q => q
/-- name = value -/
theorem ps_set {i : Nat} {x : Str} {e : Expr} {te : TE} {pos' : Pos} (hN : X.N.Nodup) (hi : X.N[i]? = some x) (hx : Loc X.env.scope x) (he : PE X e te) (hs : swapsWith e (some (.Name x pos')) pos.line X.env = pure false := by rfl) (hf : X.fn x = true ∨ X.env.scope.names.lookup x = some .local := by first | exact .inl rfl | exact .inr rfl | assumption) :
    PS X (.Assign [.Name x pos'] e pos) (tAsg te (gName i)) := by
  intro pins s σ H D I h
  refine wpAny_Assign_Name (thn (he pins s σ H _ I h) fun v s1 ⟨y, H1, I1, r1, q1⟩ => ?_) hs
  exact store_ok I1 hN hi hx r1 (fun s2 I2 => ⟨_, H1, I2, q1⟩) hf
end

/-! ### while -/
section
variable {X : Cx} {pos : Pos}
end

/-! ### what a loop or a comprehension walks -/
/-- at turn i: it yields x (the heap may grow), or it stops -/
structure It where
  go : Nat → Hp → Prop
  yld : Nat → Hp → V → Hp → Prop
  stop : Nat → Hp → Prop
/-- the iterator's own objects may turn: they are not the frame's, not pinned, younger than the entry (or a comprehension's own) -/
def FpOk (X : Cx) (pins : List (Addr × Obj)) (H : Hp) (b : Addr) : Prop :=
  H b = none ∧ b ≠ X.env.locals ∧ b ∉ X.fs ∧ (b ∈ X.ex ∨ X.s₀.heap.objs.size ≤ b) ∧ (∀ x c, X.env.cells.lookup x = some c → c ≠ b) ∧ ∀ p ∈ X.pn ++ pins, p.1 ≠ b
theorem Inv.fpOk {X : Cx} {pins : List (Addr × Obj)} {σ : St} {H H' : Hp} {s : Shared} {b : Addr} (I : Inv X pins σ H s) (hb : s.heap.objs.size ≤ b) (hn : H' b = none) : FpOk X pins H' b := by
  refine ⟨hn, Nat.ne_of_gt (Nat.lt_of_lt_of_le I.lt hb), I.nofs hb, .inr (Nat.le_trans I.sz hb), fun x c e z => ?_, fun p hp z => ?_⟩
  · obtain ⟨v, q⟩ := I.cell x c e
    exact absurd (Nat.lt_of_lt_of_le q.lt (by rw [z]; exact hb)) (Nat.lt_irrefl _)
  · exact absurd (Nat.lt_of_lt_of_le (Heap.lt_size (I.pin p hp).1) (by rw [z]; exact hb)) (Nat.lt_irrefl _)
structure Turn (P : Program) (w : World) (K : PySem.W.Frag) (tg : Expr) (J : It) (fp : List Addr) (it : Addr) (tn : Nat → Heap → Prop) : Prop where
  mem : it ∈ fp
  obj : ∀ i h, tn i h → ∀ b ∈ fp, ∃ o, h.get? b = some o ∧ ∀ v, o.data ≠ .cell v
  keep : ∀ i h h', tn i h → (∀ b ∈ fp, ∀ o, h.get? b = some o → h'.get? b = some o) → tn i h'
  item : ∀ (X : Cx), X.prog = P → X.w = w → X.K = K → X.calm = true → ∀ (i : Nat) (pins : List (Addr × Obj)) (s : Shared) (σ : St) (H : Hp) (E : Value → Shared → Prop), Inv X pins σ H s → (∀ b ∈ fp, FpOk X pins H b) → tn i s.heap → J.go i H →
    wpAny (model P w) X.A (pyNext (.ref it)) (fun r s1 => ∃ u, r = some u ∧
      wpAny (model P w) X.A (letOwnedTupleGo tg (.ref it) u) (fun _ s2 => ∃ x H', Inv X pins σ H' s2 ∧ RelV x u ∧ J.yld i H x H' ∧ tn (i + 1) s2.heap ∧ ∀ b ∈ fp, H' b = none) E s1) E s
  done : ∀ (X : Cx), X.prog = P → X.w = w → X.K = K → X.calm = true → ∀ (i : Nat) (pins : List (Addr × Obj)) (s : Shared) (σ : St) (H : Hp) (E : Value → Shared → Prop), Inv X pins σ H s → (∀ b ∈ fp, FpOk X pins H b) → tn i s.heap → J.stop i H →
    wpAny (model P w) X.A (pyNext (.ref it)) (fun r s1 => r = none ∧ Inv X pins σ H s1) E s
  self : ∀ (A : Around) (i : Nat) (s : Shared) (Q : Value → Shared → Prop) (E : Value → Shared → Prop), tn i s.heap → Q (.ref it) s → wpAny (model P w) A (pyIter (.ref it)) Q E s
abbrev TI := St → Hp → (It → Hp → Prop) → Prop
/-- an iterator has come -/
def PIE (X : Cx) (pins : List (Addr × Obj)) (σ : St) (tg : Expr) (R : It → Hp → Prop) (itv : Value) (s2 : Shared) : Prop :=
  ∃ (it : Addr) (fp : List Addr) (tn : Nat → Heap → Prop) (J : It) (H' : Hp), itv = .ref it ∧ Inv X pins σ H' s2 ∧ Turn X.prog X.w X.K tg J fp it tn ∧ tn 0 s2.heap ∧ (∀ b ∈ fp, FpOk X pins H' b) ∧ R J H'
def PI (X : Cx) (tg iter : Expr) (wi : TI) : Prop :=
  ∀ (pins : List (Addr × Obj)) (s : Shared) (σ : St) (H : Hp) (R : It → Hp → Prop), Inv X pins σ H s → wi σ H R →
    wpAny (model X.prog X.w) X.A (eval iter X.env) (fun v s1 => wpAny (model X.prog X.w) X.A (pyIter v) (PIE X pins σ tg R) X.xe s1) X.xe s

/-- the step ahead of the store is nothing for an iterator that keeps no tuple -/
theorem go_of {M : Model} {A : Around} {E : Value → Shared → Prop} {s : Shared} {tg : Expr} {it : Addr} {u : Value} {o : Obj} {n : String} {vs : Array Value} {Q : Unit → Shared → Prop} (ho : s.heap.get? it = some o) (hc : o.cls = .type n) (hd : o.data = .fields vs)
    (hn : ["enumerate", "zip", "dict_itemiterator", "dict_reverseitemiterator", "odict_iterator", "itertools.zip_longest", "itertools.pairwise"].contains n = false) (hQ : Q () s) : wpAny M A (letOwnedTupleGo tg (.ref it) u) Q E s := by
  unfold letOwnedTupleGo
  cases tg <;> first
    | exact wpAny_pure hQ
    | (cases u <;> first
        | exact wpAny_pure hQ
        | (refine wpAny_bind (wpAny_load ho ?_)
           rw [hc, hd]
           show wpAny M A (if (["enumerate", "zip", "dict_itemiterator", "dict_reverseitemiterator", "odict_iterator", "itertools.zip_longest", "itertools.pairwise"].contains n && vs[0]? == some (rawInt _)) = true then _ else _) Q E s
           rw [if_neg (by intro h; rw [hn, Bool.false_and] at h; cases h)]
           exact wpAny_pure hQ))

/-- the list at a, as it stands at each turn (a loop may append to it) -/
def Itl (K : PySem.W.Frag) (a : Addr) : It :=
  ⟨fun i H => ∃ xs x, SqL K H a xs ∧ xs[i]? = some x, fun i H x H' => H' = H ∧ ∀ xs, SqL K H a xs → xs[i]? = some x, fun i H => ∃ xs, SqL K H a xs ∧ xs.length ≤ i⟩
/-- lo, lo + 1, .. (n of them) -/
def Itr (lo : Int) (n : Nat) : It := ⟨fun i _ => i < n, fun i H x H' => H' = H ∧ x = .int (lo + i), fun i _ => n ≤ i⟩
theorem turn_list {P : Program} {w : World} {K : PySem.W.Frag} {tg : Expr} (a it : Addr) : Turn P w K tg (Itl K a) [it] it (fun i h => h.IsListIter it a i) where
  mem := by simp
  obj := fun i h st b hb => by
    have e : b = it := by simpa using hb
    subst e
    obtain ⟨o, e, c, d⟩ := st
    exact ⟨o, e, fun v z => by rw [d] at z; cases z⟩
  keep := fun i h h' st k => st.at fun o e => k it (by simp) o e
  item := by
    intro X hP hw hK hc i pins s σ H E I hf st hg
    subst hP hw hK
    obtain ⟨xs, x, hq, hx⟩ := hg
    obtain ⟨its, rv, p, hz⟩ := I.list hq
    obtain ⟨u, hu, ru⟩ := rv.get hx
    obtain ⟨f0, f1, f2, f3, f4, f5⟩ := hf it (by simp)
    refine wpAny_pyNext_list_item st p.isList (x := u) (by simpa using hu) fun h' st' sb => ?_
    have I1 : Inv X pins σ H { s with heap := h' } := I.turned (t' := s.toks) (fun b o hb e => (sb.2 b hb).trans e) f0 f1 f3 f4 f5
    obtain ⟨o, e, c, d⟩ := id st'
    exact ⟨u, rfl, go_of (s := { s with heap := h' }) e c d (by decide) ⟨x, H, I1, ru, ⟨rfl, fun ys hy => by rw [I.list_inj hy hq]; exact hx⟩, st', fun b hb => (hf b hb).1⟩⟩
  done := by
    intro X hP hw hK hc i pins s σ H E I hf st hg
    subst hP hw hK
    obtain ⟨xs, hq, hx⟩ := hg
    obtain ⟨its, rv, p, hz⟩ := I.list hq
    obtain ⟨f0, f1, f2, f3, f4, f5⟩ := hf it (by simp)
    have hl := rv.length
    exact wpAny_pyNext_list_end (I.ok.hd hc) st p.isList (by simp; omega) fun h' eb => ⟨rfl, I.turned (t' := s.toks) (fun b o hb e => eb b o hb e) f0 f1 f3 f4 f5⟩
  self := fun _ _ _ _ _ st h => wpAny_pyIter_listiter st h
theorem turn_range {P : Program} {w : World} {K : PySem.W.Frag} {tg : Expr} (it : Addr) (lo : Int) (n : Nat) : Turn P w K tg (Itr lo n) [it] it (fun i h => IsRangeIter h it (lo + (i : Nat) * 1) ((n : Int) - (i : Nat)) 1) where
  mem := by simp
  obj := fun i h st b hb => by
    have e : b = it := by simpa using hb
    subst e
    exact ⟨_, st, fun v z => by
      have z' : Data.fields _ = Data.cell v := z
      cases z'⟩
  keep := fun i h h' st k => k it (by simp) _ st
  item := by
    intro X hP hw hK hc i pins s σ H E I hf st hg
    subst hP hw hK
    obtain ⟨f0, f1, f2, f3, f4, f5⟩ := hf it (by simp)
    have W := Walks.range (prog := X.prog) (w := X.w) (I.ok.hd hc) it lo 1 n
    refine W.item i s _ _ hg st fun v h' tk hv st' kk => ?_
    obtain ⟨t, rfl⟩ := hv
    have I1 : Inv X pins σ H { s with heap := h', toks := tk } := I.turned (fun b o hb e => kk b o (by simpa using hb) e) f0 f1 f3 f4 f5
    refine ⟨_, rfl, go_of (s := { s with heap := h', toks := tk }) (n := "range_iterator") st' rfl rfl (by decide) ⟨.int (lo + i), H, I1, ⟨t, ?_⟩, ⟨rfl, rfl⟩, st', fun b hb => (hf b hb).1⟩⟩
    rw [Int.mul_one]
  done := by
    intro X hP hw hK hc i pins s σ H E I hf st hg
    subst hP hw hK
    obtain ⟨f0, f1, f2, f3, f4, f5⟩ := hf it (by simp)
    exact wpAny_pyNext_range_end (I.ok.hd hc) st (by have : n ≤ i := hg; omega) fun h' eb => ⟨rfl, I.turned (t' := s.toks) (fun b o hb e => eb b o hb e) f0 f1 f3 f4 f5⟩
  self := fun _ _ _ _ _ st h => wpAny_pyIter_rangeiter st h
end L2

namespace L2
open PySem PySem.Spec PyProof.Rows
section
variable {X : Cx} {tg : Expr}
def iList (K : PySem.W.Frag) (tl : TE) : TI := fun σ H R => tl σ H fun x H1 => ∃ a, x = .ref a ∧ (∃ xs, SqL K H1 a xs) ∧ R (Itl K a) H1
theorem pi_list {l : Expr} {tl : TE} (hl : PE X l tl) : PI X tg l (iList X.K tl) := by
  intro pins s σ H R I h
  refine thn (hl pins s σ H _ I h) fun v s1 ⟨x, H1, I1, r1, q1⟩ => ?_
  obtain ⟨a, e, ⟨xs, hq⟩, q⟩ := q1
  subst e
  cases r1
  obtain ⟨its, rv, p, hz⟩ := I1.list hq
  refine wpAny_pyIter_list p.isList ?_
  refine ⟨s1.heap.objs.size, [s1.heap.objs.size], _, _, H1, rfl, I1.kept (t' := s1.toks) fun b o e => Heap.get?_push_of_some _ e, turn_list a _, ⟨_, Heap.get?_push_size _ rfl, rfl, rfl⟩, fun b hb => ?_, q⟩
  have e : b = s1.heap.objs.size := by simpa using hb
  subst e
  exact I1.fpOk (Nat.le_refl _) (I1.hok.fresh (Nat.le_refl _))
/-- a range object just made, walked -/
theorem range_it {pins : List (Addr × Obj)} {σ : St} {H : Hp} {s : Shared} {R : It → Hp → Prop} {E : Value → Shared → Prop} {lo hi : Int} {t u v : Tok} {tk : Nat} (I : Inv X pins σ H s) (h1 : -(2 ^ 62) ≤ lo) (h2 : lo < 2 ^ 62) (h3 : -(2 ^ 62) ≤ hi) (h4 : hi < 2 ^ 62)
    (q : R (Itr lo (hi - lo).toNat) H) : wpAny (model X.prog X.w) X.A (pyIter (.ref s.heap.objs.size)) (PIE X pins σ tg R) E { s with heap := s.heap.push { cls := .type "range", data := .fields #[.int lo t, .int hi u, .int 1 v] }, toks := tk } := by
  refine wpAny_pyIter_range (IsRange.new ..) (small_one h1 h2 h3 h4) ?_
  have I1 : Inv X pins σ H { s with heap := s.heap.push { cls := .type "range", data := .fields #[.int lo t, .int hi u, .int 1 v] }, toks := tk } := I.kept fun b o e => Heap.get?_push_of_some _ e
  refine ⟨(s.heap.push { cls := .type "range", data := .fields #[.int lo t, .int hi u, .int 1 v] }).objs.size, [(s.heap.push { cls := .type "range", data := .fields #[.int lo t, .int hi u, .int 1 v] }).objs.size], _, _, H, rfl,
    I1.kept (t' := tk) fun b o e => Heap.get?_push_of_some _ e, turn_range _ lo (hi - lo).toNat, ?_, fun b hb => ?_, q⟩
  · have e1 : lo + ((0 : Nat) : Int) * 1 = lo := by simp
    have e2 : (((hi - lo).toNat : Nat) : Int) - ((0 : Nat) : Int) = Builtin.Range.rangeSize lo hi 1 := by rw [rangeSize_one]; split <;> omega
    show IsRangeIter _ _ (lo + ((0 : Nat) : Int) * 1) ((((hi - lo).toNat : Nat) : Int) - ((0 : Nat) : Int)) 1
    rw [e1, e2]
    exact Heap.get?_push_size _ rfl
  · have e : b = (s.heap.push { cls := .type "range", data := .fields #[.int lo t, .int hi u, .int 1 v] }).objs.size := by simpa using hb
    subst e
    exact I1.fpOk (Nat.le_refl _) (I1.hok.fresh (Nat.le_refl _))
def iRng1 (ta : TA) : TI := fun σ H R => ta σ H fun vs H1 => ∃ j : Int, vs = [.int j] ∧ -(2 ^ 62) ≤ j ∧ j < 2 ^ 62 ∧ R (Itr 0 j.toNat) H1
theorem pi_range1 {a : Expr} {ta : TA} {p pos : Pos} (hg : Gl X "range") (hm : X.mg "range" = none) (ha : PA X [a] ta) (hs : starEach [a] X.env = [(false, eval a X.env)] := by rfl) : PI X tg (.Call (.Name "range" p) [a] [] pos) (iRng1 ta) := by
  intro pins s σ H R I h
  refine Call_ (ld_blt I hg hm boot_range (PyProof.Rows.callWith_type1 (thn (ha pos pins s σ H _ I h) fun us s1 ⟨vs, H1, I1, r1, q1⟩ => ?_) hs rfl))
  obtain ⟨j, e, q1, q2, q⟩ := q1
  subst e
  cases r1 with
  | cons r rr =>
    cases rr
    obtain ⟨t, rfl⟩ := r
    exact call_range_1 (range_it I1 (by omega) (by omega) q1 q2 (by simpa using q))
/-! ### for -/
/-- W: the invariant by the turn and a measure; N: what the body is to reach -/
def tFor (wi : TI) (g : TG) (tb : TS) : TS := fun D σ H => wi σ H fun J H1 => ∃ W : Nat → Nat → St → Hp → Prop, (∃ m, W 0 m σ H1) ∧ ∀ i m σ H, W i m σ H →
  (J.stop i H ∧ D.nx σ H) ∨ (J.go i H ∧ ∃ N : St → Hp → Prop, (∀ σ' H', N σ' H' → ∃ m', m' < m ∧ W (i + 1) m' σ' H') ∧ ∀ x H', J.yld i H x H' → g x σ H' fun σ2 H2 => tb { D with nx := N, ct := N, bk := D.nx } σ2 H2)
/-- the records at fp as they stand -/
def pinsAt (fp : List Addr) (h : Heap) : List (Addr × Obj) := fp.filterMap fun b => (h.get? b).map fun o => (b, o)
theorem mem_pinsAt {fp : List Addr} {h : Heap} {b : Addr} {o : Obj} (hb : b ∈ fp) (e : h.get? b = some o) : (b, o) ∈ pinsAt fp h := List.mem_filterMap.mpr ⟨b, hb, by rw [e]; rfl⟩
theorem of_pinsAt {fp : List Addr} {h : Heap} {p : Addr × Obj} (hp : p ∈ pinsAt fp h) : p.1 ∈ fp ∧ h.get? p.1 = some p.2 := by
  obtain ⟨b, hb, e⟩ := List.mem_filterMap.mp hp
  cases q : h.get? b with
  | none => rw [q] at e; cases e
  | some o =>
    rw [q] at e
    have e' : (b, o) = p := Option.some.inj e
    subst e'
    exact ⟨hb, q⟩
theorem Inv.pinned {pins : List (Addr × Obj)} {σ : St} {H : Hp} {s : Shared} {fp : List Addr} (I : Inv X pins σ H s) (hf : ∀ b ∈ fp, FpOk X pins H b) (ho : ∀ b ∈ fp, ∃ o, s.heap.get? b = some o ∧ ∀ v, o.data ≠ .cell v) : Inv X (pins ++ pinsAt fp s.heap) σ H s :=
  I.pins_of fun p hp => (List.mem_append.mp hp).elim (fun z => I.pin p (List.mem_append_right _ z)) fun z => by
    obtain ⟨hb, e⟩ := of_pinsAt z
    obtain ⟨f0, f1, f2, _⟩ := hf p.1 hb
    obtain ⟨o, e', d⟩ := ho p.1 hb
    rw [e] at e'; cases e'
    exact ⟨e, f0, f1, f2, d⟩
theorem Inv.unpinned {pins pl : List (Addr × Obj)} {σ : St} {H : Hp} {s : Shared} (I : Inv X (pins ++ pl) σ H s) : Inv X pins σ H s := I.pins_of fun p hp => I.pin p (List.mem_append_right _ (List.mem_append_left _ hp))
theorem ps_for {iter : Expr} {body : List Stmt} {wi : TI} {g : TG} {tb : TS} {pos : Pos} (hp : PassesOwn (model X.prog X.w) X.A X.env X.xe) (hc : X.calm = true) (hi : PI X tg iter wi) (hg : PG X tg g) (hb : PSs X body tb)
    (hs : ∀ x, foldedSetIterable iter X.env x = pure x := by intro _; rfl) : PS X (.For tg iter body [] pos) (tFor wi g tb) := by
  intro pins s σ H D I h
  refine wpAny_For (thn (hi pins s σ H _ I h) fun v s1 h1 => thn h1 fun itv s2 h2 => ?_) hs
  obtain ⟨it, fp, tn, J, H2, e, I2, T, st2, f2, W, ⟨m0, w0⟩, turn⟩ := h2
  subst e
  -- what stays true of the iterator's objects through the loop
  have stat : ∀ {H' : Hp}, (∀ b ∈ fp, H' b = none) → ∀ b ∈ fp, FpOk X pins H' b := fun hn b hb => ⟨hn b hb, (f2 b hb).2⟩
  refine codeAny_forLoop_any (fun n s' => ∃ i σ' H', Inv X pins σ' H' s' ∧ tn i s'.heap ∧ (∀ b ∈ fp, H' b = none) ∧ W i n σ' H') ?_ m0 ⟨0, σ, H2, I2, st2, fun b hb => (f2 b hb).1, w0⟩
  rintro n s3 ⟨i, σ3, H3, I3, st3, fr3, w3⟩
  rcases turn i n σ3 H3 w3 with ⟨stop, qn⟩ | ⟨go, N, hN, step⟩
  · refine wpAny_passesOwn hp (thn (T.done X rfl rfl rfl hc i pins s3 σ3 H3 X.xe I3 (stat fr3) st3 stop) fun r s4 ⟨hr, I4⟩ => ?_)
    subst hr
    exact wpAny_execs_nil ⟨σ3, H3, I4, qn⟩
  · refine wpAny_passesOwn hp (thn (T.item X rfl rfl rfl hc i pins s3 σ3 H3 X.xe I3 (stat fr3) st3 go) fun r s4 ⟨u, hr, h4⟩ => ?_)
    subst hr
    refine wpAny_passesOwn hp (thn h4 fun _ s5 ⟨x, H5, I5, r5, y5, st5, fr5⟩ => ?_)
    have I5' := I5.pinned (stat fr5) (T.obj _ _ st5)
    refine wpAny_passesOwn hp (thn (hg _ s5 σ3 H5 x u _ I5' r5 (step x H5 y5)) fun _ s6 ⟨σ6, H6, I6, q6⟩ => ?_)
    refine wpAny_passesOwn hp (thn (hb _ s6 σ6 H6 _ I6 q6) fun f s7 q7 => ?_)
    have again : ∀ {σ7 : St} {H7 : Hp}, Inv X (pins ++ pinsAt fp s5.heap) σ7 H7 s7 → N σ7 H7 → ∃ m, m < n ∧ ∃ i σ' H', Inv X pins σ' H' s7 ∧ tn i s7.heap ∧ (∀ b ∈ fp, H' b = none) ∧ W i m σ' H' := fun {σ7 H7} I7 n7 => by
      obtain ⟨m', hm, w7⟩ := hN σ7 H7 n7
      refine ⟨m', hm, i + 1, σ7, H7, I7.unpinned, T.keep _ _ _ st5 fun b hb o e => (I7.pin (b, o) (List.mem_append_right _ (List.mem_append_right _ (mem_pinsAt hb e)))).1, fun b hb => ?_, w7⟩
      obtain ⟨o, e, d⟩ := T.obj _ _ st5 b hb
      exact (I7.pin (b, o) (List.mem_append_right _ (List.mem_append_right _ (mem_pinsAt hb e)))).2.1
    cases f with
    | next => obtain ⟨σ7, H7, I7, n7⟩ := q7; exact again I7 n7
    | cont => obtain ⟨σ7, H7, I7, n7⟩ := q7; exact again I7 n7
    | brk => obtain ⟨σ7, H7, I7, q7⟩ := q7; exact ⟨σ7, H7, I7.unpinned, q7⟩
    | ret v => obtain ⟨x7, σ7, H7, I7, r7, q7⟩ := q7; exact ⟨x7, σ7, H7, I7.unpinned, r7, q7⟩
end

/-! ### the forms one uses -/
/-- over a list that the body leaves as it is -/
theorem for_list {K : PySem.W.Frag} {a : Addr} {xs : List V} {g : TG} {tb : TS} {D : Ends} {σ : St} {H : Hp} (Pv : Nat → St → Hp → Prop) (h0 : Pv 0 σ H) (hl : ∀ i σ H, i ≤ xs.length → Pv i σ H → SqL K H a xs)
    (hs : ∀ i x σ H, xs[i]? = some x → Pv i σ H → g x σ H fun σ2 H2 => tb { D with nx := Pv (i + 1), ct := Pv (i + 1), bk := D.nx } σ2 H2) (hd : ∀ σ H, Pv xs.length σ H → D.nx σ H) :
    ∃ W : Nat → Nat → St → Hp → Prop, (∃ m, W 0 m σ H) ∧ ∀ i m σ H, W i m σ H →
      ((Itl K a).stop i H ∧ D.nx σ H) ∨ ((Itl K a).go i H ∧ ∃ N : St → Hp → Prop, (∀ σ' H', N σ' H' → ∃ m', m' < m ∧ W (i + 1) m' σ' H') ∧ ∀ x H', (Itl K a).yld i H x H' → g x σ H' fun σ2 H2 => tb { D with nx := N, ct := N, bk := D.nx } σ2 H2) := by
  refine ⟨fun i m σ H => m = xs.length - i ∧ i ≤ xs.length ∧ Pv i σ H, ⟨xs.length, by simp, Nat.zero_le _, h0⟩, ?_⟩
  rintro i m σ H ⟨rfl, hi, p⟩
  have q := hl i σ H hi p
  by_cases hlt : i < xs.length
  · refine .inr ⟨⟨xs, xs[i], q, by simp [hlt]⟩, Pv (i + 1), fun σ' H' p' => ⟨xs.length - (i + 1), by omega, rfl, hlt, p'⟩, fun x H' y => ?_⟩
    obtain ⟨e, y⟩ := y
    subst e
    exact hs i x σ _ (y xs q) p
  · have e : i = xs.length := by omega
    subst e
    exact .inl ⟨⟨xs, q, Nat.le_refl _⟩, hd σ H p⟩
theorem for_range {lo : Int} {n : Nat} {g : TG} {tb : TS} {D : Ends} {σ : St} {H : Hp} (Pv : Nat → St → Hp → Prop) (h0 : Pv 0 σ H)
    (hs : ∀ i σ H, i < n → Pv i σ H → g (.int (lo + i)) σ H fun σ2 H2 => tb { D with nx := Pv (i + 1), ct := Pv (i + 1), bk := D.nx } σ2 H2) (hd : ∀ σ H, Pv n σ H → D.nx σ H) :
    ∃ W : Nat → Nat → St → Hp → Prop, (∃ m, W 0 m σ H) ∧ ∀ i m σ H, W i m σ H →
      ((Itr lo n).stop i H ∧ D.nx σ H) ∨ ((Itr lo n).go i H ∧ ∃ N : St → Hp → Prop, (∀ σ' H', N σ' H' → ∃ m', m' < m ∧ W (i + 1) m' σ' H') ∧ ∀ x H', (Itr lo n).yld i H x H' → g x σ H' fun σ2 H2 => tb { D with nx := N, ct := N, bk := D.nx } σ2 H2) := by
  refine ⟨fun i m σ H => m = n - i ∧ i ≤ n ∧ Pv i σ H, ⟨n, by simp, Nat.zero_le _, h0⟩, ?_⟩
  rintro i m σ H ⟨rfl, hi, p⟩
  by_cases hlt : i < n
  · refine .inr ⟨hlt, Pv (i + 1), fun σ' H' p' => ⟨n - (i + 1), by omega, rfl, hlt, p'⟩, fun x H' y => ?_⟩
    obtain ⟨e, y⟩ := y
    subst e y
    exact hs i σ _ hlt p
  · have e : i = n := by omega
    subst e
    exact .inl ⟨Nat.le_refl _, hd σ H p⟩
end L2

namespace L2
open PySem PySem.Spec PyProof.Rows

abbrev R2 := V → V → Hp → VK → Prop
/-- a two-place operation on values: f is binaryOp op, inplaceOp op or compareOp op -/
def OpR (X : Cx) (f : Value → Value → Sem Value) (r : R2) : Prop :=
  ∀ (pins : List (Addr × Obj)) (s : Shared) (σ : St) (H : Hp) (x y : V) (v u : Value) (Q : VK), Inv X pins σ H s → RelV x v → RelV y u → r x y H Q →
    wpAny (model X.prog X.w) X.A (f v u) (EP X pins σ Q) X.xe s
/-- a one-place operation -/
def UnR (X : Cx) (f : Value → Sem Value) (r : V → Hp → VK → Prop) : Prop :=
  ∀ (pins : List (Addr × Obj)) (s : Shared) (σ : St) (H : Hp) (x : V) (v : Value) (Q : VK), Inv X pins σ H s → RelV x v → r x H Q →
    wpAny (model X.prog X.w) X.A (f v) (EP X pins σ Q) X.xe s
/-- a call of a value that is known (a builtin, a type) with values -/
def CallR (X : Cx) (f : Value) (r : List V → Hp → VK → Prop) : Prop :=
  ∀ (pins : List (Addr × Obj)) (s : Shared) (σ : St) (H : Hp) (xs : List V) (us : List Value) (Q : VK), Inv X pins σ H s → Vals xs us → r xs H Q →
    wpAny (model X.prog X.w) X.A (call f us) (EP X pins σ Q) X.xe s
def tOp (r : R2) (ta tb : TE) : TE := fun σ H Q => ta σ H fun x H1 => tb σ H1 fun y H2 => r x y H2 Q
def tUn (r : V → Hp → VK → Prop) (ta : TE) : TE := fun σ H Q => ta σ H fun x H1 => r x H1 Q
/-- ints in, under C, and a value out -/
def rI (C : Int → Int → Prop) (g : Int → Int → V) : R2 := fun x y H Q => ∃ i j, x = .int i ∧ y = .int j ∧ C i j ∧ Q (g i j) H
def rI0 (g : Int → Int → V) : R2 := fun x y H Q => ∃ i j, x = .int i ∧ y = .int j ∧ Q (g i j) H
def rU (g : Int → V) : V → Hp → VK → Prop := fun x H Q => ∃ i, x = .int i ∧ Q (g i) H

section
variable {X : Cx} {a b c : Expr} {ta tb tc : TE} {pos : Pos}

theorem binT (ha : PE X a ta) (hb : PE X b tb) {pins : List (Addr × Obj)} {s : Shared} {σ : St} {H : Hp} {R : V → V → Hp → Prop} (I : Inv X pins σ H s)
    (h : ta σ H fun x H1 => tb σ H1 fun y H2 => R x y H2) {Q : Value → Shared → Prop} {f : Value → Value → Sem Value}
    (hf : ∀ v u s2 x y H2, Inv X pins σ H2 s2 → RelV x v → RelV y u → R x y H2 → wpAny (model X.prog X.w) X.A (f v u) Q X.xe s2) :
    wpAny (model X.prog X.w) X.A (eval a X.env) (fun v s₁ => wpAny (model X.prog X.w) X.A (eval b X.env) (fun u s₂ => wpAny (model X.prog X.w) X.A (f v u) Q X.xe s₂) X.xe s₁) X.xe s := by
  refine thn (ha pins s σ H _ I h) fun v s1 ⟨x, H1, I1, r1, q1⟩ => ?_
  refine thn (hb pins s1 σ H1 _ I1 q1) fun u s2 ⟨y, H2, I2, r2, q2⟩ => ?_
  exact hf v u s2 x y H2 I2 r1 r2 q2

theorem pe_op {op : Operator} {r : R2} (ho : OpR X (binaryOp op) r) (ha : PE X a ta) (hb : PE X b tb) : PE X (.BinOp a op b pos) (tOp r ta tb) := by
  intro pins s σ H Q I h
  exact wpAny_BinOp (binT ha hb I h fun v u s2 x y H2 I2 rx ry q => ho pins s2 σ H2 x y v u Q I2 rx ry q)
theorem pe_un {op : UnaryOp} {r : V → Hp → VK → Prop} (ho : UnR X (unaryOp op) r) (ha : PE X a ta) : PE X (.UnaryOp op a pos) (tUn r ta) := by
  intro pins s σ H Q I h
  exact UnaryOp_ (thn (ha pins s σ H _ I h) fun v s1 ⟨x, H1, I1, r1, q1⟩ => ho pins s1 σ H1 x v Q I1 r1 q1)
/-! ### ints -/
theorem opI {f : Value → Value → Sem Value} {C : Int → Int → Prop} {g : Int → Int → Int}
    (rule : ∀ (i j : Int) (t u : Tok) (s : Shared) (Q : Value → Shared → Prop) (E : Value → Shared → Prop), C i j → Q (.int (g i j) s.toks) { s with toks := s.toks + 1 } → wpAny (model X.prog X.w) X.A (f (.int i t) (.int j u)) Q E s) :
    OpR X f (rI C fun i j => .int (g i j)) := by
  intro pins s σ H x y v u Q I rx ry h
  obtain ⟨i, j, rfl, rfl, hc, q⟩ := h
  obtain ⟨t, rfl⟩ := rx
  obtain ⟨t', rfl⟩ := ry
  exact rule i j t t' s _ _ hc ⟨.int (g i j), H, I.tok _, ⟨_, rfl⟩, q⟩
theorem opI0 {f : Value → Value → Sem Value} {g : Int → Int → Int}
    (rule : ∀ (i j : Int) (t u : Tok) (s : Shared) (Q : Value → Shared → Prop) (E : Value → Shared → Prop), Q (.int (g i j) s.toks) { s with toks := s.toks + 1 } → wpAny (model X.prog X.w) X.A (f (.int i t) (.int j u)) Q E s) :
    OpR X f (rI0 fun i j => .int (g i j)) := by
  intro pins s σ H x y v u Q I rx ry h
  obtain ⟨i, j, rfl, rfl, q⟩ := h
  obtain ⟨t, rfl⟩ := rx
  obtain ⟨t', rfl⟩ := ry
  exact rule i j t t' s _ _ ⟨.int (g i j), H, I.tok _, ⟨_, rfl⟩, q⟩
theorem opB0 {f : Value → Value → Sem Value} {g : Int → Int → Bool}
    (rule : ∀ (i j : Int) (t u : Tok) (s : Shared) (Q : Value → Shared → Prop) (E : Value → Shared → Prop), Q (.bool (g i j)) s → wpAny (model X.prog X.w) X.A (f (.int i t) (.int j u)) Q E s) :
    OpR X f (rI0 fun i j => .bl (g i j)) := by
  intro pins s σ H x y v u Q I rx ry h
  obtain ⟨i, j, rfl, rfl, q⟩ := h
  obtain ⟨t, rfl⟩ := rx
  obtain ⟨t', rfl⟩ := ry
  exact rule i j t t' s _ _ ⟨.bl (g i j), H, I, rfl, q⟩

def CDiv (i j : Int) : Prop := 0 < j ∧ j < 1073741824
def CPow (i j : Int) : Prop := 0 ≤ j ∧ j ≤ 1000000 ∧ i.natAbs < 2 ^ 64
def CMul (i j : Int) : Prop := (-(2 ^ 64) < i ∧ i < 2 ^ 64) ∨ (-(2 ^ 64) < j ∧ j < 2 ^ 64)
theorem CMul.ok {i j : Int} (h : CMul i j) : IntMulOk i j := by
  rcases h with ⟨h1, h2⟩ | ⟨h1, h2⟩
  · exact .of_left (intBits_le_64 h1 h2)
  · exact .of_right (intBits_le_64 h1 h2)
theorem op_add : OpR X (binaryOp .Add) (rI0 fun i j => .int (i + j)) := opI0 fun _ _ _ _ _ _ _ q => add_int q
theorem op_sub : OpR X (binaryOp .Sub) (rI0 fun i j => .int (i - j)) := opI0 fun _ _ _ _ _ _ _ q => sub_int q
theorem op_mul : OpR X (binaryOp .Mult) (rI CMul fun i j => .int (i * j)) := opI fun _ _ _ _ _ _ _ hc q => mul_int q hc.ok
/-- // by a positive divisor -/
theorem op_fdiv : OpR X (binaryOp .FloorDiv) (rI CDiv fun i j => .int (i / j)) := opI fun i j _ _ _ _ _ hc q => by
  have h1 : (0 : Int) < j := hc.1
  have h2 : j < 1073741824 := hc.2
  exact floordiv_int (by omega) (by rw [Int.fdiv_eq_ediv_of_nonneg i (by omega)]; exact q) (.inl (PyProof.noPylong_small (by omega)))
/-- % by a positive divisor of any size -/
theorem op_mod : OpR X (binaryOp .Mod) (rI (fun _ j => 0 < j) fun i j => .int (i % j)) := opI fun i j _ _ _ _ _ hc q => by
  have h1 : (0 : Int) < j := hc
  exact mod_int' (by omega) (by rw [Int.fmod_eq_emod_of_nonneg i (by omega)]; exact q)
theorem op_pow : OpR X (binaryOp .Pow) (rI CPow fun i j => .int (i ^ j.toNat)) := opI fun _ _ _ _ _ _ _ hc q => pow_int_small hc.1 hc.2.1 hc.2.2 q
theorem unI {f : Value → Sem Value} {g : Int → Int}
    (rule : ∀ (i : Int) (t : Tok) (s : Shared) (Q : Value → Shared → Prop) (E : Value → Shared → Prop), Q (.int (g i) s.toks) { s with toks := s.toks + 1 } → wpAny (model X.prog X.w) X.A (f (.int i t)) Q E s) :
    UnR X f (rU fun i => .int (g i)) := by
  intro pins s σ H x v Q I rx h
  obtain ⟨i, rfl, q⟩ := h
  obtain ⟨t, rfl⟩ := rx
  exact rule i t s _ _ ⟨.int (g i), H, I.tok _, ⟨_, rfl⟩, q⟩
theorem un_neg : UnR X (unaryOp .USub) (rU fun i => .int (-i)) := unI fun _ _ _ _ _ q => neg_int q
/-! ### bools among ints: n += (a < b) -/
end

/-! ### comparisons -/
/-- the scalars that == tells apart as data does -/
def scal : V → V → Bool
  | .non, .non => true | .non, .int _ => true | .int _, .non => true | .non, .bl _ => true | .bl _, .non => true | .non, .str _ => true | .str _, .non => true
  | .int _, .int _ => true | .bl _, .bl _ => true | .str _, .str _ => true | .byt _, .byt _ => true
  | .int _, .str _ => true | .str _, .int _ => true | .bl _, .str _ => true | .str _, .bl _ => true
  | _, _ => false
def rEq : R2 := fun x y H Q => scal x y = true ∧ Q (.bl (decide (x = y))) H
def rNe : R2 := fun x y H Q => scal x y = true ∧ Q (.bl (!decide (x = y))) H

theorem dec_int {i j : Int} : decide (V.int i = V.int j) = (i == j) := by
  rw [Bool.eq_iff_iff]
  simp
theorem dec_bl {i j : Bool} : decide (V.bl i = V.bl j) = (i == j) := by
  rw [Bool.eq_iff_iff]
  simp
theorem dec_str {i j : Str} : decide (V.str i = V.str j) = (i == j) := by
  rw [Bool.eq_iff_iff]
  simp
theorem dec_byt {i j : Array UInt8} : decide (V.byt i = V.byt j) = (i.toList == j.toList) := by
  rw [Bool.eq_iff_iff]
  cases i
  cases j
  simp

section
variable {X : Cx} {a b c : Expr} {ta tb tc : TE} {pos : Pos}
theorem fin_bl {pins : List (Addr × Obj)} {σ : St} {H : Hp} {s : Shared} {Q : VK} {k k' : Bool} (I : Inv X pins σ H s) (q : Q (.bl k) H) (e : k = k') : EP X pins σ Q (.bool k') s := by
  subst e
  exact ⟨.bl k, H, I, rfl, q⟩
theorem op_eq : OpR X (compareOp .Eq) rEq := by
  intro pins s σ H x y v u Q I rx ry h
  obtain ⟨hs, q⟩ := h
  cases x with
  | non =>
    cases rx
    cases y with
    | non => cases ry; exact PySem.EqNone.eq_none_none (fin_bl I q (by simp))
    | bl j => cases ry; exact PySem.EqNone.eq_none_bool (fin_bl I q (by simp))
    | int j => obtain ⟨t', rfl⟩ := ry; exact PySem.EqNone.eq_none_int (fin_bl I q (by simp))
    | str j => obtain ⟨t', rfl⟩ := ry; exact PySem.EqNone.eq_none_str (fin_bl I q (by simp))
    | _ => exact absurd (show false = true from hs) Bool.false_ne_true
  | bl i =>
    cases rx
    cases y with
    | non => cases ry; exact PySem.EqNone.eq_bool_none (fin_bl I q (by simp))
    | bl j => cases ry; exact eq_bool (fin_bl I q dec_bl)
    | str j => obtain ⟨t', rfl⟩ := ry; exact PySem.EqMixed.eq_bool_str (fin_bl I q (by simp))
    | _ => exact absurd (show false = true from hs) Bool.false_ne_true
  | int i =>
    obtain ⟨t, rfl⟩ := rx
    cases y with
    | non => cases ry; exact PySem.EqNone.eq_int_none (fin_bl I q (by simp))
    | int j => obtain ⟨t', rfl⟩ := ry; exact eq_int (fin_bl I q dec_int)
    | str j => obtain ⟨t', rfl⟩ := ry; exact PySem.EqMixed.eq_int_str (fin_bl I q (by simp))
    | _ => exact absurd (show false = true from hs) Bool.false_ne_true
  | str i =>
    obtain ⟨t, rfl⟩ := rx
    cases y with
    | non => cases ry; exact PySem.EqNone.eq_str_none (fin_bl I q (by simp))
    | bl j => cases ry; exact PySem.EqMixed.eq_str_bool (fin_bl I q (by simp))
    | int j => obtain ⟨t', rfl⟩ := ry; exact PySem.EqMixed.eq_str_int (fin_bl I q (by simp))
    | str j => obtain ⟨t', rfl⟩ := ry; exact eq_str (fin_bl I q dec_str)
    | _ => exact absurd (show false = true from hs) Bool.false_ne_true
  | byt i =>
    obtain ⟨t, rfl⟩ := rx
    cases y with
    | byt j => obtain ⟨t', rfl⟩ := ry; exact PySem.W.eq_bytes (fin_bl I q dec_byt)
    | _ => exact absurd (show false = true from hs) Bool.false_ne_true
  | _ => cases y <;> exact absurd (show false = true from hs) Bool.false_ne_true
theorem op_ne : OpR X (compareOp .NotEq) rNe := by
  intro pins s σ H x y v u Q I rx ry h
  obtain ⟨hs, q⟩ := h
  cases x with
  | non =>
    cases rx
    cases y with
    | non => cases ry; exact PySem.EqNone.ne_none_none (fin_bl I q (by simp))
    | bl j => cases ry; exact PySem.EqNone.ne_none_bool (fin_bl I q (by simp))
    | int j => obtain ⟨t', rfl⟩ := ry; exact PySem.EqNone.ne_none_int (fin_bl I q (by simp))
    | str j => obtain ⟨t', rfl⟩ := ry; exact PySem.EqNone.ne_none_str (fin_bl I q (by simp))
    | _ => exact absurd (show false = true from hs) Bool.false_ne_true
  | bl i =>
    cases rx
    cases y with
    | non => cases ry; exact PySem.EqNone.ne_bool_none (fin_bl I q (by simp))
    | bl j => cases ry; exact ne_bool (fin_bl I q (congrArg not dec_bl))
    | str j => obtain ⟨t', rfl⟩ := ry; exact PySem.EqMixed.ne_bool_str (fin_bl I q (by simp))
    | _ => exact absurd (show false = true from hs) Bool.false_ne_true
  | int i =>
    obtain ⟨t, rfl⟩ := rx
    cases y with
    | non => cases ry; exact PySem.EqNone.ne_int_none (fin_bl I q (by simp))
    | int j => obtain ⟨t', rfl⟩ := ry; exact ne_int (fin_bl I q (congrArg not dec_int))
    | str j => obtain ⟨t', rfl⟩ := ry; exact PySem.EqMixed.ne_int_str (fin_bl I q (by simp))
    | _ => exact absurd (show false = true from hs) Bool.false_ne_true
  | str i =>
    obtain ⟨t, rfl⟩ := rx
    cases y with
    | non => cases ry; exact PySem.EqNone.ne_str_none (fin_bl I q (by simp))
    | bl j => cases ry; exact PySem.EqMixed.ne_str_bool (fin_bl I q (by simp))
    | int j => obtain ⟨t', rfl⟩ := ry; exact PySem.EqMixed.ne_str_int (fin_bl I q (by simp))
    | str j => obtain ⟨t', rfl⟩ := ry; exact ne_str (fin_bl I q (congrArg not dec_str))
    | _ => exact absurd (show false = true from hs) Bool.false_ne_true
  | byt i =>
    obtain ⟨t, rfl⟩ := rx
    cases y with
    | byt j => obtain ⟨t', rfl⟩ := ry; exact PySem.W.ne_bytes (fin_bl I q (congrArg not dec_byt))
    | _ => exact absurd (show false = true from hs) Bool.false_ne_true
  | _ => cases y <;> exact absurd (show false = true from hs) Bool.false_ne_true

theorem op_lt : OpR X (compareOp .Lt) (rI0 fun i j => .bl (decide (i < j))) := opB0 fun _ _ _ _ _ _ _ q => lt_int q
theorem op_gt : OpR X (compareOp .Gt) (rI0 fun i j => .bl (decide (j < i))) := opB0 fun _ _ _ _ _ _ _ q => gt_int q
theorem op_ge : OpR X (compareOp .GtE) (rI0 fun i j => .bl (decide (j ≤ i))) := opB0 fun _ _ _ _ _ _ _ q => ge_int q
/-- is None, is not None: the right side a value none -/
theorem op_isN : OpR X (compareOp .Is) (fun x y H Q => y = .non ∧ Q (.bl (decide (x = .non))) H) := by
  intro pins s σ H x y v u Q I rx ry h
  obtain ⟨rfl, q⟩ := h
  cases ry
  refine is_none_gen (fin_bl I q ?_)
  cases x <;> first
    | (cases rx; rfl)
    | (obtain ⟨t, rfl⟩ := rx; rfl)
/-- two rules for one operation: by cases -/
theorem OpR.or {f : Value → Value → Sem Value} {r r' : R2} (h : OpR X f r) (h' : OpR X f r') : OpR X f (fun x y H Q => r x y H Q ∨ r' x y H Q) := by
  intro pins s σ H x y v u Q I rx ry q
  rcases q with q | q
  · exact h pins s σ H x y v u Q I rx ry q
  · exact h' pins s σ H x y v u Q I rx ry q

theorem nomark (b : Expr) {op : CmpOp} (h : op ≠ .In := by decide) (h2 : op ≠ .NotIn := by decide) : behindInMarks op b = false := by
  have e1 : (op == CmpOp.In) = false := by cases op <;> first | rfl | exact absurd rfl h
  have e2 : (op == CmpOp.NotIn) = false := by cases op <;> first | rfl | exact absurd rfl h2
  cases b <;> simp [behindInMarks, e1, e2]
/-- a comparison as a value; hm: nomark b, or (for in, not in) by with_unfolding_all rfl -/
theorem pe_cmpR {op : CmpOp} {r : R2} (ho : OpR X (compareOp op) r) (ha : PE X a ta) (hb : PE X b tb) (hm : behindInMarks op b = false) : PE X (.Compare a [op] [b] pos) (tOp r ta tb) := by
  intro pins s σ H Q I h
  exact wpAny_Compare1 (binT ha hb I h fun v u s2 x y H2 I2 rx ry q => ho pins s2 σ H2 x y v u Q I2 rx ry q) hm
/-- a reading of a value as a test -/
def tTest (t : TE) : TT := fun σ H Q => t σ H fun x H' => ∃ k, x = .bl k ∧ Q k H'
theorem pt_cmpR {op : CmpOp} {r : R2} (ho : OpR X (compareOp op) r) (ha : PE X a ta) (hb : PE X b tb) (hm : behindInMarks op b = false) : PT X (.Compare a [op] [b] pos) (tTest (tOp r ta tb)) := by
  intro pins s σ H Q I h
  refine wpAny_isTrue_Compare1 (thn (ha pins s σ H _ I h) fun v s1 ⟨x, H1, I1, r1, q1⟩ => thn (hb pins s1 σ H1 _ I1 q1) fun u s2 ⟨y, H2, I2, r2, q2⟩ =>
    thn (ho pins s2 σ H2 x y v u _ I2 r1 r2 q2) fun c s3 ⟨z, H3, I3, r3, k, e, q3⟩ => ?_) hm
  subst e
  cases r3
  exact wpAny_truthy_bool ⟨H3, I3, q3⟩
/-! ### truth -/
theorem line63 : (sizeLine : Nat) < 2 ^ 63 := by rw [sizeLine_eq]; decide
/-! ### strs and bytes -/
theorem op_add_str : OpR X (binaryOp .Add) (fun x y H Q => ∃ i j, x = .str i ∧ y = .str j ∧ i.length + j.length ≤ sizeLine ∧ Q (.str (i ++ j)) H) := by
  intro pins s σ H x y v u Q I rx ry h
  obtain ⟨i, j, rfl, rfl, hz, q⟩ := h
  obtain ⟨t, rfl⟩ := rx
  obtain ⟨t', rfl⟩ := ry
  exact add_str (fun t' tk => ⟨.str (i ++ j), H, I.tok _, ⟨_, rfl⟩, q⟩) hz
/-! ### scalar builtins, by CallR -/
theorem vals1 {x : V} {us : List Value} (r : Vals [x] us) : ∃ u, us = [u] ∧ RelV x u := by
  cases r with
  | cons r1 r2 => cases r2; exact ⟨_, rfl, r1⟩
theorem vals2 {x y : V} {us : List Value} (r : Vals [x, y] us) : ∃ u w', us = [u, w'] ∧ RelV x u ∧ RelV y w' := by
  cases r with
  | cons r1 r2 =>
    cases r2 with
    | cons r3 r4 => cases r4; exact ⟨_, _, rfl, r1, r3⟩
theorem call_abs : CallR X (.builtin "abs") (fun xs H Q => ∃ i, xs = [.int i] ∧ Q (.int (if i < 0 then -i else i)) H) := by
  intro pins s σ H xs us Q I r h
  obtain ⟨i, rfl, q⟩ := h
  obtain ⟨u, rfl, t, rfl⟩ := vals1 r
  exact call_abs_int fun u tk => ⟨.int (if i < 0 then -i else i), H, I.tok _, ⟨_, rfl⟩, q⟩
theorem call_max2 (hc : X.calm = true) : CallR X (.builtin "max") (fun xs H Q => ∃ i j, xs = [.int i, .int j] ∧ Q (.int (if j > i then j else i)) H) := by
  intro pins s σ H xs us Q I r h
  obtain ⟨i, j, rfl, q⟩ := h
  obtain ⟨u, w', rfl, ⟨t, rfl⟩, ⟨t', rfl⟩⟩ := vals2 r
  refine max_two_ints (I.ok.hd hc) fun h' tk k => ⟨_, H, I.kept k, ?_, q⟩
  by_cases hj : j > i
  · rw [if_pos hj, if_pos hj]; exact ⟨_, rfl⟩
  · rw [if_neg hj, if_neg hj]; exact ⟨_, rfl⟩
/-- len of a str, a bytes, a list, a tuple -/
def LenV (K : PySem.W.Frag) (x : V) (H : Hp) (n : Nat) : Prop :=
  match x with
  | .str y => y.length ≤ sizeLine ∧ n = y.length
  | .byt y => y.size ≤ sizeLine ∧ n = y.size
  | .ref p => (∃ xs, SqL K H p xs ∧ n = xs.length) ∨ ∃ xs, SqT K H p xs ∧ n = xs.length
  | _ => False
theorem call_len : CallR X (.builtin "len") (fun xs H Q => ∃ x n, xs = [x] ∧ LenV X.K x H n ∧ Q (.int n) H) := by
  intro pins s σ H xs us Q I r h
  obtain ⟨x, n, rfl, e, q⟩ := h
  obtain ⟨u, rfl, rx⟩ := vals1 r
  have hl := line63
  have hs : sizeLine = 16777216 := sizeLine_eq
  cases x with
  | str y =>
    obtain ⟨t, rfl⟩ := rx
    obtain ⟨hy, e'⟩ : y.length ≤ sizeLine ∧ n = y.length := e
    subst e'
    exact len_str (by omega) ⟨.int _, H, I.tok _, ⟨_, rfl⟩, q⟩
  | byt y =>
    obtain ⟨t, rfl⟩ := rx
    obtain ⟨hy, e'⟩ : y.size ≤ sizeLine ∧ n = y.size := e
    subst e'
    exact PySem.W.len_bytes (by omega) ⟨.int _, H, I.tok _, ⟨_, rfl⟩, q⟩
  | ref p =>
    cases rx
    have e' : (∃ xs, SqL X.K H p xs ∧ n = xs.length) ∨ ∃ xs, SqT X.K H p xs ∧ n = xs.length := e
    rcases e' with ⟨xs, hx, e'⟩ | ⟨xs, hx, e'⟩
    · subst e'
      obtain ⟨its, r', pl, hz⟩ := I.list hx
      have hlen := r'.length
      exact Calls.call_len_list pl.isList (by simp only [List.size_toArray]; omega) ⟨.int xs.length, H, I.tok _, ⟨_, by simp only [List.size_toArray]; rw [hlen]⟩, q⟩
    · subst e'
      obtain ⟨its, r', pl, hz⟩ := I.tuple hx
      have hlen := r'.length
      exact len_tuple pl (by simp only [List.size_toArray]; omega) ⟨.int xs.length, H, I.tok _, ⟨_, by simp only [List.size_toArray]; rw [hlen]⟩, q⟩
  | _ => exact (show False from e).elim
end
end L2

namespace L2
open PySem PySem.Spec PyProof.Rows

/-! ### an instance, its attributes a map -/
structure ObjM (h : Heap) (x dx C : Addr) (mA : Str → Option Value) : Prop where
  obj : h.get? x = some (PySem.W.instObj C dx)
  ns : h.Ns1 dx mA
  ne : dx ≠ x

theorem lookIn_ns {h : Heap} {dx : Addr} {mA : Str → Option Value} (n : h.Ns1 dx mA) : ∃ od, h.get? dx = some od ∧ ∀ name, PySem.W.lookIn name od = some (mA name) := by
  obtain ⟨o, es, ep, ho, hd, hk, _, hm⟩ := n
  refine ⟨o, ho, fun name => ?_⟩
  have e := hm name
  unfold nsFind findBy at e
  rw [← Array.find?_toList] at e
  unfold PySem.W.lookIn
  rw [hd]
  dsimp only
  split
  · rename_i y q
    rw [q] at e
    exact congrArg some e
  · rename_i q
    rw [q] at e
    have a : es.toList.any (·.refKey) = false := by
      rw [List.any_eq_false]
      intro y hy
      obtain ⟨z, t, hkey⟩ := hk y (Array.mem_toList_iff.mp hy)
      simp [DictEntry.refKey, hkey]
    have a' : ¬ es.toList.any (·.refKey) = true := by rw [a]; exact Bool.false_ne_true
    rw [if_neg a']
    exact congrArg some e

theorem ObjM.look {h : Heap} {x dx C : Addr} {mA : Str → Option Value} (I : ObjM h x dx C mA) : ∃ od, PySem.W.InstAt h x (PySem.W.instObj C dx) C (some od) ∧ ∀ name, PySem.W.lookIn name od = some (mA name) :=
  let ⟨od, ho, hl⟩ := lookIn_ns I.ns
  ⟨od, ⟨I.obj, rfl, rfl, ho⟩, hl⟩

section
variable {prog : Program} {w : World} {A : Around} {E : Value → Shared → Prop} {s : Shared} {K : PySem.W.Frag} {x dx C f : Addr} {mA : Str → Option Value} {name : Str} {v : Value}

end

/-! ### the attributes as a list of pairs -/
theorem RelO.some_of {v : V} {o : Option Value} (r : RelO (some v) o) : ∃ u, o = some u ∧ RelV v u := by
  cases o with
  | none => exact (show False from r).elim
  | some u => exact ⟨u, rfl, r⟩
theorem RelO.none_of {o : Option Value} (r : RelO none o) : o = none := by
  cases o with
  | none => rfl
  | some u => exact (show False from r).elim
section
variable {P : Program} {w : World} {H H' : Hp} {h h' : Heap} {a C dx : Addr} {fs fs' : List (Str × V)}
theorem ins_get (hok : HOk P w H h) (e : H a = some (.ins C dx fs)) : ∃ mA, ObjM h a dx C mA ∧ (∀ f, RelO (fs.lookup f) (mA f)) ∧ PySem.Within mA (fs.map (·.1)) ∧ fs.length ≤ 1000 ∧ H dx = some (.own a) := by
  obtain ⟨d, z, ne, ob, mA, n, r, q⟩ := (show ObjOk P w H h a (.ins C dx fs) from hok a _ e)
  exact ⟨mA, ⟨ob, n, ne⟩, r, q, z, d⟩
end

/-! ### what of the text a class must have -/
structure Cls (K : PySem.W.Frag) (C : Addr) : Prop where
  pg : PySem.W.plainGet K C Str.empty = true
  hd : PySem.W.hasDictIn K C = true
  po : PySem.W.plainOver K C = true
  sa : PySem.W.findIn K (.ref C) "__setattr__" = some (some (.builtin "object.__setattr__"))
theorem Cls.get {K : PySem.W.Frag} {C : Addr} (c : Cls K C) (f : Str) : PySem.W.plainGet K C f = true := c.pg
/-- a constant of the class -/
structure Con (K : PySem.W.Frag) (C : Addr) (f : Str) (v : V) (u : Value) : Prop where
  at_ : PySem.W.findIn K (.ref C) f = some (some u)
  rel : RelV v u
  get : PySem.W.specialIn K u "__get__" = some none
  cp : PySem.W.copiedNames.contains f = false
/-- a method: a plain def of the class or of one above it -/
structure Meth (K : PySem.W.Frag) (C : Addr) (m : Str) (f : Addr) : Prop where
  at_ : PySem.W.findIn K (.ref C) m = some (some (.ref f))
  fn : PySem.W.isFn K (.ref f) = true
  kp : PySem.W.keepIn K (.ref f) = true

section
variable {X : Cx} {pins : List (Addr × Obj)} {σ : St} {H : Hp} {s : Shared} {a C dx : Addr} {fs : List (Str × V)} {f : Str} {v : V} {A : Around} {E : Value → Shared → Prop}

/-- a new instance, tracked, without attributes -/
theorem Inv.made (I : Inv X pins σ H s) : Inv X pins σ (upd (upd H s.heap.objs.size (.own (s.heap.objs.size + 1))) (s.heap.objs.size + 1) (.ins C s.heap.objs.size []))
    { s with heap := (s.heap.push PySem.W.emptyDict).push (PySem.W.instObj C s.heap.objs.size) } := by
  have e1 : (s.heap.push PySem.W.emptyDict).get? s.heap.objs.size = some PySem.W.emptyDict := Heap.get?_push_size s.heap rfl
  have e2 : ((s.heap.push PySem.W.emptyDict).push (PySem.W.instObj C s.heap.objs.size)).get? (s.heap.objs.size + 1) = some (PySem.W.instObj C s.heap.objs.size) := by
    have := Heap.get?_push_size (s.heap.push PySem.W.emptyDict) (o := PySem.W.instObj C s.heap.objs.size) rfl
    rwa [Heap.size_push] at this
  have e3 : (s.heap.push PySem.W.emptyDict).Ns s.heap.objs.size (fun _ => none) := ⟨PySem.W.emptyDict, #[], _, e1, rfl, (fun e he => absurd he (by simp)), fun _ => rfl⟩
  have I1 := I.laid (a := s.heap.objs.size) (o := .own (s.heap.objs.size + 1)) (h' := s.heap.push PySem.W.emptyDict) (t' := s.toks) (fun b u q => Heap.get?_push_of_some _ q) (Nat.le_refl _) ⟨_, e1⟩
  refine I1.laid (a := s.heap.objs.size + 1) (o := .ins C s.heap.objs.size []) (t' := s.toks) (fun b u q => Heap.get?_push_of_some _ q) (Nat.le_of_eq (Heap.size_push _ _)) ?_
  have ne : s.heap.objs.size ≠ s.heap.objs.size + 1 := Nat.ne_of_lt (Nat.lt_succ_self _)
  refine ⟨by rw [upd_ne ne, upd_same], Nat.zero_le _, ne, e2, fun _ => none, (Heap.Ns1.of_empty e3).at fun o q => Heap.get?_push_of_some _ q, fun _ => True.intro, fun y hy => absurd rfl hy⟩

end

/-! ### readings and rules -/
section
variable {X : Cx} {o e value : Expr} {f : Str} {pos pos' tpos : Pos} {ta tv : TE}
end

/-! ### isinstance -/
section
variable {X : Cx} {pins : List (Addr × Obj)} {σ : St} {H : Hp} {s : Shared} {A : Around} {E : Value → Shared → Prop} {Q : Value → Shared → Prop} {c : Value} {b : Bool}
/-- the type of a value, as the fragment's deciders take it; for an instance its class -/
inductive TyOf (K : PySem.W.Frag) (H : Hp) : V → Value → Prop where
  | non : TyOf K H .non (.type "NoneType")
  | bl (x : Bool) : TyOf K H (.bl x) (.type "bool")
  | int (i : Int) : TyOf K H (.int i) (.type "int")
  | str (x : Str) : TyOf K H (.str x) (.type "str")
  | flt (x : UInt64) : TyOf K H (.flt x) (.type "float")
  | lst {a : Addr} {xs : List V} (e : H a = some (.lst xs)) : TyOf K H (.ref a) (.type "list")
  | frz {a : Addr} {o : Obj} {xs : List V} (e : H a = some (.frz o (.lst xs))) : TyOf K H (.ref a) (.type "list")
  | tup {a : Addr} {xs : List V} (e : H a = some (.tup xs)) : TyOf K H (.ref a) (.type "tuple")
  | dK {a : Addr} {kvs : List (Key × V)} (e : H a = some (.dK kvs)) : TyOf K H (.ref a) (.type "dict")
  | dT {a : Addr} {kvs : List (List Key × V)} (e : H a = some (.dT kvs)) : TyOf K H (.ref a) (.type "dict")
  | ins {a C dx : Addr} {fs : List (Str × V)} (e : H a = some (.ins C dx fs)) (cl : Cls K C) (ha : PySem.W.findIn K (.ref C) "__class__" = some (some (.builtin "object.__class__")))
      (hn : PySem.W.specialIn K (.builtin "object.__class__") "__get__" = some (some (.builtin "getset_descriptor.__get__"))) (htk : PySem.W.takesIn K (.builtin "object.__class__") = some true)
      (hm : PySem.W.mroIn K C (.type "object") = some true) : TyOf K H (.ref a) (.ref C)
/-- isinstance(x, c) for one class c, a built-in or an own one: kitOne's answer -/
theorem isinst_ok {x : V} {u t : Value} (I : Inv X pins σ H s) (rx : RelV x u) (ty : TyOf X.K H x t) (e : PySem.W.kitOne X.K t c = some b) (h : ∀ tk, Q (.bool b) { s with toks := tk }) :
    wpAny (model X.prog X.w) A (call (.builtin "isinstance") [u, c]) Q E s := by
  cases ty with
  | non => cases (show u = Value.none from rx); exact PySem.W.kia_one PySem.W.kitx_none I.kIn True.intro e (fun z => nomatch z) h
  | bl y => cases (show u = Value.bool y from rx); exact PySem.W.kia_one PySem.W.kitx_bool I.kIn True.intro e (fun z => nomatch z) h
  | int i => obtain ⟨t, q⟩ := (show ∃ t, u = Value.int i t from rx); cases q; exact PySem.W.kia_one PySem.W.kitx_int I.kIn True.intro e (fun z => nomatch z) h
  | str y => obtain ⟨t, q⟩ := (show ∃ t, u = Value.str y t from rx); cases q; exact PySem.W.kia_one PySem.W.kitx_str I.kIn True.intro e (fun z => nomatch z) h
  | flt y => obtain ⟨t, q⟩ := (show ∃ t, u = Value.float y t from rx); cases q; exact PySem.W.kia_one PySem.W.kitx_float I.kIn True.intro e (fun z => nomatch z) h
  | @lst a xs ea =>
    cases (show u = Value.ref a from rx)
    obtain ⟨_, _, n, _, h1⟩ := (show ObjOk X.prog X.w H s.heap a (.lst xs) from I.hok a _ ea)
    exact PySem.W.kia_one PySem.W.kitx_list I.kIn ⟨_, h1, rfl⟩ e (fun z => nomatch z) h
  | @frz a ob xs ea =>
    cases (show u = Value.ref a from rx)
    obtain ⟨_, _, _, n, _, h1⟩ := (show ObjOk X.prog X.w H s.heap a (.frz ob (.lst xs)) from I.hok a _ ea)
    exact PySem.W.kia_one PySem.W.kitx_list I.kIn ⟨_, h1, rfl⟩ e (fun z => nomatch z) h
  | @tup a xs ea =>
    cases (show u = Value.ref a from rx)
    obtain ⟨_, _, _, p⟩ := (show ObjOk X.prog X.w H s.heap a (.tup xs) from I.hok a _ ea)
    obtain ⟨o, h1, h2, _⟩ := p
    exact PySem.W.kia_one PySem.W.kitx_tuple I.kIn ⟨o, h1, h2⟩ e (fun z => nomatch z) h
  | @dK a kvs ea =>
    cases (show u = Value.ref a from rx)
    obtain ⟨_, _, vs, _, p⟩ := (show ObjOk X.prog X.w H s.heap a (.dK kvs) from I.hok a _ ea)
    obtain ⟨o, es, ep, h1, h2, _⟩ := p
    exact PySem.W.kia_one PySem.W.kitx_dict I.kIn ⟨o, h1, h2.1⟩ e (fun z => nomatch z) h
  | @dT a kvs ea =>
    cases (show u = Value.ref a from rx)
    obtain ⟨_, _, xs, _, o, es, ep, h1, h2, _⟩ := (show ObjOk X.prog X.w H s.heap a (.dT kvs) from I.hok a _ ea)
    exact PySem.W.kia_one PySem.W.kitx_dict I.kIn ⟨o, h1, h2.1⟩ e (fun z => nomatch z) h
  | @ins a C dx fs ea cl ha hn htk hm =>
    cases (show u = Value.ref a from rx)
    obtain ⟨mA, O, _⟩ := ins_get I.hok ea
    obtain ⟨od, J, _⟩ := O.look
    exact PySem.W.kia_one (PySem.W.kitx_own (cl.get _) cl.hd ha hn htk hm) I.kIn J e (fun z => nomatch z) h
end
end L2

namespace L2
open PySem PySem.Spec PyProof.Rows

/-! ### room -/
structure Room (k : Nat) (A : Around) : Prop where
  hd : A.handled = none
  dp : A.depth + 3 * k + 5 < recursionLimit
  un : A.units + 16 * k + 200 < cLine
theorem Room.mono {j k : Nat} {A : Around} (r : Room k A) (h : j ≤ k) : Room j A := ⟨r.hd, by have := r.dp; omega, by have := r.un; omega⟩
theorem Room.deeper {k : Nat} {A : Around} (r : Room (k + 1) A) (env : Env) : Room k (A.deeper env) :=
  ⟨r.hd, by have := r.dp; show A.depth + 1 + 3 * k + 5 < _; omega, by have := r.un; show A.units + 3 + 16 * k + 200 < _; omega⟩
theorem Room.in1 {k : Nat} {A : Around} (r : Room (k + 1) A) : Room k A.in1 :=
  ⟨r.hd, by have := r.dp; show A.depth + 3 * k + 5 < _; omega, by have := r.un; show A.units + 1 + 16 * k + 200 < _; omega⟩
theorem Room.depth {k : Nat} {A : Around} (r : Room k A) : A.depth < recursionLimit := by have := r.dp; omega
theorem Room.units {k : Nat} {A : Around} (r : Room k A) : A.units + 64 < cLine := by have := r.un; omega
theorem Room.units0 {k : Nat} {A : Around} (r : Room k A) : A.units < cLine := by have := r.un; omega

/-! ### argument lists and displays -/
def tNil : TA := fun _ H Q => Q [] H
def tCons (ta : TE) (tr : TA) : TA := fun σ H Q => ta σ H fun x H1 => tr σ H1 fun xs H2 => Q (x :: xs) H2
section
variable {X : Cx} {e : Expr} {es : List Expr} {te : TE} {t : TA} {pos : Pos}
theorem pa_nil : PA X [] tNil := fun _ _ _ _ H Q I h => Calls.spliced_nil ⟨[], H, I, .nil, h⟩
theorem pa_cons (ha : PE X e te) (hr : PA X es t) (hs : starEach (e :: es) X.env = (false, eval e X.env) :: starEach es X.env := by rfl) : PA X (e :: es) (tCons te t) := by
  intro pos pins s σ H Q I h
  rw [hs]
  show wpAny _ _ (spliced ((false, eval e X.env) :: backTo pos (starEach es X.env))) _ _ s
  refine Calls.spliced_cons (thn (ha pins s σ H _ I h) fun u s1 ⟨x, H1, I1, r1, q1⟩ => ?_)
  exact thn (hr pos pins s1 σ H1 _ I1 q1) fun us s2 ⟨xs, H2, I2, r2, q2⟩ => ⟨x :: xs, H2, I2, .cons r1 r2, q2⟩

/-- a tuple, a list of written items -/
def tTup (t : TA) : TE := fun σ H Q => t σ H fun xs H1 => xs.length ≤ sizeLine ∧ ∀ p, H1 p = none → Q (.ref p) (upd H1 p (.tup xs))
def tLst (t : TA) : TE := fun σ H Q => t σ H fun xs H1 => xs.length ≤ sizeLine ∧ ∀ p, H1 p = none → Q (.ref p) (upd H1 p (.lst xs))
theorem pe_tup {x1} (h : PA X es t) : PE X (.Tuple es x1 pos) (tTup t) := by
  intro pins s σ H Q I hq
  refine wpAny_Tuple_spliced (thn (h pos pins s σ H _ I hq) fun us s1 ⟨xs, H1, I1, r, z, q⟩ => ⟨by rw [← r.length]; exact z, ?_⟩)
  have hf : H1 s1.heap.objs.size = none := I1.hok.fresh (Nat.le_refl _)
  refine ⟨.ref s1.heap.objs.size, upd H1 s1.heap.objs.size (.tup xs), I1.laid (t' := s1.toks) (fun b u e => Heap.get?_push_of_some _ e) (Nat.le_refl _) ?_, rfl, q _ hf⟩
  exact ⟨z, us, r, ⟨_, Heap.get?_push_size _ rfl, rfl, _, rfl⟩⟩
theorem pe_lst (h : PA X es t) : PE X (.List es pos) (tLst t) := by
  intro pins s σ H Q I hq
  refine wpAny_List_spliced (thn (h pos pins s σ H _ I hq) fun us s1 ⟨xs, H1, I1, r, z, q⟩ => ⟨by rw [← r.length]; exact z, ?_⟩)
  have hf : H1 s1.heap.objs.size = none := I1.hok.fresh (Nat.le_refl _)
  refine ⟨.ref s1.heap.objs.size, upd H1 s1.heap.objs.size (.lst xs), I1.laid (t' := s1.toks) (fun b u e => Heap.get?_push_of_some _ e) (Nat.le_refl _) ?_, rfl, q _ hf⟩
  exact ⟨z, us, 0, r, Heap.get?_push_size _ rfl⟩
end

/-! ### what a def promises -/
/-- a def's promise: the bound arguments in the parameters' order, the heap, the wanted end, the wanted exception -/
abbrev Sp := List V → Hp → VK → XK → Prop
/-- how an exception lies behind a call (file 08 gives it): the callers' frames, abstract heap and state ahead of the call, the wish, the exception, the state -/
abbrev CXT := List Env → Hp → Shared → XK → Value → Shared → Prop

/-- the state at a call -/
structure Env0 (P : Program) (w : World) (K : PySem.W.Frag) (mg : Str → Option Value) (base : Heap) (A : Around) (outer : List Env) (s : Shared) (H : Hp) : Prop where
  frames : A.frames = some outer
  mod : Mod K mg base
  bs : ∀ b o, base.get? b = some o → s.heap.get? b = some o ∧ H b = none
  bsz : base.objs.size ≤ s.heap.objs.size
  funs : s.heap.FunFrames base outer
  frf : ∀ b ∈ frs outer, H b = none
  hok : HOk P w H s.heap
  bare : AllBare s.gens
/-- a call's end -/
def CE (outer : List Env) (P : Program) (w : World) (H : Hp) (s : Shared) (Q : VK) (u : Value) (s' : Shared) : Prop :=
  ∃ v H', s'.os = s.os ∧ AllBare s'.gens ∧ Un (frs outer) [] H H' s.heap s'.heap ∧ HOk P w H' s'.heap ∧ RelV v u ∧ Q v H'
def CR (CX : CXT) (outer : List Env) (P : Program) (w : World) (H : Hp) (s : Shared) (Q : VK) (E : XK) (r : Result) (s' : Shared) : Prop :=
  match r with
  | .ok (.ret u) => CE outer P w H s Q u s'
  | .ok _ => False
  | .error e => CX outer H s E e s'
structure FnOk (P : Program) (w : World) (K : PySem.W.Frag) (mg : Str → Option Value) (base : Heap) (CX : CXT) (k : Nat) (f : Addr) (fd : FuncData) (ps : List Str) (sp : Sp) : Prop where
  len : ∀ vs H Q E, sp vs H Q E → vs.length = ps.length
  run : ∀ (A : Around) (outer : List Env) (s : Shared) (H : Hp) (args : Args) (us : List Value) (vs : List V) (Q : VK) (E : XK), Room k A → Env0 P w K mg base A outer s H → BindsTo s fd args (ps.zip us) → Vals vs us → sp vs H Q E →
    codeAny (model P w) A (.call (.ref f) args) (CR CX outer P w H s Q E) s
theorem FnOk.mono {P : Program} {w : World} {K : PySem.W.Frag} {mg : Str → Option Value} {base : Heap} {CX : CXT} {j k : Nat} {f : Addr} {fd : FuncData} {ps : List Str} {sp : Sp} (F : FnOk P w K mg base CX j f fd ps sp) (h : j ≤ k) :
    FnOk P w K mg base CX k f fd ps sp := ⟨F.len, fun A outer s H args us vs Q E hr => F.run A outer s H args us vs Q E (hr.mono h)⟩
theorem Env0.in1 {P : Program} {w : World} {K : PySem.W.Frag} {mg : Str → Option Value} {base : Heap} {A : Around} {outer : List Env} {s : Shared} {H : Hp} (e : Env0 P w K mg base A outer s H) :
    Env0 P w K mg base A.in1 outer s H := ⟨e.frames, e.mod, e.bs, e.bsz, e.funs, e.frf, e.hok, e.bare⟩

section
variable {X : Cx} {pins : List (Addr × Obj)} {σ : St} {H : Hp} {s s' : Shared}
/-- from a body: what a callee wants -/
theorem Inv.env0 (I : Inv X pins σ H s) : Env0 X.prog X.w X.K X.mg X.base X.A X.stack s H :=
  ⟨I.ok.frames, I.ok.mod, I.bs, Nat.le_trans I.ok.bsz I.sz, I.stack, I.stkFree, I.hok, I.bare⟩
/-- behind a call -/
theorem Inv.after {Q : VK} {u : Value} (I : Inv X pins σ H s) (h : CE X.stack X.prog X.w H s Q u s') : EP X pins σ Q u s' := by
  obtain ⟨v, H', os, bare, un, hok, r, q⟩ := h
  obtain ⟨hh, g, d, t, os'⟩ := s'
  obtain rfl : os' = s.os := os
  exact ⟨v, H', I.call (h' := hh) (g' := g) (d' := d) (t' := t) (ch := []) un hok bare (fun b z => absurd z (by simp)), r, q⟩
end

/-! ### calls -/
/-- f(..): the written arguments, then the defaults dvs; E: what is wanted of an exception -/
def tCall (sp : Sp) (dvs : List V) (E : XK) (t : TA) : TE := fun σ H Q => t σ H fun vs H1 => sp (vs ++ dvs) H1 Q E
/-- how the parameters are bound: us the positional arguments, kw the keywords' values by name, ds the defaults that fill up -/
def Binds (K : PySem.W.Frag) (fd : FuncData) (ps : List Str) (ds : List Value) : Prop :=
  ∀ (s : Shared) (us : List Value), K.In s.heap → (us ++ ds).length = ps.length → BindsTo s fd ⟨us, []⟩ (ps.zip (us ++ ds))
/-- every parameter is given -/
theorem Binds.all {K : PySem.W.Frag} {fd : FuncData} {ps : List Str} (h : ∀ us : List Value, us.length = ps.length → bindArgs fd ⟨us, []⟩ = pure (ps.zip us)) : Binds K fd ps [] := fun s us _ hl => by
  rw [List.append_nil] at hl ⊢
  exact .of_eq (h us hl)

/-- an exception of a callee reaches what this body wants of exceptions -/
def Passes (CX : CXT) (X : Cx) (E : XK) : Prop := ∀ (pins : List (Addr × Obj)) (σ : St) (H : Hp) (s : Shared) (e : Value) (s' : Shared), Inv X pins σ H s → CX X.stack H s E e s' → X.xe e s'

section
variable {X : Cx} {CX : CXT} {k : Nat} {f C : Addr} {fd : FuncData} {ps : List Str} {sp : Sp} {dvs : List V} {ds : List Value} {E : XK} {x m : Str} {p pos apos : Pos} {e o : Expr} {es : List Expr} {ta : TE} {t : TA}

/-- the callee runs -/
theorem run_fn {pins : List (Addr × Obj)} {σ : St} {H : Hp} {s : Shared} {Q : VK} {us : List Value} {vs : List V} (F : FnOk X.prog X.w X.K X.mg X.base CX k f fd ps sp) (hr : Room k X.A) (hb : Binds X.K fd ps ds) (hd : Vals dvs ds) (hx : Passes CX X E)
    (I : Inv X pins σ H s) (r : Vals vs us) (h : sp (vs ++ dvs) H Q E) : wpAny (model X.prog X.w) X.A (call (.ref f) us) (EP X pins σ Q) X.xe s := by
  have r2 : Vals (vs ++ dvs) (us ++ ds) := r.append hd
  have hl : (us ++ ds).length = ps.length := by rw [← r2.length]; exact F.len _ _ _ _ h
  refine wpAny_call (codeAny_mono (F.run X.A X.stack s H ⟨us, []⟩ (us ++ ds) (vs ++ dvs) Q E hr I.env0 (hb s us I.kIn hl) r2 h) fun r s' hq => ?_)
  cases r with
  | error e => exact hx pins σ H s e s' I hq
  | ok fl =>
    cases fl with
    | ret u => exact I.after hq
    | next => exact False.elim hq
    | brk => exact False.elim hq
    | cont => exact False.elim hq

theorem pe_call (F : FnOk X.prog X.w X.K X.mg X.base CX k f fd ps sp) (hr : Room k X.A) (hg : Gl X x) (hm : X.mg x = some (.ref f)) (hk : PySem.W.keepIn X.K (.ref f) = true) (hb : Binds X.K fd ps ds) (hd : Vals dvs ds) (hx : Passes CX X E)
    (ha : PA X (e :: es) t) (hdb : (x == ("__debug__" : Str)) = false := by decide) (he : starEach (e :: es) X.env = (false, eval e X.env) :: starEach es X.env := by rfl) (hpl : (backTo pos (starEach es X.env)).any (·.1) = false := by rfl) :
    PE X (.Call (.Name x p) (e :: es) [] pos) (tCall sp dvs E t) := by
  intro pins s σ H Q I h
  refine wpAny_Call_Name_kw (ld_glob I hg hm ?_ hdb)
  refine PySem.W.callWith_K (h₀ := X.base) I.ok.mod.kin hk (thn (ha pos pins s σ H _ I h) fun us s1 ⟨vs, H1, I1, r, q⟩ => ⟨I1.kIn, ?_⟩) he hpl
  exact run_fn F hr hb hd hx I1 r q
/-- what a class must have to be made -/
structure Mk (K : PySem.W.Frag) (C f : Addr) : Prop where
  makes : PySem.W.makesIn K C = true
  init : PySem.W.findIn K (.ref C) "__init__" = some (some (.ref f))
  fn : PySem.W.isFn K (.ref f) = true
  kp : PySem.W.keepIn K (.ref C) = true

end

/-! ### keywords -/
section
variable {X : Cx} {CX : CXT} {k : Nat} {f C : Addr} {fd : FuncData} {ps ks : List Str} {sp : Sp} {E : XK} {x m : Str} {p pos apos kpos : Pos} {e o : Expr} {es : List Expr} {kws : List Keyword} {te ta : TE} {t tk : TA} {nm : Option Str}
/-- how a call with keywords binds: g puts the positional values us and the keywords' values ws (names ks) in the parameters' order, defaults among them -/
structure KBinds (K : PySem.W.Frag) (fd : FuncData) (ps ks : List Str) (g : List Value → List Value → List Value) (gV : List V → List V → List V) : Prop where
  to : ∀ (s : Shared) (us ws : List Value), K.In s.heap → (g us ws).length = ps.length → BindsTo s fd ⟨us, ks.zip ws⟩ (ps.zip (g us ws))
  rel : ∀ {vs : List V} {us : List Value} {zs : List V} {ws : List Value}, Vals vs us → Vals zs ws → Vals (gV vs zs) (g us ws)
variable {g : List Value → List Value → List Value} {gV : List V → List V → List V}
end

/-! ### a def's body keeps its promise -/
/-- names: the parameters first -/
structure FnScope (N P : List Str) (sc : Scope) : Prop where
  kind : sc.kind = .function
  co : sc.isCoroutine = false
  gen : sc.isGenerator = false
  nd : N.Nodup
  pre : N.take P.length = P
  par : ∀ x ∈ P, sc.names.lookup x = some .local ∨ sc.names.lookup x = some .cell
  nofree : ∀ y ∈ sc.names, y.2 ≠ .free

theorem bindL_out {kindOf : Str → Option NameKind} {x : Str} : ∀ {binds : List (Str × Value)} {m : Str → Option Value}, (∀ v, (x, v) ∉ binds) → bindL kindOf binds m x = m x
  | [], _, _ => rfl
  | (n, v) :: r, m, h => by
    unfold bindL
    rw [bindL_out fun w hw => h w (List.mem_cons_of_mem _ hw)]
    split
    · have : x ≠ n := by rintro rfl; exact h v List.mem_cons_self
      simp [this]
    · rfl
theorem bindC_out {kindOf : Str → Option NameKind} {x : Str} : ∀ {binds : List (Str × Value)} {m : Str → Option Value}, (∀ v, (x, v) ∉ binds) → bindC kindOf binds m x = m x
  | [], _, _ => rfl
  | (n, v) :: r, m, h => by
    unfold bindC
    rw [bindC_out fun w hw => h w (List.mem_cons_of_mem _ hw)]
    split
    · rfl
    · have : x ≠ n := by rintro rfl; exact h v List.mem_cons_self
      simp [this]
theorem bindL_get {kindOf : Str → Option NameKind} {x : Str} {v : Value} : ∀ {P : List Str} {vs : List Value} {i : Nat} {m : Str → Option Value}, P.Nodup → P[i]? = some x → vs[i]? = some v → kindOf x = some .local →
    bindL kindOf (P.zip vs) m x = some v
  | [], _, _, _, _, h, _, _ => by simp at h
  | _ :: _, [], _, _, _, _, h, _ => by simp at h
  | p :: P, w :: vs, 0, m, nd, h1, h2, hk => by
    simp at h1 h2; subst h1; subst h2
    show bindL kindOf ((p, w) :: P.zip vs) m p = _
    unfold bindL
    rw [bindL_out fun v hv => (List.nodup_cons.mp nd).1 (List.of_mem_zip hv).1, if_pos hk]
    simp
  | p :: P, w :: vs, i + 1, m, nd, h1, h2, hk => by
    show bindL kindOf ((p, w) :: P.zip vs) m x = _
    unfold bindL
    exact bindL_get (i := i) (List.nodup_cons.mp nd).2 (by simpa using h1) (by simpa using h2) hk
theorem bindC_get {kindOf : Str → Option NameKind} {x : Str} {v : Value} : ∀ {P : List Str} {vs : List Value} {i : Nat} {m : Str → Option Value}, P.Nodup → P[i]? = some x → vs[i]? = some v → kindOf x ≠ some .local →
    bindC kindOf (P.zip vs) m x = some v
  | [], _, _, _, _, h, _, _ => by simp at h
  | _ :: _, [], _, _, _, _, h, _ => by simp at h
  | p :: P, w :: vs, 0, m, nd, h1, h2, hk => by
    simp at h1 h2; subst h1; subst h2
    show bindC kindOf ((p, w) :: P.zip vs) m p = _
    unfold bindC
    rw [bindC_out fun v hv => (List.nodup_cons.mp nd).1 (List.of_mem_zip hv).1, if_neg hk]
    simp
  | p :: P, w :: vs, i + 1, m, nd, h1, h2, hk => by
    show bindC kindOf ((p, w) :: P.zip vs) m x = _
    unfold bindC
    exact bindC_get (i := i) (List.nodup_cons.mp nd).2 (by simpa using h1) (by simpa using h2) hk

/-- the names' values at the entry -/
def start (N : List Str) (vs : List V) : St := vs.map some ++ List.replicate (N.length - vs.length) none

/-- the context of a def's body, at its entry; an exception leaves the frame, then lies as CX says -/
def cxOf (CX : CXT) (P : Program) (w : World) (K : PySem.W.Frag) (mg : Str → Option Value) (base : Heap) (N : List Str) (qual : Str) (scope : Scope) (f : Addr) (cd : Value) (A : Around) (outer : List Env) (s : Shared) (H : Hp) (E : XK) : Cx where
  prog := P
  w := w
  K := K
  mg := mg
  base := base
  A := A.deeper (envOfC qual scope s.heap.objs.size f cd)
  N := N
  s₀ := s
  H₀ := H
  env := envOfC qual scope s.heap.objs.size f cd
  outer := outer
  stack := envOfC qual scope s.heap.objs.size f cd :: outer
  ex := []
  calm := true
  fn := fun _ => true
  pn := []
  xe := fun e s' => wpAny (model P w) (A.deeper (envOfC qual scope s.heap.objs.size f cd)) (leaving (envOfC qual scope s.heap.objs.size f cd) e) (fun _ s'' => CX outer H s E e s'') (fun e' s'' => CX outer H s E e' s'') s'

theorem cell_has {sc : Scope} {n : Nat} {x : Str} (h : sc.names.lookup x = some .cell) : ∃ c, (cellsFrom n sc.names []).lookup x = some c := by
  have q := PySem.W.cellsFrom_some sc.names n [] (.inl h)
  exact Option.isSome_iff_exists.mp q

theorem inv_start {CX : CXT} {P : Program} {w : World} {K : PySem.W.Frag} {mg : Str → Option Value} {base : Heap} {N ps : List Str} {qual : Str} {scope : Scope} {f : Addr} {cd : Value} {A : Around} {outer : List Env} {s s1 : Shared} {H : Hp} {E : XK} {us : List Value} {vs : List V}
    (S : FnScope N ps scope) (hd : A.handled = none) (e0 : Env0 P w K mg base A outer s H) (hl : vs.length = ps.length) (r : Vals vs us)
    (x : InCallC s s.heap.objs.size (bindL (envOfC qual scope s.heap.objs.size f cd).kindOf (ps.zip us) fun _ => none) (cellsFrom (s.heap.objs.size + 1) scope.names []) (bindC (envOfC qual scope s.heap.objs.size f cd).kindOf (ps.zip us) fun _ => none) s1) :
    Inv (cxOf CX P w K mg base N qual scope f cd A outer s H E) [] (start N vs) H s1 := by
  have hpl : ps.length ≤ N.length := by have := congrArg List.length S.pre; rw [List.length_take] at this; omega
  obtain ⟨h1, tk, rfl, hk⟩ := x.done
  have noA : ∀ b : Addr, b ∉ (cxOf CX P w K mg base N qual scope f cd A outer s H E).ex := fun b z => absurd (show b ∈ ([] : List Addr) from z) (by simp)
  refine ⟨⟨e0.mod, S.kind, rfl, rfl, Nat.le_refl _, fun y z c h1 h2 => ?_, fun y hy => ?_, fun y c _ h => ?_, fun _ => hd, Around.frames_deeper e0.frames, .inr ⟨rfl, rfl⟩, fun b z => absurd z (noA b), e0.bs, e0.bsz, fun b _ _ => noA b, fun b z => absurd z (noA b), e0.funs, e0.frf⟩,
    rfl, e0.bare, Un.kept hk, ⟨_, x.toInCall.ns, fun i y v h1 h2 h3 => ?_⟩, fun y c h => ⟨_, x.cell y c h⟩, e0.hok.fresh (Nat.le_refl _), fun y c h => ?_, fun p hp => absurd (show p ∈ ([] : List (Addr × Obj)) from hp) (by simp), e0.hok.kept hk, ?_⟩
  · exact name_of_addr x.apart (PySem.mem_of_lookup h1) (PySem.mem_of_lookup h2)
  · have hy : scope.names.lookup y = some .cell ∨ scope.names.lookup y = some .free := hy
    rcases hy with hy | hy
    · exact cell_has hy
    · exact absurd rfl (S.nofree _ (PySem.mem_of_lookup hy))
  · exact Nat.le_of_lt (x.above y c (PySem.mem_of_lookup h))
  · have hi : i < vs.length := by
      unfold start at h2
      by_cases hi : i < vs.length
      · exact hi
      · rw [List.getElem?_append_right (by simpa using hi)] at h2
        rw [List.getElem?_replicate] at h2
        split at h2 <;> cases h2
    have ha : vs[i]? = some v := by
      unfold start at h2
      rw [List.getElem?_append_left (by simpa using hi), List.getElem?_map] at h2
      cases e : vs[i]? with
      | none => rw [e] at h2; cases h2
      | some a => rw [e] at h2; cases h2; rfl
    obtain ⟨u, hu, rv⟩ := r.get ha
    have hp : ps[i]? = some y := by
      rw [← S.pre, List.getElem?_take_of_lt (by omega)]; exact h1
    have ndP : ps.Nodup := by rw [← S.pre]; exact S.nd.sublist (List.take_sublist _ _)
    refine ⟨u, rv, ?_⟩
    rcases S.par y (List.mem_of_getElem? hp) with k | k
    · exact .inl ⟨k, bindL_get ndP hp hu k⟩
    · obtain ⟨c, e⟩ := cell_has (n := s.heap.objs.size + 1) k
      refine .inr ⟨.inl k, c, e, ?_⟩
      have q := x.cell y c e
      rw [bindC_get ndP hp hu (by show scope.names.lookup y ≠ _; rw [k]; decide)] at q
      exact q
  · exact e0.hok.fresh (Nat.le_of_lt (x.above y c (PySem.mem_of_lookup h)))
  · unfold start
    show _ = N.length
    rw [List.length_append, List.length_map, List.length_replicate]
    omega

/-- THE RULE: a def (or a method) of the text, by its body. The body's reading t is chosen for each entry; it is run at the parameters' values -/
theorem fn_of {CX : CXT} {P : Program} {w : World} {K : PySem.W.Frag} {mg : Str → Option Value} {base : Heap} {k : Nat} {f : Addr} {name qual : Str} {params : Arguments} {body : List Stmt} {scope : Scope} {dV kV doc pm cdv ct oc : Value} {an od : Option Addr}
    {osl : Array (Option Value)} {N ps : List Str} {sp : Sp} (lk : K.lookup f = some ⟨oc, od, .func (PySem.W.fnOf name qual params body scope dV kV doc pm an cdv ct), osl⟩) (hcd : PySem.W.codeIn K cdv qual = true) (S : FnScope N ps scope)
    (len : ∀ vs H Q E, sp vs H Q E → vs.length = ps.length)
    (hbody : ∀ (A : Around) (outer : List Env) (s : Shared) (H : Hp) (vs : List V) (Q : VK) (E : XK), Room k (A.deeper (envOfC qual scope s.heap.objs.size f cdv)) → sp vs H Q E →
      ∃ t, PSs (cxOf CX P w K mg base N qual scope f cdv A outer s H E) body t ∧ t { nx := fun _ H' => Q .non H', rt := Q } (start N vs) H) :
    FnOk P w K mg base CX (k + 1) f (PySem.W.fnOf name qual params body scope dV kV doc pm an cdv ct) ps sp := by
  refine ⟨len, fun A outer s H args us vs Q E hr e0 hb r hsp => ?_⟩
  have hl := len _ _ _ _ hsp
  have KX : K.In s.heap := e0.mod.kin.keeps fun b o e => (e0.bs b o e).1
  have lim : s.heap.NoLimit := e0.mod.nolimit.keeps fun b o e => (e0.bs b o e).1
  have hkind : ∀ y ∈ ps.zip us, scope.names.lookup y.1 = some .local ∨ (scope.names.lookup y.1 = some .cell ∧ ((cellsFrom (s.heap.objs.size + 1) scope.names []).lookup y.1).isSome = true) := fun ⟨n, v⟩ hy => by
    rcases S.par n (List.of_mem_zip hy).1 with q | q
    · exact .inl q
    · exact .inr ⟨q, PySem.W.cellsFrom_some _ _ _ (.inl q)⟩
  refine codeAny_call_function hr.depth (KX _ _ lk) rfl S.co S.gen rfl (PySem.W.codeRec_of KX hcd) (hb _ _ _ _ ?_)
  refine wpAny_newFunctionEnv_cells S.kind hkind fun env he s1 x => ?_
  subst he
  refine ⟨lim.keeps x.toInCall.keep, codeAny_func ?_⟩
  obtain ⟨t, ht, hq⟩ := hbody A outer s H vs Q E (hr.deeper _) hsp
  have I : Inv (cxOf CX P w K mg base N qual scope f cdv A outer s H E) [] (start N vs) H s1 := inv_start S hr.hd e0 hl r x
  refine wpAny_mono (ht [] s1 (start N vs) H _ I hq) (fun fl s' hs => ?_) fun e s' hs => hs
  have fin : ∀ {σ' : St} {H' : Hp} {v : V} {u : Value}, Inv (cxOf CX P w K mg base N qual scope f cdv A outer s H E) [] σ' H' s' → RelV v u → Q v H' → CE outer P w H s Q u s' :=
    fun {σ' H' v u} J rv q => ⟨v, H', J.os, J.bare, J.base, J.hok, rv, q⟩
  cases fl with
  | ret u =>
    obtain ⟨v, σ', H', J, rv, q⟩ := hs
    exact fin J rv q
  | next =>
    obtain ⟨σ', H', J, q⟩ := hs
    exact fin (v := V.non) (u := Value.none) J rfl q
  | brk =>
    obtain ⟨_, _, _, q⟩ := hs
    exact False.elim q
  | cont =>
    obtain ⟨_, _, _, q⟩ := hs
    exact False.elim q
end L2

namespace L2
open PySem PySem.Spec PyProof.Rows
section
variable {X : Cx} {x : Str} {p pos : Pos} {e : Expr} {es : List Expr} {t : TA} {id T : String} {r : List V → Hp → VK → Prop}

def tCB (r : List V → Hp → VK → Prop) (t : TA) : TE := fun σ H Q => t σ H fun vs H1 => r vs H1 Q
/-- f(e, ..), f a built-in function -/
theorem pe_callB (hc : CallR X (.builtin id) r) (hg : Gl X x) (hm : X.mg x = none) (hv : bootBuiltins x = some (.builtin id)) (ha : PA X (e :: es) t) (hn : x ≠ "__name__" := by decide) (hdb : (x == ("__debug__" : Str)) = false := by decide)
    (he : starEach (e :: es) X.env = (false, eval e X.env) :: starEach es X.env := by rfl) (hpl : (backTo pos (starEach es X.env)).any (·.1) = false := by rfl) : PE X (.Call (.Name x p) (e :: es) [] pos) (tCB r t) := by
  intro pins s σ H Q I h
  refine wpAny_Call_Name_kw (ld_blt I hg hm hv ?_ hn hdb)
  exact PyProof.Rows.callWith_builtin1 (thn (ha pos pins s σ H _ I h) fun us s1 ⟨vs, H1, I1, r1, q1⟩ => hc pins s1 σ H1 vs us Q I1 r1 q1) he hpl
/-- T(e, ..), T a built-in type -/
theorem pe_callTy (hc : CallR X (.type T) r) (hg : Gl X x) (hm : X.mg x = none) (hv : bootBuiltins x = some (.type T)) (ha : PA X (e :: es) t) (hn : x ≠ "__name__" := by decide) (hdb : (x == ("__debug__" : Str)) = false := by decide)
    (he : starEach (e :: es) X.env = (false, eval e X.env) :: starEach es X.env := by rfl) (hpl : (backTo pos (starEach es X.env)).any (·.1) = false := by rfl) : PE X (.Call (.Name x p) (e :: es) [] pos) (tCB r t) := by
  intro pins s σ H Q I h
  refine wpAny_Call_Name_kw (ld_blt I hg hm hv ?_ hn hdb)
  exact PyProof.Rows.callWith_type1 (thn (ha pos pins s σ H _ I h) fun us s1 ⟨vs, H1, I1, r1, q1⟩ => hc pins s1 σ H1 vs us Q I1 r1 q1) he hpl
end
end L2

namespace HT
open PySem PyProof.Rows

section
open PySem.SeqAt
open PySem.AutoSeq1 (wpAny_loadPart')
open PySem.MeetsSeq PySem.MeetsSeq2 PySem.MeetsSeq3

end

section
variable {prog : Program} {w : World} {A : Around} {E : Value → Shared → Prop} {s : Shared}

/-! ### t[a:b], not the whole -/
/-- a slice's bound as a place among n (d where it is left out) -/
def sIx (n d : Nat) : Option Int → Nat
  | none => d
  | some v => if v < 0 then (v + (n : Int)).toNat else min v.toNat n
theorem sIx_none (n d : Nat) : sIx n d none = d := rfl
theorem sIx_nat (n d k : Nat) : sIx n d (some (k : Int)) = min k n := by
  show (if (k : Int) < 0 then ((k : Int) + (n : Int)).toNat else min (k : Int).toNat n) = min k n
  rw [if_neg (by omega), Int.toNat_natCast]
theorem sIx_le (n d : Nat) (hd : d ≤ n) (o : Option Int) : sIx n d o ≤ n := by
  cases o with
  | none => exact hd
  | some v =>
    show (if v < 0 then (v + (n : Int)).toNat else min v.toNat n) ≤ n
    by_cases hv : v < 0
    · rw [if_pos hv]; omega
    · rw [if_neg hv]; exact Nat.min_le_right _ _
end
end HT

namespace L2
open PySem PySem.Spec PyProof.Rows

/-! ### the parts of a slice -/
abbrev TO := St → Hp → (Option Int → Hp → Prop) → Prop
/-- a slice's part (left out, or an int) -/
def PO (X : Cx) (e : Option Expr) (t : TO) : Prop :=
  ∀ (pins : List (Addr × Obj)) (s : Shared) (σ : St) (H : Hp) (Q : Option Int → Hp → Prop), Inv X pins σ H s → t σ H Q →
    wpAny (model X.prog X.w) X.A (evalPart e X.env) (fun u s' => ∃ o H', Inv X pins σ H' s' ∧ IsPart u o ∧ Q o H') X.xe s
def tNoPart : TO := fun _ H Q => Q none H
def tPart (t : TE) : TO := fun σ H Q => t σ H fun x H1 => ∃ i, x = .int i ∧ Q (some i) H1

theorem intsAre_of {ns : List Int} : ∀ {us : List Value}, Vals (ns.map V.int) us → IntsAre us ns := by
  induction ns with
  | nil => intro us r; rw [List.map_nil] at r; cases r; exact .nil
  | cons n ns ih =>
    intro us r
    rw [List.map_cons] at r
    cases r with
    | cons r1 r2 =>
      obtain ⟨t, e⟩ := r1
      subst e
      exact .cons n t (ih r2)

section
variable {X : Cx} {e : Expr} {te : TE} {lo hi : Option Expr} {tl th : TO} {pos p2 : Pos}

theorem po_none : PO X none tNoPart := by
  intro pins s σ H Q I h
  rw [evalPart_none]
  exact wpAny_pure ⟨none, H, I, .none, h⟩
theorem po_some (h : PE X e te) : PO X (some e) (tPart te) := by
  intro pins s σ H Q I hw
  rw [evalPart_some]
  refine thn (h pins s σ H _ I hw) fun u s1 ⟨x, H1, I1, r1, q1⟩ => ?_
  obtain ⟨i, rfl, q⟩ := q1
  obtain ⟨t, rfl⟩ := r1
  exact ⟨some i, H1, I1, .int i t, q⟩

/-- what a slice of a value is, by values: the slice object stands at sl -/
def SlR (X : Cx) (r : V → Option Int → Option Int → Hp → VK → Prop) : Prop :=
  ∀ (pins : List (Addr × Obj)) (s : Shared) (σ : St) (H : Hp) (x : V) (v vl vu : Value) (lo hi : Option Int) (sl : Addr) (Q : VK), Inv X pins σ H s → RelV x v → s.heap.IsSliceOf sl vl vu .none → IsPart vl lo → IsPart vu hi → r x lo hi H Q →
    ∃ T id, typeLookup (.type T) "__getitem__" = pure (some (.builtin id)) ∧ s.TypeIs v T ∧ wpAny (model X.prog X.w) X.A (getItem v (.ref sl)) (EP X pins σ Q) X.xe s
theorem SlR.or {r r' : V → Option Int → Option Int → Hp → VK → Prop} (h : SlR X r) (h' : SlR X r') : SlR X (fun x lo hi H Q => r x lo hi H Q ∨ r' x lo hi H Q) := by
  intro pins s σ H x v vl vu lo hi sl Q I rx hs pl pu q
  rcases q with q | q
  · exact h pins s σ H x v vl vu lo hi sl Q I rx hs pl pu q
  · exact h' pins s σ H x v vl vu lo hi sl Q I rx hs pl pu q
def tSl (r : V → Option Int → Option Int → Hp → VK → Prop) (te : TE) (tl th : TO) : TE := fun σ H Q => te σ H fun x H1 => tl σ H1 fun l H2 => th σ H2 fun u H3 => r x l u H3 Q
/-- a[lo:hi], any a -/
theorem pe_slice {r : V → Option Int → Option Int → Hp → VK → Prop} (hr : SlR X r) (he : PE X e te) (hl : PO X lo tl) (hu : PO X hi th) : PE X (.Subscript e (.Slice lo hi none p2) pos) (tSl r te tl th) := by
  intro pins s σ H Q I h
  refine Subscript_ (thn (he pins s σ H _ I h) fun v s1 ⟨x, H1, I1, r1, q1⟩ => ?_)
  refine wpAny_Slice (thn (hl pins s1 σ H1 _ I1 q1) fun vl s2 ⟨l, H2, I2, pl, q2⟩ => thn (hu pins s2 σ H2 _ I2 q2) fun vu s3 ⟨u, H3, I3, pu, q3⟩ => ?_)
  rw [evalPart_none]
  refine wpAny_pure ?_
  have I4 : Inv X pins σ H3 { s3 with heap := s3.heap.push { cls := .type "slice", data := .fields #[vl, vu, .none] } } := I3.kept (t' := s3.toks) fun b ob q => Heap.get?_push_of_some _ q
  obtain ⟨T, id, hT, ht, hg⟩ := hr pins { s3 with heap := s3.heap.push { cls := .type "slice", data := .fields #[vl, vu, .none] } } σ H3 x v vl vu l u s3.heap.objs.size Q I4 r1 (Heap.IsSliceOf.new ..) pl pu q3
  show wpAny (model X.prog X.w) X.A (subscriptTail e (.Slice lo hi none p2) v (.ref s3.heap.objs.size)) (EP X pins σ Q) X.xe { s3 with heap := s3.heap.push { cls := .type "slice", data := .fields #[vl, vu, .none] } }
  exact tail_any (ops := [.ref s3.heap.objs.size, v]) ht hT hg (by with_unfolding_all rfl)

/-- the items of xs[lo:hi] -/
def cutV (xs : List V) (lo hi : Option Int) : List V := (xs.drop (HT.sIx xs.length 0 lo)).take (HT.sIx xs.length xs.length hi - HT.sIx xs.length 0 lo)
theorem cutV_length (xs : List V) (lo hi : Option Int) : (cutV xs lo hi).length ≤ xs.length := by
  unfold cutV
  rw [List.length_take, List.length_drop]
  omega
/-! ### t < u, t + u -/
end
end L2

namespace L2
open PySem PySem.Spec PyProof.Rows

/-! ### places -/
/-- the place that an index of any sign means -/
def ixN (n : Nat) (i : Int) : Option Nat := if 0 ≤ i then (if i < n then some i.toNat else none) else if -(n : Int) ≤ i then some (i + n).toNat else none
def atI {α : Type} (xs : List α) (i : Int) : Option α := (ixN xs.length i).bind fun j => xs[j]?
theorem ixN_seq {n : Nat} {i : Int} {j : Nat} (h : ixN n i = some j) : seqIndex? i n = some j ∧ j < n ∧ -(n : Int) ≤ i ∧ i < n := by
  unfold ixN at h
  by_cases h0 : 0 ≤ i
  · rw [if_pos h0] at h
    by_cases h1 : i < n
    · rw [if_pos h1] at h
      have e : i.toNat = j := Option.some.inj h
      exact ⟨by rw [seqIndex_of h0 h1, e], by omega, by omega, h1⟩
    · rw [if_neg h1] at h; cases h
  · rw [if_neg h0] at h
    by_cases h1 : -(n : Int) ≤ i
    · rw [if_pos h1] at h
      have e : (i + n).toNat = j := Option.some.inj h
      exact ⟨by rw [seqIndex_neg (by omega) h1, e], by omega, h1, by omega⟩
    · rw [if_neg h1] at h; cases h
theorem atI_get {α : Type} {xs : List α} {i : Int} {v : α} (h : atI xs i = some v) : ∃ j, seqIndex? i xs.length = some j ∧ xs[j]? = some v ∧ j < xs.length ∧ -(xs.length : Int) ≤ i ∧ i < xs.length := by
  unfold atI at h
  cases e : ixN xs.length i with
  | none => rw [e] at h; cases h
  | some j =>
    rw [e] at h
    obtain ⟨h1, h2, h3, h4⟩ := ixN_seq e
    exact ⟨j, h1, h, h2, h3, h4⟩
theorem atI_nat {α : Type} {xs : List α} {j : Nat} {v : α} (h : xs[j]? = some v) : atI xs (j : Int) = some v := by
  have hj : j < xs.length := (List.getElem?_eq_some_iff.mp h).1
  have e : ixN xs.length (j : Int) = some j := by
    unfold ixN
    rw [if_pos (by omega), if_pos (by omega)]; simp
  unfold atI; rw [e]; exact h
/-! ### what may be subscripted -/
/-- what stands as an index of a plain subscript -/
def PlainIx (b : Expr) : Prop := ∀ o i, subscripted b false o i = operate [o, i] (getItem o i)
/-- a subscript by values -/
def IxR (X : Cx) (r : R2) : Prop :=
  ∀ (value slice : Expr) (pins : List (Addr × Obj)) (s : Shared) (σ : St) (H : Hp) (x y : V) (v u : Value) (Q : VK), Inv X pins σ H s → RelV x v → RelV y u → r x y H Q →
    subscripted slice false v u = operate [v, u] (getItem v u) → wpAny (model X.prog X.w) X.A (subscriptTail value slice v u) (EP X pins σ Q) X.xe s
/-- a call of a builtin's method by values: the receiver, the arguments -/
def MtR (X : Cx) (id : String) (r : V → List V → Hp → VK → Prop) : Prop :=
  ∀ (pins : List (Addr × Obj)) (s : Shared) (σ : St) (H : Hp) (x : V) (xs : List V) (v : Value) (us : List Value) (Q : VK), Inv X pins σ H s → RelV x v → Vals xs us → r x xs H Q →
    wpAny (model X.prog X.w) X.A (call (.builtin id) (v :: us)) (EP X pins σ Q) X.xe s
section
variable {X : Cx} {a b : Expr} {ta tb : TE} {pos : Pos}
theorem IxR.or {r r' : R2} (h : IxR X r) (h' : IxR X r') : IxR X (fun x y H Q => r x y H Q ∨ r' x y H Q) := by
  intro value slice pins s σ H x y v u Q I rx ry q hs
  rcases q with q | q
  · exact h value slice pins s σ H x y v u Q I rx ry q hs
  · exact h' value slice pins s σ H x y v u Q I rx ry q hs
theorem MtR.or {id : String} {r r' : V → List V → Hp → VK → Prop} (h : MtR X id r) (h' : MtR X id r') : MtR X id (fun x xs H Q => r x xs H Q ∨ r' x xs H Q) := by
  intro pins s σ H x xs v us Q I rx rs q
  rcases q with q | q
  · exact h pins s σ H x xs v us Q I rx rs q
  · exact h' pins s σ H x xs v us Q I rx rs q
/-- a[b] -/
theorem pe_ix {r : R2} (hr : IxR X r) (ha : PE X a ta) (hb : PE X b tb) (hs : PlainIx b) : PE X (.Subscript a b pos) (tOp r ta tb) := by
  intro pins s σ H Q I h
  exact Subscript_ (binT ha hb I h fun v u s2 x y H2 I2 rx ry q => hr a b pins s2 σ H2 x y v u Q I2 rx ry q (hs _ _))

def rIxL (K : PySem.W.Frag) : R2 := fun x y H Q => ∃ p xs i v, x = .ref p ∧ y = .int i ∧ SqL K H p xs ∧ atI xs i = some v ∧ Q v H
def rIxT (K : PySem.W.Frag) : R2 := fun x y H Q => ∃ p xs i v, x = .ref p ∧ y = .int i ∧ SqT K H p xs ∧ atI xs i = some v ∧ Q v H
def rIxS : R2 := fun x y H Q => ∃ z i c, x = .str z ∧ y = .int i ∧ z.length ≤ sizeLine ∧ atI z.cps.toList i = some c ∧ Q (.str ⟨#[c]⟩) H
theorem ix_list : IxR X (rIxL X.K) := by
  intro value slice pins s σ H x y v u Q I rx ry h hs
  obtain ⟨p, xs, i, z, rfl, rfl, hq, he, q⟩ := h
  cases rx
  obtain ⟨t, rfl⟩ := ry
  obtain ⟨its, r, pl, hz⟩ := I.list hq
  obtain ⟨j, h1, h2, h3, h4, h5⟩ := atI_get he
  obtain ⟨w, ew, rw'⟩ := r.get h2
  have hl := r.length
  have hn := line63
  have fin : EP X pins σ Q w s := ⟨z, H, I, rw', q⟩
  by_cases h0 : 0 ≤ i
  · have hj : i.toNat = j := by
      rw [seqIndex_of h0 h5] at h1
      exact Option.some.inj h1
    exact item_listR pl.isList h0 (by omega) (by rw [hj]; simpa using ew) fin hs
  · have hj : (i + (its.toArray.size : Int)).toNat = j := by
      rw [seqIndex_neg (by omega) h4] at h1
      rw [List.size_toArray, ← hl]
      exact Option.some.inj h1
    exact subscriptTail_builtinR (x := w) pl.isList.typeIs slot_list_getitem.lookup
      (wpAny_getItem_list_neg (Q := fun r s' => r = w ∧ EP X pins σ Q r s') pl.isList (by omega) (by rw [List.size_toArray] <;> omega) (by omega) (by rw [hj]; simpa using ew) ⟨rfl, fin⟩) hs
theorem ix_tup : IxR X (rIxT X.K) := by
  intro value slice pins s σ H x y v u Q I rx ry h hs
  obtain ⟨p, xs, i, z, rfl, rfl, hq, he, q⟩ := h
  cases rx
  obtain ⟨t, rfl⟩ := ry
  obtain ⟨its, r, pl, hz⟩ := I.tuple hq
  obtain ⟨j, h1, h2, h3, h4, h5⟩ := atI_get he
  obtain ⟨w, ew, rw'⟩ := r.get h2
  have hl := r.length
  have hn := line63
  have fin : EP X pins σ Q w s := ⟨z, H, I, rw', q⟩
  exact subscriptTail_builtinR (x := w) pl.typeIs slot_tuple_getitem.lookup
    (getItem_tuple (j := j) (Q := fun r s' => r = w ∧ EP X pins σ Q r s') pl (by omega) (by omega) (by rw [List.size_toArray, ← hl]; exact h1) (by simpa using ew) ⟨rfl, fin⟩) hs
theorem ix_str : IxR X rIxS := by
  intro value slice pins s σ H x y v u Q I rx ry h hs
  obtain ⟨z, i, c, rfl, rfl, hz, he, q⟩ := h
  obtain ⟨t, rfl⟩ := rx
  obtain ⟨t', rfl⟩ := ry
  obtain ⟨j, h1, h2, h3, h4, h5⟩ := atI_get he
  have hl : z.cps.toList.length = z.length := by simp [Str.length]
  rw [hl] at h1 h4 h5
  have hn := line63
  exact tail_any (typeIs_str s z t) slot_str_getitem.lookup (getItem_str (c := c) (by
    have e1 : decide (i < -(2 ^ 63 : Int)) = false := decide_eq_false (by omega)
    have e2 : decide (i ≥ 2 ^ 63) = false := decide_eq_false (by omega)
    rw [e1, e2, Bool.or_false]) (by rw [h1]; simpa using h2) ⟨.str ⟨#[c]⟩, H, I.tok _, ⟨_, rfl⟩, q⟩) hs
/-- list, tuple or str -/
def rIx (K : PySem.W.Frag) : R2 := fun x y H Q => rIxL K x y H Q ∨ rIxT K x y H Q ∨ rIxS x y H Q
/-! ### xs[i] = v, any sign -/
theorem Inv.lst {pins : List (Addr × Obj)} {σ : St} {H : Hp} {s : Shared} {p : Addr} {xs : List V} (I : Inv X pins σ H s) (h : H p = some (.lst xs)) :
    ∃ (its : List Value) (n : Nat), Vals xs its ∧ s.heap.get? p = some { cls := .type "list", data := .seq its.toArray n } ∧ xs.length ≤ sizeLine := by
  obtain ⟨z, its, n, r, e⟩ := I.hok p _ h
  exact ⟨its, n, r, e, z⟩
/-! ### slices -/
theorem slice_bounds (lo hi : Option Int) (n : Nat) : (sliceBounds lo hi none n).1 = ((HT.sIx n 0 lo : Nat) : Int) ∧ (sliceBounds lo hi none n).2.1 = ((HT.sIx n n hi : Nat) : Int) ∧ (sliceBounds lo hi none n).2.2 = 1 := by
  refine ⟨?_, ?_, rfl⟩
  · cases lo with
    | none => simp [sliceBounds, HT.sIx]
    | some i =>
      simp only [sliceBounds, HT.sIx, Option.getD_none, show (1 : Int) > 0 by decide, if_true]
      by_cases h : i < 0
      · simp only [h, if_true] <;> omega
      · simp only [h, if_false] <;> omega
  · cases hi with
    | none => simp [sliceBounds, HT.sIx]
    | some i =>
      simp only [sliceBounds, HT.sIx, Option.getD_none, show (1 : Int) > 0 by decide, if_true]
      by_cases h : i < 0
      · simp only [h, if_true] <;> omega
      · simp only [h, if_false] <;> omega
theorem slicePick_cut (its : List Value) (lo hi : Option Int) : slicePick its.toArray lo hi none = ((its.drop (HT.sIx its.length 0 lo)).take (HT.sIx its.length its.length hi - HT.sIx its.length 0 lo)).toArray := by
  obtain ⟨h1, h2, h3⟩ := slice_bounds lo hi its.toArray.size
  unfold slicePick
  rw [h1, h2, h3]
  simp only [sliceRange_one, pick_run, List.size_toArray] <;> rfl
/-- xs[lo:hi] of a list: a new list -/
def rSlL (K : PySem.W.Frag) : V → Option Int → Option Int → Hp → VK → Prop := fun x lo hi H Q => ∃ a xs, x = .ref a ∧ SqL K H a xs ∧ ∀ p, H p = none → Q (.ref p) (upd H p (.lst (cutV xs lo hi)))
theorem sl_list : SlR X (rSlL X.K) := by
  intro pins s σ H x v vl vu lo hi sl Q I rx hs pl pu h
  obtain ⟨a, xs, rfl, hx, q⟩ := h
  cases rx
  obtain ⟨its, r, ht, hz⟩ := I.list hx
  have hlen := r.length
  refine ⟨"list", _, slot_list_getitem.lookup, ht.isList.typeIs, ?_⟩
  refine wpAny_getItem_list_slice ht.isList hs pl pu .none (by simp) ?_ (by rw [List.size_toArray] <;> omega)
  rw [slicePick_cut, ← hlen]
  refine ⟨.ref s.heap.objs.size, _, I.laid (t' := s.toks) (o := .lst (cutV xs lo hi)) (fun b ob q => Heap.get?_push_of_some _ q) (Nat.le_refl _) ?_, rfl, q _ (I.hok.fresh (Nat.le_refl _))⟩
  exact ⟨Nat.le_trans (cutV_length xs lo hi) hz, _, 0, (r.drop (HT.sIx xs.length 0 lo)).take (HT.sIx xs.length xs.length hi - HT.sIx xs.length 0 lo), Heap.get?_push_size _ rfl⟩

/-! ### in, not in: flat items -/
def flatV : V → Bool
  | .non => true
  | .bl _ => true
  | .int _ => true
  | .str _ => true
  | _ => false
/-- == of flat values -/
def eqV : V → V → Bool
  | .non, .non => true
  | .bl a, .bl b => a == b
  | .bl a, .int b => (if a then 1 else 0) == b
  | .int a, .bl b => a == (if b then 1 else 0)
  | .int a, .int b => a == b
  | .str a, .str b => a == b
  | _, _ => false
theorem eqAt_V {A : Around} {s : Shared} {y x : V} {u v : Value} (ry : RelV y u) (rx : RelV x v) (fy : flatV y = true) (fx : flatV x = true) : SeqAt.EqAt A s u v (eqV y x) := by
  cases y with
  | non =>
    cases ry
    cases x with
    | non => cases rx; exact SeqAt.EqAt.same _
    | bl b => cases rx; exact SeqAt.EqAt.none_bool b
    | int b => obtain ⟨t, rfl⟩ := rx; exact SeqAt.EqAt.none_int b t
    | str b => obtain ⟨t, rfl⟩ := rx; exact SeqAt.EqAt.none_str b t
    | _ => exact absurd (show false = true from fx) Bool.false_ne_true
  | bl a =>
    cases ry
    cases x with
    | non => cases rx; exact SeqAt.EqAt.bool_none a
    | bl b => cases rx; exact SeqAt.EqAt.bool_bool a b
    | int b => obtain ⟨t, rfl⟩ := rx; exact SeqAt.EqAt.bool_int a b t
    | str b => obtain ⟨t, rfl⟩ := rx; exact SeqAt.EqAt.bool_str a b t
    | _ => exact absurd (show false = true from fx) Bool.false_ne_true
  | int a =>
    obtain ⟨t', rfl⟩ := ry
    cases x with
    | non => cases rx; exact SeqAt.EqAt.int_none a t'
    | bl b => cases rx; exact SeqAt.EqAt.int_bool a t' b
    | int b => obtain ⟨t, rfl⟩ := rx; exact SeqAt.EqAt.int_int a t' b t
    | str b => obtain ⟨t, rfl⟩ := rx; exact SeqAt.EqAt.int_str a t' b t
    | _ => exact absurd (show false = true from fx) Bool.false_ne_true
  | str a =>
    obtain ⟨t', rfl⟩ := ry
    cases x with
    | non => cases rx; exact SeqAt.EqAt.str_none a t'
    | bl b => cases rx; exact SeqAt.EqAt.str_bool a t' b
    | int b => obtain ⟨t, rfl⟩ := rx; exact SeqAt.EqAt.str_int a t' b t
    | str b => obtain ⟨t, rfl⟩ := rx; exact SeqAt.EqAt.str_str a t' b t
    | _ => exact absurd (show false = true from fx) Bool.false_ne_true
  | _ => exact absurd (show false = true from fy) Bool.false_ne_true
/-- the items' answers, read off the values (a value's own answer does not lean on its token) -/
def eqU (x : V) (u : Value) : Bool := match u with
  | .none => eqV .non x
  | .bool b => eqV (.bl b) x
  | .int i _ => eqV (.int i) x
  | .str z _ => eqV (.str z) x
  | _ => false
theorem eqU_of {x y : V} {u : Value} (r : RelV y u) (f : flatV y = true) : eqU x u = eqV y x := by
  cases y with
  | non => cases r; rfl
  | bl b => cases r; rfl
  | int i => obtain ⟨t, rfl⟩ := r; rfl
  | str z => obtain ⟨t, rfl⟩ := r; rfl
  | _ => exact absurd (show false = true from f) Bool.false_ne_true
theorem any_eqU {x : V} : ∀ {xs : List V} {us : List Value}, Vals xs us → xs.all flatV = true → us.any (eqU x) = xs.any fun y => eqV y x
  | _, _, .nil, _ => rfl
  | y :: xs, u :: us, .cons r t, f => by
    rw [List.all_cons, Bool.and_eq_true] at f
    rw [List.any_cons, List.any_cons, eqU_of r f.1, any_eqU t f.2]
theorem mem_eqAt {A : Around} {s : Shared} {x : V} {v : Value} (rx : RelV x v) (fx : flatV x = true) : ∀ {xs : List V} {us : List Value}, Vals xs us → xs.all flatV = true → ∀ u ∈ us, SeqAt.EqAt A s u v (eqU x u)
  | _, _, .nil, _ => fun u hu => by cases hu
  | y :: xs, u :: us, .cons r t, f => fun u' hu => by
    rw [List.all_cons, Bool.and_eq_true] at f
    rcases List.mem_cons.mp hu with rfl | hu
    · rw [eqU_of r f.1]; exact eqAt_V r rx f.1 fx
    · exact mem_eqAt rx fx t f.2 u' hu
def inV (x : V) (xs : List V) : Bool := xs.any fun y => eqV y x
/-- x in a list or tuple of flat items -/
def rIn (K : PySem.W.Frag) (neg : Bool) : R2 := fun x y H Q => ∃ p xs, y = .ref p ∧ (SqL K H p xs ∨ SqT K H p xs) ∧ flatV x = true ∧ xs.all flatV = true ∧ Q (.bl (if neg then !inV x xs else inV x xs)) H
theorem op_in_seq : OpR X (compareOp .In) (rIn X.K false) := by
  intro pins s σ H x y v u Q I rx ry h
  obtain ⟨p, xs, rfl, hq, fx, fs, q⟩ := h
  cases ry
  rcases hq with hq | hq
  · obtain ⟨its, r, pl, hz⟩ := I.list hq
    refine SeqAt.in_listAt (eqU x) pl.isList (fun w hw => mem_eqAt rx fx r fs w (by simpa using hw)) ⟨.bl _, H, I, rfl, ?_⟩
    rw [show its.toArray.any (eqU x) = its.any (eqU x) by simp, any_eqU r fs]
    exact q
  · obtain ⟨its, r, pl, hz⟩ := I.tuple hq
    refine SeqAt.in_tupleAt (eqU x) pl (fun w hw => mem_eqAt rx fx r fs w (by simpa using hw)) ⟨.bl _, H, I, rfl, ?_⟩
    rw [show its.toArray.any (eqU x) = its.any (eqU x) by simp, any_eqU r fs]
    exact q
theorem op_notIn_seq : OpR X (compareOp .NotIn) (rIn X.K true) := by
  intro pins s σ H x y v u Q I rx ry h
  obtain ⟨p, xs, rfl, hq, fx, fs, q⟩ := h
  cases ry
  rcases hq with hq | hq
  · obtain ⟨its, r, pl, hz⟩ := I.list hq
    refine SeqAt.notIn_listAt (eqU x) pl.isList (fun w hw => mem_eqAt rx fx r fs w (by simpa using hw)) ⟨.bl _, H, I, rfl, ?_⟩
    rw [show its.toArray.any (eqU x) = its.any (eqU x) by simp, any_eqU r fs]
    exact q
  · obtain ⟨its, r, pl, hz⟩ := I.tuple hq
    refine SeqAt.notIn_tupleAt (eqU x) pl (fun w hw => mem_eqAt rx fx r fs w (by simpa using hw)) ⟨.bl _, H, I, rfl, ?_⟩
    rw [show its.toArray.any (eqU x) = its.any (eqU x) by simp, any_eqU r fs]
    exact q
/-! ### len, list(x), tuple(x) of any list or tuple that is read -/
theorem CallR.or {f : Value} {r r' : List V → Hp → VK → Prop} (h : CallR X f r) (h' : CallR X f r') : CallR X f (fun xs H Q => r xs H Q ∨ r' xs H Q) := by
  intro pins s σ H xs us Q I rs q
  rcases q with q | q
  · exact h pins s σ H xs us Q I rs q
  · exact h' pins s σ H xs us Q I rs q
theorem call_list_of : CallR X (.type "list") (fun xs H Q => ∃ p ys, xs = [.ref p] ∧ (SqL X.K H p ys ∨ SqT X.K H p ys) ∧ ∀ l, H l = none → Q (.ref l) (upd H l (.lst ys))) := by
  intro pins s σ H xs us Q I r h
  obtain ⟨p, ys, rfl, hq, q⟩ := h
  obtain ⟨u, rfl, rx⟩ := vals1 r
  cases rx
  have fin : ∀ (its : List Value), Vals ys its → ys.length ≤ sizeLine → ∀ (h' : Heap) (c' : Nat), (∀ b o', s.heap.get? b = some o' → h'.get? b = some o') →
      h'.get? s.heap.objs.size = some { cls := .type "list", dict := none, data := .seq its.toArray c', slots := #[] } → EP X pins σ Q (.ref s.heap.objs.size) { s with heap := h' } := fun its r' hz h' c' kp e =>
    ⟨.ref s.heap.objs.size, _, I.laid (t' := s.toks) kp (Nat.le_refl _) (show ObjOk X.prog X.w _ h' _ (.lst ys) from ⟨hz, its, c', r', e⟩), rfl, q _ (I.hok.fresh (Nat.le_refl _))⟩
  rcases hq with hq | hq
  · obtain ⟨its, r', pl, hz⟩ := I.list hq
    have hlen := r'.length
    obtain ⟨o, ho, hc, n, hd⟩ := pl.isList
    exact call_list_seq p (.inl rfl) ho hc hd (fun h' c' kp e => fin its r' hz h' c' kp e) (by simp only [List.size_toArray] <;> omega)
  · obtain ⟨its, r', pl, hz⟩ := I.tuple hq
    have hlen := r'.length
    obtain ⟨o, ho, hc, n, hd⟩ := pl
    exact call_list_seq p (.inr rfl) ho hc hd (fun h' c' kp e => fin its r' hz h' c' kp e) (by simp only [List.size_toArray] <;> omega)
/-! ### the call of a builtin's method: o.m(..) -/
/-- the value is of that builtin type -/
def tyV (K : PySem.W.Frag) (T : String) (x : V) (H : Hp) : Prop := match x with
  | .str _ => T = "str"
  | .int _ => T = "int"
  | .ref p => (T = "list" ∧ ∃ xs, SqL K H p xs) ∨ (T = "tuple" ∧ ∃ o, K.lookup p = some o ∧ o.cls = .type "tuple" ∧ o.dict = none) ∨
      (T = "dict" ∧ ((∃ kvs, H p = some (.dK kvs)) ∨ ∃ kvs, H p = some (.dT kvs))) ∨ (T = "set" ∧ ∃ S n, H p = some (.set S n))
  | _ => False
theorem tyV_is {pins : List (Addr × Obj)} {σ : St} {H : Hp} {s : Shared} {T : String} {x : V} {v : Value} (I : Inv X pins σ H s) (r : RelV x v) (ty : tyV X.K T x H) :
    s.TypeIs v T ∧ ∀ a, v = .ref a → ∃ ob, s.heap.get? a = some ob ∧ ob.dict = none := by
  cases x with
  | str z =>
    obtain ⟨t, rfl⟩ := r
    cases (show T = "str" from ty)
    exact ⟨typeIs_str s z t, fun _ e => nomatch e⟩
  | int i =>
    obtain ⟨t, rfl⟩ := r
    cases (show T = "int" from ty)
    exact ⟨typeIs_int s i t, fun _ e => nomatch e⟩
  | ref p =>
    cases r
    rcases ty with ⟨rfl, xs, hq⟩ | ⟨rfl, o, hk, hc, hd⟩ | ⟨rfl, hk⟩ | ⟨rfl, S, n, hk⟩
    · obtain ⟨its, _, pl, _⟩ := I.list hq
      refine ⟨pl.isList.typeIs, fun a e => ?_⟩
      cases e
      obtain ⟨o, n, e, c, hd, _⟩ := pl
      exact ⟨o, e, hd⟩
    · refine ⟨⟨o, I.kIn p o hk, hc⟩, fun a e => ?_⟩
      cases e
      exact ⟨o, I.kIn _ o hk, hd⟩
    · have z : ∃ o, s.heap.get? p = some o ∧ o.ExactDict := by
        rcases hk with ⟨kvs, hk⟩ | ⟨kvs, hk⟩
        · obtain ⟨_, _, _, _, o, _, _, e, ex, _⟩ := I.hok p _ hk
          exact ⟨o, e, ex⟩
        · obtain ⟨_, _, _, _, o, _, _, e, ex, _⟩ := I.hok p _ hk
          exact ⟨o, e, ex⟩
      obtain ⟨o, e, ex⟩ := z
      refine ⟨⟨o, e, ex.1⟩, fun a e2 => ?_⟩
      cases e2
      exact ⟨o, e, ex.2.1⟩
    · obtain ⟨o, _, _, _, e, ex, _⟩ := I.hok p _ hk
      refine ⟨⟨o, e, ex.1⟩, fun a e2 => ?_⟩
      cases e2
      exact ⟨o, e, ex.2.1⟩
  | _ => exact False.elim ty
def tBM0 (K : PySem.W.Frag) (T : String) (r : V → List V → Hp → VK → Prop) (to : TE) : TE := fun σ H Q => to σ H fun x H1 => tyV K T x H1 ∧ r x [] H1 Q
def tBM (K : PySem.W.Frag) (T : String) (r : V → List V → Hp → VK → Prop) (to : TE) (t : TA) : TE := fun σ H Q => to σ H fun x H1 => tyV K T x H1 ∧ t σ H1 fun xs H2 => r x xs H2 Q
variable {o e : Expr} {es : List Expr} {to : TE} {t : TA} {name : Str} {apos cpos : Pos} {T id : String} {r : V → List V → Hp → VK → Prop}
theorem pe_bm (pa : PlainAttrs T) (slot : Slot T name id) (hty : typeOf (.builtin id) = pure (.type "method_descriptor")) (hm : MtR X id r) (ho : PE X o to) (ha : PA X (e :: es) t)
    (hbase : attributeBase o name X.env (eval o X.env) = eval o X.env := by rfl)
    (hfew : ((backTo cpos (starEach (e :: es) X.env)).all (fun x => !x.1) && (backToKw cpos (keywordEach [] X.env)).all (fun x => x.1.isSome)
      && decide ((e :: es).length + ([] : List Keyword).length + (if ([] : List Keyword).isEmpty then 0 else 1) < 30)) = true := by rfl)
    (hline : (apos.endLine == cpos.line) = true := by rfl) (hs : starEach (e :: es) X.env = (false, eval e X.env) :: starEach es X.env := by rfl) (hplain : (backTo cpos (starEach es X.env)).any (·.1) = false := by rfl) :
    PE X (.Call (.Attribute o name apos) (e :: es) [] cpos) (tBM X.K T r to t) := by
  intro pins s σ H Q I h
  refine wpAny_Call_method_late hbase hfew hline rfl (thn (ho pins s σ H _ I h) fun v s1 ⟨x, H1, I1, r1, ty, q1⟩ => ?_)
  obtain ⟨h1, h2⟩ := tyV_is I1 r1 ty
  refine ⟨T, id, pa, slot, hty, h1, h2, ?_⟩
  have hA := ha cpos pins s1 σ H1 _ I1 q1
  rw [hs] at hA ⊢
  refine Calls.callWith_builtin (by show (false || (backTo cpos (starEach es X.env)).any (·.1)) = false; rw [hplain] <;> rfl) (Calls.evalArgs_plain ?_)
  exact thn hA fun us s2 ⟨vs, H2, I2, r2, q2⟩ => hm pins s2 σ H2 x vs v us Q I2 r1 r2 q2
/- xs.append(e), list.index on a module's tuple .. are MtR facts of 06m -/
end
end L2

namespace L2
open PySem PySem.Spec PyProof.Rows

def MtM (X : Cx) (id : String) (r : V → List V → Hp → VK → Prop) : Prop :=
  ∀ (pins : List (Addr × Obj)) (s : Shared) (σ : St) (H : Hp) (x : V) (xs : List V) (v : Value) (us : List Value) (Q : VK), Inv X pins σ H s → RelV x v → Vals xs us → r x xs H Q →
    wpAny (model X.prog X.w) X.A (call (.builtin id) (v :: us)) (EP X pins σ Q) X.xe s

/-! ### lists of values -/
theorem Vals.one : ∀ {x : V} {us : List Value}, Vals [x] us → ∃ u, us = [u] ∧ RelV x u
  | _, _, .cons r .nil => ⟨_, rfl, r⟩
theorem Vals.two : ∀ {x y : V} {us : List Value}, Vals [x, y] us → ∃ u v, us = [u, v] ∧ RelV x u ∧ RelV y v
  | _, _, _, .cons r (.cons q .nil) => ⟨_, _, rfl, r, q⟩
theorem Vals.zero : ∀ {us : List Value}, Vals [] us → us = []
  | _, .nil => rfl
section
variable {X : Cx} {pins : List (Addr × Obj)} {σ : St} {H : Hp} {s : Shared} {l b : Addr} {xs ys zs : List V}

/-! ### the two steps: a tracked list is rewritten, a new list is laid -/
theorem Inv.lset {its its' : List Value} {n : Nat} {f : Array Value → Array Value} {t' : Nat} (I : Inv X pins σ H s) (hH : H l = some (.lst xs))
    (e : s.heap.get? l = some { cls := .type "list", data := .seq its.toArray n }) (hf : f its.toArray = its'.toArray) (hv : Vals ys its') (hz : ys.length ≤ sizeLine) :
    Inv X pins σ (upd H l (.lst ys)) { s with heap := s.heap.update l (Obj.mapSeq f), toks := t' } := by
  have q := PySem.IsL.update e f
  rw [hf] at q
  refine I.write (x := l) (e := l) (by rw [hH]; exact trivial) (.inl rfl) (fun b' u hb hu => (Heap.get?_update_other s.heap (Obj.mapSeq f) (Ne.symm hb)).trans hu) ⟨_, q⟩ ?_
  exact ⟨hz, its', _, hv, q⟩
theorem Inv.fresh (I : Inv X pins σ H s) : H s.heap.objs.size = none := I.hok.fresh (Nat.le_refl _)
theorem Inv.lstM (I : Inv X pins σ H s) (hH : H l = some (.lst xs)) : xs.length ≤ sizeLine ∧ ∃ (its : List Value) (n : Nat), Vals xs its ∧ xs.length = its.length ∧ s.heap.get? l = some { cls := .type "list", data := .seq its.toArray n } := by
  obtain ⟨z, its, n, r, e⟩ := I.hok l _ hH
  exact ⟨z, its, n, r, r.length, e⟩

end

section
variable {X : Cx}

/-! ### methods -/
def rAppend : V → List V → Hp → VK → Prop := fun x vs H Q => ∃ l xs y, x = .ref l ∧ vs = [y] ∧ H l = some (.lst xs) ∧ xs.length < sizeLine ∧ Q .non (upd H l (.lst (xs ++ [y])))
theorem mt_append : MtM X "list.append" rAppend := by
  intro pins s σ H x vs v us Q I rx rv h
  obtain ⟨l, xs, y, rfl, rfl, hH, hz, q⟩ := h
  cases rx
  obtain ⟨u, rfl, ru⟩ := rv.one
  obtain ⟨z, its, n, r, hl, e⟩ := I.lstM hH
  refine call_meets F.slot_list_append ⟨_, e, rfl⟩ F.entry_list_append (F.args_list_append_2 _ _) (PySem.list_append l its.toArray n u (by rw [List.size_toArray]; omega)) ⟨e, ?_⟩
  refine ⟨.non, _, I.lset (its' := its ++ [u]) hH e (by simp) (r.append (.cons ru .nil)) ?_, rfl, q⟩
  rw [List.length_append, List.length_singleton]
  omega

def rClear : V → List V → Hp → VK → Prop := fun x vs H Q => ∃ l xs, x = .ref l ∧ vs = [] ∧ H l = some (.lst xs) ∧ Q .non (upd H l (.lst []))
/-! ### list + list, list += list, list * int -/
def rCat : R2 := fun x y H Q => ∃ l b xs zs, x = .ref l ∧ y = .ref b ∧ H l = some (.lst xs) ∧ H b = some (.lst zs) ∧ xs.length + zs.length ≤ sizeLine ∧ ∀ p, H p = none → Q (.ref p) (upd H p (.lst (xs ++ zs)))
/-! ### del xs[i] -/
end

/-! ### xs[a:b] = ys -/
section
variable {prog : Program} {w : World} {A : Around} {E : Value → Shared → Prop} {s : Shared}
end

section
variable {X : Cx}
end
end L2

namespace L2
open PySem PySem.Spec PyProof.Rows

/-! ### lists of pairs as tables -/
section
variable {κ : Type} [DecidableEq κ]
def valV (kvs : List (κ × V)) (k : κ) : Option V := (kvs.find? fun kv => decide (kv.1 = k)).map (·.2)
/-- in its place, or at the end -/
def putK (kvs : List (κ × V)) (k : κ) (v : V) : List (κ × V) :=
  if (kvs.any fun kv => decide (kv.1 = k)) = true then kvs.map (fun kv => if kv.1 = k then (kv.1, v) else kv) else kvs ++ [(k, v)]
def dropK (kvs : List (κ × V)) (k : κ) : List (κ × V) := kvs.filter fun kv => decide (kv.1 ≠ k)

theorem valV_pos {p : κ × V} {r : List (κ × V)} {k : κ} (e : p.1 = k) : valV (p :: r) k = some p.2 := by simp [valV, List.find?_cons, e]
theorem valV_neg {p : κ × V} {r : List (κ × V)} {k : κ} (e : ¬ p.1 = k) : valV (p :: r) k = valV r k := by simp [valV, List.find?_cons, e]
theorem valV_any (k : κ) : ∀ kvs : List (κ × V), (kvs.any fun kv => decide (kv.1 = k)) = (valV kvs k).isSome
  | [] => rfl
  | p :: r => by
    rw [List.any_cons]
    by_cases e : p.1 = k
    · simp only [valV_pos e, decide_eq_true e, Bool.true_or, Option.isSome_some]
    · rw [valV_neg e, decide_eq_false e, Bool.false_or]; exact valV_any k r
theorem length_putK (kvs : List (κ × V)) (k : κ) (v : V) : (putK kvs k v).length ≤ kvs.length + 1 := by
  unfold putK
  split
  · rw [List.length_map]; omega
  · rw [List.length_append, List.length_cons, List.length_nil]; omega
theorem RelO.isSome_eq {o : Option V} {u : Option Value} (r : RelO o u) : o.isSome = u.isSome := by
  cases o with
  | none => cases u with
    | none => rfl
    | some _ => exact (show False from r).elim
  | some _ => cases u with
    | none => exact (show False from r).elim
    | some _ => rfl
theorem RelO.getD {o : Option V} {u : Option Value} {d : V} {d' : Value} (r : RelO o u) (rd : RelV d d') : RelV (o.getD d) (u.getD d') := by
  cases o with
  | none => cases u with
    | none => exact rd
    | some _ => exact (show False from r).elim
  | some _ => cases u with
    | none => exact (show False from r).elim
    | some _ => exact r

/-- raw tables of the same keys -/
theorem KV.val {kvs : List (κ × V)} {vs : List (κ × Value)} (r : KV kvs vs) (k : κ) : RelO (valV kvs k) (valueAt vs k) := by
  unfold KV at r
  induction r with
  | nil => exact True.intro
  | @cons p q ps qs h t ih =>
    obtain ⟨h1, h2⟩ := h
    by_cases e : p.1 = k
    · have e' : q.1 = k := h1.symm.trans e
      have b : valueAt (q :: qs) k = some q.2 := by simp [valueAt, List.find?_cons, e']
      rw [valV_pos e, b]; exact h2
    · have e' : ¬ q.1 = k := fun z => e (h1.trans z)
      have b : valueAt (q :: qs) k = valueAt qs k := by simp [valueAt, List.find?_cons, e']
      rw [valV_neg e, b]; exact ih
theorem KV.any {kvs : List (κ × V)} {vs : List (κ × Value)} (r : KV kvs vs) (k : κ) : (kvs.any fun kv => decide (kv.1 = k)) = vs.any fun kv => decide (kv.1 = k) := by
  unfold KV at r
  induction r with
  | nil => rfl
  | cons h t ih => rw [List.any_cons, List.any_cons, ih, h.1]
theorem KV.repl {kvs : List (κ × V)} {vs : List (κ × Value)} (r : KV kvs vs) (k : κ) {y : V} {u : Value} (ry : RelV y u) :
    KV (kvs.map fun kv => if kv.1 = k then (kv.1, y) else kv) (vs.map fun kv => if kv.1 = k then (kv.1, u) else kv) := by
  unfold KV at r ⊢
  induction r with
  | nil => exact .nil
  | @cons p q ps qs h t ih =>
    rw [List.map_cons, List.map_cons]
    refine .cons ?_ ih
    obtain ⟨h1, h2⟩ := h
    by_cases e : p.1 = k
    · rw [if_pos e, if_pos (h1.symm.trans e)]; exact ⟨h1, ry⟩
    · rw [if_neg e, if_neg (fun z => e (h1.trans z))]; exact ⟨h1, h2⟩
theorem KV.put {kvs : List (κ × V)} {vs : List (κ × Value)} (r : KV kvs vs) (k : κ) {y : V} {u : Value} (ry : RelV y u) : KV (putK kvs k y) (stored vs k u) := by
  unfold putK stored
  rw [r.any k]
  by_cases e : (vs.any fun kv => decide (kv.1 = k)) = true
  · rw [if_pos e, if_pos e]; exact r.repl k ry
  · rw [if_neg e, if_neg e]; exact Paired.snoc r ⟨rfl, ry⟩
theorem KV.drop {kvs : List (κ × V)} {vs : List (κ × Value)} (r : KV kvs vs) (k : κ) : KV (dropK kvs k) (without vs k) := by
  unfold KV at r ⊢
  unfold dropK without
  induction r with
  | nil => exact .nil
  | @cons p q ps qs h t ih =>
    obtain ⟨h1, h2⟩ := h
    rw [List.filter_cons, List.filter_cons]
    by_cases e : p.1 = k
    · have a : ¬ decide (p.1 ≠ k) = true := by simp [e]
      have b : ¬ decide (q.1 ≠ k) = true := by simp [h1.symm.trans e]
      rw [if_neg a, if_neg b]; exact ih
    · have e' : ¬ q.1 = k := fun z => e (h1.trans z)
      have a : decide (p.1 ≠ k) = true := by simp [e]
      have b : decide (q.1 ≠ k) = true := by simp [e']
      rw [if_pos a, if_pos b]; exact .cons ⟨h1, h2⟩ ih
theorem KV.keys {kvs : List (κ × V)} {vs : List (κ × Value)} (r : KV kvs vs) : kvs.map (·.1) = vs.map (·.1) := by
  unfold KV at r
  induction r with
  | nil => rfl
  | cons h t ih => rw [List.map_cons, List.map_cons, ih, h.1]
theorem KV.length {kvs : List (κ × V)} {vs : List (κ × Value)} (r : KV kvs vs) : kvs.length = vs.length := Paired.length r
end


/-! ### a tracked dict, its keys ints and texts or tuples of these -/
theorem kV_is {P : Program} {w : World} {k : Key} {u : Value} (r : RelV (kV k) u) : (mixKind P w).is k u = true := by
  cases k with
  | inl i => obtain ⟨t, e⟩ := (show ∃ t, u = Value.int i t from r); subst e; exact mixKind_int P w i t
  | inr x => obtain ⟨t, e⟩ := (show ∃ t, u = Value.str x t from r); subst e; exact mixKind_str P w x t
theorem items_are {P : Program} {w : World} : ∀ {ks : List Key} {us : List Value}, Vals (ks.map kV) us → ItemsAre (mixKind P w) ks us
  | [], _, r => by rw [List.map_nil] at r; cases r; exact .nil
  | k :: ks, _, r => by
    rw [List.map_cons] at r
    cases r with
    | cons h t => exact .cons (kV_is h) (items_are t)

/-- raw entries of a dict with tuple keys -/
abbrev KT (H : Hp) : List (List Key × V) → List (List Key × Addr × Value) → Prop := Paired fun p q => p.1 = q.1 ∧ H q.2.1 = some (.tup (p.1.map kV)) ∧ RelV p.2 q.2.2
theorem KT.val {H : Hp} {kvs : List (List Key × V)} {xs : List (List Key × Addr × Value)} (r : KT H kvs xs) (k : List Key) : RelO (valV kvs k) ((atKey xs k).map (·.2)) := by
  induction r with
  | nil => exact True.intro
  | @cons p q ps qs h t ih =>
    obtain ⟨h1, _, h2⟩ := h
    by_cases e : p.1 = k
    · have e' : q.1 = k := h1.symm.trans e
      have b : atKey (q :: qs) k = some q.2 := by simp [atKey, List.find?_cons, e']
      rw [valV_pos e, b]; exact h2
    · have e' : ¬ q.1 = k := fun z => e (h1.trans z)
      have b : atKey (q :: qs) k = atKey qs k := by simp [atKey, List.find?_cons, e']
      rw [valV_neg e, b]; exact ih
theorem KT.repl {H : Hp} {kvs : List (List Key × V)} {xs : List (List Key × Addr × Value)} (r : KT H kvs xs) (k : List Key) {y : V} {u : Value} (ry : RelV y u) :
    KT H (kvs.map fun kv => if kv.1 = k then (kv.1, y) else kv) (xs.map (putAt k u)) := by
  induction r with
  | nil => exact .nil
  | @cons p q ps qs h t ih =>
    rw [List.map_cons, List.map_cons]
    refine .cons ?_ ih
    obtain ⟨h1, h2, h3⟩ := h
    unfold putAt
    by_cases e : p.1 = k
    · rw [if_pos e, if_pos (h1.symm.trans e)]; exact ⟨h1, h2, ry⟩
    · rw [if_neg e, if_neg (fun z => e (h1.trans z))]; exact ⟨h1, h2, h3⟩
theorem KT.put {H : Hp} {kvs : List (List Key × V)} {xs : List (List Key × Addr × Value)} (r : KT H kvs xs) (k : List Key) {b : Addr} {y : V} {u : Value} (hb : H b = some (.tup (k.map kV))) (ry : RelV y u) :
    KT H (putK kvs k y) (storedH xs k b u) := by
  have e : (kvs.any fun kv => decide (kv.1 = k)) = (atKey xs k).isSome := by
    rw [valV_any, (r.val k).isSome_eq, Option.isSome_map]
  unfold putK storedH
  rw [e]
  by_cases q : (atKey xs k).isSome = true
  · rw [if_pos q, if_pos q]; exact r.repl k ry
  · rw [if_neg q, if_neg q]; exact Paired.snoc r ⟨rfl, hb, ry⟩
theorem KT.keeps {H H' : Hp} {kvs : List (List Key × V)} {xs : List (List Key × Addr × Value)} (r : KT H kvs xs) (ht : ∀ b ys, H b = some (.tup ys) → H' b = some (.tup ys)) : KT H' kvs xs :=
  Paired.mapP r fun _ _ z => ⟨z.1, ht _ _ z.2.1, z.2.2⟩

section
variable {P : Program} {w : World} {H : Hp} {h : Heap} {a : Addr}
theorem rd_of {u : HO} (ok : HOk P w H h) (e : Rd H a u) : ObjOk P w H h a u := e.ok ok
theorem dk_rd {kvs : List (Key × V)} (ok : HOk P w H h) (e : Rd H a (.dK kvs)) : kvs.length ≤ sizeLine ∧ (a == sysModules) = false ∧ ∃ vs, KV kvs vs ∧ h.DictOf (mixKind P w) a vs :=
  show ObjOk P w H h a (.dK kvs) from rd_of ok e
theorem dk_of {kvs : List (Key × V)} (ok : HOk P w H h) (e : H a = some (.dK kvs)) : kvs.length ≤ sizeLine ∧ (a == sysModules) = false ∧ ∃ vs, KV kvs vs ∧ h.DictOf (mixKind P w) a vs := dk_rd ok (.inl e)
/-- a tracked tuple of ints and texts is a key -/
theorem key_of {ks : List Key} (ok : HOk P w H h) (e : H a = some (.tup (ks.map kV))) : (tupleKind (mixKind P w)).is h ks a := by
  obtain ⟨_, its, r, o, h1, h2, n, h3⟩ := (show ObjOk P w H h a (.tup (ks.map kV)) from ok a _ e)
  exact ⟨o, its.toArray, n, h1, h2, h3, by simpa using items_are r⟩
theorem dt_rd {kvs : List (List Key × V)} (ok : HOk P w H h) (e : Rd H a (.dT kvs)) : kvs.length ≤ sizeLine ∧ (a == sysModules) = false ∧
    ∃ xs, KT H kvs xs ∧ h.DictOfH (tupleKind (mixKind P w)) a xs := by
  obtain ⟨z, y, xs, r, o, es, ep, h1, h2, h3, h4, h5⟩ := (show ObjOk P w H h a (.dT kvs) from rd_of ok e)
  refine ⟨z, y, xs, r, o, es, ep, h1, h2, h3, h4, fun x hx => ?_, h5⟩
  have all : ∀ {l : List (List Key × V)} {m : List (List Key × Addr × Value)}, KT H l m → ∀ x ∈ m, (tupleKind (mixKind P w)).is h x.1 x.2.1 := by
    intro l m q
    induction q with
    | nil => intro x hx; exact nomatch hx
    | @cons p q ps qs hq t ih =>
      intro x hx
      rcases List.mem_cons.mp hx with e | hx
      · subst e
        exact key_of ok (by rw [← hq.1]; exact hq.2.1)
      · exact ih x hx
  exact all r x hx
theorem dt_of {kvs : List (List Key × V)} (ok : HOk P w H h) (e : H a = some (.dT kvs)) : kvs.length ≤ sizeLine ∧ (a == sysModules) = false ∧
    ∃ xs, KT H kvs xs ∧ h.DictOfH (tupleKind (mixKind P w)) a xs := dt_rd ok (.inl e)
end

/-- what the dict at a holds at the key y -/
def DGet (H : Hp) (a : Addr) (y : V) (r : Option V) : Prop :=
  (∃ kvs k, Rd H a (.dK kvs) ∧ y = kV k ∧ r = valV kvs k) ∨ ∃ kvs k b, Rd H a (.dT kvs) ∧ y = .ref b ∧ H b = some (.tup (k.map kV)) ∧ r = valV kvs k
/-- the heap behind a[y] = v -/
def DPut (H : Hp) (a : Addr) (y v : V) (H' : Hp) : Prop :=
  (∃ kvs k, H a = some (.dK kvs) ∧ y = kV k ∧ kvs.length < sizeLine ∧ H' = upd H a (.dK (putK kvs k v))) ∨
  ∃ kvs k b, H a = some (.dT kvs) ∧ y = .ref b ∧ H b = some (.tup (k.map kV)) ∧ kvs.length < sizeLine ∧ H' = upd H a (.dT (putK kvs k v))
theorem DGet.k {H : Hp} {a : Addr} {kvs : List (Key × V)} {k : Key} (e : H a = some (.dK kvs)) : DGet H a (kV k) (valV kvs k) := .inl ⟨kvs, k, .inl e, rfl, rfl⟩
theorem DGet.t {H : Hp} {a b : Addr} {kvs : List (List Key × V)} {k : List Key} (e : H a = some (.dT kvs)) (eb : H b = some (.tup (k.map kV))) : DGet H a (.ref b) (valV kvs k) := .inr ⟨kvs, k, b, .inl e, rfl, eb, rfl⟩
theorem DPut.k {H : Hp} {a : Addr} {kvs : List (Key × V)} {k : Key} {v : V} (e : H a = some (.dK kvs)) (hl : kvs.length < sizeLine) : DPut H a (kV k) v (upd H a (.dK (putK kvs k v))) := .inl ⟨kvs, k, e, rfl, hl, rfl⟩
theorem DPut.t {H : Hp} {a b : Addr} {kvs : List (List Key × V)} {k : List Key} {v : V} (e : H a = some (.dT kvs)) (eb : H b = some (.tup (k.map kV))) (hl : kvs.length < sizeLine) :
    DPut H a (.ref b) v (upd H a (.dT (putK kvs k v))) := .inr ⟨kvs, k, b, e, rfl, eb, hl, rfl⟩


section
variable {X : Cx} {pins : List (Addr × Obj)} {σ : St} {H : Hp} {s : Shared} {a : Addr} {y v : V} {u r : Value} {o : Option V} {A : Around} {E : Value → Shared → Prop}

theorem Inv.big (I : Inv X pins σ H s) : sysModules < s.heap.objs.size := by
  have h : mainGlobals < s.heap.objs.size := (I.mod.glob.keeps I.bk).lt
  exact Nat.lt_trans (by decide) h

/-- a dict's object is replaced -/
theorem d_write {h' : Heap} {t' : Nat} {ob : HO} (I : Inv X pins σ H s) (mu : Mut (H a)) (hs : Heap.SameBut a s.heap h') (he : ∃ q, h'.get? a = some q) (new : ObjOk X.prog X.w (upd H a ob) h' a ob) :
    Inv X pins σ (upd H a ob) { s with heap := h', toks := t' } :=
  I.write (x := a) (e := a) mu (.inl rfl) (fun b q hb z => (hs.2 b hb).trans z) he new
theorem dk_new {P : Program} {w : World} {H' : Hp} {h' : Heap} {kvs : List (Key × V)} {vs : List (Key × Value)} (z : kvs.length ≤ sizeLine) (hd : (a == sysModules) = false) (rel : KV kvs vs) (dd : h'.DictOf (mixKind P w) a vs) :
    ObjOk P w H' h' a (.dK kvs) := ⟨z, hd, vs, rel, dd⟩
/-- d[y] = v -/
theorem d_setItem {H' : Hp} {Q : Unit → Shared → Prop} (hu : A.units + 1 < cLine) (I : Inv X pins σ H s) (g : DPut H a y v H') (ry : RelV y u) (rv : RelV v r) (h : ∀ s', Inv X pins σ H' s' → Q () s') :
    wpAny (model X.prog X.w) A (setItem (.ref a) u r) Q E s := by
  rcases g with ⟨kvs, k, e, ey, l, eH⟩ | ⟨kvs, k, b, e, ey, eb, l, eH⟩
  · subst ey eH
    obtain ⟨z, hd, vs, rel, dd⟩ := dk_of I.hok e
    have hz : vs.length ≤ sizeLine := by rw [← rel.length]; exact z
    have hl : (putK kvs k v).length ≤ sizeLine := by have := length_putK kvs k v; omega
    refine wpAny_setItem_pairs (hsz := hz) (kV_is ry) dd fun h' dd' hs => h _ ?_
    have he : ∃ q, h'.get? a = some q := let ⟨q, _, _, hq, _⟩ := dd'; ⟨q, hq⟩
    exact d_write I (by rw [e]; exact True.intro) hs he (dk_new hl hd (rel.put k rv) dd')
  · subst ey eH
    cases (show u = Value.ref b from ry)
    obtain ⟨z, hd, xs, rel, dd⟩ := dt_of I.hok e
    have hz : xs.length ≤ sizeLine := by rw [← Paired.length rel]; exact z
    have hl : (putK kvs k v).length ≤ sizeLine := by have := length_putK kvs k v; omega
    refine wpAny_setItem_heap (hsz := hz) (tupleKind_room_in1 hu) (key_of I.hok eb) dd fun h' dd' hs => h _ ?_
    obtain ⟨q, es, ep, hq, h2, h3, h4, _, h5⟩ := dd'
    refine d_write I (by rw [e]; exact True.intro) hs ⟨q, hq⟩ ⟨hl, hd, _, (rel.put k eb rv).keeps fun c ys ec => ?_, q, es, ep, hq, h2, h3, h4, h5⟩
    rw [upd_ne (ne_of ec e (fun z => nomatch z))]
    exact ec
end

section
variable {X : Cx} {pins : List (Addr × Obj)} {σ : St} {H : Hp} {s : Shared} {a : Addr} {kvs : List (Key × V)} {k : Key} {u : Value} {A : Around} {E : Value → Shared → Prop}
end


/-! ### readings and rules -/
/-- the element of a subscription, not a slice -/
def NoSl (i : Expr) : Prop := ∀ ov iv, subscripted i false ov iv = operate [ov, iv] (getItem ov iv)
theorem subD_of {prog : Program} {w : World} {A : Around} {E : Value → Shared → Prop} {s : Shared} {env : Env} {value slice : Expr} {pos : Pos} {T id : String} {Q : Value → Shared → Prop}
    (hl : typeLookup (.type T) "__getitem__" = pure (some (.builtin id))) (hs : NoSl slice)
    (h : wpAny (model prog w) A (eval value env) (fun o s₁ => wpAny (model prog w) A (eval slice env) (fun i s₂ => s₂.TypeIs o T ∧ wpAny (model prog w) A (getItem o i) Q E s₂) E s₁) E s) :
    wpAny (model prog w) A (eval (.Subscript value slice pos) env) Q E s := by
  refine Subscript_ (wpAny_mono h (fun o s₁ h₁ => wpAny_mono h₁ (fun i s₂ h₂ => ?_) fun _ _ x => x) fun _ _ x => x)
  obtain ⟨hT, h₂⟩ := h₂
  unfold subscriptTail
  refine wpAny_bind ?_
  rw [getitemInPython_of_ne hT.not_modules]
  refine wpAny_bind (wpAny_specialOf hT hl ?_)
  have fin : wpAny (model prog w) A (subscripted slice false o i) (fun r s₃ => wpAny (model prog w) A (letTemporaryGo value o r >>= fun _ => pure r) Q E s₃) E s₂ := by
    rw [hs o i]
    exact wpAny_operating (wpAny_mono h₂ (fun r s₃ h₃ => wpAny_bind (wpAny_letTemporaryGo (wpAny_pure h₃))) fun _ _ x => x)
  first
    | exact wpAny_pure (wpAny_bind fin)
    | exact wpAny_bind (wpAny_pure (wpAny_bind fin))
    | exact wpAny_bind fin

/-- d[y] = v -/
def sDPut (td ty tv : TE) : TS := fun D σ H => tv σ H fun v H1 => td σ H1 fun x H2 => ty σ H2 fun y H3 => ∃ a H4, x = .ref a ∧ DPut H3 a y v H4 ∧ D.nx σ H4
section
variable {X : Cx} {o i e value : Expr} {pos pos' tpos : Pos} {td ty tv : TE}
theorem ps_dput (hu : X.A.units + 1 < cLine) (ho : PE X o td) (hi : PE X i ty) (hv : PE X value tv) (hs : swapsWith value (some (.Subscript o i pos')) pos.line X.env = pure false) :
    PS X (.Assign [.Subscript o i pos'] value pos) (sDPut td ty tv) := by
  intro pins s σ H D I h
  refine wpAny_Assign_Subscript (thn (hv pins s σ H _ I h) fun r s1 ⟨v, H1, I1, rv, q1⟩ => thn (ho pins s1 σ H1 _ I1 q1) fun u s2 ⟨x, H2, I2, rx, q2⟩ => thn (hi pins s2 σ H2 _ I2 q2) fun iv s3 ⟨y, H3, I3, ry, a, H4, ex, g, q3⟩ => ?_) hs
  subst ex
  obtain rfl : u = Value.ref a := rx
  exact d_setItem hu I3 g ry rv fun s4 I4 => ⟨σ, H4, I4, q3⟩
end


/-! ### displays -/
theorem dk_empty {P : Program} {w : World} {H : Hp} (h : Heap) (hb : sysModules < h.objs.size) : ObjOk P w H (h.push { cls := .type "dict", data := .dict #[] }) h.objs.size (.dK []) :=
  ⟨Nat.zero_le _, beq_eq_false_iff_ne.mpr (Ne.symm (Nat.ne_of_lt hb)), [], .nil, Heap.DictOf.new h⟩
/-- {}, to be a dict of the kind that is wanted -/
def tDNewK : TE := fun _ H Q => ∀ p, H p = none → Q (.ref p) (upd H p (.dK []))
section
variable {X : Cx} {pos : Pos}
theorem pe_dnewK : PE X (.Dict [] [] pos) tDNewK := fun pins s σ H Q I h =>
  wpAny_Dict_empty ⟨.ref s.heap.objs.size, _, I.laid (a := s.heap.objs.size) (o := .dK []) (t' := s.toks) (fun _ _ q => Heap.get?_push_of_some _ q) (Nat.le_refl _) (dk_empty s.heap I.big), rfl, h _ (I.hok.fresh (Nat.le_refl _))⟩
end

/-! ### methods -/
/-- a method call o.m(e) of a built-in, with one argument: what must be seen of the text -/
structure M1 (X : Cx) (o : Expr) (m : Str) (apos : Pos) (e : Expr) (cpos : Pos) : Prop where
  base : attributeBase o m X.env (eval o X.env) = eval o X.env
  few : ((backTo cpos (starEach [e] X.env)).all (fun x => !x.1) && (backToKw cpos (keywordEach [] X.env)).all (fun x => x.1.isSome)
    && decide (([e] : List Expr).length + ([] : List Keyword).length + (if ([] : List Keyword).isEmpty then 0 else 1) < 30)) = true
  line : (apos.endLine == cpos.line) = true
  trees : backTo cpos (starEach [e] X.env) = [(false, eval e X.env)]
structure M2 (X : Cx) (o : Expr) (m : Str) (apos : Pos) (e f : Expr) (cpos : Pos) : Prop where
  base : attributeBase o m X.env (eval o X.env) = eval o X.env
  few : ((backTo cpos (starEach [e, f] X.env)).all (fun x => !x.1) && (backToKw cpos (keywordEach [] X.env)).all (fun x => x.1.isSome)
    && decide (([e, f] : List Expr).length + ([] : List Keyword).length + (if ([] : List Keyword).isEmpty then 0 else 1) < 30)) = true
  line : (apos.endLine == cpos.line) = true
  trees : backTo cpos (starEach [e, f] X.env) = [(false, eval e X.env), (false, eval f X.env)]

section
variable {X : Cx} {pins : List (Addr × Obj)} {σ : St} {H : Hp} {s : Shared} {a : Addr} {y d : V} {u r : Value} {o : Option V} {A : Around} {E : Value → Shared → Prop}
end

section
variable {X : Cx} {o e f : Expr} {apos cpos : Pos} {td ty tx : TE}
end

/-! ### dict(d): a copy -/
section
variable {X : Cx} {pins : List (Addr × Obj)} {σ : St} {H : Hp} {s : Shared} {a : Addr} {kvs : List (Key × V)} {A : Around} {E : Value → Shared → Prop}
end


section
variable {X : Cx} {pins : List (Addr × Obj)} {σ : St} {H : Hp} {s : Shared} {a : Addr} {y : V} {u : Value} {A : Around} {E : Value → Shared → Prop}
end
end L2

namespace Att
open PySem PySem.W PySem.Calls PyProof.Rows

/-! ### the script -/
theorem ints_of_wellAll {P : Params} {h : Heap} : ∀ (ns : List Int) (vs : List Value), WellAll P h vs (ns.map WData.int) → IntsAre vs ns := by
  intro ns
  induction ns with
  | nil =>
    intro vs w
    rw [List.map_nil] at w
    cases w
    exact .nil
  | cons n ns ih =>
    intro vs w
    rw [List.map_cons] at w
    cases w with
    | cons a b =>
      cases a
      exact .cons _ _ (ih _ b)

theorem script_of {l : OpenLaw} {n : Nat} (hn : l.most = some n) {P : Params} {h : Heap} {args : List WData} {vals : List Value}
    (hpre : l.row.toRowW.claim.pre args = true) (hwl : WellAll P h vals args) :
    ∃ a vs ns, vals = [Value.ref a] ∧ args = [WData.list (ns.map WData.int)] ∧ h.get? a = some { cls := .type "list", data := .seq vs.toArray } ∧ IntsAre vs ns ∧ ns.length ≤ n := by
  have hsh : WShape.hasAll [] args [.list .int] = true := (pre_splitW hpre).1
  have hc : l.pre.holds [] { args := args } = true := (pre_splitW hpre).2
  obtain ⟨d, r, rfl, h1, h2⟩ := hasAllW_cons hsh
  obtain rfl := hasAllW_nil h2
  obtain ⟨xs, rfl, h3⟩ := hasW_list h1
  obtain ⟨ns, rfl⟩ := items_int h3
  have hlen : ns.length ≤ n := by
    unfold OpenLaw.pre at hc
    have h4 : (WTm.not (.lt (.lit (.int (n : Int))) (.len (.arg 0)))).holds [] { args := [.list (ns.map .int)] } = true := by
      have h4 := (holds_andW hc).1
      rw [hn] at h4
      exact h4
    have h5 := condW_of h4 (w_not (w_lt w_lit (w_len_list (w_arg rfl))))
    rw [List.length_map] at h5
    refine Nat.le_of_not_lt fun q => ?_
    have q' : (n : Int) < ((ns.length : Nat) : Int) := by omega
    first
      | (rw [decide_eq_true q'] at h5; exact absurd h5 (by decide))
      | (simp at h5; omega)
  cases hwl with
  | cons w1 w2 =>
    cases w2
    cases w1 with
    | list ho hall => exact ⟨_, _, ns, rfl, rfl, ho, ints_of_wellAll ns _ hall, hlen⟩

theorem post_true (l : OpenLaw) (args : List WData) : l.row.toRowW.claim.post args (.bool true) args = true :=
  postW_of (r := l.row.toRowW) (X := (true == true))
    (show WShape.has [] (.bool true) .bool = true by first | rfl | decide | simp [WShape.has, WShape.arms, WShape.armsAll])
    (show (WTm.eq .res (.lit (.bool true))).value [] { args := args, res := some (.bool true), after := args } = some (.bool (true == true)) from w_eq_bool (w_res rfl) w_lit) rfl

/-! ### the attachment: holds_open's last premise (the goal 'hc' behind k_head) from a wpAny of the law's body -/
/-- the same from a codeAny of the CALL (for a layer whose function contracts speak of calls) -/
theorem attach_call {l : OpenLaw} {n : Nat} {q : Program} {loose : List Str} {XP : (Str → Option Value) → Heap → Prop} {YP : World → Heap → Prop} {d : DefRec}
    (hn : l.most = some n) (hdf : d.params.defaults = [])
    (call : ∀ (w : World) (s₀ s₁ : Shared) (mg mb : Str → Option Value) (fa : Addr) (o : Obj) (pm cd doc : Value) (a : Addr) (vs : List Value) (ns : List Int),
      Ground q loose [] XP w s₀ mg mb s₁.heap → YP w s₁.heap →
      s₁.heap.get? fa = some o → o.data = .func (docDef d.name d.params d.body d.scope pm cd doc) → s₁.heap.CodeRec cd d.name → mg d.name = some (.ref fa) →
      s₁.heap.get? a = some { cls := .type "list", data := .seq vs.toArray } → IntsAre vs ns → ns.length ≤ n → s₁.gens = #[] →
      codeAny (model l.prog w) callerA (.call (.ref fa) ⟨[.ref a], []⟩) (fun r s' => r = .ok (.ret (.bool true)) ∧ OldK s₁.heap s'.heap ∧ s'.os = s₁.os ∧ AllBare s'.gens) s₁) :
    WalkO q loose XP YP l.row.toRowW d [] (fun f vs => PySem.call f vs) := by
  intro w s₀ s₁ mg mb G Y fa o pm cd doc dV kV ho hd hcd hD hmg hg args vals as hpre hlay hrd hwl hlo
  obtain rfl : dV = .none := Dflts.none hD hdf
  obtain rfl : kV = .none := Dflts.noKw hD
  obtain ⟨a, vs, ns, rfl, rfl, hobj, hints, hlen⟩ := script_of hn hpre hwl
  refine enter_call (codeAny_mono (call w s₀ s₁ mg mb fa o pm cd doc a vs ns G Y ho (fd_plain hd) hcd hmg hobj hints hlen hg) fun r s' hq => ?_)
  obtain ⟨rfl, h2, h3, h4⟩ := hq
  exact ⟨.inl ⟨.bool true, .bool true, [], rfl, fun _ => rfl, .bool true, post_true l _, fun _ => ⟨List.Pairwise.nil, fun _ hm => (nomatch hm)⟩⟩, h2, h3, h4⟩

/-! ### rules over ANY heap (no ledger) from facts about the written part K: the library's own take a ledger (News) for what they write -/
section
variable {prog : Program} {w : World} {A : Around} {E : Value → Shared → Prop} {s : Shared} {K : Frag}

/-! the whole heap as the ledger: makes every rule that writes through a ledger a rule over any heap -/
def ledger (h : Heap) (L d : Addr) : List (Addr × Obj) := (List.range h.objs.size).filterMap fun a => if a = L ∨ a = d then none else (h.get? a).map fun o => (a, o)
end
end Att

namespace L2
open PySem PySem.Spec PyProof.Rows

theorem vals_ints : ∀ {vs : List Value} {ns : List Int}, IntsAre vs ns → Vals (ns.map V.int) vs
  | _, _, .nil => .nil
  | _, _, .cons n t h => .cons ⟨t, rfl⟩ (vals_ints h)

/-- nothing is tracked but the script, known to the object (or it is an object of the module) -/
def Only (H : Hp) : Prop := ∀ b, H b = none ∨ ∃ o xs, H b = some (.frz o (.lst xs))

/-- THE HEAD: the law's promise, at the heap behind the top. F, the promise of the law's def, may use that base is part of the heap (so K.In base, base.Ns mainGlobals mg stand in Mod) -/
theorem law_call {P : Program} {w : World} {K : PySem.W.Frag} {mg mb : Str → Option Value} {CX : CXT} {k : Nat} {fa a : Addr} {fd : FuncData} {x : Str} {sp : Sp} {s₁ : Shared} {vs : List Value} {ns : List Int}
    (KX : K.In s₁.heap) (hns : s₁.heap.Ns mainGlobals mg) (hb : s₁.heap.Ns builtinsNs mb) (hbb : ∀ x : Str, x ≠ "__name__" → mb x = bootBuiltins x) (hlim : s₁.heap.NoLimit) (hg : s₁.gens = #[])
    (ha : s₁.heap.get? a = some { cls := .type "list", data := .seq vs.toArray }) (hi : IntsAre vs ns) (hl : ns.length ≤ sizeLine) (hr : Room k callerA)
    (F : ∀ base : Heap, K.In base → base.Ns mainGlobals mg → FnOk P w K mg base CX k fa fd [x] sp) (hbind : ∀ (s : Shared) (u : Value), BindsTo s fd ⟨[u], []⟩ [(x, u)])
    (hsp : ∀ H : Hp, Only H → SqL K H a (ns.map V.int) → sp [.ref a] H (fun v _ => v = .bl true) fun _ _ _ => False)
    (hCX : ∀ H e s', CX [] H s₁ (fun _ _ _ => False) e s' → False) :
    codeAny (model P w) callerA (.call (.ref fa) ⟨[.ref a], []⟩) (fun r s' => r = .ok (.ret (.bool true)) ∧ OldK s₁.heap s'.heap ∧ s'.os = s₁.os ∧ AllBare s'.gens) s₁ := by
  have rv := vals_ints hi
  have lenV := hi.length
  -- from an abstract heap in which nothing but the script may be tracked
  have core : ∀ H : Hp, Only H → SqL K H a (ns.map V.int) → HOk P w H s₁.heap → (∀ b, H b ≠ none → b = a) → (H a ≠ none → K.lookup a = none) →
      codeAny (model P w) callerA (.call (.ref fa) ⟨[.ref a], []⟩) (fun r s' => r = .ok (.ret (.bool true)) ∧ OldK s₁.heap s'.heap ∧ s'.os = s₁.os ∧ AllBare s'.gens) s₁ := by
    intro H hO hS hok hA hK
    have base_of : ∀ {b : Addr} {o : Obj}, s₁.heap.get? b = some o → H b = none → (hidT s₁.heap H).get? b = some o := fun e n => hidT_get e n
    have noA : ∀ {b : Addr} {o : Obj} {es : Array DictEntry} {ep : Nat}, s₁.heap.get? b = some o → o.data = .dict es ep → H b = none := fun {b o es ep} e d => by
      cases q : H b with
      | none => rfl
      | some u =>
        have e' : b = a := hA b (by rw [q]; simp)
        subst e'
        rw [ha] at e; cases e
        have d' : Data.seq vs.toArray _ = Data.dict es ep := d
        cases d'
    have nsK : ∀ {b : Addr} {m : Str → Option Value}, s₁.heap.Ns b m → (hidT s₁.heap H).Ns b m := fun {b m} ⟨o, es, ep, e, d, r⟩ => ⟨o, es, ep, base_of e (noA e d), d, r⟩
    have hKb : K.In (hidT s₁.heap H) := fun b o e => base_of (KX b o e) (by
      cases q : H b with
      | none => rfl
      | some u =>
        have e' : b = a := hA b (by rw [q]; simp)
        subst e'
        rw [hK (by rw [q]; simp)] at e; cases e)
    have hM : Mod K mg (hidT s₁.heap H) := ⟨hKb, nsK hns, ⟨mb, nsK hb, hbb⟩, let ⟨mc, h1, h2⟩ := hlim; ⟨mc, nsK h1, h2⟩⟩
    have e0 : Env0 P w K mg (hidT s₁.heap H) callerA [] s₁ H := ⟨rfl, hM, fun b o e => of_hidT e, Nat.le_of_eq (hidT_size _ _), trivial, fun b hb => absurd (show b ∈ ([] : List Addr) from hb) (by simp), hok, .of_eq hg⟩
    refine codeAny_mono ((F _ hKb (nsK hns)).run callerA [] s₁ H ⟨[.ref a], []⟩ [.ref a] [.ref a] _ _ hr e0 (hbind s₁ (.ref a)) (.cons rfl .nil) (hsp H hO hS)) fun r s' h => ?_
    cases r with
    | error e => exact (hCX H e s' h).elim
    | ok fl =>
      cases fl with
      | next => exact False.elim h
      | brk => exact False.elim h
      | cont => exact False.elim h
      | ret u =>
        obtain ⟨v, H', os, bare, un, hok', r', q⟩ := h
        have q' : v = .bl true := q
        subst q'
        obtain rfl : u = Value.bool true := r'
        refine ⟨rfl, OldK.of_keep fun b o e => ?_, os, bare⟩
        cases q : H b with
        | none => exact un.keep b o e q (by intro z; exact absurd (show b ∈ ([] : List Addr) from z) (by simp)) (by simp)
        | some u =>
          rcases hO b with z | ⟨ob, xs, z⟩
          · rw [q] at z; cases z
          · have z2 := un.frzs b ob _ z
            obtain ⟨e1, _⟩ := hok b _ z
            obtain ⟨e2, _⟩ := hok' b _ z2
            rw [e] at e1; cases e1
            exact e2
  cases hk : K.lookup a with
  | some o =>
    -- the script is one of the module's own objects
    have e := KX a o hk
    rw [ha] at e
    cases e
    refine core (fun _ => none) (fun _ => .inl rfl) (.inr ⟨_, vs.toArray, _, hk, rfl, rfl, rfl, by rw [List.size_toArray, lenV]; exact hl, by simpa using rv⟩) (fun b u z => by have z' : (none : Option HO) = some u := z; cases z') (fun b z => absurd rfl z) fun z => absurd rfl z
  | none =>
    refine core (fun b => if b = a then some (.frz { cls := .type "list", data := .seq vs.toArray } (.lst (ns.map V.int))) else none) (fun b => ?_) (.inl (.inr ⟨{ cls := .type "list", data := .seq vs.toArray }, if_pos rfl⟩)) (fun b u z => ?_) (fun b z => ?_) fun _ => hk
    · by_cases hb : b = a
      · exact .inr ⟨_, _, if_pos hb⟩
      · exact .inl (if_neg hb)
    · by_cases hb : b = a
      · have z' := (if_pos hb).symm.trans z
        cases z'
        subst hb
        exact ⟨ha, by rw [List.length_map]; exact hl, vs, _, rv, ha⟩
      · have z' := (if_neg hb).symm.trans z
        cases z'
    · by_cases hb : b = a
      · exact hb
      · exact absurd (if_neg hb) z
end L2

namespace L2
open PySem PySem.Spec PyProof.Rows

/-- the goal that k_head leaves (case hc), from the law's promise. F gives the function object fd (K's own) once, then the promise over every base -/
theorem walk_of {l : PySem.W.OpenLaw} {n k : Nat} {q : Program} {loose : List Str} {XP : (Str → Option Value) → Heap → Prop} {YP : World → Heap → Prop} {d : DefRec} {K : Params → PySem.W.Frag} {CX : World → CXT} {sp : World → Sp} {x : Str}
    (hn : l.most = some n) (hn2 : n ≤ sizeLine) (hdf : d.params.defaults = []) (hr : Room k callerA)
    (hY : ∀ (w : World) (h : Heap), YP w h → (K w.params).In h)
    (F : ∀ (w : World) (mg : Str → Option Value) (fa : Addr) (h : Heap), (K w.params).In h → h.Ns mainGlobals mg → mg d.name = some (.ref fa) →
      ∃ fd : FuncData, (∀ (s : Shared) (u : Value), BindsTo s fd ⟨[u], []⟩ [(x, u)]) ∧
        ∀ base : Heap, (K w.params).In base → base.Ns mainGlobals mg → FnOk l.prog w (K w.params) mg base (CX w) k fa fd [x] (sp w))
    (hsp : ∀ (w : World) (H : Hp) (a : Addr) (ns : List Int), ns.length ≤ n → Only H → SqL (K w.params) H a (ns.map V.int) → sp w [.ref a] H (fun v _ => v = .bl true) fun _ _ _ => False)
    (hCX : ∀ (w : World) (H : Hp) (s : Shared) (e : Value) (s' : Shared), CX w [] H s (fun _ _ _ => False) e s' → False) :
    PySem.W.WalkO q loose XP YP l.row.toRowW d [] (fun f vs => PySem.call f vs) := by
  refine Att.attach_call hn hdf fun w s₀ s₁ mg mb fa o pm cd doc a vs ns G Y ho hd hcd hmg hobj hints hlen hg => ?_
  have KX := hY w _ Y
  obtain ⟨fd, hb, hF⟩ := F w mg fa _ KX G.T.g hmg
  exact law_call KX G.T.g G.T.b G.T.builtins G.T.nolimit hg hobj hints (Nat.le_trans hlen hn2) hr hF hb (fun H hO hS => hsp w H a ns hlen hO hS) fun H e s' => hCX w H s₁ e s'
end L2


/-! SHORT WORDS over the layer: a def of the text, its body, what a loop and a test want. -/
namespace L2
open PySem PySem.Spec PyProof.Rows

/-! ### the text by places -/
def defArgs (s : Stmt) : Arguments := match s with
  | .FunctionDef _ a _ _ _ _ _ _ _ _ => a
  | _ => { posonlyargs := [], args := [], vararg := none, kwonlyargs := [], kw_defaults := [], kwarg := none, defaults := [] }
def defBody (s : Stmt) : List Stmt := match s with
  | .FunctionDef _ _ b _ _ _ _ _ _ _ => b
  | _ => []
def defScope (s : Stmt) : Scope := match s with
  | .FunctionDef _ _ _ _ _ _ sc _ _ _ => sc
  | _ => { kind := .function, names := [], isGenerator := false, isCoroutine := false }

/-! ### no exception leaves a def -/
abbrev CX0 : CXT := fun _ _ _ _ _ _ => False
abbrev E0 : XK := fun _ _ _ => False
theorem pass0 {X : Cx} : Passes CX0 X E0 := fun _ _ _ _ _ _ _ h => h.elim

/-! ### a def (or method) of the text as it stands behind the top -/
structure Fun (K : PySem.W.Frag) (x qual : Str) (st : Stmt) (f : Addr) (fd : FuncData) : Prop where
  ex : ∃ (oc : Value) (od : Option Addr) (kV doc pm : Value) (an : Option Addr) (cdv ct : Value) (osl : Array (Option Value)),
    fd = PySem.W.fnOf x qual (defArgs st) (defBody st) (defScope st) .none kV doc pm an cdv ct ∧ K.lookup f = some ⟨oc, od, .func fd, osl⟩ ∧ PySem.W.codeIn K cdv qual = true
  kp : PySem.W.keepIn K (.ref f) = true
section
variable {P : Program} {w : World} {K : PySem.W.Frag} {mg : Str → Option Value} {base : Heap}
/-- THE RULE for a def: its body as a term of rules, and the reading of that term -/
theorem Fun.ok {x qual : Str} {st : Stmt} {f : Addr} {fd : FuncData} {N ps : List Str} {k : Nat} {sp : Sp} (F : Fun K x qual st f fd) (S : FnScope N ps (defScope st)) (len : ∀ vs H Q E, sp vs H Q E → vs.length = ps.length)
    (hbody : ∀ (cdv : Value) (A : Around) (outer : List Env) (s : Shared) (H : Hp) (vs : List V) (Q : VK) (E : XK), Room k (A.deeper (envOfC qual (defScope st) s.heap.objs.size f cdv)) → sp vs H Q E →
      ∃ t, PSs (cxOf CX0 P w K mg base N qual (defScope st) f cdv A outer s H E).nox (defBody st) t ∧ t { nx := fun _ H' => Q .non H', rt := Q } (start N vs) H) : FnOk P w K mg base CX0 (k + 1) f fd ps sp := by
  obtain ⟨oc, od, kV, doc, pm, an, cdv, ct, osl, rfl, lk, hcd⟩ := F.ex
  refine fn_of lk hcd S len fun A outer s H vs Q E hr hsp => ?_
  obtain ⟨t, h, q⟩ := hbody cdv A outer s H vs Q E hr hsp
  exact ⟨t, h.nox, q⟩
/-- how its arguments bind (no defaults): h is «fun _ _ _ _ _ _ us hl => match us, hl with | [_, _], _ => rfl», one _ a parameter -/
theorem Fun.binds {x qual : Str} {st : Stmt} {f : Addr} {fd : FuncData} {ps : List Str} (F : Fun K x qual st f fd)
    (h : ∀ (kV doc pm : Value) (an : Option Addr) (cdv ct : Value) (us : List Value), us.length = ps.length → bindArgs (PySem.W.fnOf x qual (defArgs st) (defBody st) (defScope st) .none kV doc pm an cdv ct) ⟨us, []⟩ = pure (ps.zip us)) : Binds K fd ps [] := by
  obtain ⟨oc, od, kV, doc, pm, an, cdv, ct, osl, rfl, lk, hcd⟩ := F.ex
  exact .all (h kV doc pm an cdv ct)
theorem fun_mk {x qual : Str} {st : Stmt} {f : Addr} {oc : Value} {od an : Option Addr} {osl : Array (Option Value)} {kV doc pm cdv ct : Value} (l : K.lookup f = some ⟨oc, od, .func (PySem.W.fnOf x qual (defArgs st) (defBody st) (defScope st) .none kV doc pm an cdv ct), osl⟩)
    (c : PySem.W.codeIn K cdv qual = true) (k : PySem.W.keepIn K (.ref f) = true) : Fun K x qual st f (PySem.W.fnOf x qual (defArgs st) (defBody st) (defScope st) .none kV doc pm an cdv ct) := ⟨⟨oc, od, kV, doc, pm, an, cdv, ct, osl, rfl, l, c⟩, k⟩
end
/-! ### expressions in short: the name that stands in the i-th slot -/
section
variable {X : Cx}
theorem pv (i : Nat) {x : Str} {pos : Pos} (hN : X.N[i]? = some x := by rfl) (hv : Vis X.env.scope x := by first | exact Or.inl rfl | exact Or.inr (Or.inl rfl) | exact Or.inr (Or.inr rfl)) (hd : (x == ("__debug__" : Str)) = false := by decide)
    (hcd : (x == ("__classdict__" : Str)) = false := by decide) : PE X (.Name x pos) (tVar i) := pe_var hN hv hd hcd
end

/-! ### tests -/
theorem ite2 {c A B : Prop} [Decidable c] (h1 : c → A) (h2 : ¬ c → B) : if c then A else B := by
  by_cases h : c
  · rw [if_pos h]
    exact h1 h
  · rw [if_neg h]
    exact h2 h
/-! ### heaps -/
/-- all that was tracked is as it was -/
def Same (H H' : Hp) : Prop := ∀ b o, H b = some o → H' b = some o
theorem Same.refl (H : Hp) : Same H H := fun _ _ h => h
theorem Same.trans {H H1 H2 : Hp} (a : Same H H1) (b : Same H1 H2) : Same H H2 := fun c o h => b c o (a c o h)
theorem Same.free {H H' : Hp} (e : Same H H') {l : Addr} (h : H' l = Option.none) : H l = Option.none := by
  cases q : H l with
  | none => rfl
  | some o =>
    rw [e l o q] at h
    cases h
theorem Same.seq {K : PySem.W.Frag} {H H' : Hp} {a : Addr} {xs : List V} (e : Same H H') (h : SqL K H a xs) : SqL K H' a xs := by
  rcases h with (h | ⟨o, h⟩) | h
  · exact .inl (.inl (e _ _ h))
  · exact .inl (.inr ⟨o, e _ _ h⟩)
  · exact .inr h

/-! ### a dict's pairs: keys that differ -/
section
variable {κ : Type} [DecidableEq κ]
end
end L2

set_option Elab.async false
set_option linter.all false
set_option maxRecDepth 100000
set_option maxHeartbeats 4000000
namespace L2
open PySem PySem.Spec PyProof.Rows

/-! ### W1. texts as lists of codes -/
abbrev sOf (l : List Nat) : Str := ⟨l.toArray⟩
theorem sOf_len (l : List Nat) : (sOf l).length = l.length := by simp [Str.length, sOf]
theorem sOf_cps (l : List Nat) : (sOf l).cps.toList = l := by simp [sOf]
theorem sOf_append (a b : List Nat) : sOf a ++ sOf b = sOf (a ++ b) := by
  apply PySem.Str.ext'
  rw [PySem.Str.cps_append]
  simp [sOf]
theorem sOf_inj {a b : List Nat} (h : sOf a = sOf b) : a = b := by
  have := congrArg (fun x => x.cps.toList) h
  simpa [sOf] using this
theorem of_sOf (x : Str) : x = sOf x.cps.toList := by cases x; simp [sOf]

/-! ### W2. a dict of the text's own, in K -/
def DictK (K : PySem.W.Frag) (w : World) (a : Addr) (kvs : List (Key × V)) : Prop :=
  kvs.length ≤ 1000 ∧ (a == sysModules) = false ∧ (kvs.map (·.1)).Nodup ∧ ∃ (es : Array DictEntry) (ep : Nat), K.lookup a = some { cls := .type "dict", data := .dict es ep } ∧
    Paired (fun (p : Key × V) (e : DictEntry) => keyIs p.1 e.key = true ∧ e.hash = keyH w p.1 ∧ RelV p.2 e.val) kvs es.toList
theorem paired_keys {P : Program} {w : World} {kvs : List (Key × V)} {es : List DictEntry} (r : Paired (fun (p : Key × V) (e : DictEntry) => keyIs p.1 e.key = true ∧ e.hash = keyH w p.1 ∧ RelV p.2 e.val) kvs es) :
    ∀ e ∈ es, ∃ k, keyIs k e.key = true ∧ e.hash = keyH w k := by
  induction r with
  | nil => intro e h; cases h
  | @cons p e ps es h t ih =>
    intro e' h'
    rcases List.mem_cons.mp h' with rfl | h'
    · exact ⟨p.1, h.1, h.2.1⟩
    · exact ih e' h'
theorem paired_pairs {P : Program} {w : World} {kvs : List (Key × V)} {es : List DictEntry} (r : Paired (fun (p : Key × V) (e : DictEntry) => keyIs p.1 e.key = true ∧ e.hash = keyH w p.1 ∧ RelV p.2 e.val) kvs es) :
    ∃ vs, KV kvs vs ∧ Pairs (mixKind P w) es vs ∧ vs.map (·.1) = kvs.map (·.1) := by
  induction r with
  | nil => exact ⟨[], .nil, .nil, rfl⟩
  | @cons p e ps es h t ih =>
    obtain ⟨vs, h1, h2, h3⟩ := ih
    exact ⟨(p.1, e.val) :: vs, .cons ⟨rfl, h.2.2⟩ h1, .cons h.1 rfl h2, by simp [h3]⟩
theorem DictK.of {P : Program} {w : World} {K : PySem.W.Frag} {a : Addr} {kvs : List (Key × V)} {h : Heap} (d : DictK K w a kvs) (x : K.In h) : (a == sysModules) = false ∧ ∃ vs, KV kvs vs ∧ h.DictOf (mixKind P w) a vs := by
  obtain ⟨hz, hs, nd, es, ep, lk, r⟩ := d
  obtain ⟨vs, h1, h2, h3⟩ := paired_pairs (P := P) r
  refine ⟨hs, vs, h1, _, es, ep, x _ _ lk, ⟨rfl, rfl, rfl⟩, rfl, fun e he => paired_keys (P := P) r e (by simpa using he), h2, by rw [h3]; exact nd⟩
section
variable {X : Cx} {o i e : Expr} {pos : Pos} {td ty : TE}
/-- d[y], d in K -/
def tDGetK (K : PySem.W.Frag) (w : World) (td ty : TE) : TE := fun σ H Q => td σ H fun x H1 => ty σ H1 fun y H2 => ∃ a kvs k v, x = .ref a ∧ DictK K w a kvs ∧ y = kV k ∧ valV kvs k = some v ∧ Q v H2
theorem pe_dgetK (ho : PE X o td) (hi : PE X i ty) (hs : NoSl i) : PE X (.Subscript o i pos) (tDGetK X.K X.w td ty) := by
  intro pins s σ H Q I h
  refine subD_of PySem.F.slot_dict_getitem.lookup hs (thn (ho pins s σ H _ I h) fun u s1 ⟨x, H1, I1, rx, q1⟩ => thn (hi pins s1 σ H1 _ I1 q1) fun iv s2 ⟨y, H2, I2, ry, a, kvs, k, v, ex, dk, ey, ev, q2⟩ => ?_)
  subst ex ey
  obtain rfl : u = Value.ref a := rx
  obtain ⟨hd, vs, rel, dd⟩ := dk.of (P := X.prog) I2.kIn
  refine ⟨dd.typeIs, ?_⟩
  obtain ⟨w', hw, rw'⟩ := RelO.some_of (v := v) (o := valueAt vs k) (by rw [← ev]; exact rel.val k)
  exact wpAny_getItem_of (kV_is ry) dd.mapOf hw ⟨v, H2, I2.tok _, rw', q2⟩
/-- y in d, y not in d, d in K -/
def tDInK (K : PySem.W.Frag) (w : World) (f : Bool → Bool) (ty td : TE) : TE := fun σ H Q => ty σ H fun y H1 => td σ H1 fun x H2 => ∃ a kvs k, x = .ref a ∧ DictK K w a kvs ∧ y = kV k ∧ Q (.bl (f (valV kvs k).isSome)) H2
end

/-! ### W3. texts: index, slice, times, join, order -/
section
variable {X : Cx}
/-- x is True | False | None, x a scalar or an object -/
theorem op_is_bl : OpR X (compareOp .Is) (fun x y H Q => ∃ c, y = .bl c ∧ Q (.bl (decide (x = .bl c))) H) := by
  intro pins s σ H x y v u Q I rx ry h
  obtain ⟨c, rfl, q⟩ := h
  cases ry
  cases x with
  | bl b => cases rx; exact is_bool (fin_bl I q (by cases b <;> cases c <;> simp))
  | non => cases rx; exact wpAny_pure (fin_bl I q (by simp))
  | int i => obtain ⟨t, rfl⟩ := rx; exact wpAny_pure (fin_bl I q (by simp))
  | str i => obtain ⟨t, rfl⟩ := rx; exact wpAny_pure (fin_bl I q (by simp))
  | byt i => obtain ⟨t, rfl⟩ := rx; exact wpAny_pure (fin_bl I q (by simp))
  | flt i => obtain ⟨t, rfl⟩ := rx; exact wpAny_pure (fin_bl I q (by simp))
  | ref a => cases rx; exact wpAny_pure (fin_bl I q (by simp))
  | ty a => cases rx; exact wpAny_pure (fin_bl I q (by simp))
/-- x * n, x of one sign -/
theorem op_mul_str : OpR X (binaryOp .Mult) (fun x y H Q => ∃ c n, x = .str (sOf [c]) ∧ y = .int n ∧ 0 ≤ n ∧ n ≤ 100000 ∧ Q (.str (sOf (List.replicate n.toNat c))) H) := by
  intro pins s σ H x y v u Q I rx ry h
  obtain ⟨c, n, rfl, rfl, h0, h1, q⟩ := h
  obtain ⟨t, rfl⟩ := rx
  obtain ⟨t', rfl⟩ := ry
  have hl : (sOf [c]).length = 1 := sOf_len [c]
  refine SB.mul ?_ fun t' k => ?_
  · refine ⟨?_, fun _ _ => ?_, fun _ _ => ?_⟩
    · have e1 : decide (n < -(2 ^ 63 : Int)) = false := decide_eq_false (by omega)
      have e2 : decide (n ≥ 2 ^ 63) = false := decide_eq_false (by omega)
      rw [e1, e2]; rfl
    · rw [hl]
      have h2 : 1 ≤ n := by omega
      have : (1 : Int) ≤ (2 ^ 63 - 1) / n := (Int.le_ediv_iff_mul_le (by omega)).mpr (by omega)
      omega
    · rw [hl]
      unfold Builtin.Str.tooLong
      have := sizeLine_eq
      simp
      omega
  · have e : Txt.mul (sOf [c]) n = sOf (List.replicate n.toNat c) := by
      rw [of_sOf (Txt.mul (sOf [c]) n)]
      show sOf ((Txt.mul ⟨#[c]⟩ n).cps.toList) = _
      rw [mul_one_list]
    exact ⟨.str _, H, I.tok _, ⟨t', rfl⟩, by rw [e]; exact q⟩
end
end L2

set_option Elab.async false
set_option linter.all false
set_option maxRecDepth 100000
set_option maxHeartbeats 4000000
namespace L2
open PySem PySem.Spec PyProof.Rows
section
variable {X : Cx}
def cutN (l : List Nat) (lo hi : Option Int) : List Nat := (l.drop (HT.sIx l.length 0 lo)).take (HT.sIx l.length l.length hi - HT.sIx l.length 0 lo)
theorem str_bounds (lo hi : Option Int) (n : Nat) : Builtin.Str.strSliceIndices lo hi 1 n = sliceRange ((HT.sIx n 0 lo : Nat) : Int) ((HT.sIx n n hi : Nat) : Int) 1 := by
  unfold Builtin.Str.strSliceIndices
  have e1 : (match lo with | none => (0 : Int) | some i => max 0 (min (if i < 0 then i + (n : Int) else i) n)) = ((HT.sIx n 0 lo : Nat) : Int) := by
    cases lo with
    | none => simp [HT.sIx]
    | some i => simp only [HT.sIx]; by_cases h : i < 0 <;> simp only [h, if_true, if_false] <;> omega
  have e2 : (match hi with | none => (n : Int) | some i => max 0 (min (if i < 0 then i + (n : Int) else i) n)) = ((HT.sIx n n hi : Nat) : Int) := by
    cases hi with
    | none => simp [HT.sIx]
    | some i => simp only [HT.sIx]; by_cases h : i < 0 <;> simp only [h, if_true, if_false] <;> omega
  simp only [show (1 : Int) > 0 by decide, if_true]
  rw [← e1, ← e2]
  cases lo <;> cases hi <;> rfl
theorem slice_cut (l : List Nat) (lo hi : Option Int) : Txt.slice (sOf l) lo hi = sOf (cutN l lo hi) := by
  have hn : (sOf l).length = l.length := sOf_len l
  have hk : (Builtin.Str.strSliceIndices lo hi 1 l.length).filterMap ((sOf l).cps[·]?) = cutN l lo hi := by
    rw [str_bounds, sliceRange_one, pick_run]
    simp [cutN]
  have hlen : (Builtin.Str.strSliceIndices lo hi 1 l.length).length = (cutN l lo hi).length := by
    rw [str_bounds, sliceRange_one]
    have h1 := HT.sIx_le l.length 0 (Nat.zero_le _) lo
    have h2 := HT.sIx_le l.length l.length (Nat.le_refl _) hi
    simp [cutN]
    omega
  unfold Txt.slice
  rw [hn]
  split
  · rename_i h
    have h : (Builtin.Str.strSliceIndices lo hi 1 l.length).length = l.length := by simpa using h
    have hl := hlen.symm.trans h
    have e : cutN l lo hi = l := by
      have h3 : (cutN l lo hi).length ≤ (l.drop (HT.sIx l.length 0 lo)).length := by unfold cutN; simp; omega
      have h4 : HT.sIx l.length 0 lo = 0 ∨ l.length = 0 := by
        rw [List.length_drop] at h3; omega
      rcases h4 with h4 | h4
      · unfold cutN at hl ⊢
        rw [h4] at hl ⊢
        rw [List.drop_zero] at hl ⊢
        rw [List.length_take] at hl
        exact List.take_of_length_le (by omega)
      · have : l = [] := List.length_eq_zero_iff.mp h4
        subst this
        simp [cutN]
    rw [e]
  · rw [hk]
theorem sl_str : SlR X (fun x lo hi H Q => ∃ l, x = .str (sOf l) ∧ l.length ≤ sizeLine ∧ Q (.str (sOf (cutN l lo hi))) H) := by
  intro pins s σ H x v vl vu lo hi sl Q I rx hs pl pu h
  obtain ⟨l, rfl, hz, q⟩ := h
  obtain ⟨t, rfl⟩ := rx
  obtain ⟨a1, rfl, e1⟩ : ∃ a : Option (Int × Tok), vl = partValue a ∧ a.map (·.1) = lo := by
    cases pl with
    | none => exact ⟨none, rfl, rfl⟩
    | int i t => exact ⟨some (i, t), rfl, rfl⟩
  obtain ⟨a2, rfl, e2⟩ : ∃ a : Option (Int × Tok), vu = partValue a ∧ a.map (·.1) = hi := by
    cases pu with
    | none => exact ⟨none, rfl, rfl⟩
    | int i t => exact ⟨some (i, t), rfl, rfl⟩
  have hle : (Txt.slice (sOf l) lo hi).length ≤ sizeLine := Nat.le_trans (Txt.slice_le _ _ _) (by rw [sOf_len]; exact hz)
  refine ⟨"str", _, PySem.F.slot_str_getitem.lookup, typeIs_str _ _ _, wpAny_getItem_str_slice (l := a1) (u := a2) (st := none) hs rfl ?_⟩
  subst e1 e2
  refine post_val_or_str ⟨hle, fun t' k => ⟨.str _, H, I.tok _, ⟨t', rfl⟩, ?_⟩⟩
  have := slice_cut l (a1.map (·.1)) (a2.map (·.1))
  unfold Txt.slice at this
  show Q (.str (if _ then _ else _)) H
  exact this ▸ q
/-- the place of a sign in a text -/
theorem mt_index (hc : X.calm = true) : MtR X "str.index" (fun x xs H Q => ∃ a b, x = .str a ∧ xs = [.str b] ∧ 0 ≤ Txt.find a b ∧ Q (.int (Txt.find a b)) H) := by
  intro pins s σ H x xs v us Q I rx rs h
  obtain ⟨a, b, rfl, rfl, h0, q⟩ := h
  obtain ⟨t, rfl⟩ := rx
  obtain ⟨u, rfl, t', rfl⟩ := vals1 rs
  refine index_or (I.ok.hd hc) (fun e => ?_) fun _ _ => ⟨.int _, H, I.tok _, ⟨_, rfl⟩, q⟩
  omega
theorem strsAre_of {ys : List (List Nat)} : ∀ {us : List Value}, Vals (ys.map fun y => V.str (sOf y)) us → StrsAre us (ys.map sOf) := by
  induction ys with
  | nil => intro us r; cases r; exact .nil
  | cons y ys ih =>
    intro us r
    cases r with
    | cons r1 r2 =>
      obtain ⟨t, e⟩ := r1
      subst e
      exact .cons _ t (ih r2)
theorem join_empty (ys : List (List Nat)) : Txt.join (sOf []) (ys.map sOf) = sOf ys.flatten := by
  have key : ∀ (r : List (List Nat)) (acc : List Nat), (r.map sOf).foldl (fun acc p => acc ++ (sOf []).cps ++ p.cps) acc.toArray = (acc ++ r.flatten).toArray := by
    intro r
    induction r with
    | nil => intro acc; simp
    | cons a r ih =>
      intro acc
      rw [List.map_cons, List.foldl_cons, List.flatten_cons, ← List.append_assoc, ← ih (acc ++ a)]
      simp [sOf]
  cases ys with
  | nil => rfl
  | cons a r =>
    show Str.mk (((r.map sOf)).foldl (fun acc p => acc ++ (sOf []).cps ++ p.cps) a.toArray) = _
    rw [key]
    rfl
theorem mt_join : MtR X "str.join" (fun x xs H Q => ∃ (p : Addr) (ys : List (List Nat)), x = .str (sOf []) ∧ xs = [.ref p] ∧ SqL X.K H p (ys.map fun y => V.str (sOf y)) ∧ ys.flatten.length ≤ 100000 ∧ Q (.str (sOf ys.flatten)) H) := by
  intro pins s σ H x xs v us Q I rx rs h
  obtain ⟨p, ys, rfl, rfl, hp, hl, q⟩ := h
  obtain ⟨t, rfl⟩ := rx
  obtain ⟨u, rfl, r1⟩ := vals1 rs
  cases r1
  obtain ⟨its, r, pl, hz⟩ := I.list hp
  refine join_list pl.isList (by simpa using strsAre_of r) ?_ fun t' k => ⟨.str _, H, I.tok _, ⟨t', rfl⟩, by rw [join_empty]; exact q⟩
  have e : ((ys.map sOf).map (·.length)).sum = ys.flatten.length := by
    rw [List.map_map, List.length_flatten]
    congr 1
    all_goals exact List.map_congr_left fun y _ => sOf_len y
  have e2 : (sOf []).length = 0 := sOf_len []
  rw [e, e2]
  omega
theorem call_isinst : CallR X (.builtin "isinstance") (fun xs H Q => ∃ x T t b, xs = [x, .ty T] ∧ TyOf X.K H x t ∧ PySem.W.kitOne X.K t (.type T) = some b ∧ Q (.bl b) H) := by
  intro pins s σ H xs us Q I r h
  obtain ⟨x, T, t, b, rfl, ty, e, q⟩ := h
  obtain ⟨u, w', rfl, rx, rT⟩ := vals2 r
  obtain rfl : w' = .type T := rT
  exact isinst_ok I rx ty e fun tk => ⟨.bl b, H, I.tok _, rfl, q⟩
/-! a text's signs -/
def Its (l : List Nat) : It := ⟨fun i _ => i < l.length, fun i H x H' => H' = H ∧ ∃ c, l[i]? = some c ∧ x = .str (sOf [c]), fun i _ => l.length ≤ i⟩
def iStr (tl : TE) : TI := fun σ H R => tl σ H fun x H1 => ∃ l, x = .str (sOf l) ∧ R (Its l) H1
end
/-- an iterator by Walks that is no owner of a tuple -/
theorem turn_str {P : Program} {w : World} {K : PySem.W.Frag} {tg : Expr} (l : List Nat) (it : Addr) (ty : String) (t : Tok) (hty : ty = "str_ascii_iterator" ∨ ty = "str_iterator")
    (W : ∀ A' : Around, A'.handled = none → Walks P w A' it [it] [it] l.length (SignAt (sOf l)) (fun i h => h.IsStrIter it ty (sOf l) t i)) :
    Turn P w K tg (Its l) [it] it (fun i h => i ≤ l.length ∧ h.IsStrIter it ty (sOf l) t i) where
  mem := by simp
  obj := fun i h st b hb => by
    have e : b = it := by simpa using hb
    subst e
    obtain ⟨_, o, e, c, d⟩ := st
    exact ⟨o, e, fun v z => by rw [d] at z; cases z⟩
  keep := fun i h h' st k => ⟨st.1, by obtain ⟨o, e, r⟩ := st.2; exact ⟨o, k it (by simp) o e, r⟩⟩
  item := by
    intro X hP hw hK hc i pins s σ H E I hf st hg
    subst hP hw hK
    obtain ⟨f0, f1, f2, f3, f4, f5⟩ := hf it (by simp)
    refine (W X.A (I.ok.hd hc)).item i s _ _ hg st.2 fun v h' tk hv st' kk => ?_
    obtain ⟨c, u, hc', rfl⟩ := hv
    have I1 : Inv X pins σ H { s with heap := h', toks := tk } := I.turned (fun b o hb e => kk b o (by simpa using hb) e) f0 f1 f3 f4 f5
    obtain ⟨o, e, c1, d⟩ := id st'
    refine ⟨_, rfl, go_of (s := { s with heap := h', toks := tk }) (n := ty) e c1 d (by rcases hty with rfl | rfl <;> decide) ⟨.str (sOf [c]), H, I1, ⟨u, rfl⟩, ⟨rfl, c, ?_, rfl⟩, ⟨hg, st'⟩, fun b hb => (hf b hb).1⟩⟩
    simpa [sOf] using hc'
  done := by
    intro X hP hw hK hc i pins s σ H E I hf st hg
    subst hP hw hK
    obtain ⟨f0, f1, f2, f3, f4, f5⟩ := hf it (by simp)
    have e : i = l.length := Nat.le_antisymm st.1 hg
    subst e
    exact (W X.A (I.ok.hd hc)).done s _ _ st.2 fun h' tk kk => ⟨rfl, I.turned (fun b o hb e => kk b o (by simpa using hb) e) f0 f1 f3 f4 f5⟩
  self := fun A i s Q E st h => by
    rcases hty with rfl | rfl
    · exact wpAny_pyIter_striter_ascii st.2 h
    · exact wpAny_pyIter_striter_wide st.2 h
theorem pi_str {X : Cx} {tg l : Expr} {tl : TE} (hl : PE X l tl) : PI X tg l (iStr tl) := by
  intro pins s σ H R I h
  refine thn (hl pins s σ H _ I h) fun v s1 ⟨x, H1, I1, r1, q1⟩ => ?_
  obtain ⟨y, e, q⟩ := q1
  subst e
  obtain ⟨t, rfl⟩ := r1
  have hn : (sOf y).cps.size = y.length := by simp [sOf]
  have fin : ∀ (ob : Obj) (ty : String), (ty = "str_ascii_iterator" ∨ ty = "str_iterator") → (∀ A' : Around, A'.handled = none → Walks X.prog X.w A' s1.heap.objs.size [s1.heap.objs.size] [s1.heap.objs.size] y.length (SignAt (sOf y)) (fun i h => h.IsStrIter s1.heap.objs.size ty (sOf y) t i)) →
      (s1.heap.push ob).IsStrIter s1.heap.objs.size ty (sOf y) t 0 → PIE X pins σ tg R (.ref s1.heap.objs.size) { s1 with heap := s1.heap.push ob } := fun ob ty hty W st => by
    refine ⟨s1.heap.objs.size, [s1.heap.objs.size], _, _, H1, rfl, I1.kept (t' := s1.toks) fun b o e => Heap.get?_push_of_some _ e, turn_str y _ ty t hty W, ⟨Nat.zero_le _, st⟩, fun b hb => ?_, q⟩
    have e : b = s1.heap.objs.size := by simpa using hb
    subst e
    exact I1.fpOk (Nat.le_refl _) (I1.hok.fresh (Nat.le_refl _))
  cases ha : (sOf y).cps.all (· < 128)
  · exact wpAny_pyIter_wide ha (fin _ "str_iterator" (.inr rfl) (fun A' hA => hn ▸ Walks.strWide hA _ (sOf y) t) ⟨_, Heap.get?_push_size _ rfl, rfl, rfl⟩)
  · exact wpAny_pyIter_ascii ha (fin _ "str_ascii_iterator" (.inl rfl) (fun A' hA => hn ▸ Walks.strAscii hA _ (sOf y) t) ⟨_, Heap.get?_push_size _ rfl, rfl, rfl⟩)
theorem for_str {l : List Nat} {g : TG} {tb : TS} {D : Ends} {σ : St} {H : Hp} (Pv : Nat → St → Hp → Prop) (h0 : Pv 0 σ H)
    (hs : ∀ i c σ H, l[i]? = some c → Pv i σ H → g (.str (sOf [c])) σ H fun σ2 H2 => tb { D with nx := Pv (i + 1), ct := Pv (i + 1), bk := D.nx } σ2 H2) (hd : ∀ σ H, Pv l.length σ H → D.nx σ H) :
    ∃ W : Nat → Nat → St → Hp → Prop, (∃ m, W 0 m σ H) ∧ ∀ i m σ H, W i m σ H →
      ((Its l).stop i H ∧ D.nx σ H) ∨ ((Its l).go i H ∧ ∃ N : St → Hp → Prop, (∀ σ' H', N σ' H' → ∃ m', m' < m ∧ W (i + 1) m' σ' H') ∧ ∀ x H', (Its l).yld i H x H' → g x σ H' fun σ2 H2 => tb { D with nx := N, ct := N, bk := D.nx } σ2 H2) := by
  refine ⟨fun i m σ H => m = l.length - i ∧ i ≤ l.length ∧ Pv i σ H, ⟨l.length, by simp, Nat.zero_le _, h0⟩, ?_⟩
  rintro i m σ H ⟨rfl, hi, p⟩
  by_cases hlt : i < l.length
  · refine .inr ⟨hlt, Pv (i + 1), fun σ' H' p' => ⟨l.length - (i + 1), by omega, rfl, hlt, p'⟩, fun x H' y => ?_⟩
    obtain ⟨e, c, y, z⟩ := y
    subst e z
    exact hs i c σ _ y p
  · have e : i = l.length := by omega
    subst e
    exact .inl ⟨Nat.le_refl _, hd σ H p⟩
end L2

set_option Elab.async false
set_option linter.all false
set_option maxRecDepth 100000
set_option maxHeartbeats 4000000
namespace L2
open PySem PySem.Spec PyProof.Rows

/-! ### W4. a list comprehension with one clause -/
def closeOf (env : Env) : List (Str × NameKind) → List (Str × Addr) → List (Str × Addr)
  | [], acc => acc
  | (n, k) :: r, acc => closeOf env r (if (k == .free) = true then (n, (env.cells.lookup n).getD 0) :: acc else acc)
theorem closureFor_eq {scope : Scope} {env : Env} (h : ∀ x ∈ scope.names, x.2 = .free → ∃ c, env.cells.lookup x.1 = some c) : closureFor scope env = pure (closeOf env scope.names []) := by
  simp only [closureFor]
  have key : ∀ (names : List (Str × NameKind)) (acc : List (Str × Addr)), (∀ x ∈ names, x.2 = .free → ∃ c, env.cells.lookup x.1 = some c) →
      (forIn names acc fun (x : Str × NameKind) (cs : List (Str × Addr)) => if (x.2 == .free) = true then (do let a ← cellOf env x.1; pure (ForInStep.yield ((x.1, a) :: cs))) else pure (ForInStep.yield cs)) = (pure (closeOf env names acc) : Sem _) := by
    intro names
    induction names with
    | nil => intro acc _; rfl
    | cons x r ih =>
      intro acc hx
      obtain ⟨n, k⟩ := x
      rw [List.forIn_cons]
      have hr : ∀ y ∈ r, y.2 = .free → ∃ c, env.cells.lookup y.1 = some c := fun y hy => hx y (List.mem_cons_of_mem _ hy)
      unfold closeOf
      by_cases hk : (k == NameKind.free) = true
      · obtain ⟨c, hc⟩ := hx (n, k) List.mem_cons_self (by simpa using hk)
        have hc : env.cells.lookup n = some c := hc
        simp only [hk, if_true]
        unfold cellOf
        simp only [hc, Option.getD_some]
        exact ih _ hr
      · simp only [hk, if_false]
        exact ih _ hr
  have := key scope.names [] h
  rw [this]
  rfl
theorem closeOf_lookup {env : Env} {x : Str} {c : Addr} : ∀ (names : List (Str × NameKind)) (acc : List (Str × Addr)), (∀ y ∈ names, y.2 = .free → ∃ c, env.cells.lookup y.1 = some c) → (closeOf env names acc).lookup x = some c →
    ((x, NameKind.free) ∈ names ∧ env.cells.lookup x = some c) ∨ acc.lookup x = some c
  | [], _, _, h => .inr h
  | (n, k) :: r, acc, hx, h => by
    unfold closeOf at h
    rcases closeOf_lookup r _ (fun y hy => hx y (List.mem_cons_of_mem _ hy)) h with ⟨q1, q2⟩ | q
    · exact .inl ⟨List.mem_cons_of_mem _ q1, q2⟩
    · by_cases hk : (k == NameKind.free) = true
      · rw [if_pos hk] at q
        have hk' : k = .free := by simpa using hk
        subst hk'
        rw [List.lookup_cons] at q
        cases hb : x == n with
        | true =>
          rw [hb] at q
          have e : x = n := beq_iff_eq.mp hb
          subst e
          obtain ⟨c', hc⟩ := hx (x, .free) List.mem_cons_self rfl
          have hc : env.cells.lookup x = some c' := hc
          rw [hc] at q
          simp at q
          subst q
          exact .inl ⟨List.mem_cons_self, hc⟩
        | false => rw [hb] at q; exact .inr q
      · rw [if_neg hk] at q; exact .inr q
theorem closeOf_acc {env : Env} {x : Str} {c : Addr} : ∀ (names : List (Str × NameKind)) (acc : List (Str × Addr)), acc.lookup x = some c → env.cells.lookup x = some c → (closeOf env names acc).lookup x = some c
  | [], _, h, _ => h
  | (n, k) :: r, acc, h, he => by
    unfold closeOf
    refine closeOf_acc r _ ?_ he
    by_cases hk : (k == NameKind.free) = true
    · rw [if_pos hk, List.lookup_cons]
      cases hb : x == n with
      | true =>
        have e : x = n := beq_iff_eq.mp hb
        subst e
        simp [he]
      | false => exact h
    · rw [if_neg hk]; exact h
theorem closeOf_has {env : Env} {x : Str} {c : Addr} : ∀ (names : List (Str × NameKind)) (acc : List (Str × Addr)), (x, NameKind.free) ∈ names → env.cells.lookup x = some c → (closeOf env names acc).lookup x = some c
  | (n, k) :: r, acc, h, he => by
    unfold closeOf
    rcases List.mem_cons.mp h with e | h
    · cases e
      exact closeOf_acc r _ (by simp [he]) he
    · exact closeOf_has r _ h he
theorem cellsFrom_app : ∀ (names : List (Str × NameKind)) (n : Nat) (acc : List (Str × Addr)), cellsFrom n names acc = cellsFrom n names [] ++ acc
  | [], _, _ => rfl
  | (x, k) :: r, n, acc => by
    unfold cellsFrom
    split
    · rw [cellsFrom_app r _ ((x, n) :: acc), cellsFrom_app r _ [(x, n)], List.append_assoc]; rfl
    · exact cellsFrom_app r n acc
theorem cellsFrom_names : ∀ (names : List (Str × NameKind)) (n : Nat) {x : Str} {c : Addr}, (x, c) ∈ cellsFrom n names [] → (x, NameKind.cell) ∈ names
  | [], _, _, _, h => by cases h
  | (y, k) :: r, n, x, c, h => by
    unfold cellsFrom at h
    split at h
    · rename_i hk
      rw [cellsFrom_app] at h
      rcases List.mem_append.mp h with h | h
      · exact List.mem_cons_of_mem _ (cellsFrom_names r _ h)
      · have e : (x, c) = (y, n) := by simpa using h
        cases e
        have hk' : k = .cell := by simpa using hk
        subst hk'
        exact List.mem_cons_self
    · exact List.mem_cons_of_mem _ (cellsFrom_names r _ h)
theorem newCompEnv {M : Model} {A : Around} {E : Value → Shared → Prop} {s : Shared} {scope : Scope} {env : Env} {cl : List (Str × Addr)} {Q : Env → Shared → Prop}
    (hQ : Q (newEnv scope s.heap.objs.size env.globals (cellsFrom (s.heap.objs.size + 1) scope.names cl) env.qual none .none (some env) builtinsNs) { s with heap := pushCells (s.heap.push { cls := .type "dict", data := .dict #[] }) scope.names }) :
    wpAny M A (newFunctionEnv scope env.globals cl [] env.qual none .none (some env)) Q E s := by
  simp only [newFunctionEnv, Option.isSome_some, if_true]
  refine wpAny_bind (wpAny_alloc ?_)
  refine wpAny_bind (wpAny_layCells _ (fun name kind cells => by cases hkc : kind == NameKind.cell <;> simp [hkc]) _ _ _ _ ?_)
  rw [show ({ s with heap := s.heap.push { cls := .type "dict", data := .dict #[] } } : Shared).heap.objs.size = s.heap.objs.size + 1 from Heap.size_push ..]
  simp only [List.forIn_nil]
  exact wpAny_bind (wpAny_pure (wpAny_pure hQ))

section
variable {prog : Program} {w : World} {A : Around} {R : Result → Shared → Prop} {s : Shared}
theorem compLoop_gen {elt target iter : Expr} {ifs : List Expr} {scope : Scope} {pos : Pos} {it acc : Value} {env : Env} (I : Nat → Shared → Prop)
    (turn : ∀ n s, I n s → wpAny (model prog w) A (pyNext it) (fun r s₁ => match r with
      | none => R (.ok .next) s₁
      | some v => wpAny (model prog w) A (letOwnedTupleGo target it v) (fun _ s₁' => wpAny (model prog w) A (assign target env v) (fun _ s₂ =>
          wpAny (model prog w) A (forIn ifs true fun c r => if r = true then do let ok ← isTrue c env (eval c env); pure (ForInStep.yield ok) else pure (ForInStep.yield r)) (fun ok s₃ =>
            if ok = true then wpAny (model prog w) A (eval elt env) (fun x s₄ =>
              wpAny (model prog w) A (call (.builtin "list.append") [acc, x]) (fun _ s₅ => ∃ m, m < n ∧ I m s₅) (fun _ _ => False) s₄) (fun _ _ => False) s₃
            else ∃ m, m < n ∧ I m s₃) (fun _ _ => False) s₂) (fun _ _ => False) s₁') (fun _ _ => False) s₁) (fun _ _ => False) s)
    (n : Nat) (h : I n s) : codeAny (model prog w) A (.compLoop (.ListComp elt [⟨target, iter, ifs, 0⟩] scope pos) 0 it acc env) R s := by
  refine codeAny_loop rfl I (fun n s hI => ?_) n h
  show wpAny _ A ((compTurn (.ListComp elt [⟨target, iter, ifs, 0⟩] scope pos) 0 it acc env).onRaise (fun x => do noteFrame x env; theTreesLotGoes x)) _ _ s
  refine wpAny_noted ?_
  rw [compTurn_list]
  refine wpAny_bind (wpAny_standAt (wpAny_bind (wpAny_mono (turn n s hI) (fun r s₁ h₁ => ?_) fun _ _ h' => h'.elim)))
  cases r with
  | none => exact wpAny_pure h₁
  | some v =>
    refine wpAny_bind (wpAny_mono h₁ (fun _ s₁' h₁' => ?_) fun _ _ h' => h'.elim)
    refine wpAny_bind (wpAny_mono h₁' (fun _ s₂ h₂ => wpAny_bind (wpAny_mono h₂ (fun ok s₃ h₃ => ?_) fun _ _ h' => h'.elim)) fun _ _ h' => h'.elim)
    cases ok with
    | true =>
      rw [if_pos rfl] at h₃
      exact wpAny_bind (wpAny_bind (wpAny_mono h₃ (fun x s₄ h₄ => wpAny_bind (wpAny_mono h₄ (fun _ s₅ h₅ => wpAny_pure (wpAny_pure ⟨rfl, h₅⟩)) fun _ _ h' => h'.elim)) fun _ _ h' => h'.elim))
    | false =>
      rw [if_neg Bool.false_ne_true] at h₃
      exact wpAny_pure ⟨rfl, h₃⟩
end

def ownFn (scope : Scope) (x : Str) : Bool := scope.names.lookup x == some .local || scope.names.lookup x == some .cell
/-- the context of a comprehension's block: entered at s with the abstract heap H, its names' dict at C, the iterator's records fp -/
def compCx (X : Cx) (scope : Scope) (N : List Str) (s : Shared) (H : Hp) (C : Addr) (fp : List Addr) : Cx :=
  { X with N := N, s₀ := s, H₀ := H, env := compEnvC scope (cellsFrom (C + 1) scope.names (closeOf X.env scope.names [])) C X.env, outer := X.stack, ex := fp, fn := ownFn scope, pn := [], xe := fun _ _ => False }
/-- names taken from the frame around: none for an own one -/
def capSt (cap : List (Option Nat)) (σ : St) : St := cap.map fun o => o.bind fun j => (σ[j]?).bind id
structure CompScope (X : Cx) (scope : Scope) (N : List Str) (cap : List (Option Nat)) : Prop where
  kind : scope.kind = .function
  nd : N.Nodup
  len : cap.length = N.length
  uniq : (scope.names.map (·.1)).Nodup
  free : ∀ x ∈ scope.names, x.2 = .free → (X.env.kindOf x.1 = some .cell ∨ X.env.kindOf x.1 = some .free)
  cap : ∀ (k : Nat) (x : Str) (j : Nat), N[k]? = some x → cap[k]? = some (some j) → X.N[j]? = some x ∧ (x, NameKind.free) ∈ scope.names
theorem lookup_nodup {α : Type} : ∀ {l : List (Str × α)} {x : Str} {k : α}, (l.map (·.1)).Nodup → (x, k) ∈ l → l.lookup x = some k
  | (y, j) :: r, x, k, nd, h => by
    obtain ⟨n1, n2⟩ := List.nodup_cons.mp (show (y :: r.map (·.1)).Nodup from nd)
    rw [List.lookup_cons]
    rcases List.mem_cons.mp h with e | h
    · cases e; simp
    · have : (x == y) = false := beq_eq_false_iff_ne.mpr fun e => n1 (e ▸ List.mem_map.mpr ⟨(x, k), h, rfl⟩)
      rw [this]
      exact lookup_nodup n2 h
theorem relabel_lookup {env : Env} : ∀ {names : List (Str × NameKind)} {x : Str}, (names.map fun (p : Str × NameKind) => if (p.2 == NameKind.free && env.scope.kind == .function && env.kindOf p.1 == some .cell) = true then (p.1, NameKind.cell) else (p.1, p.2)).lookup x =
    (names.lookup x).map fun k => if (k == NameKind.free && env.scope.kind == .function && env.kindOf x == some .cell) = true then .cell else k
  | [], _ => rfl
  | (n, k) :: r, x => by
    rw [List.map_cons]
    have ih := @relabel_lookup env r x
    by_cases hx : x = n
    · subst hx
      by_cases hc : (k == NameKind.free && env.scope.kind == .function && env.kindOf x == some .cell) = true
      · simp only [hc, if_true, List.lookup_cons, beq_self_eq_true, Option.map_some]
      · rw [if_neg hc, List.lookup_cons, List.lookup_cons, beq_self_eq_true]; simp only [Option.map_some]; rw [if_neg hc]
    · have hb : (x == n) = false := beq_eq_false_iff_ne.mpr hx
      by_cases hc : (k == NameKind.free && env.scope.kind == .function && env.kindOf n == some .cell) = true
      · simp only [hc, if_true, List.lookup_cons, hb]; exact ih
      · rw [if_neg hc, List.lookup_cons, List.lookup_cons, hb]; exact ih
end L2

set_option Elab.async false
set_option linter.all false
set_option maxRecDepth 100000
set_option maxHeartbeats 4000000
namespace L2
open PySem PySem.Spec PyProof.Rows
/-- the tests of a clause, one after another -/
def PTs (X : Cx) (ifs : List Expr) (t : TT) : Prop :=
  ∀ (pins : List (Addr × Obj)) (s : Shared) (σ : St) (H : Hp) (Q : Bool → Hp → Prop), Inv X pins σ H s → t σ H Q →
    wpAny (model X.prog X.w) X.A (forIn ifs true fun c r => if r = true then do let ok ← isTrue c X.env (eval c X.env); pure (ForInStep.yield ok) else pure (ForInStep.yield r)) (TP X pins σ Q) X.xe s
def tYes : TT := fun _ H Q => Q true H
theorem pts_nil {X : Cx} : PTs X [] tYes := fun _ _ _ H _ I h => wpAny_tests_nil ⟨H, I, h⟩
/-- what the first knows the second knows -/
def Keep : St → St → Prop
  | [], _ => True
  | none :: a, _ :: b => Keep a b
  | some v :: a, some u :: b => v = u ∧ Keep a b
  | _, _ => False
theorem Keep.get : ∀ {a b : St} {j : Nat} {v : V}, Keep a b → a[j]? = some (some v) → b[j]? = some (some v)
  | [], _, _, _, _, h => by simp at h
  | none :: a, _ :: b, 0, _, _, h => by simp at h
  | none :: a, _ :: b, j + 1, v, k, h => Keep.get (j := j) (a := a) (b := b) k h
  | some w :: a, some u :: b, 0, v, k, h => by
    have e : w = u := k.1
    subst e
    exact h
  | some w :: a, some u :: b, j + 1, v, k, h => Keep.get (j := j) (a := a) (b := b) k.2 h
  | none :: _, [], _, _, k, _ => k.elim
  | some _ :: _, [], _, _, k, _ => k.elim
  | some _ :: _, none :: _, _, _, k, _ => k.elim
/-- W i m ys H: behind i items, ys taken up so far, m a measure -/
def CompW (cap : List (Option Nat)) (g : TG) (tf : TT) (te : TE) (σ : St) (H1 : Hp) (Q : VK) (J : It) : Prop := ∃ W : Nat → Nat → List V → Hp → Prop, (∃ m, W 0 m [] H1) ∧ ∀ i m ys H, W i m ys H → ys.length < sizeLine ∧
  ((J.stop i H ∧ ∀ D, H D = none → Q (.ref D) (upd H D (.lst ys))) ∨
   (J.go i H ∧ ∃ N : List V → Hp → Prop, (∀ ys' H', N ys' H' → ∃ m', m' < m ∧ W (i + 1) m' ys' H') ∧ ∀ x H', J.yld i H x H' → g x (capSt cap σ) H' fun σ2 H2 => Keep (capSt cap σ) σ2 ∧ tf σ2 H2 fun b H3 => if b = true then te σ2 H3 fun y H4 => N (ys ++ [y]) H4 else N ys H3))
def tComp (cap : List (Option Nat)) (wi : TI) (g : TG) (tf : TT) (te : TE) : TE := fun σ H Q => wi σ H fun J H1 => CompW cap g tf te σ H1 Q J
section
variable {cap : List (Option Nat)} {g : TG} {tf : TT} {te : TE} {σ : St} {H : Hp} {Q : VK}
theorem comp_rng {lo : Int} {n : Nat} (hn : n ≤ 100000) (Pv : Nat → List V → Hp → Prop) (h0 : Pv 0 [] H) (hl : ∀ i ys H, Pv i ys H → ys.length ≤ i)
    (hs : ∀ i ys H, i < n → Pv i ys H → g (.int (lo + i)) (capSt cap σ) H fun σ2 H2 => Keep (capSt cap σ) σ2 ∧ tf σ2 H2 fun b H3 => if b = true then te σ2 H3 fun y H4 => Pv (i + 1) (ys ++ [y]) H4 else Pv (i + 1) ys H3)
    (hd : ∀ ys H, Pv n ys H → ∀ D, H D = none → Q (.ref D) (upd H D (.lst ys))) : CompW cap g tf te σ H Q (Itr lo n) := by
  refine ⟨fun i m ys H => m = n - i ∧ i ≤ n ∧ Pv i ys H, ⟨n, by simp, Nat.zero_le _, h0⟩, ?_⟩
  rintro i m ys H ⟨rfl, hi, p⟩
  refine ⟨by have := hl i ys H p; rw [sizeLine_eq]; omega, ?_⟩
  by_cases hlt : i < n
  · refine .inr ⟨hlt, Pv (i + 1), fun ys' H' p' => ⟨n - (i + 1), by omega, rfl, hlt, p'⟩, fun x H' y => ?_⟩
    obtain ⟨e, y⟩ := y
    subst e y
    exact hs i ys _ hlt p
  · have e : i = n := by omega
    subst e
    exact .inl ⟨Nat.le_refl _, hd ys H p⟩
theorem comp_list {K : PySem.W.Frag} {a : Addr} {xs : List V} (hn : xs.length ≤ 100000) (Pv : Nat → List V → Hp → Prop) (h0 : Pv 0 [] H) (hl : ∀ i ys H, Pv i ys H → ys.length ≤ i ∧ SqL K H a xs)
    (hs : ∀ i x ys H, xs[i]? = some x → Pv i ys H → g x (capSt cap σ) H fun σ2 H2 => Keep (capSt cap σ) σ2 ∧ tf σ2 H2 fun b H3 => if b = true then te σ2 H3 fun y H4 => Pv (i + 1) (ys ++ [y]) H4 else Pv (i + 1) ys H3)
    (hd : ∀ ys H, Pv xs.length ys H → ∀ D, H D = none → Q (.ref D) (upd H D (.lst ys))) : CompW cap g tf te σ H Q (Itl K a) := by
  refine ⟨fun i m ys H => m = xs.length - i ∧ i ≤ xs.length ∧ Pv i ys H, ⟨xs.length, by simp, Nat.zero_le _, h0⟩, ?_⟩
  rintro i m ys H ⟨rfl, hi, p⟩
  refine ⟨by have := (hl i ys H p).1; rw [sizeLine_eq]; omega, ?_⟩
  have hq := (hl i ys H p).2
  by_cases hlt : i < xs.length
  · refine .inr ⟨⟨xs, xs[i], hq, by simp [hlt]⟩, Pv (i + 1), fun ys' H' p' => ⟨xs.length - (i + 1), by omega, rfl, hlt, p'⟩, fun x H' y => ?_⟩
    obtain ⟨e, y⟩ := y
    subst e
    exact hs i x ys _ (y xs hq) p
  · have e : i = xs.length := by omega
    subst e
    exact .inl ⟨⟨xs, hq, Nat.le_refl _⟩, hd ys H p⟩
theorem comp_str {l : List Nat} (hn : l.length ≤ 100000) (Pv : Nat → List V → Hp → Prop) (h0 : Pv 0 [] H) (hl : ∀ i ys H, Pv i ys H → ys.length ≤ i)
    (hs : ∀ i c ys H, l[i]? = some c → Pv i ys H → g (.str (sOf [c])) (capSt cap σ) H fun σ2 H2 => Keep (capSt cap σ) σ2 ∧ tf σ2 H2 fun b H3 => if b = true then te σ2 H3 fun y H4 => Pv (i + 1) (ys ++ [y]) H4 else Pv (i + 1) ys H3)
    (hd : ∀ ys H, Pv l.length ys H → ∀ D, H D = none → Q (.ref D) (upd H D (.lst ys))) : CompW cap g tf te σ H Q (Its l) := by
  refine ⟨fun i m ys H => m = l.length - i ∧ i ≤ l.length ∧ Pv i ys H, ⟨l.length, by simp, Nat.zero_le _, h0⟩, ?_⟩
  rintro i m ys H ⟨rfl, hi, p⟩
  refine ⟨by have := hl i ys H p; rw [sizeLine_eq]; omega, ?_⟩
  by_cases hlt : i < l.length
  · refine .inr ⟨hlt, Pv (i + 1), fun ys' H' p' => ⟨l.length - (i + 1), by omega, rfl, hlt, p'⟩, fun x H' y => ?_⟩
    obtain ⟨e, c, y, z⟩ := y
    subst e z
    exact hs i c ys _ y p
  · have e : i = l.length := by omega
    subst e
    exact .inl ⟨Nat.le_refl _, hd ys H p⟩
end
theorem comp_cells {X : Cx} {scope : Scope} {C : Addr} {x : Str} {c : Addr} (frc : ∀ x ∈ scope.names, x.2 = .free → ∃ c, X.env.cells.lookup x.1 = some c)
    (h : (cellsFrom (C + 1) scope.names (closeOf X.env scope.names [])).lookup x = some c) : (x, c) ∈ cellsFrom (C + 1) scope.names [] ∨ ((x, NameKind.free) ∈ scope.names ∧ X.env.cells.lookup x = some c) := by
  rw [cellsFrom_app, List.lookup_append] at h
  cases e : (cellsFrom (C + 1) scope.names []).lookup x with
  | some d =>
    rw [e] at h
    have h : some d = some c := h
    cases h
    exact .inl (PySem.mem_of_lookup e)
  | none =>
    rw [e] at h
    have h : (closeOf X.env scope.names []).lookup x = some c := h
    rcases closeOf_lookup _ _ frc h with q | q
    · exact .inr q
    · cases q
theorem comp_has {X : Cx} {scope : Scope} {C : Addr} {x : Str} {c : Addr} (uq : (scope.names.map (·.1)).Nodup) (hx : (x, NameKind.free) ∈ scope.names) (hc : X.env.cells.lookup x = some c) :
    (cellsFrom (C + 1) scope.names (closeOf X.env scope.names [])).lookup x = some c := by
  rw [cellsFrom_app, List.lookup_append]
  cases e : (cellsFrom (C + 1) scope.names []).lookup x with
  | some d =>
    have h1 := lookup_nodup uq (cellsFrom_names _ _ (PySem.mem_of_lookup e))
    have h2 := lookup_nodup uq hx
    rw [h1] at h2; cases h2
  | none => exact closeOf_has _ _ hx hc
section
variable {X : Cx} {scope : Scope} {N : List Str} {cap : List (Option Nat)} {pins : List (Addr × Obj)} {σ : St} {H : Hp} {s : Shared} {C : Addr} {fp : List Addr}
theorem compCx_ok {h4 : Heap} (S : CompScope X scope N cap) (I : Inv X pins σ H s) (hC : s.heap.objs.size ≤ C) (ck : CellsOk h4 (C + 1) (cellsFrom (C + 1) scope.names []))
    (hf : ∀ b ∈ fp, FpOk X pins H b) (hlt : ∀ b ∈ fp, b < C) : (compCx X scope N s H C fp).Ok := by
  have frc : ∀ x ∈ scope.names, x.2 = .free → ∃ c, X.env.cells.lookup x.1 = some c := fun x hx hk => I.ok.has x.1 (S.free x hx hk)
  have old : ∀ x c, X.env.cells.lookup x = some c → c < C := fun x c e => by
    obtain ⟨v, q⟩ := I.cell x c e
    exact Nat.lt_of_lt_of_le q.lt hC
  have own : ∀ x c, (x, c) ∈ cellsFrom (C + 1) scope.names [] → C < c := fun x c e => (ck.empty x c e).2
  refine ⟨I.ok.mod, S.kind, I.ok.glob, I.ok.blt, hC, fun x y c h1 h2 => ?_, fun x hx => ?_, fun x c hfn h => ?_, I.ok.hd, I.ok.frames, .inl rfl, fun b hb => ⟨Nat.ne_of_lt (hlt b hb), fun x c h => ?_⟩, I.bs, Nat.le_trans I.ok.bsz I.sz, fun b o e hb => ?_, fun b hb z => ?_, I.stack, I.stkFree⟩
  · rcases comp_cells frc h1 with a | ⟨a1, a2⟩ <;> rcases comp_cells frc h2 with b | ⟨b1, b2⟩
    · exact name_of_addr ck.apart a b
    · exact absurd (Nat.lt_trans (own x c a) (old y c b2)) (Nat.lt_irrefl _)
    · exact absurd (Nat.lt_trans (own y c b) (old x c a2)) (Nat.lt_irrefl _)
    · exact I.ok.inj x y c a2 b2
  · have hx : (relabel scope X.env).names.lookup x = some .cell ∨ (relabel scope X.env).names.lookup x = some .free := hx
    have e : (relabel scope X.env).names.lookup x = _ := relabel_lookup (env := X.env) (names := scope.names) (x := x)
    rw [e] at hx
    cases q : scope.names.lookup x with
    | none => rw [q] at hx; rcases hx with z | z <;> cases z
    | some k =>
      have hm := PySem.mem_of_lookup q
      by_cases hk : k = .free
      · subst hk
        obtain ⟨c, hc⟩ := frc _ hm rfl
        exact ⟨c, comp_has S.uniq hm hc⟩
      · have hk' : (k == NameKind.free) = false := by simpa using hk
        rw [q] at hx
        simp only [Option.map_some, hk', Bool.false_and, Bool.false_eq_true, if_false] at hx
        have hkc : k = .cell := by
          rcases hx with z | z
          · exact Option.some.inj z
          · exact absurd (Option.some.inj z) hk
        subst hkc
        exact Option.isSome_iff_exists.mp (PySem.W.cellsFrom_some scope.names (C + 1) _ (.inl q))
  · rcases comp_cells frc h with a | ⟨a1, a2⟩
    · exact Nat.le_trans hC (Nat.le_of_lt (own x c a))
    · have q := lookup_nodup S.uniq a1
      have z : ownFn scope x = true := hfn
      unfold ownFn at z
      rw [q] at z
      exact absurd z (by decide)
  · rcases comp_cells frc h with a | ⟨a1, a2⟩
    · exact Nat.ne_of_gt (Nat.lt_trans (hlt b hb) (own x c a))
    · exact (hf b hb).2.2.2.2.1 x c a2
  · rcases (hf b hb).2.2.2.1 with z | z
    · exact I.ok.noex b o e z
    · exact absurd (Nat.lt_of_lt_of_le (Nat.lt_of_lt_of_le (Heap.lt_size e) I.ok.bsz) z) (Nat.lt_irrefl _)
  · rcases List.mem_cons.mp (I.stkSub b z) with q | q
    · exact (hf b hb).2.1 q
    · exact (hf b hb).2.2.1 q
theorem comp_start {s4 : Shared} (S : CompScope X scope N cap) (I : Inv X pins σ H s) (hC : s.heap.objs.size ≤ C) (ck : CellsOk s4.heap (C + 1) (cellsFrom (C + 1) scope.names []))
    (hf : ∀ b ∈ fp, FpOk X pins H b) (hlt : ∀ b ∈ fp, b < C) (h4 : ∃ h' tk, s4 = { s with heap := h', toks := tk }) (hn : s4.heap.Ns C fun _ => none) (hk : ∀ b o, s.heap.get? b = some o → s4.heap.get? b = some o) :
    Inv (compCx X scope N s H C fp) [] (capSt cap σ) H s4 := by
  have frc : ∀ x ∈ scope.names, x.2 = .free → ∃ c, X.env.cells.lookup x.1 = some c := fun x hx hk => I.ok.has x.1 (S.free x hx hk)
  obtain ⟨h', tk, rfl⟩ := h4
  refine ⟨compCx_ok S I hC ck hf hlt, rfl, I.bare, Un.kept hk, ⟨_, hn, fun i x v e1 e2 e3 => ?_⟩, fun x c h => ?_, I.hok.fresh hC, fun x c h => ?_, fun p hp => absurd (show p ∈ ([] : List (Addr × Obj)) from hp) (by simp), I.hok.kept hk, ?_⟩
  · have e1 : N[i]? = some x := e1
    unfold capSt at e2
    rw [List.getElem?_map] at e2
    cases q : cap[i]? with
    | none => rw [q] at e2; cases e2
    | some o =>
      cases o with
      | none => rw [q] at e2; cases e2
      | some j =>
        rw [q] at e2
        obtain ⟨hj, hm⟩ := S.cap i x j e1 q
        have e2 : σ[j]?.bind id = some v := Option.some.inj e2
        have e2' : σ[j]? = some (some v) := by
          cases z : σ[j]? with
          | none => rw [z] at e2; cases e2
          | some o => rw [z] at e2; exact congrArg some e2
        have kd := S.free _ hm rfl
        obtain ⟨m, _, hl⟩ := I.loc
        obtain ⟨u, r, lk⟩ := hl j x v hj e2' (by rcases kd with z | z; exact .inr (.inl z); exact .inr (.inr z))
        refine ⟨u, r, .inr ?_⟩
        rcases lk with ⟨z, _⟩ | ⟨_, c, hc, hcell⟩
        · rcases kd with q | q <;> · rw [show X.env.kindOf x = _ from q] at z; cases z
        · refine ⟨?_, c, comp_has S.uniq hm hc, hcell.keeps hk⟩
          have e : (relabel scope X.env).names.lookup x = _ := relabel_lookup (env := X.env) (names := scope.names) (x := x)
          rw [lookup_nodup S.uniq hm] at e
          simp only [Option.map_some] at e
          show (relabel scope X.env).names.lookup x = some .cell ∨ (relabel scope X.env).names.lookup x = some .free
          rw [e]
          split
          · exact .inl rfl
          · exact .inr rfl
  · rcases comp_cells frc h with a | ⟨a1, a2⟩
    · exact ⟨_, (ck.empty x c a).1⟩
    · obtain ⟨v, q⟩ := I.cell x c a2
      exact ⟨v, q.keeps hk⟩
  · rcases comp_cells frc h with a | ⟨a1, a2⟩
    · exact I.hok.fresh (Nat.le_trans hC (Nat.le_of_lt (ck.empty x c a).2))
    · exact I.freeC x c a2
  · show (capSt cap σ).length = N.length
    unfold capSt
    rw [List.length_map, S.len]
end
end L2

set_option Elab.async false
set_option linter.all false
set_option maxRecDepth 100000
set_option maxHeartbeats 4000000
namespace L2
open PySem PySem.Spec PyProof.Rows
abbrev lObj (its : List Value) (k : Nat) : Obj := { cls := .type "list", data := .seq its.toArray k }
section
variable {X : Cx} {scope : Scope} {N : List Str} {cap : List (Option Nat)} {tg iter elt : Expr} {ifs : List Expr} {pos : Pos} {wi : TI} {g : TG} {tf : TT} {te : TE}
theorem comp_core (S : CompScope X scope N cap) (hc : X.calm = true)
    (hg : ∀ s H C fp, PG (compCx X scope N s H C fp) tg g) (hf : ∀ s H C fp, PTs (compCx X scope N s H C fp) ifs tf) (he : ∀ s H C fp, PE (compCx X scope N s H C fp) elt te)
    {pins : List (Addr × Obj)} {σ : St} {H2 : Hp} {s2 : Shared} {it : Addr} {fp : List Addr} {tn : Nat → Heap → Prop} {J : It} {Qv : VK} {E : Value → Shared → Prop} {RR : Value → Addr → Result → Shared → Prop}
    (I2 : Inv X pins σ H2 s2) (T : Turn X.prog X.w X.K tg J fp it tn) (st2 : tn 0 s2.heap) (f2 : ∀ b ∈ fp, FpOk X pins H2 b) {W : Nat → Nat → List V → Hp → Prop} (w0 : ∃ m, W 0 m [] H2)
    (turn : ∀ i m ys H, W i m ys H → ys.length < sizeLine ∧ ((J.stop i H ∧ ∀ D, H D = none → Qv (.ref D) (upd H D (.lst ys))) ∨
      (J.go i H ∧ ∃ N : List V → Hp → Prop, (∀ ys' H', N ys' H' → ∃ m', m' < m ∧ W (i + 1) m' ys' H') ∧ ∀ x H', J.yld i H x H' → g x (capSt cap σ) H' fun σ2 H2 => Keep (capSt cap σ) σ2 ∧ tf σ2 H2 fun b H3 => if b = true then te σ2 H3 fun y H4 => N (ys ++ [y]) H4 else N ys H3)))
    (fin : ∀ (D C : Addr) (σ' : St) (H' : Hp) (s' : Shared) (its : List Value) (k : Nat) (ys : List V), s2.heap.objs.size ≤ D → s2.heap.objs.size ≤ C → D ≠ C → Inv (compCx X scope N s2 H2 C fp) [(D, lObj its k)] σ' H' s' → Vals ys its → ys.length ≤ sizeLine →
      Qv (.ref D) (upd H' D (.lst ys)) → RR (.ref D) C (.ok .next) s') :
    wpAny (model X.prog X.w) X.A (newList []) (fun acc s₃ => wpAny (model X.prog X.w) X.A (newFunctionEnv scope X.env.globals (closeOf X.env scope.names []) [] X.env.qual none .none (some X.env)) (fun cenv s₄ =>
      codeAny (model X.prog X.w) X.A (.compStart (.ListComp elt [⟨tg, iter, ifs, 0⟩] scope pos) 0 (.ref it) acc { cenv with scope := relabel scope X.env }) (RR acc cenv.locals) s₄) E s₃) E s2 := by
  refine wpAny_newObj_type (newCompEnv ?_)
  generalize hD : s2.heap.objs.size = D
  generalize hH3 : s2.heap.push { cls := .type "list", dict := none, data := .seq ([] : List Value).toArray } = h3
  have hz3 : h3.objs.size = D + 1 := by rw [← hH3, Heap.size_push, hD]
  dsimp only
  have eC : ({ s2 with heap := h3 } : Shared).heap.objs.size = D + 1 := hz3
  rw [show h3.objs.size = D + 1 from hz3]
  generalize hH4 : pushCells (h3.push { cls := .type "dict", data := .dict #[] }) scope.names = h4
  have hz3' : (h3.push { cls := .type "dict", data := .dict #[] }).objs.size = D + 1 + 1 := by rw [Heap.size_push, hz3]
  have ck : CellsOk h4 (D + 1 + 1) (cellsFrom (D + 1 + 1) scope.names []) := by
    have := cellsFrom_ok scope.names (h3.push { cls := .type "dict", data := .dict #[] }) (D + 1 + 1) [] ⟨fun _ _ hm => (nomatch hm), List.Pairwise.nil⟩ (by rw [hz3']; exact Nat.le_refl _)
    rw [hz3', hH4] at this
    exact this
  have k23 : ∀ b o, s2.heap.get? b = some o → h3.get? b = some o := fun b o e => by rw [← hH3]; exact Heap.get?_push_of_some _ e
  have k34 : ∀ b o, h3.get? b = some o → h4.get? b = some o := fun b o e => by rw [← hH4]; exact pushCells_keeps _ _ b o (Heap.get?_push_of_some _ e)
  have hD4 : h4.get? D = some (lObj [] 0) := k34 _ _ (by rw [← hH3, ← hD]; exact Heap.get?_push_size _ rfl)
  have hn4 : h4.Ns (D + 1) fun _ => none := by
    rw [← hH4, ← hz3]
    exact (Heap.Ns.new h3 (.type "dict")).keeps (pushCells_keeps _ _)
  have fpD : ∀ b ∈ fp, b < D := fun b hb => by
    obtain ⟨o, e, _⟩ := T.obj _ _ st2 b hb
    rw [← hD]; exact Heap.lt_size e
  have hlt : ∀ b ∈ fp, b < D + 1 := fun b hb => Nat.lt_succ_of_lt (fpD b hb)
  have hDC : s2.heap.objs.size ≤ D + 1 := by rw [hD]; exact Nat.le_succ _
  have hDs : s2.heap.objs.size ≤ D := by rw [hD]; exact Nat.le_refl _
  have IC : Inv (compCx X scope N s2 H2 (D + 1) fp) [] (capSt cap σ) H2 { s2 with heap := h4 } :=
    comp_start S I2 hDC ck f2 hlt ⟨_, _, rfl⟩ hn4 fun b o e => k34 b o (k23 b o e)
  have okC := IC.ok
  have nfs : ∀ {b : Addr}, s2.heap.objs.size ≤ b → b ∉ frs X.stack := fun {b} hb hm => by
    obtain ⟨_, o, ho, _⟩ := I2.stack.mem hm
    exact absurd (Nat.lt_of_lt_of_le (Heap.lt_size ho) hb) (Nat.lt_irrefl _)
  have frc : ∀ x ∈ scope.names, x.2 = .free → ∃ c, X.env.cells.lookup x.1 = some c := fun x hx hk => I2.ok.has x.1 (S.free x hx hk)
  have cellsD : ∀ x c, (compCx X scope N s2 H2 (D + 1) fp).env.cells.lookup x = some c → c ≠ D := fun x c e => by
    rcases comp_cells frc e with a | ⟨_, a⟩
    · have q : D + 1 + 1 ≤ c := (ck.empty x c a).2
      exact Nat.ne_of_gt (Nat.lt_of_lt_of_le (Nat.lt_of_lt_of_le (Nat.lt_succ_self D) (Nat.le_succ _)) q)
    · obtain ⟨v, q⟩ := I2.cell x c a
      have := q.lt
      rw [hD] at this
      exact Nat.ne_of_lt this
  -- the records of the iterator, inside
  have fpO : ∀ {H' : Hp} {its : List Value} {k : Nat}, (∀ b ∈ fp, H' b = none) → ∀ b ∈ fp, FpOk (compCx X scope N s2 H2 (D + 1) fp) [(D, lObj its k)] H' b := fun {H' its k} hn b hb =>
    ⟨hn b hb, Nat.ne_of_lt (hlt b hb), okC.exfs b hb, .inl hb, (okC.exf b hb).2, fun p hp => by
      have e : p = (D, lObj its k) := by simpa [compCx] using hp
      subst e
      exact Nat.ne_of_gt (fpD b hb)⟩
  have pinD : ∀ {σ' : St} {H' : Hp} {s' : Shared} {its : List Value} {k : Nat}, Inv (compCx X scope N s2 H2 (D + 1) fp) [] σ' H' s' → s'.heap.get? D = some (lObj its k) → H' D = none → Inv (compCx X scope N s2 H2 (D + 1) fp) [(D, lObj its k)] σ' H' s' := fun {σ' H' s' its k} J e n =>
    J.pins_of fun p hp => by
      have e' : p = (D, lObj its k) := by simpa using hp
      subst e'
      exact ⟨e, n, Nat.ne_of_lt (Nat.lt_succ_self _), nfs hDs, fun v z => by
        have z' : Data.seq its.toArray k = Data.cell v := z
        cases z'⟩
  have loop : codeAny (model X.prog X.w) X.A (.compLoop (.ListComp elt [⟨tg, iter, ifs, 0⟩] scope pos) 0 (.ref it) (.ref D) (compCx X scope N s2 H2 (D + 1) fp).env) (RR (.ref D) (D + 1)) { s2 with heap := h4 } := by
    obtain ⟨m0, w0⟩ := w0
    refine compLoop_gen (fun n s' => ∃ i ys its k σ' H', Inv (compCx X scope N s2 H2 (D + 1) fp) [(D, lObj its k)] σ' H' s' ∧ tn i s'.heap ∧ (∀ b ∈ fp, H' b = none) ∧ Vals ys its ∧ (∀ (j : Nat) (v : V), (capSt cap σ)[j]? = some (some v) → σ'[j]? = some (some v)) ∧ W i n ys H') ?_ m0
      ⟨0, [], [], 0, capSt cap σ, H2, pinD IC hD4 (I2.hok.fresh hDs), T.keep _ _ _ st2 fun b hb o e => k34 b o (k23 b o e), fun b hb => (f2 b hb).1, .nil, fun _ _ e => e, w0⟩
    rintro n s3 ⟨i, ys, its, k, σ3, H3, I3, st3, fr3, rv, kp, w3⟩
    obtain ⟨hyl, tr⟩ := turn i n ys H3 w3
    have pin3 := I3.pin (D, lObj its k) (List.mem_append_right _ List.mem_cons_self)
    rcases tr with ⟨stop, qn⟩ | ⟨go, NN, hNN, step⟩
    · refine thn (T.done (compCx X scope N s2 H2 (D + 1) fp) rfl rfl rfl hc i _ s3 σ3 H3 _ I3 (fpO fr3) st3 stop) fun r s4 ⟨hr, I4⟩ => ?_
      subst hr
      exact fin D (D + 1) σ3 H3 s4 its k ys hDs hDC (Nat.ne_of_lt (Nat.lt_succ_self _)) I4 rv (Nat.le_of_lt hyl) (qn D pin3.2.1)
    · have I3' : Inv (compCx X scope N s2 H2 (D + 1) fp) [(D, lObj its k)] (capSt cap σ) H3 s3 := I3.weak (by rw [I3.len, IC.len]) kp
      refine thn (T.item (compCx X scope N s2 H2 (D + 1) fp) rfl rfl rfl hc i _ s3 _ H3 _ I3' (fpO fr3) st3 go) fun r s4 ⟨u, hr, h4⟩ => ?_
      subst hr
      refine thn h4 fun _ s5 ⟨x, H5, I5, r5, y5, st5, fr5⟩ => ?_
      have I5' := I5.pinned (fpO fr5) (T.obj _ _ st5)
      refine thn (hg _ _ _ _ _ s5 _ H5 x u _ I5' r5 (step x H5 y5)) fun _ s6 ⟨σ6, H6, I6, kp6, q6⟩ => ?_
      refine thn (hf _ _ _ _ _ s6 σ6 H6 _ I6 q6) fun ok s7 ⟨H7, I7, q7⟩ => ?_
      -- behind the body: the iterator's records and the list are as they were
      have back : ∀ {s8 : Shared} {H8 : Hp}, Inv (compCx X scope N s2 H2 (D + 1) fp) ([(D, lObj its k)] ++ pinsAt fp s5.heap) σ6 H8 s8 → tn (i + 1) s8.heap ∧ (∀ b ∈ fp, H8 b = none) ∧ s8.heap.get? D = some (lObj its k) ∧ H8 D = none := fun {s8 H8} I8 => by
        have at_ : ∀ b ∈ fp, ∀ o, s5.heap.get? b = some o → s8.heap.get? b = some o ∧ H8 b = none := fun b hb o e => by
          have z := I8.pin (b, o) (List.mem_append_right _ (List.mem_append_right _ (mem_pinsAt hb e)))
          exact ⟨z.1, z.2.1⟩
        have pd := I8.pin (D, lObj its k) (List.mem_append_right _ (List.mem_append_left _ List.mem_cons_self))
        refine ⟨T.keep _ _ _ st5 fun b hb o e => (at_ b hb o e).1, fun b hb => ?_, pd.1, pd.2.1⟩
        obtain ⟨o, e, d⟩ := T.obj _ _ st5 b hb
        exact (at_ b hb o e).2
      cases ok with
      | false =>
        rw [if_neg Bool.false_ne_true] at q7 ⊢
        obtain ⟨m', hm, w'⟩ := hNN _ _ q7
        obtain ⟨t7, f7, d7, n7⟩ := back I7
        exact ⟨m', hm, i + 1, ys, its, k, σ6, H7, I7.unpinned, t7, f7, rv, fun j v e => Keep.get kp6 e, w'⟩
      | true =>
        rw [if_pos rfl] at q7 ⊢
        refine thn (he _ _ _ _ _ s7 σ6 H7 _ I7 q7) fun y8 s8 ⟨y, H8, I8, r8, q8⟩ => ?_
        obtain ⟨m', hm, w'⟩ := hNN _ _ q8
        obtain ⟨t8, f8, d8, n8⟩ := back I8
        refine append_at (D := D) (its := its.toArray) (n := k) d8 (fun h' hs' hD' => ?_) (by rw [List.size_toArray, ← rv.length]; exact Nat.le_of_lt hyl)
        have J0 : Inv (compCx X scope N s2 H2 (D + 1) fp) [] σ6 H8 s8 := I8.pins_of fun p hp => by cases hp
        have J1 : Inv (compCx X scope N s2 H2 (D + 1) fp) [] σ6 H8 { s8 with heap := h' } := J0.turned (it := D) (t' := s8.toks) (fun b o hb e => (hs'.2 b hb).trans e) n8 (Nat.ne_of_lt (Nat.lt_succ_self _)) (.inr hDs) cellsD fun p hp => by
          have : p ∈ ([] : List (Addr × Obj)) := hp
          cases this
        refine ⟨m', hm, i + 1, ys ++ [y], its ++ [y8], k + 1, σ6, H8, pinD J1 (by simpa using hD') n8, T.keep _ _ _ t8 fun b hb o e => (hs'.2 b (Nat.ne_of_lt (fpD b hb))).trans e, f8, rv.append (.cons r8 .nil), fun j v e => Keep.get kp6 e, w'⟩
  exact codeAny_compStart_list loop (wpAny_mono (T.self _ 0 _ _ _ (T.keep _ _ _ st2 fun b hb o e => k34 b o (k23 b o e)) loop) (fun _ _ h => h) fun _ _ h => h)
end
end L2
namespace L2
open PySem PySem.Spec PyProof.Rows
section
variable {X : Cx} {scope : Scope} {N : List Str} {cap : List (Option Nat)} {tg iter elt : Expr} {ifs : List Expr} {pos : Pos} {wi : TI} {g : TG} {tf : TT} {te : TE}
theorem comp_out {pins : List (Addr × Obj)} {σ σ' : St} {H2 H' : Hp} {s2 s' : Shared} {fp : List Addr} {D C : Addr} {its : List Value} {k : Nat} {ys : List V} {h' : Heap} (I2 : Inv X pins σ H2 s2) (f2 : ∀ b ∈ fp, FpOk X pins H2 b)
    (hD : s2.heap.objs.size ≤ D) (hC : s2.heap.objs.size ≤ C) (hDC : D ≠ C) (I' : Inv (compCx X scope N s2 H2 C fp) [(D, lObj its k)] σ' H' s') (rv : Vals ys its) (hl : ys.length ≤ sizeLine) (hs : Heap.SameBut C s'.heap h') :
    Inv X pins σ (upd H' D (.lst ys)) { s' with heap := h' } := by
  have pd := I'.pin (D, lObj its k) (List.mem_append_right _ List.mem_cons_self)
  have nD : H' D = none := pd.2.1
  have nC : H' C = none := I'.free
  have lt2 : ∀ b o, s2.heap.get? b = some o → b ≠ D ∧ b ≠ C := fun b o e => ⟨Nat.ne_of_lt (Nat.lt_of_lt_of_le (Heap.lt_size e) hD), Nat.ne_of_lt (Nat.lt_of_lt_of_le (Heap.lt_size e) hC)⟩
  have hk : ∀ b o, b ≠ C → s'.heap.get? b = some o → h'.get? b = some o := fun b o hb e => (hs.2 b hb).trans e
  have B : Un (frs X.stack) fp H2 H' s2.heap s'.heap := I'.base
  have tr : ∀ b u, H' b = some u → b ≠ D ∧ b ≠ C := fun b u e => ⟨fun z => (by rw [z, nD] at e; cases e), fun z => (by rw [z, nC] at e; cases e)⟩
  refine I2.call' (ch := fp) I'.os ⟨fun b o e n hb hx => ?_, fun b o e n hb hx => ?_, fun b o e n hx => ?_, fun b o e hx => ?_, fun b xs e => ?_, fun b o u e => ?_, fun b ps e => ?_⟩ (fun b u e => ?_) I'.bare fun b hb => ⟨(f2 b hb).2.2.2.1, (f2 b hb).2.1, (f2 b hb).2.2.2.2.1, (f2 b hb).2.2.2.2.2⟩
  · exact hk b o (lt2 b o e).2 (B.keep b o e n hb hx)
  · obtain ⟨sl, q⟩ := B.slot b o e n hb hx
    exact ⟨sl, hk b _ (lt2 b o e).2 q⟩
  · rw [upd_ne (lt2 b o e).1]; exact B.free b o e n hx
  · obtain ⟨o', q⟩ := B.there b o e hx
    exact ⟨o', hk b _ (lt2 b o e).2 q⟩
  · rw [upd_ne (tr b _ (B.tups b xs e)).1]; exact B.tups b xs e
  · rw [upd_ne (tr b _ (B.frzs b o u e)).1]; exact B.frzs b o u e
  · obtain ⟨more, q⟩ := B.tbls b ps e
    exact ⟨more, by rw [upd_ne (tr b _ q).1]; exact q⟩
  · by_cases hb : b = D
    · subst hb
      rw [upd_same] at e; cases e
      exact ⟨hl, its, k, rv, hk _ _ hDC pd.1⟩
    · rw [upd_ne hb] at e
      refine (I'.hok b u e).stay (fun c w' hc q => hk c w' ?_ q) (fun c q => by rw [upd_ne (tr c _ q).1]; exact q) fun c xs q => by rw [upd_ne (tr c _ q).1]; exact q
      rcases hc with z | z
      · rw [z]; exact (tr b u e).2
      · exact (tr c _ z).2
theorem comp_names (S : CompScope X scope N cap) : ∀ x ∈ scope.names, x.2 = .local → scope.names.lookup x.1 = some .local := fun x hx hl => lookup_nodup S.uniq (by rw [← hl]; exact hx)
/-- [elt for tg in iter if ..] -/
theorem pe_comp (S : CompScope X scope N cap) (hc : X.calm = true) (hi : PI X tg iter wi)
    (hg : ∀ s H C fp, PG (compCx X scope N s H C fp) tg g) (hf : ∀ s H C fp, PTs (compCx X scope N s H C fp) ifs tf) (he : ∀ s H C fp, PE (compCx X scope N s H C fp) elt te)
    (hs : ∀ x, foldedSetIterable iter X.env x = pure x := by intro _; rfl) : PE X (.ListComp elt [⟨tg, iter, ifs, 0⟩] scope pos) (tComp cap wi g tf te) := by
  intro pins s σ H Q I h
  rw [eval_ListComp]
  have frc : ∀ x ∈ scope.names, x.2 = .free → ∃ c, X.env.cells.lookup x.1 = some c := fun x hx hk => I.ok.has x.1 (S.free x hx hk)
  refine wpAny_comprehension_free (use := none) rfl hs (closureFor_eq frc) S.kind (comp_names S) (thn (hi pins s σ H _ I h) fun v s1 h1 => thn h1 fun itv s2 h2 => ?_)
  obtain ⟨it, fp, tn, J, H2, rfl, I2, T, st2, f2, W, w0, turn⟩ := h2
  refine comp_core (RR := fun acc C => compPost (model X.prog X.w) X.A X.xe none (EP X pins σ Q) acc C) S hc hg hf he I2 T st2 f2 w0 turn fun D C σ' H' s' its k ys hD hC hDC I' rv hl q => ?_
  obtain ⟨m, hn, _⟩ := I'.loc
  exact ⟨m, hn, fun h' hs' => ⟨.ref D, _, comp_out I2 f2 hD hC hDC I' rv hl hs', rfl, q⟩⟩
end
end L2

set_option Elab.async false
set_option linter.all false
set_option maxRecDepth 100000
set_option maxHeartbeats 4000000
namespace L2
open PySem PySem.Spec PyProof.Rows
section
variable {X : Cx} {scope : Scope} {N : List Str} {cap : List (Option Nat)} {tg iter elt : Expr} {ifs : List Expr} {pos spos py : Pos} {wi : TI} {g : TG} {tf : TT} {te : TE} {i : Nat} {y : Str}
/-- y = [elt for tg in iter if ..] -/
theorem ps_setComp (hN : X.N.Nodup) (hi' : X.N[i]? = some y) (hy : Loc X.env.scope y) (S : CompScope X scope N cap) (hc : X.calm = true) (hi : PI X tg iter wi)
    (hg : ∀ s H C fp, PG (compCx X scope N s H C fp) tg g) (hf : ∀ s H C fp, PTs (compCx X scope N s H C fp) ifs tf) (he : ∀ s H C fp, PE (compCx X scope N s H C fp) elt te)
    (hsw : swapsWith (.ListComp elt [⟨tg, iter, ifs, 0⟩] scope pos) (some (.Name y py)) spos.line X.env = pure true := by rfl)
    (hs : ∀ x, foldedSetIterable iter X.env x = pure x := by intro _; rfl) (hfn : X.fn y = true ∨ X.env.scope.names.lookup y = some .local := by first | exact .inl rfl | exact .inr rfl | assumption) :
    PS X (.Assign [.Name y py] (.ListComp elt [⟨tg, iter, ifs, 0⟩] scope pos) spos) (tAsg (tComp cap wi g tf te) (gName i)) := by
  intro pins s σ H D I h
  rw [exec_Assign_Name_used _ _ _ _ hsw]
  refine wpAny_bind (wpAny_standAt (wpAny_bind ?_))
  show wpAny _ X.A (do let _ ← comprehension (.ListComp elt [⟨tg, iter, ifs, 0⟩] scope pos) scope X.env _ (newList []) false (eval iter X.env) (some (assign (.Name y py) X.env))) _ _ s
  have frc : ∀ x ∈ scope.names, x.2 = .free → ∃ c, X.env.cells.lookup x.1 = some c := fun x hx hk => I.ok.has x.1 (S.free x hx hk)
  refine wpAny_bind (wpAny_mono (wpAny_comprehension_free (use := some (assign (.Name y py) X.env)) (Q := fun _ s' => SP X pins D .next s') rfl hs (closureFor_eq frc) S.kind (comp_names S) (thn (hi pins s σ H _ I h) fun v s1 h1 => thn h1 fun itv s2 h2 => ?_)) (fun _ s' hq => wpAny_pure (wpAny_pure hq)) fun _ _ e => e)
  obtain ⟨it, fp, tn, J, H2, rfl, I2, T, st2, f2, W, w0, turn⟩ := h2
  refine comp_core (Qv := fun x H1 => gName i x σ H1 D.nx) (RR := fun acc C => compPost (model X.prog X.w) X.A X.xe (some (assign (.Name y py) X.env)) (fun _ s' => SP X pins D .next s') acc C) S hc hg hf he I2 T st2 f2 w0 turn fun d C σ' H' s' its k ys hD hC hDC I' rv hl q => ?_
  obtain ⟨m, hn, _⟩ := I'.loc
  have I3 : Inv X pins σ (upd H' d (.lst ys)) s' := comp_out (h' := s'.heap) I2 f2 hD hC hDC I' rv hl (.refl ..)
  have nC : (upd H' d (.lst ys)) C = none := by rw [upd_ne (Ne.symm hDC)]; exact I'.free
  have cL : C ≠ X.env.locals := fun z => absurd (Nat.lt_of_lt_of_le I2.lt hC) (by rw [z]; exact Nat.lt_irrefl _)
  have cc : ∀ x c, X.env.cells.lookup x = some c → c ≠ C := fun x c e z => by
    obtain ⟨v, q⟩ := I2.cell x c e
    exact absurd (Nat.lt_of_lt_of_le q.lt hC) (by rw [z]; exact Nat.lt_irrefl _)
  show wpAny _ X.A (assign (.Name y py) X.env (.ref d)) _ _ _
  refine wpAny_assign_Name (store_ok2 (v := .ref d) I3 hN hi' hy rfl (fun s4 I4 ⟨a, sb, ha⟩ => ?_) hfn)
  have aC : C ≠ a := by
    rcases ha with z | z
    · rw [z]; exact cL
    · exact Ne.symm (cc _ _ z)
  refine ⟨m, hn.sameBut sb aC, fun h' hs' => ?_⟩
  exact ⟨_, _, I4.turned (it := C) (t' := s4.toks) (fun b o hb e => (hs'.2 b hb).trans e) nC cL (.inr (Nat.le_trans I2.sz hC)) cc (fun p hp z => absurd (Nat.lt_of_lt_of_le (Heap.lt_size (I2.pin p hp).1) hC) (by rw [z]; exact Nat.lt_irrefl _)), q⟩
end

/-! ### W5. zip of two sources -/
inductive Src where
  | lst (a : Addr) | tup (a : Addr) | str (l : List Nat)
def Src.has (K : PySem.W.Frag) (H : Hp) : Src → List V → Prop
  | .lst a, xs => SqL K H a xs
  | .tup a, xs => SqT K H a xs
  | .str l, xs => xs = l.map fun c => V.str (sOf [c])
def Src.at (it : Addr) (i : Nat) (h : Heap) : Src → Prop
  | .lst a => h.IsListIter it a i
  | .tup a => h.IsTupleIter it a i
  | .str l => ∃ t, h.IsStrIter it "str_ascii_iterator" (sOf l) t i ∨ h.IsStrIter it "str_iterator" (sOf l) t i
def Src.val : Src → V
  | .lst a => .ref a
  | .tup a => .ref a
  | .str l => .str (sOf l)
section
variable {P : Program} {w : World} {A : Around} {E : Value → Shared → Prop} {s : Shared}
theorem nextTup_item {j a : Addr} {k : Nat} {us : Array Value} {x : Value} {Q : Value → Shared → Prop} (g : s.heap.IsTupleIter j a k) (ga : s.heap.IsTuple a us) (gx : us[k]? = some x)
    (q : ∀ h', h'.IsTupleIter j a (k + 1) → Heap.SameBut j s.heap h' → Q x { s with heap := h' }) : wpAny (model P w) A (Builtin.SmallTypes.nextOf (.ref j)) Q E s := by
  obtain ⟨ob, e1, e2, e3⟩ := id g; obtain ⟨ot, f1, _, nn, f3⟩ := ga
  unfold Builtin.SmallTypes.nextOf
  refine wpAny_bind (wpAny_callSpecial?_slot (name := Str.ofString "__next__") g.typeIs PySem.F.slot_tuple_iterator_next (wpAny_call_entry PySem.F.slot_tuple_iterator_next g.typeIs PySem.F.entry_tuple_iterator_next ?_ (PySem.F.args_tuple_iterator_next_1 _)))
  show wpAny (model P w) _ (field (.ref j) 0 >>= _) _ _ s
  refine wpAny_bind (wpAny_field e1 e3 (x := .ref a) rfl ?_)
  show wpAny (model P w) _ (if (Value.ref a == Value.none) = true then _ else _) _ _ s
  rw [if_neg (show ¬ ((Value.ref a == Value.none) = true) from Bool.false_ne_true)]
  show wpAny (model P w) _ (field (.ref j) 1 >>= _) _ _ s
  refine wpAny_bind (wpAny_field e1 e3 (x := .int k 0) rfl ?_)
  show wpAny (model P w) _ (seqItems? (.ref a) >>= _) _ _ s
  refine wpAny_bind (wpAny_seqItems f1 f3 ?_)
  simp only [Int.toNat_natCast, gx]
  refine wpAny_bind (wpAny_setField e1 e3 (by simp) (wpAny_pure ⟨x, rfl, wpAny_pure (q _ ⟨_, Heap.get?_update_self _ e1 (Obj.isFreed_of_fields (Obj.data_mapFields e3 _)), (Obj.cls_mapFields ..).trans e2, (by rw [Obj.data_mapFields e3]; simp [rawInt])⟩ (Heap.SameBut.update ..))⟩))
theorem nextTup_end {j a : Addr} {k : Nat} {us : Array Value} {Q : Value → Shared → Prop} (hh : A.handled = none) (g : s.heap.IsTupleIter j a k) (ga : s.heap.IsTuple a us) (gx : us[k]? = none)
    (q : ∀ h' e, Heap.ExtBut j s.heap h' → (∃ o, h'.get? e = some o ∧ o.cls = .type "StopIteration") → E (.ref e) { s with heap := h' }) : wpAny (model P w) A (Builtin.SmallTypes.nextOf (.ref j)) Q E s := by
  obtain ⟨ob, e1, e2, e3⟩ := id g; obtain ⟨ot, f1, _, nn, f3⟩ := ga
  unfold Builtin.SmallTypes.nextOf
  refine wpAny_bind (wpAny_callSpecial?_slot (name := Str.ofString "__next__") g.typeIs PySem.F.slot_tuple_iterator_next (wpAny_call_entry PySem.F.slot_tuple_iterator_next g.typeIs PySem.F.entry_tuple_iterator_next ?_ (PySem.F.args_tuple_iterator_next_1 _)))
  show wpAny (model P w) _ (field (.ref j) 0 >>= _) _ _ s
  refine wpAny_bind (wpAny_field e1 e3 (x := .ref a) rfl ?_)
  show wpAny (model P w) _ (if (Value.ref a == Value.none) = true then _ else _) _ _ s
  rw [if_neg (show ¬ ((Value.ref a == Value.none) = true) from Bool.false_ne_true)]
  show wpAny (model P w) _ (field (.ref j) 1 >>= _) _ _ s
  refine wpAny_bind (wpAny_field e1 e3 (x := .int k 0) rfl ?_)
  show wpAny (model P w) _ (seqItems? (.ref a) >>= _) _ _ s
  refine wpAny_bind (wpAny_seqItems f1 f3 ?_)
  simp only [Int.toNat_natCast, gx]
  refine wpAny_bind (wpAny_rule (wpAny_bind (wpAny_setField e1 e3 (by simp) ?_)))
  show wpAny (model P w) _ (newExc (.type "StopIteration") [] >>= _) _ _ _
  refine wpAny_bind ?_; simp only [newExc, newTuple]
  refine wpAny_bind (wpAny_newObj_type (wpAny_bind (m := firstArgMember _ _) (wpAny_of_eq (a := Value.none) (by first | rfl | (simp only [firstArgMember]; rfl)) (wpAny_newObj_type ?_ (by size_fits)))) (by size_fits))
  simp only [raiseNew]; refine wpAny_bind (wpAny_handled ?_)
  first | rw [show A.in1.handled = none from hh] | rw [hh]
  exact wpAny_bind (wpAny_pure (wpAny_throw (q _ _ (((Heap.SameBut.update ..).extBut.push _).push _) ⟨_, Heap.get?_push_size _ rfl, rfl⟩)))
theorem drawsTup (hh : A.handled = none) (j a : Addr) (ne : a ≠ j) (us : Array Value) : Draws P w A j [j, a] us.size (fun k v => us[k]? = some v) (fun k h => h.IsTupleIter j a k ∧ h.IsTuple a us) where
  live := fun _ _ st => by obtain ⟨⟨o, e, _⟩, _⟩ := st; exact ⟨o, e⟩
  frame := fun _ _ _ st hk => ⟨st.1.at fun o e => hk j (by simp) o e, by obtain ⟨o, e, r⟩ := st.2; exact ⟨o, hk a (by simp) o e, r⟩⟩
  item := fun k s Q E hk st q => nextTup_item st.1 st.2 (x := us[k]) (by simp [hk]) fun h' g' sb => q _ h' s.toks (by simp [hk]) ⟨g', by obtain ⟨o, e, r⟩ := st.2; exact ⟨o, (sb.2 a ne).trans e, r⟩⟩ sb
  done := fun s Q E st q => nextTup_end hh st.1 st.2 (by simp) q
/-- a source's iterator draws its items -/
theorem Src.draws {X : Cx} {pins : List (Addr × Obj)} {σ : St} {H : Hp} {s0 : Shared} {c : Src} {xs : List V} {it : Addr} {i : Nat} (hh : A.handled = none) (I : Inv X pins σ H s0) (hs : c.has X.K H xs) (ht : c.at it i s0.heap) (hit : H it = none) :
    ∃ (fp : List Addr) (Pt : Nat → Value → Prop) (St : Nat → Heap → Prop), Draws X.prog X.w A it fp xs.length Pt St ∧ St i s0.heap ∧ (∀ k v, Pt k v → ∃ x, xs[k]? = some x ∧ RelV x v) ∧ (∀ k h, St k h → c.at it k h) ∧ it ∈ fp ∧
      ∀ b ∈ fp, b = it ∨ H b ≠ none ∨ ∃ o, X.base.get? b = some o := by
  cases c with
  | lst a =>
    obtain ⟨its, rv, p, hz⟩ := I.list hs
    have ne : a ≠ it := fun z => by
      obtain ⟨o, e, c1, _⟩ := (show s0.heap.IsListIter it a i from ht)
      obtain ⟨o2, e2, c2, _⟩ := p.isList
      rw [z, e] at e2; cases e2; rw [c1] at c2; exact absurd c2 (by decide)
    have dr := Draws.list (prog := X.prog) (w := X.w) hh it a ne its.toArray
    rw [List.size_toArray, ← rv.length] at dr
    refine ⟨_, _, _, dr, ⟨ht, p.isList⟩, fun k v e => ?_, fun k h st => st.1, by simp, fun b hb => ?_⟩
    · have e : its[k]? = some v := by simpa using e
      have hk : k < xs.length := by rw [rv.length]; exact (List.getElem?_eq_some_iff.mp e).1
      obtain ⟨u, hu, ru⟩ := rv.get (i := k) (x := xs[k]) (by simp [hk])
      rw [e] at hu; cases hu
      exact ⟨_, by simp [hk], ru⟩
    · rcases List.mem_cons.mp hb with z | z
      · exact .inl z
      · have z : b = a := by simpa using z
        subst z
        rcases (show SqL X.K H b xs from hs) with (z | ⟨o, z⟩) | ⟨o, _, _, z, _⟩
        · exact .inr (.inl (by rw [z]; simp))
        · exact .inr (.inl (by rw [z]; simp))
        · exact .inr (.inr ⟨_, I.mod.kin _ _ z⟩)
  | tup a =>
    obtain ⟨its, rv, p, hz⟩ := I.tuple hs
    have p : s0.heap.IsTuple a its.toArray := p
    have ne : a ≠ it := fun z => by
      obtain ⟨o, e, c1, _⟩ := (show s0.heap.IsTupleIter it a i from ht)
      obtain ⟨o2, e2, c2, _⟩ := id p
      rw [z, e] at e2; cases e2; rw [c1] at c2; exact absurd c2 (by decide)
    have dr := drawsTup (P := X.prog) (w := X.w) hh it a ne its.toArray
    rw [List.size_toArray, ← rv.length] at dr
    refine ⟨_, _, _, dr, ⟨ht, p⟩, fun k v e => ?_, fun k h st => st.1, by simp, fun b hb => ?_⟩
    · have e : its[k]? = some v := by simpa using e
      have hk : k < xs.length := by rw [rv.length]; exact (List.getElem?_eq_some_iff.mp e).1
      obtain ⟨u, hu, ru⟩ := rv.get (i := k) (x := xs[k]) (by simp [hk])
      rw [e] at hu; cases hu
      exact ⟨_, by simp [hk], ru⟩
    · rcases List.mem_cons.mp hb with z | z
      · exact .inl z
      · have z : b = a := by simpa using z
        subst z
        rcases (show SqT X.K H b xs from hs) with (z | ⟨o, z⟩) | ⟨o, _, _, z, _⟩
        · exact .inr (.inl (by rw [z]; simp))
        · exact .inr (.inl (by rw [z]; simp))
        · exact .inr (.inr ⟨_, I.mod.kin _ _ z⟩)
  | str l =>
    have hs : xs = l.map fun c => V.str (sOf [c]) := hs
    obtain ⟨t, ht⟩ := (show ∃ t, s0.heap.IsStrIter it "str_ascii_iterator" (sOf l) t i ∨ s0.heap.IsStrIter it "str_iterator" (sOf l) t i from ht)
    have hn : (sOf l).cps.size = xs.length := by rw [hs]; simp [sOf]
    have sg : ∀ (k : Nat) (v : Value), (∃ c u, (sOf l).cps[k]? = some c ∧ v = .str ⟨#[c]⟩ u) → ∃ x, xs[k]? = some x ∧ RelV x v := fun k v ⟨c, u, e, ev⟩ => by
      have e : l[k]? = some c := by simpa [sOf] using e
      exact ⟨.str (sOf [c]), by rw [hs]; simp [e], ⟨u, ev⟩⟩
    rcases ht with ht | ht
    · exact ⟨_, _, _, hn ▸ Draws.strAscii hh it (sOf l) t, ht, sg, fun k h st => ⟨t, .inl st⟩, by simp, fun b hb => .inl (by simpa using hb)⟩
    · exact ⟨_, _, _, hn ▸ Draws.strWide hh it (sOf l) t, ht, sg, fun k h st => ⟨t, .inr st⟩, by simp, fun b hb => .inl (by simpa using hb)⟩
end
end L2

set_option Elab.async false
set_option linter.all false
set_option maxRecDepth 100000
set_option maxHeartbeats 4000000
namespace L2
open PySem PySem.Spec PyProof.Rows
/-- iter(v) lays the record o -/
def IterOf (v : Value) (h : Heap) (o : Obj) : Prop := ∀ (prog : Program) (w : World) (A : Around) (E : Value → Shared → Prop) (Q : Value → Shared → Prop) (s : Shared), s.heap = h → Q (.ref h.objs.size) { s with heap := h.push o } → wpAny (model prog w) A (pyIter v) Q E s
def zp3 (h : Heap) (o1 o2 : Obj) : Heap := ((h.push o1).push o2).push { cls := .type "tuple", data := .seq #[.ref h.objs.size, .ref (h.push o1).objs.size] }
def zp4 (h : Heap) (o1 o2 : Obj) : Heap := (zp3 h o1 o2).push { cls := .type "tuple", data := .seq #[.none, .none] }
def zp5 (h : Heap) (o1 o2 : Obj) : Heap := (zp4 h o1 o2).push { cls := .type "zip", data := .fields #[.none, .bool false, .bool false, .ref ((h.push o1).push o2).objs.size, .ref (zp3 h o1 o2).objs.size] }
theorem zipNew_meets (v1 v2 : Value) (o1 o2 : Obj) : Meets (Builtin.«zip.__new__» ⟨[.type "zip", v1, v2], []⟩) (fun _ R s => IterOf v1 s.heap o1 ∧ IterOf v2 (s.heap.push o1) o2 ∧ R (.ok (.ret (.ref (zp4 s.heap o1 o2).objs.size))) { s with heap := zp5 s.heap o1 o2 }) :=
  .of_wp fun prog w A R s h => by
    obtain ⟨hp, g, d, tk, os⟩ := s; obtain ⟨i1, i2, h⟩ := h
    have hsub := sub_zip
    have j1 := fun (A : Around) (E : Value → Shared → Prop) (Q : Value → Shared → Prop) (q : Q _ _) => i1 prog w A E Q ⟨hp, g, d, tk, os⟩ rfl q
    have j2 := fun (A : Around) (E : Value → Shared → Prop) (Q : Value → Shared → Prop) (q : Q _ _) => i2 prog w A E Q ⟨hp.push o1, g, d, tk, os⟩ rfl q
    wp_walk using j1 _ _ _, j2 _ _ _
    exact ⟨_, rfl, h⟩
theorem call_zipG {P : Program} {w : World} {A : Around} {E : Value → Shared → Prop} {s : Shared} {v1 v2 : Value} {o1 o2 : Obj} {Q : Value → Shared → Prop} (i1 : IterOf v1 s.heap o1) (i2 : IterOf v2 (s.heap.push o1) o2)
    (f1 : o1.isFreed = false) (f2 : o2.isFreed = false)
    (q : ∀ h', IsZip h' (s.heap.objs.size + 4) (s.heap.objs.size + 2) (s.heap.objs.size + 3) .none → IsPair h' (s.heap.objs.size + 2) (.ref s.heap.objs.size) (.ref (s.heap.objs.size + 1)) → IsPair h' (s.heap.objs.size + 3) .none .none →
      h'.get? s.heap.objs.size = some o1 → h'.get? (s.heap.objs.size + 1) = some o2 → (∀ c o, s.heap.get? c = some o → h'.get? c = some o) → Q (.ref (s.heap.objs.size + 4)) { s with heap := h' }) :
    wpAny (model P w) A (call (.type "zip") [v1, v2]) Q E s := by
  refine callType_new PySem.F.called_zip (by decide) (PySem.F.typeCall_zip_2 _ _) (PySem.F.newCall_zip_2 _ _) (fun obj => PySem.F.args_object_init_3 obj _ _) PySem.F.entry_zip_new (zipNew_meets v1 v2 o1 o2) ⟨i1, i2, ?_⟩
  have z1 : (s.heap.push o1).objs.size = s.heap.objs.size + 1 := Heap.size_push ..
  have z2 : ((s.heap.push o1).push o2).objs.size = s.heap.objs.size + 2 := by rw [Heap.size_push, z1]
  have z3 : (zp3 s.heap o1 o2).objs.size = s.heap.objs.size + 3 := by unfold zp3; rw [Heap.size_push, z2]
  have z4 : (zp4 s.heap o1 o2).objs.size = s.heap.objs.size + 4 := by unfold zp4; rw [Heap.size_push, z3]
  have g5 : (zp5 s.heap o1 o2).get? (zp4 s.heap o1 o2).objs.size = some _ := Heap.get?_push_size _ rfl
  have g4 : (zp5 s.heap o1 o2).get? (zp3 s.heap o1 o2).objs.size = some _ := Heap.get?_push_of_some _ (Heap.get?_push_size _ rfl)
  have g3 : (zp5 s.heap o1 o2).get? ((s.heap.push o1).push o2).objs.size = some _ := Heap.get?_push_of_some _ (Heap.get?_push_of_some _ (Heap.get?_push_size _ rfl))
  have g2 : (zp5 s.heap o1 o2).get? (s.heap.push o1).objs.size = some o2 := Heap.get?_push_of_some _ (Heap.get?_push_of_some _ (Heap.get?_push_of_some _ (Heap.get?_push_size _ f2)))
  have g1 : (zp5 s.heap o1 o2).get? s.heap.objs.size = some o1 := Heap.get?_push_of_some _ (Heap.get?_push_of_some _ (Heap.get?_push_of_some _ (Heap.get?_push_of_some _ (Heap.get?_push_size _ f1))))
  show _ ∧ _
  rw [z2, z3, z4] at g5
  rw [z1, z2] at g3
  rw [z3] at g4
  rw [z1] at g2
  rw [z4]
  exact ⟨⟨_, g5, rfl⟩, q _ g5 g3 g4 g1 g2 fun c o x => Heap.get?_push_of_some _ (Heap.get?_push_of_some _ (Heap.get?_push_of_some _ (Heap.get?_push_of_some _ (Heap.get?_push_of_some _ x))))⟩
theorem Src.iter {X : Cx} {pins : List (Addr × Obj)} {σ : St} {H : Hp} {s : Shared} {c : Src} {xs : List V} {v : Value} {h : Heap} (I : Inv X pins σ H s) (hs : c.has X.K H xs) (rv : RelV c.val v) (k : ∀ b o, s.heap.get? b = some o → h.get? b = some o) :
    ∃ o, IterOf v h o ∧ o.isFreed = false ∧ (∀ h' : Heap, h'.get? h.objs.size = some o → c.at h.objs.size 0 h') := by
  cases c with
  | lst a =>
    obtain ⟨its, r, p, hz⟩ := I.list hs
    cases (show v = .ref a from rv)
    obtain ⟨o, e, r2⟩ := p.isList
    refine ⟨{ cls := .type "list_iterator", data := .fields #[.ref a, .int 0 0] }, fun prog w A E Q s' e' q => ?_, rfl, fun h' e' => ⟨_, e', rfl, rfl⟩⟩
    subst e'
    exact wpAny_pyIter_list ⟨o, k a o e, r2⟩ q
  | tup a =>
    obtain ⟨its, r, p, hz⟩ := I.tuple hs
    cases (show v = .ref a from rv)
    obtain ⟨o, e, r2⟩ := p
    refine ⟨{ cls := .type "tuple_iterator", data := .fields #[.ref a, .int 0 0] }, fun prog w A E Q s' e' q => ?_, rfl, fun h' e' => ⟨_, e', rfl, rfl⟩⟩
    subst e'
    exact wpAny_pyIter_tuple ⟨o, k a o e, r2⟩ q
  | str l =>
    obtain ⟨t, rfl⟩ := (show ∃ t, v = .str (sOf l) t from rv)
    cases ha : (sOf l).cps.all (· < 128)
    · exact ⟨{ cls := .type "str_iterator", data := .fields #[.str (sOf l) t, .int 0 0] }, fun prog w A E Q s' e' q => by subst e'; exact wpAny_pyIter_wide ha q, rfl, fun h' e' => ⟨t, .inr ⟨_, e', rfl, rfl⟩⟩⟩
    · exact ⟨{ cls := .type "str_ascii_iterator", data := .fields #[.str (sOf l) t, .int 0 0] }, fun prog w A E Q s' e' q => by subst e'; exact wpAny_pyIter_ascii ha q, rfl, fun h' e' => ⟨t, .inl ⟨_, e', rfl, rfl⟩⟩⟩
end L2

set_option Elab.async false
set_option linter.all false
set_option maxRecDepth 100000
set_option maxHeartbeats 4000000
namespace L2
open PySem PySem.Spec PyProof.Rows
section
variable {P : Program} {w : World} {A : Around} {E : Value → Shared → Prop} {s : Shared} {z TI TO i1 i2 : Addr} {fp1 fp2 : List Addr} {n1 n2 k : Nat} {P1 P2 : Nat → Value → Prop} {S1 S2 : Nat → Heap → Prop} {a b : Value}
structure ZApart (z TI TO i1 i2 : Addr) (fp1 fp2 : List Addr) : Prop where
  c1 : TI ≠ z
  c2 : TO ≠ z
  c3 : i1 ≠ z
  c4 : i2 ≠ z
  c5 : TI ≠ TO
  c6 : TI ≠ i1
  c7 : TI ≠ i2
  c8 : TO ≠ i1
  c9 : TO ≠ i2
  d1 : z ∉ fp1 ∧ TO ∉ fp1 ∧ i2 ∉ fp1
  d2 : z ∉ fp2 ∧ TO ∉ fp2 ∧ i1 ∉ fp2
theorem frame_of {n : Nat} {it : Addr} {fp : List Addr} {Pt : Nat → Value → Prop} {S : Nat → Heap → Prop} (D : Draws P w A it fp n Pt S) {j : Nat} {h h' : Heap} {c : Addr} (st : S j h) (sb : Heap.SameBut c h h') (hc : c ∉ fp) : S j h' :=
  D.frame _ _ _ st fun b hb o e => (sb.2 b fun q => hc (q ▸ hb)).trans e
theorem zipG_item {Q : Option Value → Shared → Prop} (D1 : Draws P w A.in1 i1 fp1 n1 P1 S1) (D2 : Draws P w A.in1 i2 fp2 n2 P2 S2) (Z : ZApart z TI TO i1 i2 fp1 fp2) (h1 : k < n1) (h2 : k < n2) (hz : IsZip s.heap z TI TO .none)
    (hI : IsPair s.heap TI (.ref i1) (.ref i2)) (hO : IsPair s.heap TO a b) (t1 : S1 k s.heap) (t2 : S2 k s.heap)
    (q : ∀ x y h' tk T, P1 k x → P2 k y → T = s.heap.objs.size → IsZip h' z TI TO (rawInt T) → IsPair h' TO x y → S1 (k + 1) h' → S2 (k + 1) h' → IsPair h' T x y →
      (∀ c o, c ≠ z → c ≠ TO → c ≠ i1 → c ≠ i2 → s.heap.get? c = some o → h'.get? c = some o) → Q (some (.ref T)) { s with heap := h', toks := tk }) :
    wpAny (model P w) A (pyNext (.ref z)) Q E s := by
  have hT : s.TypeIs (.ref z) "zip" := ⟨_, hz, rfl⟩
  unfold pyNext
  refine wpAny_bind (wpAny_attempt (wpAny_callSpecial?_slot (name := Str.ofString "__next__") hT PySem.F.slot_zip_next (wpAny_call_entry PySem.F.slot_zip_next hT PySem.F.entry_zip_next ?_ (PySem.F.args_zip_next_1 _))))
  obtain ⟨hp, gg, dd, tk0, os⟩ := s
  show wpAny (model P w) _ (field (.ref z) 2 >>= _) _ _ _
  refine wpAny_bind (wpAny_field hz rfl (x := .bool false) rfl ?_)
  show wpAny (model P w) _ (field (.ref z) 3 >>= _) _ _ _
  refine wpAny_bind (wpAny_field hz rfl (x := .ref TI) rfl (wpAny_bind (wpAny_seqItems hI rfl ?_)))
  show wpAny (model P w) _ (Builtin.SmallTypes.ownedTupleIsFree (.ref z) >>= _) _ _ _
  refine wpAny_bind ?_; unfold Builtin.SmallTypes.ownedTupleIsFree
  refine wpAny_bind (wpAny_field hz rfl (x := .none) rfl (wpAny_pure ?_)); simp only [if_true]
  refine wpAny_bind (wpAny_rule (wpAny_bind (wpAny_field hz rfl (x := .ref TO) rfl (wpAny_bind (wpAny_setField_rec hz (by simp) fun g1 y1 b1 => ?_)))))
  replace y1 : IsZip g1 z TI TO .ellipsis := y1
  replace b1 : Heap.SameBut z hp g1 := b1
  refine wpAny_bind ?_; simp only [List.zipIdx_cons, List.zipIdx_nil, List.forIn_cons, List.forIn_nil]
  refine wpAny_bind (wpAny_bind (wpAny_onRaise ?_))
  show wpAny (model P w) _ (Builtin.SmallTypes.nextOf (.ref i1) >>= _) _ _ _
  refine wpAny_bind (D1.item k _ _ _ h1 (frame_of D1 t1 b1 Z.d1.1) fun x g2 tk2 px u1 b2 => wpAny_pure ?_)
  replace b2 : Heap.SameBut i1 g1 g2 := b2
  have O2 : IsPair g2 TO a b := b2.extBut _ _ Z.c8 (b1.extBut _ _ Z.c2 hO)
  refine wpAny_bind (wpAny_seqItems O2 rfl (wpAny_bind (wpAny_updateSeq_pair O2 fun g3 O3 b3 => ?_)))
  replace O3 : IsPair g3 TO x b := O3
  replace b3 : Heap.SameBut TO g2 g3 := b3
  refine wpAny_bind (wpAny_letGo (wpAny_pure (wpAny_bind (wpAny_bind (wpAny_onRaise ?_)))))
  show wpAny (model P w) _ (Builtin.SmallTypes.nextOf (.ref i2) >>= _) _ _ _
  refine wpAny_bind (D2.item k _ _ _ h2 (frame_of D2 (frame_of D2 (frame_of D2 t2 b1 Z.d2.1) b2 Z.d2.2.2) b3 Z.d2.2.1) fun y g4 tk4 py u2 b4 => wpAny_pure ?_)
  replace b4 : Heap.SameBut i2 g3 g4 := b4
  have O4 : IsPair g4 TO x b := b4.extBut _ _ Z.c9 O3
  refine wpAny_bind (wpAny_seqItems O4 rfl (wpAny_bind (wpAny_updateSeq_pair O4 fun g5 O5 b5 => ?_)))
  replace O5 : IsPair g5 TO x y := O5
  replace b5 : Heap.SameBut TO g4 g5 := b5
  refine wpAny_bind (wpAny_letGo (wpAny_pure (wpAny_pure (wpAny_bind (wpAny_seqItems O5 rfl (wpAny_bind (wpAny_newTuple ?_)))))))
  have sz : g5.objs.size = hp.objs.size := by rw [b5.1, b4.1, b3.1, b2.1, b1.1]
  have y5 : IsZip g5 z TI TO .ellipsis := b5.extBut _ _ Z.c2.symm (b4.extBut _ _ Z.c4.symm (b3.extBut _ _ Z.c2.symm (b2.extBut _ _ Z.c3.symm y1)))
  have k5 : ∀ c o, c ≠ z → c ≠ TO → c ≠ i1 → c ≠ i2 → hp.get? c = some o → g5.get? c = some o := fun c o e1 e2 e3 e4 e => b5.extBut _ _ e2 (b4.extBut _ _ e4 (b3.extBut _ _ e2 (b2.extBut _ _ e3 (b1.extBut _ _ e1 e))))
  have v1 : S1 (k + 1) g5 := frame_of D1 (frame_of D1 (frame_of D1 u1 b3 Z.d1.2.1) b4 Z.d1.2.2) b5 Z.d1.2.1
  have v2 : S2 (k + 1) g5 := frame_of D2 u2 b5 Z.d2.2.1
  have lz : z < g5.objs.size := Heap.lt_size y5
  show wpAny (model P w) _ (Builtin.SmallTypes.ownedTupleHandOut (.ref z) (.ref g5.objs.size) >>= _) _ _ _
  refine wpAny_bind ?_; unfold Builtin.SmallTypes.ownedTupleHandOut
  have y6 : IsZip (g5.push { cls := .type "tuple", data := .seq #[x, y] }) z TI TO .ellipsis := Heap.get?_push_of_some _ y5
  refine wpAny_bind (wpAny_setField_rec y6 (by simp) fun g7 y7 b7 => ?_)
  replace y7 : IsZip g7 z TI TO (rawInt g5.objs.size) := y7
  replace b7 : Heap.SameBut z (g5.push { cls := .type "tuple", data := .seq #[x, y] }) g7 := b7
  refine wpAny_setField_rec y7 (by simp) fun g8 y8 b8 => ?_
  replace y8 : IsZip g8 z TI TO (rawInt g5.objs.size) := y8
  replace b8 : Heap.SameBut z g7 g8 := b8
  have up : ∀ c o, c ≠ z → g5.get? c = some o → g8.get? c = some o := fun c o e1 e => b8.extBut _ _ e1 (b7.extBut _ _ e1 (Heap.get?_push_of_some _ e))
  have T8 : IsPair g8 g5.objs.size x y := b8.extBut _ _ (Nat.ne_of_gt lz) (b7.extBut _ _ (Nat.ne_of_gt lz) (Heap.get?_push_size _ rfl))
  refine wpAny_pure ⟨_, rfl, wpAny_pure (q x y g8 _ g5.objs.size px py sz y8 (up _ _ Z.c2 O5) (D1.frame _ _ _ v1 fun b hb o e => up b o (fun q => Z.d1.1 (q ▸ hb)) e) (D2.frame _ _ _ v2 fun b hb o e => up b o (fun q => Z.d2.1 (q ▸ hb)) e) T8 fun c o e1 e2 e3 e4 e => up c o e1 (k5 c o e1 e2 e3 e4 e))⟩
theorem zipG_end {Q : Option Value → Shared → Prop} (hh : A.handled = none) (D1 : Draws P w A.in1 i1 fp1 n1 P1 S1) (D2 : Draws P w A.in1 i2 fp2 n2 P2 S2) (Z : ZApart z TI TO i1 i2 fp1 fp2) (hk : k = n1 ∨ (k < n1 ∧ k = n2)) (hz : IsZip s.heap z TI TO .none)
    (hI : IsPair s.heap TI (.ref i1) (.ref i2)) (hO : IsPair s.heap TO a b) (t1 : S1 k s.heap) (t2 : S2 k s.heap)
    (q : ∀ h' tk, (∀ c o, c ≠ z → c ≠ TO → c ≠ i1 → c ≠ i2 → s.heap.get? c = some o → h'.get? c = some o) → Q none { s with heap := h', toks := tk }) :
    wpAny (model P w) A (pyNext (.ref z)) Q E s := by
  have hT : s.TypeIs (.ref z) "zip" := ⟨_, hz, rfl⟩
  unfold pyNext
  refine wpAny_bind (wpAny_attempt (wpAny_callSpecial?_slot (name := Str.ofString "__next__") hT PySem.F.slot_zip_next (wpAny_call_entry PySem.F.slot_zip_next hT PySem.F.entry_zip_next ?_ (PySem.F.args_zip_next_1 _))))
  obtain ⟨hp, gg, dd, tk0, os⟩ := s
  show wpAny (model P w) _ (field (.ref z) 2 >>= _) _ _ _
  refine wpAny_bind (wpAny_field hz rfl (x := .bool false) rfl ?_)
  show wpAny (model P w) _ (field (.ref z) 3 >>= _) _ _ _
  refine wpAny_bind (wpAny_field hz rfl (x := .ref TI) rfl (wpAny_bind (wpAny_seqItems hI rfl ?_)))
  show wpAny (model P w) _ (Builtin.SmallTypes.ownedTupleIsFree (.ref z) >>= _) _ _ _
  refine wpAny_bind ?_; unfold Builtin.SmallTypes.ownedTupleIsFree
  refine wpAny_bind (wpAny_field hz rfl (x := .none) rfl (wpAny_pure ?_)); simp only [if_true]
  refine wpAny_bind (wpAny_rule (wpAny_bind (wpAny_field hz rfl (x := .ref TO) rfl (wpAny_bind (wpAny_setField_rec hz (by simp) fun g1 y1 b1 => ?_)))))
  replace y1 : IsZip g1 z TI TO .ellipsis := y1
  replace b1 : Heap.SameBut z hp g1 := b1
  refine wpAny_bind ?_; simp only [List.zipIdx_cons, List.zipIdx_nil, List.forIn_cons, List.forIn_nil]
  refine wpAny_bind (wpAny_bind (wpAny_onRaise ?_))
  show wpAny (model P w) _ (Builtin.SmallTypes.nextOf (.ref i1) >>= _) _ _ _
  rcases hk with hk | ⟨hk1, hk2⟩
  · subst hk
    refine wpAny_bind (D1.done _ _ _ (frame_of D1 t1 b1 Z.d1.1) fun g2 e b2 he => ?_)
    obtain ⟨oe, hoe, hce⟩ := he
    replace b2 : Heap.ExtBut i1 g1 g2 := b2
    have y2 : IsZip g2 z TI TO .ellipsis := b2 _ _ Z.c3.symm y1
    have ez : e ≠ z := fun x => by subst x; rw [y2] at hoe; cases hoe; simp at hce
    refine wpAny_setField_rec y2 (by simp) fun g3 _ b3 => ?_
    exact wpAny_bind (wpAny_isInstance (T := "StopIteration") (b := true) ⟨oe, b3.extBut _ _ ez hoe, hce⟩ isSubtype_stop (wpAny_pure (q g3 _ fun c o e1 _ e3 _ x => b3.extBut _ _ e1 (b2 _ _ e3 (b1.extBut _ _ e1 x)))))
  · subst hk2
    refine wpAny_bind (D1.item k _ _ _ hk1 (frame_of D1 t1 b1 Z.d1.1) fun x g2 tk2 px u1 b2 => wpAny_pure ?_)
    replace b2 : Heap.SameBut i1 g1 g2 := b2
    have O2 : IsPair g2 TO a b := b2.extBut _ _ Z.c8 (b1.extBut _ _ Z.c2 hO)
    refine wpAny_bind (wpAny_seqItems O2 rfl (wpAny_bind (wpAny_updateSeq_pair O2 fun g3 O3 b3 => ?_)))
    replace b3 : Heap.SameBut TO g2 g3 := b3
    refine wpAny_bind (wpAny_letGo (wpAny_pure (wpAny_bind (wpAny_bind (wpAny_onRaise ?_)))))
    show wpAny (model P w) _ (Builtin.SmallTypes.nextOf (.ref i2) >>= _) _ _ _
    refine wpAny_bind (D2.done _ _ _ (frame_of D2 (frame_of D2 (frame_of D2 t2 b1 Z.d2.1) b2 Z.d2.2.2) b3 Z.d2.2.1) fun g4 e b4 he => ?_)
    obtain ⟨oe, hoe, hce⟩ := he
    replace b4 : Heap.ExtBut i2 g3 g4 := b4
    have y4 : IsZip g4 z TI TO .ellipsis := b4 _ _ Z.c4.symm (b3.extBut _ _ Z.c2.symm (b2.extBut _ _ Z.c3.symm y1))
    have ez : e ≠ z := fun x => by subst x; rw [y4] at hoe; cases hoe; simp at hce
    refine wpAny_setField_rec y4 (by simp) fun g5 _ b5 => ?_
    exact wpAny_bind (wpAny_isInstance (T := "StopIteration") (b := true) ⟨oe, b5.extBut _ _ ez hoe, hce⟩ isSubtype_stop (wpAny_pure (q g5 _ fun c o e1 e2 e3 e4 x => b5.extBut _ _ e1 (b4 _ _ e4 (b3.extBut _ _ e2 (b2.extBut _ _ e3 (b1.extBut _ _ e1 x)))))))
end
end L2

set_option Elab.async false
set_option linter.all false
set_option maxRecDepth 100000
set_option maxHeartbeats 4000000
namespace L2
open PySem PySem.Spec PyProof.Rows
def Itz (K : PySem.W.Frag) (c1 c2 : Src) : It :=
  ⟨fun i H => ∃ xs ys x y, c1.has K H xs ∧ c2.has K H ys ∧ xs[i]? = some x ∧ ys[i]? = some y,
   fun i H v H' => ∃ p x y, H p = none ∧ v = .ref p ∧ (∀ xs, c1.has K H xs → xs[i]? = some x) ∧ (∀ ys, c2.has K H ys → ys[i]? = some y) ∧ H' = upd H p (.tup [x, y]),
   fun i H => ∃ xs ys, c1.has K H xs ∧ c2.has K H ys ∧ (i = xs.length ∨ (i < xs.length ∧ i = ys.length))⟩
theorem Src.inj {X : Cx} {pins : List (Addr × Obj)} {σ : St} {H : Hp} {s : Shared} {c : Src} {xs ys : List V} (I : Inv X pins σ H s) (h1 : c.has X.K H xs) (h2 : c.has X.K H ys) : xs = ys := by
  cases c with
  | lst a => exact I.list_inj h1 h2
  | tup a => exact I.tuple_inj h1 h2
  | str l => exact Eq.trans h1 (Eq.symm h2)
theorem Src.at_keep {c : Src} {it : Addr} {i : Nat} {h h' : Heap} (st : c.at it i h) (k : ∀ o, h.get? it = some o → h'.get? it = some o) : c.at it i h' := by
  cases c with
  | lst a => obtain ⟨o, e, r⟩ := st; exact ⟨o, k o e, r⟩
  | tup a => obtain ⟨o, e, r⟩ := st; exact ⟨o, k o e, r⟩
  | str l =>
    obtain ⟨t, st⟩ := st
    rcases st with ⟨o, e, r⟩ | ⟨o, e, r⟩
    · exact ⟨t, .inl ⟨o, k o e, r⟩⟩
    · exact ⟨t, .inr ⟨o, k o e, r⟩⟩
theorem Src.at_obj {c : Src} {it : Addr} {i : Nat} {h : Heap} (st : c.at it i h) : ∃ o, h.get? it = some o ∧ ∃ vs, o.data = .fields vs := by
  cases c with
  | lst a => obtain ⟨o, e, _, r⟩ := st; exact ⟨o, e, _, r⟩
  | tup a => obtain ⟨o, e, _, r⟩ := st; exact ⟨o, e, _, r⟩
  | str l =>
    obtain ⟨t, st⟩ := st
    rcases st with ⟨o, e, _, r⟩ | ⟨o, e, _, r⟩
    · exact ⟨o, e, _, r⟩
    · exact ⟨o, e, _, r⟩
def zTn (c1 c2 : Src) (z TI TO i1 i2 : Addr) (i : Nat) (h : Heap) : Prop := IsZip h z TI TO .none ∧ IsPair h TI (.ref i1) (.ref i2) ∧ (∃ a b, IsPair h TO a b) ∧ c1.at i1 i h ∧ c2.at i2 i h
structure ZIds (z TI TO i1 i2 : Addr) : Prop where
  c1 : TI ≠ z
  c2 : TO ≠ z
  c3 : i1 ≠ z
  c4 : i2 ≠ z
  c5 : TI ≠ TO
  c6 : TI ≠ i1
  c7 : TI ≠ i2
  c8 : TO ≠ i1
  c9 : TO ≠ i2
  c10 : i1 ≠ i2
theorem zap_of {X : Cx} {pins : List (Addr × Obj)} {σ : St} {H : Hp} {s : Shared} {z TI TO i1 i2 : Addr} {fp1 fp2 : List Addr} (I : Inv X pins σ H s) (Z : ZIds z TI TO i1 i2) (hf : ∀ b ∈ [z, TI, TO, i1, i2], FpOk X pins H b)
    (g1 : ∀ b ∈ fp1, b = i1 ∨ H b ≠ none ∨ ∃ o, X.base.get? b = some o) (g2 : ∀ b ∈ fp2, b = i2 ∨ H b ≠ none ∨ ∃ o, X.base.get? b = some o) : ZApart z TI TO i1 i2 fp1 fp2 := by
  have no : ∀ b ∈ [z, TI, TO, i1, i2], ¬ (H b ≠ none ∨ ∃ o, X.base.get? b = some o) := fun b hb q => by
    rcases q with q | ⟨o, q⟩
    · exact q (hf b hb).1
    · rcases (hf b hb).2.2.2.1 with y | y
      · exact I.ok.noex b o q y
      · exact absurd (Nat.lt_of_lt_of_le (Nat.lt_of_lt_of_le (Heap.lt_size q) I.ok.bsz) y) (Nat.lt_irrefl _)
  refine ⟨Z.c1, Z.c2, Z.c3, Z.c4, Z.c5, Z.c6, Z.c7, Z.c8, Z.c9, ⟨fun m => ?_, fun m => ?_, fun m => ?_⟩, ⟨fun m => ?_, fun m => ?_, fun m => ?_⟩⟩
  · exact (g1 _ m).elim (fun e => Z.c3 e.symm) (no z (by simp))
  · exact (g1 _ m).elim (fun e => Z.c8 e) (no TO (by simp))
  · exact (g1 _ m).elim (fun e => Z.c10 e.symm) (no i2 (by simp))
  · exact (g2 _ m).elim (fun e => Z.c4 e.symm) (no z (by simp))
  · exact (g2 _ m).elim (fun e => Z.c9 e) (no TO (by simp))
  · exact (g2 _ m).elim (fun e => Z.c10 e) (no i1 (by simp))
theorem turn_zip {P : Program} {w : World} {K : PySem.W.Frag} {elts : List Expr} {kk : Nat} {tp : Pos} (c1 c2 : Src) (z TI TO i1 i2 : Addr) (Z : ZIds z TI TO i1 i2) :
    Turn P w K (.Tuple elts kk tp) (Itz K c1 c2) [z, TI, TO, i1, i2] z (zTn c1 c2 z TI TO i1 i2) where
  mem := by simp
  obj := fun i h st b hb => by
    obtain ⟨hz, hI, ⟨a, b', hO⟩, t1, t2⟩ := st
    obtain ⟨o1, e1, v1, d1⟩ := Src.at_obj t1
    obtain ⟨o2, e2, v2, d2⟩ := Src.at_obj t2
    simp only [List.mem_cons, List.not_mem_nil, or_false] at hb
    rcases hb with rfl | rfl | rfl | rfl | rfl
    · exact ⟨_, hz, fun v q => by cases (show Data.fields _ = Data.cell v from q)⟩
    · exact ⟨_, hI, fun v q => by cases (show Data.seq _ _ = Data.cell v from q)⟩
    · exact ⟨_, hO, fun v q => by cases (show Data.seq _ _ = Data.cell v from q)⟩
    · exact ⟨_, e1, fun v q => by rw [d1] at q; cases q⟩
    · exact ⟨_, e2, fun v q => by rw [d2] at q; cases q⟩
  keep := fun i h h' st k => by
    obtain ⟨hz, hI, ⟨a, b', hO⟩, t1, t2⟩ := st
    exact ⟨k z (by simp) _ hz, k TI (by simp) _ hI, ⟨a, b', k TO (by simp) _ hO⟩, Src.at_keep t1 (k i1 (by simp)), Src.at_keep t2 (k i2 (by simp))⟩
  item := by
    intro X hP hw hK hc i pins s σ H E I hf st hg
    subst hP hw hK
    obtain ⟨xs, ys, x, y, hx, hy, ex, ey⟩ := hg
    obtain ⟨hz, hI, ⟨a, b', hO⟩, t1, t2⟩ := st
    have hh : X.A.in1.handled = none := I.ok.hd hc
    obtain ⟨fp1, P1, S1, D1, u1, r1, a1, _, g1⟩ := Src.draws (A := X.A.in1) hh I hx t1 (hf i1 (by simp)).1
    obtain ⟨fp2, P2, S2, D2, u2, r2, a2, _, g2⟩ := Src.draws (A := X.A.in1) hh I hy t2 (hf i2 (by simp)).1
    have ZA := zap_of I Z hf g1 g2
    refine zipG_item D1 D2 ZA (List.getElem?_eq_some_iff.mp ex).1 (List.getElem?_eq_some_iff.mp ey).1 hz hI hO u1 u2 fun vx vy h' tk T px py hT hz' hO' w1 w2 hTp kp => ?_
    obtain ⟨x', ex', rx⟩ := r1 i vx px
    obtain ⟨y', ey', ry⟩ := r2 i vy py
    rw [ex] at ex'; cases ex'
    rw [ey] at ey'; cases ey'
    have nT : H T = none := by rw [hT]; exact I.hok.fresh (Nat.le_refl _)
    refine ⟨_, rfl, wpAny_letOwnedTupleGo_zip hz' fun h2 hz2 sb => ?_⟩
    have lt : ∀ {c o}, s.heap.get? c = some o → c ≠ T := fun e => by rw [hT]; exact Nat.ne_of_lt (Heap.lt_size e)
    have up : ∀ c o, c ≠ z → h'.get? c = some o → h2.get? c = some o := fun c o hc e => (sb.2 c hc).trans e
    have kp2 : ∀ b o, b ∉ [z, TO, i1, i2] → s.heap.get? b = some o → h2.get? b = some o := fun b o hb e => by
      simp only [List.mem_cons, List.not_mem_nil, or_false, not_or] at hb
      exact up b o hb.1 (kp b o hb.1 hb.2.1 hb.2.2.1 hb.2.2.2 e)
    have ch : ∀ b ∈ [z, TO, i1, i2], b ∈ [z, TI, TO, i1, i2] := fun b hb => by
      simp only [List.mem_cons, List.not_mem_nil, or_false] at hb ⊢
      rcases hb with h | h | h | h <;> simp [h]
    have trk : ∀ b u, H b = some u → b ∉ [z, TO, i1, i2] ∧ b ≠ T := fun b u e => ⟨fun hb => (by rw [(hf b (ch b hb)).1] at e; cases e), fun q => (by rw [q, nT] at e; cases e)⟩
    have I2 : Inv X pins σ (upd H T (.tup [x, y])) { s with heap := h2, gens := s.gens, drawn := s.drawn, toks := tk } := by
      refine I.step (g' := s.gens) (d' := s.drawn) (t' := tk) (ch := [z, TO, i1, i2]) (fun b hb => ⟨(hf b (ch b hb)).2.2.2.1, (hf b (ch b hb)).2.1, (hf b (ch b hb)).2.2.2.2.1, (hf b (ch b hb)).2.2.2.2.2⟩) (fun b o _ _ hb e _ => kp2 b o hb e) (fun b o _ _ hb e _ => ⟨o.slots, kp2 b o hb e⟩)
        (fun b o hb e n => by rw [upd_ne (lt e)]; exact n) (fun b o hb e => ⟨o, kp2 b o hb e⟩) (fun b xs e => by rw [upd_ne (trk b _ e).2]; exact e) (fun b o u e => by rw [upd_ne (trk b _ e).2]; exact e) (fun b ps e => ⟨#[], by rw [upd_ne (trk b _ e).2, e]; simp⟩) (fun m hm => ?_) (fun b u e => ?_) I.bare
      · obtain ⟨o, es, ep, ho, r⟩ := hm
        exact ⟨o, es, ep, kp2 _ o (fun hb => (hf _ (ch _ hb)).2.1 rfl) ho, r⟩
      · by_cases hb : b = T
        · subst hb
          rw [upd_same] at e; cases e
          refine ⟨(by show 2 ≤ sizeLine; rw [sizeLine_eq]; decide), [vx, vy], .cons rx (.cons ry .nil), ⟨_, up _ _ ?_ hTp, rfl, _, rfl⟩⟩
          exact fun q => lt hz q.symm
        · rw [upd_ne hb] at e
          refine (I.hok b u e).stay (fun c v hc q => kp2 c v ?_ q) (fun c q => by rw [upd_ne (trk c _ q).2]; exact q) fun c xs q => by rw [upd_ne (trk c _ q).2]; exact q
          rcases hc with q | q
          · rw [q]; exact (trk b u e).1
          · exact (trk c _ q).1
    refine ⟨.ref T, _, I2, rfl, ⟨T, x, y, nT, rfl, fun xs' h => by rw [Src.inj I h hx]; exact ex, fun ys' h => by rw [Src.inj I h hy]; exact ey, rfl⟩, ⟨hz2, up _ _ Z.c1 (kp _ _ Z.c1 Z.c5 Z.c6 Z.c7 hI), ⟨_, _, up _ _ Z.c2 hO'⟩, Src.at_keep (a1 _ _ w1) fun o e => up _ o Z.c3 e, Src.at_keep (a2 _ _ w2) fun o e => up _ o Z.c4 e⟩, fun b hb => ?_⟩
    have hbT : b ≠ T := by
      obtain ⟨o, e⟩ : ∃ o, s.heap.get? b = some o := by
        obtain ⟨o1, e1, _⟩ := Src.at_obj t1
        obtain ⟨o2, e2, _⟩ := Src.at_obj t2
        simp only [List.mem_cons, List.not_mem_nil, or_false] at hb
        rcases hb with rfl | rfl | rfl | rfl | rfl
        · exact ⟨_, hz⟩
        · exact ⟨_, hI⟩
        · exact ⟨_, hO⟩
        · exact ⟨_, e1⟩
        · exact ⟨_, e2⟩
      exact lt e
    rw [upd_ne hbT]
    exact (hf b hb).1
  done := by
    intro X hP hw hK hc i pins s σ H E I hf st hg
    subst hP hw hK
    obtain ⟨xs, ys, hx, hy, hend⟩ := hg
    obtain ⟨hz, hI, ⟨a, b', hO⟩, t1, t2⟩ := st
    have hh : X.A.in1.handled = none := I.ok.hd hc
    obtain ⟨fp1, P1, S1, D1, u1, r1, a1, _, g1⟩ := Src.draws (A := X.A.in1) hh I hx t1 (hf i1 (by simp)).1
    obtain ⟨fp2, P2, S2, D2, u2, r2, a2, _, g2⟩ := Src.draws (A := X.A.in1) hh I hy t2 (hf i2 (by simp)).1
    have ZA := zap_of I Z hf g1 g2
    have ch : ∀ b ∈ [z, TO, i1, i2], b ∈ [z, TI, TO, i1, i2] := fun b hb => by
      simp only [List.mem_cons, List.not_mem_nil, or_false] at hb ⊢
      rcases hb with h | h | h | h <;> simp [h]
    refine zipG_end hh D1 D2 ZA hend hz hI hO u1 u2 fun h2 tk kp => ⟨rfl, ?_⟩
    have kp2 : ∀ b o, b ∉ [z, TO, i1, i2] → s.heap.get? b = some o → h2.get? b = some o := fun b o hb e => by
      simp only [List.mem_cons, List.not_mem_nil, or_false, not_or] at hb
      exact kp b o hb.1 hb.2.1 hb.2.2.1 hb.2.2.2 e
    refine I.step (g' := s.gens) (d' := s.drawn) (t' := tk) (ch := [z, TO, i1, i2]) (fun b hb => ⟨(hf b (ch b hb)).2.2.2.1, (hf b (ch b hb)).2.1, (hf b (ch b hb)).2.2.2.2.1, (hf b (ch b hb)).2.2.2.2.2⟩) (fun b o _ _ hb e _ => kp2 b o hb e) (fun b o _ _ hb e _ => ⟨o.slots, kp2 b o hb e⟩)
      (fun b o hb e n => n) (fun b o hb e => ⟨o, kp2 b o hb e⟩) (fun b xs e => e) (fun b o u e => e) (fun b ps e => ⟨#[], by rw [e]; simp⟩) (fun m hm => ?_) (fun b u e => ?_) I.bare
    · obtain ⟨o, es, ep, ho, r⟩ := hm
      exact ⟨o, es, ep, kp2 _ o (fun hb => (hf _ (ch _ hb)).2.1 rfl) ho, r⟩
    · have trk : ∀ b u, H b = some u → b ∉ [z, TO, i1, i2] := fun b u e hb => by rw [(hf b (ch b hb)).1] at e; cases e
      refine (I.hok b u e).stay (fun c v hc q => kp2 c v ?_ q) (fun c q => q) fun c xs q => q
      rcases hc with q | q
      · rw [q]; exact trk b u e
      · exact trk c _ q
  self := fun _ _ _ _ _ st h => wpAny_pyIter_zip st.1 h
theorem ne2 (n a b : Nat) (h : a ≠ b) : @Ne Nat (n + a) (n + b) := fun e => h (Nat.add_left_cancel e)
def iZip (K : PySem.W.Frag) (t : TA) : TI := fun σ H R => t σ H fun vs H1 => ∃ c1 c2 xs ys, vs = [c1.val, c2.val] ∧ c1.has K H1 xs ∧ c2.has K H1 ys ∧ R (Itz K c1 c2) H1
theorem pi_zip {X : Cx} {a b : Expr} {ta : TA} {p pos tp : Pos} {elts : List Expr} {kk : Nat} (hg : Gl X "zip") (hm : X.mg "zip" = none) (ha : PA X [a, b] ta)
    (hs : starEach [a, b] X.env = [(false, eval a X.env), (false, eval b X.env)] := by rfl) (hs2 : starEach [b] X.env = [(false, eval b X.env)] := by rfl) : PI X (.Tuple elts kk tp) (.Call (.Name "zip" p) [a, b] [] pos) (iZip X.K ta) := by
  intro pins s σ H R I h
  refine Call_ (ld_blt I hg hm boot_zip (PyProof.Rows.callWith_type1 (thn (ha pos pins s σ H _ I h) fun us s1 ⟨vs, H1, I1, r1, q1⟩ => ?_) (by rw [hs, hs2]) (by rw [hs2]; rfl)))
  obtain ⟨c1, c2, xs, ys, e, h1, h2, q⟩ := q1
  subst e
  obtain ⟨v1, v2, rfl, ra, rb⟩ := vals2 r1
  obtain ⟨o1, i1, f1, n1⟩ := Src.iter I1 h1 ra fun _ _ e => e
  obtain ⟨o2, i2, f2, n2⟩ := Src.iter (h := s1.heap.push o1) I1 h2 rb fun _ _ e => Heap.get?_push_of_some _ e
  have z1 : (s1.heap.push o1).objs.size = s1.heap.objs.size + 1 := Heap.size_push ..
  rw [z1] at n2
  refine call_zipG i1 i2 f1 f2 fun h' hz hI hO e1 e2 kp => ?_
  refine wpAny_pyIter_zip hz ?_
  have zi : ∀ n : Nat, ZIds (n + 4) (n + 2) (n + 3) n (n + 1) := fun n => ⟨(ne2 n 2 4 (by decide)), (ne2 n 3 4 (by decide)), (ne2 n 0 4 (by decide)), (ne2 n 1 4 (by decide)), (ne2 n 2 3 (by decide)), (ne2 n 2 0 (by decide)), (ne2 n 2 1 (by decide)), (ne2 n 3 0 (by decide)), (ne2 n 3 1 (by decide)), (ne2 n 0 1 (by decide))⟩
  refine ⟨s1.heap.objs.size + 4, [s1.heap.objs.size + 4, s1.heap.objs.size + 2, s1.heap.objs.size + 3, s1.heap.objs.size, s1.heap.objs.size + 1], _, _, H1, rfl, I1.kept (t' := s1.toks) kp, turn_zip c1 c2 _ _ _ _ _ (zi s1.heap.objs.size), ⟨hz, hI, ⟨_, _, hO⟩, n1 h' e1, n2 h' e2⟩, fun b hb => ?_, q⟩
  have hb' : s1.heap.objs.size ≤ b := by
    simp only [List.mem_cons, List.not_mem_nil, or_false] at hb
    rcases hb with z | z | z | z | z <;> rw [z]
    · exact Nat.le_add_right _ 4
    · exact Nat.le_add_right _ 2
    · exact Nat.le_add_right _ 3
    · exact Nat.le_refl _
    · exact Nat.le_add_right _ 1
  exact I1.fpOk hb' (I1.hok.fresh hb')
theorem for_zip {K : PySem.W.Frag} {c1 c2 : Src} {xs ys : List V} {g : TG} {tb : TS} {D : Ends} {σ : St} {H : Hp} (Pv : Nat → St → Hp → Prop) (h0 : Pv 0 σ H) (hl : ∀ i σ H, Pv i σ H → c1.has K H xs ∧ c2.has K H ys) (hn : xs.length = ys.length)
    (hs : ∀ i x y p σ H, xs[i]? = some x → ys[i]? = some y → H p = none → Pv i σ H → g (.ref p) σ (upd H p (.tup [x, y])) fun σ2 H2 => tb { D with nx := Pv (i + 1), ct := Pv (i + 1), bk := D.nx } σ2 H2) (hd : ∀ σ H, Pv xs.length σ H → D.nx σ H) :
    ∃ W : Nat → Nat → St → Hp → Prop, (∃ m, W 0 m σ H) ∧ ∀ i m σ H, W i m σ H →
      ((Itz K c1 c2).stop i H ∧ D.nx σ H) ∨ ((Itz K c1 c2).go i H ∧ ∃ N : St → Hp → Prop, (∀ σ' H', N σ' H' → ∃ m', m' < m ∧ W (i + 1) m' σ' H') ∧ ∀ x H', (Itz K c1 c2).yld i H x H' → g x σ H' fun σ2 H2 => tb { D with nx := N, ct := N, bk := D.nx } σ2 H2) := by
  refine ⟨fun i m σ H => m = xs.length - i ∧ i ≤ xs.length ∧ Pv i σ H, ⟨xs.length, by simp, Nat.zero_le _, h0⟩, ?_⟩
  rintro i m σ H ⟨rfl, hi, p⟩
  obtain ⟨q1, q2⟩ := hl i σ H p
  by_cases hlt : i < xs.length
  · refine .inr ⟨⟨xs, ys, xs[i], ys[i], q1, q2, by simp [hlt], by simp [← hn, hlt]⟩, Pv (i + 1), fun σ' H' p' => ⟨xs.length - (i + 1), by omega, rfl, hlt, p'⟩, fun v H' ⟨a, x, y, na, ev, ex, ey, eh⟩ => ?_⟩
    subst ev eh
    exact hs i x y a σ H (ex xs q1) (ey ys q2) na p
  · have e : i = xs.length := by omega
    subst e
    exact .inl ⟨⟨xs, ys, q1, q2, .inl rfl⟩, hd σ H p⟩
end L2

set_option Elab.async false
set_option linter.all false
set_option maxRecDepth 100000
set_option maxHeartbeats 4000000
namespace L2
open PySem PySem.Spec PyProof.Rows
/-! ### W6. own defs by name, scopes of comprehensions -/
structure Cal (P : Program) (w : World) (K : PySem.W.Frag) (mg : Str → Option Value) (base : Heap) (x : Str) (ps : List Str) (k : Nat) (sp : Sp) : Prop where
  ex : ∃ (f : Addr) (fd : FuncData), FnOk P w K mg base CX0 k f fd ps sp ∧ mg x = some (.ref f) ∧ PySem.W.keepIn K (.ref f) = true ∧ Binds K fd ps []
theorem pe_cal {X : Cx} {x : Str} {ps : List Str} {k : Nat} {sp : Sp} {p pos : Pos} {e : Expr} {es : List Expr} {t : TA} (C : Cal X.prog X.w X.K X.mg X.base x ps k sp) (hr : Room k X.A) (hg : Gl X x) (ha : PA X (e :: es) t)
    (hdb : (x == ("__debug__" : Str)) = false := by decide) (he : starEach (e :: es) X.env = (false, eval e X.env) :: starEach es X.env := by rfl) (hpl : (backTo pos (starEach es X.env)).any (·.1) = false := by rfl) :
    PE X (.Call (.Name x p) (e :: es) [] pos) (tCall sp [] E0 t) := by
  obtain ⟨f, fd, F, hm, hk, hb⟩ := C.ex
  exact pe_call F hr hg hm hk hb .nil pass0 ha hdb he hpl
theorem mkCS {X : Cx} {scope : Scope} {N : List Str} {cap : List (Option Nat)} (kind : scope.kind = .function) (nd : N.Nodup) (len : cap.length = N.length) (uniq : (scope.names.map (·.1)).Nodup)
    (fr : (scope.names.all fun x => x.2 != .free || (X.env.kindOf x.1 == some .cell || X.env.kindOf x.1 == some .free)) = true)
    (cp : ((N.zip cap).all fun p => match p.2 with | none => true | some j => X.N[j]? == some p.1 && scope.names.contains (p.1, NameKind.free)) = true) : CompScope X scope N cap := by
  refine ⟨kind, nd, len, uniq, fun x hx hk => ?_, fun k x j h1 h2 => ?_⟩
  · have := List.all_eq_true.mp fr x hx
    rw [hk] at this
    simpa using this
  · have hm : (x, some j) ∈ N.zip cap := by
      rw [List.mem_iff_getElem?]
      exact ⟨k, by rw [List.getElem?_zip_eq_some]; exact ⟨h1, h2⟩⟩
    have := List.all_eq_true.mp cp _ hm
    simpa using this
/-! ### W7. two values that hold the same data -/
def flat : V → Bool
  | .non => true
  | .bl _ => true
  | .int _ => true
  | .str _ => true
  | _ => false
def Eqv (H : Hp) : Nat → V → V → Prop
  | 0, v, u => v = u ∧ flat v = true
  | n + 1, v, u => (v = u ∧ flat v = true) ∨ ∃ p q xs ys, v = .ref p ∧ u = .ref q ∧ ((H p = some (.lst xs) ∧ H q = some (.lst ys)) ∨ (H p = some (.tup xs) ∧ H q = some (.tup ys))) ∧ xs.length = ys.length ∧
      ∀ (i : Nat) (x y : V), xs[i]? = some x → ys[i]? = some y → Eqv H n x y
theorem Eqv.same {H H' : Hp} (e : Same H H') : ∀ {n : Nat} {v u : V}, Eqv H n v u → Eqv H' n v u
  | 0, _, _, h => h
  | n + 1, _, _, h => by
    rcases h with h | ⟨p, q, xs, ys, h1, h2, h3, h4, h5⟩
    · exact .inl h
    · refine .inr ⟨p, q, xs, ys, h1, h2, ?_, h4, fun i x y e1 e2 => Eqv.same e (h5 i x y e1 e2)⟩
      rcases h3 with ⟨a, b⟩ | ⟨a, b⟩
      · exact .inl ⟨e _ _ a, e _ _ b⟩
      · exact .inr ⟨e _ _ a, e _ _ b⟩
theorem Eqv.flat {H : Hp} {n : Nat} {v : V} (h : L2.flat v = true) : Eqv H n v v := by cases n with | zero => exact ⟨rfl, h⟩ | succ n => exact .inl ⟨rfl, h⟩
theorem same_upd {H : Hp} {p : Addr} {o : HO} (h : H p = none) : Same H (upd H p o) := fun b u e => by rw [upd_ne (ne_of_none e h)]; exact e
theorem same_at {H H' : Hp} {p : Addr} {o : HO} (e : Same H H') (h : H p = some o) : H' p = some o := e p o h
end L2
namespace L2
open PySem PySem.Spec PyProof.Rows
section
variable {CX : CXT} {P : Program} {w : World} {K : PySem.W.Frag} {mg : Str → Option Value} {base : Heap} {N : List Str} {qual : Str} {scope : Scope} {f : Addr} {cd : Value} {A : Around} {outer : List Env} {s s' : Shared} {H H' : Hp} {E : XK} {X : Cx} {C : Addr} {fp : List Addr}
theorem cxK : (cxOf CX P w K mg base N qual scope f cd A outer s H E).K = K := rfl
theorem cxW : (cxOf CX P w K mg base N qual scope f cd A outer s H E).w = w := rfl
theorem cxKn : (cxOf CX P w K mg base N qual scope f cd A outer s H E).nox.K = K := rfl
theorem cxWn : (cxOf CX P w K mg base N qual scope f cd A outer s H E).nox.w = w := rfl
theorem cpK : (compCx X scope N s H C fp).K = X.K := rfl
theorem cpW : (compCx X scope N s H C fp).w = X.w := rfl
end
theorem ofS (x : String) (l : List Nat) (h : (Str.ofString x).cps.toList = l) : Str.ofString x = sOf l := by rw [of_sOf (Str.ofString x), h]
end L2
namespace L2
open PySem PySem.Spec PyProof.Rows
section
variable {X : Cx} {K : PySem.W.Frag} {w : World}
theorem ix_tupK (h : X.K = K) : IxR X (rIxT K) := h ▸ ix_tup
theorem ix_listK (h : X.K = K) : IxR X (rIxL K) := h ▸ ix_list
theorem call_lenK (h : X.K = K) : CallR X (.builtin "len") (fun xs H Q => ∃ x n, xs = [x] ∧ LenV K x H n ∧ Q (.int n) H) := h ▸ call_len
theorem call_isinstK (h : X.K = K) : CallR X (.builtin "isinstance") (fun xs H Q => ∃ x T t b, xs = [x, .ty T] ∧ TyOf K H x t ∧ PySem.W.kitOne K t (.type T) = some b ∧ Q (.bl b) H) := h ▸ call_isinst
theorem mt_joinK (h : X.K = K) : MtR X "str.join" (fun x xs H Q => ∃ (p : Addr) (ys : List (List Nat)), x = .str (sOf []) ∧ xs = [.ref p] ∧ SqL K H p (ys.map fun y => V.str (sOf y)) ∧ ys.flatten.length ≤ 100000 ∧ Q (.str (sOf ys.flatten)) H) := h ▸ mt_join
theorem sl_listK (h : X.K = K) : SlR X (rSlL K) := h ▸ sl_list
theorem pe_dgetKK (h : X.K = K) (hw : X.w = w) {o i : Expr} {pos : Pos} {td ty : TE} (ho : PE X o td) (hi : PE X i ty) (hs : NoSl i) : PE X (.Subscript o i pos) (tDGetK K w td ty) := h ▸ hw ▸ pe_dgetK ho hi hs
theorem pg_tupK (h : X.K = K) {pos : Pos} {es : List Expr} {k : Nat} {t : TGs} {n : Nat} (hc : X.calm = true) (hg : PGs X es t) (hn : (assignEach es X.env).length = n := by rfl) (hst : (assignEach es X.env).findIdx? (·.1) = none := by rfl) : PG X (.Tuple es k pos) (gTup K n t) := h ▸ pg_tup hc hg hn hst
theorem pi_listK (h : X.K = K) {tg l : Expr} {tl : TE} (hl : PE X l tl) : PI X tg l (iList K tl) := h ▸ pi_list hl
theorem pi_zipK (h : X.K = K) {a b : Expr} {ta : TA} {p pos tp : Pos} {elts : List Expr} {kk : Nat} (hg : Gl X "zip") (hm : X.mg "zip" = none) (ha : PA X [a, b] ta)
    (hs : starEach [a, b] X.env = [(false, eval a X.env), (false, eval b X.env)] := by rfl) (hs2 : starEach [b] X.env = [(false, eval b X.env)] := by rfl) : PI X (.Tuple elts kk tp) (.Call (.Name "zip" p) [a, b] [] pos) (iZip K ta) := h ▸ pi_zip hg hm ha hs hs2
theorem pe_bmK (h : X.K = K) {o e : Expr} {es : List Expr} {to : TE} {t : TA} {name : Str} {apos cpos : Pos} {T id : String} {r : V → List V → Hp → VK → Prop} (pa : PlainAttrs T) (slot : Slot T name id) (hty : typeOf (.builtin id) = pure (.type "method_descriptor")) (hm : MtR X id r) (ho : PE X o to) (ha : PA X (e :: es) t)
    (hbase : attributeBase o name X.env (eval o X.env) = eval o X.env := by rfl)
    (hfew : ((backTo cpos (starEach (e :: es) X.env)).all (fun x => !x.1) && (backToKw cpos (keywordEach [] X.env)).all (fun x => x.1.isSome) && decide ((e :: es).length + ([] : List Keyword).length + (if ([] : List Keyword).isEmpty then 0 else 1) < 30)) = true := by rfl)
    (hline : (apos.endLine == cpos.line) = true := by rfl) (hs : starEach (e :: es) X.env = (false, eval e X.env) :: starEach es X.env := by rfl) (hplain : (backTo cpos (starEach es X.env)).any (·.1) = false := by rfl) :
    PE X (.Call (.Attribute o name apos) (e :: es) [] cpos) (tBM K T r to t) := h ▸ pe_bm pa slot hty hm ho ha hbase hfew hline hs hplain
end
end L2

set_option Elab.async false
set_option linter.all false
set_option maxRecDepth 100000
set_option maxHeartbeats 4000000
namespace L2
open PySem PySem.Spec PyProof.Rows
/-! ### W8. enumerate of a list -/
end L2

set_option Elab.async false
set_option linter.all false
set_option maxRecDepth 100000
set_option maxHeartbeats 4000000
namespace L2
open PySem PySem.Spec PyProof.Rows
section
variable {cap : List (Option Nat)} {g : TG} {tf : TT} {te : TE} {σ : St} {H : Hp} {Q : VK}
theorem comp_zip {K : PySem.W.Frag} {c1 c2 : Src} {xs zs : List V} (hn : xs.length ≤ 100000) (hxz : xs.length = zs.length) (Pv : Nat → List V → Hp → Prop) (h0 : Pv 0 [] H) (hl : ∀ i ys H, Pv i ys H → ys.length ≤ i ∧ c1.has K H xs ∧ c2.has K H zs)
    (hs : ∀ i x z p ys H, xs[i]? = some x → zs[i]? = some z → H p = none → Pv i ys H → g (.ref p) (capSt cap σ) (upd H p (.tup [x, z])) fun σ2 H2 => Keep (capSt cap σ) σ2 ∧ tf σ2 H2 fun b H3 => if b = true then te σ2 H3 fun y H4 => Pv (i + 1) (ys ++ [y]) H4 else Pv (i + 1) ys H3)
    (hd : ∀ ys H, Pv xs.length ys H → ∀ D, H D = none → Q (.ref D) (upd H D (.lst ys))) : CompW cap g tf te σ H Q (Itz K c1 c2) := by
  refine ⟨fun i m ys H => m = xs.length - i ∧ i ≤ xs.length ∧ Pv i ys H, ⟨xs.length, by simp, Nat.zero_le _, h0⟩, ?_⟩
  rintro i m ys H ⟨rfl, hi, p⟩
  refine ⟨by have := (hl i ys H p).1; rw [sizeLine_eq]; omega, ?_⟩
  obtain ⟨_, q1, q2⟩ := hl i ys H p
  by_cases hlt : i < xs.length
  · refine .inr ⟨⟨xs, zs, xs[i], zs[i], q1, q2, by simp [hlt], by simp [← hxz, hlt]⟩, Pv (i + 1), fun ys' H' p' => ⟨xs.length - (i + 1), by omega, rfl, hlt, p'⟩, fun v H' ⟨b, x, z, nb, ev, ex, ez, eh⟩ => ?_⟩
    subst ev eh
    exact hs i x z b ys H (ex xs q1) (ez zs q2) nb p
  · have e : i = xs.length := by omega
    subst e
    exact .inl ⟨⟨xs, zs, q1, q2, .inl rfl⟩, hd ys H p⟩
end
end L2

set_option Elab.async false
set_option linter.all false
set_option maxRecDepth 100000
set_option maxHeartbeats 4000000
namespace Wb
open PySem L2
/-! values that stand for data: R H m v = "in the heap H the value v stands for m" -/
abbrev Rp (α : Type) := Hp → α → V → Prop
class Mono {α : Type} (R : Rp α) : Prop where
  mono : ∀ {H H' : Hp} {m : α} {v : V}, Same H H' → R H m v → R H' m v
def del (H : Hp) (p : Addr) : Hp := fun a => if a = p then none else H a
theorem del_ne {H : Hp} {p a : Addr} (h : a ≠ p) : del H p a = H a := by simp [del, h]
theorem del_same {H : Hp} {p : Addr} : Same (del H p) H := fun a o e => by
  unfold del at e; split at e; cases e; exact e
theorem same_del {H H' : Hp} {p : Addr} (h : Same H H') : Same (del H p) (del H' p) := fun a o e => by
  unfold del at e ⊢; split at e; cases e; rw [if_neg (by assumption)]; exact h _ _ e
theorem del_upd {H : Hp} {p : Addr} {o : HO} : del (upd H p o) p = del H p := by
  funext a; unfold del; split; rfl; exact upd_ne (by assumption)
/-- no list is reached but through a list's own relation -/
class Off {α : Type} (R : Rp α) : Prop where
  off : ∀ {H : Hp} {p : Addr} {vs : List V} {m : α} {v : V}, H p = some (.lst vs) → R H m v → R (del H p) m v
def LR {α : Type} (R : Rp α) (H : Hp) (ms : List α) (vs : List V) : Prop := vs.length = ms.length ∧ ∀ (i : Nat) (v : V) (m : α), vs[i]? = some v → ms[i]? = some m → R H m v
theorem LR.nil {α : Type} {R : Rp α} {H : Hp} : LR R H [] [] := ⟨rfl, fun i v m e => by simp at e⟩
theorem LR.same {α : Type} {R : Rp α} [Mono R] {H H' : Hp} {ms : List α} {vs : List V} (h : LR R H ms vs) (e : Same H H') : LR R H' ms vs := ⟨h.1, fun i v m a b => Mono.mono e (h.2 i v m a b)⟩
theorem LR.snoc {α : Type} {R : Rp α} {H : Hp} {ms : List α} {vs : List V} {m : α} {v : V} (h : LR R H ms vs) (r : R H m v) : LR R H (ms ++ [m]) (vs ++ [v]) := by
  refine ⟨by simp [h.1], fun i v' m' a b => ?_⟩
  by_cases hi : i < vs.length
  · rw [List.getElem?_append_left hi] at a
    rw [List.getElem?_append_left (by rw [← h.1]; exact hi)] at b
    exact h.2 i v' m' a b
  · rw [List.getElem?_append_right (by omega)] at a
    rw [List.getElem?_append_right (by rw [← h.1]; omega)] at b
    rw [← h.1] at b
    cases e : i - vs.length with
    | zero => rw [e] at a b; simp at a b; subst a b; exact r
    | succ n => rw [e] at a; simp at a
theorem LR.get {α : Type} {R : Rp α} {H : Hp} {ms : List α} {vs : List V} {i : Nat} {m : α} (h : LR R H ms vs) (e : ms[i]? = some m) : ∃ v, vs[i]? = some v ∧ R H m v := by
  have hi : i < vs.length := by rw [h.1]; exact (List.getElem?_eq_some_iff.mp e).1
  exact ⟨vs[i], by simp [hi], h.2 i _ m (by simp [hi]) e⟩
theorem LR.got {α : Type} {R : Rp α} {H : Hp} {ms : List α} {vs : List V} {i : Nat} {v : V} (h : LR R H ms vs) (e : vs[i]? = some v) : ∃ m, ms[i]? = some m ∧ R H m v := by
  have hi : i < ms.length := by rw [← h.1]; exact (List.getElem?_eq_some_iff.mp e).1
  exact ⟨ms[i], by simp [hi], h.2 i v _ e (by simp [hi])⟩
def isL {α : Type} (R : Rp α) : Rp (List α) := fun H ms v => ∃ p vs, v = .ref p ∧ H p = some (.lst vs) ∧ LR R H ms vs
instance {α : Type} {R : Rp α} [Mono R] : Mono (isL R) := ⟨fun e ⟨p, vs, h1, h2, h3⟩ => ⟨p, vs, h1, e _ _ h2, h3.same e⟩⟩
theorem isL.new {α : Type} {R : Rp α} [Mono R] {H : Hp} {ms : List α} {vs : List V} {D : Addr} (h : LR R H ms vs) (e : H D = none) : isL R (upd H D (.lst vs)) ms (.ref D) := ⟨D, vs, rfl, upd_same, h.same (same_upd e)⟩
theorem LR.off {α : Type} {R : Rp α} [Off R] {H : Hp} {p : Addr} {us : List V} {ms : List α} {vs : List V} (hp : H p = some (.lst us)) (h : LR R H ms vs) : LR R (del H p) ms vs := ⟨h.1, fun i v m a b => Off.off hp (h.2 i v m a b)⟩
theorem isL.off {α : Type} {R : Rp α} [Off R] {H : Hp} {p q : Addr} {us : List V} {ms : List α} (hp : H p = some (.lst us)) (ne : q ≠ p) (h : isL R H ms (.ref q)) : isL R (del H p) ms (.ref q) := by
  obtain ⟨q', vs, e, h2, h3⟩ := h
  cases e
  exact ⟨q, vs, rfl, by rw [del_ne ne]; exact h2, h3.off hp⟩
def isS : Rp (List Nat) := fun _ l v => v = .str (sOf l)
instance : Mono isS := ⟨fun _ h => h⟩
instance : Off isS := ⟨fun _ h => h⟩
def isI : Rp Int := fun _ l v => v = .int l
instance : Mono isI := ⟨fun _ h => h⟩
instance : Off isI := ⟨fun _ h => h⟩
/-- the list at p is made since H and stands for ms; nothing in it hangs on p itself -/
structure Own {α : Type} (R : Rp α) (H H3 : Hp) (p : Addr) (ms : List α) : Prop where
  same : Same H H3
  new : H p = none
  has : ∃ vs, H3 p = some (.lst vs) ∧ LR R (del H3 p) ms vs
theorem Own.start {α : Type} {R : Rp α} {H : Hp} {p : Addr} (h : H p = none) : Own R H (upd H p (.lst [])) p [] := ⟨same_upd h, h, [], upd_same, .nil⟩
theorem Own.step {α : Type} {R : Rp α} [Mono R] {H H3 H4 : Hp} {p : Addr} {ms : List α} (o : Own R H H3 p ms) (e : Same H3 H4) : Own R H H4 p ms := by
  obtain ⟨vs, h1, h2⟩ := o.has
  exact ⟨o.same.trans e, o.new, vs, e _ _ h1, h2.same (same_del e)⟩
theorem Own.app {α : Type} {R : Rp α} {H H3 : Hp} {p : Addr} {ms : List α} {m : α} {v : V} (o : Own R H H3 p ms) (r : R (del H3 p) m v) : ∃ vs, H3 p = some (.lst vs) ∧ vs.length = ms.length ∧ Own R H (upd H3 p (.lst (vs ++ [v]))) p (ms ++ [m]) := by
  obtain ⟨vs, h1, h2⟩ := o.has
  refine ⟨vs, h1, h2.1, fun a u e => ?_, o.new, _, upd_same, ?_⟩
  · rw [upd_ne (ne_of_none e o.new)]; exact o.same _ _ e
  · rw [del_upd]; exact h2.snoc r
theorem Own.appO {α : Type} {R : Rp α} [Off R] {H H3 : Hp} {p : Addr} {ms : List α} {m : α} {v : V} (o : Own R H H3 p ms) (r : R H3 m v) : ∃ vs, H3 p = some (.lst vs) ∧ vs.length = ms.length ∧ Own R H (upd H3 p (.lst (vs ++ [v]))) p (ms ++ [m]) := by
  obtain ⟨vs, h1, _⟩ := o.has
  exact o.app (Off.off h1 r)
theorem Own.fin {α : Type} {R : Rp α} [Mono R] {H H3 : Hp} {p : Addr} {ms : List α} (o : Own R H H3 p ms) : isL R H3 ms (.ref p) := by
  obtain ⟨vs, h1, h2⟩ := o.has
  exact ⟨p, vs, rfl, h1, h2.same del_same⟩
/-! lists by their places -/
def rng {α : Type} (n : Nat) (F : Nat → α) : List α := (List.range n).map F
theorem rng_len {α : Type} {n : Nat} {F : Nat → α} : (rng n F).length = n := by simp [rng]
theorem rng_succ {α : Type} {n : Nat} {F : Nat → α} : rng (n + 1) F = rng n F ++ [F n] := by simp [rng, List.range_succ]
theorem rng_get {α : Type} {n i : Nat} {F : Nat → α} (h : i < n) : (rng n F)[i]? = some (F i) := by simp [rng, h]
theorem rng_got {α : Type} {n i : Nat} {F : Nat → α} {m : α} (h : (rng n F)[i]? = some m) : i < n ∧ m = F i := by
  have hi := (List.getElem?_eq_some_iff.mp h).1
  rw [rng_len] at hi
  rw [rng_get hi] at h
  exact ⟨hi, (Option.some.inj h).symm⟩
theorem rng_ext {α : Type} {n : Nat} {F G : Nat → α} (h : ∀ i, i < n → F i = G i) : rng n F = rng n G := by
  unfold rng
  exact List.map_congr_left fun i hi => h i (List.mem_range.mp hi)
theorem LR.at {α : Type} {R : Rp α} {H : Hp} {n i : Nat} {F : Nat → α} {vs : List V} {v : V} (h : LR R H (rng n F) vs) (e : vs[i]? = some v) : i < n ∧ R H (F i) v := by
  obtain ⟨m, a, b⟩ := h.got e
  obtain ⟨a1, a2⟩ := rng_got a
  exact ⟨a1, a2 ▸ b⟩
theorem LR.to {α : Type} {R : Rp α} {H : Hp} {n i : Nat} {F : Nat → α} {vs : List V} (h : LR R H (rng n F) vs) (hi : i < n) : ∃ v, vs[i]? = some v ∧ R H (F i) v := h.get (rng_get hi)
theorem LR.rsnoc {α : Type} {R : Rp α} {H : Hp} {n : Nat} {F : Nat → α} {vs : List V} {v : V} (h : LR R H (rng n F) vs) (r : R H (F n) v) : LR R H (rng (n + 1) F) (vs ++ [v]) := by rw [rng_succ]; exact h.snoc r
theorem LR.len {α : Type} {R : Rp α} {H : Hp} {n : Nat} {F : Nat → α} {vs : List V} (h : LR R H (rng n F) vs) : vs.length = n := by rw [h.1, rng_len]
theorem LR.str {H : Hp} {ms : List (List Nat)} {vs : List V} (h : LR isS H ms vs) : vs = ms.map fun l => V.str (sOf l) := by
  refine List.ext_getElem? fun i => ?_
  rw [List.getElem?_map]
  cases e : ms[i]? with
  | none => rw [List.getElem?_eq_none_iff] at e; rw [List.getElem?_eq_none_iff.mpr (by rw [h.1]; exact e)]; rfl
  | some m => obtain ⟨v, a, b⟩ := h.get e; rw [a]; cases b; rfl
theorem LR.ofS {H : Hp} (ms : List (List Nat)) : LR isS H ms (ms.map fun l => V.str (sOf l)) := ⟨by simp, fun i v m a b => by rw [List.getElem?_map, b] at a; cases a; rfl⟩
theorem flatr (n : Nat) (F : Nat → Nat) : ((rng n fun k => [F k]).flatten) = rng n F := by
  induction n with
  | zero => rfl
  | succ n ih => rw [rng_succ, rng_succ, List.flatten_append, ih]; simp
end Wb

set_option Elab.async false
set_option linter.all false
set_option maxRecDepth 100000
set_option maxHeartbeats 4000000
namespace L2
open PySem PySem.Spec PyProof.Rows
section
variable {X : Cx} {K : PySem.W.Frag} {w : World}
theorem call_list_ofK (h : X.K = K) : CallR X (.type "list") (fun xs H Q => ∃ p ys, xs = [.ref p] ∧ (SqL K H p ys ∨ SqT K H p ys) ∧ ∀ l, H l = none → Q (.ref l) (upd H l (.lst ys))) := h ▸ call_list_of
end
end L2
namespace Wb
open PySem L2
theorem LR.take {α : Type} {R : Rp α} {H : Hp} {ms : List α} {vs : List V} (h : LR R H ms vs) (k : Nat) : LR R H (ms.take k) (vs.take k) := by
  refine ⟨by simp [h.1], fun i v m a b => ?_⟩
  rw [List.getElem?_take] at a b
  split at a
  · rw [if_pos (by assumption)] at b; exact h.2 i v m a b
  · cases a
theorem LR.drop {α : Type} {R : Rp α} {H : Hp} {ms : List α} {vs : List V} (h : LR R H ms vs) (k : Nat) : LR R H (ms.drop k) (vs.drop k) := by
  refine ⟨by simp [h.1], fun i v m a b => ?_⟩
  rw [List.getElem?_drop] at a b
  exact h.2 _ v m a b
/-- and its address is new since H0 -/
def isF {α : Type} (H0 : Hp) (R : Rp α) : Rp α := fun H m v => R H m v ∧ ∀ q, v = .ref q → H0 q = none
instance {α : Type} {H0 : Hp} {R : Rp α} [Mono R] : Mono (isF H0 R) := ⟨fun e ⟨a, b⟩ => ⟨Mono.mono e a, b⟩⟩
theorem LR.unF {α : Type} {H0 : Hp} {R : Rp α} {H : Hp} {ms : List α} {vs : List V} (h : LR (isF H0 R) H ms vs) : LR R H ms vs := ⟨h.1, fun i v m a b => (h.2 i v m a b).1⟩
theorem isL.unF {α : Type} {H0 : Hp} {R : Rp α} {H : Hp} {ms : List α} {v : V} (h : isL (isF H0 R) H ms v) : isL R H ms v := by
  obtain ⟨p, vs, a, b, c⟩ := h
  exact ⟨p, vs, a, b, c.unF⟩
theorem none_of {H H' : Hp} {p : Addr} (e : Same H H') (h : H' p = none) : H p = none := by
  cases z : H p with
  | none => rfl
  | some x => have := e _ _ z; rw [h] at this; cases this
theorem same_keep {H H3 : Hp} {p : Addr} {o : HO} (e : Same H H3) (h : H p = none) : Same H (upd H3 p o) := fun a u z => by
  rw [upd_ne (ne_of_none z h)]; exact e _ _ z
end Wb

set_option Elab.async false
set_option linter.all false
set_option maxRecDepth 100000
set_option maxHeartbeats 4000000
namespace L2
open PySem PySem.Spec PyProof.Rows
/-! ### W8. sum, max and all of a list -/
section
variable {X : Cx} {K : PySem.W.Frag} {w : World}
end
end L2

set_option Elab.async false
set_option linter.all false
set_option maxRecDepth 100000
set_option maxHeartbeats 4000000
namespace L2
open PySem PySem.Spec PyProof.Rows
/-! ### W9. list of a text, sorted of a list and of a dict -/
theorem vals_idx : ∀ (xs : List V) (us : List Value), us.length = xs.length → (∀ (j : Nat) (x : V) (u : Value), xs[j]? = some x → us[j]? = some u → RelV x u) → Vals xs us
  | [], [], _, _ => .nil
  | x :: xs, u :: us, hl, h => .cons (h 0 x u rfl rfl) (vals_idx xs us (by simpa using hl) fun j x u a b => h (j + 1) x u (by simpa using a) (by simpa using b))
  | [], _ :: _, hl, _ => by simp at hl
  | _ :: _, [], hl, _ => by simp at hl
theorem paired_at {α β : Type} {F : α → β → Prop} : ∀ {l₁ : List α} {l₂ : List β}, Paired F l₁ l₂ → ∀ {j : Nat} {b : β}, l₂[j]? = some b → ∃ a, l₁[j]? = some a ∧ F a b
  | _, _, .nil, j, b, h => by simp at h
  | _, _, .cons r rs, 0, b, h => by simp at h; subst h; exact ⟨_, rfl, r⟩
  | _, _, .cons r rs, j + 1, b, h => by simp at h; obtain ⟨a, h1, h2⟩ := paired_at rs h; exact ⟨a, by simpa using h1, h2⟩
section
variable {X : Cx} {K : PySem.W.Frag} {w : World}
theorem call_list_strK (hc : X.calm = true) : CallR X (.type "list") (fun xs H Q => ∃ l : List Nat, xs = [.str (sOf l)] ∧ l.length ≤ sizeLine ∧ ∀ p, H p = none → Q (.ref p) (upd H p (.lst (l.map fun c => V.str (sOf [c]))))) := by
  intro pins s σ H xs us Q I r h
  obtain ⟨l, rfl, hl, q⟩ := h
  obtain ⟨u, rfl, t, rfl⟩ := vals1 r
  refine PySem.call_list_str (I.ok.hd hc) (sOf l) t (fun h' tk acc c' hk e hacc => ?_) (by simpa [sOf] using hl)
  refine ⟨.ref s.heap.objs.size, _, I.laid (t' := tk) hk (Nat.le_refl _) (show ObjOk X.prog X.w _ h' _ (.lst (l.map fun c => V.str (sOf [c]))) from ⟨by rw [List.length_map]; exact hl, acc.toList, c', ?_, by rw [Array.toArray_toList]; exact e⟩), rfl, q _ (I.hok.fresh (Nat.le_refl _))⟩
  refine vals_idx _ _ (by rw [Array.length_toList, hacc.1, List.length_map]; simp [sOf]) fun j x u hx hu => ?_
  obtain ⟨c, t', h1, rfl⟩ := hacc.2 j u (by rw [← Array.getElem?_toList]; exact hu)
  rw [List.getElem?_map] at hx
  obtain ⟨c', h2, rfl⟩ := Option.map_eq_some_iff.mp hx
  have h3 : l[j]? = some c := by simpa [sOf] using h1
  rw [h3] at h2; cases h2
  exact ⟨t', rfl⟩
theorem call_sorted1 (h : X.K = K) : CallR X (.builtin "sorted") (fun xs H Q => ∃ (p : Addr) (ns : List Int), xs = [.ref p] ∧ SqL K H p (ns.map V.int) ∧ ns.length < 64 ∧ ∀ (q : Addr) (ns' : List Int), H q = none → ns'.Perm ns → ns'.Pairwise (· ≤ ·) → Q (.ref q) (upd H q (.lst (ns'.map V.int)))) := by
  subst h
  intro pins s σ H xs us Q I r h
  obtain ⟨p, ns, rfl, hq, h64, q⟩ := h
  obtain ⟨u, rfl, rx⟩ := vals1 r
  cases rx
  obtain ⟨its, r', pl, hz⟩ := I.list hq
  have hi := intsAre_of r'
  have hlen := IntsAre.length hi
  refine sorted_ints pl.isList hi (by omega) fun out ns' a1 a2 a3 => ?_
  obtain ⟨e, he⟩ := sortedAll_at s.heap its out
  have hl' := a2.length_eq
  refine ⟨.ref (s.heap.objs.size + 1), _, I.laid (t' := s.toks) (fun _ _ => sortedAll_old) (Nat.le_succ _) (show ObjOk X.prog X.w _ _ _ (.lst (ns'.map V.int)) from ⟨by rw [List.length_map, sizeLine_eq]; omega, out.toList, e, vals_ints a1, by rw [Array.toArray_toList]; exact he⟩), rfl, q _ ns' (I.hok.fresh (Nat.le_succ _)) a2 a3⟩
theorem call_sortedD (hc : X.calm = true) : CallR X (.builtin "sorted") (fun xs H Q => ∃ (p : Addr) (kvs : List (Key × V)) (ns : List Int), xs = [.ref p] ∧ H p = some (.dK kvs) ∧ kvs.map (·.1) = ns.map Sum.inl ∧ ns.length < 64 ∧ ∀ (q : Addr) (ns' : List Int), H q = none → ns'.Perm ns → ns'.Pairwise (· ≤ ·) → Q (.ref q) (upd H q (.lst (ns'.map V.int)))) := by
  intro pins s σ H xs us Q I r h
  obtain ⟨p, kvs, ns, rfl, hp, hks, h64, q⟩ := h
  obtain ⟨u, rfl, rx⟩ := vals1 r
  cases rx
  obtain ⟨hz, lo, vs, kv, hD⟩ := I.hok p _ hp
  obtain ⟨ep, hat⟩ := hD.dictAt
  have hvl : vs.length = ns.length := by
    have h1 : kvs.length = vs.length := Paired.length kv
    have h2 := congrArg List.length hks
    simp at h2; omega
  refine Calls.call_function_entry kind_sorted plain_sorted entry_sorted (args_sorted1 _) ?_
  unfold Builtin.«sorted»
  refine wpAny_bind (m := checkCount "sorted" 1 1 _) (wpAny_pure ?_)
  refine wpAny_bind (PySem.W.kdu_collect (A := X.A.in1) (PySem.W.kdl_dict (knd := mixKind X.prog X.w) (kvs := vs) (ep := ep) lo) (I.ok.hd hc) hat (by rw [sizeLine_eq]; omega) fun h' tk acc hk hacc => ?_)
  have hal : acc.toList.length = ns.length := by rw [Array.length_toList, hacc.1, hvl]
  have hI : IntsAre acc.toList ns := intsAre_of (vals_idx _ _ (by rw [hal, List.length_map]) fun j x u hx hu => by
    obtain ⟨k, y, h1, h2⟩ := hacc.2 j u (by rw [← Array.getElem?_toList]; exact hu)
    rw [List.getElem?_map] at hx
    obtain ⟨n, h3, rfl⟩ := Option.map_eq_some_iff.mp hx
    have h4 : (kvs.map (·.1))[j]? = some k := by
      obtain ⟨a, ha, hab⟩ := paired_at kv h1
      rw [List.getElem?_map, ha]
      exact congrArg some hab.1
    rw [hks, List.getElem?_map, h3] at h4
    cases h4
    rcases keyIs_shape (show keyIs (Sum.inl n) u = true from h2) with ⟨i, t, e1, rfl⟩ | ⟨x, t, e1, rfl⟩
    · cases e1; exact ⟨t, rfl⟩
    · cases e1)
  refine wpAny_bind (wpAny_newList ?_ (by rw [hal, sizeLine_eq]; omega))
  have hoL : (h'.push (seqObj "list" acc.toList.toArray 0)).get? h'.objs.size = some (seqObj "list" acc.toList.toArray 0) := Heap.get?_push_size _ rfl
  refine wpAny_bind (wpAny_holding (wpAny_call_entry slot_list_sort ⟨_, hoL, rfl⟩ entry_list_sort (list_sort_tree hoL hI (by omega) fun out ns' a1 a2 a3 => ⟨_, rfl, ?_⟩) (args_list_sort _)))
  obtain ⟨e, he⟩ := sortedHeap_at (h := h'.push (seqObj "list" acc.toList.toArray 0)) (a := h'.objs.size) (vs := acc.toList) (out := out) (n := 0) hoL
  have hl' := a2.length_eq
  have I' := I.kept (t' := tk) hk
  refine wpAny_pure ⟨_, rfl, .ref h'.objs.size, _, I'.laid (t' := tk) (fun b o z => ?_) (Nat.le_refl _) (show ObjOk X.prog X.w _ _ _ (.lst (ns'.map V.int)) from ⟨by rw [List.length_map, sizeLine_eq]; omega, out.toList, e, vals_ints a1, by rw [Array.toArray_toList]; exact he⟩), rfl, q _ ns' (I'.hok.fresh (Nat.le_refl _)) a2 a3⟩
  show (sortedHeap _ _ _ _).get? b = some o
  rw [sortedHeap_old (Nat.ne_of_lt (Heap.lt_size z)) (by rw [size_push']; exact Nat.lt_succ_of_lt (Heap.lt_size z))]
  exact Heap.get?_push_of_some _ z
theorem op_notIn_seqK (h : X.K = K) : OpR X (compareOp .NotIn) (rIn K true) := h ▸ op_notIn_seq
theorem op_in_seqK (h : X.K = K) : OpR X (compareOp .In) (rIn K false) := h ▸ op_in_seq
end
end L2
namespace L2
theorem units1 {k : Nat} {A : PySem.Around} (r : Room k A) : A.units + 1 < PySem.cLine := by have := r.un; omega
end L2

set_option Elab.async false
set_option linter.all false
set_option maxRecDepth 100000
set_option maxHeartbeats 4000000
namespace L2
open PySem PySem.Spec PyProof.Rows
/-! ### W10. enumerate of any source -/
def Itn (K : PySem.W.Frag) (c : Src) : It :=
  ⟨fun i H => ∃ xs x, c.has K H xs ∧ xs[i]? = some x,
   fun i H v H' => ∃ p x, H p = none ∧ v = .ref p ∧ (∀ xs, c.has K H xs → xs[i]? = some x) ∧ H' = upd H p (.tup [.int i, x]),
   fun i H => ∃ xs, c.has K H xs ∧ xs.length = i⟩
def nTn (c : Src) (e it : Addr) (i : Nat) (h : Heap) : Prop := (∃ old, IsEnum h e it i old) ∧ c.at it i h
theorem turn_enumS {P : Program} {w : World} {K : PySem.W.Frag} {elts : List Expr} {kk : Nat} {tp : Pos} (c : Src) (e it : Addr) (ne : e ≠ it) : Turn P w K (.Tuple elts kk tp) (Itn K c) [e, it] e (nTn c e it) where
  mem := by simp
  obj := fun i h st b hb => by
    obtain ⟨⟨old, he⟩, t1⟩ := st
    obtain ⟨o1, e1, v1, d1⟩ := Src.at_obj (c := c) t1
    simp only [List.mem_cons, List.not_mem_nil, or_false] at hb
    rcases hb with rfl | rfl
    · exact ⟨_, he, fun v q => by cases (show Data.fields _ = Data.cell v from q)⟩
    · exact ⟨_, e1, fun v q => by rw [d1] at q; cases q⟩
  keep := fun i h h' st k => by
    obtain ⟨⟨old, he⟩, t1⟩ := st
    exact ⟨⟨old, k e (by simp) _ he⟩, Src.at_keep (c := c) t1 (k it (by simp))⟩
  item := by
    intro X hP hw hK hc i pins s σ H E I hf st hg
    subst hP hw hK
    obtain ⟨xs, x, hx, ex⟩ := hg
    obtain ⟨⟨old, he⟩, t1⟩ := st
    have hh : X.A.in1.handled = none := I.ok.hd hc
    obtain ⟨fp1, P1, S1, D1, u1, r1, a1, _, g1⟩ := Src.draws (A := X.A.in1) (c := c) hh I hx t1 (hf it (by simp)).1
    have nof : e ∉ fp1 := fun m => by
      rcases g1 e m with q | q | ⟨o, q⟩
      · exact ne q
      · exact q (hf e (by simp)).1
      · rcases (hf e (by simp)).2.2.2.1 with y | y
        · exact I.ok.noex e o q y
        · exact absurd (Nat.lt_of_lt_of_le (Nat.lt_of_lt_of_le (Heap.lt_size q) I.ok.bsz) y) (Nat.lt_irrefl _)
    refine wpAny_pyNext_enum_itemD D1 he u1 (List.getElem?_eq_some_iff.mp ex).1 ne nof fun vx h' tk px ho w1 hTp hsz kp => ?_
    obtain ⟨x', ex', rx⟩ := r1 i vx px
    rw [ex] at ex'; cases ex'
    have nT : H s.heap.objs.size = none := I.hok.fresh (Nat.le_refl _)
    refine ⟨_, rfl, wpAny_letOwnedTupleGo_enum ho fun h2 he2 sb => ?_⟩
    have lt : ∀ {z o}, s.heap.get? z = some o → z ≠ s.heap.objs.size := fun e => Nat.ne_of_lt (Heap.lt_size e)
    have kp2 : ∀ b o, b ∉ [e, it] → s.heap.get? b = some o → h2.get? b = some o := fun b o hb q => by
      simp only [List.mem_cons, List.not_mem_nil, or_false, not_or] at hb
      exact (sb.2 b hb.1).trans (kp b o hb.1 hb.2 q)
    have trk : ∀ b u, H b = some u → b ∉ [e, it] ∧ b ≠ s.heap.objs.size := fun b u q => ⟨fun hb => (by rw [(hf b hb).1] at q; cases q), fun z => (by rw [z, nT] at q; cases q)⟩
    have I2 : Inv X pins σ (upd H s.heap.objs.size (.tup [.int i, x])) { s with heap := h2, gens := s.gens, drawn := s.drawn, toks := tk + 1 } := by
      refine I.step (g' := s.gens) (d' := s.drawn) (t' := tk + 1) (ch := [e, it]) (fun b hb => ⟨(hf b hb).2.2.2.1, (hf b hb).2.1, (hf b hb).2.2.2.2.1, (hf b hb).2.2.2.2.2⟩) (fun b o _ _ hb q _ => kp2 b o hb q) (fun b o _ _ hb q _ => ⟨o.slots, kp2 b o hb q⟩)
        (fun b o hb q n => by rw [upd_ne (lt q)]; exact n) (fun b o hb q => ⟨o, kp2 b o hb q⟩) (fun b xs q => by rw [upd_ne (trk b _ q).2]; exact q) (fun b o u q => by rw [upd_ne (trk b _ q).2]; exact q) (fun b ps q => ⟨#[], by rw [upd_ne (trk b _ q).2, q]; simp⟩) (fun m hm => ?_) (fun b u q => ?_) I.bare
      · obtain ⟨o, es, ep, ho', r⟩ := hm
        exact ⟨o, es, ep, kp2 _ o (fun hb => (hf _ hb).2.1 rfl) ho', r⟩
      · by_cases hb : b = s.heap.objs.size
        · subst hb
          rw [upd_same] at q; cases q
          refine ⟨(by show 2 ≤ sizeLine; rw [sizeLine_eq]; decide), [.int i tk, vx], .cons ⟨_, rfl⟩ (.cons rx .nil), ⟨_, (sb.2 _ ?_).trans hTp, rfl, _, rfl⟩⟩
          exact fun z => lt he z.symm
        · rw [upd_ne hb] at q
          refine (I.hok b u q).stay (fun c2 v hc z => kp2 c2 v ?_ z) (fun c2 z => by rw [upd_ne (trk c2 _ z).2]; exact z) fun c2 xs z => by rw [upd_ne (trk c2 _ z).2]; exact z
          rcases hc with z | z
          · rw [z]; exact (trk b u q).1
          · exact (trk _ _ z).1
    refine ⟨.ref s.heap.objs.size, _, I2, rfl, ⟨_, x, nT, rfl, fun xs' h => by rw [Src.inj I h hx]; exact ex, rfl⟩, ⟨⟨_, by simpa using he2⟩, Src.at_keep (c := c) (a1 _ _ w1) fun o q => (sb.2 _ (Ne.symm ne)).trans q⟩, fun b hb => ?_⟩
    have hbT : b ≠ s.heap.objs.size := by
      obtain ⟨o1, e1, _⟩ := Src.at_obj (c := c) t1
      simp only [List.mem_cons, List.not_mem_nil, or_false] at hb
      rcases hb with rfl | rfl
      · exact lt he
      · exact lt e1
    rw [upd_ne hbT]
    exact (hf b hb).1
  done := by
    intro X hP hw hK hc i pins s σ H E I hf st hg
    subst hP hw hK
    obtain ⟨xs, hx, hl⟩ := hg
    obtain ⟨⟨old, he⟩, t1⟩ := st
    have hh : X.A.in1.handled = none := I.ok.hd hc
    obtain ⟨fp1, P1, S1, D1, u1, r1, a1, _, g1⟩ := Src.draws (A := X.A.in1) (c := c) hh I hx t1 (hf it (by simp)).1
    subst hl
    obtain ⟨f0, f1, f2, f3, f4, f5⟩ := hf it (by simp)
    exact wpAny_pyNext_enum_endD D1 he u1 fun h' hx' => ⟨rfl, I.turned (t' := s.toks) (fun b o hb q => hx' b o hb q) f0 f1 f3 f4 f5⟩
  self := fun _ _ _ _ _ st h => by obtain ⟨⟨old, he⟩, _⟩ := st; exact wpAny_pyIter_enum he h
def iEnumS (t : TA) (K : PySem.W.Frag) : TI := fun σ H R => t σ H fun vs H1 => ∃ l : List Nat, vs = [.str (sOf l)] ∧ R (Itn K (.str l)) H1
theorem comp_enumS {cap : List (Option Nat)} {g : TG} {tf : TT} {te : TE} {σ : St} {H : Hp} {Q : VK} {K : PySem.W.Frag} {l : List Nat} (hn : l.length ≤ 100000) (Pv : Nat → List V → Hp → Prop) (h0 : Pv 0 [] H) (hl : ∀ i ys H, Pv i ys H → ys.length ≤ i)
    (hs : ∀ i c p ys H, l[i]? = some c → H p = none → Pv i ys H → g (.ref p) (capSt cap σ) (upd H p (.tup [.int i, .str (sOf [c])])) fun σ2 H2 => Keep (capSt cap σ) σ2 ∧ tf σ2 H2 fun b H3 => if b = true then te σ2 H3 fun y H4 => Pv (i + 1) (ys ++ [y]) H4 else Pv (i + 1) ys H3)
    (hd : ∀ ys H, Pv l.length ys H → ∀ D, H D = none → Q (.ref D) (upd H D (.lst ys))) : CompW cap g tf te σ H Q (Itn K (.str l)) := by
  refine ⟨fun i m ys H => m = l.length - i ∧ i ≤ l.length ∧ Pv i ys H, ⟨l.length, by simp, Nat.zero_le _, h0⟩, ?_⟩
  rintro i m ys H ⟨rfl, hi, p⟩
  refine ⟨by have := hl i ys H p; rw [sizeLine_eq]; omega, ?_⟩
  by_cases hlt : i < l.length
  · refine .inr ⟨⟨l.map fun c => V.str (sOf [c]), V.str (sOf [l[i]]), rfl, by simp [hlt]⟩, Pv (i + 1), fun ys' H' p' => ⟨l.length - (i + 1), by omega, rfl, hlt, p'⟩, fun v H' ⟨b, x, nb, ev, ex, eh⟩ => ?_⟩
    subst ev eh
    have := ex _ rfl
    rw [List.getElem?_map] at this
    obtain ⟨c, h1, rfl⟩ := Option.map_eq_some_iff.mp this
    exact hs i c b ys H h1 nb p
  · have e : i = l.length := by omega
    subst e
    exact .inl ⟨⟨l.map fun c => V.str (sOf [c]), rfl, by simp⟩, hd ys H p⟩
theorem pi_enumStr {X : Cx} {K : PySem.W.Frag} (hK : X.K = K) {b : Expr} {ta : TA} {p pos tp : Pos} {elts : List Expr} {kk : Nat} (hg : Gl X "enumerate") (hm : X.mg "enumerate" = none) (ha : PA X [b] ta) (hs : starEach [b] X.env = [(false, eval b X.env)] := by rfl) :
    PI X (.Tuple elts kk tp) (.Call (.Name "enumerate" p) [b] [] pos) (iEnumS ta K) := by
  subst hK
  intro pins s σ H R I h
  refine Call_ (ld_blt I hg hm boot_enumerate (PyProof.Rows.callWith_type1 (thn (ha pos pins s σ H _ I h) fun us s1 ⟨vs, H1, I1, r1, q1⟩ => ?_) hs rfl))
  obtain ⟨l, e, q⟩ := q1
  subst e
  obtain ⟨v1, rfl, t, rfl⟩ := vals1 r1
  refine call_enumerate_str fun h' he hi hsz kp => ?_
  refine wpAny_pyIter_enum he ?_
  refine ⟨s1.heap.objs.size + 1, [s1.heap.objs.size + 1, s1.heap.objs.size], _, _, H1, rfl, I1.kept (t' := s1.toks) kp, turn_enumS (.str l) _ _ (ne2 s1.heap.objs.size 1 0 (by decide)), ⟨⟨_, he⟩, t, ?_⟩, fun b hb => ?_, q⟩
  · unfold strIterType at hi; split at hi
    · exact .inl hi
    · exact .inr hi
  have hb' : s1.heap.objs.size ≤ b := by
    simp only [List.mem_cons, List.not_mem_nil, or_false] at hb
    rcases hb with z | z <;> rw [z]
    · exact Nat.le_add_right _ 1
    · exact Nat.le_refl _
  exact I1.fpOk hb' (I1.hok.fresh hb')
end L2

set_option Elab.async false
set_option linter.all false
set_option maxRecDepth 100000
set_option maxHeartbeats 4000000
namespace Wb
open PySem L2
/-- a tuple of texts -/
def isTT : Rp (List (List Nat)) := fun H m v => ∃ p, v = .ref p ∧ H p = some (.tup (m.map fun l => V.str (sOf l)))
instance : Mono isTT := ⟨fun e ⟨p, h1, h2⟩ => ⟨p, h1, e _ _ h2⟩⟩
theorem all_dec {α : Type} [DecidableEq α] {m1 m2 : List α} (h : m1.length = m2.length) : ((List.range m1.length).all fun j => decide (m1[j]? = m2[j]?)) = decide (m1 = m2) := by
  by_cases e : m1 = m2
  · subst e; simp
  · rw [decide_eq_false e, Bool.eq_false_iff]
    intro z
    rw [List.all_eq_true] at z
    refine e (List.ext_getElem? fun j => ?_)
    by_cases hj : j < m1.length
    · exact of_decide_eq_true (z j (List.mem_range.mpr hj))
    · rw [List.getElem?_eq_none_iff.mpr (by omega), List.getElem?_eq_none_iff.mpr (by omega)]
theorem map_str_inj {a b : List (List Nat)} (h : (a.map fun l => V.str (sOf l)) = b.map fun l => V.str (sOf l)) : a = b := by
  induction a generalizing b with
  | nil => cases b with | nil => rfl | cons x r => cases h
  | cons x r ih =>
    cases b with
    | nil => cases h
    | cons y t =>
      rw [List.map_cons, List.map_cons] at h
      injection h with h1 h2
      injection h1 with h1
      rw [sOf_inj h1, ih h2]
end Wb
namespace L2
open PySem PySem.Spec PyProof.Rows Wb
section
variable {X : Cx} {pins : List (Addr × Obj)} {σ : St} {H : Hp} {s : Shared}
theorem rc_TT (I : Inv X pins σ H s) {A : Around} (hu : A.units < cLine) {p q : Addr} {m1 m2 : List (List Nat)} (h1 : H p = some (.tup (m1.map fun l => V.str (sOf l)))) (h2 : H q = some (.tup (m2.map fun l => V.str (sOf l)))) : SeqAt.RcAt A s (.ref p) (.ref q) (decide (m1 = m2)) := by
  obtain ⟨i1, r1, t1, z1⟩ := I.tuple (SqT.of h1)
  obtain ⟨i2, r2, t2, z2⟩ := I.tuple (SqT.of h2)
  have l1 := r1.length
  have l2 := r2.length
  rw [List.length_map] at l1 l2
  have key := SeqAt.RcAt.tuples (e := fun j => decide (m1[j]? = m2[j]?)) t1 t2 hu (fun j h1 h2 => by
    have h1' : j < i1.length := by simpa using h1
    have h2' : j < i2.length := by simpa using h2
    obtain ⟨x1, e1, v1⟩ := paired_at r1 (j := j) (b := i1[j]) (by simp [h1'])
    obtain ⟨x2, e2, v2⟩ := paired_at r2 (j := j) (b := i2[j]) (by simp [h2'])
    rw [List.getElem?_map] at e1 e2
    obtain ⟨a1, g1, rfl⟩ := Option.map_eq_some_iff.mp e1
    obtain ⟨a2, g2, rfl⟩ := Option.map_eq_some_iff.mp e2
    obtain ⟨t, w1⟩ := v1
    obtain ⟨u, w2⟩ := v2
    show SeqAt.EqAt A.in1 s i1[j] i2[j] _
    rw [w1, w2, g1, g2]
    have hh := SeqAt.EqAt.str_str (A := A.in1) (s := s) (sOf a1) t (sOf a2) u
    have ee : (sOf a1 == sOf a2) = decide (some a1 = some a2) := by
      by_cases e : a1 = a2
      · subst e; simp
      · have : ¬ sOf a1 = sOf a2 := fun z => e (sOf_inj z)
        simp [e, this]
    rw [ee] at hh
    exact hh)
  have ee : ((List.range (min i1.toArray.size i2.toArray.size)).all (fun j => decide (m1[j]? = m2[j]?)) && i1.toArray.size == i2.toArray.size) = decide (m1 = m2) := by
    rw [List.size_toArray, List.size_toArray, ← l1, ← l2]
    by_cases hl : m1.length = m2.length
    · rw [hl, Nat.min_self, ← hl, all_dec hl]; simp [hl]
    · have : ¬ m1 = m2 := fun z => hl (by rw [z])
      rw [decide_eq_false this]
      simp [hl]
  rw [ee] at key
  exact key
theorem op_eq_TT (hu : X.A.units < cLine) : OpR X (compareOp .Eq) (fun x y H Q => ∃ m1 m2, isTT H m1 x ∧ isTT H m2 y ∧ Q (.bl (decide (m1 = m2))) H) := by
  intro pins s σ H x y v u Q I rx ry h
  obtain ⟨m1, m2, ⟨p, rfl, h1⟩, ⟨q, rfl, h2⟩, hq⟩ := h
  cases rx; cases ry
  exact rc_TT I hu h1 h2 _ _ _ _ ⟨.bl _, H, I, rfl, hq⟩
theorem op_eq_LTT (hu : X.A.units + 1 < cLine) : OpR X (compareOp .Eq) (fun x y H Q => ∃ m1 m2, isL isTT H m1 x ∧ isL isTT H m2 y ∧ Q (.bl (decide (m1 = m2))) H) := by
  intro pins s σ H x y v u Q I rx ry h
  obtain ⟨m1, m2, ⟨p, xs, rfl, h1, g1⟩, ⟨q, ys, rfl, h2, g2⟩, hq⟩ := h
  cases rx; cases ry
  obtain ⟨i1, r1, t1, z1⟩ := I.list (SqL.of h1)
  obtain ⟨i2, r2, t2, z2⟩ := I.list (SqL.of h2)
  have l1 := r1.length
  have l2 := r2.length
  rw [g1.1] at l1
  rw [g2.1] at l2
  by_cases hl : m1.length = m2.length
  · have key := SeqAt.RcAt.lists (A := X.A) (s := s) (e := fun j => decide (m1[j]? = m2[j]?)) t1.isList t2.isList (by rw [List.size_toArray, List.size_toArray]; omega) (by omega) (fun j h1' h2' => by
      have h1'' : j < i1.length := by simpa using h1'
      have h2'' : j < i2.length := by simpa using h2'
      obtain ⟨x1, e1, v1⟩ := paired_at r1 (j := j) (b := i1[j]) (by simp [h1''])
      obtain ⟨x2, e2, v2⟩ := paired_at r2 (j := j) (b := i2[j]) (by simp [h2''])
      obtain ⟨a1, k1, pa, rfl, hpa⟩ := g1.got e1
      obtain ⟨a2, k2, pb, rfl, hpb⟩ := g2.got e2
      show SeqAt.EqAt X.A.in1 s i1[j] i2[j] _
      have v1 : i1[j] = Value.ref pa := v1
      have v2 : i2[j] = Value.ref pb := v2
      rw [v1, v2, k1, k2]
      have ee : decide (some a1 = some a2) = decide (a1 = a2) := by simp
      rw [ee]
      by_cases hp : pa = pb
      · subst hp
        rw [hpa] at hpb
        injection hpb with hpb
        injection hpb with hpb
        rw [map_str_inj hpb, decide_eq_true rfl]
        exact SeqAt.EqAt.same _
      · exact SeqAt.EqAt.of_refs hp (rc_TT I (show X.A.units + 1 < cLine from hu) hpa hpb))
    rw [List.size_toArray, ← l1, all_dec hl] at key
    exact key _ _ _ _ ⟨.bl _, H, I, rfl, hq⟩
  · have key := SeqAt.RcAt.lists_lengths (A := X.A) (s := s) t1.isList t2.isList (by rw [List.size_toArray, List.size_toArray]; simp; omega) (by omega)
    have : ¬ m1 = m2 := fun z => hl (by rw [z])
    rw [decide_eq_false this] at hq
    exact key _ _ _ _ ⟨.bl _, H, I, rfl, hq⟩
end
end L2

set_option Elab.async false
set_option linter.all false
set_option maxRecDepth 100000
set_option maxHeartbeats 4000000
namespace Wb
open PySem L2
def tp (i : Nat) : Stmt := PySem.Challenge.pw_wornband_k19_whole_plain_forms.main.body.getD i (.Pass ⟨0, 0, 0, 0⟩)
section
variable {P : Program} {w : World} {K : PySem.W.Frag} {mg : Str → Option Value} {base : Heap}
def spAt (K : PySem.W.Frag) : Sp := fun vs H Q _ => ∃ (a : Addr) (ns : List Int) (k : Nat), vs = [.ref a, .int k] ∧ SqL K H a (ns.map V.int) ∧ ns.length ≤ 63 ∧ k ≤ 63 ∧ ∀ n : Int, Q (.int n) H
theorem ok_at {f : Addr} {fd : FuncData} (F : Fun K "_law_at" "_law_at" (tp 23) f fd) (h_len : mg "len" = none) : FnOk P w K mg base CX0 1 f fd ["_law_script", "_law_k"] (spAt K) := by
  have SC : FnScope ["_law_script", "_law_k"] ["_law_script", "_law_k"] (defScope (tp 23)) := ⟨rfl, rfl, rfl, by decide +kernel, rfl, by decide +kernel, by decide +kernel⟩
  refine F.ok SC (fun vs H Q E h => ?_) (fun cdv A outer s H vs Q E hr h => ?_)
  · obtain ⟨a, ns, k, rfl, _⟩ := h; rfl
  · obtain ⟨a, ns, k, rfl, hS, hl, hk, q⟩ := h
    refine ⟨_, (pss_cons (ps_if (pt_cmpR op_lt (pv 1) (pe_callB (call_lenK (K := K) rfl) (by rfl) h_len PySem.boot_len (pa_cons (pv 0) pa_nil)) (nomark _)) (pss_one (ps_ret (pe_ix (ix_listK (K := K) rfl) (pv 0) (pv 1) (fun _ _ => rfl)))) pss_nil)
      (pss_one (ps_ret (pe_op op_mod (pe_op op_mul (pe_op op_add (pe_op op_mul (pv 1) pe_int) pe_int) (pe_op op_add (pe_callB (call_lenK (K := K) rfl) (by rfl) h_len PySem.boot_len (pa_cons (pv 0) pa_nil)) pe_int)) pe_int)))), ?_⟩
    simp only [rSlL, tSeq, tIfS, tTest, tOp, tVar, tC, tCB, tCons, tNil, tRet, tNext, tAsg, gName, gTup, gCons, gNil, tB, tUn, rU, rI0, rI, tTup, tLst, tCall, tDrop, tIf, tAnd, tOr, tNot, tAndV, tOrV, tNotV, tSl, tPart, tNoPart, tBM, tBM0, rClear, sDPut, tDNewK, rIn, rEq, rNe, scal, rCat, rIx, rIxL, rIxT, rIxS, rAppend, tDGetK, tDInK, L2.start, cxK, cxW, cxKn, cxWn, cpK, cpW, List.map_cons, List.map_nil, List.cons_append, List.nil_append, List.append_nil, List.length_cons, List.length_nil, List.replicate, List.set_cons_zero, List.set_cons_succ, List.getElem?_cons_zero, List.getElem?_cons_succ, Option.some.injEq, exists_eq_left', exists_eq_left, exists_and_left, exists_eq', exists_const, V.int.injEq, V.bl.injEq, V.str.injEq, V.ref.injEq, V.ty.injEq, List.cons.injEq, and_true, true_and, reduceCtorEq, false_and, and_false, exists_false, or_false, false_or, decide_eq_true_eq, Bool.not_eq_true', decide_eq_false_iff_not, if_true, if_false, Bool.false_eq_true, ite_true, ite_false, Bool.not_true, Bool.not_false, Nat.reduceAdd, Nat.reduceSub, and_assoc]
    refine ⟨_, .inl ⟨_, hS, rfl⟩, ?_⟩
    rw [List.length_map]
    refine ite2 (fun hlt => ?_) (fun hlt => ?_)
    · have hlt : k < ns.length := by omega
      exact ⟨_, hS, .int ns[k], atI_nat (by simp [hlt]), q _⟩
    · refine ⟨.inl ⟨by omega, by omega⟩, _, .inl ⟨_, hS, rfl⟩, ?_⟩
      simp only [List.length_map]
      exact ⟨.inl ⟨by omega, by omega⟩, by decide, q _⟩
def spRow (K : PySem.W.Frag) : Sp := fun vs H Q _ => ∃ (c : Int) (m : Nat) (b : Int), vs = [.int c, .int m, .int b] ∧ m ≤ 1000 ∧ 1 ≤ b ∧ b ≤ 1000000 ∧ ∀ (p : Addr) (ns : List Int), H p = none → ns.length = m → (∀ n ∈ ns, 0 ≤ n ∧ n < b) → Q (.ref p) (upd H p (.lst (ns.map V.int)))
theorem ok_row {f : Addr} {fd : FuncData} (F : Fun K "_law_row" "_law_row" (tp 19) f fd) (h_abs : mg "abs" = none) (h_range : mg "range" = none) : FnOk P w K mg base CX0 1 f fd ["_law_cell", "_law_many", "_law_base"] (spRow K) := by
  have SC : FnScope ["_law_cell", "_law_many", "_law_base", "_law_now", "_law_far", "_law_mix", "_law_out", "_law_k"] ["_law_cell", "_law_many", "_law_base"] (defScope (tp 19)) := ⟨rfl, rfl, rfl, by decide +kernel, rfl, by decide +kernel, by decide +kernel⟩
  refine F.ok SC (fun vs H Q E h => ?_) (fun cdv A outer s H vs Q E hr h => ?_)
  · obtain ⟨c, m, b, rfl, _⟩ := h; rfl
  · obtain ⟨c, m, b, rfl, hm, hb1, hb2, q⟩ := h
    refine ⟨_, (pss_cons (ps_set (i := 3) SC.nd rfl (by first | exact Or.inl rfl | exact Or.inr rfl) (pe_callB call_abs (by rfl) h_abs PyProof.Rows.boot_abs (pa_cons (pv 0) pa_nil)))
      (pss_cons (ps_set (i := 4) SC.nd rfl (by first | exact Or.inl rfl | exact Or.inr rfl) (pe_cmpR op_ge (pv 3) (pe_op op_pow pe_int pe_int) (nomark _)))
      (pss_cons (ps_set (i := 5) SC.nd rfl (by first | exact Or.inl rfl | exact Or.inr rfl) (pe_op op_mod (pv 3) pe_int))
      (pss_cons (ps_set (i := 6) SC.nd rfl (by first | exact Or.inl rfl | exact Or.inr rfl) (pe_lst pa_nil))
      (pss_cons (ps_for PassesOwn.never rfl (pi_range1 rfl h_range (pa_cons (pv 1) pa_nil)) (pg_name (i := 7) SC.nd rfl (by first | exact Or.inl rfl | exact Or.inr rfl)) (pss_cons (ps_set (i := 5) SC.nd rfl (by first | exact Or.inl rfl | exact Or.inr rfl) (pe_op op_mod (pe_op op_add (pe_op op_add (pe_op op_mul (pv 5) pe_int) pe_int) (pv 7)) pe_int))
      (pss_one (ps_if (PW.pt (pw_and (pt_val (pv 4)) (pw_and1 (pt_cmpR op_gt (pv 3) pe_int (nomark _))))) (pss_cons (ps_expr (pe_bmK (K := K) rfl PySem.F.plainAttrs_list PySem.F.slot_list_append PySem.F.type_list_append mt_append (pv 6) (pa_cons (pe_op op_mod (pv 3) (pv 2)) pa_nil)))
      (pss_one (ps_set (i := 3) SC.nd rfl (by first | exact Or.inl rfl | exact Or.inr rfl) (pe_op op_fdiv (pv 3) (pv 2))))) (pss_one (ps_expr (pe_bmK (K := K) rfl PySem.F.plainAttrs_list PySem.F.slot_list_append PySem.F.type_list_append mt_append (pv 6) (pa_cons (pe_op op_mod (pe_op op_mod (pe_op op_mul (pv 5) (pv 5)) pe_int) (pv 2)) pa_nil))))))))
      (pss_one (ps_ret (pv 6)))))))), ?_⟩
    simp only [rSlL, tSeq, tIfS, tTest, tOp, tVar, tC, tCB, tCons, tNil, tRet, tNext, tAsg, gName, gTup, gCons, gNil, tB, tUn, rU, rI0, rI, tTup, tLst, tCall, tDrop, tIf, tAnd, tOr, tNot, tAndV, tOrV, tNotV, tSl, tPart, tNoPart, tBM, tBM0, rClear, sDPut, tDNewK, rIn, rEq, rNe, scal, rCat, rIx, rIxL, rIxT, rIxS, rAppend, tDGetK, tDInK, L2.start, cxK, cxW, cxKn, cxWn, cpK, cpW, List.map_cons, List.map_nil, List.cons_append, List.nil_append, List.append_nil, List.length_cons, List.length_nil, List.replicate, List.set_cons_zero, List.set_cons_succ, List.getElem?_cons_zero, List.getElem?_cons_succ, Option.some.injEq, exists_eq_left', exists_eq_left, exists_and_left, exists_eq', exists_const, V.int.injEq, V.bl.injEq, V.str.injEq, V.ref.injEq, V.ty.injEq, List.cons.injEq, and_true, true_and, reduceCtorEq, false_and, and_false, exists_false, or_false, false_or, decide_eq_true_eq, Bool.not_eq_true', decide_eq_false_iff_not, if_true, if_false, Bool.false_eq_true, ite_true, ite_false, Bool.not_true, Bool.not_false, Nat.reduceAdd, Nat.reduceSub, and_assoc]
    refine ⟨⟨by decide, by decide, by decide⟩, by decide, Nat.zero_le _, fun p hp => ?_⟩
    generalize hn0 : (if c < 0 then -c else c) = n0
    have hn : 0 ≤ n0 := by rw [← hn0]; split <;> omega
    generalize decide (10 ^ Int.toNat 18 ≤ n0) = far
    refine ⟨_, rfl, (m : Int), rfl, by omega, by omega, for_range (lo := 0) (n := (m : Int).toNat) (fun i σ H2 => ∃ (now mix : Int) (ns : List Int) (k7 : Option V), σ = [some (.int c), some (.int m), some (.int b), some (.int now), some (.bl far), some (.int mix), some (.ref p), k7] ∧ 0 ≤ now ∧ 0 ≤ mix ∧ mix < 2147483647 ∧ H2 = upd H p (.lst (ns.map V.int)) ∧ ns.length = i ∧ ∀ n ∈ ns, 0 ≤ n ∧ n < b)
      ⟨n0, _, [], none, rfl, hn, by omega, by omega, rfl, rfl, by simp⟩ ?_ ?_⟩
    · rintro i σ H2 hi ⟨now, mix, ns, k7, rfl, h0, hm0, hm1, rfl, hl, hb⟩
      simp only [rSlL, tSeq, tIfS, tTest, tOp, tVar, tC, tCB, tCons, tNil, tRet, tNext, tAsg, gName, gTup, gCons, gNil, tB, tUn, rU, rI0, rI, tTup, tLst, tCall, tDrop, tIf, tAnd, tOr, tNot, tAndV, tOrV, tNotV, tSl, tPart, tNoPart, tBM, tBM0, rClear, sDPut, tDNewK, rIn, rEq, rNe, scal, rCat, rIx, rIxL, rIxT, rIxS, rAppend, tDGetK, tDInK, L2.start, cxK, cxW, cxKn, cxWn, cpK, cpW, List.map_cons, List.map_nil, List.cons_append, List.nil_append, List.append_nil, List.length_cons, List.length_nil, List.replicate, List.set_cons_zero, List.set_cons_succ, List.getElem?_cons_zero, List.getElem?_cons_succ, Option.some.injEq, exists_eq_left', exists_eq_left, exists_and_left, exists_eq', exists_const, V.int.injEq, V.bl.injEq, V.str.injEq, V.ref.injEq, V.ty.injEq, List.cons.injEq, and_true, true_and, reduceCtorEq, false_and, and_false, exists_false, or_false, false_or, decide_eq_true_eq, Bool.not_eq_true', decide_eq_false_iff_not, if_true, if_false, Bool.false_eq_true, ite_true, ite_false, Bool.not_true, Bool.not_false, Nat.reduceAdd, Nat.reduceSub, and_assoc]
      refine ⟨.inr ⟨by decide, by decide⟩, by decide, ?_⟩
      have key : ∀ (v : Int), 0 ≤ v → v < b → ∃ (ns' : List Int), upd (upd H p (.lst (ns.map V.int))) p (.lst (ns.map V.int ++ [.int v])) = upd H p (.lst (ns'.map V.int)) ∧ ns'.length = i + 1 ∧ ∀ n ∈ ns', 0 ≤ n ∧ n < b := fun v a4 a5 =>
        ⟨ns ++ [v], by rw [upd_upd]; simp, by simp [hl], fun n hn => by rcases List.mem_append.mp hn with z | z; exact hb n z; rw [List.mem_singleton.mp z]; exact ⟨a4, a5⟩⟩
      have hsz : (ns.map V.int).length < sizeLine := by rw [List.length_map, hl, sizeLine_eq]; omega
      generalize hmx : (mix * 48271 + 7919 + (0 + (i : Int))) % 2147483647 = mx
      have hmx0 : 0 ≤ mx := by rw [← hmx]; exact Int.emod_nonneg _ (by decide)
      have hmx1 : mx < 2147483647 := by rw [← hmx]; exact Int.emod_lt_of_pos _ (by decide)
      have other : ∀ z : Int, 0 ≤ z % b ∧ z % b < b := fun z => ⟨Int.emod_nonneg _ (by omega), Int.emod_lt_of_pos _ (by omega)⟩
      cases far with
      | true =>
        simp only [rSlL, tSeq, tIfS, tTest, tOp, tVar, tC, tCB, tCons, tNil, tRet, tNext, tAsg, gName, gTup, gCons, gNil, tB, tUn, rU, rI0, rI, tTup, tLst, tCall, tDrop, tIf, tAnd, tOr, tNot, tAndV, tOrV, tNotV, tSl, tPart, tNoPart, tBM, tBM0, rClear, sDPut, tDNewK, rIn, rEq, rNe, scal, rCat, rIx, rIxL, rIxT, rIxS, rAppend, tDGetK, tDInK, L2.start, cxK, cxW, cxKn, cxWn, cpK, cpW, List.map_cons, List.map_nil, List.cons_append, List.nil_append, List.append_nil, List.length_cons, List.length_nil, List.replicate, List.set_cons_zero, List.set_cons_succ, List.getElem?_cons_zero, List.getElem?_cons_succ, Option.some.injEq, exists_eq_left', exists_eq_left, exists_and_left, exists_eq', exists_const, V.int.injEq, V.bl.injEq, V.str.injEq, V.ref.injEq, V.ty.injEq, List.cons.injEq, and_true, true_and, reduceCtorEq, false_and, and_false, exists_false, or_false, false_or, decide_eq_true_eq, Bool.not_eq_true', decide_eq_false_iff_not, if_true, if_false, Bool.false_eq_true, ite_true, ite_false, Bool.not_true, Bool.not_false, Nat.reduceAdd, Nat.reduceSub, and_assoc]
        refine ite2 (fun hpos => ?_) (fun hpos => ?_)
        · refine ⟨.inl ⟨rfl, _, SqL.of upd_same⟩, by omega, _, upd_same, hsz, ⟨by omega, by omega⟩, ?_⟩
          exact ⟨Int.ediv_nonneg h0 (by omega), hmx0, hmx1, key _ (other _).1 (other _).2⟩
        · refine ⟨.inl ⟨rfl, _, SqL.of upd_same⟩, .inl ⟨by omega, by omega⟩, by decide, by omega, _, upd_same, hsz, ?_⟩
          exact ⟨h0, hmx0, hmx1, key _ (other _).1 (other _).2⟩
      | false =>
        simp only [rSlL, tSeq, tIfS, tTest, tOp, tVar, tC, tCB, tCons, tNil, tRet, tNext, tAsg, gName, gTup, gCons, gNil, tB, tUn, rU, rI0, rI, tTup, tLst, tCall, tDrop, tIf, tAnd, tOr, tNot, tAndV, tOrV, tNotV, tSl, tPart, tNoPart, tBM, tBM0, rClear, sDPut, tDNewK, rIn, rEq, rNe, scal, rCat, rIx, rIxL, rIxT, rIxS, rAppend, tDGetK, tDInK, L2.start, cxK, cxW, cxKn, cxWn, cpK, cpW, List.map_cons, List.map_nil, List.cons_append, List.nil_append, List.append_nil, List.length_cons, List.length_nil, List.replicate, List.set_cons_zero, List.set_cons_succ, List.getElem?_cons_zero, List.getElem?_cons_succ, Option.some.injEq, exists_eq_left', exists_eq_left, exists_and_left, exists_eq', exists_const, V.int.injEq, V.bl.injEq, V.str.injEq, V.ref.injEq, V.ty.injEq, List.cons.injEq, and_true, true_and, reduceCtorEq, false_and, and_false, exists_false, or_false, false_or, decide_eq_true_eq, Bool.not_eq_true', decide_eq_false_iff_not, if_true, if_false, Bool.false_eq_true, ite_true, ite_false, Bool.not_true, Bool.not_false, Nat.reduceAdd, Nat.reduceSub, and_assoc]
        refine ⟨.inl ⟨rfl, _, SqL.of upd_same⟩, .inl ⟨by omega, by omega⟩, by decide, by omega, _, upd_same, hsz, ?_⟩
        exact ⟨h0, hmx0, hmx1, key _ (other _).1 (other _).2⟩
    · rintro σ H2 ⟨now, mix, ns, k7, rfl, h0, hm0, hm1, rfl, hl, hb⟩
      simp only [rSlL, tSeq, tIfS, tTest, tOp, tVar, tC, tCB, tCons, tNil, tRet, tNext, tAsg, gName, gTup, gCons, gNil, tB, tUn, rU, rI0, rI, tTup, tLst, tCall, tDrop, tIf, tAnd, tOr, tNot, tAndV, tOrV, tNotV, tSl, tPart, tNoPart, tBM, tBM0, rClear, sDPut, tDNewK, rIn, rEq, rNe, scal, rCat, rIx, rIxL, rIxT, rIxS, rAppend, tDGetK, tDInK, L2.start, cxK, cxW, cxKn, cxWn, cpK, cpW, List.map_cons, List.map_nil, List.cons_append, List.nil_append, List.append_nil, List.length_cons, List.length_nil, List.replicate, List.set_cons_zero, List.set_cons_succ, List.getElem?_cons_zero, List.getElem?_cons_succ, Option.some.injEq, exists_eq_left', exists_eq_left, exists_and_left, exists_eq', exists_const, V.int.injEq, V.bl.injEq, V.str.injEq, V.ref.injEq, V.ty.injEq, List.cons.injEq, and_true, true_and, reduceCtorEq, false_and, and_false, exists_false, or_false, false_or, decide_eq_true_eq, Bool.not_eq_true', decide_eq_false_iff_not, if_true, if_false, Bool.false_eq_true, ite_true, ite_false, Bool.not_true, Bool.not_false, Nat.reduceAdd, Nat.reduceSub, and_assoc]
      exact q p ns hp (by omega) hb
def spHoles : Sp := fun vs H Q _ => ∃ (c : Int), vs = [.int c] ∧ ∀ (l : List Nat) (H' : Hp), Same H H' → l.length = 4 → (∀ x ∈ l, 97 ≤ x ∧ x ≤ 122) → Q (.str (sOf l)) H'
theorem abc : Str.ofString "abcdefghijklmnopqrstuvwxyz" = sOf ((List.range 26).map (97 + ·)) := ofS _ _ (by decide +kernel)
theorem abc_at {i : Int} (h0 : 0 ≤ i) (h1 : i < 26) : atI ((List.range 26).map (97 + ·)) i = some (97 + i.toNat) := by
  have h2 : i.toNat < 26 := by omega
  have h3 := atI_nat (xs := (List.range 26).map (97 + ·)) (j := i.toNat) (v := 97 + i.toNat) (by simp [h2])
  rw [Int.toNat_of_nonneg h0] at h3
  exact h3
theorem ok_holes {f : Addr} {fd : FuncData} (F : Fun K "_law_holes" "_law_holes" (tp 20) f fd) (C__law_row : Cal P w K mg base "_law_row" ["_law_cell", "_law_many", "_law_base"] 1 (spRow K)) : FnOk P w K mg base CX0 2 f fd ["_law_cell"] spHoles := by
  have SC : FnScope ["_law_cell", "_law_size", "_law_draws", "_law_out", "_law_d"] ["_law_cell"] (defScope (tp 20)) := ⟨rfl, rfl, rfl, by decide +kernel, rfl, by decide +kernel, by decide +kernel⟩
  refine F.ok SC (fun vs H Q E h => ?_) (fun cdv A outer s H vs Q E hr h => ?_)
  · obtain ⟨c, rfl, _⟩ := h; rfl
  · obtain ⟨c, rfl, q⟩ := h
    refine ⟨_, (pss_cons (ps_set (i := 1) SC.nd rfl (by first | exact Or.inl rfl | exact Or.inr rfl) (pe_ix (ix_listK (K := K) rfl) (pe_lst (pa_cons pe_int (pa_cons pe_int (pa_cons pe_int (pa_cons pe_int (pa_cons pe_int pa_nil)))))) (pe_op op_mod (pv 0) pe_int) (fun _ _ => rfl)))
      (pss_cons (ps_set (i := 2) SC.nd rfl (by first | exact Or.inl rfl | exact Or.inr rfl) (pe_cal C__law_row (hr.mono (by decide)) (by rfl) (pa_cons (pe_op op_fdiv (pv 0) pe_int) (pa_cons pe_int (pa_cons pe_int pa_nil)))))
      (pss_cons (ps_set (i := 3) SC.nd rfl (by first | exact Or.inl rfl | exact Or.inr rfl) pe_str)
      (pss_cons (ps_for PassesOwn.never rfl (pi_listK (K := K) rfl (pe_slice (sl_listK (K := K) rfl) (pv 2) po_none (po_some pe_int))) (pg_name (i := 4) SC.nd rfl (by first | exact Or.inl rfl | exact Or.inr rfl)) (pss_one (ps_set (i := 3) SC.nd rfl (by first | exact Or.inl rfl | exact Or.inr rfl) (pe_op op_add_str (pv 3) (pe_ix ix_str pe_str (pe_op op_mod (pe_op op_add (pe_ix (ix_listK (K := K) rfl) (pv 2) pe_int (fun _ _ => rfl)) (pe_op op_mul (pe_op op_mod (pv 4) (pv 1)) pe_int)) pe_int) (fun _ _ => rfl))))))
      (pss_one (ps_ret (pv 3))))))), ?_⟩
    simp only [rSlL, tSeq, tIfS, tTest, tOp, tVar, tC, tCB, tCons, tNil, tRet, tNext, tAsg, gName, gTup, gCons, gNil, tB, tUn, rU, rI0, rI, tTup, tLst, tCall, tDrop, tIf, tAnd, tOr, tNot, tAndV, tOrV, tNotV, tSl, tPart, tNoPart, tBM, tBM0, rClear, sDPut, tDNewK, rIn, rEq, rNe, scal, rCat, rIx, rIxL, rIxT, rIxS, rAppend, tDGetK, tDInK, L2.start, cxK, cxW, cxKn, cxWn, cpK, cpW, List.map_cons, List.map_nil, List.cons_append, List.nil_append, List.append_nil, List.length_cons, List.length_nil, List.replicate, List.set_cons_zero, List.set_cons_succ, List.getElem?_cons_zero, List.getElem?_cons_succ, Option.some.injEq, exists_eq_left', exists_eq_left, exists_and_left, exists_eq', exists_const, V.int.injEq, V.bl.injEq, V.str.injEq, V.ref.injEq, V.ty.injEq, List.cons.injEq, and_true, true_and, reduceCtorEq, false_and, and_false, exists_false, or_false, false_or, decide_eq_true_eq, Bool.not_eq_true', decide_eq_false_iff_not, if_true, if_false, Bool.false_eq_true, ite_true, ite_false, Bool.not_true, Bool.not_false, Nat.reduceAdd, Nat.reduceSub, and_assoc]
    refine ⟨by decide, fun p0 hp0 => ⟨by decide, _, SqL.of upd_same, ?_⟩⟩
    have hs0 : Same H (upd H p0 (.lst [.int 1, .int 2, .int 3, .int 4, .int 26])) := same_upd hp0
    generalize upd H p0 (.lst [.int 1, .int 2, .int 3, .int 4, .int 26]) = H0 at hs0 ⊢
    obtain ⟨sz, hsz, hsz1⟩ : ∃ sz : Int, atI [V.int 1, V.int 2, V.int 3, V.int 4, V.int 26] (c % 5) = some (.int sz) ∧ 1 ≤ sz := by
      have h0 := Int.emod_nonneg c (show (5 : Int) ≠ 0 by decide)
      have h1 := Int.emod_lt_of_pos c (show (0 : Int) < 5 by decide)
      generalize c % 5 = r at h0 h1
      have : r = 0 ∨ r = 1 ∨ r = 2 ∨ r = 3 ∨ r = 4 := by omega
      rcases this with h | h | h | h | h <;> subst h <;> exact ⟨_, rfl, by decide⟩
    refine ⟨_, hsz, ⟨by decide, by decide⟩, c / 5, 5, 26, rfl, by decide, by decide, by decide, fun p ns hp hl hb => ?_⟩
    have hs1 : Same H (upd H0 p (.lst (ns.map V.int))) := hs0.trans (same_upd hp)
    have hat : upd H0 p (.lst (ns.map V.int)) p = some (.lst (ns.map V.int)) := upd_same
    generalize upd H0 p (.lst (ns.map V.int)) = H1 at hs1 hat ⊢
    refine ⟨_, rfl, _, rfl, p, _, rfl, SqL.of hat, fun p2 hp2 => ?_⟩
    have e4 : cutV (ns.map V.int) none (some 4) = (ns.take 4).map V.int := by
      obtain ⟨x0, x1, x2, x3, x4, rfl⟩ : ∃ x0 x1 x2 x3 x4, ns = [x0, x1, x2, x3, x4] := by
        match ns, hl with
        | [x0, x1, x2, x3, x4], _ => exact ⟨x0, x1, x2, x3, x4, rfl⟩
      rfl
    rw [e4]
    have hs2 : Same H (upd H1 p2 (.lst ((ns.take 4).map V.int))) := hs1.trans (same_upd hp2)
    have hat2 : upd H1 p2 (.lst ((ns.take 4).map V.int)) p = some (.lst (ns.map V.int)) := same_at (same_upd hp2) hat
    have hat3 : upd H1 p2 (.lst ((ns.take 4).map V.int)) p2 = some (.lst ((ns.take 4).map V.int)) := upd_same
    generalize upd H1 p2 (.lst ((ns.take 4).map V.int)) = H2 at hs2 hat2 hat3 ⊢
    obtain ⟨n4, hn4⟩ : ∃ n4, ns[4]? = some n4 := ⟨ns[4], by simp [hl]⟩
    refine ⟨p2, rfl, ⟨_, SqL.of hat3⟩, for_list (K := K) (a := p2) (xs := (ns.take 4).map V.int) (fun i σ H3 => H3 = H2 ∧ ∃ (l : List Nat) (v : Option V), σ = [some (.int c), some (.int sz), some (.ref p), some (.str (sOf l)), v] ∧ l.length = i ∧ ∀ x ∈ l, 97 ≤ x ∧ x ≤ 122)
      ⟨rfl, [], none, by rw [show Str.ofString "" = sOf [] from ofS _ _ (by decide +kernel)], rfl, by simp⟩ (fun i σ H3 _ ⟨e, _⟩ => by rw [e]; exact SqL.of hat3) ?_ ?_⟩
    · rintro i y σ H3 hi ⟨rfl, l, v, rfl, hll, hlb⟩
      obtain ⟨d, hd, rfl⟩ : ∃ d, ns[i]? = some d ∧ y = .int d := by
        rw [List.getElem?_map] at hi
        cases e : (ns.take 4)[i]? with
        | none => rw [e] at hi; cases hi
        | some d =>
          rw [e] at hi
          refine ⟨d, ?_, (Option.some.inj hi).symm⟩
          have : i < 4 := by
            have := (List.getElem?_eq_some_iff.mp e).1
            rw [List.length_take] at this; omega
          rw [List.getElem?_take_of_lt this] at e; exact e
      have hi4 : i < 4 := by
        have := (List.getElem?_eq_some_iff.mp hi).1
        rw [List.length_map, List.length_take] at this; omega
      simp only [rSlL, tSeq, tIfS, tTest, tOp, tVar, tC, tCB, tCons, tNil, tRet, tNext, tAsg, gName, gTup, gCons, gNil, tB, tUn, rU, rI0, rI, tTup, tLst, tCall, tDrop, tIf, tAnd, tOr, tNot, tAndV, tOrV, tNotV, tSl, tPart, tNoPart, tBM, tBM0, rClear, sDPut, tDNewK, rIn, rEq, rNe, scal, rCat, rIx, rIxL, rIxT, rIxS, rAppend, tDGetK, tDInK, L2.start, cxK, cxW, cxKn, cxWn, cpK, cpW, List.map_cons, List.map_nil, List.cons_append, List.nil_append, List.append_nil, List.length_cons, List.length_nil, List.replicate, List.set_cons_zero, List.set_cons_succ, List.getElem?_cons_zero, List.getElem?_cons_succ, Option.some.injEq, exists_eq_left', exists_eq_left, exists_and_left, exists_eq', exists_const, V.int.injEq, V.bl.injEq, V.str.injEq, V.ref.injEq, V.ty.injEq, List.cons.injEq, and_true, true_and, reduceCtorEq, false_and, and_false, exists_false, or_false, false_or, decide_eq_true_eq, Bool.not_eq_true', decide_eq_false_iff_not, if_true, if_false, Bool.false_eq_true, ite_true, ite_false, Bool.not_true, Bool.not_false, Nat.reduceAdd, Nat.reduceSub, and_assoc]
      refine ⟨_, SqL.of hat2, _, (by rw [show (4 : Int) = ((4 : Nat) : Int) from rfl]; exact atI_nat (v := V.int n4) (by simp [hn4])), by omega, ?_⟩
      simp only [rSlL, tSeq, tIfS, tTest, tOp, tVar, tC, tCB, tCons, tNil, tRet, tNext, tAsg, gName, gTup, gCons, gNil, tB, tUn, rU, rI0, rI, tTup, tLst, tCall, tDrop, tIf, tAnd, tOr, tNot, tAndV, tOrV, tNotV, tSl, tPart, tNoPart, tBM, tBM0, rClear, sDPut, tDNewK, rIn, rEq, rNe, scal, rCat, rIx, rIxL, rIxT, rIxS, rAppend, tDGetK, tDInK, L2.start, cxK, cxW, cxKn, cxWn, cpK, cpW, List.map_cons, List.map_nil, List.cons_append, List.nil_append, List.append_nil, List.length_cons, List.length_nil, List.replicate, List.set_cons_zero, List.set_cons_succ, List.getElem?_cons_zero, List.getElem?_cons_succ, Option.some.injEq, exists_eq_left', exists_eq_left, exists_and_left, exists_eq', exists_const, V.int.injEq, V.bl.injEq, V.str.injEq, V.ref.injEq, V.ty.injEq, List.cons.injEq, and_true, true_and, reduceCtorEq, false_and, and_false, exists_false, or_false, false_or, decide_eq_true_eq, Bool.not_eq_true', decide_eq_false_iff_not, if_true, if_false, Bool.false_eq_true, ite_true, ite_false, Bool.not_true, Bool.not_false, Nat.reduceAdd, Nat.reduceSub, and_assoc]
      have hb0 := Int.emod_nonneg (n4 + d % sz * 7) (show (26 : Int) ≠ 0 by decide)
      have hb1 := Int.emod_lt_of_pos (n4 + d % sz * 7) (show (0 : Int) < 26 by decide)
      refine ⟨.inr ⟨by decide, by decide⟩, by decide, ?_⟩
      rw [abc]
      refine ⟨by rw [sOf_len, List.length_map, List.length_range, sizeLine_eq]; decide, _, by rw [sOf_cps]; exact abc_at hb0 hb1, ?_, l ++ [_], sOf_append l [_], by simp [hll], fun x hx => ?_⟩
      · rw [sOf_len, hll]
        show i + 1 ≤ sizeLine
        rw [sizeLine_eq]; omega
      · rcases List.mem_append.mp hx with z | z
        · exact hlb x z
        · rw [List.mem_singleton.mp z]; omega
    · rintro σ H3 ⟨rfl, l, v, rfl, hll, hlb⟩
      simp only [rSlL, tSeq, tIfS, tTest, tOp, tVar, tC, tCB, tCons, tNil, tRet, tNext, tAsg, gName, gTup, gCons, gNil, tB, tUn, rU, rI0, rI, tTup, tLst, tCall, tDrop, tIf, tAnd, tOr, tNot, tAndV, tOrV, tNotV, tSl, tPart, tNoPart, tBM, tBM0, rClear, sDPut, tDNewK, rIn, rEq, rNe, scal, rCat, rIx, rIxL, rIxT, rIxS, rAppend, tDGetK, tDInK, L2.start, cxK, cxW, cxKn, cxWn, cpK, cpW, List.map_cons, List.map_nil, List.cons_append, List.nil_append, List.append_nil, List.length_cons, List.length_nil, List.replicate, List.set_cons_zero, List.set_cons_succ, List.getElem?_cons_zero, List.getElem?_cons_succ, Option.some.injEq, exists_eq_left', exists_eq_left, exists_and_left, exists_eq', exists_const, V.int.injEq, V.bl.injEq, V.str.injEq, V.ref.injEq, V.ty.injEq, List.cons.injEq, and_true, true_and, reduceCtorEq, false_and, and_false, exists_false, or_false, false_or, decide_eq_true_eq, Bool.not_eq_true', decide_eq_false_iff_not, if_true, if_false, Bool.false_eq_true, ite_true, ite_false, Bool.not_true, Bool.not_false, Nat.reduceAdd, Nat.reduceSub, and_assoc]
      refine q l _ hs2 ?_ hlb
      rw [hll, List.length_map, List.length_take]; omega
end
end Wb

set_option Elab.async false
set_option linter.all false
set_option maxRecDepth 100000
set_option maxHeartbeats 4000000
namespace Wb
open PySem L2
section
variable {P : Program} {w : World} {K : PySem.W.Frag} {mg : Str → Option Value} {base : Heap}
/-- a tablet at p -/
structure Tab (H : Hp) (p : Addr) (y : Nat) (l : List Nat) (st : Int) : Prop where
  at_ : H p = some (.tup [.str (sOf [y]), .str (sOf l), .int st])
  lay : y = 83 ∨ y = 90
  four : l.length = 4
  low : 0 ≤ st
  high : st < 4
theorem Tab.same {H H' : Hp} {p : Addr} {y : Nat} {l : List Nat} {st : Int} (h : Tab H p y l st) (e : Same H H') : Tab H' p y l st := ⟨e _ _ h.at_, h.lay, h.four, h.low, h.high⟩
def spCard : Sp := fun vs H Q _ => ∃ (c : Int), vs = [.int c] ∧ ∀ (p : Addr) (y : Nat) (l : List Nat) (st : Int) (H' : Hp), Same H H' → Tab H' p y l st → (∀ x ∈ l, 97 ≤ x ∧ x ≤ 122) → Q (.ref p) H'
theorem sz_at (c : Int) : ∃ y, (y = 83 ∨ y = 90) ∧ atI (Str.ofString "SZ").cps.toList (c % 2) = some y := by
  have h0 := Int.emod_nonneg c (show (2 : Int) ≠ 0 by decide)
  have h1 := Int.emod_lt_of_pos c (show (0 : Int) < 2 by decide)
  rw [show (Str.ofString "SZ").cps.toList = [83, 90] by decide +kernel]
  generalize c % 2 = r at h0 h1
  have : r = 0 ∨ r = 1 := by omega
  rcases this with h | h <;> subst h
  · exact ⟨83, .inl rfl, rfl⟩
  · exact ⟨90, .inr rfl, rfl⟩
theorem ok_card {f : Addr} {fd : FuncData} (F : Fun K "_law_card" "_law_card" (tp 21) f fd) (C__law_holes : Cal P w K mg base "_law_holes" ["_law_cell"] 2 spHoles) : FnOk P w K mg base CX0 3 f fd ["_law_cell"] spCard := by
  have SC : FnScope ["_law_cell"] ["_law_cell"] (defScope (tp 21)) := ⟨rfl, rfl, rfl, by decide +kernel, rfl, by decide +kernel, by decide +kernel⟩
  refine F.ok SC (fun vs H Q E h => ?_) (fun cdv A outer s H vs Q E hr h => ?_)
  · obtain ⟨c, rfl, _⟩ := h; rfl
  · obtain ⟨c, rfl, q⟩ := h
    refine ⟨_, (pss_one (ps_ret (pe_tup (pa_cons (pe_ix ix_str pe_str (pe_op op_mod (pv 0) pe_int) (fun _ _ => rfl)) (pa_cons (pe_cal C__law_holes (hr.mono (by decide)) (by rfl) (pa_cons (pe_op op_fdiv (pv 0) pe_int) pa_nil)) (pa_cons (pe_op op_mod (pe_op op_fdiv (pv 0) pe_int) pe_int) pa_nil)))))), ?_⟩
    simp only [rSlL, tSeq, tIfS, tTest, tOp, tVar, tC, tCB, tCons, tNil, tRet, tNext, tAsg, gName, gTup, gCons, gNil, tB, tUn, rU, rI0, rI, tTup, tLst, tCall, tDrop, tIf, tAnd, tOr, tNot, tAndV, tOrV, tNotV, tSl, tPart, tNoPart, tBM, tBM0, rClear, sDPut, tDNewK, rIn, rEq, rNe, scal, rCat, rIx, rIxL, rIxT, rIxS, rAppend, tDGetK, tDInK, L2.start, cxK, cxW, cxKn, cxWn, cpK, cpW, List.map_cons, List.map_nil, List.cons_append, List.nil_append, List.append_nil, List.length_cons, List.length_nil, List.replicate, List.set_cons_zero, List.set_cons_succ, List.getElem?_cons_zero, List.getElem?_cons_succ, Option.some.injEq, exists_eq_left', exists_eq_left, exists_and_left, exists_eq', exists_const, V.int.injEq, V.bl.injEq, V.str.injEq, V.ref.injEq, V.ty.injEq, List.cons.injEq, and_true, true_and, reduceCtorEq, false_and, and_false, exists_false, or_false, false_or, decide_eq_true_eq, Bool.not_eq_true', decide_eq_false_iff_not, if_true, if_false, Bool.false_eq_true, ite_true, ite_false, Bool.not_true, Bool.not_false, Nat.reduceAdd, Nat.reduceSub, and_assoc]
    obtain ⟨y, hy, ey⟩ := sz_at c
    refine ⟨by decide, by decide +kernel, y, ey, ⟨by decide, by decide⟩, _, rfl, fun l H1 hs hl hb => ?_⟩
    simp only [rSlL, tSeq, tIfS, tTest, tOp, tVar, tC, tCB, tCons, tNil, tRet, tNext, tAsg, gName, gTup, gCons, gNil, tB, tUn, rU, rI0, rI, tTup, tLst, tCall, tDrop, tIf, tAnd, tOr, tNot, tAndV, tOrV, tNotV, tSl, tPart, tNoPart, tBM, tBM0, rClear, sDPut, tDNewK, rIn, rEq, rNe, scal, rCat, rIx, rIxL, rIxT, rIxS, rAppend, tDGetK, tDInK, L2.start, cxK, cxW, cxKn, cxWn, cpK, cpW, List.map_cons, List.map_nil, List.cons_append, List.nil_append, List.append_nil, List.length_cons, List.length_nil, List.replicate, List.set_cons_zero, List.set_cons_succ, List.getElem?_cons_zero, List.getElem?_cons_succ, Option.some.injEq, exists_eq_left', exists_eq_left, exists_and_left, exists_eq', exists_const, V.int.injEq, V.bl.injEq, V.str.injEq, V.ref.injEq, V.ty.injEq, List.cons.injEq, and_true, true_and, reduceCtorEq, false_and, and_false, exists_false, or_false, false_or, decide_eq_true_eq, Bool.not_eq_true', decide_eq_false_iff_not, if_true, if_false, Bool.false_eq_true, ite_true, ite_false, Bool.not_true, Bool.not_false, Nat.reduceAdd, Nat.reduceSub, and_assoc]
    refine ⟨⟨by decide, by decide⟩, by decide, by decide, fun p hp => ?_⟩
    refine q p y l _ _ (hs.trans (same_upd hp)) ⟨upd_same, hy, hl, Int.emod_nonneg _ (by decide), Int.emod_lt_of_pos _ (by decide)⟩ hb
def spNone : Sp := fun _ _ _ _ => False
/-- level 0: nothing is promised; level n + 1: data of depth n -/
def spSame : Nat → Sp
  | 0 => spNone
  | n + 1 => fun vs H Q _ => ∃ v u, vs = [v, u] ∧ Eqv H n v u ∧ ∀ H', Same H H' → Q (.bl true) H'
theorem ok_none {f : Addr} {fd : FuncData} {ps : List Str} {k : Nat} : FnOk P w K mg base CX0 k f fd ps spNone := ⟨fun _ _ _ _ h => h.elim, fun _ _ _ _ _ _ _ _ _ _ _ _ _ h => h.elim⟩
theorem kit {K : PySem.W.Frag} (a b : String) (r : Bool) (h : PySem.W.kitOne [] (.type a) (.type b) = some r) : PySem.W.kitOne K (.type a) (.type b) = some r := by first | exact h | (rw [← h]; rfl)
theorem ok_same1 {f : Addr} {fd : FuncData} (F : Fun K "_law_same" "_law_same" (tp 35) f fd) (h_len : mg "len" = none) (h_isinstance : mg "isinstance" = none) (h_bool : mg "bool" = none) (h_int : mg "int" = none) (h_str : mg "str" = none) (h_list : mg "list" = none) (h_tuple : mg "tuple" = none) (h_zip : mg "zip" = none) {n : Nat}
    (C__law_same : Cal P w K mg base "_law_same" ["_law_found", "_law_due"] n (spSame n)) : FnOk P w K mg base CX0 (n + 1) f fd ["_law_found", "_law_due"] (spSame (n + 1)) := by
  have SC : FnScope ["_law_found", "_law_due", "_law_one", "_law_other"] ["_law_found", "_law_due"] (defScope (tp 35)) := ⟨rfl, rfl, rfl, by decide +kernel, rfl, by decide +kernel, by decide +kernel⟩
  refine F.ok SC (fun vs H Q E h => ?_) (fun cdv A outer s H vs Q E hr h => ?_)
  · obtain ⟨v, u, rfl, _⟩ := h; rfl
  · obtain ⟨v, u, rfl, he, q⟩ := h
    have hr : Room n _ := hr
    refine ⟨_, (pss_cons (ps_if (PW.pt (pw_or (pt_cmpR (op_isN.or op_is_bl) (pv 1) pe_non (nomark _)) (pw_or (pt_cmpR (op_isN.or op_is_bl) (pv 1) pe_bl (nomark _)) (pw_or1 (pt_cmpR (op_isN.or op_is_bl) (pv 1) pe_bl (nomark _)))))) (pss_one (ps_ret (pe_and (pe_cmpR op_eq (pe_callB (call_isinstK (K := K) rfl) (by rfl) h_isinstance PyProof.Rows.boot_isinstance (pa_cons (pv 0) (pa_cons (pe_bltn (v := .ty "bool") (by rfl) h_bool PyProof.Rows.boot_bool rfl) pa_nil))) (pe_callB (call_isinstK (K := K) rfl) (by rfl) h_isinstance PyProof.Rows.boot_isinstance (pa_cons (pv 1) (pa_cons (pe_bltn (v := .ty "bool") (by rfl) h_bool PyProof.Rows.boot_bool rfl) pa_nil))) (nomark _)) (pe_one (pe_cmpR op_eq (pv 0) (pv 1) (nomark _)))))) pss_nil)
      (pss_cons (ps_if (pt_val (pe_callB (call_isinstK (K := K) rfl) (by rfl) h_isinstance PyProof.Rows.boot_isinstance (pa_cons (pv 1) (pa_cons (pe_bltn (v := .ty "int") (by rfl) h_int PyProof.Rows.boot_int rfl) pa_nil)))) (pss_one (ps_ret (pe_and (pe_callB (call_isinstK (K := K) rfl) (by rfl) h_isinstance PyProof.Rows.boot_isinstance (pa_cons (pv 0) (pa_cons (pe_bltn (v := .ty "int") (by rfl) h_int PyProof.Rows.boot_int rfl) pa_nil))) (pe_and (pe_not (pe_callB (call_isinstK (K := K) rfl) (by rfl) h_isinstance PyProof.Rows.boot_isinstance (pa_cons (pv 0) (pa_cons (pe_bltn (v := .ty "bool") (by rfl) h_bool PyProof.Rows.boot_bool rfl) pa_nil)))) (pe_one (pe_cmpR op_eq (pv 0) (pv 1) (nomark _))))))) pss_nil)
      (pss_cons (ps_if (pt_val (pe_callB (call_isinstK (K := K) rfl) (by rfl) h_isinstance PyProof.Rows.boot_isinstance (pa_cons (pv 1) (pa_cons (pe_bltn (v := .ty "str") (by rfl) h_str PyProof.Rows.boot_str rfl) pa_nil)))) (pss_one (ps_ret (pe_and (pe_callB (call_isinstK (K := K) rfl) (by rfl) h_isinstance PyProof.Rows.boot_isinstance (pa_cons (pv 0) (pa_cons (pe_bltn (v := .ty "str") (by rfl) h_str PyProof.Rows.boot_str rfl) pa_nil))) (pe_one (pe_cmpR op_eq (pv 0) (pv 1) (nomark _)))))) pss_nil)
      (pss_cons (ps_if (PW.pt (pw_and (pt_val (pe_callB (call_isinstK (K := K) rfl) (by rfl) h_isinstance PyProof.Rows.boot_isinstance (pa_cons (pv 1) (pa_cons (pe_bltn (v := .ty "list") (by rfl) h_list PyProof.Rows.boot_list rfl) pa_nil)))) (pw_and1 (pt_not (pt_val (pe_callB (call_isinstK (K := K) rfl) (by rfl) h_isinstance PyProof.Rows.boot_isinstance (pa_cons (pv 0) (pa_cons (pe_bltn (v := .ty "list") (by rfl) h_list PyProof.Rows.boot_list rfl) pa_nil)))))))) (pss_one (ps_ret pe_bl)) pss_nil)
      (pss_cons (ps_if (PW.pt (pw_and (pt_val (pe_callB (call_isinstK (K := K) rfl) (by rfl) h_isinstance PyProof.Rows.boot_isinstance (pa_cons (pv 1) (pa_cons (pe_bltn (v := .ty "tuple") (by rfl) h_tuple PyProof.Rows.boot_tuple rfl) pa_nil)))) (pw_and1 (pt_not (pt_val (pe_callB (call_isinstK (K := K) rfl) (by rfl) h_isinstance PyProof.Rows.boot_isinstance (pa_cons (pv 0) (pa_cons (pe_bltn (v := .ty "tuple") (by rfl) h_tuple PyProof.Rows.boot_tuple rfl) pa_nil)))))))) (pss_one (ps_ret pe_bl)) pss_nil)
      (pss_cons (ps_if (pt_cmpR op_ne (pe_callB (call_lenK (K := K) rfl) (by rfl) h_len PySem.boot_len (pa_cons (pv 0) pa_nil)) (pe_callB (call_lenK (K := K) rfl) (by rfl) h_len PySem.boot_len (pa_cons (pv 1) pa_nil)) (nomark _)) (pss_one (ps_ret pe_bl)) pss_nil)
      (pss_cons (ps_for PassesOwn.never rfl (pi_zipK (K := K) rfl rfl h_zip (pa_cons (pv 0) (pa_cons (pv 1) pa_nil))) (pg_tupK (K := K) (n := 2) rfl rfl (pgs_cons (pg_name (i := 2) SC.nd rfl (by first | exact Or.inl rfl | exact Or.inr rfl)) (pgs_cons (pg_name (i := 3) SC.nd rfl (by first | exact Or.inl rfl | exact Or.inr rfl)) pgs_nil))) (pss_one (ps_if (pt_not (pt_val (pe_cal C__law_same hr (by rfl) (pa_cons (pv 2) (pa_cons (pv 3) pa_nil))))) (pss_one (ps_ret pe_bl)) pss_nil)))
      (pss_one (ps_ret pe_bl))))))))), ?_⟩
    have fl : ∀ v, L2.flat v = true → (∀ H', Same H H' → Q (.bl true) H') → (v = .non ∨ (∃ b, v = .bl b) ∨ (∃ i, v = .int i) ∨ ∃ x, v = .str x) := fun v hv _ => by
      cases v with
      | non => exact .inl rfl
      | bl b => exact .inr (.inl ⟨b, rfl⟩)
      | int b => exact .inr (.inr (.inl ⟨b, rfl⟩))
      | str b => exact .inr (.inr (.inr ⟨b, rfl⟩))
      | _ => cases hv
    have he' : (v = u ∧ L2.flat v = true) ∨ ∃ m p q xs ys, n = m + 1 ∧ v = .ref p ∧ u = .ref q ∧ ((H p = some (.lst xs) ∧ H q = some (.lst ys)) ∨ (H p = some (.tup xs) ∧ H q = some (.tup ys))) ∧ xs.length = ys.length ∧ ∀ (i : Nat) (x y : V), xs[i]? = some x → ys[i]? = some y → Eqv H m x y := by
      cases n with
      | zero => exact .inl he
      | succ m => rcases he with z | ⟨p, q, xs, ys, z⟩; exact .inl z; exact .inr ⟨m, p, q, xs, ys, rfl, z⟩
    rcases he' with ⟨rfl, hf⟩ | ⟨m, p, q', xs, ys, hnm, rfl, rfl, hk, hl, hi⟩
    · rcases fl v hf q with rfl | ⟨b, rfl⟩ | ⟨i, rfl⟩ | ⟨x, rfl⟩
      · simp only [rSlL, tSeq, tIfS, tTest, tOp, tVar, tC, tCB, tCons, tNil, tRet, tNext, tAsg, gName, gTup, gCons, gNil, tB, tUn, rU, rI0, rI, tTup, tLst, tCall, tDrop, tIf, tAnd, tOr, tNot, tAndV, tOrV, tNotV, tSl, tPart, tNoPart, tBM, tBM0, rClear, sDPut, tDNewK, rIn, rEq, rNe, scal, rCat, rIx, rIxL, rIxT, rIxS, rAppend, tDGetK, tDInK, L2.start, cxK, cxW, cxKn, cxWn, cpK, cpW, List.map_cons, List.map_nil, List.cons_append, List.nil_append, List.append_nil, List.length_cons, List.length_nil, List.replicate, List.set_cons_zero, List.set_cons_succ, List.getElem?_cons_zero, List.getElem?_cons_succ, Option.some.injEq, exists_eq_left', exists_eq_left, exists_and_left, exists_eq', exists_const, V.int.injEq, V.bl.injEq, V.str.injEq, V.ref.injEq, V.ty.injEq, List.cons.injEq, and_true, true_and, reduceCtorEq, false_and, and_false, exists_false, or_false, false_or, decide_eq_true_eq, Bool.not_eq_true', decide_eq_false_iff_not, if_true, if_false, Bool.false_eq_true, ite_true, ite_false, Bool.not_true, Bool.not_false, Nat.reduceAdd, Nat.reduceSub, and_assoc]
        refine ⟨_, .non, _, kit "NoneType" "bool" false rfl, _, .non, _, kit "NoneType" "bool" false rfl, ?_⟩
        simp only [rSlL, tSeq, tIfS, tTest, tOp, tVar, tC, tCB, tCons, tNil, tRet, tNext, tAsg, gName, gTup, gCons, gNil, tB, tUn, rU, rI0, rI, tTup, tLst, tCall, tDrop, tIf, tAnd, tOr, tNot, tAndV, tOrV, tNotV, tSl, tPart, tNoPart, tBM, tBM0, rClear, sDPut, tDNewK, rIn, rEq, rNe, scal, rCat, rIx, rIxL, rIxT, rIxS, rAppend, tDGetK, tDInK, L2.start, cxK, cxW, cxKn, cxWn, cpK, cpW, List.map_cons, List.map_nil, List.cons_append, List.nil_append, List.append_nil, List.length_cons, List.length_nil, List.replicate, List.set_cons_zero, List.set_cons_succ, List.getElem?_cons_zero, List.getElem?_cons_succ, Option.some.injEq, exists_eq_left', exists_eq_left, exists_and_left, exists_eq', exists_const, V.int.injEq, V.bl.injEq, V.str.injEq, V.ref.injEq, V.ty.injEq, List.cons.injEq, and_true, true_and, reduceCtorEq, false_and, and_false, exists_false, or_false, false_or, decide_eq_true_eq, Bool.not_eq_true', decide_eq_false_iff_not, if_true, if_false, Bool.false_eq_true, ite_true, ite_false, Bool.not_true, Bool.not_false, Nat.reduceAdd, Nat.reduceSub, and_assoc]
        exact q H (.refl H)
      · cases b <;> simp only [rSlL, tSeq, tIfS, tTest, tOp, tVar, tC, tCB, tCons, tNil, tRet, tNext, tAsg, gName, gTup, gCons, gNil, tB, tUn, rU, rI0, rI, tTup, tLst, tCall, tDrop, tIf, tAnd, tOr, tNot, tAndV, tOrV, tNotV, tSl, tPart, tNoPart, tBM, tBM0, rClear, sDPut, tDNewK, rIn, rEq, rNe, scal, rCat, rIx, rIxL, rIxT, rIxS, rAppend, tDGetK, tDInK, L2.start, cxK, cxW, cxKn, cxWn, cpK, cpW, List.map_cons, List.map_nil, List.cons_append, List.nil_append, List.append_nil, List.length_cons, List.length_nil, List.replicate, List.set_cons_zero, List.set_cons_succ, List.getElem?_cons_zero, List.getElem?_cons_succ, Option.some.injEq, exists_eq_left', exists_eq_left, exists_and_left, exists_eq', exists_const, V.int.injEq, V.bl.injEq, V.str.injEq, V.ref.injEq, V.ty.injEq, List.cons.injEq, and_true, true_and, reduceCtorEq, false_and, and_false, exists_false, or_false, false_or, decide_eq_true_eq, Bool.not_eq_true', decide_eq_false_iff_not, if_true, if_false, Bool.false_eq_true, ite_true, ite_false, Bool.not_true, Bool.not_false, Nat.reduceAdd, Nat.reduceSub, and_assoc]
        · refine ⟨_, .bl _, _, kit "bool" "bool" true rfl, _, .bl _, _, kit "bool" "bool" true rfl, ?_⟩
          simp only [rSlL, tSeq, tIfS, tTest, tOp, tVar, tC, tCB, tCons, tNil, tRet, tNext, tAsg, gName, gTup, gCons, gNil, tB, tUn, rU, rI0, rI, tTup, tLst, tCall, tDrop, tIf, tAnd, tOr, tNot, tAndV, tOrV, tNotV, tSl, tPart, tNoPart, tBM, tBM0, rClear, sDPut, tDNewK, rIn, rEq, rNe, scal, rCat, rIx, rIxL, rIxT, rIxS, rAppend, tDGetK, tDInK, L2.start, cxK, cxW, cxKn, cxWn, cpK, cpW, List.map_cons, List.map_nil, List.cons_append, List.nil_append, List.append_nil, List.length_cons, List.length_nil, List.replicate, List.set_cons_zero, List.set_cons_succ, List.getElem?_cons_zero, List.getElem?_cons_succ, Option.some.injEq, exists_eq_left', exists_eq_left, exists_and_left, exists_eq', exists_const, V.int.injEq, V.bl.injEq, V.str.injEq, V.ref.injEq, V.ty.injEq, List.cons.injEq, and_true, true_and, reduceCtorEq, false_and, and_false, exists_false, or_false, false_or, decide_eq_true_eq, Bool.not_eq_true', decide_eq_false_iff_not, if_true, if_false, Bool.false_eq_true, ite_true, ite_false, Bool.not_true, Bool.not_false, Nat.reduceAdd, Nat.reduceSub, and_assoc]
          exact q H (.refl H)
        · refine ⟨_, .bl _, _, kit "bool" "bool" true rfl, _, .bl _, _, kit "bool" "bool" true rfl, ?_⟩
          simp only [rSlL, tSeq, tIfS, tTest, tOp, tVar, tC, tCB, tCons, tNil, tRet, tNext, tAsg, gName, gTup, gCons, gNil, tB, tUn, rU, rI0, rI, tTup, tLst, tCall, tDrop, tIf, tAnd, tOr, tNot, tAndV, tOrV, tNotV, tSl, tPart, tNoPart, tBM, tBM0, rClear, sDPut, tDNewK, rIn, rEq, rNe, scal, rCat, rIx, rIxL, rIxT, rIxS, rAppend, tDGetK, tDInK, L2.start, cxK, cxW, cxKn, cxWn, cpK, cpW, List.map_cons, List.map_nil, List.cons_append, List.nil_append, List.append_nil, List.length_cons, List.length_nil, List.replicate, List.set_cons_zero, List.set_cons_succ, List.getElem?_cons_zero, List.getElem?_cons_succ, Option.some.injEq, exists_eq_left', exists_eq_left, exists_and_left, exists_eq', exists_const, V.int.injEq, V.bl.injEq, V.str.injEq, V.ref.injEq, V.ty.injEq, List.cons.injEq, and_true, true_and, reduceCtorEq, false_and, and_false, exists_false, or_false, false_or, decide_eq_true_eq, Bool.not_eq_true', decide_eq_false_iff_not, if_true, if_false, Bool.false_eq_true, ite_true, ite_false, Bool.not_true, Bool.not_false, Nat.reduceAdd, Nat.reduceSub, and_assoc]
          exact q H (.refl H)
      · simp only [rSlL, tSeq, tIfS, tTest, tOp, tVar, tC, tCB, tCons, tNil, tRet, tNext, tAsg, gName, gTup, gCons, gNil, tB, tUn, rU, rI0, rI, tTup, tLst, tCall, tDrop, tIf, tAnd, tOr, tNot, tAndV, tOrV, tNotV, tSl, tPart, tNoPart, tBM, tBM0, rClear, sDPut, tDNewK, rIn, rEq, rNe, scal, rCat, rIx, rIxL, rIxT, rIxS, rAppend, tDGetK, tDInK, L2.start, cxK, cxW, cxKn, cxWn, cpK, cpW, List.map_cons, List.map_nil, List.cons_append, List.nil_append, List.append_nil, List.length_cons, List.length_nil, List.replicate, List.set_cons_zero, List.set_cons_succ, List.getElem?_cons_zero, List.getElem?_cons_succ, Option.some.injEq, exists_eq_left', exists_eq_left, exists_and_left, exists_eq', exists_const, V.int.injEq, V.bl.injEq, V.str.injEq, V.ref.injEq, V.ty.injEq, List.cons.injEq, and_true, true_and, reduceCtorEq, false_and, and_false, exists_false, or_false, false_or, decide_eq_true_eq, Bool.not_eq_true', decide_eq_false_iff_not, if_true, if_false, Bool.false_eq_true, ite_true, ite_false, Bool.not_true, Bool.not_false, Nat.reduceAdd, Nat.reduceSub, and_assoc]
        refine ⟨_, .int _, _, kit "int" "int" true rfl, ?_⟩
        simp only [rSlL, tSeq, tIfS, tTest, tOp, tVar, tC, tCB, tCons, tNil, tRet, tNext, tAsg, gName, gTup, gCons, gNil, tB, tUn, rU, rI0, rI, tTup, tLst, tCall, tDrop, tIf, tAnd, tOr, tNot, tAndV, tOrV, tNotV, tSl, tPart, tNoPart, tBM, tBM0, rClear, sDPut, tDNewK, rIn, rEq, rNe, scal, rCat, rIx, rIxL, rIxT, rIxS, rAppend, tDGetK, tDInK, L2.start, cxK, cxW, cxKn, cxWn, cpK, cpW, List.map_cons, List.map_nil, List.cons_append, List.nil_append, List.append_nil, List.length_cons, List.length_nil, List.replicate, List.set_cons_zero, List.set_cons_succ, List.getElem?_cons_zero, List.getElem?_cons_succ, Option.some.injEq, exists_eq_left', exists_eq_left, exists_and_left, exists_eq', exists_const, V.int.injEq, V.bl.injEq, V.str.injEq, V.ref.injEq, V.ty.injEq, List.cons.injEq, and_true, true_and, reduceCtorEq, false_and, and_false, exists_false, or_false, false_or, decide_eq_true_eq, Bool.not_eq_true', decide_eq_false_iff_not, if_true, if_false, Bool.false_eq_true, ite_true, ite_false, Bool.not_true, Bool.not_false, Nat.reduceAdd, Nat.reduceSub, and_assoc]
        refine ⟨_, .int _, _, kit "int" "int" true rfl, ?_⟩
        simp only [rSlL, tSeq, tIfS, tTest, tOp, tVar, tC, tCB, tCons, tNil, tRet, tNext, tAsg, gName, gTup, gCons, gNil, tB, tUn, rU, rI0, rI, tTup, tLst, tCall, tDrop, tIf, tAnd, tOr, tNot, tAndV, tOrV, tNotV, tSl, tPart, tNoPart, tBM, tBM0, rClear, sDPut, tDNewK, rIn, rEq, rNe, scal, rCat, rIx, rIxL, rIxT, rIxS, rAppend, tDGetK, tDInK, L2.start, cxK, cxW, cxKn, cxWn, cpK, cpW, List.map_cons, List.map_nil, List.cons_append, List.nil_append, List.append_nil, List.length_cons, List.length_nil, List.replicate, List.set_cons_zero, List.set_cons_succ, List.getElem?_cons_zero, List.getElem?_cons_succ, Option.some.injEq, exists_eq_left', exists_eq_left, exists_and_left, exists_eq', exists_const, V.int.injEq, V.bl.injEq, V.str.injEq, V.ref.injEq, V.ty.injEq, List.cons.injEq, and_true, true_and, reduceCtorEq, false_and, and_false, exists_false, or_false, false_or, decide_eq_true_eq, Bool.not_eq_true', decide_eq_false_iff_not, if_true, if_false, Bool.false_eq_true, ite_true, ite_false, Bool.not_true, Bool.not_false, Nat.reduceAdd, Nat.reduceSub, and_assoc]
        refine ⟨_, .int _, _, kit "int" "bool" false rfl, ?_⟩
        simp only [rSlL, tSeq, tIfS, tTest, tOp, tVar, tC, tCB, tCons, tNil, tRet, tNext, tAsg, gName, gTup, gCons, gNil, tB, tUn, rU, rI0, rI, tTup, tLst, tCall, tDrop, tIf, tAnd, tOr, tNot, tAndV, tOrV, tNotV, tSl, tPart, tNoPart, tBM, tBM0, rClear, sDPut, tDNewK, rIn, rEq, rNe, scal, rCat, rIx, rIxL, rIxT, rIxS, rAppend, tDGetK, tDInK, L2.start, cxK, cxW, cxKn, cxWn, cpK, cpW, List.map_cons, List.map_nil, List.cons_append, List.nil_append, List.append_nil, List.length_cons, List.length_nil, List.replicate, List.set_cons_zero, List.set_cons_succ, List.getElem?_cons_zero, List.getElem?_cons_succ, Option.some.injEq, exists_eq_left', exists_eq_left, exists_and_left, exists_eq', exists_const, V.int.injEq, V.bl.injEq, V.str.injEq, V.ref.injEq, V.ty.injEq, List.cons.injEq, and_true, true_and, reduceCtorEq, false_and, and_false, exists_false, or_false, false_or, decide_eq_true_eq, Bool.not_eq_true', decide_eq_false_iff_not, if_true, if_false, Bool.false_eq_true, ite_true, ite_false, Bool.not_true, Bool.not_false, Nat.reduceAdd, Nat.reduceSub, and_assoc]
        exact q H (.refl H)
      · simp only [rSlL, tSeq, tIfS, tTest, tOp, tVar, tC, tCB, tCons, tNil, tRet, tNext, tAsg, gName, gTup, gCons, gNil, tB, tUn, rU, rI0, rI, tTup, tLst, tCall, tDrop, tIf, tAnd, tOr, tNot, tAndV, tOrV, tNotV, tSl, tPart, tNoPart, tBM, tBM0, rClear, sDPut, tDNewK, rIn, rEq, rNe, scal, rCat, rIx, rIxL, rIxT, rIxS, rAppend, tDGetK, tDInK, L2.start, cxK, cxW, cxKn, cxWn, cpK, cpW, List.map_cons, List.map_nil, List.cons_append, List.nil_append, List.append_nil, List.length_cons, List.length_nil, List.replicate, List.set_cons_zero, List.set_cons_succ, List.getElem?_cons_zero, List.getElem?_cons_succ, Option.some.injEq, exists_eq_left', exists_eq_left, exists_and_left, exists_eq', exists_const, V.int.injEq, V.bl.injEq, V.str.injEq, V.ref.injEq, V.ty.injEq, List.cons.injEq, and_true, true_and, reduceCtorEq, false_and, and_false, exists_false, or_false, false_or, decide_eq_true_eq, Bool.not_eq_true', decide_eq_false_iff_not, if_true, if_false, Bool.false_eq_true, ite_true, ite_false, Bool.not_true, Bool.not_false, Nat.reduceAdd, Nat.reduceSub, and_assoc]
        refine ⟨_, .str _, _, kit "str" "int" false rfl, ?_⟩
        simp only [rSlL, tSeq, tIfS, tTest, tOp, tVar, tC, tCB, tCons, tNil, tRet, tNext, tAsg, gName, gTup, gCons, gNil, tB, tUn, rU, rI0, rI, tTup, tLst, tCall, tDrop, tIf, tAnd, tOr, tNot, tAndV, tOrV, tNotV, tSl, tPart, tNoPart, tBM, tBM0, rClear, sDPut, tDNewK, rIn, rEq, rNe, scal, rCat, rIx, rIxL, rIxT, rIxS, rAppend, tDGetK, tDInK, L2.start, cxK, cxW, cxKn, cxWn, cpK, cpW, List.map_cons, List.map_nil, List.cons_append, List.nil_append, List.append_nil, List.length_cons, List.length_nil, List.replicate, List.set_cons_zero, List.set_cons_succ, List.getElem?_cons_zero, List.getElem?_cons_succ, Option.some.injEq, exists_eq_left', exists_eq_left, exists_and_left, exists_eq', exists_const, V.int.injEq, V.bl.injEq, V.str.injEq, V.ref.injEq, V.ty.injEq, List.cons.injEq, and_true, true_and, reduceCtorEq, false_and, and_false, exists_false, or_false, false_or, decide_eq_true_eq, Bool.not_eq_true', decide_eq_false_iff_not, if_true, if_false, Bool.false_eq_true, ite_true, ite_false, Bool.not_true, Bool.not_false, Nat.reduceAdd, Nat.reduceSub, and_assoc]
        refine ⟨_, .str _, _, kit "str" "str" true rfl, ?_⟩
        simp only [rSlL, tSeq, tIfS, tTest, tOp, tVar, tC, tCB, tCons, tNil, tRet, tNext, tAsg, gName, gTup, gCons, gNil, tB, tUn, rU, rI0, rI, tTup, tLst, tCall, tDrop, tIf, tAnd, tOr, tNot, tAndV, tOrV, tNotV, tSl, tPart, tNoPart, tBM, tBM0, rClear, sDPut, tDNewK, rIn, rEq, rNe, scal, rCat, rIx, rIxL, rIxT, rIxS, rAppend, tDGetK, tDInK, L2.start, cxK, cxW, cxKn, cxWn, cpK, cpW, List.map_cons, List.map_nil, List.cons_append, List.nil_append, List.append_nil, List.length_cons, List.length_nil, List.replicate, List.set_cons_zero, List.set_cons_succ, List.getElem?_cons_zero, List.getElem?_cons_succ, Option.some.injEq, exists_eq_left', exists_eq_left, exists_and_left, exists_eq', exists_const, V.int.injEq, V.bl.injEq, V.str.injEq, V.ref.injEq, V.ty.injEq, List.cons.injEq, and_true, true_and, reduceCtorEq, false_and, and_false, exists_false, or_false, false_or, decide_eq_true_eq, Bool.not_eq_true', decide_eq_false_iff_not, if_true, if_false, Bool.false_eq_true, ite_true, ite_false, Bool.not_true, Bool.not_false, Nat.reduceAdd, Nat.reduceSub, and_assoc]
        refine ⟨_, .str _, _, kit "str" "str" true rfl, ?_⟩
        simp only [rSlL, tSeq, tIfS, tTest, tOp, tVar, tC, tCB, tCons, tNil, tRet, tNext, tAsg, gName, gTup, gCons, gNil, tB, tUn, rU, rI0, rI, tTup, tLst, tCall, tDrop, tIf, tAnd, tOr, tNot, tAndV, tOrV, tNotV, tSl, tPart, tNoPart, tBM, tBM0, rClear, sDPut, tDNewK, rIn, rEq, rNe, scal, rCat, rIx, rIxL, rIxT, rIxS, rAppend, tDGetK, tDInK, L2.start, cxK, cxW, cxKn, cxWn, cpK, cpW, List.map_cons, List.map_nil, List.cons_append, List.nil_append, List.append_nil, List.length_cons, List.length_nil, List.replicate, List.set_cons_zero, List.set_cons_succ, List.getElem?_cons_zero, List.getElem?_cons_succ, Option.some.injEq, exists_eq_left', exists_eq_left, exists_and_left, exists_eq', exists_const, V.int.injEq, V.bl.injEq, V.str.injEq, V.ref.injEq, V.ty.injEq, List.cons.injEq, and_true, true_and, reduceCtorEq, false_and, and_false, exists_false, or_false, false_or, decide_eq_true_eq, Bool.not_eq_true', decide_eq_false_iff_not, if_true, if_false, Bool.false_eq_true, ite_true, ite_false, Bool.not_true, Bool.not_false, Nat.reduceAdd, Nat.reduceSub, and_assoc]
        exact q H (.refl H)
    · subst hnm
      obtain ⟨T, tp1, tp2, tl, src1, src2, h1, h2, e1, e2⟩ : ∃ (T : String) (tp1 : TyOf K H (.ref p) (.type T)) (tp2 : TyOf K H (.ref q') (.type T)) (tl : (T = "list" ∧ SqL K H p xs ∧ SqL K H q' ys) ∨ (T = "tuple" ∧ SqT K H p xs ∧ SqT K H q' ys)) (src1 src2 : Src), (∀ H', Same H H' → src1.has K H' xs) ∧ (∀ H', Same H H' → src2.has K H' ys) ∧ src1.val = .ref p ∧ src2.val = .ref q' := by
        rcases hk with ⟨a, b⟩ | ⟨a, b⟩
        · exact ⟨"list", .lst a, .lst b, .inl ⟨rfl, SqL.of a, SqL.of b⟩, .lst p, .lst q', fun H' e => SqL.of (e _ _ a), fun H' e => SqL.of (e _ _ b), rfl, rfl⟩
        · exact ⟨"tuple", .tup a, .tup b, .inr ⟨rfl, SqT.of a, SqT.of b⟩, .tup p, .tup q', fun H' e => SqT.of (e _ _ a), fun H' e => SqT.of (e _ _ b), rfl, rfl⟩
      have hi0 : PySem.W.kitOne K (.type T) (.type "int") = some false := by rcases tl with ⟨rfl, _⟩ | ⟨rfl, _⟩; exact kit _ _ _ rfl; exact kit _ _ _ rfl
      have hs0 : PySem.W.kitOne K (.type T) (.type "str") = some false := by rcases tl with ⟨rfl, _⟩ | ⟨rfl, _⟩; exact kit _ _ _ rfl; exact kit _ _ _ rfl
      simp only [rSlL, tSeq, tIfS, tTest, tOp, tVar, tC, tCB, tCons, tNil, tRet, tNext, tAsg, gName, gTup, gCons, gNil, tB, tUn, rU, rI0, rI, tTup, tLst, tCall, tDrop, tIf, tAnd, tOr, tNot, tAndV, tOrV, tNotV, tSl, tPart, tNoPart, tBM, tBM0, rClear, sDPut, tDNewK, rIn, rEq, rNe, scal, rCat, rIx, rIxL, rIxT, rIxS, rAppend, tDGetK, tDInK, L2.start, cxK, cxW, cxKn, cxWn, cpK, cpW, List.map_cons, List.map_nil, List.cons_append, List.nil_append, List.append_nil, List.length_cons, List.length_nil, List.replicate, List.set_cons_zero, List.set_cons_succ, List.getElem?_cons_zero, List.getElem?_cons_succ, Option.some.injEq, exists_eq_left', exists_eq_left, exists_and_left, exists_eq', exists_const, V.int.injEq, V.bl.injEq, V.str.injEq, V.ref.injEq, V.ty.injEq, List.cons.injEq, and_true, true_and, reduceCtorEq, false_and, and_false, exists_false, or_false, false_or, decide_eq_true_eq, Bool.not_eq_true', decide_eq_false_iff_not, if_true, if_false, Bool.false_eq_true, ite_true, ite_false, Bool.not_true, Bool.not_false, Nat.reduceAdd, Nat.reduceSub, and_assoc]
      refine ⟨_, tp2, _, hi0, ?_⟩
      simp only [rSlL, tSeq, tIfS, tTest, tOp, tVar, tC, tCB, tCons, tNil, tRet, tNext, tAsg, gName, gTup, gCons, gNil, tB, tUn, rU, rI0, rI, tTup, tLst, tCall, tDrop, tIf, tAnd, tOr, tNot, tAndV, tOrV, tNotV, tSl, tPart, tNoPart, tBM, tBM0, rClear, sDPut, tDNewK, rIn, rEq, rNe, scal, rCat, rIx, rIxL, rIxT, rIxS, rAppend, tDGetK, tDInK, L2.start, cxK, cxW, cxKn, cxWn, cpK, cpW, List.map_cons, List.map_nil, List.cons_append, List.nil_append, List.append_nil, List.length_cons, List.length_nil, List.replicate, List.set_cons_zero, List.set_cons_succ, List.getElem?_cons_zero, List.getElem?_cons_succ, Option.some.injEq, exists_eq_left', exists_eq_left, exists_and_left, exists_eq', exists_const, V.int.injEq, V.bl.injEq, V.str.injEq, V.ref.injEq, V.ty.injEq, List.cons.injEq, and_true, true_and, reduceCtorEq, false_and, and_false, exists_false, or_false, false_or, decide_eq_true_eq, Bool.not_eq_true', decide_eq_false_iff_not, if_true, if_false, Bool.false_eq_true, ite_true, ite_false, Bool.not_true, Bool.not_false, Nat.reduceAdd, Nat.reduceSub, and_assoc]
      refine ⟨_, tp2, _, hs0, ?_⟩
      simp only [rSlL, tSeq, tIfS, tTest, tOp, tVar, tC, tCB, tCons, tNil, tRet, tNext, tAsg, gName, gTup, gCons, gNil, tB, tUn, rU, rI0, rI, tTup, tLst, tCall, tDrop, tIf, tAnd, tOr, tNot, tAndV, tOrV, tNotV, tSl, tPart, tNoPart, tBM, tBM0, rClear, sDPut, tDNewK, rIn, rEq, rNe, scal, rCat, rIx, rIxL, rIxT, rIxS, rAppend, tDGetK, tDInK, L2.start, cxK, cxW, cxKn, cxWn, cpK, cpW, List.map_cons, List.map_nil, List.cons_append, List.nil_append, List.append_nil, List.length_cons, List.length_nil, List.replicate, List.set_cons_zero, List.set_cons_succ, List.getElem?_cons_zero, List.getElem?_cons_succ, Option.some.injEq, exists_eq_left', exists_eq_left, exists_and_left, exists_eq', exists_const, V.int.injEq, V.bl.injEq, V.str.injEq, V.ref.injEq, V.ty.injEq, List.cons.injEq, and_true, true_and, reduceCtorEq, false_and, and_false, exists_false, or_false, false_or, decide_eq_true_eq, Bool.not_eq_true', decide_eq_false_iff_not, if_true, if_false, Bool.false_eq_true, ite_true, ite_false, Bool.not_true, Bool.not_false, Nat.reduceAdd, Nat.reduceSub, and_assoc]
      rcases tl with ⟨rfl, t1, t2⟩ | ⟨rfl, t1, t2⟩
      · refine ⟨_, tp2, _, kit "list" "list" true rfl, ?_⟩
        simp only [rSlL, tSeq, tIfS, tTest, tOp, tVar, tC, tCB, tCons, tNil, tRet, tNext, tAsg, gName, gTup, gCons, gNil, tB, tUn, rU, rI0, rI, tTup, tLst, tCall, tDrop, tIf, tAnd, tOr, tNot, tAndV, tOrV, tNotV, tSl, tPart, tNoPart, tBM, tBM0, rClear, sDPut, tDNewK, rIn, rEq, rNe, scal, rCat, rIx, rIxL, rIxT, rIxS, rAppend, tDGetK, tDInK, L2.start, cxK, cxW, cxKn, cxWn, cpK, cpW, List.map_cons, List.map_nil, List.cons_append, List.nil_append, List.append_nil, List.length_cons, List.length_nil, List.replicate, List.set_cons_zero, List.set_cons_succ, List.getElem?_cons_zero, List.getElem?_cons_succ, Option.some.injEq, exists_eq_left', exists_eq_left, exists_and_left, exists_eq', exists_const, V.int.injEq, V.bl.injEq, V.str.injEq, V.ref.injEq, V.ty.injEq, List.cons.injEq, and_true, true_and, reduceCtorEq, false_and, and_false, exists_false, or_false, false_or, decide_eq_true_eq, Bool.not_eq_true', decide_eq_false_iff_not, if_true, if_false, Bool.false_eq_true, ite_true, ite_false, Bool.not_true, Bool.not_false, Nat.reduceAdd, Nat.reduceSub, and_assoc]
        refine ⟨_, tp1, _, kit "list" "list" true rfl, ?_⟩
        simp only [rSlL, tSeq, tIfS, tTest, tOp, tVar, tC, tCB, tCons, tNil, tRet, tNext, tAsg, gName, gTup, gCons, gNil, tB, tUn, rU, rI0, rI, tTup, tLst, tCall, tDrop, tIf, tAnd, tOr, tNot, tAndV, tOrV, tNotV, tSl, tPart, tNoPart, tBM, tBM0, rClear, sDPut, tDNewK, rIn, rEq, rNe, scal, rCat, rIx, rIxL, rIxT, rIxS, rAppend, tDGetK, tDInK, L2.start, cxK, cxW, cxKn, cxWn, cpK, cpW, List.map_cons, List.map_nil, List.cons_append, List.nil_append, List.append_nil, List.length_cons, List.length_nil, List.replicate, List.set_cons_zero, List.set_cons_succ, List.getElem?_cons_zero, List.getElem?_cons_succ, Option.some.injEq, exists_eq_left', exists_eq_left, exists_and_left, exists_eq', exists_const, V.int.injEq, V.bl.injEq, V.str.injEq, V.ref.injEq, V.ty.injEq, List.cons.injEq, and_true, true_and, reduceCtorEq, false_and, and_false, exists_false, or_false, false_or, decide_eq_true_eq, Bool.not_eq_true', decide_eq_false_iff_not, if_true, if_false, Bool.false_eq_true, ite_true, ite_false, Bool.not_true, Bool.not_false, Nat.reduceAdd, Nat.reduceSub, and_assoc]
        refine ⟨_, tp2, _, kit "list" "tuple" false rfl, ?_⟩
        simp only [rSlL, tSeq, tIfS, tTest, tOp, tVar, tC, tCB, tCons, tNil, tRet, tNext, tAsg, gName, gTup, gCons, gNil, tB, tUn, rU, rI0, rI, tTup, tLst, tCall, tDrop, tIf, tAnd, tOr, tNot, tAndV, tOrV, tNotV, tSl, tPart, tNoPart, tBM, tBM0, rClear, sDPut, tDNewK, rIn, rEq, rNe, scal, rCat, rIx, rIxL, rIxT, rIxS, rAppend, tDGetK, tDInK, L2.start, cxK, cxW, cxKn, cxWn, cpK, cpW, List.map_cons, List.map_nil, List.cons_append, List.nil_append, List.append_nil, List.length_cons, List.length_nil, List.replicate, List.set_cons_zero, List.set_cons_succ, List.getElem?_cons_zero, List.getElem?_cons_succ, Option.some.injEq, exists_eq_left', exists_eq_left, exists_and_left, exists_eq', exists_const, V.int.injEq, V.bl.injEq, V.str.injEq, V.ref.injEq, V.ty.injEq, List.cons.injEq, and_true, true_and, reduceCtorEq, false_and, and_false, exists_false, or_false, false_or, decide_eq_true_eq, Bool.not_eq_true', decide_eq_false_iff_not, if_true, if_false, Bool.false_eq_true, ite_true, ite_false, Bool.not_true, Bool.not_false, Nat.reduceAdd, Nat.reduceSub, and_assoc]
        refine ⟨_, .inl ⟨_, t1, rfl⟩, _, .inl ⟨_, t2, rfl⟩, ?_⟩
        simp only [hl, rSlL, tSeq, tIfS, tTest, tOp, tVar, tC, tCB, tCons, tNil, tRet, tNext, tAsg, gName, gTup, gCons, gNil, tB, tUn, rU, rI0, rI, tTup, tLst, tCall, tDrop, tIf, tAnd, tOr, tNot, tAndV, tOrV, tNotV, tSl, tPart, tNoPart, tBM, tBM0, rClear, sDPut, tDNewK, rIn, rEq, rNe, scal, rCat, rIx, rIxL, rIxT, rIxS, rAppend, tDGetK, tDInK, L2.start, cxK, cxW, cxKn, cxWn, cpK, cpW, List.map_cons, List.map_nil, List.cons_append, List.nil_append, List.append_nil, List.length_cons, List.length_nil, List.replicate, List.set_cons_zero, List.set_cons_succ, List.getElem?_cons_zero, List.getElem?_cons_succ, Option.some.injEq, exists_eq_left', exists_eq_left, exists_and_left, exists_eq', exists_const, V.int.injEq, V.bl.injEq, V.str.injEq, V.ref.injEq, V.ty.injEq, List.cons.injEq, and_true, true_and, reduceCtorEq, false_and, and_false, exists_false, or_false, false_or, decide_eq_true_eq, Bool.not_eq_true', decide_eq_false_iff_not, if_true, if_false, Bool.false_eq_true, ite_true, ite_false, Bool.not_true, Bool.not_false, Nat.reduceAdd, Nat.reduceSub, and_assoc]
        refine ⟨_, rfl, _, rfl, src1, src2, xs, ys, by rw [e1, e2], h1 H (.refl H), h2 H (.refl H), for_zip (fun i σ H2 => Same H H2 ∧ ∃ a b, σ = [some (.ref p), some (.ref q'), a, b]) ⟨.refl H, none, none, rfl⟩ (fun i σ H2 ⟨e, _⟩ => ⟨h1 H2 e, h2 H2 e⟩) hl ?_ ?_⟩
        · rintro i x y r σ H2 hx hy hr' ⟨e, a, b, rfl⟩
          simp only [rSlL, tSeq, tIfS, tTest, tOp, tVar, tC, tCB, tCons, tNil, tRet, tNext, tAsg, gName, gTup, gCons, gNil, tB, tUn, rU, rI0, rI, tTup, tLst, tCall, tDrop, tIf, tAnd, tOr, tNot, tAndV, tOrV, tNotV, tSl, tPart, tNoPart, tBM, tBM0, rClear, sDPut, tDNewK, rIn, rEq, rNe, scal, rCat, rIx, rIxL, rIxT, rIxS, rAppend, tDGetK, tDInK, L2.start, cxK, cxW, cxKn, cxWn, cpK, cpW, List.map_cons, List.map_nil, List.cons_append, List.nil_append, List.append_nil, List.length_cons, List.length_nil, List.replicate, List.set_cons_zero, List.set_cons_succ, List.getElem?_cons_zero, List.getElem?_cons_succ, Option.some.injEq, exists_eq_left', exists_eq_left, exists_and_left, exists_eq', exists_const, V.int.injEq, V.bl.injEq, V.str.injEq, V.ref.injEq, V.ty.injEq, List.cons.injEq, and_true, true_and, reduceCtorEq, false_and, and_false, exists_false, or_false, false_or, decide_eq_true_eq, Bool.not_eq_true', decide_eq_false_iff_not, if_true, if_false, Bool.false_eq_true, ite_true, ite_false, Bool.not_true, Bool.not_false, Nat.reduceAdd, Nat.reduceSub, and_assoc]
          refine ⟨_, SqT.of upd_same, rfl, ?_⟩
          simp only [rSlL, tSeq, tIfS, tTest, tOp, tVar, tC, tCB, tCons, tNil, tRet, tNext, tAsg, gName, gTup, gCons, gNil, tB, tUn, rU, rI0, rI, tTup, tLst, tCall, tDrop, tIf, tAnd, tOr, tNot, tAndV, tOrV, tNotV, tSl, tPart, tNoPart, tBM, tBM0, rClear, sDPut, tDNewK, rIn, rEq, rNe, scal, rCat, rIx, rIxL, rIxT, rIxS, rAppend, tDGetK, tDInK, L2.start, cxK, cxW, cxKn, cxWn, cpK, cpW, List.map_cons, List.map_nil, List.cons_append, List.nil_append, List.append_nil, List.length_cons, List.length_nil, List.replicate, List.set_cons_zero, List.set_cons_succ, List.getElem?_cons_zero, List.getElem?_cons_succ, Option.some.injEq, exists_eq_left', exists_eq_left, exists_and_left, exists_eq', exists_const, V.int.injEq, V.bl.injEq, V.str.injEq, V.ref.injEq, V.ty.injEq, List.cons.injEq, and_true, true_and, reduceCtorEq, false_and, and_false, exists_false, or_false, false_or, decide_eq_true_eq, Bool.not_eq_true', decide_eq_false_iff_not, if_true, if_false, Bool.false_eq_true, ite_true, ite_false, Bool.not_true, Bool.not_false, Nat.reduceAdd, Nat.reduceSub, and_assoc]
          refine ⟨x, y, rfl, (hi i x y hx hy).same (e.trans (same_upd hr')), fun H3 e3 => ?_⟩
          simp only [rSlL, tSeq, tIfS, tTest, tOp, tVar, tC, tCB, tCons, tNil, tRet, tNext, tAsg, gName, gTup, gCons, gNil, tB, tUn, rU, rI0, rI, tTup, tLst, tCall, tDrop, tIf, tAnd, tOr, tNot, tAndV, tOrV, tNotV, tSl, tPart, tNoPart, tBM, tBM0, rClear, sDPut, tDNewK, rIn, rEq, rNe, scal, rCat, rIx, rIxL, rIxT, rIxS, rAppend, tDGetK, tDInK, L2.start, cxK, cxW, cxKn, cxWn, cpK, cpW, List.map_cons, List.map_nil, List.cons_append, List.nil_append, List.append_nil, List.length_cons, List.length_nil, List.replicate, List.set_cons_zero, List.set_cons_succ, List.getElem?_cons_zero, List.getElem?_cons_succ, Option.some.injEq, exists_eq_left', exists_eq_left, exists_and_left, exists_eq', exists_const, V.int.injEq, V.bl.injEq, V.str.injEq, V.ref.injEq, V.ty.injEq, List.cons.injEq, and_true, true_and, reduceCtorEq, false_and, and_false, exists_false, or_false, false_or, decide_eq_true_eq, Bool.not_eq_true', decide_eq_false_iff_not, if_true, if_false, Bool.false_eq_true, ite_true, ite_false, Bool.not_true, Bool.not_false, Nat.reduceAdd, Nat.reduceSub, and_assoc]
          exact e.trans ((same_upd hr').trans e3)
        · rintro σ H2 ⟨e, a, b, rfl⟩
          simp only [rSlL, tSeq, tIfS, tTest, tOp, tVar, tC, tCB, tCons, tNil, tRet, tNext, tAsg, gName, gTup, gCons, gNil, tB, tUn, rU, rI0, rI, tTup, tLst, tCall, tDrop, tIf, tAnd, tOr, tNot, tAndV, tOrV, tNotV, tSl, tPart, tNoPart, tBM, tBM0, rClear, sDPut, tDNewK, rIn, rEq, rNe, scal, rCat, rIx, rIxL, rIxT, rIxS, rAppend, tDGetK, tDInK, L2.start, cxK, cxW, cxKn, cxWn, cpK, cpW, List.map_cons, List.map_nil, List.cons_append, List.nil_append, List.append_nil, List.length_cons, List.length_nil, List.replicate, List.set_cons_zero, List.set_cons_succ, List.getElem?_cons_zero, List.getElem?_cons_succ, Option.some.injEq, exists_eq_left', exists_eq_left, exists_and_left, exists_eq', exists_const, V.int.injEq, V.bl.injEq, V.str.injEq, V.ref.injEq, V.ty.injEq, List.cons.injEq, and_true, true_and, reduceCtorEq, false_and, and_false, exists_false, or_false, false_or, decide_eq_true_eq, Bool.not_eq_true', decide_eq_false_iff_not, if_true, if_false, Bool.false_eq_true, ite_true, ite_false, Bool.not_true, Bool.not_false, Nat.reduceAdd, Nat.reduceSub, and_assoc]
          exact q H2 e
      · refine ⟨_, tp2, _, kit "tuple" "list" false rfl, ?_⟩
        simp only [rSlL, tSeq, tIfS, tTest, tOp, tVar, tC, tCB, tCons, tNil, tRet, tNext, tAsg, gName, gTup, gCons, gNil, tB, tUn, rU, rI0, rI, tTup, tLst, tCall, tDrop, tIf, tAnd, tOr, tNot, tAndV, tOrV, tNotV, tSl, tPart, tNoPart, tBM, tBM0, rClear, sDPut, tDNewK, rIn, rEq, rNe, scal, rCat, rIx, rIxL, rIxT, rIxS, rAppend, tDGetK, tDInK, L2.start, cxK, cxW, cxKn, cxWn, cpK, cpW, List.map_cons, List.map_nil, List.cons_append, List.nil_append, List.append_nil, List.length_cons, List.length_nil, List.replicate, List.set_cons_zero, List.set_cons_succ, List.getElem?_cons_zero, List.getElem?_cons_succ, Option.some.injEq, exists_eq_left', exists_eq_left, exists_and_left, exists_eq', exists_const, V.int.injEq, V.bl.injEq, V.str.injEq, V.ref.injEq, V.ty.injEq, List.cons.injEq, and_true, true_and, reduceCtorEq, false_and, and_false, exists_false, or_false, false_or, decide_eq_true_eq, Bool.not_eq_true', decide_eq_false_iff_not, if_true, if_false, Bool.false_eq_true, ite_true, ite_false, Bool.not_true, Bool.not_false, Nat.reduceAdd, Nat.reduceSub, and_assoc]
        refine ⟨_, tp2, _, kit "tuple" "tuple" true rfl, ?_⟩
        simp only [rSlL, tSeq, tIfS, tTest, tOp, tVar, tC, tCB, tCons, tNil, tRet, tNext, tAsg, gName, gTup, gCons, gNil, tB, tUn, rU, rI0, rI, tTup, tLst, tCall, tDrop, tIf, tAnd, tOr, tNot, tAndV, tOrV, tNotV, tSl, tPart, tNoPart, tBM, tBM0, rClear, sDPut, tDNewK, rIn, rEq, rNe, scal, rCat, rIx, rIxL, rIxT, rIxS, rAppend, tDGetK, tDInK, L2.start, cxK, cxW, cxKn, cxWn, cpK, cpW, List.map_cons, List.map_nil, List.cons_append, List.nil_append, List.append_nil, List.length_cons, List.length_nil, List.replicate, List.set_cons_zero, List.set_cons_succ, List.getElem?_cons_zero, List.getElem?_cons_succ, Option.some.injEq, exists_eq_left', exists_eq_left, exists_and_left, exists_eq', exists_const, V.int.injEq, V.bl.injEq, V.str.injEq, V.ref.injEq, V.ty.injEq, List.cons.injEq, and_true, true_and, reduceCtorEq, false_and, and_false, exists_false, or_false, false_or, decide_eq_true_eq, Bool.not_eq_true', decide_eq_false_iff_not, if_true, if_false, Bool.false_eq_true, ite_true, ite_false, Bool.not_true, Bool.not_false, Nat.reduceAdd, Nat.reduceSub, and_assoc]
        refine ⟨_, tp1, _, kit "tuple" "tuple" true rfl, ?_⟩
        simp only [rSlL, tSeq, tIfS, tTest, tOp, tVar, tC, tCB, tCons, tNil, tRet, tNext, tAsg, gName, gTup, gCons, gNil, tB, tUn, rU, rI0, rI, tTup, tLst, tCall, tDrop, tIf, tAnd, tOr, tNot, tAndV, tOrV, tNotV, tSl, tPart, tNoPart, tBM, tBM0, rClear, sDPut, tDNewK, rIn, rEq, rNe, scal, rCat, rIx, rIxL, rIxT, rIxS, rAppend, tDGetK, tDInK, L2.start, cxK, cxW, cxKn, cxWn, cpK, cpW, List.map_cons, List.map_nil, List.cons_append, List.nil_append, List.append_nil, List.length_cons, List.length_nil, List.replicate, List.set_cons_zero, List.set_cons_succ, List.getElem?_cons_zero, List.getElem?_cons_succ, Option.some.injEq, exists_eq_left', exists_eq_left, exists_and_left, exists_eq', exists_const, V.int.injEq, V.bl.injEq, V.str.injEq, V.ref.injEq, V.ty.injEq, List.cons.injEq, and_true, true_and, reduceCtorEq, false_and, and_false, exists_false, or_false, false_or, decide_eq_true_eq, Bool.not_eq_true', decide_eq_false_iff_not, if_true, if_false, Bool.false_eq_true, ite_true, ite_false, Bool.not_true, Bool.not_false, Nat.reduceAdd, Nat.reduceSub, and_assoc]
        refine ⟨_, .inr ⟨_, t1, rfl⟩, _, .inr ⟨_, t2, rfl⟩, ?_⟩
        simp only [hl, rSlL, tSeq, tIfS, tTest, tOp, tVar, tC, tCB, tCons, tNil, tRet, tNext, tAsg, gName, gTup, gCons, gNil, tB, tUn, rU, rI0, rI, tTup, tLst, tCall, tDrop, tIf, tAnd, tOr, tNot, tAndV, tOrV, tNotV, tSl, tPart, tNoPart, tBM, tBM0, rClear, sDPut, tDNewK, rIn, rEq, rNe, scal, rCat, rIx, rIxL, rIxT, rIxS, rAppend, tDGetK, tDInK, L2.start, cxK, cxW, cxKn, cxWn, cpK, cpW, List.map_cons, List.map_nil, List.cons_append, List.nil_append, List.append_nil, List.length_cons, List.length_nil, List.replicate, List.set_cons_zero, List.set_cons_succ, List.getElem?_cons_zero, List.getElem?_cons_succ, Option.some.injEq, exists_eq_left', exists_eq_left, exists_and_left, exists_eq', exists_const, V.int.injEq, V.bl.injEq, V.str.injEq, V.ref.injEq, V.ty.injEq, List.cons.injEq, and_true, true_and, reduceCtorEq, false_and, and_false, exists_false, or_false, false_or, decide_eq_true_eq, Bool.not_eq_true', decide_eq_false_iff_not, if_true, if_false, Bool.false_eq_true, ite_true, ite_false, Bool.not_true, Bool.not_false, Nat.reduceAdd, Nat.reduceSub, and_assoc]
        refine ⟨_, rfl, _, rfl, src1, src2, xs, ys, by rw [e1, e2], h1 H (.refl H), h2 H (.refl H), for_zip (fun i σ H2 => Same H H2 ∧ ∃ a b, σ = [some (.ref p), some (.ref q'), a, b]) ⟨.refl H, none, none, rfl⟩ (fun i σ H2 ⟨e, _⟩ => ⟨h1 H2 e, h2 H2 e⟩) hl ?_ ?_⟩
        · rintro i x y r σ H2 hx hy hr' ⟨e, a, b, rfl⟩
          simp only [rSlL, tSeq, tIfS, tTest, tOp, tVar, tC, tCB, tCons, tNil, tRet, tNext, tAsg, gName, gTup, gCons, gNil, tB, tUn, rU, rI0, rI, tTup, tLst, tCall, tDrop, tIf, tAnd, tOr, tNot, tAndV, tOrV, tNotV, tSl, tPart, tNoPart, tBM, tBM0, rClear, sDPut, tDNewK, rIn, rEq, rNe, scal, rCat, rIx, rIxL, rIxT, rIxS, rAppend, tDGetK, tDInK, L2.start, cxK, cxW, cxKn, cxWn, cpK, cpW, List.map_cons, List.map_nil, List.cons_append, List.nil_append, List.append_nil, List.length_cons, List.length_nil, List.replicate, List.set_cons_zero, List.set_cons_succ, List.getElem?_cons_zero, List.getElem?_cons_succ, Option.some.injEq, exists_eq_left', exists_eq_left, exists_and_left, exists_eq', exists_const, V.int.injEq, V.bl.injEq, V.str.injEq, V.ref.injEq, V.ty.injEq, List.cons.injEq, and_true, true_and, reduceCtorEq, false_and, and_false, exists_false, or_false, false_or, decide_eq_true_eq, Bool.not_eq_true', decide_eq_false_iff_not, if_true, if_false, Bool.false_eq_true, ite_true, ite_false, Bool.not_true, Bool.not_false, Nat.reduceAdd, Nat.reduceSub, and_assoc]
          refine ⟨_, SqT.of upd_same, rfl, ?_⟩
          simp only [rSlL, tSeq, tIfS, tTest, tOp, tVar, tC, tCB, tCons, tNil, tRet, tNext, tAsg, gName, gTup, gCons, gNil, tB, tUn, rU, rI0, rI, tTup, tLst, tCall, tDrop, tIf, tAnd, tOr, tNot, tAndV, tOrV, tNotV, tSl, tPart, tNoPart, tBM, tBM0, rClear, sDPut, tDNewK, rIn, rEq, rNe, scal, rCat, rIx, rIxL, rIxT, rIxS, rAppend, tDGetK, tDInK, L2.start, cxK, cxW, cxKn, cxWn, cpK, cpW, List.map_cons, List.map_nil, List.cons_append, List.nil_append, List.append_nil, List.length_cons, List.length_nil, List.replicate, List.set_cons_zero, List.set_cons_succ, List.getElem?_cons_zero, List.getElem?_cons_succ, Option.some.injEq, exists_eq_left', exists_eq_left, exists_and_left, exists_eq', exists_const, V.int.injEq, V.bl.injEq, V.str.injEq, V.ref.injEq, V.ty.injEq, List.cons.injEq, and_true, true_and, reduceCtorEq, false_and, and_false, exists_false, or_false, false_or, decide_eq_true_eq, Bool.not_eq_true', decide_eq_false_iff_not, if_true, if_false, Bool.false_eq_true, ite_true, ite_false, Bool.not_true, Bool.not_false, Nat.reduceAdd, Nat.reduceSub, and_assoc]
          refine ⟨x, y, rfl, (hi i x y hx hy).same (e.trans (same_upd hr')), fun H3 e3 => ?_⟩
          simp only [rSlL, tSeq, tIfS, tTest, tOp, tVar, tC, tCB, tCons, tNil, tRet, tNext, tAsg, gName, gTup, gCons, gNil, tB, tUn, rU, rI0, rI, tTup, tLst, tCall, tDrop, tIf, tAnd, tOr, tNot, tAndV, tOrV, tNotV, tSl, tPart, tNoPart, tBM, tBM0, rClear, sDPut, tDNewK, rIn, rEq, rNe, scal, rCat, rIx, rIxL, rIxT, rIxS, rAppend, tDGetK, tDInK, L2.start, cxK, cxW, cxKn, cxWn, cpK, cpW, List.map_cons, List.map_nil, List.cons_append, List.nil_append, List.append_nil, List.length_cons, List.length_nil, List.replicate, List.set_cons_zero, List.set_cons_succ, List.getElem?_cons_zero, List.getElem?_cons_succ, Option.some.injEq, exists_eq_left', exists_eq_left, exists_and_left, exists_eq', exists_const, V.int.injEq, V.bl.injEq, V.str.injEq, V.ref.injEq, V.ty.injEq, List.cons.injEq, and_true, true_and, reduceCtorEq, false_and, and_false, exists_false, or_false, false_or, decide_eq_true_eq, Bool.not_eq_true', decide_eq_false_iff_not, if_true, if_false, Bool.false_eq_true, ite_true, ite_false, Bool.not_true, Bool.not_false, Nat.reduceAdd, Nat.reduceSub, and_assoc]
          exact e.trans ((same_upd hr').trans e3)
        · rintro σ H2 ⟨e, a, b, rfl⟩
          simp only [rSlL, tSeq, tIfS, tTest, tOp, tVar, tC, tCB, tCons, tNil, tRet, tNext, tAsg, gName, gTup, gCons, gNil, tB, tUn, rU, rI0, rI, tTup, tLst, tCall, tDrop, tIf, tAnd, tOr, tNot, tAndV, tOrV, tNotV, tSl, tPart, tNoPart, tBM, tBM0, rClear, sDPut, tDNewK, rIn, rEq, rNe, scal, rCat, rIx, rIxL, rIxT, rIxS, rAppend, tDGetK, tDInK, L2.start, cxK, cxW, cxKn, cxWn, cpK, cpW, List.map_cons, List.map_nil, List.cons_append, List.nil_append, List.append_nil, List.length_cons, List.length_nil, List.replicate, List.set_cons_zero, List.set_cons_succ, List.getElem?_cons_zero, List.getElem?_cons_succ, Option.some.injEq, exists_eq_left', exists_eq_left, exists_and_left, exists_eq', exists_const, V.int.injEq, V.bl.injEq, V.str.injEq, V.ref.injEq, V.ty.injEq, List.cons.injEq, and_true, true_and, reduceCtorEq, false_and, and_false, exists_false, or_false, false_or, decide_eq_true_eq, Bool.not_eq_true', decide_eq_false_iff_not, if_true, if_false, Bool.false_eq_true, ite_true, ite_false, Bool.not_true, Bool.not_false, Nat.reduceAdd, Nat.reduceSub, and_assoc]
          exact q H2 e
def spLaw (K : PySem.W.Frag) : Sp := fun vs H Q _ => ∃ (a : Addr) (ns : List Int), vs = [.ref a] ∧ SqL K H a (ns.map V.int) ∧ ns.length ≤ 63 ∧ ∀ H', Q (.bl true) H'
theorem flat1 (zs : List Nat) : (zs.map fun z => [z]).flatten = zs := by
  induction zs with
  | nil => rfl
  | cons x r ih => simp [ih]
theorem at4 {l : List Nat} (h : l.length = 4) {i : Int} (h0 : 0 ≤ i) (h1 : i < 4) : ∃ c, atI l i = some c ∧ l[i.toNat]? = some c := by
  have h2 : i.toNat < l.length := by omega
  have h3 := atI_nat (xs := l) (j := i.toNat) (v := l[i.toNat]) (by simp [h2])
  rw [Int.toNat_of_nonneg h0] at h3
  exact ⟨_, h3, by simp [h2]⟩
theorem ext4 {l m : List Nat} (h1 : l.length = 4) (h2 : m.length = 4) (h : ∀ k : Nat, k < 4 → l[k]? = m[k]?) : l = m := by
  refine List.ext_getElem? fun k => ?_
  by_cases hk : k < 4
  · exact h k hk
  · rw [List.getElem?_eq_none_iff.mpr (by omega), List.getElem?_eq_none_iff.mpr (by omega)]
end
end Wb

set_option Elab.async false
set_option linter.all false
set_option maxRecDepth 100000
set_option maxHeartbeats 4000000
namespace Wb
open PySem L2
section
variable {P : Program} {w : World} {K : PySem.W.Frag} {mg : Str → Option Value} {base : Heap}
def spTop (d : Int) : Sp := fun vs H Q _ => ∃ (p : Addr) (y : Nat) (l : List Nat) (st : Int) (c : Nat), vs = [.ref p] ∧ Tab H p y l st ∧ atI l ((st + d) % 4) = some c ∧ Q (.str (sOf [c])) H
theorem ok_top {f : Addr} {fd : FuncData} (F : Fun K "top" "top" (tp 4) f fd) {tH : Tok} (h_HOLES : mg "HOLES" = some (.int 4 tH)) : FnOk P w K mg base CX0 1 f fd ["tablet"] (spTop 0) := by
  have SC : FnScope ["tablet", "lay", "holes", "stand"] ["tablet"] (defScope (tp 4)) := ⟨rfl, rfl, rfl, by decide +kernel, rfl, by decide +kernel, by decide +kernel⟩
  refine F.ok SC (fun vs H Q E h => ?_) (fun cdv A outer s H vs Q E hr h => ?_)
  · obtain ⟨p, y, l, st, c, rfl, _⟩ := h; rfl
  · obtain ⟨p, y, l, st, c, rfl, ht, hc, q⟩ := h
    refine ⟨_, (pss_cons (ps_asg (pv 0) (pg_tupK (K := K) (n := 3) rfl rfl (pgs_cons (pg_name (i := 1) SC.nd rfl (by first | exact Or.inl rfl | exact Or.inr rfl)) (pgs_cons (pg_name (i := 2) SC.nd rfl (by first | exact Or.inl rfl | exact Or.inr rfl)) (pgs_cons (pg_name (i := 3) SC.nd rfl (by first | exact Or.inl rfl | exact Or.inr rfl)) pgs_nil)))))
      (pss_one (ps_ret (pe_ix ix_str (pv 2) (pe_op op_mod (pv 3) (pe_glob (v := .int 4) (by rfl) h_HOLES ⟨_, rfl⟩)) (fun _ _ => rfl))))), ?_⟩
    simp only [rSlL, tSeq, tIfS, tTest, tOp, tVar, tC, tCB, tCons, tNil, tRet, tNext, tAsg, gName, gTup, gCons, gNil, tB, tUn, rU, rI0, rI, tTup, tLst, tCall, tDrop, tIf, tAnd, tOr, tNot, tAndV, tOrV, tNotV, tSl, tPart, tNoPart, tBM, tBM0, rClear, sDPut, tDNewK, rIn, rEq, rNe, scal, rCat, rIx, rIxL, rIxT, rIxS, rAppend, tDGetK, tDInK, L2.start, cxK, cxW, cxKn, cxWn, cpK, cpW, List.map_cons, List.map_nil, List.cons_append, List.nil_append, List.append_nil, List.length_cons, List.length_nil, List.replicate, List.set_cons_zero, List.set_cons_succ, List.getElem?_cons_zero, List.getElem?_cons_succ, Option.some.injEq, exists_eq_left', exists_eq_left, exists_and_left, exists_eq', exists_const, V.int.injEq, V.bl.injEq, V.str.injEq, V.ref.injEq, V.ty.injEq, List.cons.injEq, and_true, true_and, reduceCtorEq, false_and, and_false, exists_false, or_false, false_or, decide_eq_true_eq, Bool.not_eq_true', decide_eq_false_iff_not, if_true, if_false, Bool.false_eq_true, ite_true, ite_false, Bool.not_true, Bool.not_false, Nat.reduceAdd, Nat.reduceSub, and_assoc]
    refine ⟨_, SqT.of ht.at_, rfl, ?_⟩
    simp only [rSlL, tSeq, tIfS, tTest, tOp, tVar, tC, tCB, tCons, tNil, tRet, tNext, tAsg, gName, gTup, gCons, gNil, tB, tUn, rU, rI0, rI, tTup, tLst, tCall, tDrop, tIf, tAnd, tOr, tNot, tAndV, tOrV, tNotV, tSl, tPart, tNoPart, tBM, tBM0, rClear, sDPut, tDNewK, rIn, rEq, rNe, scal, rCat, rIx, rIxL, rIxT, rIxS, rAppend, tDGetK, tDInK, L2.start, cxK, cxW, cxKn, cxWn, cpK, cpW, List.map_cons, List.map_nil, List.cons_append, List.nil_append, List.append_nil, List.length_cons, List.length_nil, List.replicate, List.set_cons_zero, List.set_cons_succ, List.getElem?_cons_zero, List.getElem?_cons_succ, Option.some.injEq, exists_eq_left', exists_eq_left, exists_and_left, exists_eq', exists_const, V.int.injEq, V.bl.injEq, V.str.injEq, V.ref.injEq, V.ty.injEq, List.cons.injEq, and_true, true_and, reduceCtorEq, false_and, and_false, exists_false, or_false, false_or, decide_eq_true_eq, Bool.not_eq_true', decide_eq_false_iff_not, if_true, if_false, Bool.false_eq_true, ite_true, ite_false, Bool.not_true, Bool.not_false, Nat.reduceAdd, Nat.reduceSub, and_assoc]
    refine ⟨by decide, by rw [sOf_len, ht.four]; decide, c, ?_, q⟩
    rwa [Int.add_zero] at hc
theorem ok_bottom {f : Addr} {fd : FuncData} (F : Fun K "bottom" "bottom" (tp 5) f fd) {tH : Tok} (h_HOLES : mg "HOLES" = some (.int 4 tH)) : FnOk P w K mg base CX0 1 f fd ["tablet"] (spTop 2) := by
  have SC : FnScope ["tablet", "lay", "holes", "stand"] ["tablet"] (defScope (tp 5)) := ⟨rfl, rfl, rfl, by decide +kernel, rfl, by decide +kernel, by decide +kernel⟩
  refine F.ok SC (fun vs H Q E h => ?_) (fun cdv A outer s H vs Q E hr h => ?_)
  · obtain ⟨p, y, l, st, c, rfl, _⟩ := h; rfl
  · obtain ⟨p, y, l, st, c, rfl, ht, hc, q⟩ := h
    refine ⟨_, (pss_cons (ps_asg (pv 0) (pg_tupK (K := K) (n := 3) rfl rfl (pgs_cons (pg_name (i := 1) SC.nd rfl (by first | exact Or.inl rfl | exact Or.inr rfl)) (pgs_cons (pg_name (i := 2) SC.nd rfl (by first | exact Or.inl rfl | exact Or.inr rfl)) (pgs_cons (pg_name (i := 3) SC.nd rfl (by first | exact Or.inl rfl | exact Or.inr rfl)) pgs_nil)))))
      (pss_one (ps_ret (pe_ix ix_str (pv 2) (pe_op op_mod (pe_op op_add (pv 3) pe_int) (pe_glob (v := .int 4) (by rfl) h_HOLES ⟨_, rfl⟩)) (fun _ _ => rfl))))), ?_⟩
    simp only [rSlL, tSeq, tIfS, tTest, tOp, tVar, tC, tCB, tCons, tNil, tRet, tNext, tAsg, gName, gTup, gCons, gNil, tB, tUn, rU, rI0, rI, tTup, tLst, tCall, tDrop, tIf, tAnd, tOr, tNot, tAndV, tOrV, tNotV, tSl, tPart, tNoPart, tBM, tBM0, rClear, sDPut, tDNewK, rIn, rEq, rNe, scal, rCat, rIx, rIxL, rIxT, rIxS, rAppend, tDGetK, tDInK, L2.start, cxK, cxW, cxKn, cxWn, cpK, cpW, List.map_cons, List.map_nil, List.cons_append, List.nil_append, List.append_nil, List.length_cons, List.length_nil, List.replicate, List.set_cons_zero, List.set_cons_succ, List.getElem?_cons_zero, List.getElem?_cons_succ, Option.some.injEq, exists_eq_left', exists_eq_left, exists_and_left, exists_eq', exists_const, V.int.injEq, V.bl.injEq, V.str.injEq, V.ref.injEq, V.ty.injEq, List.cons.injEq, and_true, true_and, reduceCtorEq, false_and, and_false, exists_false, or_false, false_or, decide_eq_true_eq, Bool.not_eq_true', decide_eq_false_iff_not, if_true, if_false, Bool.false_eq_true, ite_true, ite_false, Bool.not_true, Bool.not_false, Nat.reduceAdd, Nat.reduceSub, and_assoc]
    refine ⟨_, SqT.of ht.at_, rfl, ?_⟩
    simp only [rSlL, tSeq, tIfS, tTest, tOp, tVar, tC, tCB, tCons, tNil, tRet, tNext, tAsg, gName, gTup, gCons, gNil, tB, tUn, rU, rI0, rI, tTup, tLst, tCall, tDrop, tIf, tAnd, tOr, tNot, tAndV, tOrV, tNotV, tSl, tPart, tNoPart, tBM, tBM0, rClear, sDPut, tDNewK, rIn, rEq, rNe, scal, rCat, rIx, rIxL, rIxT, rIxS, rAppend, tDGetK, tDInK, L2.start, cxK, cxW, cxKn, cxWn, cpK, cpW, List.map_cons, List.map_nil, List.cons_append, List.nil_append, List.append_nil, List.length_cons, List.length_nil, List.replicate, List.set_cons_zero, List.set_cons_succ, List.getElem?_cons_zero, List.getElem?_cons_succ, Option.some.injEq, exists_eq_left', exists_eq_left, exists_and_left, exists_eq', exists_const, V.int.injEq, V.bl.injEq, V.str.injEq, V.ref.injEq, V.ty.injEq, List.cons.injEq, and_true, true_and, reduceCtorEq, false_and, and_false, exists_false, or_false, false_or, decide_eq_true_eq, Bool.not_eq_true', decide_eq_false_iff_not, if_true, if_false, Bool.false_eq_true, ite_true, ite_false, Bool.not_true, Bool.not_false, Nat.reduceAdd, Nat.reduceSub, and_assoc]
    refine ⟨by decide, by rw [sOf_len, ht.four]; decide, c, ?_, q⟩
    exact hc
theorem fbi_at (r : Int) (h0 : 0 ≤ r) (h1 : r < 3) : ∃ x, (x = 102 ∨ x = 98 ∨ x = 105) ∧ atI (Str.ofString "fbi").cps.toList r = some x := by
  rw [show (Str.ofString "fbi").cps.toList = [102, 98, 105] by decide +kernel]
  have : r = 0 ∨ r = 1 ∨ r = 2 := by omega
  rcases this with h | h | h <;> subst h
  · exact ⟨102, .inl rfl, rfl⟩
  · exact ⟨98, .inr (.inl rfl), rfl⟩
  · exact ⟨105, .inr (.inr rfl), rfl⟩
def isTurn (x : Nat) : Prop := x = 102 ∨ x = 98 ∨ x = 105
def spTurns : Sp := fun vs H Q _ => ∃ (c : Int) (m : Nat), vs = [.int c, .int m] ∧ m ≤ 300 ∧ ∀ (l : List Nat) (H' : Hp), Same H H' → l.length = m → (∀ x ∈ l, isTurn x) → Q (.str (sOf l)) H'
theorem ok_turns {f : Addr} {fd : FuncData} (F : Fun K "_law_turns" "_law_turns" (tp 22) f fd) (C__law_row : Cal P w K mg base "_law_row" ["_law_cell", "_law_many", "_law_base"] 1 (spRow K)) : FnOk P w K mg base CX0 2 f fd ["_law_cell", "_law_many"] spTurns := by
  have SC : FnScope ["_law_cell", "_law_many"] ["_law_cell", "_law_many"] (defScope (tp 22)) := ⟨rfl, rfl, rfl, by decide +kernel, rfl, by decide +kernel, by decide +kernel⟩
  refine F.ok SC (fun vs H Q E h => ?_) (fun cdv A outer s H vs Q E hr h => ?_)
  · obtain ⟨c, m, rfl, _⟩ := h; rfl
  · obtain ⟨c, m, rfl, hm, q⟩ := h
    refine ⟨_, (pss_cons (ps_if (pt_cmpR op_eq (pe_op op_mod (pv 0) pe_int) pe_int (nomark _)) (pss_one (ps_ret (pe_op op_mul_str (pe_ix ix_str pe_str (pe_op op_mod (pe_op op_fdiv (pv 0) pe_int) pe_int) (fun _ _ => rfl)) (pv 1)))) pss_nil)
      (pss_one (ps_ret (pe_bmK (K := K) rfl PySem.F.plainAttrs_str PySem.F.slot_str_join PySem.F.type_str_join (mt_joinK (K := K) rfl) pe_str (pa_cons (pe_comp (N := ["_law_d"]) (cap := [none]) (mkCS rfl (by decide +kernel) rfl (by decide +kernel) (by rfl) (by rfl)) rfl (pi_listK (K := K) rfl (pe_cal C__law_row (hr.mono (by decide)) (by rfl) (pa_cons (pe_op op_fdiv (pv 0) pe_int) (pa_cons (pv 1) (pa_cons pe_int pa_nil))))) (fun _ _ _ _ => (pg_name (i := 0) (show List.Nodup (["_law_d"] : List Str) by decide +kernel) rfl (by first | exact Or.inl rfl | exact Or.inr rfl))) (fun _ _ _ _ => pts_nil) (fun _ _ _ _ => (pe_ix ix_str pe_str (pv 0) (fun _ _ => rfl)))) pa_nil))))), ?_⟩
    simp only [rSlL, tSeq, tIfS, tTest, tOp, tVar, tC, tCB, tCons, tNil, tRet, tNext, tAsg, gName, gTup, gCons, gNil, tB, tUn, rU, rI0, rI, tTup, tLst, tCall, tDrop, tIf, tAnd, tOr, tNot, tAndV, tOrV, tNotV, tSl, tPart, tNoPart, tBM, tBM0, rClear, sDPut, tDNewK, rIn, rEq, rNe, scal, rCat, rIx, rIxL, rIxT, rIxS, rAppend, tDGetK, tDInK, L2.start, cxK, cxW, cxKn, cxWn, cpK, cpW, List.map_cons, List.map_nil, List.cons_append, List.nil_append, List.append_nil, List.length_cons, List.length_nil, List.replicate, List.set_cons_zero, List.set_cons_succ, List.getElem?_cons_zero, List.getElem?_cons_succ, Option.some.injEq, exists_eq_left', exists_eq_left, exists_and_left, exists_eq', exists_const, V.int.injEq, V.bl.injEq, V.str.injEq, V.ref.injEq, V.ty.injEq, List.cons.injEq, and_true, true_and, reduceCtorEq, false_and, and_false, exists_false, or_false, false_or, decide_eq_true_eq, Bool.not_eq_true', decide_eq_false_iff_not, if_true, if_false, Bool.false_eq_true, ite_true, ite_false, Bool.not_true, Bool.not_false, Nat.reduceAdd, Nat.reduceSub, and_assoc]
    refine ⟨by decide, ite2 (fun _ => ?_) fun _ => ?_⟩
    · obtain ⟨x, hx, ex⟩ := fbi_at (c / 7 % 3) (Int.emod_nonneg _ (by decide)) (Int.emod_lt_of_pos _ (by decide))
      refine ⟨⟨by decide, by decide⟩, by decide, by decide +kernel, x, ex, x, rfl, by omega, by omega, ?_⟩
      refine q _ H (.refl H) (by simp) fun z hz => ?_
      rw [List.eq_of_mem_replicate hz]; exact hx
    · refine ⟨rfl, ?_⟩
      refine ⟨_, rfl, _, _, rfl, rfl, ⟨by decide, by decide⟩, _, rfl, c / 7, m, 3, rfl, by omega, by decide, by decide, fun p ns hp hl hb => ?_⟩
      have hs1 : Same H (upd H p (.lst (ns.map V.int))) := same_upd hp
      have hat : upd H p (.lst (ns.map V.int)) p = some (.lst (ns.map V.int)) := upd_same
      generalize upd H p (.lst (ns.map V.int)) = H1 at hs1 hat ⊢
      refine ⟨p, rfl, ⟨_, SqL.of hat⟩, comp_list (K := K) (a := p) (xs := ns.map V.int) (by rw [List.length_map]; omega) (fun i ys H3 => H3 = H1 ∧ ∃ zs : List Nat, zs.length = i ∧ ys = zs.map (fun z => V.str (sOf [z])) ∧ ∀ x ∈ zs, isTurn x) ⟨rfl, [], rfl, rfl, by simp⟩ (fun i ys H3 ⟨e, zs, h1, h2, _⟩ => ⟨by rw [h2, List.length_map, h1]; exact Nat.le_refl _, by rw [e]; exact SqL.of hat⟩) ?_ ?_⟩
      · rintro i y ys H3 hy ⟨rfl, zs, hz, rfl, ht⟩
        obtain ⟨d, hd, rfl⟩ : ∃ d, d ∈ ns ∧ y = .int d := by
          obtain ⟨d, h1, h2⟩ := List.mem_map.mp (List.mem_of_getElem? hy)
          exact ⟨d, h1, h2.symm⟩
        obtain ⟨x, hx, ex⟩ := fbi_at d (hb d hd).1 (hb d hd).2
        simp only [capSt, tYes, Option.bind, id, Keep, rSlL, tSeq, tIfS, tTest, tOp, tVar, tC, tCB, tCons, tNil, tRet, tNext, tAsg, gName, gTup, gCons, gNil, tB, tUn, rU, rI0, rI, tTup, tLst, tCall, tDrop, tIf, tAnd, tOr, tNot, tAndV, tOrV, tNotV, tSl, tPart, tNoPart, tBM, tBM0, rClear, sDPut, tDNewK, rIn, rEq, rNe, scal, rCat, rIx, rIxL, rIxT, rIxS, rAppend, tDGetK, tDInK, L2.start, cxK, cxW, cxKn, cxWn, cpK, cpW, List.map_cons, List.map_nil, List.cons_append, List.nil_append, List.append_nil, List.length_cons, List.length_nil, List.replicate, List.set_cons_zero, List.set_cons_succ, List.getElem?_cons_zero, List.getElem?_cons_succ, Option.some.injEq, exists_eq_left', exists_eq_left, exists_and_left, exists_eq', exists_const, V.int.injEq, V.bl.injEq, V.str.injEq, V.ref.injEq, V.ty.injEq, List.cons.injEq, and_true, true_and, reduceCtorEq, false_and, and_false, exists_false, or_false, false_or, decide_eq_true_eq, Bool.not_eq_true', decide_eq_false_iff_not, if_true, if_false, Bool.false_eq_true, ite_true, ite_false, Bool.not_true, Bool.not_false, Nat.reduceAdd, Nat.reduceSub, and_assoc]
        refine ⟨by decide +kernel, x, ex, zs ++ [x], by simp [hz], by simp, fun z hz' => ?_⟩
        rcases List.mem_append.mp hz' with z1 | z1
        · exact ht z z1
        · rw [List.mem_singleton.mp z1]; exact hx
      · rintro ys H3 ⟨rfl, zs, hz, rfl, ht⟩ D hD
        refine ⟨ofS "" [] (by decide +kernel), D, rfl, zs.map fun z => [z], SqL.of (by rw [upd_same, List.map_map]; rfl), ?_, ?_⟩
        · rw [flat1, hz, List.length_map]; omega
        · rw [flat1]
          exact q zs _ (hs1.trans (same_upd hD)) (by rw [hz, List.length_map, hl]) ht
def goT (t : Nat) : Int := if t = 102 then 1 else if t = 98 then -1 else 0
abbrev dSteps : List (Key × V) := [(Sum.inr (Str.ofString "f"), .int 1), (Sum.inr (Str.ofString "b"), .int (-1)), (Sum.inr (Str.ofString "i"), .int 0)]
theorem steps_at {t : Nat} (h : isTurn t) : valV dSteps (Sum.inr (sOf [t])) = some (.int (goT t)) := by
  rcases h with rfl | rfl | rfl <;> decide +kernel
def twT (y t : Nat) : Int := if y = 83 then goT t else -goT t
theorem lay_eq {y : Nat} (h : y = 83 ∨ y = 90) : (sOf [y] = Str.ofString "S") = (y = 83) := by
  rcases h with rfl | rfl
  · rw [ofS "S" [83] (by decide +kernel)]; simp
  · rw [ofS "S" [83] (by decide +kernel)]; simp [sOf]
def spTwisting : Sp := fun vs H Q _ => ∃ (p : Addr) (y : Nat) (l : List Nat) (st : Int) (t : Nat), vs = [.ref p, .str (sOf [t])] ∧ Tab H p y l st ∧ isTurn t ∧ Q (.int (twT y t)) H
theorem ok_twisting {f : Addr} {fd : FuncData} (F : Fun K "twisting" "twisting" (tp 6) f fd) {dS : Addr} (h_STEPS : mg "STEPS" = some (.ref dS)) (D : DictK K w dS dSteps) : FnOk P w K mg base CX0 1 f fd ["tablet", "turn"] spTwisting := by
  have SC : FnScope ["tablet", "turn", "step"] ["tablet", "turn"] (defScope (tp 6)) := ⟨rfl, rfl, rfl, by decide +kernel, rfl, by decide +kernel, by decide +kernel⟩
  refine F.ok SC (fun vs H Q E h => ?_) (fun cdv A outer s H vs Q E hr h => ?_)
  · obtain ⟨p, y, l, st, t, rfl, _⟩ := h; rfl
  · obtain ⟨p, y, l, st, t, rfl, ht, hT, q⟩ := h
    refine ⟨_, (pss_cons (ps_set (i := 2) SC.nd rfl (by first | exact Or.inl rfl | exact Or.inr rfl) (pe_dgetKK (K := K) (w := w) rfl rfl (pe_glob (v := .ref _) (by rfl) h_STEPS rfl) (pv 1) (fun _ _ => rfl)))
      (pss_one (ps_ret (pe_ifExp (pt_cmpR op_eq (pe_ix (ix_tupK (K := K) rfl) (pv 0) pe_int (fun _ _ => rfl)) pe_str (nomark _)) (pv 2) (pe_un un_neg (pv 2)))))), ?_⟩
    simp only [rSlL, tSeq, tIfS, tTest, tOp, tVar, tC, tCB, tCons, tNil, tRet, tNext, tAsg, gName, gTup, gCons, gNil, tB, tUn, rU, rI0, rI, tTup, tLst, tCall, tDrop, tIf, tAnd, tOr, tNot, tAndV, tOrV, tNotV, tSl, tPart, tNoPart, tBM, tBM0, rClear, sDPut, tDNewK, rIn, rEq, rNe, scal, rCat, rIx, rIxL, rIxT, rIxS, rAppend, tDGetK, tDInK, L2.start, cxK, cxW, cxKn, cxWn, cpK, cpW, List.map_cons, List.map_nil, List.cons_append, List.nil_append, List.append_nil, List.length_cons, List.length_nil, List.replicate, List.set_cons_zero, List.set_cons_succ, List.getElem?_cons_zero, List.getElem?_cons_succ, Option.some.injEq, exists_eq_left', exists_eq_left, exists_and_left, exists_eq', exists_const, V.int.injEq, V.bl.injEq, V.str.injEq, V.ref.injEq, V.ty.injEq, List.cons.injEq, and_true, true_and, reduceCtorEq, false_and, and_false, exists_false, or_false, false_or, decide_eq_true_eq, Bool.not_eq_true', decide_eq_false_iff_not, if_true, if_false, Bool.false_eq_true, ite_true, ite_false, Bool.not_true, Bool.not_false, Nat.reduceAdd, Nat.reduceSub, and_assoc]
    refine ⟨dSteps, D, Sum.inr (sOf [t]), rfl, _, steps_at hT, _, SqT.of ht.at_, V.str (sOf [y]), rfl, ?_⟩
    simp only [rSlL, tSeq, tIfS, tTest, tOp, tVar, tC, tCB, tCons, tNil, tRet, tNext, tAsg, gName, gTup, gCons, gNil, tB, tUn, rU, rI0, rI, tTup, tLst, tCall, tDrop, tIf, tAnd, tOr, tNot, tAndV, tOrV, tNotV, tSl, tPart, tNoPart, tBM, tBM0, rClear, sDPut, tDNewK, rIn, rEq, rNe, scal, rCat, rIx, rIxL, rIxT, rIxS, rAppend, tDGetK, tDInK, L2.start, cxK, cxW, cxKn, cxWn, cpK, cpW, List.map_cons, List.map_nil, List.cons_append, List.nil_append, List.append_nil, List.length_cons, List.length_nil, List.replicate, List.set_cons_zero, List.set_cons_succ, List.getElem?_cons_zero, List.getElem?_cons_succ, Option.some.injEq, exists_eq_left', exists_eq_left, exists_and_left, exists_eq', exists_const, V.int.injEq, V.bl.injEq, V.str.injEq, V.ref.injEq, V.ty.injEq, List.cons.injEq, and_true, true_and, reduceCtorEq, false_and, and_false, exists_false, or_false, false_or, decide_eq_true_eq, Bool.not_eq_true', decide_eq_false_iff_not, if_true, if_false, Bool.false_eq_true, ite_true, ite_false, Bool.not_true, Bool.not_false, Nat.reduceAdd, Nat.reduceSub, and_assoc]
    unfold twT at q
    refine ite2 (fun h => ?_) fun h => ?_
    all_goals rw [lay_eq ht.lay] at h
    · rw [if_pos h] at q; exact q
    · rw [if_neg h] at q; exact q
def spTurned : Sp := fun vs H Q _ => ∃ (p : Addr) (y : Nat) (l : List Nat) (st : Int) (t : Nat), vs = [.ref p, .str (sOf [t])] ∧ Tab H p y l st ∧ isTurn t ∧ ∀ (q : Addr) (H' : Hp), Same H H' → Tab H' q y l ((st + goT t) % 4) → Q (.ref q) H'
theorem ok_turned {f : Addr} {fd : FuncData} (F : Fun K "turned" "turned" (tp 7) f fd) {tH : Tok} (h_HOLES : mg "HOLES" = some (.int 4 tH)) {dS : Addr} (h_STEPS : mg "STEPS" = some (.ref dS)) (D : DictK K w dS dSteps) : FnOk P w K mg base CX0 1 f fd ["tablet", "turn"] spTurned := by
  have SC : FnScope ["tablet", "turn", "lay", "holes", "stand"] ["tablet", "turn"] (defScope (tp 7)) := ⟨rfl, rfl, rfl, by decide +kernel, rfl, by decide +kernel, by decide +kernel⟩
  refine F.ok SC (fun vs H Q E h => ?_) (fun cdv A outer s H vs Q E hr h => ?_)
  · obtain ⟨p, y, l, st, t, rfl, _⟩ := h; rfl
  · obtain ⟨p, y, l, st, t, rfl, ht, hT, q⟩ := h
    refine ⟨_, (pss_cons (ps_asg (pv 0) (pg_tupK (K := K) (n := 3) rfl rfl (pgs_cons (pg_name (i := 2) SC.nd rfl (by first | exact Or.inl rfl | exact Or.inr rfl)) (pgs_cons (pg_name (i := 3) SC.nd rfl (by first | exact Or.inl rfl | exact Or.inr rfl)) (pgs_cons (pg_name (i := 4) SC.nd rfl (by first | exact Or.inl rfl | exact Or.inr rfl)) pgs_nil)))))
      (pss_one (ps_ret (pe_tup (pa_cons (pv 2) (pa_cons (pv 3) (pa_cons (pe_op op_mod (pe_op op_add (pv 4) (pe_dgetKK (K := K) (w := w) rfl rfl (pe_glob (v := .ref _) (by rfl) h_STEPS rfl) (pv 1) (fun _ _ => rfl))) (pe_glob (v := .int 4) (by rfl) h_HOLES ⟨_, rfl⟩)) pa_nil))))))), ?_⟩
    simp only [rSlL, tSeq, tIfS, tTest, tOp, tVar, tC, tCB, tCons, tNil, tRet, tNext, tAsg, gName, gTup, gCons, gNil, tB, tUn, rU, rI0, rI, tTup, tLst, tCall, tDrop, tIf, tAnd, tOr, tNot, tAndV, tOrV, tNotV, tSl, tPart, tNoPart, tBM, tBM0, rClear, sDPut, tDNewK, rIn, rEq, rNe, scal, rCat, rIx, rIxL, rIxT, rIxS, rAppend, tDGetK, tDInK, L2.start, cxK, cxW, cxKn, cxWn, cpK, cpW, List.map_cons, List.map_nil, List.cons_append, List.nil_append, List.append_nil, List.length_cons, List.length_nil, List.replicate, List.set_cons_zero, List.set_cons_succ, List.getElem?_cons_zero, List.getElem?_cons_succ, Option.some.injEq, exists_eq_left', exists_eq_left, exists_and_left, exists_eq', exists_const, V.int.injEq, V.bl.injEq, V.str.injEq, V.ref.injEq, V.ty.injEq, List.cons.injEq, and_true, true_and, reduceCtorEq, false_and, and_false, exists_false, or_false, false_or, decide_eq_true_eq, Bool.not_eq_true', decide_eq_false_iff_not, if_true, if_false, Bool.false_eq_true, ite_true, ite_false, Bool.not_true, Bool.not_false, Nat.reduceAdd, Nat.reduceSub, and_assoc]
    refine ⟨_, SqT.of ht.at_, rfl, ?_⟩
    simp only [rSlL, tSeq, tIfS, tTest, tOp, tVar, tC, tCB, tCons, tNil, tRet, tNext, tAsg, gName, gTup, gCons, gNil, tB, tUn, rU, rI0, rI, tTup, tLst, tCall, tDrop, tIf, tAnd, tOr, tNot, tAndV, tOrV, tNotV, tSl, tPart, tNoPart, tBM, tBM0, rClear, sDPut, tDNewK, rIn, rEq, rNe, scal, rCat, rIx, rIxL, rIxT, rIxS, rAppend, tDGetK, tDInK, L2.start, cxK, cxW, cxKn, cxWn, cpK, cpW, List.map_cons, List.map_nil, List.cons_append, List.nil_append, List.append_nil, List.length_cons, List.length_nil, List.replicate, List.set_cons_zero, List.set_cons_succ, List.getElem?_cons_zero, List.getElem?_cons_succ, Option.some.injEq, exists_eq_left', exists_eq_left, exists_and_left, exists_eq', exists_const, V.int.injEq, V.bl.injEq, V.str.injEq, V.ref.injEq, V.ty.injEq, List.cons.injEq, and_true, true_and, reduceCtorEq, false_and, and_false, exists_false, or_false, false_or, decide_eq_true_eq, Bool.not_eq_true', decide_eq_false_iff_not, if_true, if_false, Bool.false_eq_true, ite_true, ite_false, Bool.not_true, Bool.not_false, Nat.reduceAdd, Nat.reduceSub, and_assoc]
    refine ⟨dSteps, D, Sum.inr (sOf [t]), rfl, _, steps_at hT, ?_⟩
    simp only [rSlL, tSeq, tIfS, tTest, tOp, tVar, tC, tCB, tCons, tNil, tRet, tNext, tAsg, gName, gTup, gCons, gNil, tB, tUn, rU, rI0, rI, tTup, tLst, tCall, tDrop, tIf, tAnd, tOr, tNot, tAndV, tOrV, tNotV, tSl, tPart, tNoPart, tBM, tBM0, rClear, sDPut, tDNewK, rIn, rEq, rNe, scal, rCat, rIx, rIxL, rIxT, rIxS, rAppend, tDGetK, tDInK, L2.start, cxK, cxW, cxKn, cxWn, cpK, cpW, List.map_cons, List.map_nil, List.cons_append, List.nil_append, List.append_nil, List.length_cons, List.length_nil, List.replicate, List.set_cons_zero, List.set_cons_succ, List.getElem?_cons_zero, List.getElem?_cons_succ, Option.some.injEq, exists_eq_left', exists_eq_left, exists_and_left, exists_eq', exists_const, V.int.injEq, V.bl.injEq, V.str.injEq, V.ref.injEq, V.ty.injEq, List.cons.injEq, and_true, true_and, reduceCtorEq, false_and, and_false, exists_false, or_false, false_or, decide_eq_true_eq, Bool.not_eq_true', decide_eq_false_iff_not, if_true, if_false, Bool.false_eq_true, ite_true, ite_false, Bool.not_true, Bool.not_false, Nat.reduceAdd, Nat.reduceSub, and_assoc]
    exact ⟨by decide, by decide, fun p2 hp2 => q p2 _ (same_upd hp2) ⟨upd_same, ht.lay, ht.four, Int.emod_nonneg _ (by decide), Int.emod_lt_of_pos _ (by decide)⟩⟩
def spGo : Sp := fun vs H Q _ => ∃ (t : Nat), vs = [.str (sOf [t])] ∧ isTurn t ∧ Q (.int (goT t)) H
theorem bif_at {t : Nat} (h : isTurn t) : Txt.find (Str.ofString "bif") (sOf [t]) = goT t + 1 := by rcases h with rfl | rfl | rfl <;> decide +kernel
theorem ok_go {f : Addr} {fd : FuncData} (F : Fun K "_law_go" "_law_go" (tp 25) f fd) : FnOk P w K mg base CX0 1 f fd ["_law_turn"] spGo := by
  have SC : FnScope ["_law_turn"] ["_law_turn"] (defScope (tp 25)) := ⟨rfl, rfl, rfl, by decide +kernel, rfl, by decide +kernel, by decide +kernel⟩
  refine F.ok SC (fun vs H Q E h => ?_) (fun cdv A outer s H vs Q E hr h => ?_)
  · obtain ⟨t, rfl, _⟩ := h; rfl
  · obtain ⟨t, rfl, hT, q⟩ := h
    refine ⟨_, (pss_one (ps_ret (pe_op op_sub (pe_bmK (K := K) rfl PySem.F.plainAttrs_str PySem.F.slot_str_index PySem.F.type_str_index (mt_index rfl) pe_str (pa_cons (pv 0) pa_nil)) pe_int))), ?_⟩
    simp only [rSlL, tSeq, tIfS, tTest, tOp, tVar, tC, tCB, tCons, tNil, tRet, tNext, tAsg, gName, gTup, gCons, gNil, tB, tUn, rU, rI0, rI, tTup, tLst, tCall, tDrop, tIf, tAnd, tOr, tNot, tAndV, tOrV, tNotV, tSl, tPart, tNoPart, tBM, tBM0, rClear, sDPut, tDNewK, rIn, rEq, rNe, scal, rCat, rIx, rIxL, rIxT, rIxS, rAppend, tDGetK, tDInK, L2.start, cxK, cxW, cxKn, cxWn, cpK, cpW, List.map_cons, List.map_nil, List.cons_append, List.nil_append, List.append_nil, List.length_cons, List.length_nil, List.replicate, List.set_cons_zero, List.set_cons_succ, List.getElem?_cons_zero, List.getElem?_cons_succ, Option.some.injEq, exists_eq_left', exists_eq_left, exists_and_left, exists_eq', exists_const, V.int.injEq, V.bl.injEq, V.str.injEq, V.ref.injEq, V.ty.injEq, List.cons.injEq, and_true, true_and, reduceCtorEq, false_and, and_false, exists_false, or_false, false_or, decide_eq_true_eq, Bool.not_eq_true', decide_eq_false_iff_not, if_true, if_false, Bool.false_eq_true, ite_true, ite_false, Bool.not_true, Bool.not_false, Nat.reduceAdd, Nat.reduceSub, and_assoc]
    refine ⟨rfl, by rw [bif_at hT]; unfold goT; split <;> (try split) <;> decide, ?_⟩
    rw [bif_at hT, Int.add_sub_cancel]; exact q
def spBehind : Sp := spTurned
theorem ok_behind {f : Addr} {fd : FuncData} (F : Fun K "_law_behind" "_law_behind" (tp 26) f fd) (C__law_go : Cal P w K mg base "_law_go" ["_law_turn"] 1 spGo) : FnOk P w K mg base CX0 2 f fd ["_law_card_here", "_law_turn"] spBehind := by
  have SC : FnScope ["_law_card_here", "_law_turn"] ["_law_card_here", "_law_turn"] (defScope (tp 26)) := ⟨rfl, rfl, rfl, by decide +kernel, rfl, by decide +kernel, by decide +kernel⟩
  refine F.ok SC (fun vs H Q E h => ?_) (fun cdv A outer s H vs Q E hr h => ?_)
  · obtain ⟨p, y, l, st, t, rfl, _⟩ := h; rfl
  · obtain ⟨p, y, l, st, t, rfl, ht, hT, q⟩ := h
    refine ⟨_, (pss_one (ps_ret (pe_tup (pa_cons (pe_ix (ix_tupK (K := K) rfl) (pv 0) pe_int (fun _ _ => rfl)) (pa_cons (pe_ix (ix_tupK (K := K) rfl) (pv 0) pe_int (fun _ _ => rfl)) (pa_cons (pe_op op_mod (pe_op op_add (pe_ix (ix_tupK (K := K) rfl) (pv 0) pe_int (fun _ _ => rfl)) (pe_cal C__law_go (hr.mono (by decide)) (by rfl) (pa_cons (pv 1) pa_nil))) pe_int) pa_nil)))))), ?_⟩
    simp only [rSlL, tSeq, tIfS, tTest, tOp, tVar, tC, tCB, tCons, tNil, tRet, tNext, tAsg, gName, gTup, gCons, gNil, tB, tUn, rU, rI0, rI, tTup, tLst, tCall, tDrop, tIf, tAnd, tOr, tNot, tAndV, tOrV, tNotV, tSl, tPart, tNoPart, tBM, tBM0, rClear, sDPut, tDNewK, rIn, rEq, rNe, scal, rCat, rIx, rIxL, rIxT, rIxS, rAppend, tDGetK, tDInK, L2.start, cxK, cxW, cxKn, cxWn, cpK, cpW, List.map_cons, List.map_nil, List.cons_append, List.nil_append, List.append_nil, List.length_cons, List.length_nil, List.replicate, List.set_cons_zero, List.set_cons_succ, List.getElem?_cons_zero, List.getElem?_cons_succ, Option.some.injEq, exists_eq_left', exists_eq_left, exists_and_left, exists_eq', exists_const, V.int.injEq, V.bl.injEq, V.str.injEq, V.ref.injEq, V.ty.injEq, List.cons.injEq, and_true, true_and, reduceCtorEq, false_and, and_false, exists_false, or_false, false_or, decide_eq_true_eq, Bool.not_eq_true', decide_eq_false_iff_not, if_true, if_false, Bool.false_eq_true, ite_true, ite_false, Bool.not_true, Bool.not_false, Nat.reduceAdd, Nat.reduceSub, and_assoc]
    refine ⟨_, SqT.of ht.at_, _, rfl, _, SqT.of ht.at_, _, rfl, _, SqT.of ht.at_, V.int st, rfl, t, rfl, hT, ?_⟩
    simp only [rSlL, tSeq, tIfS, tTest, tOp, tVar, tC, tCB, tCons, tNil, tRet, tNext, tAsg, gName, gTup, gCons, gNil, tB, tUn, rU, rI0, rI, tTup, tLst, tCall, tDrop, tIf, tAnd, tOr, tNot, tAndV, tOrV, tNotV, tSl, tPart, tNoPart, tBM, tBM0, rClear, sDPut, tDNewK, rIn, rEq, rNe, scal, rCat, rIx, rIxL, rIxT, rIxS, rAppend, tDGetK, tDInK, L2.start, cxK, cxW, cxKn, cxWn, cpK, cpW, List.map_cons, List.map_nil, List.cons_append, List.nil_append, List.append_nil, List.length_cons, List.length_nil, List.replicate, List.set_cons_zero, List.set_cons_succ, List.getElem?_cons_zero, List.getElem?_cons_succ, Option.some.injEq, exists_eq_left', exists_eq_left, exists_and_left, exists_eq', exists_const, V.int.injEq, V.bl.injEq, V.str.injEq, V.ref.injEq, V.ty.injEq, List.cons.injEq, and_true, true_and, reduceCtorEq, false_and, and_false, exists_false, or_false, false_or, decide_eq_true_eq, Bool.not_eq_true', decide_eq_false_iff_not, if_true, if_false, Bool.false_eq_true, ite_true, ite_false, Bool.not_true, Bool.not_false, Nat.reduceAdd, Nat.reduceSub, and_assoc]
    exact ⟨by decide, by decide, fun p2 hp2 => q p2 _ (same_upd hp2) ⟨upd_same, ht.lay, ht.four, Int.emod_nonneg _ (by decide), Int.emod_lt_of_pos _ (by decide)⟩⟩
theorem ok_twist {f : Addr} {fd : FuncData} (F : Fun K "_law_twist" "_law_twist" (tp 27) f fd) (C__law_go : Cal P w K mg base "_law_go" ["_law_turn"] 1 spGo) : FnOk P w K mg base CX0 2 f fd ["_law_card_here", "_law_turn"] spTwisting := by
  have SC : FnScope ["_law_card_here", "_law_turn"] ["_law_card_here", "_law_turn"] (defScope (tp 27)) := ⟨rfl, rfl, rfl, by decide +kernel, rfl, by decide +kernel, by decide +kernel⟩
  refine F.ok SC (fun vs H Q E h => ?_) (fun cdv A outer s H vs Q E hr h => ?_)
  · obtain ⟨p, y, l, st, t, rfl, _⟩ := h; rfl
  · obtain ⟨p, y, l, st, t, rfl, ht, hT, q⟩ := h
    refine ⟨_, (pss_cons (ps_if (pt_cmpR op_eq (pe_ix (ix_tupK (K := K) rfl) (pv 0) pe_int (fun _ _ => rfl)) pe_str (nomark _)) (pss_one (ps_ret (pe_cal C__law_go (hr.mono (by decide)) (by rfl) (pa_cons (pv 1) pa_nil)))) pss_nil)
      (pss_one (ps_ret (pe_op op_sub pe_int (pe_cal C__law_go (hr.mono (by decide)) (by rfl) (pa_cons (pv 1) pa_nil)))))), ?_⟩
    simp only [rSlL, tSeq, tIfS, tTest, tOp, tVar, tC, tCB, tCons, tNil, tRet, tNext, tAsg, gName, gTup, gCons, gNil, tB, tUn, rU, rI0, rI, tTup, tLst, tCall, tDrop, tIf, tAnd, tOr, tNot, tAndV, tOrV, tNotV, tSl, tPart, tNoPart, tBM, tBM0, rClear, sDPut, tDNewK, rIn, rEq, rNe, scal, rCat, rIx, rIxL, rIxT, rIxS, rAppend, tDGetK, tDInK, L2.start, cxK, cxW, cxKn, cxWn, cpK, cpW, List.map_cons, List.map_nil, List.cons_append, List.nil_append, List.append_nil, List.length_cons, List.length_nil, List.replicate, List.set_cons_zero, List.set_cons_succ, List.getElem?_cons_zero, List.getElem?_cons_succ, Option.some.injEq, exists_eq_left', exists_eq_left, exists_and_left, exists_eq', exists_const, V.int.injEq, V.bl.injEq, V.str.injEq, V.ref.injEq, V.ty.injEq, List.cons.injEq, and_true, true_and, reduceCtorEq, false_and, and_false, exists_false, or_false, false_or, decide_eq_true_eq, Bool.not_eq_true', decide_eq_false_iff_not, if_true, if_false, Bool.false_eq_true, ite_true, ite_false, Bool.not_true, Bool.not_false, Nat.reduceAdd, Nat.reduceSub, and_assoc]
    refine ⟨_, SqT.of ht.at_, V.str (sOf [y]), rfl, ?_⟩
    simp only [rSlL, tSeq, tIfS, tTest, tOp, tVar, tC, tCB, tCons, tNil, tRet, tNext, tAsg, gName, gTup, gCons, gNil, tB, tUn, rU, rI0, rI, tTup, tLst, tCall, tDrop, tIf, tAnd, tOr, tNot, tAndV, tOrV, tNotV, tSl, tPart, tNoPart, tBM, tBM0, rClear, sDPut, tDNewK, rIn, rEq, rNe, scal, rCat, rIx, rIxL, rIxT, rIxS, rAppend, tDGetK, tDInK, L2.start, cxK, cxW, cxKn, cxWn, cpK, cpW, List.map_cons, List.map_nil, List.cons_append, List.nil_append, List.append_nil, List.length_cons, List.length_nil, List.replicate, List.set_cons_zero, List.set_cons_succ, List.getElem?_cons_zero, List.getElem?_cons_succ, Option.some.injEq, exists_eq_left', exists_eq_left, exists_and_left, exists_eq', exists_const, V.int.injEq, V.bl.injEq, V.str.injEq, V.ref.injEq, V.ty.injEq, List.cons.injEq, and_true, true_and, reduceCtorEq, false_and, and_false, exists_false, or_false, false_or, decide_eq_true_eq, Bool.not_eq_true', decide_eq_false_iff_not, if_true, if_false, Bool.false_eq_true, ite_true, ite_false, Bool.not_true, Bool.not_false, Nat.reduceAdd, Nat.reduceSub, and_assoc]
    unfold twT at q
    refine ite2 (fun h => ?_) fun h => ?_
    all_goals rw [lay_eq ht.lay] at h
    · rw [if_pos h] at q; exact ⟨t, rfl, hT, q⟩
    · rw [if_neg h] at q; refine ⟨t, rfl, hT, ?_⟩; simp only [rSlL, tSeq, tIfS, tTest, tOp, tVar, tC, tCB, tCons, tNil, tRet, tNext, tAsg, gName, gTup, gCons, gNil, tB, tUn, rU, rI0, rI, tTup, tLst, tCall, tDrop, tIf, tAnd, tOr, tNot, tAndV, tOrV, tNotV, tSl, tPart, tNoPart, tBM, tBM0, rClear, sDPut, tDNewK, rIn, rEq, rNe, scal, rCat, rIx, rIxL, rIxT, rIxS, rAppend, tDGetK, tDInK, L2.start, cxK, cxW, cxKn, cxWn, cpK, cpW, List.map_cons, List.map_nil, List.cons_append, List.nil_append, List.append_nil, List.length_cons, List.length_nil, List.replicate, List.set_cons_zero, List.set_cons_succ, List.getElem?_cons_zero, List.getElem?_cons_succ, Option.some.injEq, exists_eq_left', exists_eq_left, exists_and_left, exists_eq', exists_const, V.int.injEq, V.bl.injEq, V.str.injEq, V.ref.injEq, V.ty.injEq, List.cons.injEq, and_true, true_and, reduceCtorEq, false_and, and_false, exists_false, or_false, false_or, decide_eq_true_eq, Bool.not_eq_true', decide_eq_false_iff_not, if_true, if_false, Bool.false_eq_true, ite_true, ite_false, Bool.not_true, Bool.not_false, Nat.reduceAdd, Nat.reduceSub, and_assoc]; rw [Int.zero_sub]; exact q
end
end Wb

set_option Elab.async false
set_option linter.all false
set_option maxRecDepth 100000
set_option maxHeartbeats 4000000
--ITERS {'_law_turns_here': 'list'}
namespace Wb
open PySem L2
section
variable {P : Program} {w : World} {K : PySem.W.Frag} {mg : Str → Option Value} {base : Heap}
abbrev T3 := Nat × List Nat × Int
def isTab : Rp T3 := fun H t v => ∃ p, v = .ref p ∧ Tab H p t.1 t.2.1 t.2.2
instance : Mono isTab := ⟨fun e ⟨p, h1, h2⟩ => ⟨p, h1, h2.same e⟩⟩
instance : Off isTab := ⟨fun {H p vs m v} hp ⟨q, h1, h2⟩ => ⟨q, h1, by rw [del_ne (by rintro rfl; rw [h2.at_] at hp; cases hp)]; exact h2.at_, h2.lay, h2.four, h2.low, h2.high⟩⟩
abbrev P3 := Nat × Nat × Nat
def isPl : Rp P3 := fun H t v => ∃ p, v = .ref p ∧ H p = some (.tup [.str (sOf [t.1]), .str (sOf [t.2.1]), .str (sOf [t.2.2])])
instance : Mono isPl := ⟨fun e ⟨p, h1, h2⟩ => ⟨p, h1, e _ _ h2⟩⟩
instance : Off isPl := ⟨fun {H p vs m v} hp ⟨q, h1, h2⟩ => ⟨q, h1, by rw [del_ne (by rintro rfl; rw [h2] at hp; cases hp)]; exact h2⟩⟩
def slantOf (n : Int) : Nat := if n = 1 then 115 else if n = -1 then 122 else 111
def placeOf (t : T3) (x : Nat) : P3 := (t.2.1[t.2.2.toNat]?.getD 0, t.2.1[((t.2.2 + 2) % 4).toNat]?.getD 0, slantOf (twT t.1 x))
def tTurn (t : T3) (x : Nat) : T3 := (t.1, t.2.1, (t.2.2 + goT x) % 4)
def after (t : T3) (col : List Nat) (i : Nat) : T3 := (col.take i).foldl tTurn t
theorem after_succ {t : T3} {col : List Nat} {i x : Nat} (h : col[i]? = some x) : after t col (i + 1) = tTurn (after t col i) x := by
  unfold after; rw [List.take_succ, h]; simp
def place (t : T3) (col : List Nat) (i : Nat) : P3 := placeOf (after t col (i + 1)) (col[i]?.getD 0)
theorem place_at {t : T3} {col : List Nat} {i x : Nat} (h : col[i]? = some x) : place t col i = placeOf (tTurn (after t col i) x) x := by
  unfold place; rw [after_succ h, h]; rfl
def colOf (rows : List (List Nat)) (k : Nat) : List Nat := rows.map fun r => r[k]?.getD 0
theorem colOf_at {rows : List (List Nat)} {k i : Nat} {r : List Nat} {x : Nat} (h : rows[i]? = some r) (hx : r[k]? = some x) : (colOf rows k)[i]? = some x := by
  unfold colOf; rw [List.getElem?_map, h]; simp [hx]
def pick (n : Nat) (T : Nat → T3) (rows : List (List Nat)) (i : Nat) : List P3 := rng n fun k => place (T k) (colOf rows k) i
def bandOf (n : Nat) (T : Nat → T3) (rows : List (List Nat)) : List (List P3) := rng rows.length (pick n T rows)
def GoodRows (n : Nat) (rows : List (List Nat)) : Prop := ∀ r ∈ rows, r.length = n ∧ ∀ x ∈ r, isTurn x
abbrev dSlants : List (Key × V) := [(Sum.inl 1, .str (Str.ofString "s")), (Sum.inl (-1), .str (Str.ofString "z")), (Sum.inl 0, .str (Str.ofString "o"))]
theorem twT_cases (y t : Nat) : twT y t = 1 ∨ twT y t = -1 ∨ twT y t = 0 := by
  unfold twT goT; split <;> split <;> (try split) <;> simp
theorem slants_at (y t : Nat) : valV dSlants (Sum.inl (twT y t)) = some (.str (sOf [slantOf (twT y t)])) := by
  rcases twT_cases y t with h | h | h <;> rw [h] <;> decide +kernel
def spLeft : Sp := fun vs H Q _ => ∃ (p : Addr) (y : Nat) (l : List Nat) (st : Int) (t : Nat), vs = [.ref p, .str (sOf [t])] ∧ Tab H p y l st ∧ isTurn t ∧ ∀ (q : Addr) (H' : Hp), Same H H' → isPl H' (placeOf (y, l, st) t) (.ref q) → Q (.ref q) H'
theorem ok_left {f : Addr} {fd : FuncData} (F : Fun K "left_place" "left_place" (tp 12) f fd) (C_top : Cal P w K mg base "top" ["tablet"] 1 (spTop 0)) (C_bottom : Cal P w K mg base "bottom" ["tablet"] 1 (spTop 2)) (C_twisting : Cal P w K mg base "twisting" ["tablet", "turn"] 1 spTwisting) {dL : Addr} (h_SLANTS : mg "SLANTS" = some (.ref dL)) (D : DictK K w dL dSlants) : FnOk P w K mg base CX0 2 f fd ["tablet", "turn"] spLeft := by
  have SC : FnScope ["tablet", "turn"] ["tablet", "turn"] (defScope (tp 12)) := ⟨rfl, rfl, rfl, by decide +kernel, rfl, by decide +kernel, by decide +kernel⟩
  refine F.ok SC (fun vs H Q E h => ?_) (fun cdv A outer s H vs Q E hr h => ?_)
  · obtain ⟨p, y, l, st, t, rfl, _⟩ := h; rfl
  · obtain ⟨p, y, l, st, t, rfl, ht, hT, q⟩ := h
    refine ⟨_, (pss_one (ps_ret (pe_tup (pa_cons (pe_cal C_top (hr.mono (by decide)) (by rfl) (pa_cons (pv 0) pa_nil)) (pa_cons (pe_cal C_bottom (hr.mono (by decide)) (by rfl) (pa_cons (pv 0) pa_nil)) (pa_cons (pe_dgetKK (K := K) (w := w) rfl rfl (pe_glob (v := .ref _) (by rfl) h_SLANTS rfl) (pe_cal C_twisting (hr.mono (by decide)) (by rfl) (pa_cons (pv 0) (pa_cons (pv 1) pa_nil))) (fun _ _ => rfl)) pa_nil)))))), ?_⟩
    simp only [rSlL, tSeq, tIfS, tTest, tOp, tVar, tC, tCB, tCons, tNil, tRet, tNext, tAsg, gName, gTup, gCons, gNil, tB, tUn, rU, rI0, rI, tTup, tLst, tCall, tDrop, tIf, tAnd, tOr, tNot, tAndV, tOrV, tNotV, tSl, tPart, tNoPart, tBM, tBM0, rClear, sDPut, tDNewK, rIn, rEq, rNe, scal, rCat, rIx, rIxL, rIxT, rIxS, rAppend, tDGetK, tDInK, L2.start, cxK, cxW, cxKn, cxWn, cpK, cpW, List.map_cons, List.map_nil, List.cons_append, List.nil_append, List.append_nil, List.length_cons, List.length_nil, List.replicate, List.set_cons_zero, List.set_cons_succ, List.getElem?_cons_zero, List.getElem?_cons_succ, Option.some.injEq, exists_eq_left', exists_eq_left, exists_and_left, exists_eq', exists_const, V.int.injEq, V.bl.injEq, V.str.injEq, V.ref.injEq, V.ty.injEq, List.cons.injEq, and_true, true_and, reduceCtorEq, false_and, and_false, exists_false, or_false, false_or, decide_eq_true_eq, Bool.not_eq_true', decide_eq_false_iff_not, if_true, if_false, Bool.false_eq_true, ite_true, ite_false, Bool.not_true, Bool.not_false, Nat.reduceAdd, Nat.reduceSub, and_assoc]
    obtain ⟨ct, ec, ec'⟩ := at4 ht.four ht.low ht.high
    obtain ⟨cb, eb, eb'⟩ := at4 ht.four (Int.emod_nonneg (st + 2) (by decide)) (Int.emod_lt_of_pos (st + 2) (by decide))
    refine ⟨p, y, l, st, ct, rfl, ht, by rw [Int.add_zero, Int.emod_eq_of_lt ht.low ht.high]; exact ec, p, y, l, st, cb, rfl, ht, eb, p, y, l, st, t, rfl, ht, hT, ?_⟩
    refine ⟨dSlants, D, Sum.inl (twT y t), rfl, _, slants_at y t, by decide, fun p2 hp2 => q p2 _ (same_upd hp2) ⟨p2, rfl, ?_⟩⟩
    rw [upd_same]
    simp only [placeOf, ec', eb', Option.getD_some]
def spWoven : Sp := fun vs H Q _ => ∃ (d r : Addr) (n : Nat) (T : Nat → T3) (rows : List (List Nat)), vs = [.ref d, .ref r] ∧ isL isTab H (rng n T) (.ref d) ∧ isL isS H rows (.ref r) ∧ GoodRows n rows ∧ n ≤ 1000 ∧ rows.length ≤ 1000 ∧ ∀ (b : Addr) (H' : Hp), H b = none → Same H H' → isL (isF H (isL isPl)) H' (bandOf n T rows) (.ref b) → Q (.ref b) H'
theorem ok_woven {f : Addr} {fd : FuncData} (F : Fun K "woven" "woven" (tp 13) f fd) (h_list : mg "list" = none) (h_zip : mg "zip" = none) (C_turned : Cal P w K mg base "turned" ["tablet", "turn"] 1 spTurned) (C_left_place : Cal P w K mg base "left_place" ["tablet", "turn"] 2 spLeft) : FnOk P w K mg base CX0 3 f fd ["draft", "plan"] spWoven := by
  have SC : FnScope ["draft", "plan", "standing", "band", "row"] ["draft", "plan"] (defScope (tp 13)) := ⟨rfl, rfl, rfl, by decide +kernel, rfl, by decide +kernel, by decide +kernel⟩
  refine F.ok SC (fun vs H Q E h => ?_) (fun cdv A outer s H vs Q E hr h => ?_)
  · obtain ⟨d, r, n, T, rows, rfl, _⟩ := h; rfl
  · obtain ⟨d, r, n, T, rows, rfl, ⟨d', tv, ed, hd, ht⟩, ⟨r', rv, er, hrr, hrl⟩, hg, hn, hm, q⟩ := h
    cases ed; cases er
    refine ⟨_, (pss_cons (ps_set (i := 2) SC.nd rfl (by first | exact Or.inl rfl | exact Or.inr rfl) (pe_callTy (call_list_ofK (K := K) rfl) (by rfl) h_list PyProof.Rows.boot_list (pa_cons (pv 0) pa_nil)))
      (pss_cons (ps_set (i := 3) SC.nd rfl (by first | exact Or.inl rfl | exact Or.inr rfl) (pe_lst pa_nil))
      (pss_cons (ps_for PassesOwn.never rfl (pi_listK (K := K) rfl (pv 1)) (pg_name (i := 4) SC.nd rfl (by first | exact Or.inl rfl | exact Or.inr rfl)) (pss_cons (ps_setComp (i := 2) SC.nd rfl (by first | exact Or.inl rfl | exact Or.inr rfl) (N := ["tablet", "turn"]) (cap := [none, none]) (mkCS rfl (by decide +kernel) rfl (by decide +kernel) (by rfl) (by rfl)) rfl (pi_zipK (K := K) rfl rfl h_zip (pa_cons (pv 2) (pa_cons (pv 4) pa_nil))) (fun _ _ _ _ => (pg_tupK (K := K) (n := 2) rfl rfl (pgs_cons (pg_name (i := 0) (show List.Nodup (["tablet", "turn"] : List Str) by decide +kernel) rfl (by first | exact Or.inl rfl | exact Or.inr rfl)) (pgs_cons (pg_name (i := 1) (show List.Nodup (["tablet", "turn"] : List Str) by decide +kernel) rfl (by first | exact Or.inl rfl | exact Or.inr rfl)) pgs_nil)))) (fun _ _ _ _ => pts_nil) (fun _ _ _ _ => (pe_cal C_turned (hr.mono (by decide)) (by rfl) (pa_cons (pv 0) (pa_cons (pv 1) pa_nil)))))
      (pss_one (ps_expr (pe_bmK (K := K) rfl PySem.F.plainAttrs_list PySem.F.slot_list_append PySem.F.type_list_append mt_append (pv 3) (pa_cons (pe_comp (N := ["tablet", "turn"]) (cap := [none, none]) (mkCS rfl (by decide +kernel) rfl (by decide +kernel) (by rfl) (by rfl)) rfl (pi_zipK (K := K) rfl rfl h_zip (pa_cons (pv 2) (pa_cons (pv 4) pa_nil))) (fun _ _ _ _ => (pg_tupK (K := K) (n := 2) rfl rfl (pgs_cons (pg_name (i := 0) (show List.Nodup (["tablet", "turn"] : List Str) by decide +kernel) rfl (by first | exact Or.inl rfl | exact Or.inr rfl)) (pgs_cons (pg_name (i := 1) (show List.Nodup (["tablet", "turn"] : List Str) by decide +kernel) rfl (by first | exact Or.inl rfl | exact Or.inr rfl)) pgs_nil)))) (fun _ _ _ _ => pts_nil) (fun _ _ _ _ => (pe_cal C_left_place (hr.mono (by decide)) (by rfl) (pa_cons (pv 0) (pa_cons (pv 1) pa_nil))))) pa_nil))))))
      (pss_one (ps_ret (pv 3)))))), ?_⟩
    simp only [rSlL, tSeq, tIfS, tTest, tOp, tVar, tC, tCB, tCons, tNil, tRet, tNext, tAsg, gName, gTup, gCons, gNil, tB, tUn, rU, rI0, rI, tTup, tLst, tCall, tDrop, tIf, tAnd, tOr, tNot, tAndV, tOrV, tNotV, tSl, tPart, tNoPart, tBM, tBM0, rClear, sDPut, tDNewK, rIn, rEq, rNe, scal, rCat, rIx, rIxL, rIxT, rIxS, rAppend, tDGetK, tDInK, L2.start, cxK, cxW, cxKn, cxWn, cpK, cpW, List.map_cons, List.map_nil, List.cons_append, List.nil_append, List.append_nil, List.length_cons, List.length_nil, List.replicate, List.set_cons_zero, List.set_cons_succ, List.getElem?_cons_zero, List.getElem?_cons_succ, Option.some.injEq, exists_eq_left', exists_eq_left, exists_and_left, exists_eq', exists_const, V.int.injEq, V.bl.injEq, V.str.injEq, V.ref.injEq, V.ty.injEq, List.cons.injEq, and_true, true_and, reduceCtorEq, false_and, and_false, exists_false, or_false, false_or, decide_eq_true_eq, Bool.not_eq_true', decide_eq_false_iff_not, if_true, if_false, Bool.false_eq_true, ite_true, ite_false, Bool.not_true, Bool.not_false, Nat.reduceAdd, Nat.reduceSub, and_assoc]
    refine ⟨_, .inl (SqL.of hd), fun l hl => ⟨Nat.zero_le _, fun p hp => ?_⟩⟩
    have s1 : Same H (upd H l (.lst tv)) := same_upd hl
    have st0 : isL isTab (upd H l (.lst tv)) (rng n T) (.ref l) := isL.new ht hl
    generalize upd H l (.lst tv) = H1 at s1 st0 hp ⊢
    have hlp : ∀ {x : Addr} {o : HO}, H1 x = some o → x ≠ p := fun e z => by rw [z, hp] at e; cases e
    refine ⟨_, rfl, r, rfl, ⟨_, SqL.of (same_upd hp _ _ (s1 _ _ hrr))⟩, for_list (K := K) (a := r) (xs := rv) (fun i σ H3 => ∃ (lc : Addr) (v4 : Option V), σ = [some (.ref d), some (.ref r), some (.ref lc), some (.ref p), v4] ∧ Own (isF H (isL isPl)) H1 H3 p (rng i (pick n T rows)) ∧ isL isTab (del H3 p) (rng n fun k => after (T k) (colOf rows k) i) (.ref lc))
      ⟨l, none, rfl, .start hp, ?_⟩ (fun i σ H3 _ ⟨lc, v4, _, o, _⟩ => SqL.of (o.same _ _ (s1 _ _ hrr))) ?_ ?_⟩
    · rw [del_upd, show (rng n fun k => after (T k) (colOf rows k) 0) = rng n T from rng_ext fun k _ => by simp [after]]
      obtain ⟨l', us, e1, e2, e3⟩ := st0
      cases e1
      exact ⟨l, us, rfl, by rw [del_ne (hlp e2)]; exact e2, e3.same (fun a u e => by rw [del_ne (hlp e)]; exact e)⟩
    · rintro i y σ H3 hi ⟨lc, v4, rfl, o, st⟩
      obtain ⟨row, er, rfl⟩ := hrl.got hi
      have ⟨hlen, hturn⟩ := hg row (List.mem_of_getElem? er)
      have hi' : i < rows.length := (List.getElem?_eq_some_iff.mp er).1
      obtain ⟨pv, hpv, _⟩ := o.has
      obtain ⟨lc', us, e1, e2, e3⟩ := st
      cases e1
      have hus := e3.len
      have hcell : ∀ {j c : Nat}, row[j]? = some c → (colOf rows j)[i]? = some c := fun h => colOf_at er h
      simp only [rSlL, tSeq, tIfS, tTest, tOp, tVar, tC, tCB, tCons, tNil, tRet, tNext, tAsg, gName, gTup, gCons, gNil, tB, tUn, rU, rI0, rI, tTup, tLst, tCall, tDrop, tIf, tAnd, tOr, tNot, tAndV, tOrV, tNotV, tSl, tPart, tNoPart, tBM, tBM0, rClear, sDPut, tDNewK, rIn, rEq, rNe, scal, rCat, rIx, rIxL, rIxT, rIxS, rAppend, tDGetK, tDInK, L2.start, cxK, cxW, cxKn, cxWn, cpK, cpW, List.map_cons, List.map_nil, List.cons_append, List.nil_append, List.append_nil, List.length_cons, List.length_nil, List.replicate, List.set_cons_zero, List.set_cons_succ, List.getElem?_cons_zero, List.getElem?_cons_succ, Option.some.injEq, exists_eq_left', exists_eq_left, exists_and_left, exists_eq', exists_const, V.int.injEq, V.bl.injEq, V.str.injEq, V.ref.injEq, V.ty.injEq, List.cons.injEq, and_true, true_and, reduceCtorEq, false_and, and_false, exists_false, or_false, false_or, decide_eq_true_eq, Bool.not_eq_true', decide_eq_false_iff_not, if_true, if_false, Bool.false_eq_true, ite_true, ite_false, Bool.not_true, Bool.not_false, Nat.reduceAdd, Nat.reduceSub, and_assoc]
      refine ⟨_, rfl, _, rfl, .lst lc, .str row, us, row.map (fun c => V.str (sOf [c])), rfl, SqL.of (del_same _ _ e2), rfl, comp_zip (K := K) (by omega) (by rw [List.length_map]; omega) (fun j ys H4 => Same H3 H4 ∧ LR isTab H4 (rng j fun k => after (T k) (colOf rows k) (i + 1)) ys) ⟨.refl _, .nil⟩ (fun j ys H4 ⟨h1, h2⟩ => ⟨by rw [h2.len]; exact Nat.le_refl _, SqL.of (h1 _ _ (del_same _ _ e2)), rfl⟩) ?_ ?_⟩
      · rintro j x z p5 ys H4 hx hz hp5 ⟨g1, g2⟩
        rw [List.getElem?_map] at hz
        obtain ⟨c, hc, rfl⟩ := Option.map_eq_some_iff.mp hz
        obtain ⟨hj, pt, rfl, tb⟩ := e3.at hx
        simp only [capSt, tYes, Option.bind, id, Keep, rSlL, tSeq, tIfS, tTest, tOp, tVar, tC, tCB, tCons, tNil, tRet, tNext, tAsg, gName, gTup, gCons, gNil, tB, tUn, rU, rI0, rI, tTup, tLst, tCall, tDrop, tIf, tAnd, tOr, tNot, tAndV, tOrV, tNotV, tSl, tPart, tNoPart, tBM, tBM0, rClear, sDPut, tDNewK, rIn, rEq, rNe, scal, rCat, rIx, rIxL, rIxT, rIxS, rAppend, tDGetK, tDInK, L2.start, cxK, cxW, cxKn, cxWn, cpK, cpW, List.map_cons, List.map_nil, List.cons_append, List.nil_append, List.append_nil, List.length_cons, List.length_nil, List.replicate, List.set_cons_zero, List.set_cons_succ, List.getElem?_cons_zero, List.getElem?_cons_succ, Option.some.injEq, exists_eq_left', exists_eq_left, exists_and_left, exists_eq', exists_const, V.int.injEq, V.bl.injEq, V.str.injEq, V.ref.injEq, V.ty.injEq, List.cons.injEq, and_true, true_and, reduceCtorEq, false_and, and_false, exists_false, or_false, false_or, decide_eq_true_eq, Bool.not_eq_true', decide_eq_false_iff_not, if_true, if_false, Bool.false_eq_true, ite_true, ite_false, Bool.not_true, Bool.not_false, Nat.reduceAdd, Nat.reduceSub, and_assoc]
        refine ⟨_, SqT.of upd_same, rfl, ?_⟩
        simp only [rSlL, tSeq, tIfS, tTest, tOp, tVar, tC, tCB, tCons, tNil, tRet, tNext, tAsg, gName, gTup, gCons, gNil, tB, tUn, rU, rI0, rI, tTup, tLst, tCall, tDrop, tIf, tAnd, tOr, tNot, tAndV, tOrV, tNotV, tSl, tPart, tNoPart, tBM, tBM0, rClear, sDPut, tDNewK, rIn, rEq, rNe, scal, rCat, rIx, rIxL, rIxT, rIxS, rAppend, tDGetK, tDInK, L2.start, cxK, cxW, cxKn, cxWn, cpK, cpW, List.map_cons, List.map_nil, List.cons_append, List.nil_append, List.append_nil, List.length_cons, List.length_nil, List.replicate, List.set_cons_zero, List.set_cons_succ, List.getElem?_cons_zero, List.getElem?_cons_succ, Option.some.injEq, exists_eq_left', exists_eq_left, exists_and_left, exists_eq', exists_const, V.int.injEq, V.bl.injEq, V.str.injEq, V.ref.injEq, V.ty.injEq, List.cons.injEq, and_true, true_and, reduceCtorEq, false_and, and_false, exists_false, or_false, false_or, decide_eq_true_eq, Bool.not_eq_true', decide_eq_false_iff_not, if_true, if_false, Bool.false_eq_true, ite_true, ite_false, Bool.not_true, Bool.not_false, Nat.reduceAdd, Nat.reduceSub, and_assoc]
        have s5 := same_upd (o := .tup [V.ref pt, V.str (sOf [c])]) hp5
        refine ⟨_, _, _, _, c, rfl, ((tb.same del_same).same g1).same s5, hturn c (List.mem_of_getElem? hc), fun q5 H5 e5 t5 => ?_⟩
        simp only [rSlL, tSeq, tIfS, tTest, tOp, tVar, tC, tCB, tCons, tNil, tRet, tNext, tAsg, gName, gTup, gCons, gNil, tB, tUn, rU, rI0, rI, tTup, tLst, tCall, tDrop, tIf, tAnd, tOr, tNot, tAndV, tOrV, tNotV, tSl, tPart, tNoPart, tBM, tBM0, rClear, sDPut, tDNewK, rIn, rEq, rNe, scal, rCat, rIx, rIxL, rIxT, rIxS, rAppend, tDGetK, tDInK, L2.start, cxK, cxW, cxKn, cxWn, cpK, cpW, List.map_cons, List.map_nil, List.cons_append, List.nil_append, List.append_nil, List.length_cons, List.length_nil, List.replicate, List.set_cons_zero, List.set_cons_succ, List.getElem?_cons_zero, List.getElem?_cons_succ, Option.some.injEq, exists_eq_left', exists_eq_left, exists_and_left, exists_eq', exists_const, V.int.injEq, V.bl.injEq, V.str.injEq, V.ref.injEq, V.ty.injEq, List.cons.injEq, and_true, true_and, reduceCtorEq, false_and, and_false, exists_false, or_false, false_or, decide_eq_true_eq, Bool.not_eq_true', decide_eq_false_iff_not, if_true, if_false, Bool.false_eq_true, ite_true, ite_false, Bool.not_true, Bool.not_false, Nat.reduceAdd, Nat.reduceSub, and_assoc]
        refine ⟨(g1.trans s5).trans e5, (g2.same (s5.trans e5)).rsnoc ⟨q5, rfl, ?_⟩⟩
        rw [after_succ (hcell hc)]; exact t5
      · rintro ys H4 ⟨g1, g2⟩ D hD
        rw [hus] at g2
        simp only [rSlL, tSeq, tIfS, tTest, tOp, tVar, tC, tCB, tCons, tNil, tRet, tNext, tAsg, gName, gTup, gCons, gNil, tB, tUn, rU, rI0, rI, tTup, tLst, tCall, tDrop, tIf, tAnd, tOr, tNot, tAndV, tOrV, tNotV, tSl, tPart, tNoPart, tBM, tBM0, rClear, sDPut, tDNewK, rIn, rEq, rNe, scal, rCat, rIx, rIxL, rIxT, rIxS, rAppend, tDGetK, tDInK, L2.start, cxK, cxW, cxKn, cxWn, cpK, cpW, List.map_cons, List.map_nil, List.cons_append, List.nil_append, List.append_nil, List.length_cons, List.length_nil, List.replicate, List.set_cons_zero, List.set_cons_succ, List.getElem?_cons_zero, List.getElem?_cons_succ, Option.some.injEq, exists_eq_left', exists_eq_left, exists_and_left, exists_eq', exists_const, V.int.injEq, V.bl.injEq, V.str.injEq, V.ref.injEq, V.ty.injEq, List.cons.injEq, and_true, true_and, reduceCtorEq, false_and, and_false, exists_false, or_false, false_or, decide_eq_true_eq, Bool.not_eq_true', decide_eq_false_iff_not, if_true, if_false, Bool.false_eq_true, ite_true, ite_false, Bool.not_true, Bool.not_false, Nat.reduceAdd, Nat.reduceSub, and_assoc]
        have g3 : Same H3 (upd H4 D (.lst ys)) := g1.trans (same_upd hD)
        have hDp : D ≠ p := fun z => by rw [z, g1 _ _ hpv] at hD; cases hD
        have g4 := isL.new g2 hD
        have hDat : upd H4 D (.lst ys) D = some (.lst ys) := upd_same
        have g5 := g2.same (same_upd (o := .lst ys) hD)
        have hys := g2.len
        generalize upd H4 D (.lst ys) = H5 at g3 g4 hDat g5 ⊢
        refine ⟨.inl ⟨rfl, _, SqL.of (g3 _ _ hpv)⟩, ?_⟩
        refine ⟨_, rfl, _, rfl, .lst D, .str row, ys, row.map (fun c => V.str (sOf [c])), rfl, SqL.of hDat, rfl, comp_zip (K := K) (by omega) (by rw [List.length_map]; omega) (fun j zs H6 => Same H5 H6 ∧ LR isPl H6 (rng j fun k => place (T k) (colOf rows k) i) zs) ⟨.refl _, .nil⟩ (fun j zs H6 ⟨h1, h2⟩ => ⟨by rw [h2.len]; exact Nat.le_refl _, SqL.of (h1 _ _ hDat), rfl⟩) ?_ ?_⟩
        · rintro j x z p6 zs H6 hx hz hp6 ⟨k1, k2⟩
          rw [List.getElem?_map] at hz
          obtain ⟨c, hc, rfl⟩ := Option.map_eq_some_iff.mp hz
          obtain ⟨hj, pt, rfl, tb⟩ := g5.at hx
          simp only [capSt, tYes, Option.bind, id, Keep, rSlL, tSeq, tIfS, tTest, tOp, tVar, tC, tCB, tCons, tNil, tRet, tNext, tAsg, gName, gTup, gCons, gNil, tB, tUn, rU, rI0, rI, tTup, tLst, tCall, tDrop, tIf, tAnd, tOr, tNot, tAndV, tOrV, tNotV, tSl, tPart, tNoPart, tBM, tBM0, rClear, sDPut, tDNewK, rIn, rEq, rNe, scal, rCat, rIx, rIxL, rIxT, rIxS, rAppend, tDGetK, tDInK, L2.start, cxK, cxW, cxKn, cxWn, cpK, cpW, List.map_cons, List.map_nil, List.cons_append, List.nil_append, List.append_nil, List.length_cons, List.length_nil, List.replicate, List.set_cons_zero, List.set_cons_succ, List.getElem?_cons_zero, List.getElem?_cons_succ, Option.some.injEq, exists_eq_left', exists_eq_left, exists_and_left, exists_eq', exists_const, V.int.injEq, V.bl.injEq, V.str.injEq, V.ref.injEq, V.ty.injEq, List.cons.injEq, and_true, true_and, reduceCtorEq, false_and, and_false, exists_false, or_false, false_or, decide_eq_true_eq, Bool.not_eq_true', decide_eq_false_iff_not, if_true, if_false, Bool.false_eq_true, ite_true, ite_false, Bool.not_true, Bool.not_false, Nat.reduceAdd, Nat.reduceSub, and_assoc]
          refine ⟨_, SqT.of upd_same, rfl, ?_⟩
          simp only [rSlL, tSeq, tIfS, tTest, tOp, tVar, tC, tCB, tCons, tNil, tRet, tNext, tAsg, gName, gTup, gCons, gNil, tB, tUn, rU, rI0, rI, tTup, tLst, tCall, tDrop, tIf, tAnd, tOr, tNot, tAndV, tOrV, tNotV, tSl, tPart, tNoPart, tBM, tBM0, rClear, sDPut, tDNewK, rIn, rEq, rNe, scal, rCat, rIx, rIxL, rIxT, rIxS, rAppend, tDGetK, tDInK, L2.start, cxK, cxW, cxKn, cxWn, cpK, cpW, List.map_cons, List.map_nil, List.cons_append, List.nil_append, List.append_nil, List.length_cons, List.length_nil, List.replicate, List.set_cons_zero, List.set_cons_succ, List.getElem?_cons_zero, List.getElem?_cons_succ, Option.some.injEq, exists_eq_left', exists_eq_left, exists_and_left, exists_eq', exists_const, V.int.injEq, V.bl.injEq, V.str.injEq, V.ref.injEq, V.ty.injEq, List.cons.injEq, and_true, true_and, reduceCtorEq, false_and, and_false, exists_false, or_false, false_or, decide_eq_true_eq, Bool.not_eq_true', decide_eq_false_iff_not, if_true, if_false, Bool.false_eq_true, ite_true, ite_false, Bool.not_true, Bool.not_false, Nat.reduceAdd, Nat.reduceSub, and_assoc]
          have s6 := same_upd (o := .tup [V.ref pt, V.str (sOf [c])]) hp6
          refine ⟨_, _, _, _, c, rfl, (tb.same k1).same s6, hturn c (List.mem_of_getElem? hc), fun q7 H7 e7 t7 => ?_⟩
          simp only [rSlL, tSeq, tIfS, tTest, tOp, tVar, tC, tCB, tCons, tNil, tRet, tNext, tAsg, gName, gTup, gCons, gNil, tB, tUn, rU, rI0, rI, tTup, tLst, tCall, tDrop, tIf, tAnd, tOr, tNot, tAndV, tOrV, tNotV, tSl, tPart, tNoPart, tBM, tBM0, rClear, sDPut, tDNewK, rIn, rEq, rNe, scal, rCat, rIx, rIxL, rIxT, rIxS, rAppend, tDGetK, tDInK, L2.start, cxK, cxW, cxKn, cxWn, cpK, cpW, List.map_cons, List.map_nil, List.cons_append, List.nil_append, List.append_nil, List.length_cons, List.length_nil, List.replicate, List.set_cons_zero, List.set_cons_succ, List.getElem?_cons_zero, List.getElem?_cons_succ, Option.some.injEq, exists_eq_left', exists_eq_left, exists_and_left, exists_eq', exists_const, V.int.injEq, V.bl.injEq, V.str.injEq, V.ref.injEq, V.ty.injEq, List.cons.injEq, and_true, true_and, reduceCtorEq, false_and, and_false, exists_false, or_false, false_or, decide_eq_true_eq, Bool.not_eq_true', decide_eq_false_iff_not, if_true, if_false, Bool.false_eq_true, ite_true, ite_false, Bool.not_true, Bool.not_false, Nat.reduceAdd, Nat.reduceSub, and_assoc]
          refine ⟨(k1.trans s6).trans e7, (k2.same (s6.trans e7)).rsnoc ?_⟩
          rw [place_at (hcell hc), ← after_succ (hcell hc)]; exact t7
        · rintro zs H6 ⟨k1, k2⟩ D2 hD2
          rw [hys] at k2
          have k3 : Same H5 (upd H6 D2 (.lst zs)) := k1.trans (same_upd hD2)
          have k4 := isL.new k2 hD2
          have hD2p : D2 ≠ p := fun z => by rw [z, k1 _ _ (g3 _ _ hpv)] at hD2; cases hD2
          generalize upd H6 D2 (.lst zs) = H7 at k3 k4 ⊢
          have o7 := o.step (g3.trans k3)
          obtain ⟨pw, hpw, _⟩ := o7.has
          obtain ⟨pv', a1, a2, a3⟩ := o7.app (m := pick n T rows i) (v := .ref D2) ⟨isL.off hpw hD2p k4, fun q e => by cases e; exact none_of (((s1.trans o.same).trans g3).trans k1) hD2⟩
          refine ⟨_, a1, by rw [a2, rng_len, sizeLine_eq]; omega, by rw [rng_succ]; exact a3, ?_⟩
          rw [del_upd]
          have := (isL.off (g3 _ _ hpv) hDp g4)
          exact Mono.mono (same_del k3) this
    · rintro σ H3 ⟨lc, v4, rfl, o, st⟩
      simp only [rSlL, tSeq, tIfS, tTest, tOp, tVar, tC, tCB, tCons, tNil, tRet, tNext, tAsg, gName, gTup, gCons, gNil, tB, tUn, rU, rI0, rI, tTup, tLst, tCall, tDrop, tIf, tAnd, tOr, tNot, tAndV, tOrV, tNotV, tSl, tPart, tNoPart, tBM, tBM0, rClear, sDPut, tDNewK, rIn, rEq, rNe, scal, rCat, rIx, rIxL, rIxT, rIxS, rAppend, tDGetK, tDInK, L2.start, cxK, cxW, cxKn, cxWn, cpK, cpW, List.map_cons, List.map_nil, List.cons_append, List.nil_append, List.append_nil, List.length_cons, List.length_nil, List.replicate, List.set_cons_zero, List.set_cons_succ, List.getElem?_cons_zero, List.getElem?_cons_succ, Option.some.injEq, exists_eq_left', exists_eq_left, exists_and_left, exists_eq', exists_const, V.int.injEq, V.bl.injEq, V.str.injEq, V.ref.injEq, V.ty.injEq, List.cons.injEq, and_true, true_and, reduceCtorEq, false_and, and_false, exists_false, or_false, false_or, decide_eq_true_eq, Bool.not_eq_true', decide_eq_false_iff_not, if_true, if_false, Bool.false_eq_true, ite_true, ite_false, Bool.not_true, Bool.not_false, Nat.reduceAdd, Nat.reduceSub, and_assoc]
      rw [hrl.1] at o
      exact q p H3 (none_of s1 hp) (s1.trans o.same) o.fin
end
end Wb

set_option Elab.async false
set_option linter.all false
set_option maxRecDepth 100000
set_option maxHeartbeats 4000000
--ITERS {'_law_turns_here': 'str', 'turns': 'str'}
--VT {'_law_turns_here': 's', '_law_out': 'li', '_law_hole': 'i', 'turns': 's', 'shown': 'dict', '_law_size': 'i', '_law_many': 'i'}
namespace Wb
open PySem L2
section
variable {P : Program} {w : World} {K : PySem.W.Frag} {mg : Str → Option Value} {base : Heap}
theorem LR.int {H : Hp} {ms : List Int} {vs : List V} (h : LR isI H ms vs) : vs = ms.map V.int := by
  refine List.ext_getElem? fun i => ?_
  rw [List.getElem?_map]
  cases e : ms[i]? with
  | none => rw [List.getElem?_eq_none_iff] at e; rw [List.getElem?_eq_none_iff.mpr (by rw [h.1]; exact e)]; rfl
  | some m => obtain ⟨v, a, b⟩ := h.get e; rw [a]; cases b; rfl
theorem LR.ofI {H : Hp} (ms : List Int) : LR isI H ms (ms.map V.int) := ⟨by simp, fun i v m a b => by rw [List.getElem?_map, b] at a; cases a; rfl⟩
theorem zos_at (y t : Nat) : atI (Str.ofString "zos").cps.toList (twT y t + 1) = some (slantOf (twT y t)) := by
  rcases twT_cases y t with h | h | h <;> rw [h] <;> decide +kernel
def isStrand : Rp (T3 × List Nat) := fun H m v => ∃ p pc, v = .ref p ∧ H p = some (.tup [.ref pc, .str (sOf m.2)]) ∧ isTab H m.1 (.ref pc)
instance : Mono isStrand := ⟨fun e ⟨p, pc, h1, h2, h3⟩ => ⟨p, pc, h1, e _ _ h2, Mono.mono e h3⟩⟩
def spStrand (K : PySem.W.Frag) : Sp := fun vs H Q _ => ∃ (a : Addr) (ns : List Int) (k : Nat), vs = [.ref a, .int k] ∧ SqL K H a (ns.map V.int) ∧ ns.length ≤ 63 ∧ k + 2 ≤ 63 ∧ ∀ (v : V) (H' : Hp) (t : T3) (col : List Nat), Same H H' → isStrand H' (t, col) v → col.length ≤ 240 → (∀ x ∈ col, isTurn x) → Q v H'
theorem ok_strand {f : Addr} {fd : FuncData} (F : Fun K "_law_strand" "_law_strand" (tp 24) f fd) (C__law_at : Cal P w K mg base "_law_at" ["_law_script", "_law_k"] 1 (spAt K)) (C__law_card : Cal P w K mg base "_law_card" ["_law_cell"] 3 spCard) (C__law_turns : Cal P w K mg base "_law_turns" ["_law_cell", "_law_many"] 2 spTurns) : FnOk P w K mg base CX0 4 f fd ["_law_script", "_law_at_here"] (spStrand K) := by
  have SC : FnScope ["_law_script", "_law_at_here", "_law_size", "_law_many"] ["_law_script", "_law_at_here"] (defScope (tp 24)) := ⟨rfl, rfl, rfl, by decide +kernel, rfl, by decide +kernel, by decide +kernel⟩
  refine F.ok SC (fun vs H Q E h => ?_) (fun cdv A outer s H vs Q E hr h => ?_)
  · obtain ⟨a, ns, k, rfl, _⟩ := h; rfl
  · obtain ⟨a, ns, k, rfl, hS, hl, hk, q⟩ := h
    refine ⟨_, (pss_cons (ps_set (i := 2) SC.nd rfl (by first | exact Or.inl rfl | exact Or.inr rfl) (pe_cal C__law_at (hr.mono (by decide)) (by rfl) (pa_cons (pv 0) (pa_cons (pe_op op_add (pv 1) pe_int) pa_nil))))
      (pss_cons (ps_set (i := 3) SC.nd rfl (by first | exact Or.inl rfl | exact Or.inr rfl) (pe_op op_mod (pv 2) pe_int))
      (pss_cons (ps_if (pt_cmpR op_eq (pe_op op_mod (pe_op op_fdiv (pv 2) pe_int) pe_int) pe_int (nomark _)) (pss_one (ps_set (i := 3) SC.nd rfl (by first | exact Or.inl rfl | exact Or.inr rfl) (pe_op op_mod (pe_op op_fdiv (pv 2) pe_int) pe_int))) pss_nil)
      (pss_cons (ps_if (pt_cmpR op_eq (pe_op op_mod (pe_op op_fdiv (pv 2) pe_int) pe_int) pe_int (nomark _)) (pss_one (ps_set (i := 3) SC.nd rfl (by first | exact Or.inl rfl | exact Or.inr rfl) (pe_op op_mod (pe_op op_fdiv (pv 2) pe_int) pe_int))) pss_nil)
      (pss_one (ps_ret (pe_tup (pa_cons (pe_cal C__law_card (hr.mono (by decide)) (by rfl) (pa_cons (pe_cal C__law_at (hr.mono (by decide)) (by rfl) (pa_cons (pv 0) (pa_cons (pv 1) pa_nil))) pa_nil)) (pa_cons (pe_cal C__law_turns (hr.mono (by decide)) (by rfl) (pa_cons (pe_cal C__law_at (hr.mono (by decide)) (by rfl) (pa_cons (pv 0) (pa_cons (pe_op op_add (pv 1) pe_int) pa_nil))) (pa_cons (pv 3) pa_nil))) pa_nil))))))))), ?_⟩
    simp only [rSlL, tSeq, tIfS, tTest, tOp, tVar, tC, tCB, tCons, tNil, tRet, tNext, tAsg, gName, gTup, gCons, gNil, tB, tUn, rU, rI0, rI, tTup, tLst, tCall, tDrop, tIf, tAnd, tOr, tNot, tAndV, tOrV, tNotV, tSl, tPart, tNoPart, tBM, tBM0, rClear, sDPut, tDNewK, rIn, rEq, rNe, scal, rCat, rIx, rIxL, rIxT, rIxS, rAppend, tDGetK, tDInK, L2.start, cxK, cxW, cxKn, cxWn, cpK, cpW, List.map_cons, List.map_nil, List.cons_append, List.nil_append, List.append_nil, List.length_cons, List.length_nil, List.replicate, List.set_cons_zero, List.set_cons_succ, List.getElem?_cons_zero, List.getElem?_cons_succ, Option.some.injEq, exists_eq_left', exists_eq_left, exists_and_left, exists_eq', exists_const, V.int.injEq, V.bl.injEq, V.str.injEq, V.ref.injEq, V.ty.injEq, List.cons.injEq, and_true, true_and, reduceCtorEq, false_and, and_false, exists_false, or_false, false_or, decide_eq_true_eq, Bool.not_eq_true', decide_eq_false_iff_not, if_true, if_false, Bool.false_eq_true, ite_true, ite_false, Bool.not_true, Bool.not_false, Nat.reduceAdd, Nat.reduceSub, and_assoc]
    refine ⟨a, ns, k + 2, by rw [show ((k : Int) + 2) = ((k + 2 : Nat) : Int) by omega], hS, hl, by omega, fun c => ?_⟩
    simp only [rSlL, tSeq, tIfS, tTest, tOp, tVar, tC, tCB, tCons, tNil, tRet, tNext, tAsg, gName, gTup, gCons, gNil, tB, tUn, rU, rI0, rI, tTup, tLst, tCall, tDrop, tIf, tAnd, tOr, tNot, tAndV, tOrV, tNotV, tSl, tPart, tNoPart, tBM, tBM0, rClear, sDPut, tDNewK, rIn, rEq, rNe, scal, rCat, rIx, rIxL, rIxT, rIxS, rAppend, tDGetK, tDInK, L2.start, cxK, cxW, cxKn, cxWn, cpK, cpW, List.map_cons, List.map_nil, List.cons_append, List.nil_append, List.append_nil, List.length_cons, List.length_nil, List.replicate, List.set_cons_zero, List.set_cons_succ, List.getElem?_cons_zero, List.getElem?_cons_succ, Option.some.injEq, exists_eq_left', exists_eq_left, exists_and_left, exists_eq', exists_const, V.int.injEq, V.bl.injEq, V.str.injEq, V.ref.injEq, V.ty.injEq, List.cons.injEq, and_true, true_and, reduceCtorEq, false_and, and_false, exists_false, or_false, false_or, decide_eq_true_eq, Bool.not_eq_true', decide_eq_false_iff_not, if_true, if_false, Bool.false_eq_true, ite_true, ite_false, Bool.not_true, Bool.not_false, Nat.reduceAdd, Nat.reduceSub, and_assoc]
    have fin : ∀ z : Int, 0 ≤ z → z ≤ 240 → spAt K [.ref a, .int k] H (fun x H1 => spCard [x] H1 (fun x_1 H1 => spAt K [.ref a, .int ((k : Int) + 1)] H1 (fun x H1 => spTurns [x, .int z] H1 (fun x_2 H1 => 2 ≤ sizeLine ∧ ∀ p, H1 p = none → Q (.ref p) (upd H1 p (.tup [x_1, x_2]))) E0) E0) E0) E0 := by
      intro z hz hm
      obtain ⟨m, rfl⟩ : ∃ m : Nat, z = (m : Int) := ⟨z.toNat, by omega⟩
      refine ⟨a, ns, k, rfl, hS, hl, by omega, fun c1 => ⟨c1, rfl, fun p y l st H1 e1 tb _ => ⟨a, ns, k + 1, rfl, e1.seq hS, hl, by omega, fun c2 => ⟨c2, m, rfl, by omega, fun col H2 e2 h1 h2 => ⟨by decide, fun p2 hp2 => ?_⟩⟩⟩⟩⟩
      exact q _ _ (y, l, st) col ((e1.trans e2).trans (same_upd hp2)) ⟨p2, p, rfl, upd_same, p, rfl, (tb.same e2).same (same_upd hp2)⟩ (by omega) h2
    have d1 : CDiv c 13 := ⟨by decide, by decide⟩
    have d2 : CDiv c 78 := ⟨by decide, by decide⟩
    refine ⟨by decide, d1, by decide, ite2 (fun _ => ⟨d2, by decide, d1, by decide, ite2 (fun _ => ⟨d2, by decide, fin _ (by omega) (by omega)⟩) (fun _ => fin _ (by omega) (by omega))⟩) (fun _ => ⟨d1, by decide, ite2 (fun _ => ⟨d2, by decide, fin _ (by omega) (by omega)⟩) (fun _ => fin _ (by omega) (by omega))⟩)⟩
def spPlacesS : Sp := fun vs H Q _ => ∃ (p : Addr) (t : T3) (col : List Nat), vs = [.ref p, .str (sOf col)] ∧ isTab H t (.ref p) ∧ (∀ x ∈ col, isTurn x) ∧ col.length ≤ 1000 ∧ ∀ (b : Addr) (H' : Hp), H b = none → Same H H' → isL isPl H' (rng col.length (place t col)) (.ref b) → Q (.ref b) H'
theorem ok_placesS {f : Addr} {fd : FuncData} (F : Fun K "_law_places" "_law_places" (tp 28) f fd) (C__law_behind : Cal P w K mg base "_law_behind" ["_law_card_here", "_law_turn"] 2 spBehind) (C__law_twist : Cal P w K mg base "_law_twist" ["_law_card_here", "_law_turn"] 2 spTwisting) : FnOk P w K mg base CX0 3 f fd ["_law_card_here", "_law_turns_here"] spPlacesS := by
  have SC : FnScope ["_law_card_here", "_law_turns_here", "_law_out", "_law_turn", "_law_slant"] ["_law_card_here", "_law_turns_here"] (defScope (tp 28)) := ⟨rfl, rfl, rfl, by decide +kernel, rfl, by decide +kernel, by decide +kernel⟩
  refine F.ok SC (fun vs H Q E h => ?_) (fun cdv A outer s H vs Q E hr h => ?_)
  · obtain ⟨p, t, col, rfl, _⟩ := h; rfl
  · obtain ⟨p, t, col, rfl, ⟨p', ep, tb⟩, hT, hm, q⟩ := h
    cases ep
    refine ⟨_, (pss_cons (ps_set (i := 2) SC.nd rfl (by first | exact Or.inl rfl | exact Or.inr rfl) (pe_lst pa_nil))
      (pss_cons (ps_for PassesOwn.never rfl (pi_str (pv 1)) (pg_name (i := 3) SC.nd rfl (by first | exact Or.inl rfl | exact Or.inr rfl)) (pss_cons (ps_set (i := 0) SC.nd rfl (by first | exact Or.inl rfl | exact Or.inr rfl) (pe_cal C__law_behind (hr.mono (by decide)) (by rfl) (pa_cons (pv 0) (pa_cons (pv 3) pa_nil))))
      (pss_cons (ps_set (i := 4) SC.nd rfl (by first | exact Or.inl rfl | exact Or.inr rfl) (pe_ix ix_str pe_str (pe_op op_add (pe_cal C__law_twist (hr.mono (by decide)) (by rfl) (pa_cons (pv 0) (pa_cons (pv 3) pa_nil))) pe_int) (fun _ _ => rfl)))
      (pss_one (ps_expr (pe_bmK (K := K) rfl PySem.F.plainAttrs_list PySem.F.slot_list_append PySem.F.type_list_append mt_append (pv 2) (pa_cons (pe_tup (pa_cons (pe_ix ix_str (pe_ix (ix_tupK (K := K) rfl) (pv 0) pe_int (fun _ _ => rfl)) (pe_ix (ix_tupK (K := K) rfl) (pv 0) pe_int (fun _ _ => rfl)) (fun _ _ => rfl)) (pa_cons (pe_ix ix_str (pe_ix (ix_tupK (K := K) rfl) (pv 0) pe_int (fun _ _ => rfl)) (pe_op op_mod (pe_op op_add (pe_ix (ix_tupK (K := K) rfl) (pv 0) pe_int (fun _ _ => rfl)) pe_int) pe_int) (fun _ _ => rfl)) (pa_cons (pv 4) pa_nil)))) pa_nil)))))))
      (pss_one (ps_ret (pv 2))))), ?_⟩
    simp only [rSlL, tSeq, tIfS, tTest, tOp, tVar, tC, tCB, tCons, tNil, tRet, tNext, tAsg, gName, gTup, gCons, gNil, tB, tUn, rU, rI0, rI, tTup, tLst, tCall, tDrop, tIf, tAnd, tOr, tNot, tAndV, tOrV, tNotV, tSl, tPart, tNoPart, tBM, tBM0, rClear, sDPut, tDNewK, rIn, rEq, rNe, scal, rCat, rIx, rIxL, rIxT, rIxS, rAppend, tDGetK, tDInK, L2.start, cxK, cxW, cxKn, cxWn, cpK, cpW, List.map_cons, List.map_nil, List.cons_append, List.nil_append, List.append_nil, List.length_cons, List.length_nil, List.replicate, List.set_cons_zero, List.set_cons_succ, List.getElem?_cons_zero, List.getElem?_cons_succ, Option.some.injEq, exists_eq_left', exists_eq_left, exists_and_left, exists_eq', exists_const, V.int.injEq, V.bl.injEq, V.str.injEq, V.ref.injEq, V.ty.injEq, List.cons.injEq, and_true, true_and, reduceCtorEq, false_and, and_false, exists_false, or_false, false_or, decide_eq_true_eq, Bool.not_eq_true', decide_eq_false_iff_not, if_true, if_false, Bool.false_eq_true, ite_true, ite_false, Bool.not_true, Bool.not_false, Nat.reduceAdd, Nat.reduceSub, and_assoc]
    refine ⟨Nat.zero_le _, fun b hb => ?_⟩
    refine ⟨_, rfl, col, rfl, for_str (fun i σ H3 => ∃ (pc : Addr) (v4 v5 : Option V), σ = [some (.ref pc), some (.str (sOf col)), some (.ref b), v4, v5] ∧ Own isPl H H3 b (rng i (place t col)) ∧ isTab H3 (after t col i) (.ref pc))
      ⟨p, none, none, rfl, .start hb, p, rfl, by rw [show after t col 0 = t by simp [after]]; exact tb.same (same_upd hb)⟩ ?_ ?_⟩
    · rintro i c σ H3 hc ⟨pc, v4, v5, rfl, o, pc', e, tc⟩
      cases e
      have hcT := hT c (List.mem_of_getElem? hc)
      have hi' : i < col.length := (List.getElem?_eq_some_iff.mp hc).1
      simp only [rSlL, tSeq, tIfS, tTest, tOp, tVar, tC, tCB, tCons, tNil, tRet, tNext, tAsg, gName, gTup, gCons, gNil, tB, tUn, rU, rI0, rI, tTup, tLst, tCall, tDrop, tIf, tAnd, tOr, tNot, tAndV, tOrV, tNotV, tSl, tPart, tNoPart, tBM, tBM0, rClear, sDPut, tDNewK, rIn, rEq, rNe, scal, rCat, rIx, rIxL, rIxT, rIxS, rAppend, tDGetK, tDInK, L2.start, cxK, cxW, cxKn, cxWn, cpK, cpW, List.map_cons, List.map_nil, List.cons_append, List.nil_append, List.append_nil, List.length_cons, List.length_nil, List.replicate, List.set_cons_zero, List.set_cons_succ, List.getElem?_cons_zero, List.getElem?_cons_succ, Option.some.injEq, exists_eq_left', exists_eq_left, exists_and_left, exists_eq', exists_const, V.int.injEq, V.bl.injEq, V.str.injEq, V.ref.injEq, V.ty.injEq, List.cons.injEq, and_true, true_and, reduceCtorEq, false_and, and_false, exists_false, or_false, false_or, decide_eq_true_eq, Bool.not_eq_true', decide_eq_false_iff_not, if_true, if_false, Bool.false_eq_true, ite_true, ite_false, Bool.not_true, Bool.not_false, Nat.reduceAdd, Nat.reduceSub, and_assoc]
      refine ⟨pc, _, _, _, c, rfl, tc, hcT, fun p4 H4 e4 t4 => ?_⟩
      simp only [rSlL, tSeq, tIfS, tTest, tOp, tVar, tC, tCB, tCons, tNil, tRet, tNext, tAsg, gName, gTup, gCons, gNil, tB, tUn, rU, rI0, rI, tTup, tLst, tCall, tDrop, tIf, tAnd, tOr, tNot, tAndV, tOrV, tNotV, tSl, tPart, tNoPart, tBM, tBM0, rClear, sDPut, tDNewK, rIn, rEq, rNe, scal, rCat, rIx, rIxL, rIxT, rIxS, rAppend, tDGetK, tDInK, L2.start, cxK, cxW, cxKn, cxWn, cpK, cpW, List.map_cons, List.map_nil, List.cons_append, List.nil_append, List.append_nil, List.length_cons, List.length_nil, List.replicate, List.set_cons_zero, List.set_cons_succ, List.getElem?_cons_zero, List.getElem?_cons_succ, Option.some.injEq, exists_eq_left', exists_eq_left, exists_and_left, exists_eq', exists_const, V.int.injEq, V.bl.injEq, V.str.injEq, V.ref.injEq, V.ty.injEq, List.cons.injEq, and_true, true_and, reduceCtorEq, false_and, and_false, exists_false, or_false, false_or, decide_eq_true_eq, Bool.not_eq_true', decide_eq_false_iff_not, if_true, if_false, Bool.false_eq_true, ite_true, ite_false, Bool.not_true, Bool.not_false, Nat.reduceAdd, Nat.reduceSub, and_assoc]
      refine ⟨p4, _, _, _, c, rfl, t4, hcT, ?_⟩
      simp only [rSlL, tSeq, tIfS, tTest, tOp, tVar, tC, tCB, tCons, tNil, tRet, tNext, tAsg, gName, gTup, gCons, gNil, tB, tUn, rU, rI0, rI, tTup, tLst, tCall, tDrop, tIf, tAnd, tOr, tNot, tAndV, tOrV, tNotV, tSl, tPart, tNoPart, tBM, tBM0, rClear, sDPut, tDNewK, rIn, rEq, rNe, scal, rCat, rIx, rIxL, rIxT, rIxS, rAppend, tDGetK, tDInK, L2.start, cxK, cxW, cxKn, cxWn, cpK, cpW, List.map_cons, List.map_nil, List.cons_append, List.nil_append, List.append_nil, List.length_cons, List.length_nil, List.replicate, List.set_cons_zero, List.set_cons_succ, List.getElem?_cons_zero, List.getElem?_cons_succ, Option.some.injEq, exists_eq_left', exists_eq_left, exists_and_left, exists_eq', exists_const, V.int.injEq, V.bl.injEq, V.str.injEq, V.ref.injEq, V.ty.injEq, List.cons.injEq, and_true, true_and, reduceCtorEq, false_and, and_false, exists_false, or_false, false_or, decide_eq_true_eq, Bool.not_eq_true', decide_eq_false_iff_not, if_true, if_false, Bool.false_eq_true, ite_true, ite_false, Bool.not_true, Bool.not_false, Nat.reduceAdd, Nat.reduceSub, and_assoc]
      refine ⟨by decide +kernel, _, zos_at _ _, ?_⟩
      have o4 := o.step e4
      obtain ⟨bv, hbv, _⟩ := o4.has
      have l4 : (sOf (after t col i).2.1).length ≤ sizeLine := by rw [sOf_len, t4.four]; decide
      obtain ⟨ct, ec, ec'⟩ := at4 t4.four t4.low t4.high
      obtain ⟨cb, eb, eb'⟩ := at4 t4.four (Int.emod_nonneg (((after t col i).2.2 + goT c) % 4 + 2) (by decide)) (Int.emod_lt_of_pos (((after t col i).2.2 + goT c) % 4 + 2) (by decide))
      refine ⟨.inl ⟨rfl, _, SqL.of hbv⟩, _, SqT.of t4.at_, _, rfl, _, SqT.of t4.at_, _, rfl, ?_⟩
      simp only [rSlL, tSeq, tIfS, tTest, tOp, tVar, tC, tCB, tCons, tNil, tRet, tNext, tAsg, gName, gTup, gCons, gNil, tB, tUn, rU, rI0, rI, tTup, tLst, tCall, tDrop, tIf, tAnd, tOr, tNot, tAndV, tOrV, tNotV, tSl, tPart, tNoPart, tBM, tBM0, rClear, sDPut, tDNewK, rIn, rEq, rNe, scal, rCat, rIx, rIxL, rIxT, rIxS, rAppend, tDGetK, tDInK, L2.start, cxK, cxW, cxKn, cxWn, cpK, cpW, List.map_cons, List.map_nil, List.cons_append, List.nil_append, List.append_nil, List.length_cons, List.length_nil, List.replicate, List.set_cons_zero, List.set_cons_succ, List.getElem?_cons_zero, List.getElem?_cons_succ, Option.some.injEq, exists_eq_left', exists_eq_left, exists_and_left, exists_eq', exists_const, V.int.injEq, V.bl.injEq, V.str.injEq, V.ref.injEq, V.ty.injEq, List.cons.injEq, and_true, true_and, reduceCtorEq, false_and, and_false, exists_false, or_false, false_or, decide_eq_true_eq, Bool.not_eq_true', decide_eq_false_iff_not, if_true, if_false, Bool.false_eq_true, ite_true, ite_false, Bool.not_true, Bool.not_false, Nat.reduceAdd, Nat.reduceSub, and_assoc]
      refine ⟨l4, ct, ec, _, SqT.of t4.at_, V.str _, rfl, _, SqT.of t4.at_, V.int _, rfl, ?_⟩
      simp only [rSlL, tSeq, tIfS, tTest, tOp, tVar, tC, tCB, tCons, tNil, tRet, tNext, tAsg, gName, gTup, gCons, gNil, tB, tUn, rU, rI0, rI, tTup, tLst, tCall, tDrop, tIf, tAnd, tOr, tNot, tAndV, tOrV, tNotV, tSl, tPart, tNoPart, tBM, tBM0, rClear, sDPut, tDNewK, rIn, rEq, rNe, scal, rCat, rIx, rIxL, rIxT, rIxS, rAppend, tDGetK, tDInK, L2.start, cxK, cxW, cxKn, cxWn, cpK, cpW, List.map_cons, List.map_nil, List.cons_append, List.nil_append, List.append_nil, List.length_cons, List.length_nil, List.replicate, List.set_cons_zero, List.set_cons_succ, List.getElem?_cons_zero, List.getElem?_cons_succ, Option.some.injEq, exists_eq_left', exists_eq_left, exists_and_left, exists_eq', exists_const, V.int.injEq, V.bl.injEq, V.str.injEq, V.ref.injEq, V.ty.injEq, List.cons.injEq, and_true, true_and, reduceCtorEq, false_and, and_false, exists_false, or_false, false_or, decide_eq_true_eq, Bool.not_eq_true', decide_eq_false_iff_not, if_true, if_false, Bool.false_eq_true, ite_true, ite_false, Bool.not_true, Bool.not_false, Nat.reduceAdd, Nat.reduceSub, and_assoc]
      refine ⟨by decide, l4, cb, eb, by decide, fun p5 hp5 => ?_⟩
      have o5 := o4.step (same_upd (o := .tup [.str (sOf [ct]), .str (sOf [cb]), .str (sOf [slantOf (twT (after t col i).1 c)])]) hp5)
      obtain ⟨vs5, a1, a2, a3⟩ := o5.appO (m := place t col i) (v := .ref p5) ⟨p5, rfl, by rw [upd_same, place_at hc]; simp only [placeOf, tTurn, ec', eb', Option.getD_some]⟩
      refine ⟨_, a1, by rw [a2, rng_len, sizeLine_eq]; omega, by rw [rng_succ]; exact a3, p4, rfl, ?_⟩
      rw [after_succ hc]
      have t5 := t4.same (same_upd (o := .tup [.str (sOf [ct]), .str (sOf [cb]), .str (sOf [slantOf (twT (after t col i).1 c)])]) hp5)
      refine ⟨?_, t5.lay, t5.four, t5.low, t5.high⟩
      rw [upd_ne (by rintro rfl; rw [t5.at_] at a1; cases a1)]
      exact t5.at_
    · rintro σ H3 ⟨pc, v4, v5, rfl, o, _⟩
      simp only [rSlL, tSeq, tIfS, tTest, tOp, tVar, tC, tCB, tCons, tNil, tRet, tNext, tAsg, gName, gTup, gCons, gNil, tB, tUn, rU, rI0, rI, tTup, tLst, tCall, tDrop, tIf, tAnd, tOr, tNot, tAndV, tOrV, tNotV, tSl, tPart, tNoPart, tBM, tBM0, rClear, sDPut, tDNewK, rIn, rEq, rNe, scal, rCat, rIx, rIxL, rIxT, rIxS, rAppend, tDGetK, tDInK, L2.start, cxK, cxW, cxKn, cxWn, cpK, cpW, List.map_cons, List.map_nil, List.cons_append, List.nil_append, List.append_nil, List.length_cons, List.length_nil, List.replicate, List.set_cons_zero, List.set_cons_succ, List.getElem?_cons_zero, List.getElem?_cons_succ, Option.some.injEq, exists_eq_left', exists_eq_left, exists_and_left, exists_eq', exists_const, V.int.injEq, V.bl.injEq, V.str.injEq, V.ref.injEq, V.ty.injEq, List.cons.injEq, and_true, true_and, reduceCtorEq, false_and, and_false, exists_false, or_false, false_or, decide_eq_true_eq, Bool.not_eq_true', decide_eq_false_iff_not, if_true, if_false, Bool.false_eq_true, ite_true, ite_false, Bool.not_true, Bool.not_false, Nat.reduceAdd, Nat.reduceSub, and_assoc]
      exact q b H3 hb o.same o.fin
def single (col : List Nat) : List (List Nat) := col.map fun c => [c]
theorem good_single {col : List Nat} (hT : ∀ x ∈ col, isTurn x) : GoodRows 1 (single col) := fun r hr => by
  obtain ⟨c, h1, rfl⟩ := List.mem_map.mp hr
  exact ⟨rfl, fun x hx => by rw [List.mem_singleton.mp hx]; exact hT c h1⟩
theorem col_single {col : List Nat} : colOf (single col) 0 = col := by
  unfold colOf single; rw [List.map_map]; exact (List.map_congr_left fun c _ => rfl).trans (List.map_id _)
def spLeftBy : Sp := fun vs H Q _ => ∃ (v : V) (t : T3) (col : List Nat), vs = [v] ∧ isStrand H (t, col) v ∧ (∀ x ∈ col, isTurn x) ∧ col.length ≤ 300 ∧ ∀ (b : Addr) (H' : Hp), H b = none → Same H H' → isL isPl H' (rng col.length (place t col)) (.ref b) → Q (.ref b) H'
theorem ok_left_by {f : Addr} {fd : FuncData} (F : Fun K "left_by" "left_by" (tp 15) f fd) (h_list : mg "list" = none) (C_woven : Cal P w K mg base "woven" ["draft", "plan"] 3 spWoven) : FnOk P w K mg base CX0 4 f fd ["strand"] spLeftBy := by
  have SC : FnScope ["strand", "tablet", "turns"] ["strand"] (defScope (tp 15)) := ⟨rfl, rfl, rfl, by decide +kernel, rfl, by decide +kernel, by decide +kernel⟩
  refine F.ok SC (fun vs H Q E h => ?_) (fun cdv A outer s H vs Q E hr h => ?_)
  · obtain ⟨v, t, col, rfl, _⟩ := h; rfl
  · obtain ⟨v, t, col, rfl, ⟨p, pc, rfl, hp, tb⟩, hT, hl, q⟩ := h
    refine ⟨_, (pss_cons (ps_asg (pv 0) (pg_tupK (K := K) (n := 2) rfl rfl (pgs_cons (pg_name (i := 1) SC.nd rfl (by first | exact Or.inl rfl | exact Or.inr rfl)) (pgs_cons (pg_name (i := 2) SC.nd rfl (by first | exact Or.inl rfl | exact Or.inr rfl)) pgs_nil))))
      (pss_one (ps_ret (pe_comp (N := ["pick"]) (cap := [none]) (mkCS rfl (by decide +kernel) rfl (by decide +kernel) (by rfl) (by rfl)) rfl (pi_listK (K := K) rfl (pe_cal C_woven (hr.mono (by decide)) (by rfl) (pa_cons (pe_lst (pa_cons (pv 1) pa_nil)) (pa_cons (pe_callTy (call_list_strK rfl) (by rfl) h_list PyProof.Rows.boot_list (pa_cons (pv 2) pa_nil)) pa_nil)))) (fun _ _ _ _ => (pg_name (i := 0) (show List.Nodup (["pick"] : List Str) by decide +kernel) rfl (by first | exact Or.inl rfl | exact Or.inr rfl))) (fun _ _ _ _ => pts_nil) (fun _ _ _ _ => (pe_ix (ix_listK (K := K) rfl) (pv 0) pe_int (fun _ _ => rfl))))))), ?_⟩
    simp only [rSlL, tSeq, tIfS, tTest, tOp, tVar, tC, tCB, tCons, tNil, tRet, tNext, tAsg, gName, gTup, gCons, gNil, tB, tUn, rU, rI0, rI, tTup, tLst, tCall, tDrop, tIf, tAnd, tOr, tNot, tAndV, tOrV, tNotV, tSl, tPart, tNoPart, tBM, tBM0, rClear, sDPut, tDNewK, rIn, rEq, rNe, scal, rCat, rIx, rIxL, rIxT, rIxS, rAppend, tDGetK, tDInK, L2.start, cxK, cxW, cxKn, cxWn, cpK, cpW, List.map_cons, List.map_nil, List.cons_append, List.nil_append, List.append_nil, List.length_cons, List.length_nil, List.replicate, List.set_cons_zero, List.set_cons_succ, List.getElem?_cons_zero, List.getElem?_cons_succ, Option.some.injEq, exists_eq_left', exists_eq_left, exists_and_left, exists_eq', exists_const, V.int.injEq, V.bl.injEq, V.str.injEq, V.ref.injEq, V.ty.injEq, List.cons.injEq, and_true, true_and, reduceCtorEq, false_and, and_false, exists_false, or_false, false_or, decide_eq_true_eq, Bool.not_eq_true', decide_eq_false_iff_not, if_true, if_false, Bool.false_eq_true, ite_true, ite_false, Bool.not_true, Bool.not_false, Nat.reduceAdd, Nat.reduceSub, and_assoc]
    refine ⟨_, SqT.of hp, rfl, ?_⟩
    simp only [rSlL, tSeq, tIfS, tTest, tOp, tVar, tC, tCB, tCons, tNil, tRet, tNext, tAsg, gName, gTup, gCons, gNil, tB, tUn, rU, rI0, rI, tTup, tLst, tCall, tDrop, tIf, tAnd, tOr, tNot, tAndV, tOrV, tNotV, tSl, tPart, tNoPart, tBM, tBM0, rClear, sDPut, tDNewK, rIn, rEq, rNe, scal, rCat, rIx, rIxL, rIxT, rIxS, rAppend, tDGetK, tDInK, L2.start, cxK, cxW, cxKn, cxWn, cpK, cpW, List.map_cons, List.map_nil, List.cons_append, List.nil_append, List.append_nil, List.length_cons, List.length_nil, List.replicate, List.set_cons_zero, List.set_cons_succ, List.getElem?_cons_zero, List.getElem?_cons_succ, Option.some.injEq, exists_eq_left', exists_eq_left, exists_and_left, exists_eq', exists_const, V.int.injEq, V.bl.injEq, V.str.injEq, V.ref.injEq, V.ty.injEq, List.cons.injEq, and_true, true_and, reduceCtorEq, false_and, and_false, exists_false, or_false, false_or, decide_eq_true_eq, Bool.not_eq_true', decide_eq_false_iff_not, if_true, if_false, Bool.false_eq_true, ite_true, ite_false, Bool.not_true, Bool.not_false, Nat.reduceAdd, Nat.reduceSub, and_assoc]
    refine ⟨_, rfl, (show 1 ≤ sizeLine by rw [sizeLine_eq]; decide), fun p1 hp1 => ⟨_, rfl, col, rfl, by rw [sizeLine_eq]; omega, fun p2 hp2 => ?_⟩⟩
    have e1 : Same H (upd H p1 (.lst [.ref pc])) := same_upd hp1
    have h1 : isL isTab (upd H p1 (.lst [.ref pc])) (rng 1 fun _ => t) (.ref p1) := ⟨p1, [.ref pc], rfl, upd_same, rfl, fun i v m a b => by
      match i, a, b with
      | 0, a, b => cases a; rw [rng_get (by decide)] at b; cases b; exact Mono.mono e1 tb⟩
    generalize upd H p1 (.lst [.ref pc]) = H1 at e1 h1 hp2 ⊢
    have e2 := same_upd (o := .lst (col.map fun c => V.str (sOf [c]))) hp2
    have h2 : isL isS (upd H1 p2 (.lst (col.map fun c => V.str (sOf [c])))) (single col) (.ref p2) := ⟨p2, _, rfl, upd_same, by have := LR.ofS (H := upd H1 p2 (.lst (col.map fun c => V.str (sOf [c])))) (single col); unfold single at this ⊢; rw [List.map_map] at this; exact this⟩
    have h1 := Mono.mono e2 h1
    generalize upd H1 p2 (.lst (col.map fun c => V.str (sOf [c]))) = H2 at e2 h1 h2 ⊢
    refine ⟨p1, p2, 1, fun _ => t, single col, rfl, h1, h2, good_single hT, by decide, by simp [single]; omega, fun b H3 _ e3 hb => ?_⟩
    obtain ⟨_, bv, eb, hbv, hbr⟩ := hb.unF
    cases eb
    have hbl : bv.length = col.length := by rw [hbr.1]; simp [bandOf, rng, single]
    refine ⟨b, rfl, ⟨_, SqL.of hbv⟩, comp_list (K := K) (a := b) (xs := bv) (by omega) (fun i ys H4 => H4 = H3 ∧ LR isPl H4 (rng i (place t col)) ys) ⟨rfl, .nil⟩ (fun i ys H4 ⟨e, h⟩ => ⟨by rw [h.len]; exact Nat.le_refl _, by rw [e]; exact SqL.of hbv⟩) ?_ ?_⟩
    · rintro i x ys H4 hx ⟨rfl, h⟩
      obtain ⟨hi, pp, pv, rfl, hpv, hpr⟩ := hbr.at hx
      obtain ⟨v, hv, hv2⟩ := hpr.to (i := 0) (by decide)
      rw [col_single] at hv2
      simp only [capSt, tYes, Option.bind, id, Keep, rSlL, tSeq, tIfS, tTest, tOp, tVar, tC, tCB, tCons, tNil, tRet, tNext, tAsg, gName, gTup, gCons, gNil, tB, tUn, rU, rI0, rI, tTup, tLst, tCall, tDrop, tIf, tAnd, tOr, tNot, tAndV, tOrV, tNotV, tSl, tPart, tNoPart, tBM, tBM0, rClear, sDPut, tDNewK, rIn, rEq, rNe, scal, rCat, rIx, rIxL, rIxT, rIxS, rAppend, tDGetK, tDInK, L2.start, cxK, cxW, cxKn, cxWn, cpK, cpW, List.map_cons, List.map_nil, List.cons_append, List.nil_append, List.append_nil, List.length_cons, List.length_nil, List.replicate, List.set_cons_zero, List.set_cons_succ, List.getElem?_cons_zero, List.getElem?_cons_succ, Option.some.injEq, exists_eq_left', exists_eq_left, exists_and_left, exists_eq', exists_const, V.int.injEq, V.bl.injEq, V.str.injEq, V.ref.injEq, V.ty.injEq, List.cons.injEq, and_true, true_and, reduceCtorEq, false_and, and_false, exists_false, or_false, false_or, decide_eq_true_eq, Bool.not_eq_true', decide_eq_false_iff_not, if_true, if_false, Bool.false_eq_true, ite_true, ite_false, Bool.not_true, Bool.not_false, Nat.reduceAdd, Nat.reduceSub, and_assoc]
      exact ⟨_, SqL.of hpv, v, atI_nat (j := 0) hv, h.rsnoc hv2⟩
    · rintro ys H4 ⟨rfl, h⟩ D hD
      rw [hbl] at h
      have e4 := (e1.trans e2).trans e3
      exact q D _ (none_of e4 hD) (e4.trans (same_upd hD)) (isL.new h hD)
/-- the holes in the order in which they are seen first -/
def addH (l : List Int) (h : Int) : List Int := if h ∈ l then l else l ++ [h]
def seenTo (t : T3) (col : List Nat) : Nat → List Int
  | 0 => []
  | i + 1 => addH (addH (seenTo t col i) (after t col (i + 1)).2.2) (((after t col (i + 1)).2.2 + 2) % 4)
theorem addH_nodup {l : List Int} {h : Int} (n : l.Nodup) : (addH l h).Nodup := by
  unfold addH; split
  · exact n
  · rw [List.nodup_append]
    exact ⟨n, by simp, fun a ha b hb => by rw [List.mem_singleton.mp hb]; rintro rfl; contradiction⟩
theorem addH_in {l : List Int} {h : Int} (n : ∀ x ∈ l, x ∈ [(0 : Int), 1, 2, 3]) (hh : 0 ≤ h ∧ h < 4) : ∀ x ∈ addH l h, x ∈ [(0 : Int), 1, 2, 3] := by
  unfold addH; split
  · exact n
  · intro x hx
    rcases List.mem_append.mp hx with z | z
    · exact n x z
    · rw [List.mem_singleton.mp z]; simp; omega
theorem len_sub : ∀ (l m : List Int), l.Nodup → (∀ x ∈ l, x ∈ m) → l.length ≤ m.length
  | [], m, _, _ => Nat.zero_le _
  | x :: l, m, n, h => by
    rw [List.nodup_cons] at n
    have hx := h x (by simp)
    have := len_sub l (m.erase x) n.2 fun y hy => (List.mem_erase_of_ne (by rintro rfl; exact n.1 hy)).mpr (h y (by simp [hy]))
    rw [List.length_erase_of_mem hx] at this
    have := List.length_pos_of_mem hx
    simp; omega
theorem seenTo_ok {t : T3} {col : List Nat} (h : ∀ i, 0 ≤ (after t col (i + 1)).2.2 ∧ (after t col (i + 1)).2.2 < 4) : ∀ i, (seenTo t col i).Nodup ∧ ∀ x ∈ seenTo t col i, x ∈ [(0 : Int), 1, 2, 3]
  | 0 => ⟨by simp [seenTo], by simp [seenTo]⟩
  | i + 1 => by
    obtain ⟨h1, h2⟩ := seenTo_ok h i
    exact ⟨addH_nodup (addH_nodup h1), addH_in (addH_in h2 (h i)) ⟨Int.emod_nonneg _ (by decide), Int.emod_lt_of_pos _ (by decide)⟩⟩
theorem put_keys {kvs : List (Key × V)} {l : List Int} {h : Int} {v : V} (e : kvs.map (·.1) = l.map Sum.inl) : (putK kvs (Sum.inl h) v).map (·.1) = (addH l h).map Sum.inl := by
  have hin : (kvs.any fun kv => decide (kv.1 = Sum.inl h)) = true ↔ h ∈ l := by
    rw [List.any_eq_true]
    constructor
    · rintro ⟨kv, h1, h2⟩
      have h3 : kv.1 ∈ kvs.map (·.1) := List.mem_map_of_mem h1
      rw [e, of_decide_eq_true h2] at h3
      obtain ⟨z, h4, h5⟩ := List.mem_map.mp h3
      cases h5; exact h4
    · intro hm
      have h3 : (Sum.inl h : Key) ∈ kvs.map (·.1) := by rw [e]; exact List.mem_map_of_mem hm
      obtain ⟨kv, h4, h5⟩ := List.mem_map.mp h3
      exact ⟨kv, h4, decide_eq_true h5⟩
  unfold putK addH
  by_cases hm : h ∈ l
  · rw [if_pos (hin.mpr hm), if_pos hm, ← e, List.map_map]
    exact List.map_congr_left fun kv _ => by simp only [Function.comp]; split <;> rfl
  · rw [if_neg (fun z => hm (hin.mp z)), if_neg hm, List.map_append, e]; simp
theorem after_ok {t : T3} {col : List Nat} (h0 : 0 ≤ t.2.2) (h1 : t.2.2 < 4) (i : Nat) : 0 ≤ (after t col i).2.2 ∧ (after t col i).2.2 < 4 := by
  unfold after
  generalize col.take i = l
  induction l generalizing t with
  | nil => exact ⟨h0, h1⟩
  | cons x r ih => exact ih (t := tTurn t x) (Int.emod_nonneg _ (by decide)) (Int.emod_lt_of_pos _ (by decide))
def spSeen : Sp := fun vs H Q _ => ∃ (v : V) (t : T3) (col : List Nat), vs = [v] ∧ isStrand H (t, col) v ∧ (∀ x ∈ col, isTurn x) ∧ ∀ (b : Addr) (ns : List Int) (H' : Hp), H b = none → Same H H' → ns.Perm (seenTo t col col.length) → ns.Pairwise (· ≤ ·) → isL isI H' ns (.ref b) → Q (.ref b) H'
theorem ok_seen {f : Addr} {fd : FuncData} (F : Fun K "seen" "seen" (tp 16) f fd) (h_sorted : mg "sorted" = none) {tH : Tok} (h_HOLES : mg "HOLES" = some (.int 4 tH)) (C_turned : Cal P w K mg base "turned" ["tablet", "turn"] 1 spTurned) : FnOk P w K mg base CX0 2 f fd ["strand"] spSeen := by
  have SC : FnScope ["strand", "tablet", "turns", "shown", "turn"] ["strand"] (defScope (tp 16)) := ⟨rfl, rfl, rfl, by decide +kernel, rfl, by decide +kernel, by decide +kernel⟩
  refine F.ok SC (fun vs H Q E h => ?_) (fun cdv A outer s H vs Q E hr h => ?_)
  · obtain ⟨v, t, col, rfl, _⟩ := h; rfl
  · obtain ⟨v, t, col, rfl, ⟨p, pc, rfl, hp, pc', epc, tb⟩, hT, q⟩ := h
    cases epc
    refine ⟨_, (pss_cons (ps_asg (pv 0) (pg_tupK (K := K) (n := 2) rfl rfl (pgs_cons (pg_name (i := 1) SC.nd rfl (by first | exact Or.inl rfl | exact Or.inr rfl)) (pgs_cons (pg_name (i := 2) SC.nd rfl (by first | exact Or.inl rfl | exact Or.inr rfl)) pgs_nil))))
      (pss_cons (ps_set (i := 3) SC.nd rfl (by first | exact Or.inl rfl | exact Or.inr rfl) pe_dnewK)
      (pss_cons (ps_for PassesOwn.never rfl (pi_str (pv 2)) (pg_name (i := 4) SC.nd rfl (by first | exact Or.inl rfl | exact Or.inr rfl)) (pss_cons (ps_set (i := 1) SC.nd rfl (by first | exact Or.inl rfl | exact Or.inr rfl) (pe_cal C_turned (hr.mono (by decide)) (by rfl) (pa_cons (pv 1) (pa_cons (pv 4) pa_nil))))
      (pss_cons (ps_dput (units1 hr) (pv 3) (pe_ix (ix_tupK (K := K) rfl) (pv 1) pe_int (fun _ _ => rfl)) pe_bl rfl)
      (pss_one (ps_dput (units1 hr) (pv 3) (pe_op op_mod (pe_op op_add (pe_ix (ix_tupK (K := K) rfl) (pv 1) pe_int (fun _ _ => rfl)) pe_int) (pe_glob (v := .int 4) (by rfl) h_HOLES ⟨_, rfl⟩)) pe_bl rfl)))))
      (pss_one (ps_ret (pe_callB (call_sortedD rfl) (by rfl) h_sorted PyProof.Rows.boot_sorted (pa_cons (pv 3) pa_nil))))))), ?_⟩
    simp only [rSlL, tSeq, tIfS, tTest, tOp, tVar, tC, tCB, tCons, tNil, tRet, tNext, tAsg, gName, gTup, gCons, gNil, tB, tUn, rU, rI0, rI, tTup, tLst, tCall, tDrop, tIf, tAnd, tOr, tNot, tAndV, tOrV, tNotV, tSl, tPart, tNoPart, tBM, tBM0, rClear, sDPut, tDNewK, rIn, rEq, rNe, scal, rCat, rIx, rIxL, rIxT, rIxS, rAppend, tDGetK, tDInK, L2.start, cxK, cxW, cxKn, cxWn, cpK, cpW, List.map_cons, List.map_nil, List.cons_append, List.nil_append, List.append_nil, List.length_cons, List.length_nil, List.replicate, List.set_cons_zero, List.set_cons_succ, List.getElem?_cons_zero, List.getElem?_cons_succ, Option.some.injEq, exists_eq_left', exists_eq_left, exists_and_left, exists_eq', exists_const, V.int.injEq, V.bl.injEq, V.str.injEq, V.ref.injEq, V.ty.injEq, List.cons.injEq, and_true, true_and, reduceCtorEq, false_and, and_false, exists_false, or_false, false_or, decide_eq_true_eq, Bool.not_eq_true', decide_eq_false_iff_not, if_true, if_false, Bool.false_eq_true, ite_true, ite_false, Bool.not_true, Bool.not_false, Nat.reduceAdd, Nat.reduceSub, and_assoc]
    refine ⟨_, SqT.of hp, rfl, ?_⟩
    simp only [rSlL, tSeq, tIfS, tTest, tOp, tVar, tC, tCB, tCons, tNil, tRet, tNext, tAsg, gName, gTup, gCons, gNil, tB, tUn, rU, rI0, rI, tTup, tLst, tCall, tDrop, tIf, tAnd, tOr, tNot, tAndV, tOrV, tNotV, tSl, tPart, tNoPart, tBM, tBM0, rClear, sDPut, tDNewK, rIn, rEq, rNe, scal, rCat, rIx, rIxL, rIxT, rIxS, rAppend, tDGetK, tDInK, L2.start, cxK, cxW, cxKn, cxWn, cpK, cpW, List.map_cons, List.map_nil, List.cons_append, List.nil_append, List.append_nil, List.length_cons, List.length_nil, List.replicate, List.set_cons_zero, List.set_cons_succ, List.getElem?_cons_zero, List.getElem?_cons_succ, Option.some.injEq, exists_eq_left', exists_eq_left, exists_and_left, exists_eq', exists_const, V.int.injEq, V.bl.injEq, V.str.injEq, V.ref.injEq, V.ty.injEq, List.cons.injEq, and_true, true_and, reduceCtorEq, false_and, and_false, exists_false, or_false, false_or, decide_eq_true_eq, Bool.not_eq_true', decide_eq_false_iff_not, if_true, if_false, Bool.false_eq_true, ite_true, ite_false, Bool.not_true, Bool.not_false, Nat.reduceAdd, Nat.reduceSub, and_assoc]
    refine fun d hd => ?_
    have ok := fun i => seenTo_ok (t := t) (col := col) (fun i => after_ok tb.low tb.high (i + 1)) i
    refine ⟨_, rfl, col, rfl, for_str (fun i σ G => ∃ (pt : Addr) (v4 : Option V) (kvs : List (Key × V)), σ = [some (.ref p), some (.ref pt), some (.str (sOf col)), some (.ref d), v4] ∧ Same H G ∧ G d = some (.dK kvs) ∧ kvs.map (·.1) = (seenTo t col i).map Sum.inl ∧ isTab G (after t col i) (.ref pt))
      ⟨pc, none, [], rfl, same_upd hd, upd_same, rfl, pc, rfl, by rw [show after t col 0 = t by simp [after]]; exact tb.same (same_upd hd)⟩ ?_ ?_⟩
    · rintro i c σ G hc ⟨pt, v4, kvs, rfl, g1, g2, g3, pt', e, tc⟩
      cases e
      have hcT := hT c (List.mem_of_getElem? hc)
      simp only [rSlL, tSeq, tIfS, tTest, tOp, tVar, tC, tCB, tCons, tNil, tRet, tNext, tAsg, gName, gTup, gCons, gNil, tB, tUn, rU, rI0, rI, tTup, tLst, tCall, tDrop, tIf, tAnd, tOr, tNot, tAndV, tOrV, tNotV, tSl, tPart, tNoPart, tBM, tBM0, rClear, sDPut, tDNewK, rIn, rEq, rNe, scal, rCat, rIx, rIxL, rIxT, rIxS, rAppend, tDGetK, tDInK, L2.start, cxK, cxW, cxKn, cxWn, cpK, cpW, List.map_cons, List.map_nil, List.cons_append, List.nil_append, List.append_nil, List.length_cons, List.length_nil, List.replicate, List.set_cons_zero, List.set_cons_succ, List.getElem?_cons_zero, List.getElem?_cons_succ, Option.some.injEq, exists_eq_left', exists_eq_left, exists_and_left, exists_eq', exists_const, V.int.injEq, V.bl.injEq, V.str.injEq, V.ref.injEq, V.ty.injEq, List.cons.injEq, and_true, true_and, reduceCtorEq, false_and, and_false, exists_false, or_false, false_or, decide_eq_true_eq, Bool.not_eq_true', decide_eq_false_iff_not, if_true, if_false, Bool.false_eq_true, ite_true, ite_false, Bool.not_true, Bool.not_false, Nat.reduceAdd, Nat.reduceSub, and_assoc]
      refine ⟨pt, _, _, _, c, rfl, tc, hcT, fun p4 H4 e4 t4 => ?_⟩
      simp only [rSlL, tSeq, tIfS, tTest, tOp, tVar, tC, tCB, tCons, tNil, tRet, tNext, tAsg, gName, gTup, gCons, gNil, tB, tUn, rU, rI0, rI, tTup, tLst, tCall, tDrop, tIf, tAnd, tOr, tNot, tAndV, tOrV, tNotV, tSl, tPart, tNoPart, tBM, tBM0, rClear, sDPut, tDNewK, rIn, rEq, rNe, scal, rCat, rIx, rIxL, rIxT, rIxS, rAppend, tDGetK, tDInK, L2.start, cxK, cxW, cxKn, cxWn, cpK, cpW, List.map_cons, List.map_nil, List.cons_append, List.nil_append, List.append_nil, List.length_cons, List.length_nil, List.replicate, List.set_cons_zero, List.set_cons_succ, List.getElem?_cons_zero, List.getElem?_cons_succ, Option.some.injEq, exists_eq_left', exists_eq_left, exists_and_left, exists_eq', exists_const, V.int.injEq, V.bl.injEq, V.str.injEq, V.ref.injEq, V.ty.injEq, List.cons.injEq, and_true, true_and, reduceCtorEq, false_and, and_false, exists_false, or_false, false_or, decide_eq_true_eq, Bool.not_eq_true', decide_eq_false_iff_not, if_true, if_false, Bool.false_eq_true, ite_true, ite_false, Bool.not_true, Bool.not_false, Nat.reduceAdd, Nat.reduceSub, and_assoc]
      have hpd : p4 ≠ d := fun z => by have := e4 _ _ g2; rw [← z, t4.at_] at this; cases this
      have hkl : kvs.length ≤ 4 := by have := congrArg List.length g3; simp at this; rw [this]; exact len_sub _ _ (ok i).1 (ok i).2
      have hs := after_succ (t := t) hc
      have d4 := e4 _ _ g2
      have k1 := put_keys (h := ((after t col i).2.2 + goT c) % 4) (v := .bl true) g3
      have k2 := put_keys (h := (((after t col i).2.2 + goT c) % 4 + 2) % 4) (v := .bl true) k1
      have kl : (putK kvs (Sum.inl (((after t col i).2.2 + goT c) % 4)) (.bl true)).length ≤ 5 := Nat.le_trans (length_putK _ _ _) (by omega)
      have tat : upd H4 d (.dK (putK kvs (Sum.inl (((after t col i).2.2 + goT c) % 4)) (.bl true))) p4 = some (.tup [.str (sOf [(after t col i).1]), .str (sOf (after t col i).2.1), .int (((after t col i).2.2 + goT c) % 4)]) := by rw [upd_ne hpd]; exact t4.at_
      refine ⟨_, SqT.of t4.at_, _, rfl, _, DPut.k (k := Sum.inl _) d4 (by rw [sizeLine_eq]; omega), _, SqT.of tat, _, rfl, _, rfl, by decide, _, DPut.k (k := Sum.inl _) upd_same (by rw [sizeLine_eq]; omega), ?_, _, upd_same, ?_, p4, rfl, ?_⟩
      · rw [upd_upd]; exact same_keep (g1.trans e4) hd
      · rw [k2]
        show _ = (addH (addH (seenTo t col i) (after t col (i + 1)).2.2) (((after t col (i + 1)).2.2 + 2) % 4)).map Sum.inl
        rw [hs]; rfl
      · rw [hs, upd_upd]
        exact ⟨by rw [upd_ne hpd]; exact t4.at_, t4.lay, t4.four, t4.low, t4.high⟩
    · rintro σ G ⟨pt, v4, kvs, rfl, g1, g2, g3, _⟩
      simp only [rSlL, tSeq, tIfS, tTest, tOp, tVar, tC, tCB, tCons, tNil, tRet, tNext, tAsg, gName, gTup, gCons, gNil, tB, tUn, rU, rI0, rI, tTup, tLst, tCall, tDrop, tIf, tAnd, tOr, tNot, tAndV, tOrV, tNotV, tSl, tPart, tNoPart, tBM, tBM0, rClear, sDPut, tDNewK, rIn, rEq, rNe, scal, rCat, rIx, rIxL, rIxT, rIxS, rAppend, tDGetK, tDInK, L2.start, cxK, cxW, cxKn, cxWn, cpK, cpW, List.map_cons, List.map_nil, List.cons_append, List.nil_append, List.append_nil, List.length_cons, List.length_nil, List.replicate, List.set_cons_zero, List.set_cons_succ, List.getElem?_cons_zero, List.getElem?_cons_succ, Option.some.injEq, exists_eq_left', exists_eq_left, exists_and_left, exists_eq', exists_const, V.int.injEq, V.bl.injEq, V.str.injEq, V.ref.injEq, V.ty.injEq, List.cons.injEq, and_true, true_and, reduceCtorEq, false_and, and_false, exists_false, or_false, false_or, decide_eq_true_eq, Bool.not_eq_true', decide_eq_false_iff_not, if_true, if_false, Bool.false_eq_true, ite_true, ite_false, Bool.not_true, Bool.not_false, Nat.reduceAdd, Nat.reduceSub, and_assoc]
      have hkl := len_sub _ _ (ok col.length).1 (ok col.length).2
      refine ⟨_, g2, _, g3, by have : [(0 : Int), 1, 2, 3].length = 4 := rfl; omega, fun b ns hb hp1 hp2 => ?_⟩
      exact q b ns _ (none_of g1 hb) (g1.trans (same_upd hb)) hp1 hp2 (isL.new (LR.ofI ns) hb)
theorem inV_int {h : Int} {l : List Int} : inV (.int h) (l.map V.int) = decide (h ∈ l) := by
  induction l with
  | nil => rfl
  | cons x r ih =>
    have : inV (.int h) ((x :: r).map V.int) = ((x == h) || inV (.int h) (r.map V.int)) := by
      first | rfl | simp [inV, eqV]
    rw [this, ih]
    by_cases hx : x = h
    · subst hx; simp
    · have hx' : ¬ h = x := fun e => hx e.symm
      simp [hx, hx']
def spSeenL : Sp := fun vs H Q _ => ∃ (p : Addr) (t : T3) (col : List Nat), vs = [.ref p, .str (sOf col)] ∧ isTab H t (.ref p) ∧ (∀ x ∈ col, isTurn x) ∧ ∀ (b : Addr) (ns : List Int) (H' : Hp), H b = none → Same H H' → ns.Perm (seenTo t col col.length) → ns.Pairwise (· ≤ ·) → isL isI H' ns (.ref b) → Q (.ref b) H'
theorem ok_seenL {f : Addr} {fd : FuncData} (F : Fun K "_law_seen" "_law_seen" (tp 32) f fd) (h_sorted : mg "sorted" = none) (C__law_behind : Cal P w K mg base "_law_behind" ["_law_card_here", "_law_turn"] 2 spBehind) : FnOk P w K mg base CX0 3 f fd ["_law_card_here", "_law_turns_here"] spSeenL := by
  have SC : FnScope ["_law_card_here", "_law_turns_here", "_law_out", "_law_turn", "_law_hole"] ["_law_card_here", "_law_turns_here"] (defScope (tp 32)) := ⟨rfl, rfl, rfl, by decide +kernel, rfl, by decide +kernel, by decide +kernel⟩
  refine F.ok SC (fun vs H Q E h => ?_) (fun cdv A outer s H vs Q E hr h => ?_)
  · obtain ⟨p, t, col, rfl, _⟩ := h; rfl
  · obtain ⟨p, t, col, rfl, ⟨p', ep, tb⟩, hT, q⟩ := h
    cases ep
    refine ⟨_, (pss_cons (ps_set (i := 2) SC.nd rfl (by first | exact Or.inl rfl | exact Or.inr rfl) (pe_lst pa_nil))
      (pss_cons (ps_for PassesOwn.never rfl (pi_str (pv 1)) (pg_name (i := 3) SC.nd rfl (by first | exact Or.inl rfl | exact Or.inr rfl)) (pss_cons (ps_set (i := 0) SC.nd rfl (by first | exact Or.inl rfl | exact Or.inr rfl) (pe_cal C__law_behind (hr.mono (by decide)) (by rfl) (pa_cons (pv 0) (pa_cons (pv 3) pa_nil))))
      (pss_one (ps_for PassesOwn.never rfl (pi_listK (K := K) rfl (pe_lst (pa_cons (pe_ix (ix_tupK (K := K) rfl) (pv 0) pe_int (fun _ _ => rfl)) (pa_cons (pe_op op_mod (pe_op op_add (pe_ix (ix_tupK (K := K) rfl) (pv 0) pe_int (fun _ _ => rfl)) pe_int) pe_int) pa_nil)))) (pg_name (i := 4) SC.nd rfl (by first | exact Or.inl rfl | exact Or.inr rfl)) (pss_one (ps_if (pt_cmpR (op_notIn_seqK (K := K) rfl) (pv 4) (pv 2) (by with_unfolding_all rfl)) (pss_one (ps_expr (pe_bmK (K := K) rfl PySem.F.plainAttrs_list PySem.F.slot_list_append PySem.F.type_list_append mt_append (pv 2) (pa_cons (pv 4) pa_nil)))) pss_nil))))))
      (pss_one (ps_ret (pe_callB (call_sorted1 (K := K) rfl) (by rfl) h_sorted PyProof.Rows.boot_sorted (pa_cons (pv 2) pa_nil)))))), ?_⟩
    simp only [rSlL, tSeq, tIfS, tTest, tOp, tVar, tC, tCB, tCons, tNil, tRet, tNext, tAsg, gName, gTup, gCons, gNil, tB, tUn, rU, rI0, rI, tTup, tLst, tCall, tDrop, tIf, tAnd, tOr, tNot, tAndV, tOrV, tNotV, tSl, tPart, tNoPart, tBM, tBM0, rClear, sDPut, tDNewK, rIn, rEq, rNe, scal, rCat, rIx, rIxL, rIxT, rIxS, rAppend, tDGetK, tDInK, L2.start, cxK, cxW, cxKn, cxWn, cpK, cpW, List.map_cons, List.map_nil, List.cons_append, List.nil_append, List.append_nil, List.length_cons, List.length_nil, List.replicate, List.set_cons_zero, List.set_cons_succ, List.getElem?_cons_zero, List.getElem?_cons_succ, Option.some.injEq, exists_eq_left', exists_eq_left, exists_and_left, exists_eq', exists_const, V.int.injEq, V.bl.injEq, V.str.injEq, V.ref.injEq, V.ty.injEq, List.cons.injEq, and_true, true_and, reduceCtorEq, false_and, and_false, exists_false, or_false, false_or, decide_eq_true_eq, Bool.not_eq_true', decide_eq_false_iff_not, if_true, if_false, Bool.false_eq_true, ite_true, ite_false, Bool.not_true, Bool.not_false, Nat.reduceAdd, Nat.reduceSub, and_assoc]
    refine ⟨Nat.zero_le _, fun b hb => ?_⟩
    have ok := fun i => seenTo_ok (t := t) (col := col) (fun i => after_ok tb.low tb.high (i + 1)) i
    have lenL : ∀ l : List Int, l.Nodup → (∀ x ∈ l, x ∈ [(0 : Int), 1, 2, 3]) → l.length ≤ 4 := fun l n m => len_sub l _ n m
    refine ⟨_, rfl, col, rfl, for_str (fun i σ H3 => ∃ (pc : Addr) (v4 v5 : Option V), σ = [some (.ref pc), some (.str (sOf col)), some (.ref b), v4, v5] ∧ Own isI H H3 b (seenTo t col i) ∧ isTab H3 (after t col i) (.ref pc))
      ⟨p, none, none, rfl, .start hb, p, rfl, by rw [show after t col 0 = t by simp [after]]; exact tb.same (same_upd hb)⟩ ?_ ?_⟩
    · rintro i c σ H3 hc ⟨pc, v4, v5, rfl, o, pc', e, tc⟩
      cases e
      have hcT := hT c (List.mem_of_getElem? hc)
      have hs := after_succ (t := t) hc
      simp only [rSlL, tSeq, tIfS, tTest, tOp, tVar, tC, tCB, tCons, tNil, tRet, tNext, tAsg, gName, gTup, gCons, gNil, tB, tUn, rU, rI0, rI, tTup, tLst, tCall, tDrop, tIf, tAnd, tOr, tNot, tAndV, tOrV, tNotV, tSl, tPart, tNoPart, tBM, tBM0, rClear, sDPut, tDNewK, rIn, rEq, rNe, scal, rCat, rIx, rIxL, rIxT, rIxS, rAppend, tDGetK, tDInK, L2.start, cxK, cxW, cxKn, cxWn, cpK, cpW, List.map_cons, List.map_nil, List.cons_append, List.nil_append, List.append_nil, List.length_cons, List.length_nil, List.replicate, List.set_cons_zero, List.set_cons_succ, List.getElem?_cons_zero, List.getElem?_cons_succ, Option.some.injEq, exists_eq_left', exists_eq_left, exists_and_left, exists_eq', exists_const, V.int.injEq, V.bl.injEq, V.str.injEq, V.ref.injEq, V.ty.injEq, List.cons.injEq, and_true, true_and, reduceCtorEq, false_and, and_false, exists_false, or_false, false_or, decide_eq_true_eq, Bool.not_eq_true', decide_eq_false_iff_not, if_true, if_false, Bool.false_eq_true, ite_true, ite_false, Bool.not_true, Bool.not_false, Nat.reduceAdd, Nat.reduceSub, and_assoc]
      refine ⟨pc, _, _, _, c, rfl, tc, hcT, fun p4 H4 e4 t4 => ?_⟩
      simp only [rSlL, tSeq, tIfS, tTest, tOp, tVar, tC, tCB, tCons, tNil, tRet, tNext, tAsg, gName, gTup, gCons, gNil, tB, tUn, rU, rI0, rI, tTup, tLst, tCall, tDrop, tIf, tAnd, tOr, tNot, tAndV, tOrV, tNotV, tSl, tPart, tNoPart, tBM, tBM0, rClear, sDPut, tDNewK, rIn, rEq, rNe, scal, rCat, rIx, rIxL, rIxT, rIxS, rAppend, tDGetK, tDInK, L2.start, cxK, cxW, cxKn, cxWn, cpK, cpW, List.map_cons, List.map_nil, List.cons_append, List.nil_append, List.append_nil, List.length_cons, List.length_nil, List.replicate, List.set_cons_zero, List.set_cons_succ, List.getElem?_cons_zero, List.getElem?_cons_succ, Option.some.injEq, exists_eq_left', exists_eq_left, exists_and_left, exists_eq', exists_const, V.int.injEq, V.bl.injEq, V.str.injEq, V.ref.injEq, V.ty.injEq, List.cons.injEq, and_true, true_and, reduceCtorEq, false_and, and_false, exists_false, or_false, false_or, decide_eq_true_eq, Bool.not_eq_true', decide_eq_false_iff_not, if_true, if_false, Bool.false_eq_true, ite_true, ite_false, Bool.not_true, Bool.not_false, Nat.reduceAdd, Nat.reduceSub, and_assoc]
      have o4 := o.step e4
      have hp4b : p4 ≠ b := fun z => by obtain ⟨_, z1, _⟩ := o4.has; rw [← z, t4.at_] at z1; cases z1
      generalize hst : ((after t col i).2.2 + goT c) % 4 = st at t4
      have hs2 : (after t col (i + 1)).2.2 = st := by rw [hs, ← hst]; rfl
      refine ⟨_, rfl, p4, _, 2, .int st, rfl, rfl, SqT.of t4.at_, rfl, _, rfl, p4, _, 2, .int st, rfl, rfl, SqT.of t4.at_, rfl, st, 2, rfl, rfl, _, 4, rfl, rfl, (show (0 : Int) < 4 by decide), (show 2 ≤ sizeLine by rw [sizeLine_eq]; decide), fun pl hpl => ?_⟩
      have o5 := o4.step (same_upd (o := .lst [.int st, .int ((st + 2) % 4)]) hpl)
      have t5 := t4.same (same_upd (o := .lst [.int st, .int ((st + 2) % 4)]) hpl)
      have hpb : pl ≠ b := fun z => by obtain ⟨_, z1, _⟩ := o4.has; rw [← z, hpl] at z1; cases z1
      have hat : upd H4 pl (.lst [.int st, .int ((st + 2) % 4)]) pl = some (.lst [.int st, .int ((st + 2) % 4)]) := upd_same
      generalize upd H4 pl (.lst [.int st, .int ((st + 2) % 4)]) = H5 at o5 t5 hat ⊢
      have hsnd : ∀ l : List Int, l.Nodup → (∀ x ∈ l, x ∈ [(0 : Int), 1, 2, 3]) → l.length ≤ 4 := lenL
      have n0 := ok i
      have n1 : (addH (seenTo t col i) st).Nodup ∧ ∀ x ∈ addH (seenTo t col i) st, x ∈ [(0 : Int), 1, 2, 3] := ⟨addH_nodup n0.1, addH_in n0.2 ⟨t4.low, t4.high⟩⟩
      refine ⟨pl, rfl, ⟨_, SqL.of hat⟩, for_list (K := K) (a := pl) (xs := [.int st, .int ((st + 2) % 4)]) (fun j σ G => ∃ v5 : Option V, σ = [some (.ref p4), some (.str (sOf col)), some (.ref b), some (.str (sOf [c])), v5] ∧ G pl = some (.lst [.int st, .int ((st + 2) % 4)]) ∧ Tab G p4 (after t col i).1 (after t col i).2.1 st ∧ Own isI H G b (if j = 0 then seenTo t col i else if j = 1 then addH (seenTo t col i) st else addH (addH (seenTo t col i) st) ((st + 2) % 4)))
        ⟨v5, rfl, hat, t5, by rw [if_pos rfl]; exact o5⟩ (fun j σ G _ ⟨_, _, g, _⟩ => SqL.of g) ?_ ?_⟩
      · have step : ∀ (h : Int) (l : List Int) (G : Hp), l.length ≤ 4 → Own isI H G b l → Tab G p4 (after t col i).1 (after t col i).2.1 st → G pl = some (.lst [.int st, .int ((st + 2) % 4)]) → ∃ xs, (SqL K G b xs ∨ SqT K G b xs) ∧ L2.flatV (V.int h) = true ∧ xs.all L2.flatV = true ∧ (inV (.int h) xs = decide (h ∈ l)) ∧ xs.length = l.length ∧ G b = some (.lst xs) ∧ (¬ h ∈ l → Own isI H (upd G b (.lst (xs ++ [.int h]))) b (addH l h) ∧ Tab (upd G b (.lst (xs ++ [.int h]))) p4 (after t col i).1 (after t col i).2.1 st ∧ upd G b (.lst (xs ++ [.int h])) pl = some (.lst [.int st, .int ((st + 2) % 4)])) := by
          intro h l G hl o tb hpl'
          obtain ⟨xs, h1, h2, h3⟩ := o.appO (m := h) (v := .int h) rfl
          obtain ⟨xs', h4, h5⟩ := o.has
          rw [h1] at h4; cases h4
          have hx := h5.int
          refine ⟨xs, .inl (SqL.of h1), rfl, by rw [hx]; simp [L2.flatV], by rw [hx]; exact inV_int, h2, h1, fun hn => ⟨?_, ⟨by rw [upd_ne hp4b]; exact tb.at_, tb.lay, tb.four, tb.low, tb.high⟩, by rw [upd_ne hpb]; exact hpl'⟩⟩
          unfold addH; rw [if_neg hn]; exact h3
        rintro j y σ G hy ⟨v5', rfl, g1, g2, g3⟩
        simp only [rSlL, tSeq, tIfS, tTest, tOp, tVar, tC, tCB, tCons, tNil, tRet, tNext, tAsg, gName, gTup, gCons, gNil, tB, tUn, rU, rI0, rI, tTup, tLst, tCall, tDrop, tIf, tAnd, tOr, tNot, tAndV, tOrV, tNotV, tSl, tPart, tNoPart, tBM, tBM0, rClear, sDPut, tDNewK, rIn, rEq, rNe, scal, rCat, rIx, rIxL, rIxT, rIxS, rAppend, tDGetK, tDInK, L2.start, cxK, cxW, cxKn, cxWn, cpK, cpW, List.map_cons, List.map_nil, List.cons_append, List.nil_append, List.append_nil, List.length_cons, List.length_nil, List.replicate, List.set_cons_zero, List.set_cons_succ, List.getElem?_cons_zero, List.getElem?_cons_succ, Option.some.injEq, exists_eq_left', exists_eq_left, exists_and_left, exists_eq', exists_const, V.int.injEq, V.bl.injEq, V.str.injEq, V.ref.injEq, V.ty.injEq, List.cons.injEq, and_true, true_and, reduceCtorEq, false_and, and_false, exists_false, or_false, false_or, decide_eq_true_eq, Bool.not_eq_true', decide_eq_false_iff_not, if_true, if_false, Bool.false_eq_true, ite_true, ite_false, Bool.not_true, Bool.not_false, Nat.reduceAdd, Nat.reduceSub, and_assoc]
        match j, hy with
        | 0, hy =>
          cases hy
          rw [if_pos rfl] at g3
          obtain ⟨xs, s1, s2, s3, s4, s5, s6, s7⟩ := step st _ G (lenL _ n0.1 n0.2) g3 g2 g1
          refine ⟨_, s1, s2, s3, ?_⟩
          rw [s4]
          have hl := lenL _ n0.1 n0.2
          by_cases hm : st ∈ seenTo t col i
          · rw [decide_eq_true hm, if_neg (by decide)]
            refine ⟨g1, g2, ?_⟩
            rw [if_pos rfl]; unfold addH; rw [if_pos hm]; exact g3
          · rw [decide_eq_false hm, if_pos rfl]
            obtain ⟨z1, z2, z3⟩ := s7 hm
            exact ⟨.inl ⟨rfl, _, SqL.of s6⟩, xs, s6, by rw [sizeLine_eq]; omega, z3, z2, by rw [if_pos rfl]; exact z1⟩
        | 1, hy =>
          cases hy
          rw [if_neg (by decide), if_pos rfl] at g3
          obtain ⟨xs, s1, s2, s3, s4, s5, s6, s7⟩ := step ((st + 2) % 4) _ G (lenL _ n1.1 n1.2) g3 g2 g1
          refine ⟨_, s1, s2, s3, ?_⟩
          rw [s4]
          have hl := lenL _ n1.1 n1.2
          by_cases hm : (st + 2) % 4 ∈ addH (seenTo t col i) st
          · rw [decide_eq_true hm, if_neg (by decide)]
            refine ⟨g1, g2, ?_⟩
            rw [if_neg (by decide)]; rw [show addH (addH (seenTo t col i) st) ((st + 2) % 4) = addH (seenTo t col i) st by rw [addH, if_pos hm]]; exact g3
          · rw [decide_eq_false hm, if_pos rfl]
            obtain ⟨z1, z2, z3⟩ := s7 hm
            exact ⟨.inl ⟨rfl, _, SqL.of s6⟩, xs, s6, by rw [sizeLine_eq]; omega, z3, z2, by rw [if_neg (by decide)]; exact z1⟩
      · rintro σ G ⟨v5', rfl, g1, g2, g3⟩
        refine ⟨p4, _, _, rfl, ?_, p4, rfl, ?_⟩
        · show Own isI H G b (addH (addH (seenTo t col i) (after t col (i + 1)).2.2) (((after t col (i + 1)).2.2 + 2) % 4))
          rw [hs2]; exact g3
        · rw [hs]; show Tab G p4 (after t col i).1 (after t col i).2.1 (((after t col i).2.2 + goT c) % 4)
          rw [hst]; exact g2
    · rintro σ G ⟨pc, v4, v5, rfl, o, _⟩
      simp only [rSlL, tSeq, tIfS, tTest, tOp, tVar, tC, tCB, tCons, tNil, tRet, tNext, tAsg, gName, gTup, gCons, gNil, tB, tUn, rU, rI0, rI, tTup, tLst, tCall, tDrop, tIf, tAnd, tOr, tNot, tAndV, tOrV, tNotV, tSl, tPart, tNoPart, tBM, tBM0, rClear, sDPut, tDNewK, rIn, rEq, rNe, scal, rCat, rIx, rIxL, rIxT, rIxS, rAppend, tDGetK, tDInK, L2.start, cxK, cxW, cxKn, cxWn, cpK, cpW, List.map_cons, List.map_nil, List.cons_append, List.nil_append, List.append_nil, List.length_cons, List.length_nil, List.replicate, List.set_cons_zero, List.set_cons_succ, List.getElem?_cons_zero, List.getElem?_cons_succ, Option.some.injEq, exists_eq_left', exists_eq_left, exists_and_left, exists_eq', exists_const, V.int.injEq, V.bl.injEq, V.str.injEq, V.ref.injEq, V.ty.injEq, List.cons.injEq, and_true, true_and, reduceCtorEq, false_and, and_false, exists_false, or_false, false_or, decide_eq_true_eq, Bool.not_eq_true', decide_eq_false_iff_not, if_true, if_false, Bool.false_eq_true, ite_true, ite_false, Bool.not_true, Bool.not_false, Nat.reduceAdd, Nat.reduceSub, and_assoc]
      obtain ⟨bv, hbv, hbr⟩ := o.has
      refine ⟨seenTo t col col.length, SqL.of (by rw [hbv, hbr.int]), Nat.lt_of_le_of_lt (lenL _ (ok _).1 (ok _).2) (by decide), fun b2 ns hb2 hp1 hp2 => ?_⟩
      exact q b2 ns _ (none_of o.same hb2) (o.same.trans (same_upd hb2)) hp1 hp2 (isL.new (LR.ofI ns) hb2)
end
end Wb

set_option Elab.async false
set_option linter.all false
set_option maxRecDepth 100000
set_option maxHeartbeats 4000000
--ITERS {'_law_turns_here': 'str', 'turns': 'str'}
--VT {'_law_turns_here': 's', 'turns': 's'}
namespace Wb
open PySem L2
section
variable {P : Program} {w : World} {K : PySem.W.Frag} {mg : Str → Option Value} {base : Heap}
def flipL : List Nat → List Nat
  | [a, b, c, d] => [a, d, c, b]
  | l => l
theorem flip_len {l : List Nat} (h : l.length = 4) : (flipL l).length = 4 := by match l, h with | [a, b, c, d], _ => rfl
def oth (y : Nat) : Nat := if y = 83 then 90 else 83
theorem oth_lay {y : Nat} (h : y = 83 ∨ y = 90) : oth y = 83 ∨ oth y = 90 := by rcases h with rfl | rfl; exact .inr rfl; exact .inl rfl
def oppT (t : Nat) : Nat := if t = 102 then 98 else if t = 98 then 102 else t
theorem opp_turn {t : Nat} (h : isTurn t) : isTurn (oppT t) := by rcases h with rfl | rfl | rfl; exact .inr (.inl rfl); exact .inl rfl; exact .inr (.inr rfl)
theorem opp_tw {y t : Nat} (hy : y = 83 ∨ y = 90) (h : isTurn t) : twT (oth y) (oppT t) = twT y t := by rcases hy with rfl | rfl <;> rcases h with rfl | rfl | rfl <;> rfl
theorem opp_go {t : Nat} (h : isTurn t) : goT (oppT t) = - goT t := by rcases h with rfl | rfl | rfl <;> rfl
abbrev dLays : List (Key × V) := [(Sum.inr (Str.ofString "S"), .str (Str.ofString "Z")), (Sum.inr (Str.ofString "Z"), .str (Str.ofString "S"))]
theorem lays_at {y : Nat} (h : y = 83 ∨ y = 90) : valV dLays (Sum.inr (sOf [y])) = some (.str (sOf [oth y])) := by rcases h with rfl | rfl <;> decide +kernel
def spFlipped : Sp := fun vs H Q _ => ∃ (p : Addr) (y : Nat) (l : List Nat) (st : Int), vs = [.ref p] ∧ Tab H p y l st ∧ ∀ (q : Addr) (H' : Hp), Same H H' → Tab H' q (oth y) (flipL l) ((0 - st) % 4) → Q (.ref q) H'
theorem ok_flipped {f : Addr} {fd : FuncData} (F : Fun K "flipped" "flipped" (tp 8) f fd) {tH : Tok} (h_HOLES : mg "HOLES" = some (.int 4 tH)) {dL : Addr} (h_OTHER_LAYS : mg "OTHER_LAYS" = some (.ref dL)) (D : DictK K w dL dLays) : FnOk P w K mg base CX0 1 f fd ["tablet"] spFlipped := by
  have SC : FnScope ["tablet", "lay", "holes", "stand", "mirrored"] ["tablet"] (defScope (tp 8)) := ⟨rfl, rfl, rfl, by decide +kernel, rfl, by decide +kernel, by decide +kernel⟩
  refine F.ok SC (fun vs H Q E h => ?_) (fun cdv A outer s H vs Q E hr h => ?_)
  · obtain ⟨p, y, l, st, rfl, _⟩ := h; rfl
  · obtain ⟨p, y, l, st, rfl, ht, q⟩ := h
    refine ⟨_, (pss_cons (ps_asg (pv 0) (pg_tupK (K := K) (n := 3) rfl rfl (pgs_cons (pg_name (i := 1) SC.nd rfl (by first | exact Or.inl rfl | exact Or.inr rfl)) (pgs_cons (pg_name (i := 2) SC.nd rfl (by first | exact Or.inl rfl | exact Or.inr rfl)) (pgs_cons (pg_name (i := 3) SC.nd rfl (by first | exact Or.inl rfl | exact Or.inr rfl)) pgs_nil)))))
      (pss_cons (ps_set (i := 4) SC.nd rfl (by first | exact Or.inl rfl | exact Or.inr rfl) (pe_op op_add_str (pe_op op_add_str (pe_op op_add_str (pe_ix ix_str (pv 2) pe_int (fun _ _ => rfl)) (pe_ix ix_str (pv 2) pe_int (fun _ _ => rfl))) (pe_ix ix_str (pv 2) pe_int (fun _ _ => rfl))) (pe_ix ix_str (pv 2) pe_int (fun _ _ => rfl))))
      (pss_one (ps_ret (pe_tup (pa_cons (pe_dgetKK (K := K) (w := w) rfl rfl (pe_glob (v := .ref _) (by rfl) h_OTHER_LAYS rfl) (pv 1) (fun _ _ => rfl)) (pa_cons (pv 4) (pa_cons (pe_op op_mod (pe_op op_sub (pe_glob (v := .int 4) (by rfl) h_HOLES ⟨_, rfl⟩) (pv 3)) (pe_glob (v := .int 4) (by rfl) h_HOLES ⟨_, rfl⟩)) pa_nil)))))))), ?_⟩
    simp only [rSlL, tSeq, tIfS, tTest, tOp, tVar, tC, tCB, tCons, tNil, tRet, tNext, tAsg, gName, gTup, gCons, gNil, tB, tUn, rU, rI0, rI, tTup, tLst, tCall, tDrop, tIf, tAnd, tOr, tNot, tAndV, tOrV, tNotV, tSl, tPart, tNoPart, tBM, tBM0, rClear, sDPut, tDNewK, rIn, rEq, rNe, scal, rCat, rIx, rIxL, rIxT, rIxS, rAppend, tDGetK, tDInK, L2.start, cxK, cxW, cxKn, cxWn, cpK, cpW, List.map_cons, List.map_nil, List.cons_append, List.nil_append, List.append_nil, List.length_cons, List.length_nil, List.replicate, List.set_cons_zero, List.set_cons_succ, List.getElem?_cons_zero, List.getElem?_cons_succ, Option.some.injEq, exists_eq_left', exists_eq_left, exists_and_left, exists_eq', exists_const, V.int.injEq, V.bl.injEq, V.str.injEq, V.ref.injEq, V.ty.injEq, List.cons.injEq, and_true, true_and, reduceCtorEq, false_and, and_false, exists_false, or_false, false_or, decide_eq_true_eq, Bool.not_eq_true', decide_eq_false_iff_not, if_true, if_false, Bool.false_eq_true, ite_true, ite_false, Bool.not_true, Bool.not_false, Nat.reduceAdd, Nat.reduceSub, and_assoc]
    refine ⟨_, SqT.of ht.at_, rfl, ?_⟩
    simp only [rSlL, tSeq, tIfS, tTest, tOp, tVar, tC, tCB, tCons, tNil, tRet, tNext, tAsg, gName, gTup, gCons, gNil, tB, tUn, rU, rI0, rI, tTup, tLst, tCall, tDrop, tIf, tAnd, tOr, tNot, tAndV, tOrV, tNotV, tSl, tPart, tNoPart, tBM, tBM0, rClear, sDPut, tDNewK, rIn, rEq, rNe, scal, rCat, rIx, rIxL, rIxT, rIxS, rAppend, tDGetK, tDInK, L2.start, cxK, cxW, cxKn, cxWn, cpK, cpW, List.map_cons, List.map_nil, List.cons_append, List.nil_append, List.append_nil, List.length_cons, List.length_nil, List.replicate, List.set_cons_zero, List.set_cons_succ, List.getElem?_cons_zero, List.getElem?_cons_succ, Option.some.injEq, exists_eq_left', exists_eq_left, exists_and_left, exists_eq', exists_const, V.int.injEq, V.bl.injEq, V.str.injEq, V.ref.injEq, V.ty.injEq, List.cons.injEq, and_true, true_and, reduceCtorEq, false_and, and_false, exists_false, or_false, false_or, decide_eq_true_eq, Bool.not_eq_true', decide_eq_false_iff_not, if_true, if_false, Bool.false_eq_true, ite_true, ite_false, Bool.not_true, Bool.not_false, Nat.reduceAdd, Nat.reduceSub, and_assoc]
    obtain ⟨a, b, c, d, rfl⟩ : ∃ a b c d, l = [a, b, c, d] := by
      have := ht.four
      match l, this with
      | [a, b, c, d], _ => exact ⟨a, b, c, d, rfl⟩
    have z4 : (sOf [a, b, c, d]).length ≤ sizeLine := by rw [sOf_len]; show 4 ≤ sizeLine; rw [sizeLine_eq]; decide
    have z2 : 2 ≤ sizeLine := by rw [sizeLine_eq]; decide
    have z3 : 3 ≤ sizeLine := by rw [sizeLine_eq]; decide
    have z5 : 4 ≤ sizeLine := by rw [sizeLine_eq]; decide
    refine ⟨z4, a, rfl, z4, d, rfl, z2, z4, c, rfl, z3, z4, b, rfl, z5, ?_⟩
    refine ⟨dLays, D, Sum.inr (sOf [y]), rfl, _, lays_at ht.lay, by decide, by decide, fun p2 hp2 => ?_⟩
    refine q p2 _ (same_upd hp2) ⟨?_, oth_lay ht.lay, rfl, Int.emod_nonneg _ (by decide), Int.emod_lt_of_pos _ (by decide)⟩
    rw [upd_same, show (4 - st) % 4 = (0 - st) % 4 by omega]
    rfl
theorem zs_at {y : Nat} (h : y = 83 ∨ y = 90) : 0 ≤ Txt.find (Str.ofString "SZ") (sOf [y]) ∧ atI (Str.ofString "ZS").cps.toList (Txt.find (Str.ofString "SZ") (sOf [y])) = some (oth y) := by rcases h with rfl | rfl <;> decide +kernel
theorem ok_turnover {f : Addr} {fd : FuncData} (F : Fun K "_law_turnover" "_law_turnover" (tp 29) f fd) : FnOk P w K mg base CX0 1 f fd ["_law_card_here"] spFlipped := by
  have SC : FnScope ["_law_card_here", "_law_holes_here"] ["_law_card_here"] (defScope (tp 29)) := ⟨rfl, rfl, rfl, by decide +kernel, rfl, by decide +kernel, by decide +kernel⟩
  refine F.ok SC (fun vs H Q E h => ?_) (fun cdv A outer s H vs Q E hr h => ?_)
  · obtain ⟨p, y, l, st, rfl, _⟩ := h; rfl
  · obtain ⟨p, y, l, st, rfl, ht, q⟩ := h
    refine ⟨_, (pss_cons (ps_set (i := 1) SC.nd rfl (by first | exact Or.inl rfl | exact Or.inr rfl) (pe_ix (ix_tupK (K := K) rfl) (pv 0) pe_int (fun _ _ => rfl)))
      (pss_one (ps_ret (pe_tup (pa_cons (pe_ix ix_str pe_str (pe_bmK (K := K) rfl PySem.F.plainAttrs_str PySem.F.slot_str_index PySem.F.type_str_index (mt_index rfl) pe_str (pa_cons (pe_ix (ix_tupK (K := K) rfl) (pv 0) pe_int (fun _ _ => rfl)) pa_nil)) (fun _ _ => rfl)) (pa_cons (pe_op op_add_str (pe_op op_add_str (pe_op op_add_str (pe_ix ix_str (pv 1) pe_int (fun _ _ => rfl)) (pe_ix ix_str (pv 1) pe_int (fun _ _ => rfl))) (pe_ix ix_str (pv 1) pe_int (fun _ _ => rfl))) (pe_ix ix_str (pv 1) pe_int (fun _ _ => rfl))) (pa_cons (pe_op op_mod (pe_op op_sub pe_int (pe_ix (ix_tupK (K := K) rfl) (pv 0) pe_int (fun _ _ => rfl))) pe_int) pa_nil))))))), ?_⟩
    simp only [rSlL, tSeq, tIfS, tTest, tOp, tVar, tC, tCB, tCons, tNil, tRet, tNext, tAsg, gName, gTup, gCons, gNil, tB, tUn, rU, rI0, rI, tTup, tLst, tCall, tDrop, tIf, tAnd, tOr, tNot, tAndV, tOrV, tNotV, tSl, tPart, tNoPart, tBM, tBM0, rClear, sDPut, tDNewK, rIn, rEq, rNe, scal, rCat, rIx, rIxL, rIxT, rIxS, rAppend, tDGetK, tDInK, L2.start, cxK, cxW, cxKn, cxWn, cpK, cpW, List.map_cons, List.map_nil, List.cons_append, List.nil_append, List.append_nil, List.length_cons, List.length_nil, List.replicate, List.set_cons_zero, List.set_cons_succ, List.getElem?_cons_zero, List.getElem?_cons_succ, Option.some.injEq, exists_eq_left', exists_eq_left, exists_and_left, exists_eq', exists_const, V.int.injEq, V.bl.injEq, V.str.injEq, V.ref.injEq, V.ty.injEq, List.cons.injEq, and_true, true_and, reduceCtorEq, false_and, and_false, exists_false, or_false, false_or, decide_eq_true_eq, Bool.not_eq_true', decide_eq_false_iff_not, if_true, if_false, Bool.false_eq_true, ite_true, ite_false, Bool.not_true, Bool.not_false, Nat.reduceAdd, Nat.reduceSub, and_assoc]
    obtain ⟨a, b, c, d, rfl⟩ : ∃ a b c d, l = [a, b, c, d] := by
      have := ht.four
      match l, this with
      | [a, b, c, d], _ => exact ⟨a, b, c, d, rfl⟩
    have z4 : (sOf [a, b, c, d]).length ≤ sizeLine := by rw [sOf_len]; show 4 ≤ sizeLine; rw [sizeLine_eq]; decide
    have z2 : 2 ≤ sizeLine := by rw [sizeLine_eq]; decide
    have z3 : 3 ≤ sizeLine := by rw [sizeLine_eq]; decide
    have z5 : 4 ≤ sizeLine := by rw [sizeLine_eq]; decide
    refine ⟨_, SqT.of ht.at_, V.str (sOf [a, b, c, d]), rfl, ?_⟩
    refine ⟨rfl, _, SqT.of ht.at_, V.str (sOf [y]), rfl, ?_⟩
    simp only [rSlL, tSeq, tIfS, tTest, tOp, tVar, tC, tCB, tCons, tNil, tRet, tNext, tAsg, gName, gTup, gCons, gNil, tB, tUn, rU, rI0, rI, tTup, tLst, tCall, tDrop, tIf, tAnd, tOr, tNot, tAndV, tOrV, tNotV, tSl, tPart, tNoPart, tBM, tBM0, rClear, sDPut, tDNewK, rIn, rEq, rNe, scal, rCat, rIx, rIxL, rIxT, rIxS, rAppend, tDGetK, tDInK, L2.start, cxK, cxW, cxKn, cxWn, cpK, cpW, List.map_cons, List.map_nil, List.cons_append, List.nil_append, List.append_nil, List.length_cons, List.length_nil, List.replicate, List.set_cons_zero, List.set_cons_succ, List.getElem?_cons_zero, List.getElem?_cons_succ, Option.some.injEq, exists_eq_left', exists_eq_left, exists_and_left, exists_eq', exists_const, V.int.injEq, V.bl.injEq, V.str.injEq, V.ref.injEq, V.ty.injEq, List.cons.injEq, and_true, true_and, reduceCtorEq, false_and, and_false, exists_false, or_false, false_or, decide_eq_true_eq, Bool.not_eq_true', decide_eq_false_iff_not, if_true, if_false, Bool.false_eq_true, ite_true, ite_false, Bool.not_true, Bool.not_false, Nat.reduceAdd, Nat.reduceSub, and_assoc]
    refine ⟨(zs_at ht.lay).1, by decide +kernel, _, (zs_at ht.lay).2, z4, a, rfl, z4, d, rfl, z2, z4, c, rfl, z3, z4, b, rfl, z5, _, SqT.of ht.at_, V.int st, rfl, ?_⟩
    simp only [rSlL, tSeq, tIfS, tTest, tOp, tVar, tC, tCB, tCons, tNil, tRet, tNext, tAsg, gName, gTup, gCons, gNil, tB, tUn, rU, rI0, rI, tTup, tLst, tCall, tDrop, tIf, tAnd, tOr, tNot, tAndV, tOrV, tNotV, tSl, tPart, tNoPart, tBM, tBM0, rClear, sDPut, tDNewK, rIn, rEq, rNe, scal, rCat, rIx, rIxL, rIxT, rIxS, rAppend, tDGetK, tDInK, L2.start, cxK, cxW, cxKn, cxWn, cpK, cpW, List.map_cons, List.map_nil, List.cons_append, List.nil_append, List.append_nil, List.length_cons, List.length_nil, List.replicate, List.set_cons_zero, List.set_cons_succ, List.getElem?_cons_zero, List.getElem?_cons_succ, Option.some.injEq, exists_eq_left', exists_eq_left, exists_and_left, exists_eq', exists_const, V.int.injEq, V.bl.injEq, V.str.injEq, V.ref.injEq, V.ty.injEq, List.cons.injEq, and_true, true_and, reduceCtorEq, false_and, and_false, exists_false, or_false, false_or, decide_eq_true_eq, Bool.not_eq_true', decide_eq_false_iff_not, if_true, if_false, Bool.false_eq_true, ite_true, ite_false, Bool.not_true, Bool.not_false, Nat.reduceAdd, Nat.reduceSub, and_assoc]
    refine ⟨by decide, by decide, fun p2 hp2 => ?_⟩
    refine q p2 _ (same_upd hp2) ⟨?_, oth_lay ht.lay, rfl, Int.emod_nonneg _ (by decide), Int.emod_lt_of_pos _ (by decide)⟩
    rw [upd_same]
    rfl
def spOpp : Sp := fun vs H Q _ => ∃ (l : List Nat), vs = [.str (sOf l)] ∧ l.length ≤ 300 ∧ (∀ x ∈ l, isTurn x) ∧ ∀ H', Same H H' → Q (.str (sOf (l.map oppT))) H'
theorem fib_at {t : Nat} (h : isTurn t) : 0 ≤ Txt.find (Str.ofString "bif") (sOf [t]) ∧ atI (Str.ofString "fib").cps.toList (Txt.find (Str.ofString "bif") (sOf [t])) = some (oppT t) := by rcases h with rfl | rfl | rfl <;> decide +kernel
theorem take_opp {l : List Nat} {i c : Nat} (h : l[i]? = some c) : (l.take i).map oppT ++ [oppT c] = (l.take (i + 1)).map oppT := by
  rw [List.take_add_one, h]; simp
theorem ok_back {f : Addr} {fd : FuncData} (F : Fun K "_law_back" "_law_back" (tp 30) f fd) : FnOk P w K mg base CX0 1 f fd ["_law_turns_here"] spOpp := by
  have SC : FnScope ["_law_turns_here"] ["_law_turns_here"] (defScope (tp 30)) := ⟨rfl, rfl, rfl, by decide +kernel, rfl, by decide +kernel, by decide +kernel⟩
  refine F.ok SC (fun vs H Q E h => ?_) (fun cdv A outer s H vs Q E hr h => ?_)
  · obtain ⟨l, rfl, _⟩ := h; rfl
  · obtain ⟨l, rfl, hl, ht, q⟩ := h
    refine ⟨_, (pss_one (ps_ret (pe_bmK (K := K) rfl PySem.F.plainAttrs_str PySem.F.slot_str_join PySem.F.type_str_join (mt_joinK (K := K) rfl) pe_str (pa_cons (pe_comp (N := ["_law_turn"]) (cap := [none]) (mkCS rfl (by decide +kernel) rfl (by decide +kernel) (by rfl) (by rfl)) rfl (pi_str (pv 0)) (fun _ _ _ _ => (pg_name (i := 0) (show List.Nodup (["_law_turn"] : List Str) by decide +kernel) rfl (by first | exact Or.inl rfl | exact Or.inr rfl))) (fun _ _ _ _ => pts_nil) (fun _ _ _ _ => (pe_ix ix_str pe_str (pe_bmK (K := K) rfl PySem.F.plainAttrs_str PySem.F.slot_str_index PySem.F.type_str_index (mt_index rfl) pe_str (pa_cons (pv 0) pa_nil)) (fun _ _ => rfl)))) pa_nil)))), ?_⟩
    simp only [rSlL, tSeq, tIfS, tTest, tOp, tVar, tC, tCB, tCons, tNil, tRet, tNext, tAsg, gName, gTup, gCons, gNil, tB, tUn, rU, rI0, rI, tTup, tLst, tCall, tDrop, tIf, tAnd, tOr, tNot, tAndV, tOrV, tNotV, tSl, tPart, tNoPart, tBM, tBM0, rClear, sDPut, tDNewK, rIn, rEq, rNe, scal, rCat, rIx, rIxL, rIxT, rIxS, rAppend, tDGetK, tDInK, L2.start, cxK, cxW, cxKn, cxWn, cpK, cpW, List.map_cons, List.map_nil, List.cons_append, List.nil_append, List.append_nil, List.length_cons, List.length_nil, List.replicate, List.set_cons_zero, List.set_cons_succ, List.getElem?_cons_zero, List.getElem?_cons_succ, Option.some.injEq, exists_eq_left', exists_eq_left, exists_and_left, exists_eq', exists_const, V.int.injEq, V.bl.injEq, V.str.injEq, V.ref.injEq, V.ty.injEq, List.cons.injEq, and_true, true_and, reduceCtorEq, false_and, and_false, exists_false, or_false, false_or, decide_eq_true_eq, Bool.not_eq_true', decide_eq_false_iff_not, if_true, if_false, Bool.false_eq_true, ite_true, ite_false, Bool.not_true, Bool.not_false, Nat.reduceAdd, Nat.reduceSub, and_assoc]
    refine ⟨rfl, _, rfl, l, rfl, comp_str (by omega) (fun i ys H3 => H3 = H ∧ ys = ((l.take i).map oppT).map (fun z => V.str (sOf [z])) ∧ i ≤ l.length) ⟨rfl, rfl, Nat.zero_le _⟩ (fun i ys H3 ⟨_, h2, h3⟩ => by rw [h2, List.length_map, List.length_map, List.length_take]; omega) ?_ ?_⟩
    · rintro i c ys H3 hi ⟨rfl, rfl, hle⟩
      have hT := ht c (List.mem_of_getElem? hi)
      have hlt := (List.getElem?_eq_some_iff.mp hi).1
      simp only [capSt, tYes, Option.bind, id, Keep, rSlL, tSeq, tIfS, tTest, tOp, tVar, tC, tCB, tCons, tNil, tRet, tNext, tAsg, gName, gTup, gCons, gNil, tB, tUn, rU, rI0, rI, tTup, tLst, tCall, tDrop, tIf, tAnd, tOr, tNot, tAndV, tOrV, tNotV, tSl, tPart, tNoPart, tBM, tBM0, rClear, sDPut, tDNewK, rIn, rEq, rNe, scal, rCat, rIx, rIxL, rIxT, rIxS, rAppend, tDGetK, tDInK, L2.start, cxK, cxW, cxKn, cxWn, cpK, cpW, List.map_cons, List.map_nil, List.cons_append, List.nil_append, List.append_nil, List.length_cons, List.length_nil, List.replicate, List.set_cons_zero, List.set_cons_succ, List.getElem?_cons_zero, List.getElem?_cons_succ, Option.some.injEq, exists_eq_left', exists_eq_left, exists_and_left, exists_eq', exists_const, V.int.injEq, V.bl.injEq, V.str.injEq, V.ref.injEq, V.ty.injEq, List.cons.injEq, and_true, true_and, reduceCtorEq, false_and, and_false, exists_false, or_false, false_or, decide_eq_true_eq, Bool.not_eq_true', decide_eq_false_iff_not, if_true, if_false, Bool.false_eq_true, ite_true, ite_false, Bool.not_true, Bool.not_false, Nat.reduceAdd, Nat.reduceSub, and_assoc]
      refine ⟨rfl, (fib_at hT).1, by decide +kernel, _, (fib_at hT).2, ?_, by omega⟩
      rw [← take_opp hi, List.map_append]; rfl
    · rintro ys H3 ⟨rfl, rfl, _⟩ E hE
      rw [List.take_length]
      refine ⟨ofS "" [] (by decide +kernel), E, rfl, (l.map oppT).map fun z => [z], SqL.of (by rw [upd_same, List.map_map (f := fun z => [z])]; rfl), ?_, ?_⟩
      · rw [flat1, List.length_map]; omega
      · rw [flat1]; exact q _ (same_upd hE)
/-- the holes carried on by n -/
def rollL (l : List Nat) (n : Int) : List Nat := cutN l (some (-n % 4)) none ++ cutN l none (some (-n % 4))
def spRolled : Sp := fun vs H Q _ => ∃ (p : Addr) (y : Nat) (l : List Nat) (st n : Int), vs = [.ref p, .int n] ∧ Tab H p y l st ∧ ∀ (q : Addr) (H' : Hp), Same H H' → Tab H' q y (rollL l n) ((st + n) % 4) → Q (.ref q) H'
theorem roll_len {l : List Nat} {n : Int} (h : l.length = 4) : (rollL l n).length = 4 := by
  match l, h with
  | [a, b, c, d], _ =>
    have h0 := Int.emod_nonneg (-n) (show (4 : Int) ≠ 0 by decide)
    have h1 := Int.emod_lt_of_pos (-n) (show (0 : Int) < 4 by decide)
    unfold rollL
    generalize -n % 4 = r at h0 h1
    have : r = 0 ∨ r = 1 ∨ r = 2 ∨ r = 3 := by omega
    rcases this with h | h | h | h <;> subst h <;> rfl
theorem ok_rolled {f : Addr} {fd : FuncData} (F : Fun K "rolled" "rolled" (tp 9) f fd) {tH : Tok} (h_HOLES : mg "HOLES" = some (.int 4 tH)) : FnOk P w K mg base CX0 1 f fd ["tablet", "many"] spRolled := by
  have SC : FnScope ["tablet", "many", "lay", "holes", "stand", "cut"] ["tablet", "many"] (defScope (tp 9)) := ⟨rfl, rfl, rfl, by decide +kernel, rfl, by decide +kernel, by decide +kernel⟩
  refine F.ok SC (fun vs H Q E h => ?_) (fun cdv A outer s H vs Q E hr h => ?_)
  · obtain ⟨p, y, l, st, n, rfl, _⟩ := h; rfl
  · obtain ⟨p, y, l, st, n, rfl, ht, q⟩ := h
    refine ⟨_, (pss_cons (ps_asg (pv 0) (pg_tupK (K := K) (n := 3) rfl rfl (pgs_cons (pg_name (i := 2) SC.nd rfl (by first | exact Or.inl rfl | exact Or.inr rfl)) (pgs_cons (pg_name (i := 3) SC.nd rfl (by first | exact Or.inl rfl | exact Or.inr rfl)) (pgs_cons (pg_name (i := 4) SC.nd rfl (by first | exact Or.inl rfl | exact Or.inr rfl)) pgs_nil)))))
      (pss_cons (ps_set (i := 5) SC.nd rfl (by first | exact Or.inl rfl | exact Or.inr rfl) (pe_op op_mod (pe_un un_neg (pv 1)) (pe_glob (v := .int 4) (by rfl) h_HOLES ⟨_, rfl⟩)))
      (pss_one (ps_ret (pe_tup (pa_cons (pv 2) (pa_cons (pe_op op_add_str (pe_slice sl_str (pv 3) (po_some (pv 5)) po_none) (pe_slice sl_str (pv 3) po_none (po_some (pv 5)))) (pa_cons (pe_op op_mod (pe_op op_add (pv 4) (pv 1)) (pe_glob (v := .int 4) (by rfl) h_HOLES ⟨_, rfl⟩)) pa_nil)))))))), ?_⟩
    simp only [rSlL, tSeq, tIfS, tTest, tOp, tVar, tC, tCB, tCons, tNil, tRet, tNext, tAsg, gName, gTup, gCons, gNil, tB, tUn, rU, rI0, rI, tTup, tLst, tCall, tDrop, tIf, tAnd, tOr, tNot, tAndV, tOrV, tNotV, tSl, tPart, tNoPart, tBM, tBM0, rClear, sDPut, tDNewK, rIn, rEq, rNe, scal, rCat, rIx, rIxL, rIxT, rIxS, rAppend, tDGetK, tDInK, L2.start, cxK, cxW, cxKn, cxWn, cpK, cpW, List.map_cons, List.map_nil, List.cons_append, List.nil_append, List.append_nil, List.length_cons, List.length_nil, List.replicate, List.set_cons_zero, List.set_cons_succ, List.getElem?_cons_zero, List.getElem?_cons_succ, Option.some.injEq, exists_eq_left', exists_eq_left, exists_and_left, exists_eq', exists_const, V.int.injEq, V.bl.injEq, V.str.injEq, V.ref.injEq, V.ty.injEq, List.cons.injEq, and_true, true_and, reduceCtorEq, false_and, and_false, exists_false, or_false, false_or, decide_eq_true_eq, Bool.not_eq_true', decide_eq_false_iff_not, if_true, if_false, Bool.false_eq_true, ite_true, ite_false, Bool.not_true, Bool.not_false, Nat.reduceAdd, Nat.reduceSub, and_assoc]
    refine ⟨_, SqT.of ht.at_, rfl, ?_⟩
    simp only [rSlL, tSeq, tIfS, tTest, tOp, tVar, tC, tCB, tCons, tNil, tRet, tNext, tAsg, gName, gTup, gCons, gNil, tB, tUn, rU, rI0, rI, tTup, tLst, tCall, tDrop, tIf, tAnd, tOr, tNot, tAndV, tOrV, tNotV, tSl, tPart, tNoPart, tBM, tBM0, rClear, sDPut, tDNewK, rIn, rEq, rNe, scal, rCat, rIx, rIxL, rIxT, rIxS, rAppend, tDGetK, tDInK, L2.start, cxK, cxW, cxKn, cxWn, cpK, cpW, List.map_cons, List.map_nil, List.cons_append, List.nil_append, List.append_nil, List.length_cons, List.length_nil, List.replicate, List.set_cons_zero, List.set_cons_succ, List.getElem?_cons_zero, List.getElem?_cons_succ, Option.some.injEq, exists_eq_left', exists_eq_left, exists_and_left, exists_eq', exists_const, V.int.injEq, V.bl.injEq, V.str.injEq, V.ref.injEq, V.ty.injEq, List.cons.injEq, and_true, true_and, reduceCtorEq, false_and, and_false, exists_false, or_false, false_or, decide_eq_true_eq, Bool.not_eq_true', decide_eq_false_iff_not, if_true, if_false, Bool.false_eq_true, ite_true, ite_false, Bool.not_true, Bool.not_false, Nat.reduceAdd, Nat.reduceSub, and_assoc]
    refine ⟨by decide, l, rfl, by rw [sizeLine_eq, ht.four]; decide, l, rfl, by rw [sizeLine_eq, ht.four]; decide, ?_, by decide, by decide, fun p2 hp2 => ?_⟩
    · rw [sOf_len, sOf_len]
      have := roll_len (n := n) ht.four
      unfold rollL at this
      rw [List.length_append] at this
      rw [this]; decide
    · rw [sOf_append]
      exact q p2 _ (same_upd hp2) ⟨upd_same, ht.lay, roll_len ht.four, Int.emod_nonneg _ (by decide), Int.emod_lt_of_pos _ (by decide)⟩

end
end Wb

set_option Elab.async false
set_option linter.all false
set_option maxRecDepth 100000
set_option maxHeartbeats 4000000
--ITERS {'_law_turns_here': 'str', 'turns': 'str', 'left_by(strand)': 'list'}
--VT {'_law_turns_here': 's', 'turns': 's', 'seen.shown': 'dict', 'plain.shown': 'li', 'strand': 'tup', 'holes': 's', 'signs': 's', 'hole': 'i', '_law_out': 'li', '_law_roll._law_many': 'i', 'slants': 's'}
namespace Wb
open PySem L2
section
variable {P : Program} {w : World} {K : PySem.W.Frag} {mg : Str → Option Value} {base : Heap}
/-! the holes seen, by sums of goings -/
def gs (col : List Nat) (i : Nat) : Int := ((col.take i).map goT).sum
theorem after_gs (t : T3) (col : List Nat) : ∀ i, i < col.length → (after t col (i + 1)).2.2 = (t.2.2 + gs col (i + 1)) % 4
  | 0, h => by
    have hc : col[0]? = some col[0] := by simp
    rw [after_succ hc]
    unfold gs
    rw [List.take_succ, hc]
    simp [tTurn, after]
  | i + 1, h => by
    have hc : col[i + 1]? = some col[i + 1] := by simp [h]
    have ih := after_gs t col i (by omega)
    rw [after_succ hc]
    show ((after t col (i + 1)).2.2 + goT col[i + 1]) % 4 = _
    have e : gs col (i + 1 + 1) = gs col (i + 1) + goT col[i + 1] := by
      unfold gs; rw [List.take_succ (i := i + 1), hc, List.map_append, List.sum_append]
      show _ + ([goT col[i + 1]].sum) = _
      rw [List.sum_cons, List.sum_nil, Int.add_zero]
    rw [ih, e]; omega
theorem mem_addH {l : List Int} {h x : Int} : x ∈ addH l h ↔ x ∈ l ∨ x = h := by
  unfold addH; split
  · exact ⟨.inl, fun z => by rcases z with z | z; exact z; rw [z]; assumption⟩
  · simp
theorem mem_seen (t : T3) (col : List Nat) (x : Int) : ∀ n, n ≤ col.length → (x ∈ seenTo t col n ↔ ∃ i, i < n ∧ (x = (t.2.2 + gs col (i + 1)) % 4 ∨ x = (t.2.2 + gs col (i + 1) + 2) % 4))
  | 0, _ => by simp [seenTo]
  | n + 1, h => by
    have ih := mem_seen t col x n (by omega)
    show x ∈ addH (addH (seenTo t col n) (after t col (n + 1)).2.2) (((after t col (n + 1)).2.2 + 2) % 4) ↔ _
    rw [mem_addH, mem_addH, ih, after_gs t col n (by omega)]
    constructor
    · rintro ((⟨i, h1, h2⟩ | h2) | h2)
      · exact ⟨i, by omega, h2⟩
      · exact ⟨n, by omega, .inl h2⟩
      · exact ⟨n, by omega, .inr (by omega)⟩
    · rintro ⟨i, h1, h2⟩
      by_cases hi : i = n
      · subst hi
        rcases h2 with h2 | h2
        · exact .inl (.inr h2)
        · exact .inr (by omega)
      · exact .inl (.inl ⟨i, by omega, h2⟩)
theorem gs_opp {col : List Nat} (hT : ∀ x ∈ col, isTurn x) (i : Nat) : gs (col.map oppT) i = - gs col i := by
  unfold gs
  rw [← List.map_take]
  have h : ∀ x ∈ col.take i, isTurn x := fun x hx => hT x (List.mem_of_mem_take hx)
  generalize col.take i = l at h
  induction l with
  | nil => rfl
  | cons a r ih => simp only [List.map_cons, List.sum_cons]; rw [ih fun x hx => h x (by simp [hx]), opp_go (h a (by simp))]; omega
theorem roll_at {l : List Nat} {n : Int} {k : Nat} (h : l.length = 4) (hk : k < 4) : (rollL l n)[k]? = l[((k - n) % 4).toNat]? := by
  match l, h with
  | [a, b, c, d], _ =>
    have h0 := Int.emod_nonneg (-n) (show (4 : Int) ≠ 0 by decide)
    have h1 := Int.emod_lt_of_pos (-n) (show (0 : Int) < 4 by decide)
    have e : ((k : Int) - n) % 4 = (k + (-n % 4)) % 4 := by omega
    rw [e]
    unfold rollL
    generalize -n % 4 = r at h0 h1
    have z1 : r = 0 ∨ r = 1 ∨ r = 2 ∨ r = 3 := by omega
    have z2 : k = 0 ∨ k = 1 ∨ k = 2 ∨ k = 3 := by omega
    clear e
    rcases z1 with h | h | h | h <;> subst h <;> rcases z2 with h | h | h | h <;> subst h <;> rfl
theorem flip_at {l : List Nat} {k : Nat} (h : l.length = 4) (hk : k < 4) : (flipL l)[k]? = l[((0 - (k : Int)) % 4).toNat]? := by
  match l, h with
  | [a, b, c, d], _ =>
    have : k = 0 ∨ k = 1 ∨ k = 2 ∨ k = 3 := by omega
    rcases this with h | h | h | h <;> subst h <;> rfl
def maskOf (l : List Nat) (S : List Int) : List Nat := rng 4 fun k => if (k : Int) ∈ S then l[k]?.getD 0 else 63
theorem mask_len {l : List Nat} {S : List Int} : (maskOf l S).length = 4 := rng_len
def plainOf (t : T3) (col : List Nat) : List Nat := if t.1 = 83 then rollL (maskOf t.2.1 (seenTo t col col.length)) (-t.2.2) else rollL (flipL (maskOf t.2.1 (seenTo t col col.length))) (-((0 - t.2.2) % 4))
def slantsOf (t : T3) (col : List Nat) : List Nat := rng col.length fun i => (place t col i).2.2
def rollA (l : List Nat) (n : Int) : List Nat := rng 4 fun k => l[((k - n) % 4).toNat]?.getD 0
/-- what the law lays against it -/
def baseOf (t : T3) : T3 := if t.1 = 83 then (t.1, rollA t.2.1 (0 - t.2.2), (t.2.2 + (0 - t.2.2)) % 4) else (oth t.1, rollA (flipL t.2.1) (0 - (0 - t.2.2) % 4), ((0 - t.2.2) % 4 + (0 - (0 - t.2.2) % 4)) % 4)
def wayOf (t : T3) (col : List Nat) : List Nat := if t.1 = 83 then col else col.map oppT
theorem plain_eq {t : T3} {col : List Nat} (h4 : t.2.1.length = 4) (hT : ∀ x ∈ col, isTurn x) : plainOf t col = maskOf (baseOf t).2.1 (seenTo (baseOf t) (wayOf t col) (wayOf t col).length) := by
  have hm : ∀ {S : List Int} {j : Int}, 0 ≤ j → j < 4 → (maskOf t.2.1 S)[j.toNat]? = some (if j ∈ S then t.2.1[j.toNat]?.getD 0 else 63) := fun {S j} h0 h1 => by
    unfold maskOf; rw [rng_get (by omega), Int.toNat_of_nonneg h0]
  unfold plainOf baseOf wayOf
  by_cases hS : t.1 = 83
  · rw [if_pos hS, if_pos hS, if_pos hS]
    refine ext4 (roll_len mask_len) mask_len fun k hk => ?_
    rw [roll_at mask_len hk, hm (Int.emod_nonneg _ (by decide)) (Int.emod_lt_of_pos _ (by decide))]
    unfold maskOf
    rw [rng_get hk]
    have e1 : (rollA t.2.1 (0 - t.2.2))[k]?.getD 0 = t.2.1[(((k : Int) - -t.2.2) % 4).toNat]?.getD 0 := by
      unfold rollA; rw [rng_get hk, show ((k : Int) - (0 - t.2.2)) % 4 = ((k : Int) - -t.2.2) % 4 by omega]; rfl
    have e2 : ((k : Int) - -t.2.2) % 4 ∈ seenTo t col col.length ↔ (k : Int) ∈ seenTo (t.1, rollA t.2.1 (0 - t.2.2), (t.2.2 + (0 - t.2.2)) % 4) col col.length := by
      rw [mem_seen _ _ _ _ (Nat.le_refl _), mem_seen _ _ _ _ (Nat.le_refl _)]
      constructor <;> rintro ⟨i, h1, h2⟩ <;> refine ⟨i, h1, ?_⟩ <;> simp only at h2 ⊢ <;> omega
    simp only [e1, e2]
  · rw [if_neg hS, if_neg hS, if_neg hS]
    refine ext4 (roll_len (flip_len mask_len)) mask_len fun k hk => ?_
    have hk' := Int.emod_nonneg ((k : Int) - -((0 - t.2.2) % 4)) (show (4 : Int) ≠ 0 by decide)
    have hk'' := Int.emod_lt_of_pos ((k : Int) - -((0 - t.2.2) % 4)) (show (0 : Int) < 4 by decide)
    rw [roll_at (flip_len mask_len) hk, flip_at mask_len (by omega), Int.toNat_of_nonneg hk', hm (Int.emod_nonneg _ (by decide)) (Int.emod_lt_of_pos _ (by decide))]
    unfold maskOf
    rw [rng_get hk, List.length_map]
    have e1 : (rollA (flipL t.2.1) (0 - (0 - t.2.2) % 4))[k]?.getD 0 = t.2.1[((0 - ((k : Int) - -((0 - t.2.2) % 4)) % 4) % 4).toNat]?.getD 0 := by
      unfold rollA; rw [rng_get hk, show ((k : Int) - (0 - (0 - t.2.2) % 4)) % 4 = ((k : Int) - -((0 - t.2.2) % 4)) % 4 by omega, flip_at h4 (by omega), Int.toNat_of_nonneg hk']; rfl
    have e2 : (0 - ((k : Int) - -((0 - t.2.2) % 4)) % 4) % 4 ∈ seenTo t col col.length ↔ (k : Int) ∈ seenTo (oth t.1, rollA (flipL t.2.1) (0 - (0 - t.2.2) % 4), ((0 - t.2.2) % 4 + (0 - (0 - t.2.2) % 4)) % 4) (col.map oppT) col.length := by
      rw [mem_seen _ _ _ _ (Nat.le_refl _), mem_seen _ _ _ _ (by rw [List.length_map]; exact Nat.le_refl _)]
      constructor <;> rintro ⟨i, h1, h2⟩ <;> refine ⟨i, h1, ?_⟩ <;> simp only [gs_opp hT] at h2 ⊢ <;> omega
    simp only [e1, e2]
end
end Wb

set_option Elab.async false
set_option linter.all false
set_option maxRecDepth 100000
set_option maxHeartbeats 4000000
--ITERS {'_law_turns_here': 'str', 'turns': 'str', 'left_by(strand)': 'list'}
--VT {'_law_turns_here': 's', 'turns': 's', 'seen.shown': 'dict', 'plain.shown': 'li', 'strand': 'tup', 'holes': 's', 'signs': 's', 'hole': 'i', '_law_out': 'li', '_law_roll._law_many': 'i', 'slants': 's'}
namespace Wb
open PySem L2
section
variable {P : Program} {w : World} {K : PySem.W.Frag} {mg : Str → Option Value} {base : Heap}
def spRollL : Sp := fun vs H Q _ => ∃ (p : Addr) (y : Nat) (l : List Nat) (st n : Int), vs = [.ref p, .int n] ∧ Tab H p y l st ∧ ∀ (q : Addr) (H' : Hp), Same H H' → Tab H' q y (rollA l n) ((st + n) % 4) → Q (.ref q) H'
theorem ok_rollL {f : Addr} {fd : FuncData} (F : Fun K "_law_roll" "_law_roll" (tp 31) f fd) (h_range : mg "range" = none) : FnOk P w K mg base CX0 1 f fd ["_law_card_here", "_law_many"] spRollL := by
  have SC : FnScope ["_law_card_here", "_law_many", "_law_holes_here"] ["_law_card_here", "_law_many"] (defScope (tp 31)) := ⟨rfl, rfl, rfl, by decide +kernel, rfl, by decide +kernel, by decide +kernel⟩
  refine F.ok SC (fun vs H Q E h => ?_) (fun cdv A outer s H vs Q E hr h => ?_)
  · obtain ⟨p, y, l, st, n, rfl, _⟩ := h; rfl
  · obtain ⟨p, y, l, st, n, rfl, ht, q⟩ := h
    refine ⟨_, (pss_cons (ps_set (i := 2) SC.nd rfl (by first | exact Or.inl rfl | exact Or.inr rfl) (pe_bmK (K := K) rfl PySem.F.plainAttrs_str PySem.F.slot_str_join PySem.F.type_str_join (mt_joinK (K := K) rfl) pe_str (pa_cons (pe_comp (N := ["_law_k", "_law_card_here", "_law_many"]) (cap := [none, some 0, some 1]) (mkCS rfl (by decide +kernel) rfl (by decide +kernel) (by rfl) (by rfl)) rfl (pi_range1 rfl h_range (pa_cons pe_int pa_nil)) (fun _ _ _ _ => (pg_name (i := 0) (show List.Nodup (["_law_k", "_law_card_here", "_law_many"] : List Str) by decide +kernel) rfl (by first | exact Or.inl rfl | exact Or.inr rfl))) (fun _ _ _ _ => pts_nil) (fun _ _ _ _ => (pe_ix ix_str (pe_ix (ix_tupK (K := K) rfl) (pv 1) pe_int (fun _ _ => rfl)) (pe_op op_mod (pe_op op_sub (pv 0) (pv 2)) pe_int) (fun _ _ => rfl)))) pa_nil)))
      (pss_one (ps_ret (pe_tup (pa_cons (pe_ix (ix_tupK (K := K) rfl) (pv 0) pe_int (fun _ _ => rfl)) (pa_cons (pv 2) (pa_cons (pe_op op_mod (pe_op op_add (pe_ix (ix_tupK (K := K) rfl) (pv 0) pe_int (fun _ _ => rfl)) (pv 1)) pe_int) pa_nil))))))), ?_⟩
    simp only [rSlL, tSeq, tIfS, tTest, tOp, tVar, tC, tCB, tCons, tNil, tRet, tNext, tAsg, gName, gTup, gCons, gNil, tB, tUn, rU, rI0, rI, tTup, tLst, tCall, tDrop, tIf, tAnd, tOr, tNot, tAndV, tOrV, tNotV, tSl, tPart, tNoPart, tBM, tBM0, rClear, sDPut, tDNewK, rIn, rEq, rNe, scal, rCat, rIx, rIxL, rIxT, rIxS, rAppend, tDGetK, tDInK, L2.start, cxK, cxW, cxKn, cxWn, cpK, cpW, List.map_cons, List.map_nil, List.cons_append, List.nil_append, List.append_nil, List.length_cons, List.length_nil, List.replicate, List.set_cons_zero, List.set_cons_succ, List.getElem?_cons_zero, List.getElem?_cons_succ, Option.some.injEq, exists_eq_left', exists_eq_left, exists_and_left, exists_eq', exists_const, V.int.injEq, V.bl.injEq, V.str.injEq, V.ref.injEq, V.ty.injEq, List.cons.injEq, and_true, true_and, reduceCtorEq, false_and, and_false, exists_false, or_false, false_or, decide_eq_true_eq, Bool.not_eq_true', decide_eq_false_iff_not, if_true, if_false, Bool.false_eq_true, ite_true, ite_false, Bool.not_true, Bool.not_false, Nat.reduceAdd, Nat.reduceSub, and_assoc]
    refine ⟨rfl, 4, rfl, by decide, by decide, comp_rng (lo := 0) (n := 4) (by decide) (fun i ys H3 => H3 = H ∧ LR isS H3 (rng i fun k => [l[(((k : Nat) - n) % 4).toNat]?.getD 0]) ys) ⟨rfl, .nil⟩ (fun i ys H3 ⟨_, h⟩ => by rw [h.len]; exact Nat.le_refl _) ?_ ?_⟩
    · rintro i ys H3 hi ⟨rfl, h⟩
      obtain ⟨c, ec, ec'⟩ := at4 ht.four (Int.emod_nonneg ((i : Int) - n) (by decide)) (Int.emod_lt_of_pos ((i : Int) - n) (by decide))
      simp only [capSt, tYes, Option.bind, id, Keep, rSlL, tSeq, tIfS, tTest, tOp, tVar, tC, tCB, tCons, tNil, tRet, tNext, tAsg, gName, gTup, gCons, gNil, tB, tUn, rU, rI0, rI, tTup, tLst, tCall, tDrop, tIf, tAnd, tOr, tNot, tAndV, tOrV, tNotV, tSl, tPart, tNoPart, tBM, tBM0, rClear, sDPut, tDNewK, rIn, rEq, rNe, scal, rCat, rIx, rIxL, rIxT, rIxS, rAppend, tDGetK, tDInK, L2.start, cxK, cxW, cxKn, cxWn, cpK, cpW, List.map_cons, List.map_nil, List.cons_append, List.nil_append, List.append_nil, List.length_cons, List.length_nil, List.replicate, List.set_cons_zero, List.set_cons_succ, List.getElem?_cons_zero, List.getElem?_cons_succ, Option.some.injEq, exists_eq_left', exists_eq_left, exists_and_left, exists_eq', exists_const, V.int.injEq, V.bl.injEq, V.str.injEq, V.ref.injEq, V.ty.injEq, List.cons.injEq, and_true, true_and, reduceCtorEq, false_and, and_false, exists_false, or_false, false_or, decide_eq_true_eq, Bool.not_eq_true', decide_eq_false_iff_not, if_true, if_false, Bool.false_eq_true, ite_true, ite_false, Bool.not_true, Bool.not_false, Nat.reduceAdd, Nat.reduceSub, and_assoc]
      refine ⟨_, SqT.of ht.at_, _, rfl, ?_⟩
      simp only [rSlL, tSeq, tIfS, tTest, tOp, tVar, tC, tCB, tCons, tNil, tRet, tNext, tAsg, gName, gTup, gCons, gNil, tB, tUn, rU, rI0, rI, tTup, tLst, tCall, tDrop, tIf, tAnd, tOr, tNot, tAndV, tOrV, tNotV, tSl, tPart, tNoPart, tBM, tBM0, rClear, sDPut, tDNewK, rIn, rEq, rNe, scal, rCat, rIx, rIxL, rIxT, rIxS, rAppend, tDGetK, tDInK, L2.start, cxK, cxW, cxKn, cxWn, cpK, cpW, List.map_cons, List.map_nil, List.cons_append, List.nil_append, List.append_nil, List.length_cons, List.length_nil, List.replicate, List.set_cons_zero, List.set_cons_succ, List.getElem?_cons_zero, List.getElem?_cons_succ, Option.some.injEq, exists_eq_left', exists_eq_left, exists_and_left, exists_eq', exists_const, V.int.injEq, V.bl.injEq, V.str.injEq, V.ref.injEq, V.ty.injEq, List.cons.injEq, and_true, true_and, reduceCtorEq, false_and, and_false, exists_false, or_false, false_or, decide_eq_true_eq, Bool.not_eq_true', decide_eq_false_iff_not, if_true, if_false, Bool.false_eq_true, ite_true, ite_false, Bool.not_true, Bool.not_false, Nat.reduceAdd, Nat.reduceSub, and_assoc]
      refine ⟨by decide, by rw [sOf_len, ht.four]; decide, c, by rw [Int.zero_add]; exact ec, h.rsnoc ?_⟩
      rw [ec']; rfl
    · rintro ys H3 ⟨rfl, h⟩ D hD
      have hun := h.str
      refine ⟨ofS "" [] (by decide +kernel), D, rfl, rng 4 (fun k => [l[(((k : Nat) - n) % 4).toNat]?.getD 0]), SqL.of (by rw [upd_same, hun]), by rw [flatr, rng_len]; decide, ?_⟩
      have e1 := same_upd (o := .lst ys) hD
      have ht1 := ht.same e1
      rw [flatr]
      generalize upd H3 D (.lst ys) = H4 at e1 ht1 ⊢
      exact ⟨_, SqT.of ht1.at_, _, rfl, _, SqT.of ht1.at_, _, rfl, st, rfl, by decide, by decide, fun p2 hp2 => q p2 _ (e1.trans (same_upd hp2)) ⟨upd_same, ht.lay, rng_len, Int.emod_nonneg _ (by decide), Int.emod_lt_of_pos _ (by decide)⟩⟩
def spPlain : Sp := fun vs H Q _ => ∃ (v : V) (t : T3) (col : List Nat), vs = [v] ∧ isStrand H (t, col) v ∧ (∀ x ∈ col, isTurn x) ∧ col.length ≤ 300 ∧ ∀ (q : Addr) (H' : Hp), Same H H' → H' q = some (.tup [.str (sOf (plainOf t col)), .str (sOf (slantsOf t col))]) → Q (.ref q) H'
theorem ok_plain {f : Addr} {fd : FuncData} (F : Fun K "plain" "plain" (tp 17) f fd) (h_enumerate : mg "enumerate" = none) (C_seen : Cal P w K mg base "seen" ["strand"] 2 spSeen) (C_left_by : Cal P w K mg base "left_by" ["strand"] 4 spLeftBy) (C_flipped : Cal P w K mg base "flipped" ["tablet"] 1 spFlipped) (C_rolled : Cal P w K mg base "rolled" ["tablet", "many"] 1 spRolled) : FnOk P w K mg base CX0 5 f fd ["strand"] spPlain := by
  have SC : FnScope ["strand", "lay", "holes", "stand", "shown", "signs", "tablet", "slants"] ["strand"] (defScope (tp 17)) := ⟨rfl, rfl, rfl, by decide +kernel, rfl, by decide +kernel, by decide +kernel⟩
  refine F.ok SC (fun vs H Q E h => ?_) (fun cdv A outer s H vs Q E hr h => ?_)
  · obtain ⟨v, t, col, rfl, _⟩ := h; rfl
  · obtain ⟨v, t, col, rfl, hst, hT, hl, q⟩ := h
    obtain ⟨p, pc, rfl, hp, _, epc, tb⟩ := id hst
    cases epc
    refine ⟨_, (pss_cons (ps_asg (pe_ix (ix_tupK (K := K) rfl) (pv 0) pe_int (fun _ _ => rfl)) (pg_tupK (K := K) (n := 3) rfl rfl (pgs_cons (pg_name (i := 1) SC.nd rfl (by first | exact Or.inl rfl | exact Or.inr rfl)) (pgs_cons (pg_name (i := 2) SC.nd rfl (by first | exact Or.inl rfl | exact Or.inr rfl)) (pgs_cons (pg_name (i := 3) SC.nd rfl (by first | exact Or.inl rfl | exact Or.inr rfl)) pgs_nil)))))
      (pss_cons (ps_set (i := 4) SC.nd rfl (by first | exact Or.inl rfl | exact Or.inr rfl) (pe_cal C_seen (hr.mono (by decide)) (by rfl) (pa_cons (pv 0) pa_nil)))
      (pss_cons (ps_set (i := 5) SC.nd rfl (by first | exact Or.inl rfl | exact Or.inr rfl) (pe_bmK (K := K) rfl PySem.F.plainAttrs_str PySem.F.slot_str_join PySem.F.type_str_join (mt_joinK (K := K) rfl) pe_str (pa_cons (pe_comp (N := ["hole", "colour", "shown"]) (cap := [none, none, some 4]) (mkCS rfl (by decide +kernel) rfl (by decide +kernel) (by rfl) (by rfl)) rfl (pi_enumStr (K := K) rfl rfl h_enumerate (pa_cons (pv 2) pa_nil)) (fun _ _ _ _ => (pg_tupK (K := K) (n := 2) rfl rfl (pgs_cons (pg_name (i := 0) (show List.Nodup (["hole", "colour", "shown"] : List Str) by decide +kernel) rfl (by first | exact Or.inl rfl | exact Or.inr rfl)) (pgs_cons (pg_name (i := 1) (show List.Nodup (["hole", "colour", "shown"] : List Str) by decide +kernel) rfl (by first | exact Or.inl rfl | exact Or.inr rfl)) pgs_nil)))) (fun _ _ _ _ => pts_nil) (fun _ _ _ _ => (pe_ifExp (pt_cmpR (op_in_seqK (K := K) rfl) (pv 0) (pv 2) (by with_unfolding_all rfl)) (pv 1) pe_str))) pa_nil)))
      (pss_cons (ps_set (i := 6) SC.nd rfl (by first | exact Or.inl rfl | exact Or.inr rfl) (pe_ifExp (pt_cmpR op_eq (pv 1) pe_str (nomark _)) (pe_tup (pa_cons (pv 1) (pa_cons (pv 5) (pa_cons (pv 3) pa_nil)))) (pe_cal C_flipped (hr.mono (by decide)) (by rfl) (pa_cons (pe_tup (pa_cons (pv 1) (pa_cons (pv 5) (pa_cons (pv 3) pa_nil)))) pa_nil))))
      (pss_cons (ps_set (i := 7) SC.nd rfl (by first | exact Or.inl rfl | exact Or.inr rfl) (pe_bmK (K := K) rfl PySem.F.plainAttrs_str PySem.F.slot_str_join PySem.F.type_str_join (mt_joinK (K := K) rfl) pe_str (pa_cons (pe_comp (N := ["face", "back", "slant"]) (cap := [none, none, none]) (mkCS rfl (by decide +kernel) rfl (by decide +kernel) (by rfl) (by rfl)) rfl (pi_listK (K := K) rfl (pe_cal C_left_by (hr.mono (by decide)) (by rfl) (pa_cons (pv 0) pa_nil))) (fun _ _ _ _ => (pg_tupK (K := K) (n := 3) rfl rfl (pgs_cons (pg_name (i := 0) (show List.Nodup (["face", "back", "slant"] : List Str) by decide +kernel) rfl (by first | exact Or.inl rfl | exact Or.inr rfl)) (pgs_cons (pg_name (i := 1) (show List.Nodup (["face", "back", "slant"] : List Str) by decide +kernel) rfl (by first | exact Or.inl rfl | exact Or.inr rfl)) (pgs_cons (pg_name (i := 2) (show List.Nodup (["face", "back", "slant"] : List Str) by decide +kernel) rfl (by first | exact Or.inl rfl | exact Or.inr rfl)) pgs_nil))))) (fun _ _ _ _ => pts_nil) (fun _ _ _ _ => (pv 2))) pa_nil)))
      (pss_one (ps_ret (pe_tup (pa_cons (pe_ix (ix_tupK (K := K) rfl) (pe_cal C_rolled (hr.mono (by decide)) (by rfl) (pa_cons (pv 6) (pa_cons (pe_un un_neg (pe_ix (ix_tupK (K := K) rfl) (pv 6) pe_int (fun _ _ => rfl))) pa_nil))) pe_int (fun _ _ => rfl)) (pa_cons (pv 7) pa_nil)))))))))), ?_⟩
    simp only [rSlL, tSeq, tIfS, tTest, tOp, tVar, tC, tCB, tCons, tNil, tRet, tNext, tAsg, gName, gTup, gCons, gNil, tB, tUn, rU, rI0, rI, tTup, tLst, tCall, tDrop, tIf, tAnd, tOr, tNot, tAndV, tOrV, tNotV, tSl, tPart, tNoPart, tBM, tBM0, rClear, sDPut, tDNewK, rIn, rEq, rNe, scal, rCat, rIx, rIxL, rIxT, rIxS, rAppend, tDGetK, tDInK, L2.start, cxK, cxW, cxKn, cxWn, cpK, cpW, List.map_cons, List.map_nil, List.cons_append, List.nil_append, List.append_nil, List.length_cons, List.length_nil, List.replicate, List.set_cons_zero, List.set_cons_succ, List.getElem?_cons_zero, List.getElem?_cons_succ, Option.some.injEq, exists_eq_left', exists_eq_left, exists_and_left, exists_eq', exists_const, V.int.injEq, V.bl.injEq, V.str.injEq, V.ref.injEq, V.ty.injEq, List.cons.injEq, and_true, true_and, reduceCtorEq, false_and, and_false, exists_false, or_false, false_or, decide_eq_true_eq, Bool.not_eq_true', decide_eq_false_iff_not, if_true, if_false, Bool.false_eq_true, ite_true, ite_false, Bool.not_true, Bool.not_false, Nat.reduceAdd, Nat.reduceSub, and_assoc]
    refine ⟨_, SqT.of hp, V.ref pc, rfl, pc, rfl, _, SqT.of tb.at_, rfl, ?_⟩
    simp only [rSlL, tSeq, tIfS, tTest, tOp, tVar, tC, tCB, tCons, tNil, tRet, tNext, tAsg, gName, gTup, gCons, gNil, tB, tUn, rU, rI0, rI, tTup, tLst, tCall, tDrop, tIf, tAnd, tOr, tNot, tAndV, tOrV, tNotV, tSl, tPart, tNoPart, tBM, tBM0, rClear, sDPut, tDNewK, rIn, rEq, rNe, scal, rCat, rIx, rIxL, rIxT, rIxS, rAppend, tDGetK, tDInK, L2.start, cxK, cxW, cxKn, cxWn, cpK, cpW, List.map_cons, List.map_nil, List.cons_append, List.nil_append, List.append_nil, List.length_cons, List.length_nil, List.replicate, List.set_cons_zero, List.set_cons_succ, List.getElem?_cons_zero, List.getElem?_cons_succ, Option.some.injEq, exists_eq_left', exists_eq_left, exists_and_left, exists_eq', exists_const, V.int.injEq, V.bl.injEq, V.str.injEq, V.ref.injEq, V.ty.injEq, List.cons.injEq, and_true, true_and, reduceCtorEq, false_and, and_false, exists_false, or_false, false_or, decide_eq_true_eq, Bool.not_eq_true', decide_eq_false_iff_not, if_true, if_false, Bool.false_eq_true, ite_true, ite_false, Bool.not_true, Bool.not_false, Nat.reduceAdd, Nat.reduceSub, and_assoc]
    refine ⟨_, t, col, rfl, hst, hT, fun b ns H1 _ e1 q1 _ l1 => ?_⟩
    obtain ⟨_, nv, en, hnv, hnr⟩ := l1
    cases en
    have hni := hnr.int
    have tb1 := tb.same e1
    have h4 := tb.four
    have hmem : ∀ x : Int, x ∈ ns ↔ x ∈ seenTo t col col.length := fun x => q1.mem_iff
    refine ⟨rfl, _, rfl, t.2.1, rfl, comp_enumS (K := K) (l := t.2.1) (by have : t.2.1.length = 4 := h4; omega) (fun i ys H3 => Same H1 H3 ∧ LR isS H3 (rng i fun k => [if (k : Int) ∈ seenTo t col col.length then t.2.1[k]?.getD 0 else 63]) ys) ⟨.refl _, .nil⟩ (fun i ys H3 ⟨_, h⟩ => by rw [h.len]; exact Nat.le_refl _) ?_ ?_⟩
    · rintro i c p3 ys H3 hc hp3 ⟨g1, g2⟩
      simp only [capSt, tYes, Option.bind, id, Keep, rSlL, tSeq, tIfS, tTest, tOp, tVar, tC, tCB, tCons, tNil, tRet, tNext, tAsg, gName, gTup, gCons, gNil, tB, tUn, rU, rI0, rI, tTup, tLst, tCall, tDrop, tIf, tAnd, tOr, tNot, tAndV, tOrV, tNotV, tSl, tPart, tNoPart, tBM, tBM0, rClear, sDPut, tDNewK, rIn, rEq, rNe, scal, rCat, rIx, rIxL, rIxT, rIxS, rAppend, tDGetK, tDInK, L2.start, cxK, cxW, cxKn, cxWn, cpK, cpW, List.map_cons, List.map_nil, List.cons_append, List.nil_append, List.append_nil, List.length_cons, List.length_nil, List.replicate, List.set_cons_zero, List.set_cons_succ, List.getElem?_cons_zero, List.getElem?_cons_succ, Option.some.injEq, exists_eq_left', exists_eq_left, exists_and_left, exists_eq', exists_const, V.int.injEq, V.bl.injEq, V.str.injEq, V.ref.injEq, V.ty.injEq, List.cons.injEq, and_true, true_and, reduceCtorEq, false_and, and_false, exists_false, or_false, false_or, decide_eq_true_eq, Bool.not_eq_true', decide_eq_false_iff_not, if_true, if_false, Bool.false_eq_true, ite_true, ite_false, Bool.not_true, Bool.not_false, Nat.reduceAdd, Nat.reduceSub, and_assoc]
      refine ⟨_, SqT.of upd_same, rfl, ?_⟩
      simp only [rSlL, tSeq, tIfS, tTest, tOp, tVar, tC, tCB, tCons, tNil, tRet, tNext, tAsg, gName, gTup, gCons, gNil, tB, tUn, rU, rI0, rI, tTup, tLst, tCall, tDrop, tIf, tAnd, tOr, tNot, tAndV, tOrV, tNotV, tSl, tPart, tNoPart, tBM, tBM0, rClear, sDPut, tDNewK, rIn, rEq, rNe, scal, rCat, rIx, rIxL, rIxT, rIxS, rAppend, tDGetK, tDInK, L2.start, cxK, cxW, cxKn, cxWn, cpK, cpW, List.map_cons, List.map_nil, List.cons_append, List.nil_append, List.append_nil, List.length_cons, List.length_nil, List.replicate, List.set_cons_zero, List.set_cons_succ, List.getElem?_cons_zero, List.getElem?_cons_succ, Option.some.injEq, exists_eq_left', exists_eq_left, exists_and_left, exists_eq', exists_const, V.int.injEq, V.bl.injEq, V.str.injEq, V.ref.injEq, V.ty.injEq, List.cons.injEq, and_true, true_and, reduceCtorEq, false_and, and_false, exists_false, or_false, false_or, decide_eq_true_eq, Bool.not_eq_true', decide_eq_false_iff_not, if_true, if_false, Bool.false_eq_true, ite_true, ite_false, Bool.not_true, Bool.not_false, Nat.reduceAdd, Nat.reduceSub, and_assoc]
      have e3 := same_upd (o := .tup [V.int i, V.str (sOf [c])]) hp3
      refine ⟨nv, .inl (SqL.of (e3 _ _ (g1 _ _ hnv))), rfl, by rw [hni]; simp [L2.flatV], ?_⟩
      rw [hni, inV_int]
      by_cases hm : (i : Int) ∈ ns
      · rw [decide_eq_true hm, if_pos rfl]
        refine ⟨g1.trans e3, (g2.same e3).rsnoc ?_⟩
        rw [if_pos ((hmem _).mp hm), hc]; rfl
      · rw [decide_eq_false hm, if_neg (by decide)]
        refine ⟨g1.trans e3, (g2.same e3).rsnoc ?_⟩
        rw [if_neg (fun z => hm ((hmem _).mpr z))]
        exact congrArg V.str (ofS "?" [63] (by decide +kernel))
    · rintro ys H3 ⟨g1, g2⟩ D hD
      have hl4 : t.2.1.length = 4 := h4
      rw [hl4] at g2
      have hun := g2.str
      have e3 := g1.trans (same_upd (o := .lst ys) hD)
      have hat : upd H3 D (.lst ys) D = some (.lst ys) := upd_same
      generalize upd H3 D (.lst ys) = H4 at e3 hat ⊢
      refine ⟨ofS "" [] (by decide +kernel), D, rfl, rng 4 (fun k => [if (k : Int) ∈ seenTo t col col.length then t.2.1[k]?.getD 0 else 63]), SqL.of (by rw [hat, hun]), by rw [flatr, rng_len]; decide, ?_⟩
      rw [flatr]
      have emask : (rng 4 fun k => if (k : Int) ∈ seenTo t col col.length then t.2.1[k]?.getD 0 else 63) = maskOf t.2.1 (seenTo t col col.length) := rfl
      rw [emask]
      have hst4 := Mono.mono (e1.trans e3) hst
      have hle : (sOf [t.1] = Str.ofString "S") = (t.1 = 83) := lay_eq tb.lay
      refine ite2 (fun hS => ?_) (fun hS => ?_)
      all_goals rw [hle] at hS
      refine ⟨by decide, fun p5 hp5 => ?_⟩
      have tm : Tab (upd H4 p5 (.tup [.str (sOf [t.1]), .str (sOf (maskOf t.2.1 (seenTo t col col.length))), .int t.2.2])) p5 t.1 (maskOf t.2.1 (seenTo t col col.length)) t.2.2 := ⟨upd_same, tb.lay, mask_len, tb.low, tb.high⟩
      have e5 := (e1.trans e3).trans (same_upd (o := .tup [.str (sOf [t.1]), .str (sOf (maskOf t.2.1 (seenTo t col col.length))), .int t.2.2]) hp5)
      generalize upd H4 p5 (.tup [.str (sOf [t.1]), .str (sOf (maskOf t.2.1 (seenTo t col col.length))), .int t.2.2]) = H5 at tm e5 ⊢
      have hpl : ∃ ml ms, plainOf t col = rollL ml (-ms) ∧ Tab H5 p5 t.1 ml ms := ⟨_, _, by unfold plainOf; rw [if_pos hS], tm⟩
      clear tm hp5
      rotate_left
      refine ⟨by decide, fun p0 hp0 => ?_⟩
      have tm0 : Tab (upd H4 p0 (.tup [.str (sOf [t.1]), .str (sOf (maskOf t.2.1 (seenTo t col col.length))), .int t.2.2])) p0 t.1 (maskOf t.2.1 (seenTo t col col.length)) t.2.2 := ⟨upd_same, tb.lay, mask_len, tb.low, tb.high⟩
      have e4 := (e1.trans e3).trans (same_upd (o := .tup [.str (sOf [t.1]), .str (sOf (maskOf t.2.1 (seenTo t col col.length))), .int t.2.2]) hp0)
      generalize upd H4 p0 (.tup [.str (sOf [t.1]), .str (sOf (maskOf t.2.1 (seenTo t col col.length))), .int t.2.2]) = H0 at tm0 e4 ⊢
      refine ⟨p0, _, _, _, rfl, tm0, fun p5 H5 e6 tm => ?_⟩
      have e5 := e4.trans e6
      have hpl : ∃ ml ms, plainOf t col = rollL ml (-ms) ∧ Tab H5 p5 (oth t.1) ml ms := ⟨_, _, by unfold plainOf; rw [if_neg hS], tm⟩
      clear tm tm0 e4 e6
      all_goals
        obtain ⟨ml, ms, hpl, tm⟩ := hpl
        refine ⟨rfl, _, rfl, _, t, col, rfl, Mono.mono e5 hst, hT, hl, fun bl H7 _ e7 hbl => ?_⟩
        obtain ⟨_, lv, el, hlv, hlr⟩ := hbl
        cases el
        have hll := hlr.len
        refine ⟨bl, rfl, ⟨_, SqL.of hlv⟩, comp_list (K := K) (a := bl) (xs := lv) (by omega) (fun i zs H8 => H8 = H7 ∧ LR isS H8 (rng i fun j => [(place t col j).2.2]) zs) ⟨rfl, .nil⟩ (fun i zs H8 ⟨e, h⟩ => ⟨by rw [h.len]; exact Nat.le_refl _, by rw [e]; exact SqL.of hlv⟩) ?_ ?_⟩
        · rintro i x zs H8 hx ⟨rfl, h⟩
          obtain ⟨hi, px, rfl, hpx⟩ := hlr.at hx
          simp only [capSt, tYes, Option.bind, id, Keep, rSlL, tSeq, tIfS, tTest, tOp, tVar, tC, tCB, tCons, tNil, tRet, tNext, tAsg, gName, gTup, gCons, gNil, tB, tUn, rU, rI0, rI, tTup, tLst, tCall, tDrop, tIf, tAnd, tOr, tNot, tAndV, tOrV, tNotV, tSl, tPart, tNoPart, tBM, tBM0, rClear, sDPut, tDNewK, rIn, rEq, rNe, scal, rCat, rIx, rIxL, rIxT, rIxS, rAppend, tDGetK, tDInK, L2.start, cxK, cxW, cxKn, cxWn, cpK, cpW, List.map_cons, List.map_nil, List.cons_append, List.nil_append, List.append_nil, List.length_cons, List.length_nil, List.replicate, List.set_cons_zero, List.set_cons_succ, List.getElem?_cons_zero, List.getElem?_cons_succ, Option.some.injEq, exists_eq_left', exists_eq_left, exists_and_left, exists_eq', exists_const, V.int.injEq, V.bl.injEq, V.str.injEq, V.ref.injEq, V.ty.injEq, List.cons.injEq, and_true, true_and, reduceCtorEq, false_and, and_false, exists_false, or_false, false_or, decide_eq_true_eq, Bool.not_eq_true', decide_eq_false_iff_not, if_true, if_false, Bool.false_eq_true, ite_true, ite_false, Bool.not_true, Bool.not_false, Nat.reduceAdd, Nat.reduceSub, and_assoc]
          refine ⟨_, SqT.of hpx, rfl, ?_⟩
          simp only [rSlL, tSeq, tIfS, tTest, tOp, tVar, tC, tCB, tCons, tNil, tRet, tNext, tAsg, gName, gTup, gCons, gNil, tB, tUn, rU, rI0, rI, tTup, tLst, tCall, tDrop, tIf, tAnd, tOr, tNot, tAndV, tOrV, tNotV, tSl, tPart, tNoPart, tBM, tBM0, rClear, sDPut, tDNewK, rIn, rEq, rNe, scal, rCat, rIx, rIxL, rIxT, rIxS, rAppend, tDGetK, tDInK, L2.start, cxK, cxW, cxKn, cxWn, cpK, cpW, List.map_cons, List.map_nil, List.cons_append, List.nil_append, List.append_nil, List.length_cons, List.length_nil, List.replicate, List.set_cons_zero, List.set_cons_succ, List.getElem?_cons_zero, List.getElem?_cons_succ, Option.some.injEq, exists_eq_left', exists_eq_left, exists_and_left, exists_eq', exists_const, V.int.injEq, V.bl.injEq, V.str.injEq, V.ref.injEq, V.ty.injEq, List.cons.injEq, and_true, true_and, reduceCtorEq, false_and, and_false, exists_false, or_false, false_or, decide_eq_true_eq, Bool.not_eq_true', decide_eq_false_iff_not, if_true, if_false, Bool.false_eq_true, ite_true, ite_false, Bool.not_true, Bool.not_false, Nat.reduceAdd, Nat.reduceSub, and_assoc]
          exact h.rsnoc rfl
        · rintro zs H8 ⟨rfl, h⟩ D2 hD2
          rw [hll] at h
          have hun := h.str
          have e8 := (e7.trans (same_upd (o := .lst zs) hD2))
          have hat2 : upd H8 D2 (.lst zs) D2 = some (.lst zs) := upd_same
          generalize upd H8 D2 (.lst zs) = H9 at e8 hat2 ⊢
          refine ⟨ofS "" [] (by decide +kernel), D2, rfl, rng col.length (fun j => [(place t col j).2.2]), SqL.of (by rw [hat2, hun]), by rw [flatr, rng_len]; omega, ?_⟩
          rw [flatr]
          have tm9 := tm.same e8
          first
            | refine ⟨_, SqT.of tm9.at_, V.int ms, rfl, ms, rfl, p5, _, ml, ms, -ms, rfl, tm9, fun p9 H10 e10 tr => ?_⟩
            | refine ⟨p5, rfl, _, SqT.of tm9.at_, V.int ms, rfl, ms, rfl, p5, _, ml, ms, -ms, rfl, tm9, fun p9 H10 e10 tr => ?_⟩
          refine ⟨p9, rfl, _, SqT.of tr.at_, _, rfl, by decide, fun pz hpz => q pz _ (((e5.trans e8).trans e10).trans (same_upd hpz)) ?_⟩
          rw [upd_same, hpl]; rfl
end
end Wb

set_option Elab.async false
set_option linter.all false
set_option maxRecDepth 100000
set_option maxHeartbeats 4000000
namespace Wb
open PySem L2
/-! places alike just where the plain forms are -/
theorem place_gs {t : T3} {col : List Nat} {i : Nat} (hi : i < col.length) : place t col i = (t.2.1[((t.2.2 + gs col (i + 1)) % 4).toNat]?.getD 0, t.2.1[((t.2.2 + gs col (i + 1) + 2) % 4).toNat]?.getD 0, slantOf (twT t.1 (col[i]?.getD 0))) := by
  unfold place placeOf
  have h2 : (after t col (i + 1)).1 = t.1 ∧ (after t col (i + 1)).2.1 = t.2.1 := by
    unfold after
    generalize col.take (i + 1) = l
    induction l generalizing t with
    | nil => exact ⟨rfl, rfl⟩
    | cons x r ih => exact ih (t := tTurn t x)
  have h1 := after_gs t col i hi
  rw [h1, h2.1, h2.2, show ((t.2.2 + gs col (i + 1)) % 4 + 2) % 4 = (t.2.2 + gs col (i + 1) + 2) % 4 by omega]
theorem rollA_at {l : List Nat} {n k : Int} (h0 : 0 ≤ k) (h1 : k < 4) : (rollA l n)[k.toNat]?.getD 0 = l[((k - n) % 4).toNat]?.getD 0 := by
  unfold rollA; rw [rng_get (by omega), Int.toNat_of_nonneg h0]; rfl
theorem flip_atI {l : List Nat} {k : Int} (h : l.length = 4) (h0 : 0 ≤ k) (h1 : k < 4) : (flipL l)[k.toNat]? = l[((0 - k) % 4).toNat]? := by
  rw [flip_at h (by omega), Int.toNat_of_nonneg h0]
theorem base_lay {t : T3} (h : t.1 = 83 ∨ t.1 = 90) : (baseOf t).1 = 83 := by
  unfold baseOf; split
  · assumption
  · rcases h with h | h
    · contradiction
    · show oth t.1 = 83; rw [h]; rfl
theorem base_stand {t : T3} : (baseOf t).2.2 = 0 := by
  unfold baseOf; split
  · show (t.2.2 + (0 - t.2.2)) % 4 = 0; omega
  · show ((0 - t.2.2) % 4 + (0 - (0 - t.2.2) % 4)) % 4 = 0; omega
theorem way_len {t : T3} {col : List Nat} : (wayOf t col).length = col.length := by unfold wayOf; split <;> simp
theorem way_turn {t : T3} {col : List Nat} (hT : ∀ x ∈ col, isTurn x) : ∀ x ∈ wayOf t col, isTurn x := by
  unfold wayOf; split
  · exact hT
  · intro x hx
    obtain ⟨z, h1, rfl⟩ := List.mem_map.mp hx
    exact opp_turn (hT z h1)
/-- the flipped and rolled strand leaves the same places -/
theorem place_base {t : T3} {col : List Nat} (hy : t.1 = 83 ∨ t.1 = 90) (h4 : t.2.1.length = 4) (hT : ∀ x ∈ col, isTurn x) {i : Nat} (hi : i < col.length) : place (baseOf t) (wayOf t col) i = place t col i := by
  rw [place_gs (by rw [way_len]; exact hi), place_gs hi, base_stand, base_lay hy]
  have hc : col[i]? = some col[i] := by simp [hi]
  have hcT := hT col[i] (List.getElem_mem hi)
  by_cases hS : t.1 = 83
  · have hw : wayOf t col = col := by unfold wayOf; rw [if_pos hS]
    have hb : (baseOf t).2.1 = rollA t.2.1 (0 - t.2.2) := by unfold baseOf; rw [if_pos hS]
    rw [hw, hb, hS]
    rw [rollA_at (Int.emod_nonneg _ (by decide)) (Int.emod_lt_of_pos _ (by decide)), rollA_at (Int.emod_nonneg _ (by decide)) (Int.emod_lt_of_pos _ (by decide))]
    rw [show ((0 + gs col (i + 1)) % 4 - (0 - t.2.2)) % 4 = (t.2.2 + gs col (i + 1)) % 4 by omega, show ((0 + gs col (i + 1) + 2) % 4 - (0 - t.2.2)) % 4 = (t.2.2 + gs col (i + 1) + 2) % 4 by omega]
  · have hZ : t.1 = 90 := hy.resolve_left hS
    have hw : wayOf t col = col.map oppT := by unfold wayOf; rw [if_neg hS]
    have hb : (baseOf t).2.1 = rollA (flipL t.2.1) (0 - (0 - t.2.2) % 4) := by unfold baseOf; rw [if_neg hS]
    rw [hw, hb, hZ, gs_opp hT, List.getElem?_map, hc]
    rw [rollA_at (Int.emod_nonneg _ (by decide)) (Int.emod_lt_of_pos _ (by decide)), rollA_at (Int.emod_nonneg _ (by decide)) (Int.emod_lt_of_pos _ (by decide))]
    rw [flip_atI h4 (Int.emod_nonneg _ (by decide)) (Int.emod_lt_of_pos _ (by decide)), flip_atI h4 (Int.emod_nonneg _ (by decide)) (Int.emod_lt_of_pos _ (by decide))]
    rw [show (0 - ((0 + -gs col (i + 1)) % 4 - (0 - (0 - t.2.2) % 4)) % 4) % 4 = (t.2.2 + gs col (i + 1)) % 4 by omega, show (0 - ((0 + -gs col (i + 1) + 2) % 4 - (0 - (0 - t.2.2) % 4)) % 4) % 4 = (t.2.2 + gs col (i + 1) + 2) % 4 by omega]
    have : twT 83 (oppT col[i]) = twT 90 col[i] := by
      have := opp_tw (y := 90) (.inr rfl) hcT
      exact this
    show (_, _, slantOf (twT 83 (oppT col[i]))) = (_, _, slantOf (twT 90 col[i]))
    rw [this]
theorem slant_inj {x y : Nat} (hx : isTurn x) (hy : isTurn y) (h : slantOf (twT 83 x) = slantOf (twT 83 y)) : x = y := by
  rcases hx with rfl | rfl | rfl <;> rcases hy with rfl | rfl | rfl <;> first | rfl | (exact absurd h (by decide))
def placesOf (t : T3) (col : List Nat) : List P3 := rng col.length (place t col)
theorem places_base {t : T3} {col : List Nat} (hy : t.1 = 83 ∨ t.1 = 90) (h4 : t.2.1.length = 4) (hT : ∀ x ∈ col, isTurn x) : placesOf t col = placesOf (baseOf t) (wayOf t col) := by
  unfold placesOf; rw [way_len]
  exact rng_ext fun i hi => (place_base hy h4 hT hi).symm
theorem slants_base {t : T3} {col : List Nat} (hy : t.1 = 83 ∨ t.1 = 90) (h4 : t.2.1.length = 4) (hT : ∀ x ∈ col, isTurn x) : slantsOf t col = slantsOf (baseOf t) (wayOf t col) := by
  unfold slantsOf; rw [way_len]
  exact rng_ext fun i hi => by rw [place_base hy h4 hT hi]
theorem way_eq {b1 b2 : T3} {w1 w2 : List Nat} (h1 : b1.1 = 83) (h2 : b2.1 = 83) (t1 : ∀ x ∈ w1, isTurn x) (t2 : ∀ x ∈ w2, isTurn x) (h : slantsOf b1 w1 = slantsOf b2 w2) : w1 = w2 := by
  have hl : w1.length = w2.length := by have := congrArg List.length h; unfold slantsOf at this; rwa [rng_len, rng_len] at this
  refine List.ext_getElem? fun i => ?_
  by_cases hi : i < w1.length
  · have hi2 : i < w2.length := by omega
    have e : (slantsOf b1 w1)[i]? = (slantsOf b2 w2)[i]? := by rw [h]
    unfold slantsOf at e
    rw [rng_get hi, rng_get hi2, place_gs hi, place_gs hi2] at e
    have e := Option.some.inj e
    simp only [h1, h2] at e
    have c1 : w1[i]? = some w1[i] := by simp [hi]
    have c2 : w2[i]? = some w2[i] := by simp [hi2]
    rw [c1, c2] at e ⊢
    exact congrArg some (slant_inj (t1 _ (List.getElem_mem hi)) (t2 _ (List.getElem_mem hi2)) e)
  · rw [List.getElem?_eq_none_iff.mpr (by omega), List.getElem?_eq_none_iff.mpr (by omega)]
theorem base_iff {b1 b2 : T3} {w1 w2 : List Nat} (h1 : b1.1 = 83) (h2 : b2.1 = 83) (s1 : b1.2.2 = 0) (s2 : b2.2.2 = 0) (t1 : ∀ x ∈ w1, isTurn x) (t2 : ∀ x ∈ w2, isTurn x) :
    placesOf b1 w1 = placesOf b2 w2 ↔ (maskOf b1.2.1 (seenTo b1 w1 w1.length) = maskOf b2.2.1 (seenTo b2 w2 w2.length) ∧ slantsOf b1 w1 = slantsOf b2 w2) := by
  constructor
  · intro h
    have hs : slantsOf b1 w1 = slantsOf b2 w2 := by
      have : slantsOf b1 w1 = (placesOf b1 w1).map (·.2.2) := by unfold slantsOf placesOf rng; rw [List.map_map]; rfl
      have e2 : slantsOf b2 w2 = (placesOf b2 w2).map (·.2.2) := by unfold slantsOf placesOf rng; rw [List.map_map]; rfl
      rw [this, e2, h]
    have hw := way_eq h1 h2 t1 t2 hs
    subst hw
    refine ⟨?_, hs⟩
    unfold maskOf
    refine rng_ext fun k hk => ?_
    have hm : ((k : Int) ∈ seenTo b1 w1 w1.length) ↔ ((k : Int) ∈ seenTo b2 w1 w1.length) := by
      rw [mem_seen _ _ _ _ (Nat.le_refl _), mem_seen _ _ _ _ (Nat.le_refl _), s1, s2]
    by_cases hk1 : (k : Int) ∈ seenTo b1 w1 w1.length
    · rw [if_pos hk1, if_pos (hm.mp hk1)]
      rw [mem_seen _ _ _ _ (Nat.le_refl _), s1] at hk1
      obtain ⟨i, hi, hk2⟩ := hk1
      have e : (placesOf b1 w1)[i]? = (placesOf b2 w1)[i]? := by rw [h]
      unfold placesOf at e
      rw [rng_get hi, rng_get hi, place_gs hi, place_gs hi, s1, s2] at e
      have e := Option.some.inj e
      injection e with e1 e2
      injection e2 with e2 e3
      rcases hk2 with z | z
      · rw [← z, Int.toNat_natCast] at e1; exact e1
      · rw [← z, Int.toNat_natCast] at e2; exact e2
    · rw [if_neg hk1, if_neg (fun z => hk1 (hm.mpr z))]
  · rintro ⟨hmask, hs⟩
    have hw := way_eq h1 h2 t1 t2 hs
    subst hw
    unfold placesOf
    refine rng_ext fun i hi => ?_
    rw [place_gs hi, place_gs hi, s1, s2, h1, h2]
    have key : ∀ x : Int, 0 ≤ x → x < 4 → (∃ i, i < w1.length ∧ (x = (0 + gs w1 (i + 1)) % 4 ∨ x = (0 + gs w1 (i + 1) + 2) % 4)) → b1.2.1[x.toNat]?.getD 0 = b2.2.1[x.toNat]?.getD 0 := by
      intro x x0 x1 hx
      have m1 : x ∈ seenTo b1 w1 w1.length := by rw [mem_seen _ _ _ _ (Nat.le_refl _), s1]; exact hx
      have m2 : x ∈ seenTo b2 w1 w1.length := by rw [mem_seen _ _ _ _ (Nat.le_refl _), s2]; exact hx
      have e : (maskOf b1.2.1 (seenTo b1 w1 w1.length))[x.toNat]? = (maskOf b2.2.1 (seenTo b2 w1 w1.length))[x.toNat]? := by rw [hmask]
      unfold maskOf at e
      rw [rng_get (by omega), rng_get (by omega), Int.toNat_of_nonneg x0, if_pos m1, if_pos m2] at e
      exact Option.some.inj e
    rw [key _ (Int.emod_nonneg _ (by decide)) (Int.emod_lt_of_pos _ (by decide)) ⟨i, hi, .inl rfl⟩, key _ (Int.emod_nonneg _ (by decide)) (Int.emod_lt_of_pos _ (by decide)) ⟨i, hi, .inr rfl⟩]
theorem plain_iff {t1 t2 : T3} {c1 c2 : List Nat} (y1 : t1.1 = 83 ∨ t1.1 = 90) (y2 : t2.1 = 83 ∨ t2.1 = 90) (f1 : t1.2.1.length = 4) (f2 : t2.2.1.length = 4) (h1 : ∀ x ∈ c1, isTurn x) (h2 : ∀ x ∈ c2, isTurn x) :
    placesOf t1 c1 = placesOf t2 c2 ↔ (plainOf t1 c1 = plainOf t2 c2 ∧ slantsOf t1 c1 = slantsOf t2 c2) := by
  rw [places_base y1 f1 h1, places_base y2 f2 h2, plain_eq f1 h1, plain_eq f2 h2, slants_base y1 f1 h1, slants_base y2 f2 h2]
  exact base_iff (base_lay y1) (base_lay y2) base_stand base_stand (way_turn h1) (way_turn h2)
end Wb

set_option Elab.async false
set_option linter.all false
set_option maxRecDepth 100000
set_option maxHeartbeats 4000000
--ITERS {'_law_turns_here': 'str', 'turns': 'str'}
--VT {'_law_turns_here': 's', 'turns': 's', '_law_known': 'li', '_law_hole': 'i', '_law_colour': 's', '_law_out': 'li', '_law_turn': 's', '_law_at_here': 'i', '_law_strand_here': 'tup'}
namespace Wb
open PySem L2
section
variable {P : Program} {w : World} {K : PySem.W.Frag} {mg : Str → Option Value} {base : Heap}
theorem cutN_lo {l : List Nat} {k : Nat} (h : k ≤ l.length) : cutN l none (some (k : Int)) = l.take k := by
  unfold cutN; rw [HT.sIx_none, HT.sIx_nat, Nat.min_eq_left h]; simp
theorem cutN_hi {l : List Nat} {k : Nat} : cutN l (some (k : Int)) none = l.drop (min k l.length) := by
  unfold cutN; rw [HT.sIx_none, HT.sIx_nat]
  exact List.take_of_length_le (by rw [List.length_drop]; exact Nat.le_refl _)
theorem abc_ex (z : Int) : ∃ x, atI (Str.ofString "abcdefghijklmnopqrstuvwxyz").cps.toList (z % 26) = some x := by
  have h0 := Int.emod_nonneg z (show (26 : Int) ≠ 0 by decide)
  have h1 := Int.emod_lt_of_pos z (show (0 : Int) < 26 by decide)
  refine ⟨97 + (z % 26).toNat, ?_⟩
  rw [abc, sOf_cps]; exact abc_at h0 h1
theorem cut_len {l : List Nat} {i x : Nat} (h : l.length = 4) (hi : i < 4) : (l.take i ++ [x] ++ l.drop (min (i + 1) l.length)).length = 4 := by
  rw [h]; simp; omega
def spKin : Sp := fun vs H Q _ => ∃ (p : Addr) (t : T3) (col : List Nat) (c : Int), vs = [.ref p, .str (sOf col), .int c] ∧ isTab H t (.ref p) ∧ (∀ x ∈ col, isTurn x) ∧ col.length ≤ 240 ∧ ∀ (v : V) (H' : Hp) (t' : T3) (col' : List Nat), Same H H' → isStrand H' (t', col') v → col'.length ≤ 240 → (∀ x ∈ col', isTurn x) → Q v H'
theorem ok_kin {f : Addr} {fd : FuncData} (F : Fun K "_law_kin" "_law_kin" (tp 33) f fd) (h_range : mg "range" = none) (C__law_turnover : Cal P w K mg base "_law_turnover" ["_law_card_here"] 1 spFlipped) (C__law_back : Cal P w K mg base "_law_back" ["_law_turns_here"] 1 spOpp) (C__law_roll : Cal P w K mg base "_law_roll" ["_law_card_here", "_law_many"] 1 spRollL) (C__law_seen : Cal P w K mg base "_law_seen" ["_law_card_here", "_law_turns_here"] 3 spSeenL) : FnOk P w K mg base CX0 4 f fd ["_law_card_here", "_law_turns_here", "_law_cell"] spKin := by
  have SC : FnScope ["_law_card_here", "_law_turns_here", "_law_cell", "_law_known", "_law_hole", "_law_colour"] ["_law_card_here", "_law_turns_here", "_law_cell"] (defScope (tp 33)) := ⟨rfl, rfl, rfl, by decide +kernel, rfl, by decide +kernel, by decide +kernel⟩
  refine F.ok SC (fun vs H Q E h => ?_) (fun cdv A outer s H vs Q E hr h => ?_)
  · obtain ⟨p, t, col, c, rfl, _⟩ := h; rfl
  · obtain ⟨p, t, col, c, rfl, ⟨_, ep, tb⟩, hT, hl, q⟩ := h
    cases ep
    refine ⟨_, (pss_cons (ps_if (pt_cmpR op_eq (pe_op op_mod (pv 2) pe_int) pe_int (nomark _)) (pss_cons (ps_set (i := 0) SC.nd rfl (by first | exact Or.inl rfl | exact Or.inr rfl) (pe_cal C__law_turnover (hr.mono (by decide)) (by rfl) (pa_cons (pv 0) pa_nil)))
      (pss_one (ps_set (i := 1) SC.nd rfl (by first | exact Or.inl rfl | exact Or.inr rfl) (pe_cal C__law_back (hr.mono (by decide)) (by rfl) (pa_cons (pv 1) pa_nil))))) pss_nil)
      (pss_cons (ps_set (i := 0) SC.nd rfl (by first | exact Or.inl rfl | exact Or.inr rfl) (pe_cal C__law_roll (hr.mono (by decide)) (by rfl) (pa_cons (pv 0) (pa_cons (pe_op op_mod (pe_op op_fdiv (pv 2) pe_int) pe_int) pa_nil))))
      (pss_cons (ps_if (pt_cmpR op_eq (pe_op op_mod (pe_op op_fdiv (pv 2) pe_int) pe_int) pe_int (nomark _)) (pss_cons (ps_set (i := 3) SC.nd rfl (by first | exact Or.inl rfl | exact Or.inr rfl) (pe_cal C__law_seen (hr.mono (by decide)) (by rfl) (pa_cons (pv 0) (pa_cons (pv 1) pa_nil))))
      (pss_one (ps_for PassesOwn.never rfl (pi_range1 rfl h_range (pa_cons pe_int pa_nil)) (pg_name (i := 4) SC.nd rfl (by first | exact Or.inl rfl | exact Or.inr rfl)) (pss_one (ps_if (pt_cmpR (op_notIn_seqK (K := K) rfl) (pv 4) (pv 3) (by with_unfolding_all rfl)) (pss_cons (ps_set (i := 5) SC.nd rfl (by first | exact Or.inl rfl | exact Or.inr rfl) (pe_ix ix_str pe_str (pe_op op_mod (pe_op op_add (pe_op op_fdiv (pv 2) pe_int) (pe_op op_mul pe_int (pv 4))) pe_int) (fun _ _ => rfl)))
      (pss_one (ps_set (i := 0) SC.nd rfl (by first | exact Or.inl rfl | exact Or.inr rfl) (pe_tup (pa_cons (pe_ix (ix_tupK (K := K) rfl) (pv 0) pe_int (fun _ _ => rfl)) (pa_cons (pe_op op_add_str (pe_op op_add_str (pe_slice sl_str (pe_ix (ix_tupK (K := K) rfl) (pv 0) pe_int (fun _ _ => rfl)) po_none (po_some (pv 4))) (pv 5)) (pe_slice sl_str (pe_ix (ix_tupK (K := K) rfl) (pv 0) pe_int (fun _ _ => rfl)) (po_some (pe_op op_add (pv 4) pe_int)) po_none)) (pa_cons (pe_ix (ix_tupK (K := K) rfl) (pv 0) pe_int (fun _ _ => rfl)) pa_nil))))))) pss_nil))))) pss_nil)
      (pss_one (ps_ret (pe_tup (pa_cons (pv 0) (pa_cons (pv 1) pa_nil)))))))), ?_⟩
    simp only [rSlL, tSeq, tIfS, tTest, tOp, tVar, tC, tCB, tCons, tNil, tRet, tNext, tAsg, gName, gTup, gCons, gNil, tB, tUn, rU, rI0, rI, tTup, tLst, tCall, tDrop, tIf, tAnd, tOr, tNot, tAndV, tOrV, tNotV, tSl, tPart, tNoPart, tBM, tBM0, rClear, sDPut, tDNewK, rIn, rEq, rNe, scal, rCat, rIx, rIxL, rIxT, rIxS, rAppend, tDGetK, tDInK, L2.start, cxK, cxW, cxKn, cxWn, cpK, cpW, List.map_cons, List.map_nil, List.cons_append, List.nil_append, List.append_nil, List.length_cons, List.length_nil, List.replicate, List.set_cons_zero, List.set_cons_succ, List.getElem?_cons_zero, List.getElem?_cons_succ, Option.some.injEq, exists_eq_left', exists_eq_left, exists_and_left, exists_eq', exists_const, V.int.injEq, V.bl.injEq, V.str.injEq, V.ref.injEq, V.ty.injEq, List.cons.injEq, and_true, true_and, reduceCtorEq, false_and, and_false, exists_false, or_false, false_or, decide_eq_true_eq, Bool.not_eq_true', decide_eq_false_iff_not, if_true, if_false, Bool.false_eq_true, ite_true, ite_false, Bool.not_true, Bool.not_false, Nat.reduceAdd, Nat.reduceSub, and_assoc]
    refine ⟨by decide, ite2 (fun _ => ?_) (fun _ => ?_)⟩
    refine ⟨p, _, _, _, rfl, tb, fun pb H1 e1 tb1 => ⟨col, rfl, by omega, hT, fun H2 e2 => ?_⟩⟩
    have hB : ∃ y l st way, Tab H2 pb y l st ∧ Same H H2 ∧ way = col.map oppT ∧ way.length ≤ 240 ∧ ∀ x ∈ way, isTurn x := ⟨_, _, _, _, tb1.same e2, e1.trans e2, rfl, by rw [List.length_map]; exact hl, fun x hx => by obtain ⟨z, h1, rfl⟩ := List.mem_map.mp hx; exact opp_turn (hT z h1)⟩
    clear tb1 e1 e2
    rotate_left
    have hB : ∃ y l st way, Tab H p y l st ∧ Same H H ∧ way = col ∧ way.length ≤ 240 ∧ ∀ x ∈ way, isTurn x := ⟨_, _, _, _, tb, .refl _, rfl, hl, hT⟩
    all_goals
      obtain ⟨y, l, st, way, tbB, eB, hway, hwl, hwT⟩ := hB
      try simp only [rSlL, tSeq, tIfS, tTest, tOp, tVar, tC, tCB, tCons, tNil, tRet, tNext, tAsg, gName, gTup, gCons, gNil, tB, tUn, rU, rI0, rI, tTup, tLst, tCall, tDrop, tIf, tAnd, tOr, tNot, tAndV, tOrV, tNotV, tSl, tPart, tNoPart, tBM, tBM0, rClear, sDPut, tDNewK, rIn, rEq, rNe, scal, rCat, rIx, rIxL, rIxT, rIxS, rAppend, tDGetK, tDInK, L2.start, cxK, cxW, cxKn, cxWn, cpK, cpW, List.map_cons, List.map_nil, List.cons_append, List.nil_append, List.append_nil, List.length_cons, List.length_nil, List.replicate, List.set_cons_zero, List.set_cons_succ, List.getElem?_cons_zero, List.getElem?_cons_succ, Option.some.injEq, exists_eq_left', exists_eq_left, exists_and_left, exists_eq', exists_const, V.int.injEq, V.bl.injEq, V.str.injEq, V.ref.injEq, V.ty.injEq, List.cons.injEq, and_true, true_and, reduceCtorEq, false_and, and_false, exists_false, or_false, false_or, decide_eq_true_eq, Bool.not_eq_true', decide_eq_false_iff_not, if_true, if_false, Bool.false_eq_true, ite_true, ite_false, Bool.not_true, Bool.not_false, Nat.reduceAdd, Nat.reduceSub, and_assoc]
      first | rw [← hway] | (obtain rfl := hway)
      refine ⟨⟨by decide, by decide⟩, by decide, _, y, l, st, _, rfl, tbB, fun pr H3 e3 tr => ⟨⟨by decide, by decide⟩, by decide, ite2 (fun _ => ?_) (fun _ => ?_)⟩⟩
      · refine ⟨pr, (y, _, _), way, rfl, ⟨pr, rfl, tr⟩, hwT, fun bk kns H4 _ e4 q1 _ l1 => ?_⟩
        obtain ⟨_, kv, ek, hkv, hkr⟩ := l1
        cases ek
        have hki := hkr.int
        refine ⟨4, rfl, by decide, by decide, for_range (lo := 0) (n := 4) (fun i σ G => Same H4 G ∧ ∃ (pk : Addr) (l' : List Nat) (s' : Int) (v4 v5 : Option V), σ = [some (.ref pk), some (.str (sOf way)), some (.int c), some (.ref bk), v4, v5] ∧ Tab G pk y l' s') ⟨.refl _, pr, _, _, none, none, rfl, tr.same e4⟩ ?_ ?_⟩
        · rintro i σ G hi ⟨g1, pk, l', s', v4, v5, rfl, tk⟩
          simp only [rSlL, tSeq, tIfS, tTest, tOp, tVar, tC, tCB, tCons, tNil, tRet, tNext, tAsg, gName, gTup, gCons, gNil, tB, tUn, rU, rI0, rI, tTup, tLst, tCall, tDrop, tIf, tAnd, tOr, tNot, tAndV, tOrV, tNotV, tSl, tPart, tNoPart, tBM, tBM0, rClear, sDPut, tDNewK, rIn, rEq, rNe, scal, rCat, rIx, rIxL, rIxT, rIxS, rAppend, tDGetK, tDInK, L2.start, cxK, cxW, cxKn, cxWn, cpK, cpW, List.map_cons, List.map_nil, List.cons_append, List.nil_append, List.append_nil, List.length_cons, List.length_nil, List.replicate, List.set_cons_zero, List.set_cons_succ, List.getElem?_cons_zero, List.getElem?_cons_succ, Option.some.injEq, exists_eq_left', exists_eq_left, exists_and_left, exists_eq', exists_const, V.int.injEq, V.bl.injEq, V.str.injEq, V.ref.injEq, V.ty.injEq, List.cons.injEq, and_true, true_and, reduceCtorEq, false_and, and_false, exists_false, or_false, false_or, decide_eq_true_eq, Bool.not_eq_true', decide_eq_false_iff_not, if_true, if_false, Bool.false_eq_true, ite_true, ite_false, Bool.not_true, Bool.not_false, Nat.reduceAdd, Nat.reduceSub, and_assoc]
          refine ⟨kv, .inl (SqL.of (g1 _ _ hkv)), rfl, by rw [hki]; simp [L2.flatV], ?_⟩
          refine ite2 (fun _ => ?_) (fun _ => ?_)
          · obtain ⟨x, hx⟩ := abc_ex (c / 16 + 5 * (0 + (i : Int)))
            have z4 : l'.length ≤ sizeLine := by rw [tk.four, sizeLine_eq]; decide
            have c1 : cutN l' none (some (0 + (i : Int))) = l'.take i := by rw [Int.zero_add]; exact cutN_lo (by rw [tk.four]; omega)
            have c2 : cutN l' (some (0 + (i : Int) + 1)) none = l'.drop (min (i + 1) l'.length) := by rw [show (0 + (i : Int) + 1) = ((i + 1 : Nat) : Int) by omega]; exact cutN_hi
            have cl := cut_len (x := x) tk.four (show i < 4 from hi)
            have cl2 : (l'.take i ++ [x]).length ≤ 4 := by rw [List.length_append] at cl; omega
            have cl1 : (l'.take i).length + 1 ≤ 4 := by rw [List.length_append] at cl2; exact cl2
            refine ⟨⟨by decide, by decide⟩, .inl ⟨by decide, by decide⟩, by decide, by decide +kernel, x, hx, _, SqT.of tk.at_, _, rfl, _, SqT.of tk.at_, _, rfl, l', rfl, z4, ?_, _, SqT.of tk.at_, _, rfl, l', rfl, z4, ?_, _, SqT.of tk.at_, _, rfl, by decide, fun pz hpz => ?_⟩
            · rw [c1, sOf_len, sizeLine_eq]; show (l'.take i).length + 1 ≤ _; omega
            · rw [c1, c2]
              show (sOf (l'.take i) ++ sOf [x]).length + _ ≤ _
              rw [sOf_append, sOf_len, sOf_len, sizeLine_eq]
              rw [List.length_append] at cl; omega
            · rw [c1, c2]
              have e5 : sOf (l'.take i) ++ { cps := #[x] } ++ sOf (l'.drop (min (i + 1) l'.length)) = sOf (l'.take i ++ [x] ++ l'.drop (min (i + 1) l'.length)) := by
                show sOf (l'.take i) ++ sOf [x] ++ _ = _
                rw [sOf_append, sOf_append]
              rw [e5]
              exact ⟨g1.trans (same_upd hpz), _, _, ⟨upd_same, tk.lay, cl, tk.low, tk.high⟩⟩
          · exact ⟨g1, _, _, tk⟩
        · rintro σ G ⟨g1, pk, l', s', v4, v5, rfl, tk⟩
          simp only [rSlL, tSeq, tIfS, tTest, tOp, tVar, tC, tCB, tCons, tNil, tRet, tNext, tAsg, gName, gTup, gCons, gNil, tB, tUn, rU, rI0, rI, tTup, tLst, tCall, tDrop, tIf, tAnd, tOr, tNot, tAndV, tOrV, tNotV, tSl, tPart, tNoPart, tBM, tBM0, rClear, sDPut, tDNewK, rIn, rEq, rNe, scal, rCat, rIx, rIxL, rIxT, rIxS, rAppend, tDGetK, tDInK, L2.start, cxK, cxW, cxKn, cxWn, cpK, cpW, List.map_cons, List.map_nil, List.cons_append, List.nil_append, List.append_nil, List.length_cons, List.length_nil, List.replicate, List.set_cons_zero, List.set_cons_succ, List.getElem?_cons_zero, List.getElem?_cons_succ, Option.some.injEq, exists_eq_left', exists_eq_left, exists_and_left, exists_eq', exists_const, V.int.injEq, V.bl.injEq, V.str.injEq, V.ref.injEq, V.ty.injEq, List.cons.injEq, and_true, true_and, reduceCtorEq, false_and, and_false, exists_false, or_false, false_or, decide_eq_true_eq, Bool.not_eq_true', decide_eq_false_iff_not, if_true, if_false, Bool.false_eq_true, ite_true, ite_false, Bool.not_true, Bool.not_false, Nat.reduceAdd, Nat.reduceSub, and_assoc]
          refine ⟨by decide, fun pz hpz => ?_⟩
          exact q _ _ (y, l', s') way (((eB.trans e3).trans (e4.trans g1)).trans (same_upd hpz)) ⟨pz, pk, rfl, upd_same, pk, rfl, tk.same (same_upd hpz)⟩ hwl hwT
      · refine ⟨by decide, fun pz hpz => ?_⟩
        exact q _ _ (y, _, _) way ((eB.trans e3).trans (same_upd hpz)) ⟨pz, pr, rfl, upd_same, pr, rfl, tr.same (same_upd hpz)⟩ hwl hwT
end
end Wb

set_option Elab.async false
set_option linter.all false
set_option maxRecDepth 100000
set_option maxHeartbeats 4000000
--ITERS {'_law_turns_here': 'str', 'turns': 'str'}
--VT {'_law_turns_here': 's', 'turns': 's', '_law_known': 'li', '_law_hole': 'i', '_law_colour': 's', '_law_out': 'li', '_law_turn': 's', '_law_at_here': 'i', '_law_strand_here': 'tup'}
namespace Wb
open PySem L2
section
variable {P : Program} {w : World} {K : PySem.W.Frag} {mg : Str → Option Value} {base : Heap}
def spHurt : Sp := fun vs H Q _ => ∃ (v : V) (t : T3) (col : List Nat) (c : Int), vs = [v, .int c] ∧ isStrand H (t, col) v ∧ (∀ x ∈ col, isTurn x) ∧ col.length ≤ 240 ∧ ∀ (v : V) (H' : Hp) (t' : T3) (col' : List Nat), Same H H' → isStrand H' (t', col') v → col'.length ≤ 240 → (∀ x ∈ col', isTurn x) → Q v H'
theorem seq_one {t u : TS} {D : Ends} {σ : St} {H : Hp} (h : t { D with nx := u D } σ H) : tSeq t u D σ H := h
theorem if_one {c : TT} {t u : TS} {D : Ends} {σ : St} {H : Hp} (h : c σ H fun b H1 => if b = true then t D σ H1 else u D σ H1) : tIfS c t u D σ H := h
theorem ok_hurt {f : Addr} {fd : FuncData} (F : Fun K "_law_hurt" "_law_hurt" (tp 34) f fd) (h_len : mg "len" = none) (h_max : mg "max" = none) : FnOk P w K mg base CX0 1 f fd ["_law_strand_here", "_law_cell"] spHurt := by
  have SC : FnScope ["_law_strand_here", "_law_cell", "_law_card_here", "_law_turns_here", "_law_at_here", "_law_turn", "_law_hole", "_law_colour"] ["_law_strand_here", "_law_cell"] (defScope (tp 34)) := ⟨rfl, rfl, rfl, by decide +kernel, rfl, by decide +kernel, by decide +kernel⟩
  refine F.ok SC (fun vs H Q E h => ?_) (fun cdv A outer s H vs Q E hr h => ?_)
  · obtain ⟨v, t, col, c, rfl, _⟩ := h; rfl
  · obtain ⟨v, t, col, c, rfl, ⟨p, pc, rfl, hp, _, epc, tb⟩, hT, hl, q⟩ := h
    cases epc
    refine ⟨_, (pss_cons (ps_asg (pv 0) (pg_tupK (K := K) (n := 2) rfl rfl (pgs_cons (pg_name (i := 2) SC.nd rfl (by first | exact Or.inl rfl | exact Or.inr rfl)) (pgs_cons (pg_name (i := 3) SC.nd rfl (by first | exact Or.inl rfl | exact Or.inr rfl)) pgs_nil))))
      (pss_cons (ps_set (i := 4) SC.nd rfl (by first | exact Or.inl rfl | exact Or.inr rfl) (pe_op op_mod (pe_op op_fdiv (pv 1) pe_int) (pe_callB (call_max2 rfl) (by rfl) h_max PyProof.Rows.boot_max (pa_cons pe_int (pa_cons (pe_callB (call_lenK (K := K) rfl) (by rfl) h_len PySem.boot_len (pa_cons (pv 3) pa_nil)) pa_nil)))))
      (pss_cons (ps_set (i := 5) SC.nd rfl (by first | exact Or.inl rfl | exact Or.inr rfl) (pe_ix ix_str pe_str (pe_op op_mod (pe_op op_fdiv (pv 1) pe_int) pe_int) (fun _ _ => rfl)))
      (pss_cons (ps_if (pt_cmpR op_eq (pe_op op_mod (pv 1) pe_int) pe_int (nomark _)) (pss_one (ps_set (i := 3) SC.nd rfl (by first | exact Or.inl rfl | exact Or.inr rfl) (pe_op op_add_str (pe_op op_add_str (pe_slice sl_str (pv 3) po_none (po_some (pv 4))) (pv 5)) (pe_slice sl_str (pv 3) (po_some (pe_op op_add (pv 4) pe_int)) po_none)))) pss_nil)
      (pss_cons (ps_if (pt_cmpR op_eq (pe_op op_mod (pv 1) pe_int) pe_int (nomark _)) (pss_cons (ps_set (i := 6) SC.nd rfl (by first | exact Or.inl rfl | exact Or.inr rfl) (pe_op op_mod (pe_op op_fdiv (pv 1) pe_int) pe_int))
      (pss_cons (ps_set (i := 7) SC.nd rfl (by first | exact Or.inl rfl | exact Or.inr rfl) (pe_ix ix_str pe_str (pe_op op_mod (pe_op op_fdiv (pv 1) pe_int) pe_int) (fun _ _ => rfl)))
      (pss_one (ps_set (i := 2) SC.nd rfl (by first | exact Or.inl rfl | exact Or.inr rfl) (pe_tup (pa_cons (pe_ix (ix_tupK (K := K) rfl) (pv 2) pe_int (fun _ _ => rfl)) (pa_cons (pe_op op_add_str (pe_op op_add_str (pe_slice sl_str (pe_ix (ix_tupK (K := K) rfl) (pv 2) pe_int (fun _ _ => rfl)) po_none (po_some (pv 6))) (pv 7)) (pe_slice sl_str (pe_ix (ix_tupK (K := K) rfl) (pv 2) pe_int (fun _ _ => rfl)) (po_some (pe_op op_add (pv 6) pe_int)) po_none)) (pa_cons (pe_ix (ix_tupK (K := K) rfl) (pv 2) pe_int (fun _ _ => rfl)) pa_nil)))))))) pss_nil)
      (pss_cons (ps_if (PW.pt (pw_and (pt_cmpR op_eq (pe_op op_mod (pv 1) pe_int) pe_int (nomark _)) (pw_and (pt_cmpR op_eq (pe_op op_mod (pe_op op_fdiv (pv 1) pe_int) pe_int) pe_int (nomark _)) (pw_and1 (pt_cmpR op_lt (pe_callB (call_lenK (K := K) rfl) (by rfl) h_len PySem.boot_len (pa_cons (pv 3) pa_nil)) pe_int (nomark _)))))) (pss_one (ps_set (i := 3) SC.nd rfl (by first | exact Or.inl rfl | exact Or.inr rfl) (pe_op op_add_str (pv 3) (pv 5)))) pss_nil)
      (pss_cons (ps_if (PW.pt (pw_and (pt_cmpR op_eq (pe_op op_mod (pv 1) pe_int) pe_int (nomark _)) (pw_and1 (pt_cmpR op_eq (pe_op op_mod (pe_op op_fdiv (pv 1) pe_int) pe_int) pe_int (nomark _))))) (pss_one (ps_set (i := 3) SC.nd rfl (by first | exact Or.inl rfl | exact Or.inr rfl) (pe_slice sl_str (pv 3) po_none (po_some (pe_op op_mod (pe_op op_fdiv (pv 1) pe_int) (pe_op op_add (pe_callB (call_lenK (K := K) rfl) (by rfl) h_len PySem.boot_len (pa_cons (pv 3) pa_nil)) pe_int)))))) pss_nil)
      (pss_one (ps_ret (pe_tup (pa_cons (pv 2) (pa_cons (pv 3) pa_nil)))))))))))), ?_⟩
    refine seq_one ?_
    simp only [rSlL, tTest, tOp, tVar, tC, tCB, tCons, tNil, tRet, tNext, tAsg, gName, gTup, gCons, gNil, tB, tUn, rU, rI0, rI, tTup, tLst, tCall, tDrop, tIf, tAnd, tOr, tNot, tAndV, tOrV, tNotV, tSl, tPart, tNoPart, tBM, tBM0, rClear, sDPut, tDNewK, rIn, rEq, rNe, scal, rCat, rIx, rIxL, rIxT, rIxS, rAppend, tDGetK, tDInK, L2.start, cxK, cxW, cxKn, cxWn, cpK, cpW, List.map_cons, List.map_nil, List.cons_append, List.nil_append, List.append_nil, List.length_cons, List.length_nil, List.replicate, List.set_cons_zero, List.set_cons_succ, List.getElem?_cons_zero, List.getElem?_cons_succ, Option.some.injEq, exists_eq_left', exists_eq_left, exists_and_left, exists_eq', exists_const, V.int.injEq, V.bl.injEq, V.str.injEq, V.ref.injEq, V.ty.injEq, List.cons.injEq, and_true, true_and, reduceCtorEq, false_and, and_false, exists_false, or_false, false_or, decide_eq_true_eq, Bool.not_eq_true', decide_eq_false_iff_not, if_true, if_false, Bool.false_eq_true, ite_true, ite_false, Bool.not_true, Bool.not_false, Nat.reduceAdd, Nat.reduceSub, and_assoc]
    refine ⟨_, SqT.of hp, rfl, ?_⟩
    simp only [rSlL, tTest, tOp, tVar, tC, tCB, tCons, tNil, tRet, tNext, tAsg, gName, gTup, gCons, gNil, tB, tUn, rU, rI0, rI, tTup, tLst, tCall, tDrop, tIf, tAnd, tOr, tNot, tAndV, tOrV, tNotV, tSl, tPart, tNoPart, tBM, tBM0, rClear, sDPut, tDNewK, rIn, rEq, rNe, scal, rCat, rIx, rIxL, rIxT, rIxS, rAppend, tDGetK, tDInK, L2.start, cxK, cxW, cxKn, cxWn, cpK, cpW, List.map_cons, List.map_nil, List.cons_append, List.nil_append, List.append_nil, List.length_cons, List.length_nil, List.replicate, List.set_cons_zero, List.set_cons_succ, List.getElem?_cons_zero, List.getElem?_cons_succ, Option.some.injEq, exists_eq_left', exists_eq_left, exists_and_left, exists_eq', exists_const, V.int.injEq, V.bl.injEq, V.str.injEq, V.ref.injEq, V.ty.injEq, List.cons.injEq, and_true, true_and, reduceCtorEq, false_and, and_false, exists_false, or_false, false_or, decide_eq_true_eq, Bool.not_eq_true', decide_eq_false_iff_not, if_true, if_false, Bool.false_eq_true, ite_true, ite_false, Bool.not_true, Bool.not_false, Nat.reduceAdd, Nat.reduceSub, and_assoc]
    refine seq_one ?_
    simp only [rSlL, tTest, tOp, tVar, tC, tCB, tCons, tNil, tRet, tNext, tAsg, gName, gTup, gCons, gNil, tB, tUn, rU, rI0, rI, tTup, tLst, tCall, tDrop, tIf, tAnd, tOr, tNot, tAndV, tOrV, tNotV, tSl, tPart, tNoPart, tBM, tBM0, rClear, sDPut, tDNewK, rIn, rEq, rNe, scal, rCat, rIx, rIxL, rIxT, rIxS, rAppend, tDGetK, tDInK, L2.start, cxK, cxW, cxKn, cxWn, cpK, cpW, List.map_cons, List.map_nil, List.cons_append, List.nil_append, List.append_nil, List.length_cons, List.length_nil, List.replicate, List.set_cons_zero, List.set_cons_succ, List.getElem?_cons_zero, List.getElem?_cons_succ, Option.some.injEq, exists_eq_left', exists_eq_left, exists_and_left, exists_eq', exists_const, V.int.injEq, V.bl.injEq, V.str.injEq, V.ref.injEq, V.ty.injEq, List.cons.injEq, and_true, true_and, reduceCtorEq, false_and, and_false, exists_false, or_false, false_or, decide_eq_true_eq, Bool.not_eq_true', decide_eq_false_iff_not, if_true, if_false, Bool.false_eq_true, ite_true, ite_false, Bool.not_true, Bool.not_false, Nat.reduceAdd, Nat.reduceSub, and_assoc]
    have zlen : ∀ l : List Nat, l.length ≤ 240 → (sOf l).length ≤ sizeLine := fun l h => by rw [sOf_len, sizeLine_eq]; omega
    refine ⟨⟨by decide, by decide⟩, col.length, ⟨zlen _ hl, by rw [sOf_len]⟩, by split <;> omega, ?_⟩
    obtain ⟨k, hk⟩ : ∃ k : Nat, c / 4 % (if (col.length : Int) > 1 then (col.length : Int) else 1) = (k : Int) := ⟨_, (Int.toNat_of_nonneg (Int.emod_nonneg _ (by split <;> omega))).symm⟩
    have hkl : k ≤ col.length ∧ (k < col.length ∨ col.length = 0) := by
      have := Int.emod_lt_of_pos (c / 4) (show (0 : Int) < (if (col.length : Int) > 1 then (col.length : Int) else 1) by split <;> omega)
      rw [hk] at this
      split at this <;> omega
    rw [hk]
    clear hk
    refine seq_one ?_
    simp only [rSlL, tTest, tOp, tVar, tC, tCB, tCons, tNil, tRet, tNext, tAsg, gName, gTup, gCons, gNil, tB, tUn, rU, rI0, rI, tTup, tLst, tCall, tDrop, tIf, tAnd, tOr, tNot, tAndV, tOrV, tNotV, tSl, tPart, tNoPart, tBM, tBM0, rClear, sDPut, tDNewK, rIn, rEq, rNe, scal, rCat, rIx, rIxL, rIxT, rIxS, rAppend, tDGetK, tDInK, L2.start, cxK, cxW, cxKn, cxWn, cpK, cpW, List.map_cons, List.map_nil, List.cons_append, List.nil_append, List.append_nil, List.length_cons, List.length_nil, List.replicate, List.set_cons_zero, List.set_cons_succ, List.getElem?_cons_zero, List.getElem?_cons_succ, Option.some.injEq, exists_eq_left', exists_eq_left, exists_and_left, exists_eq', exists_const, V.int.injEq, V.bl.injEq, V.str.injEq, V.ref.injEq, V.ty.injEq, List.cons.injEq, and_true, true_and, reduceCtorEq, false_and, and_false, exists_false, or_false, false_or, decide_eq_true_eq, Bool.not_eq_true', decide_eq_false_iff_not, if_true, if_false, Bool.false_eq_true, ite_true, ite_false, Bool.not_true, Bool.not_false, Nat.reduceAdd, Nat.reduceSub, and_assoc]
    obtain ⟨x, hx, ex⟩ := fbi_at (c / 7 % 3) (Int.emod_nonneg _ (by decide)) (Int.emod_lt_of_pos _ (by decide))
    refine ⟨⟨by decide, by decide⟩, by decide, by decide +kernel, x, ex, ?_⟩
    have zl : ∀ l : List Nat, l.length ≤ 240 → l.length ≤ sizeLine := fun l h => by rw [sizeLine_eq]; omega
    have glue : ∀ (a b : List Nat) (z : Nat), sOf a ++ { cps := #[z] } ++ sOf b = sOf (a ++ [z] ++ b) := fun a b z => by
      show sOf a ++ sOf [z] ++ sOf b = _
      rw [sOf_append, sOf_append]
    have gluel : ∀ (a : List Nat) (z : Nat), (sOf a ++ { cps := #[z] }).length = a.length + 1 := fun a z => by
      show (sOf a ++ sOf [z]).length = _
      rw [sOf_append, sOf_len, List.length_append]; rfl
    refine seq_one (if_one ?_)
    simp only [rSlL, tTest, tOp, tVar, tC, tCB, tCons, tNil, tRet, tNext, tAsg, gName, gTup, gCons, gNil, tB, tUn, rU, rI0, rI, tTup, tLst, tCall, tDrop, tIf, tAnd, tOr, tNot, tAndV, tOrV, tNotV, tSl, tPart, tNoPart, tBM, tBM0, rClear, sDPut, tDNewK, rIn, rEq, rNe, scal, rCat, rIx, rIxL, rIxT, rIxS, rAppend, tDGetK, tDInK, L2.start, cxK, cxW, cxKn, cxWn, cpK, cpW, List.map_cons, List.map_nil, List.cons_append, List.nil_append, List.append_nil, List.length_cons, List.length_nil, List.replicate, List.set_cons_zero, List.set_cons_succ, List.getElem?_cons_zero, List.getElem?_cons_succ, Option.some.injEq, exists_eq_left', exists_eq_left, exists_and_left, exists_eq', exists_const, V.int.injEq, V.bl.injEq, V.str.injEq, V.ref.injEq, V.ty.injEq, List.cons.injEq, and_true, true_and, reduceCtorEq, false_and, and_false, exists_false, or_false, false_or, decide_eq_true_eq, Bool.not_eq_true', decide_eq_false_iff_not, if_true, if_false, Bool.false_eq_true, ite_true, ite_false, Bool.not_true, Bool.not_false, Nat.reduceAdd, Nat.reduceSub, and_assoc]
    refine ⟨by decide, ite2 (fun h1 => ?_) (fun h1 => ?_)⟩
    have c1 : cutN col none (some (k : Int)) = col.take k := cutN_lo hkl.1
    have c2 : cutN col (some ((k : Int) + 1)) none = col.drop (min (k + 1) col.length) := by rw [show ((k : Int) + 1) = ((k + 1 : Nat) : Int) by omega]; exact cutN_hi
    have cl : (col.take k ++ [x] ++ col.drop (min (k + 1) col.length)).length ≤ 240 := by simp; omega
    have ct : ∀ z ∈ col.take k ++ [x] ++ col.drop (min (k + 1) col.length), isTurn z := fun z hz => by
      rcases List.mem_append.mp hz with hz | hz
      · rcases List.mem_append.mp hz with hz | hz
        · exact hT z (List.mem_of_mem_take hz)
        · rw [List.mem_singleton.mp hz]; exact hx
      · exact hT z (List.mem_of_mem_drop hz)
    refine ⟨col, rfl, zl _ hl, ?_, col, rfl, zl _ hl, ?_, ?_⟩
    · rw [c1, sOf_len, List.length_take, sizeLine_eq]; show _ + 1 ≤ _; omega
    · rw [c1, c2, gluel, sOf_len, List.length_take, List.length_drop, sizeLine_eq]; omega
    rw [c1, c2, glue]
    generalize col.take k ++ [x] ++ col.drop (min (k + 1) col.length) = col1 at cl ct ⊢
    clear c1 c2
    rotate_left
    obtain ⟨col1, hc1⟩ : ∃ z, z = col := ⟨_, rfl⟩
    have cl : col1.length ≤ 240 := by rw [hc1]; exact hl
    have ct : ∀ z ∈ col1, isTurn z := by rw [hc1]; exact hT
    rw [← hc1]
    clear hc1
    all_goals
      refine seq_one (if_one ?_)
      simp only [rSlL, tTest, tOp, tVar, tC, tCB, tCons, tNil, tRet, tNext, tAsg, gName, gTup, gCons, gNil, tB, tUn, rU, rI0, rI, tTup, tLst, tCall, tDrop, tIf, tAnd, tOr, tNot, tAndV, tOrV, tNotV, tSl, tPart, tNoPart, tBM, tBM0, rClear, sDPut, tDNewK, rIn, rEq, rNe, scal, rCat, rIx, rIxL, rIxT, rIxS, rAppend, tDGetK, tDInK, L2.start, cxK, cxW, cxKn, cxWn, cpK, cpW, List.map_cons, List.map_nil, List.cons_append, List.nil_append, List.append_nil, List.length_cons, List.length_nil, List.replicate, List.set_cons_zero, List.set_cons_succ, List.getElem?_cons_zero, List.getElem?_cons_succ, Option.some.injEq, exists_eq_left', exists_eq_left, exists_and_left, exists_eq', exists_const, V.int.injEq, V.bl.injEq, V.str.injEq, V.ref.injEq, V.ty.injEq, List.cons.injEq, and_true, true_and, reduceCtorEq, false_and, and_false, exists_false, or_false, false_or, decide_eq_true_eq, Bool.not_eq_true', decide_eq_false_iff_not, if_true, if_false, Bool.false_eq_true, ite_true, ite_false, Bool.not_true, Bool.not_false, Nat.reduceAdd, Nat.reduceSub, and_assoc]
      refine ⟨by decide, ite2 (fun h2 => ?_) (fun h2 => ?_)⟩
      refine seq_one ?_
      simp only [rSlL, tTest, tOp, tVar, tC, tCB, tCons, tNil, tRet, tNext, tAsg, gName, gTup, gCons, gNil, tB, tUn, rU, rI0, rI, tTup, tLst, tCall, tDrop, tIf, tAnd, tOr, tNot, tAndV, tOrV, tNotV, tSl, tPart, tNoPart, tBM, tBM0, rClear, sDPut, tDNewK, rIn, rEq, rNe, scal, rCat, rIx, rIxL, rIxT, rIxS, rAppend, tDGetK, tDInK, L2.start, cxK, cxW, cxKn, cxWn, cpK, cpW, List.map_cons, List.map_nil, List.cons_append, List.nil_append, List.append_nil, List.length_cons, List.length_nil, List.replicate, List.set_cons_zero, List.set_cons_succ, List.getElem?_cons_zero, List.getElem?_cons_succ, Option.some.injEq, exists_eq_left', exists_eq_left, exists_and_left, exists_eq', exists_const, V.int.injEq, V.bl.injEq, V.str.injEq, V.ref.injEq, V.ty.injEq, List.cons.injEq, and_true, true_and, reduceCtorEq, false_and, and_false, exists_false, or_false, false_or, decide_eq_true_eq, Bool.not_eq_true', decide_eq_false_iff_not, if_true, if_false, Bool.false_eq_true, ite_true, ite_false, Bool.not_true, Bool.not_false, Nat.reduceAdd, Nat.reduceSub, and_assoc]
      obtain ⟨j, hj, hj4⟩ : ∃ j : Nat, c / 4 % 4 = (j : Int) ∧ j < 4 := ⟨(c / 4 % 4).toNat, by omega, by omega⟩
      rw [hj]
      refine ⟨⟨by decide, by decide⟩, by decide, ?_⟩
      refine seq_one ?_
      simp only [rSlL, tTest, tOp, tVar, tC, tCB, tCons, tNil, tRet, tNext, tAsg, gName, gTup, gCons, gNil, tB, tUn, rU, rI0, rI, tTup, tLst, tCall, tDrop, tIf, tAnd, tOr, tNot, tAndV, tOrV, tNotV, tSl, tPart, tNoPart, tBM, tBM0, rClear, sDPut, tDNewK, rIn, rEq, rNe, scal, rCat, rIx, rIxL, rIxT, rIxS, rAppend, tDGetK, tDInK, L2.start, cxK, cxW, cxKn, cxWn, cpK, cpW, List.map_cons, List.map_nil, List.cons_append, List.nil_append, List.append_nil, List.length_cons, List.length_nil, List.replicate, List.set_cons_zero, List.set_cons_succ, List.getElem?_cons_zero, List.getElem?_cons_succ, Option.some.injEq, exists_eq_left', exists_eq_left, exists_and_left, exists_eq', exists_const, V.int.injEq, V.bl.injEq, V.str.injEq, V.ref.injEq, V.ty.injEq, List.cons.injEq, and_true, true_and, reduceCtorEq, false_and, and_false, exists_false, or_false, false_or, decide_eq_true_eq, Bool.not_eq_true', decide_eq_false_iff_not, if_true, if_false, Bool.false_eq_true, ite_true, ite_false, Bool.not_true, Bool.not_false, Nat.reduceAdd, Nat.reduceSub, and_assoc]
      obtain ⟨x2, hx2⟩ := abc_ex (c / 16)
      refine ⟨⟨by decide, by decide⟩, by decide, by decide +kernel, x2, hx2, ?_⟩
      have z4 : t.2.1.length ≤ sizeLine := by have : t.2.1.length = 4 := tb.four; rw [this, sizeLine_eq]; decide
      have f4 : t.2.1.length = 4 := tb.four
      have c1 : cutN t.2.1 none (some (j : Int)) = t.2.1.take j := cutN_lo (by omega)
      have c2 : cutN t.2.1 (some ((j : Int) + 1)) none = t.2.1.drop (min (j + 1) t.2.1.length) := by rw [show ((j : Int) + 1) = ((j + 1 : Nat) : Int) by omega]; exact cutN_hi
      have c4 := cut_len (x := x2) f4 hj4
      refine ⟨_, SqT.of tb.at_, _, rfl, _, SqT.of tb.at_, _, rfl, t.2.1, rfl, z4, ?_, _, SqT.of tb.at_, _, rfl, t.2.1, rfl, z4, ?_, _, SqT.of tb.at_, _, rfl, by decide, fun pz hpz => ?_⟩
      · rw [c1, sOf_len, List.length_take, sizeLine_eq]; show _ + 1 ≤ _; omega
      · rw [c1, c2, gluel, sOf_len, List.length_take, List.length_drop, sizeLine_eq]; omega
      rw [c1, c2, glue]
      have hC : ∃ y l s', Tab (upd H pz (.tup [.str (sOf [t.1]), .str (sOf (t.2.1.take j ++ [x2] ++ t.2.1.drop (min (j + 1) t.2.1.length))), .int t.2.2])) pz y l s' ∧ Same H (upd H pz (.tup [.str (sOf [t.1]), .str (sOf (t.2.1.take j ++ [x2] ++ t.2.1.drop (min (j + 1) t.2.1.length))), .int t.2.2])) := ⟨_, _, _, ⟨upd_same, tb.lay, c4, tb.low, tb.high⟩, same_upd hpz⟩
      rotate_left
      have hC : ∃ y l s', Tab H pc y l s' ∧ Same H H := ⟨_, _, _, tb, .refl _⟩
      all_goals
        obtain ⟨y, l, s', tK, eC⟩ := hC
        refine seq_one (if_one ?_)
        simp only [rSlL, tTest, tOp, tVar, tC, tCB, tCons, tNil, tRet, tNext, tAsg, gName, gTup, gCons, gNil, tB, tUn, rU, rI0, rI, tTup, tLst, tCall, tDrop, tIf, tAnd, tOr, tNot, tAndV, tOrV, tNotV, tSl, tPart, tNoPart, tBM, tBM0, rClear, sDPut, tDNewK, rIn, rEq, rNe, scal, rCat, rIx, rIxL, rIxT, rIxS, rAppend, tDGetK, tDInK, L2.start, cxK, cxW, cxKn, cxWn, cpK, cpW, List.map_cons, List.map_nil, List.cons_append, List.nil_append, List.append_nil, List.length_cons, List.length_nil, List.replicate, List.set_cons_zero, List.set_cons_succ, List.getElem?_cons_zero, List.getElem?_cons_succ, Option.some.injEq, exists_eq_left', exists_eq_left, exists_and_left, exists_eq', exists_const, V.int.injEq, V.bl.injEq, V.str.injEq, V.ref.injEq, V.ty.injEq, List.cons.injEq, and_true, true_and, reduceCtorEq, false_and, and_false, exists_false, or_false, false_or, decide_eq_true_eq, Bool.not_eq_true', decide_eq_false_iff_not, if_true, if_false, Bool.false_eq_true, ite_true, ite_false, Bool.not_true, Bool.not_false, Nat.reduceAdd, Nat.reduceSub, and_assoc]
        refine ⟨by decide, ite2 (fun h3 => ⟨⟨by decide, by decide⟩, by decide, ite2 (fun h4 => ⟨col1.length, ⟨zlen _ cl, by rw [sOf_len]⟩, ite2 (fun h5 => ⟨?_, ?_⟩) (fun h5 => ?_)⟩) (fun h4 => ?_)⟩) (fun h3 => ?_)⟩
        · rw [sOf_len, sizeLine_eq]; show _ + 1 ≤ _; omega
        rw [show sOf col1 ++ { cps := #[x] } = sOf (col1 ++ [x]) from sOf_append col1 [x]]
        have cl : (col1 ++ [x]).length ≤ 240 := by rw [List.length_append]; show _ + 1 ≤ _; omega
        have ct : ∀ z ∈ col1 ++ [x], isTurn z := fun z hz => by
          rcases List.mem_append.mp hz with hz | hz
          · exact ct z hz
          · rw [List.mem_singleton.mp hz]; exact hx
        generalize col1 ++ [x] = col1 at cl ct ⊢
        all_goals
          refine seq_one (if_one ?_)
          simp only [rSlL, tTest, tOp, tVar, tC, tCB, tCons, tNil, tRet, tNext, tAsg, gName, gTup, gCons, gNil, tB, tUn, rU, rI0, rI, tTup, tLst, tCall, tDrop, tIf, tAnd, tOr, tNot, tAndV, tOrV, tNotV, tSl, tPart, tNoPart, tBM, tBM0, rClear, sDPut, tDNewK, rIn, rEq, rNe, scal, rCat, rIx, rIxL, rIxT, rIxS, rAppend, tDGetK, tDInK, L2.start, cxK, cxW, cxKn, cxWn, cpK, cpW, List.map_cons, List.map_nil, List.cons_append, List.nil_append, List.append_nil, List.length_cons, List.length_nil, List.replicate, List.set_cons_zero, List.set_cons_succ, List.getElem?_cons_zero, List.getElem?_cons_succ, Option.some.injEq, exists_eq_left', exists_eq_left, exists_and_left, exists_eq', exists_const, V.int.injEq, V.bl.injEq, V.str.injEq, V.ref.injEq, V.ty.injEq, List.cons.injEq, and_true, true_and, reduceCtorEq, false_and, and_false, exists_false, or_false, false_or, decide_eq_true_eq, Bool.not_eq_true', decide_eq_false_iff_not, if_true, if_false, Bool.false_eq_true, ite_true, ite_false, Bool.not_true, Bool.not_false, Nat.reduceAdd, Nat.reduceSub, and_assoc]
          refine ⟨by decide, ite2 (fun _ => ⟨⟨by decide, by decide⟩, by decide, ite2 (fun _ => ?_) (fun _ => ?_)⟩) (fun _ => ?_)⟩
          · obtain ⟨m, hm⟩ : ∃ m : Nat, c / 8 % ((col1.length : Int) + 1) = (m : Int) := ⟨_, (Int.toNat_of_nonneg (Int.emod_nonneg _ (by omega))).symm⟩
            have hml : m ≤ col1.length := by have := Int.emod_lt_of_pos (c / 8) (show (0 : Int) < (col1.length : Int) + 1 by omega); omega
            refine ⟨⟨by decide, by decide⟩, col1.length, ⟨zlen _ cl, by rw [sOf_len]⟩, by omega, col1, rfl, zl _ cl, by decide, fun pw hpw => ?_⟩
            rw [hm, cutN_lo hml]
            exact q _ _ (y, l, s') _ (eC.trans (same_upd hpw)) ⟨pw, _, rfl, upd_same, _, rfl, tK.same (same_upd hpw)⟩ (by rw [List.length_take]; omega) (fun z hz => ct z (List.mem_of_mem_take hz))
          all_goals
            refine ⟨by decide, fun pw hpw => ?_⟩
            exact q _ _ (y, l, s') _ (eC.trans (same_upd hpw)) ⟨pw, _, rfl, upd_same, _, rfl, tK.same (same_upd hpw)⟩ cl ct
end
end Wb

set_option Elab.async false
set_option linter.all false
set_option maxRecDepth 100000
set_option maxHeartbeats 4000000
--ITERS {'_law_turns_here': 'str', 'turns': 'str'}
--VT {'_law_turns_here': 's', 'turns': 's', 'law._law_one': 'tup', 'law._law_other': 'tup', 'law._law_places()': 'ltt', 'law.left_by()': 'ltt', 'law.plain()': 'tt'}
namespace Wb
open PySem L2
section
variable {P : Program} {w : World} {K : PySem.W.Frag} {mg : Str → Option Value} {base : Heap}
theorem units0 {k : Nat} {A : PySem.Around} (r : Room k A) : A.units < PySem.cLine := by have := r.un; omega
def ttP (m : P3) : List (List Nat) := [[m.1], [m.2.1], [m.2.2]]
theorem ttP_inj {a b : P3} (h : ttP a = ttP b) : a = b := by
  unfold ttP at h
  simp only [List.cons.injEq, and_true] at h
  obtain ⟨a1, a2, a3⟩ := a
  obtain ⟨b1, b2, b3⟩ := b
  simp only at h
  obtain ⟨rfl, rfl, rfl⟩ := h
  rfl
theorem places_tt {H : Hp} {L : List P3} {v : V} (h : isL isPl H L v) : isL isTT H (L.map ttP) v := by
  obtain ⟨p, vs, rfl, h1, h2⟩ := h
  refine ⟨p, vs, rfl, h1, by rw [List.length_map]; exact h2.1, fun i x m a b => ?_⟩
  rw [List.getElem?_map] at b
  obtain ⟨z, g1, rfl⟩ := Option.map_eq_some_iff.mp b
  obtain ⟨q, e1, e2⟩ := h2.2 i x z a g1
  exact ⟨q, e1, e2⟩
theorem dec_map {A B : List P3} : decide (A.map ttP = B.map ttP) = decide (A = B) := by
  by_cases e : A = B
  · subst e; simp
  · rw [decide_eq_false e, decide_eq_false]
    intro z
    refine e (List.map_inj_right (fun x y h => ttP_inj h) |>.mp z)
theorem ok_law {f : Addr} {fd : FuncData} (F : Fun K "law" "law" (tp 36) f fd) (C__law_at : Cal P w K mg base "_law_at" ["_law_script", "_law_k"] 1 (spAt K)) (C__law_strand : Cal P w K mg base "_law_strand" ["_law_script", "_law_at_here"] 4 (spStrand K)) (C__law_kin : Cal P w K mg base "_law_kin" ["_law_card_here", "_law_turns_here", "_law_cell"] 4 spKin) (C__law_hurt : Cal P w K mg base "_law_hurt" ["_law_strand_here", "_law_cell"] 1 spHurt) (C__law_places : Cal P w K mg base "_law_places" ["_law_card_here", "_law_turns_here"] 3 spPlacesS) (C_left_by : Cal P w K mg base "left_by" ["strand"] 4 spLeftBy)
    (C__law_same : Cal P w K mg base "_law_same" ["_law_found", "_law_due"] 2 (spSame 2)) (C_plain : Cal P w K mg base "plain" ["strand"] 5 spPlain) : FnOk P w K mg base CX0 6 f fd ["_law_script"] (spLaw K) := by
  have SC : FnScope ["_law_script", "_law_one", "_law_other", "_law_alike"] ["_law_script"] (defScope (tp 36)) := ⟨rfl, rfl, rfl, by decide +kernel, rfl, by decide +kernel, by decide +kernel⟩
  refine F.ok SC (fun vs H Q E h => ?_) (fun cdv A outer s H vs Q E hr h => ?_)
  · obtain ⟨a, ns, rfl, _⟩ := h; rfl
  · obtain ⟨a, ns, rfl, hS, hl, q⟩ := h
    refine ⟨_, (pss_cons (ps_set (i := 1) SC.nd rfl (by first | exact Or.inl rfl | exact Or.inr rfl) (pe_cal C__law_strand (hr.mono (by decide)) (by rfl) (pa_cons (pv 0) (pa_cons pe_int pa_nil))))
      (pss_cons (ps_set (i := 2) SC.nd rfl (by first | exact Or.inl rfl | exact Or.inr rfl) (pe_cal C__law_hurt (hr.mono (by decide)) (by rfl) (pa_cons (pe_cal C__law_kin (hr.mono (by decide)) (by rfl) (pa_cons (pe_ix (ix_tupK (K := K) rfl) (pv 1) pe_int (fun _ _ => rfl)) (pa_cons (pe_ix (ix_tupK (K := K) rfl) (pv 1) pe_int (fun _ _ => rfl)) (pa_cons (pe_cal C__law_at (hr.mono (by decide)) (by rfl) (pa_cons (pv 0) (pa_cons pe_int pa_nil))) pa_nil)))) (pa_cons (pe_cal C__law_at (hr.mono (by decide)) (by rfl) (pa_cons (pv 0) (pa_cons pe_int pa_nil))) pa_nil))))
      (pss_cons (ps_if (pt_cmpR op_eq (pe_op op_mod (pe_cal C__law_at (hr.mono (by decide)) (by rfl) (pa_cons (pv 0) (pa_cons pe_int pa_nil))) pe_int) pe_int (nomark _)) (pss_one (ps_set (i := 2) SC.nd rfl (by first | exact Or.inl rfl | exact Or.inr rfl) (pe_cal C__law_strand (hr.mono (by decide)) (by rfl) (pa_cons (pv 0) (pa_cons pe_int pa_nil))))) pss_nil)
      (pss_cons (ps_set (i := 3) SC.nd rfl (by first | exact Or.inl rfl | exact Or.inr rfl) (pe_cmpR (op_eq_LTT (units1 hr)) (pe_cal C__law_places (hr.mono (by decide)) (by rfl) (pa_cons (pe_ix (ix_tupK (K := K) rfl) (pv 1) pe_int (fun _ _ => rfl)) (pa_cons (pe_ix (ix_tupK (K := K) rfl) (pv 1) pe_int (fun _ _ => rfl)) pa_nil))) (pe_cal C__law_places (hr.mono (by decide)) (by rfl) (pa_cons (pe_ix (ix_tupK (K := K) rfl) (pv 2) pe_int (fun _ _ => rfl)) (pa_cons (pe_ix (ix_tupK (K := K) rfl) (pv 2) pe_int (fun _ _ => rfl)) pa_nil))) (nomark _)))
      (pss_cons (ps_if (pt_not (pt_val (pe_cal C__law_same (hr.mono (by decide)) (by rfl) (pa_cons (pe_cmpR (op_eq_LTT (units1 hr)) (pe_cal C_left_by (hr.mono (by decide)) (by rfl) (pa_cons (pv 1) pa_nil)) (pe_cal C_left_by (hr.mono (by decide)) (by rfl) (pa_cons (pv 2) pa_nil)) (nomark _)) (pa_cons (pv 3) pa_nil))))) (pss_one (ps_ret pe_bl)) pss_nil)
      (pss_one (ps_ret (pe_cal C__law_same (hr.mono (by decide)) (by rfl) (pa_cons (pe_cmpR (op_eq_TT (units0 hr)) (pe_cal C_plain (hr.mono (by decide)) (by rfl) (pa_cons (pv 1) pa_nil)) (pe_cal C_plain (hr.mono (by decide)) (by rfl) (pa_cons (pv 2) pa_nil)) (nomark _)) (pa_cons (pv 3) pa_nil)))))))))), ?_⟩
    simp only [rSlL, tSeq, tIfS, tTest, tOp, tVar, tC, tCB, tCons, tNil, tRet, tNext, tAsg, gName, gTup, gCons, gNil, tB, tUn, rU, rI0, rI, tTup, tLst, tCall, tDrop, tIf, tAnd, tOr, tNot, tAndV, tOrV, tNotV, tSl, tPart, tNoPart, tBM, tBM0, rClear, sDPut, tDNewK, rIn, rEq, rNe, scal, rCat, rIx, rIxL, rIxT, rIxS, rAppend, tDGetK, tDInK, L2.start, cxK, cxW, cxKn, cxWn, cpK, cpW, List.map_cons, List.map_nil, List.cons_append, List.nil_append, List.append_nil, List.length_cons, List.length_nil, List.replicate, List.set_cons_zero, List.set_cons_succ, List.getElem?_cons_zero, List.getElem?_cons_succ, Option.some.injEq, exists_eq_left', exists_eq_left, exists_and_left, exists_eq', exists_const, V.int.injEq, V.bl.injEq, V.str.injEq, V.ref.injEq, V.ty.injEq, List.cons.injEq, and_true, true_and, reduceCtorEq, false_and, and_false, exists_false, or_false, false_or, decide_eq_true_eq, Bool.not_eq_true', decide_eq_false_iff_not, if_true, if_false, Bool.false_eq_true, ite_true, ite_false, Bool.not_true, Bool.not_false, Nat.reduceAdd, Nat.reduceSub, and_assoc]
    refine ⟨a, ns, 0, rfl, hS, hl, by decide, fun v1 H1 t1 c1 e1 hs1 hl1 hT1 => ?_⟩
    obtain ⟨p1, pc1, rfl, hp1, _, epc, tb1⟩ := id hs1
    cases epc
    simp only [rSlL, tSeq, tIfS, tTest, tOp, tVar, tC, tCB, tCons, tNil, tRet, tNext, tAsg, gName, gTup, gCons, gNil, tB, tUn, rU, rI0, rI, tTup, tLst, tCall, tDrop, tIf, tAnd, tOr, tNot, tAndV, tOrV, tNotV, tSl, tPart, tNoPart, tBM, tBM0, rClear, sDPut, tDNewK, rIn, rEq, rNe, scal, rCat, rIx, rIxL, rIxT, rIxS, rAppend, tDGetK, tDInK, L2.start, cxK, cxW, cxKn, cxWn, cpK, cpW, List.map_cons, List.map_nil, List.cons_append, List.nil_append, List.append_nil, List.length_cons, List.length_nil, List.replicate, List.set_cons_zero, List.set_cons_succ, List.getElem?_cons_zero, List.getElem?_cons_succ, Option.some.injEq, exists_eq_left', exists_eq_left, exists_and_left, exists_eq', exists_const, V.int.injEq, V.bl.injEq, V.str.injEq, V.ref.injEq, V.ty.injEq, List.cons.injEq, and_true, true_and, reduceCtorEq, false_and, and_false, exists_false, or_false, false_or, decide_eq_true_eq, Bool.not_eq_true', decide_eq_false_iff_not, if_true, if_false, Bool.false_eq_true, ite_true, ite_false, Bool.not_true, Bool.not_false, Nat.reduceAdd, Nat.reduceSub, and_assoc]
    refine ⟨_, SqT.of hp1, V.ref pc1, rfl, _, SqT.of hp1, V.str (sOf c1), rfl, a, ns, 3, rfl, e1.seq hS, hl, by decide, fun d3 => ?_⟩
    refine ⟨pc1, t1, c1, d3, rfl, ⟨pc1, rfl, tb1⟩, hT1, hl1, fun v2 H2 t2 c2 e2 hs2 hl2 hT2 => ?_⟩
    refine ⟨a, ns, 4, rfl, (e1.trans e2).seq hS, hl, by decide, fun d4 => ?_⟩
    refine ⟨v2, t2, c2, d4, rfl, hs2, hT2, hl2, fun v3 H3 t3 c3 e3 hs3 hl3 hT3 => ?_⟩
    have e13 := e2.trans e3
    refine ⟨a, ns, 5, rfl, (e1.trans e13).seq hS, hl, by decide, fun d5 => ⟨d5, rfl, by decide, ite2 (fun _ => ?_) (fun _ => ?_)⟩⟩
    refine ⟨a, ns, 6, rfl, (e1.trans e13).seq hS, hl, by decide, fun v4 H4 t4 c4 e4 hs4 hl4 hT4 => ?_⟩
    have hX : ∃ tX cX, Same H1 H4 ∧ isStrand H4 (tX, cX) v4 ∧ cX.length ≤ 240 ∧ ∀ x ∈ cX, isTurn x := ⟨t4, c4, e13.trans e4, hs4, hl4, hT4⟩
    clear e4 hs4 hl4 hT4
    rotate_left
    have hX : ∃ tX cX, Same H1 H3 ∧ isStrand H3 (tX, cX) v3 ∧ cX.length ≤ 240 ∧ ∀ x ∈ cX, isTurn x := ⟨t3, c3, e13, hs3, hl3, hT3⟩
    all_goals
      obtain ⟨tX, cX, eX, hsX, hlX, hTX⟩ := hX
      have hp1X := eX _ _ hp1
      refine ⟨_, SqT.of hp1X, V.ref pc1, rfl, _, SqT.of hp1X, V.str (sOf c1), rfl, pc1, t1, c1, rfl, ⟨pc1, rfl, tb1.same eX⟩, hT1, by omega, fun b5 H5 _ e5 hb5 => ?_⟩
      obtain ⟨pX, pcX, rfl, hpX, _, epc, tbX⟩ := id (Mono.mono e5 hsX)
      cases epc
      simp only [rSlL, tSeq, tIfS, tTest, tOp, tVar, tC, tCB, tCons, tNil, tRet, tNext, tAsg, gName, gTup, gCons, gNil, tB, tUn, rU, rI0, rI, tTup, tLst, tCall, tDrop, tIf, tAnd, tOr, tNot, tAndV, tOrV, tNotV, tSl, tPart, tNoPart, tBM, tBM0, rClear, sDPut, tDNewK, rIn, rEq, rNe, scal, rCat, rIx, rIxL, rIxT, rIxS, rAppend, tDGetK, tDInK, L2.start, cxK, cxW, cxKn, cxWn, cpK, cpW, List.map_cons, List.map_nil, List.cons_append, List.nil_append, List.append_nil, List.length_cons, List.length_nil, List.replicate, List.set_cons_zero, List.set_cons_succ, List.getElem?_cons_zero, List.getElem?_cons_succ, Option.some.injEq, exists_eq_left', exists_eq_left, exists_and_left, exists_eq', exists_const, V.int.injEq, V.bl.injEq, V.str.injEq, V.ref.injEq, V.ty.injEq, List.cons.injEq, and_true, true_and, reduceCtorEq, false_and, and_false, exists_false, or_false, false_or, decide_eq_true_eq, Bool.not_eq_true', decide_eq_false_iff_not, if_true, if_false, Bool.false_eq_true, ite_true, ite_false, Bool.not_true, Bool.not_false, Nat.reduceAdd, Nat.reduceSub, and_assoc]
      refine ⟨_, SqT.of hpX, V.ref pcX, rfl, _, SqT.of hpX, V.str (sOf cX), rfl, pcX, tX, cX, rfl, ⟨pcX, rfl, tbX⟩, hTX, by omega, fun b6 H6 _ e6 hb6 => ?_⟩
      refine ⟨_, places_tt (Mono.mono e6 hb5), _, places_tt hb6, ?_⟩
      rw [dec_map]
      have e16 := (eX.trans e5).trans e6
      have hs16 := Mono.mono e16 hs1
      have hsX6 := Mono.mono (e5.trans e6) hsX
      refine ⟨_, t1, c1, rfl, hs16, hT1, by omega, fun b7 H7 _ e7 hb7 => ?_⟩
      refine ⟨_, tX, cX, rfl, Mono.mono e7 hsX6, hTX, by omega, fun b8 H8 _ e8 hb8 => ?_⟩
      refine ⟨_, places_tt (Mono.mono e8 hb7), _, places_tt hb8, ?_⟩
      rw [dec_map]
      refine ⟨_, _, rfl, Eqv.flat rfl, fun H9 e9 => ?_⟩
      simp only [rSlL, tSeq, tIfS, tTest, tOp, tVar, tC, tCB, tCons, tNil, tRet, tNext, tAsg, gName, gTup, gCons, gNil, tB, tUn, rU, rI0, rI, tTup, tLst, tCall, tDrop, tIf, tAnd, tOr, tNot, tAndV, tOrV, tNotV, tSl, tPart, tNoPart, tBM, tBM0, rClear, sDPut, tDNewK, rIn, rEq, rNe, scal, rCat, rIx, rIxL, rIxT, rIxS, rAppend, tDGetK, tDInK, L2.start, cxK, cxW, cxKn, cxWn, cpK, cpW, List.map_cons, List.map_nil, List.cons_append, List.nil_append, List.append_nil, List.length_cons, List.length_nil, List.replicate, List.set_cons_zero, List.set_cons_succ, List.getElem?_cons_zero, List.getElem?_cons_succ, Option.some.injEq, exists_eq_left', exists_eq_left, exists_and_left, exists_eq', exists_const, V.int.injEq, V.bl.injEq, V.str.injEq, V.ref.injEq, V.ty.injEq, List.cons.injEq, and_true, true_and, reduceCtorEq, false_and, and_false, exists_false, or_false, false_or, decide_eq_true_eq, Bool.not_eq_true', decide_eq_false_iff_not, if_true, if_false, Bool.false_eq_true, ite_true, ite_false, Bool.not_true, Bool.not_false, Nat.reduceAdd, Nat.reduceSub, and_assoc]
      have e69 := (e7.trans e8).trans e9
      refine ⟨_, t1, c1, rfl, Mono.mono e69 hs16, hT1, by omega, fun q10 H10 e10 hq10 => ?_⟩
      refine ⟨_, tX, cX, rfl, Mono.mono (e69.trans e10) hsX6, hTX, by omega, fun q11 H11 e11 hq11 => ?_⟩
      refine ⟨[plainOf t1 c1, slantsOf t1 c1], ⟨q10, rfl, e11 _ _ hq10⟩, [plainOf tX cX, slantsOf tX cX], ⟨q11, rfl, hq11⟩, ?_⟩
      have hiff := plain_iff (t1 := t1) (t2 := tX) (c1 := c1) (c2 := cX) tb1.lay tbX.lay tb1.four tbX.four hT1 hTX
      have hd : decide ([plainOf t1 c1, slantsOf t1 c1] = [plainOf tX cX, slantsOf tX cX]) = decide (rng c1.length (place t1 c1) = rng cX.length (place tX cX)) := by
        refine decide_eq_decide.mpr ?_
        rw [show (rng c1.length (place t1 c1) = rng cX.length (place tX cX)) ↔ _ from hiff]
        simp
      rw [hd]
      exact ⟨_, _, rfl, Eqv.flat rfl, fun _ _ => q _⟩
end
end Wb

set_option Elab.async false
set_option linter.all false
set_option maxRecDepth 100000
set_option maxHeartbeats 4000000
namespace Wb
open PySem L2
theorem fin_mk {l : PySem.W.OpenLaw} {w : World} {K : PySem.W.Frag} {h : Heap} {mg : Str → Option Value} {fa : Addr} {f_top : Addr} {od_top an_top : Option Addr} {sl_top : Array (Option Value)} {oc_top kV_top dc_top pm_top cd_top ct_top : Value} {f_bottom : Addr} {od_bottom an_bottom : Option Addr} {sl_bottom : Array (Option Value)} {oc_bottom kV_bottom dc_bottom pm_bottom cd_bottom ct_bottom : Value} {f_twisting : Addr} {od_twisting an_twisting : Option Addr} {sl_twisting : Array (Option Value)} {oc_twisting kV_twisting dc_twisting pm_twisting cd_twisting ct_twisting : Value} {f_turned : Addr} {od_turned an_turned : Option Addr} {sl_turned : Array (Option Value)} {oc_turned kV_turned dc_turned pm_turned cd_turned ct_turned : Value} {f_flipped : Addr} {od_flipped an_flipped : Option Addr} {sl_flipped : Array (Option Value)} {oc_flipped kV_flipped dc_flipped pm_flipped cd_flipped ct_flipped : Value} {f_rolled : Addr} {od_rolled an_rolled : Option Addr} {sl_rolled : Array (Option Value)} {oc_rolled kV_rolled dc_rolled pm_rolled cd_rolled ct_rolled : Value} {f_left_place : Addr} {od_left_place an_left_place : Option Addr} {sl_left_place : Array (Option Value)} {oc_left_place kV_left_place dc_left_place pm_left_place cd_left_place ct_left_place : Value} {f_woven : Addr} {od_woven an_woven : Option Addr} {sl_woven : Array (Option Value)} {oc_woven kV_woven dc_woven pm_woven cd_woven ct_woven : Value} {f_left_by : Addr} {od_left_by an_left_by : Option Addr} {sl_left_by : Array (Option Value)} {oc_left_by kV_left_by dc_left_by pm_left_by cd_left_by ct_left_by : Value} {f_seen : Addr} {od_seen an_seen : Option Addr} {sl_seen : Array (Option Value)} {oc_seen kV_seen dc_seen pm_seen cd_seen ct_seen : Value} {f_plain : Addr} {od_plain an_plain : Option Addr} {sl_plain : Array (Option Value)} {oc_plain kV_plain dc_plain pm_plain cd_plain ct_plain : Value} {f__law_row : Addr} {od__law_row an__law_row : Option Addr} {sl__law_row : Array (Option Value)} {oc__law_row kV__law_row dc__law_row pm__law_row cd__law_row ct__law_row : Value} {f__law_holes : Addr} {od__law_holes an__law_holes : Option Addr} {sl__law_holes : Array (Option Value)} {oc__law_holes kV__law_holes dc__law_holes pm__law_holes cd__law_holes ct__law_holes : Value} {f__law_card : Addr} {od__law_card an__law_card : Option Addr} {sl__law_card : Array (Option Value)} {oc__law_card kV__law_card dc__law_card pm__law_card cd__law_card ct__law_card : Value} {f__law_turns : Addr} {od__law_turns an__law_turns : Option Addr} {sl__law_turns : Array (Option Value)} {oc__law_turns kV__law_turns dc__law_turns pm__law_turns cd__law_turns ct__law_turns : Value} {f__law_at : Addr} {od__law_at an__law_at : Option Addr} {sl__law_at : Array (Option Value)} {oc__law_at kV__law_at dc__law_at pm__law_at cd__law_at ct__law_at : Value} {f__law_strand : Addr} {od__law_strand an__law_strand : Option Addr} {sl__law_strand : Array (Option Value)} {oc__law_strand kV__law_strand dc__law_strand pm__law_strand cd__law_strand ct__law_strand : Value} {f__law_go : Addr} {od__law_go an__law_go : Option Addr} {sl__law_go : Array (Option Value)} {oc__law_go kV__law_go dc__law_go pm__law_go cd__law_go ct__law_go : Value} {f__law_behind : Addr} {od__law_behind an__law_behind : Option Addr} {sl__law_behind : Array (Option Value)} {oc__law_behind kV__law_behind dc__law_behind pm__law_behind cd__law_behind ct__law_behind : Value} {f__law_twist : Addr} {od__law_twist an__law_twist : Option Addr} {sl__law_twist : Array (Option Value)} {oc__law_twist kV__law_twist dc__law_twist pm__law_twist cd__law_twist ct__law_twist : Value} {f__law_places : Addr} {od__law_places an__law_places : Option Addr} {sl__law_places : Array (Option Value)} {oc__law_places kV__law_places dc__law_places pm__law_places cd__law_places ct__law_places : Value} {f__law_turnover : Addr} {od__law_turnover an__law_turnover : Option Addr} {sl__law_turnover : Array (Option Value)} {oc__law_turnover kV__law_turnover dc__law_turnover pm__law_turnover cd__law_turnover ct__law_turnover : Value} {f__law_back : Addr} {od__law_back an__law_back : Option Addr} {sl__law_back : Array (Option Value)} {oc__law_back kV__law_back dc__law_back pm__law_back cd__law_back ct__law_back : Value} {f__law_roll : Addr} {od__law_roll an__law_roll : Option Addr} {sl__law_roll : Array (Option Value)} {oc__law_roll kV__law_roll dc__law_roll pm__law_roll cd__law_roll ct__law_roll : Value} {f__law_seen : Addr} {od__law_seen an__law_seen : Option Addr} {sl__law_seen : Array (Option Value)} {oc__law_seen kV__law_seen dc__law_seen pm__law_seen cd__law_seen ct__law_seen : Value} {f__law_kin : Addr} {od__law_kin an__law_kin : Option Addr} {sl__law_kin : Array (Option Value)} {oc__law_kin kV__law_kin dc__law_kin pm__law_kin cd__law_kin ct__law_kin : Value} {f__law_hurt : Addr} {od__law_hurt an__law_hurt : Option Addr} {sl__law_hurt : Array (Option Value)} {oc__law_hurt kV__law_hurt dc__law_hurt pm__law_hurt cd__law_hurt ct__law_hurt : Value} {f__law_same : Addr} {od__law_same an__law_same : Option Addr} {sl__law_same : Array (Option Value)} {oc__law_same kV__law_same dc__law_same pm__law_same cd__law_same ct__law_same : Value} {f_law : Addr} {od_law an_law : Option Addr} {sl_law : Array (Option Value)} {oc_law kV_law dc_law pm_law cd_law ct_law : Value} {t_HOLES : Tok} {d_STEPS : Addr} {e_STEPS : Nat} {x_STEPS0 y_STEPS0 x_STEPS1 y_STEPS1 x_STEPS2 y_STEPS2 : Tok} {d_OTHER_LAYS : Addr} {e_OTHER_LAYS : Nat} {x_OTHER_LAYS0 y_OTHER_LAYS0 x_OTHER_LAYS1 y_OTHER_LAYS1 : Tok} {d_SLANTS : Addr} {e_SLANTS : Nat} {x_SLANTS0 y_SLANTS0 x_SLANTS1 y_SLANTS1 x_SLANTS2 y_SLANTS2 : Tok} (X : K.In h) (G : h.Ns mainGlobals mg) (hfa : mg "law" = some (.ref fa))
    (a_top : PySem.W.nsIn K mainGlobals "top" = some (some (.ref f_top)))
    (l_top : K.lookup f_top = some ⟨oc_top, od_top, .func (PySem.W.fnOf "top" "top" (defArgs (tp 4)) (defBody (tp 4)) (defScope (tp 4)) .none kV_top dc_top pm_top an_top cd_top ct_top), sl_top⟩)
    (c_top : PySem.W.codeIn K cd_top "top" = true)
    (k_top : PySem.W.keepIn K (.ref f_top) = true)
    (a_bottom : PySem.W.nsIn K mainGlobals "bottom" = some (some (.ref f_bottom)))
    (l_bottom : K.lookup f_bottom = some ⟨oc_bottom, od_bottom, .func (PySem.W.fnOf "bottom" "bottom" (defArgs (tp 5)) (defBody (tp 5)) (defScope (tp 5)) .none kV_bottom dc_bottom pm_bottom an_bottom cd_bottom ct_bottom), sl_bottom⟩)
    (c_bottom : PySem.W.codeIn K cd_bottom "bottom" = true)
    (k_bottom : PySem.W.keepIn K (.ref f_bottom) = true)
    (a_twisting : PySem.W.nsIn K mainGlobals "twisting" = some (some (.ref f_twisting)))
    (l_twisting : K.lookup f_twisting = some ⟨oc_twisting, od_twisting, .func (PySem.W.fnOf "twisting" "twisting" (defArgs (tp 6)) (defBody (tp 6)) (defScope (tp 6)) .none kV_twisting dc_twisting pm_twisting an_twisting cd_twisting ct_twisting), sl_twisting⟩)
    (c_twisting : PySem.W.codeIn K cd_twisting "twisting" = true)
    (k_twisting : PySem.W.keepIn K (.ref f_twisting) = true)
    (a_turned : PySem.W.nsIn K mainGlobals "turned" = some (some (.ref f_turned)))
    (l_turned : K.lookup f_turned = some ⟨oc_turned, od_turned, .func (PySem.W.fnOf "turned" "turned" (defArgs (tp 7)) (defBody (tp 7)) (defScope (tp 7)) .none kV_turned dc_turned pm_turned an_turned cd_turned ct_turned), sl_turned⟩)
    (c_turned : PySem.W.codeIn K cd_turned "turned" = true)
    (k_turned : PySem.W.keepIn K (.ref f_turned) = true)
    (a_flipped : PySem.W.nsIn K mainGlobals "flipped" = some (some (.ref f_flipped)))
    (l_flipped : K.lookup f_flipped = some ⟨oc_flipped, od_flipped, .func (PySem.W.fnOf "flipped" "flipped" (defArgs (tp 8)) (defBody (tp 8)) (defScope (tp 8)) .none kV_flipped dc_flipped pm_flipped an_flipped cd_flipped ct_flipped), sl_flipped⟩)
    (c_flipped : PySem.W.codeIn K cd_flipped "flipped" = true)
    (k_flipped : PySem.W.keepIn K (.ref f_flipped) = true)
    (a_rolled : PySem.W.nsIn K mainGlobals "rolled" = some (some (.ref f_rolled)))
    (l_rolled : K.lookup f_rolled = some ⟨oc_rolled, od_rolled, .func (PySem.W.fnOf "rolled" "rolled" (defArgs (tp 9)) (defBody (tp 9)) (defScope (tp 9)) .none kV_rolled dc_rolled pm_rolled an_rolled cd_rolled ct_rolled), sl_rolled⟩)
    (c_rolled : PySem.W.codeIn K cd_rolled "rolled" = true)
    (k_rolled : PySem.W.keepIn K (.ref f_rolled) = true)
    (a_left_place : PySem.W.nsIn K mainGlobals "left_place" = some (some (.ref f_left_place)))
    (l_left_place : K.lookup f_left_place = some ⟨oc_left_place, od_left_place, .func (PySem.W.fnOf "left_place" "left_place" (defArgs (tp 12)) (defBody (tp 12)) (defScope (tp 12)) .none kV_left_place dc_left_place pm_left_place an_left_place cd_left_place ct_left_place), sl_left_place⟩)
    (c_left_place : PySem.W.codeIn K cd_left_place "left_place" = true)
    (k_left_place : PySem.W.keepIn K (.ref f_left_place) = true)
    (a_woven : PySem.W.nsIn K mainGlobals "woven" = some (some (.ref f_woven)))
    (l_woven : K.lookup f_woven = some ⟨oc_woven, od_woven, .func (PySem.W.fnOf "woven" "woven" (defArgs (tp 13)) (defBody (tp 13)) (defScope (tp 13)) .none kV_woven dc_woven pm_woven an_woven cd_woven ct_woven), sl_woven⟩)
    (c_woven : PySem.W.codeIn K cd_woven "woven" = true)
    (k_woven : PySem.W.keepIn K (.ref f_woven) = true)
    (a_left_by : PySem.W.nsIn K mainGlobals "left_by" = some (some (.ref f_left_by)))
    (l_left_by : K.lookup f_left_by = some ⟨oc_left_by, od_left_by, .func (PySem.W.fnOf "left_by" "left_by" (defArgs (tp 15)) (defBody (tp 15)) (defScope (tp 15)) .none kV_left_by dc_left_by pm_left_by an_left_by cd_left_by ct_left_by), sl_left_by⟩)
    (c_left_by : PySem.W.codeIn K cd_left_by "left_by" = true)
    (k_left_by : PySem.W.keepIn K (.ref f_left_by) = true)
    (a_seen : PySem.W.nsIn K mainGlobals "seen" = some (some (.ref f_seen)))
    (l_seen : K.lookup f_seen = some ⟨oc_seen, od_seen, .func (PySem.W.fnOf "seen" "seen" (defArgs (tp 16)) (defBody (tp 16)) (defScope (tp 16)) .none kV_seen dc_seen pm_seen an_seen cd_seen ct_seen), sl_seen⟩)
    (c_seen : PySem.W.codeIn K cd_seen "seen" = true)
    (k_seen : PySem.W.keepIn K (.ref f_seen) = true)
    (a_plain : PySem.W.nsIn K mainGlobals "plain" = some (some (.ref f_plain)))
    (l_plain : K.lookup f_plain = some ⟨oc_plain, od_plain, .func (PySem.W.fnOf "plain" "plain" (defArgs (tp 17)) (defBody (tp 17)) (defScope (tp 17)) .none kV_plain dc_plain pm_plain an_plain cd_plain ct_plain), sl_plain⟩)
    (c_plain : PySem.W.codeIn K cd_plain "plain" = true)
    (k_plain : PySem.W.keepIn K (.ref f_plain) = true)
    (a__law_row : PySem.W.nsIn K mainGlobals "_law_row" = some (some (.ref f__law_row)))
    (l__law_row : K.lookup f__law_row = some ⟨oc__law_row, od__law_row, .func (PySem.W.fnOf "_law_row" "_law_row" (defArgs (tp 19)) (defBody (tp 19)) (defScope (tp 19)) .none kV__law_row dc__law_row pm__law_row an__law_row cd__law_row ct__law_row), sl__law_row⟩)
    (c__law_row : PySem.W.codeIn K cd__law_row "_law_row" = true)
    (k__law_row : PySem.W.keepIn K (.ref f__law_row) = true)
    (a__law_holes : PySem.W.nsIn K mainGlobals "_law_holes" = some (some (.ref f__law_holes)))
    (l__law_holes : K.lookup f__law_holes = some ⟨oc__law_holes, od__law_holes, .func (PySem.W.fnOf "_law_holes" "_law_holes" (defArgs (tp 20)) (defBody (tp 20)) (defScope (tp 20)) .none kV__law_holes dc__law_holes pm__law_holes an__law_holes cd__law_holes ct__law_holes), sl__law_holes⟩)
    (c__law_holes : PySem.W.codeIn K cd__law_holes "_law_holes" = true)
    (k__law_holes : PySem.W.keepIn K (.ref f__law_holes) = true)
    (a__law_card : PySem.W.nsIn K mainGlobals "_law_card" = some (some (.ref f__law_card)))
    (l__law_card : K.lookup f__law_card = some ⟨oc__law_card, od__law_card, .func (PySem.W.fnOf "_law_card" "_law_card" (defArgs (tp 21)) (defBody (tp 21)) (defScope (tp 21)) .none kV__law_card dc__law_card pm__law_card an__law_card cd__law_card ct__law_card), sl__law_card⟩)
    (c__law_card : PySem.W.codeIn K cd__law_card "_law_card" = true)
    (k__law_card : PySem.W.keepIn K (.ref f__law_card) = true)
    (a__law_turns : PySem.W.nsIn K mainGlobals "_law_turns" = some (some (.ref f__law_turns)))
    (l__law_turns : K.lookup f__law_turns = some ⟨oc__law_turns, od__law_turns, .func (PySem.W.fnOf "_law_turns" "_law_turns" (defArgs (tp 22)) (defBody (tp 22)) (defScope (tp 22)) .none kV__law_turns dc__law_turns pm__law_turns an__law_turns cd__law_turns ct__law_turns), sl__law_turns⟩)
    (c__law_turns : PySem.W.codeIn K cd__law_turns "_law_turns" = true)
    (k__law_turns : PySem.W.keepIn K (.ref f__law_turns) = true)
    (a__law_at : PySem.W.nsIn K mainGlobals "_law_at" = some (some (.ref f__law_at)))
    (l__law_at : K.lookup f__law_at = some ⟨oc__law_at, od__law_at, .func (PySem.W.fnOf "_law_at" "_law_at" (defArgs (tp 23)) (defBody (tp 23)) (defScope (tp 23)) .none kV__law_at dc__law_at pm__law_at an__law_at cd__law_at ct__law_at), sl__law_at⟩)
    (c__law_at : PySem.W.codeIn K cd__law_at "_law_at" = true)
    (k__law_at : PySem.W.keepIn K (.ref f__law_at) = true)
    (a__law_strand : PySem.W.nsIn K mainGlobals "_law_strand" = some (some (.ref f__law_strand)))
    (l__law_strand : K.lookup f__law_strand = some ⟨oc__law_strand, od__law_strand, .func (PySem.W.fnOf "_law_strand" "_law_strand" (defArgs (tp 24)) (defBody (tp 24)) (defScope (tp 24)) .none kV__law_strand dc__law_strand pm__law_strand an__law_strand cd__law_strand ct__law_strand), sl__law_strand⟩)
    (c__law_strand : PySem.W.codeIn K cd__law_strand "_law_strand" = true)
    (k__law_strand : PySem.W.keepIn K (.ref f__law_strand) = true)
    (a__law_go : PySem.W.nsIn K mainGlobals "_law_go" = some (some (.ref f__law_go)))
    (l__law_go : K.lookup f__law_go = some ⟨oc__law_go, od__law_go, .func (PySem.W.fnOf "_law_go" "_law_go" (defArgs (tp 25)) (defBody (tp 25)) (defScope (tp 25)) .none kV__law_go dc__law_go pm__law_go an__law_go cd__law_go ct__law_go), sl__law_go⟩)
    (c__law_go : PySem.W.codeIn K cd__law_go "_law_go" = true)
    (k__law_go : PySem.W.keepIn K (.ref f__law_go) = true)
    (a__law_behind : PySem.W.nsIn K mainGlobals "_law_behind" = some (some (.ref f__law_behind)))
    (l__law_behind : K.lookup f__law_behind = some ⟨oc__law_behind, od__law_behind, .func (PySem.W.fnOf "_law_behind" "_law_behind" (defArgs (tp 26)) (defBody (tp 26)) (defScope (tp 26)) .none kV__law_behind dc__law_behind pm__law_behind an__law_behind cd__law_behind ct__law_behind), sl__law_behind⟩)
    (c__law_behind : PySem.W.codeIn K cd__law_behind "_law_behind" = true)
    (k__law_behind : PySem.W.keepIn K (.ref f__law_behind) = true)
    (a__law_twist : PySem.W.nsIn K mainGlobals "_law_twist" = some (some (.ref f__law_twist)))
    (l__law_twist : K.lookup f__law_twist = some ⟨oc__law_twist, od__law_twist, .func (PySem.W.fnOf "_law_twist" "_law_twist" (defArgs (tp 27)) (defBody (tp 27)) (defScope (tp 27)) .none kV__law_twist dc__law_twist pm__law_twist an__law_twist cd__law_twist ct__law_twist), sl__law_twist⟩)
    (c__law_twist : PySem.W.codeIn K cd__law_twist "_law_twist" = true)
    (k__law_twist : PySem.W.keepIn K (.ref f__law_twist) = true)
    (a__law_places : PySem.W.nsIn K mainGlobals "_law_places" = some (some (.ref f__law_places)))
    (l__law_places : K.lookup f__law_places = some ⟨oc__law_places, od__law_places, .func (PySem.W.fnOf "_law_places" "_law_places" (defArgs (tp 28)) (defBody (tp 28)) (defScope (tp 28)) .none kV__law_places dc__law_places pm__law_places an__law_places cd__law_places ct__law_places), sl__law_places⟩)
    (c__law_places : PySem.W.codeIn K cd__law_places "_law_places" = true)
    (k__law_places : PySem.W.keepIn K (.ref f__law_places) = true)
    (a__law_turnover : PySem.W.nsIn K mainGlobals "_law_turnover" = some (some (.ref f__law_turnover)))
    (l__law_turnover : K.lookup f__law_turnover = some ⟨oc__law_turnover, od__law_turnover, .func (PySem.W.fnOf "_law_turnover" "_law_turnover" (defArgs (tp 29)) (defBody (tp 29)) (defScope (tp 29)) .none kV__law_turnover dc__law_turnover pm__law_turnover an__law_turnover cd__law_turnover ct__law_turnover), sl__law_turnover⟩)
    (c__law_turnover : PySem.W.codeIn K cd__law_turnover "_law_turnover" = true)
    (k__law_turnover : PySem.W.keepIn K (.ref f__law_turnover) = true)
    (a__law_back : PySem.W.nsIn K mainGlobals "_law_back" = some (some (.ref f__law_back)))
    (l__law_back : K.lookup f__law_back = some ⟨oc__law_back, od__law_back, .func (PySem.W.fnOf "_law_back" "_law_back" (defArgs (tp 30)) (defBody (tp 30)) (defScope (tp 30)) .none kV__law_back dc__law_back pm__law_back an__law_back cd__law_back ct__law_back), sl__law_back⟩)
    (c__law_back : PySem.W.codeIn K cd__law_back "_law_back" = true)
    (k__law_back : PySem.W.keepIn K (.ref f__law_back) = true)
    (a__law_roll : PySem.W.nsIn K mainGlobals "_law_roll" = some (some (.ref f__law_roll)))
    (l__law_roll : K.lookup f__law_roll = some ⟨oc__law_roll, od__law_roll, .func (PySem.W.fnOf "_law_roll" "_law_roll" (defArgs (tp 31)) (defBody (tp 31)) (defScope (tp 31)) .none kV__law_roll dc__law_roll pm__law_roll an__law_roll cd__law_roll ct__law_roll), sl__law_roll⟩)
    (c__law_roll : PySem.W.codeIn K cd__law_roll "_law_roll" = true)
    (k__law_roll : PySem.W.keepIn K (.ref f__law_roll) = true)
    (a__law_seen : PySem.W.nsIn K mainGlobals "_law_seen" = some (some (.ref f__law_seen)))
    (l__law_seen : K.lookup f__law_seen = some ⟨oc__law_seen, od__law_seen, .func (PySem.W.fnOf "_law_seen" "_law_seen" (defArgs (tp 32)) (defBody (tp 32)) (defScope (tp 32)) .none kV__law_seen dc__law_seen pm__law_seen an__law_seen cd__law_seen ct__law_seen), sl__law_seen⟩)
    (c__law_seen : PySem.W.codeIn K cd__law_seen "_law_seen" = true)
    (k__law_seen : PySem.W.keepIn K (.ref f__law_seen) = true)
    (a__law_kin : PySem.W.nsIn K mainGlobals "_law_kin" = some (some (.ref f__law_kin)))
    (l__law_kin : K.lookup f__law_kin = some ⟨oc__law_kin, od__law_kin, .func (PySem.W.fnOf "_law_kin" "_law_kin" (defArgs (tp 33)) (defBody (tp 33)) (defScope (tp 33)) .none kV__law_kin dc__law_kin pm__law_kin an__law_kin cd__law_kin ct__law_kin), sl__law_kin⟩)
    (c__law_kin : PySem.W.codeIn K cd__law_kin "_law_kin" = true)
    (k__law_kin : PySem.W.keepIn K (.ref f__law_kin) = true)
    (a__law_hurt : PySem.W.nsIn K mainGlobals "_law_hurt" = some (some (.ref f__law_hurt)))
    (l__law_hurt : K.lookup f__law_hurt = some ⟨oc__law_hurt, od__law_hurt, .func (PySem.W.fnOf "_law_hurt" "_law_hurt" (defArgs (tp 34)) (defBody (tp 34)) (defScope (tp 34)) .none kV__law_hurt dc__law_hurt pm__law_hurt an__law_hurt cd__law_hurt ct__law_hurt), sl__law_hurt⟩)
    (c__law_hurt : PySem.W.codeIn K cd__law_hurt "_law_hurt" = true)
    (k__law_hurt : PySem.W.keepIn K (.ref f__law_hurt) = true)
    (a__law_same : PySem.W.nsIn K mainGlobals "_law_same" = some (some (.ref f__law_same)))
    (l__law_same : K.lookup f__law_same = some ⟨oc__law_same, od__law_same, .func (PySem.W.fnOf "_law_same" "_law_same" (defArgs (tp 35)) (defBody (tp 35)) (defScope (tp 35)) .none kV__law_same dc__law_same pm__law_same an__law_same cd__law_same ct__law_same), sl__law_same⟩)
    (c__law_same : PySem.W.codeIn K cd__law_same "_law_same" = true)
    (k__law_same : PySem.W.keepIn K (.ref f__law_same) = true)
    (a_law : PySem.W.nsIn K mainGlobals "law" = some (some (.ref f_law)))
    (l_law : K.lookup f_law = some ⟨oc_law, od_law, .func (PySem.W.fnOf "law" "law" (defArgs (tp 36)) (defBody (tp 36)) (defScope (tp 36)) .none kV_law dc_law pm_law an_law cd_law ct_law), sl_law⟩)
    (c_law : PySem.W.codeIn K cd_law "law" = true)
    (k_law : PySem.W.keepIn K (.ref f_law) = true)
    (z_len : PySem.W.nsIn K mainGlobals "len" = some none)
    (z_abs : PySem.W.nsIn K mainGlobals "abs" = some none)
    (z_range : PySem.W.nsIn K mainGlobals "range" = some none)
    (z_isinstance : PySem.W.nsIn K mainGlobals "isinstance" = some none)
    (z_bool : PySem.W.nsIn K mainGlobals "bool" = some none)
    (z_int : PySem.W.nsIn K mainGlobals "int" = some none)
    (z_str : PySem.W.nsIn K mainGlobals "str" = some none)
    (z_list : PySem.W.nsIn K mainGlobals "list" = some none)
    (z_tuple : PySem.W.nsIn K mainGlobals "tuple" = some none)
    (z_zip : PySem.W.nsIn K mainGlobals "zip" = some none)
    (z_enumerate : PySem.W.nsIn K mainGlobals "enumerate" = some none)
    (z_sum : PySem.W.nsIn K mainGlobals "sum" = some none)
    (z_max : PySem.W.nsIn K mainGlobals "max" = some none)
    (z_sorted : PySem.W.nsIn K mainGlobals "sorted" = some none)
    (z_reversed : PySem.W.nsIn K mainGlobals "reversed" = some none)
    (g_HOLES : PySem.W.nsIn K mainGlobals "HOLES" = some (some (.int 4 t_HOLES)))
    (g_STEPS : PySem.W.nsIn K mainGlobals "STEPS" = some (some (.ref d_STEPS)))
    (m_STEPS : K.lookup d_STEPS = some { cls := .type "dict", data := .dict #[⟨PySem.PyData.keyHash w.params (Str.ofString "f"), .str (Str.ofString "f") x_STEPS0, .int (1) y_STEPS0⟩, ⟨PySem.PyData.keyHash w.params (Str.ofString "b"), .str (Str.ofString "b") x_STEPS1, .int (-1) y_STEPS1⟩, ⟨PySem.PyData.keyHash w.params (Str.ofString "i"), .str (Str.ofString "i") x_STEPS2, .int (0) y_STEPS2⟩] e_STEPS })
    (s_STEPS : (d_STEPS == sysModules) = false)
    (g_OTHER_LAYS : PySem.W.nsIn K mainGlobals "OTHER_LAYS" = some (some (.ref d_OTHER_LAYS)))
    (m_OTHER_LAYS : K.lookup d_OTHER_LAYS = some { cls := .type "dict", data := .dict #[⟨PySem.PyData.keyHash w.params (Str.ofString "S"), .str (Str.ofString "S") x_OTHER_LAYS0, .str (Str.ofString "Z") y_OTHER_LAYS0⟩, ⟨PySem.PyData.keyHash w.params (Str.ofString "Z"), .str (Str.ofString "Z") x_OTHER_LAYS1, .str (Str.ofString "S") y_OTHER_LAYS1⟩] e_OTHER_LAYS })
    (s_OTHER_LAYS : (d_OTHER_LAYS == sysModules) = false)
    (g_SLANTS : PySem.W.nsIn K mainGlobals "SLANTS" = some (some (.ref d_SLANTS)))
    (m_SLANTS : K.lookup d_SLANTS = some { cls := .type "dict", data := .dict #[⟨hashInt (1), .int (1) x_SLANTS0, .str (Str.ofString "s") y_SLANTS0⟩, ⟨hashInt (-1), .int (-1) x_SLANTS1, .str (Str.ofString "z") y_SLANTS1⟩, ⟨hashInt (0), .int (0) x_SLANTS2, .str (Str.ofString "o") y_SLANTS2⟩] e_SLANTS })
    (s_SLANTS : (d_SLANTS == sysModules) = false)
    : ∃ fd : FuncData, (∀ (s : Shared) (v : Value), BindsTo s fd ⟨[v], []⟩ [("_law_script", v)]) ∧ ∀ base : Heap, K.In base → base.Ns mainGlobals mg → FnOk l.prog w K mg base CX0 6 fa fd ["_law_script"] (spLaw K) := by
  have e := hfa.symm.trans (PySem.W.mg_of X G a_law)
  cases e
  have F_top := fun_mk (st := tp 4) l_top c_top k_top
  have b_top := F_top.binds (ps := ["tablet"]) fun _ _ _ _ _ _ us hl => match us, hl with | [_], _ => rfl
  have F_bottom := fun_mk (st := tp 5) l_bottom c_bottom k_bottom
  have b_bottom := F_bottom.binds (ps := ["tablet"]) fun _ _ _ _ _ _ us hl => match us, hl with | [_], _ => rfl
  have F_twisting := fun_mk (st := tp 6) l_twisting c_twisting k_twisting
  have b_twisting := F_twisting.binds (ps := ["tablet", "turn"]) fun _ _ _ _ _ _ us hl => match us, hl with | [_, _], _ => rfl
  have F_turned := fun_mk (st := tp 7) l_turned c_turned k_turned
  have b_turned := F_turned.binds (ps := ["tablet", "turn"]) fun _ _ _ _ _ _ us hl => match us, hl with | [_, _], _ => rfl
  have F_flipped := fun_mk (st := tp 8) l_flipped c_flipped k_flipped
  have b_flipped := F_flipped.binds (ps := ["tablet"]) fun _ _ _ _ _ _ us hl => match us, hl with | [_], _ => rfl
  have F_rolled := fun_mk (st := tp 9) l_rolled c_rolled k_rolled
  have b_rolled := F_rolled.binds (ps := ["tablet", "many"]) fun _ _ _ _ _ _ us hl => match us, hl with | [_, _], _ => rfl
  have F_left_place := fun_mk (st := tp 12) l_left_place c_left_place k_left_place
  have b_left_place := F_left_place.binds (ps := ["tablet", "turn"]) fun _ _ _ _ _ _ us hl => match us, hl with | [_, _], _ => rfl
  have F_woven := fun_mk (st := tp 13) l_woven c_woven k_woven
  have b_woven := F_woven.binds (ps := ["draft", "plan"]) fun _ _ _ _ _ _ us hl => match us, hl with | [_, _], _ => rfl
  have F_left_by := fun_mk (st := tp 15) l_left_by c_left_by k_left_by
  have b_left_by := F_left_by.binds (ps := ["strand"]) fun _ _ _ _ _ _ us hl => match us, hl with | [_], _ => rfl
  have F_seen := fun_mk (st := tp 16) l_seen c_seen k_seen
  have b_seen := F_seen.binds (ps := ["strand"]) fun _ _ _ _ _ _ us hl => match us, hl with | [_], _ => rfl
  have F_plain := fun_mk (st := tp 17) l_plain c_plain k_plain
  have b_plain := F_plain.binds (ps := ["strand"]) fun _ _ _ _ _ _ us hl => match us, hl with | [_], _ => rfl
  have F__law_row := fun_mk (st := tp 19) l__law_row c__law_row k__law_row
  have b__law_row := F__law_row.binds (ps := ["_law_cell", "_law_many", "_law_base"]) fun _ _ _ _ _ _ us hl => match us, hl with | [_, _, _], _ => rfl
  have F__law_holes := fun_mk (st := tp 20) l__law_holes c__law_holes k__law_holes
  have b__law_holes := F__law_holes.binds (ps := ["_law_cell"]) fun _ _ _ _ _ _ us hl => match us, hl with | [_], _ => rfl
  have F__law_card := fun_mk (st := tp 21) l__law_card c__law_card k__law_card
  have b__law_card := F__law_card.binds (ps := ["_law_cell"]) fun _ _ _ _ _ _ us hl => match us, hl with | [_], _ => rfl
  have F__law_turns := fun_mk (st := tp 22) l__law_turns c__law_turns k__law_turns
  have b__law_turns := F__law_turns.binds (ps := ["_law_cell", "_law_many"]) fun _ _ _ _ _ _ us hl => match us, hl with | [_, _], _ => rfl
  have F__law_at := fun_mk (st := tp 23) l__law_at c__law_at k__law_at
  have b__law_at := F__law_at.binds (ps := ["_law_script", "_law_k"]) fun _ _ _ _ _ _ us hl => match us, hl with | [_, _], _ => rfl
  have F__law_strand := fun_mk (st := tp 24) l__law_strand c__law_strand k__law_strand
  have b__law_strand := F__law_strand.binds (ps := ["_law_script", "_law_at_here"]) fun _ _ _ _ _ _ us hl => match us, hl with | [_, _], _ => rfl
  have F__law_go := fun_mk (st := tp 25) l__law_go c__law_go k__law_go
  have b__law_go := F__law_go.binds (ps := ["_law_turn"]) fun _ _ _ _ _ _ us hl => match us, hl with | [_], _ => rfl
  have F__law_behind := fun_mk (st := tp 26) l__law_behind c__law_behind k__law_behind
  have b__law_behind := F__law_behind.binds (ps := ["_law_card_here", "_law_turn"]) fun _ _ _ _ _ _ us hl => match us, hl with | [_, _], _ => rfl
  have F__law_twist := fun_mk (st := tp 27) l__law_twist c__law_twist k__law_twist
  have b__law_twist := F__law_twist.binds (ps := ["_law_card_here", "_law_turn"]) fun _ _ _ _ _ _ us hl => match us, hl with | [_, _], _ => rfl
  have F__law_places := fun_mk (st := tp 28) l__law_places c__law_places k__law_places
  have b__law_places := F__law_places.binds (ps := ["_law_card_here", "_law_turns_here"]) fun _ _ _ _ _ _ us hl => match us, hl with | [_, _], _ => rfl
  have F__law_turnover := fun_mk (st := tp 29) l__law_turnover c__law_turnover k__law_turnover
  have b__law_turnover := F__law_turnover.binds (ps := ["_law_card_here"]) fun _ _ _ _ _ _ us hl => match us, hl with | [_], _ => rfl
  have F__law_back := fun_mk (st := tp 30) l__law_back c__law_back k__law_back
  have b__law_back := F__law_back.binds (ps := ["_law_turns_here"]) fun _ _ _ _ _ _ us hl => match us, hl with | [_], _ => rfl
  have F__law_roll := fun_mk (st := tp 31) l__law_roll c__law_roll k__law_roll
  have b__law_roll := F__law_roll.binds (ps := ["_law_card_here", "_law_many"]) fun _ _ _ _ _ _ us hl => match us, hl with | [_, _], _ => rfl
  have F__law_seen := fun_mk (st := tp 32) l__law_seen c__law_seen k__law_seen
  have b__law_seen := F__law_seen.binds (ps := ["_law_card_here", "_law_turns_here"]) fun _ _ _ _ _ _ us hl => match us, hl with | [_, _], _ => rfl
  have F__law_kin := fun_mk (st := tp 33) l__law_kin c__law_kin k__law_kin
  have b__law_kin := F__law_kin.binds (ps := ["_law_card_here", "_law_turns_here", "_law_cell"]) fun _ _ _ _ _ _ us hl => match us, hl with | [_, _, _], _ => rfl
  have F__law_hurt := fun_mk (st := tp 34) l__law_hurt c__law_hurt k__law_hurt
  have b__law_hurt := F__law_hurt.binds (ps := ["_law_strand_here", "_law_cell"]) fun _ _ _ _ _ _ us hl => match us, hl with | [_, _], _ => rfl
  have F__law_same := fun_mk (st := tp 35) l__law_same c__law_same k__law_same
  have b__law_same := F__law_same.binds (ps := ["_law_found", "_law_due"]) fun _ _ _ _ _ _ us hl => match us, hl with | [_, _], _ => rfl
  have F_law := fun_mk (st := tp 36) l_law c_law k_law
  have b_law := F_law.binds (ps := ["_law_script"]) fun _ _ _ _ _ _ us hl => match us, hl with | [_], _ => rfl
  have h_len := PySem.W.mg_none_of X G z_len
  have h_abs := PySem.W.mg_none_of X G z_abs
  have h_range := PySem.W.mg_none_of X G z_range
  have h_isinstance := PySem.W.mg_none_of X G z_isinstance
  have h_bool := PySem.W.mg_none_of X G z_bool
  have h_int := PySem.W.mg_none_of X G z_int
  have h_str := PySem.W.mg_none_of X G z_str
  have h_list := PySem.W.mg_none_of X G z_list
  have h_tuple := PySem.W.mg_none_of X G z_tuple
  have h_zip := PySem.W.mg_none_of X G z_zip
  have h_enumerate := PySem.W.mg_none_of X G z_enumerate
  have h_sum := PySem.W.mg_none_of X G z_sum
  have h_max := PySem.W.mg_none_of X G z_max
  have h_sorted := PySem.W.mg_none_of X G z_sorted
  have h_reversed := PySem.W.mg_none_of X G z_reversed
  have h_HOLES := PySem.W.mg_of X G g_HOLES
  have h_STEPS := PySem.W.mg_of X G g_STEPS
  have D_STEPS : DictK K w d_STEPS [(Sum.inr (Str.ofString "f"), .int (1)), (Sum.inr (Str.ofString "b"), .int (-1)), (Sum.inr (Str.ofString "i"), .int (0))] := ⟨by decide, s_STEPS, by decide +kernel, _, _, m_STEPS, (.cons ⟨keyIs_str _ _, rfl, ⟨_, rfl⟩⟩ (.cons ⟨keyIs_str _ _, rfl, ⟨_, rfl⟩⟩ (.cons ⟨keyIs_str _ _, rfl, ⟨_, rfl⟩⟩ .nil)))⟩
  have h_OTHER_LAYS := PySem.W.mg_of X G g_OTHER_LAYS
  have D_OTHER_LAYS : DictK K w d_OTHER_LAYS [(Sum.inr (Str.ofString "S"), .str (Str.ofString "Z")), (Sum.inr (Str.ofString "Z"), .str (Str.ofString "S"))] := ⟨by decide, s_OTHER_LAYS, by decide +kernel, _, _, m_OTHER_LAYS, (.cons ⟨keyIs_str _ _, rfl, ⟨_, rfl⟩⟩ (.cons ⟨keyIs_str _ _, rfl, ⟨_, rfl⟩⟩ .nil))⟩
  have h_SLANTS := PySem.W.mg_of X G g_SLANTS
  have D_SLANTS : DictK K w d_SLANTS [(Sum.inl (1), .str (Str.ofString "s")), (Sum.inl (-1), .str (Str.ofString "z")), (Sum.inl (0), .str (Str.ofString "o"))] := ⟨by decide, s_SLANTS, by decide +kernel, _, _, m_SLANTS, (.cons ⟨keyIs_int _ _, rfl, ⟨_, rfl⟩⟩ (.cons ⟨keyIs_int _ _, rfl, ⟨_, rfl⟩⟩ (.cons ⟨keyIs_int _ _, rfl, ⟨_, rfl⟩⟩ .nil)))⟩
  refine ⟨PySem.W.fnOf "law" "law" (defArgs (tp 36)) (defBody (tp 36)) (defScope (tp 36)) .none kV_law dc_law pm_law an_law cd_law ct_law, fun s v => .of_eq rfl, fun base _ _ => ?_⟩
  have C__law_at : Cal l.prog w K mg base "_law_at" ["_law_script", "_law_k"] _ _ := ⟨f__law_at, _, ok_at F__law_at h_len, PySem.W.mg_of X G a__law_at, k__law_at, b__law_at⟩
  have C__law_row : Cal l.prog w K mg base "_law_row" ["_law_cell", "_law_many", "_law_base"] _ _ := ⟨f__law_row, _, ok_row F__law_row h_abs h_range, PySem.W.mg_of X G a__law_row, k__law_row, b__law_row⟩
  have C__law_holes : Cal l.prog w K mg base "_law_holes" ["_law_cell"] _ _ := ⟨f__law_holes, _, ok_holes F__law_holes C__law_row, PySem.W.mg_of X G a__law_holes, k__law_holes, b__law_holes⟩
  have C__law_card : Cal l.prog w K mg base "_law_card" ["_law_cell"] _ _ := ⟨f__law_card, _, ok_card F__law_card C__law_holes, PySem.W.mg_of X G a__law_card, k__law_card, b__law_card⟩
  have C__law_turns : Cal l.prog w K mg base "_law_turns" ["_law_cell", "_law_many"] _ _ := ⟨f__law_turns, _, ok_turns F__law_turns C__law_row, PySem.W.mg_of X G a__law_turns, k__law_turns, b__law_turns⟩
  have C__law_strand : Cal l.prog w K mg base "_law_strand" ["_law_script", "_law_at_here"] _ _ := ⟨f__law_strand, _, ok_strand F__law_strand C__law_at C__law_card C__law_turns, PySem.W.mg_of X G a__law_strand, k__law_strand, b__law_strand⟩
  have C__law_go : Cal l.prog w K mg base "_law_go" ["_law_turn"] _ _ := ⟨f__law_go, _, ok_go F__law_go, PySem.W.mg_of X G a__law_go, k__law_go, b__law_go⟩
  have C__law_behind : Cal l.prog w K mg base "_law_behind" ["_law_card_here", "_law_turn"] _ _ := ⟨f__law_behind, _, ok_behind F__law_behind C__law_go, PySem.W.mg_of X G a__law_behind, k__law_behind, b__law_behind⟩
  have C__law_twist : Cal l.prog w K mg base "_law_twist" ["_law_card_here", "_law_turn"] _ _ := ⟨f__law_twist, _, ok_twist F__law_twist C__law_go, PySem.W.mg_of X G a__law_twist, k__law_twist, b__law_twist⟩
  have C__law_places : Cal l.prog w K mg base "_law_places" ["_law_card_here", "_law_turns_here"] _ _ := ⟨f__law_places, _, ok_placesS F__law_places C__law_behind C__law_twist, PySem.W.mg_of X G a__law_places, k__law_places, b__law_places⟩
  have C__law_seen : Cal l.prog w K mg base "_law_seen" ["_law_card_here", "_law_turns_here"] _ _ := ⟨f__law_seen, _, ok_seenL F__law_seen h_sorted C__law_behind, PySem.W.mg_of X G a__law_seen, k__law_seen, b__law_seen⟩
  have S0 : Cal l.prog w K mg base "_law_same" ["_law_found", "_law_due"] 0 (spSame 0) := ⟨f__law_same, _, ok_none, PySem.W.mg_of X G a__law_same, k__law_same, b__law_same⟩
  have S1 : Cal l.prog w K mg base "_law_same" ["_law_found", "_law_due"] 1 (spSame 1) := ⟨f__law_same, _, ok_same1 F__law_same h_len h_isinstance h_bool h_int h_str h_list h_tuple h_zip S0, PySem.W.mg_of X G a__law_same, k__law_same, b__law_same⟩
  have C__law_same : Cal l.prog w K mg base "_law_same" ["_law_found", "_law_due"] _ _ := ⟨f__law_same, _, ok_same1 F__law_same h_len h_isinstance h_bool h_int h_str h_list h_tuple h_zip S1, PySem.W.mg_of X G a__law_same, k__law_same, b__law_same⟩
  have C__law_turnover : Cal l.prog w K mg base "_law_turnover" ["_law_card_here"] _ _ := ⟨f__law_turnover, _, ok_turnover F__law_turnover, PySem.W.mg_of X G a__law_turnover, k__law_turnover, b__law_turnover⟩
  have C__law_back : Cal l.prog w K mg base "_law_back" ["_law_turns_here"] _ _ := ⟨f__law_back, _, ok_back F__law_back, PySem.W.mg_of X G a__law_back, k__law_back, b__law_back⟩
  have C__law_roll : Cal l.prog w K mg base "_law_roll" ["_law_card_here", "_law_many"] _ _ := ⟨f__law_roll, _, ok_rollL F__law_roll h_range, PySem.W.mg_of X G a__law_roll, k__law_roll, b__law_roll⟩
  have C__law_kin : Cal l.prog w K mg base "_law_kin" ["_law_card_here", "_law_turns_here", "_law_cell"] _ _ := ⟨f__law_kin, _, ok_kin F__law_kin h_range C__law_turnover C__law_back C__law_roll C__law_seen, PySem.W.mg_of X G a__law_kin, k__law_kin, b__law_kin⟩
  have C__law_hurt : Cal l.prog w K mg base "_law_hurt" ["_law_strand_here", "_law_cell"] _ _ := ⟨f__law_hurt, _, ok_hurt F__law_hurt h_len h_max, PySem.W.mg_of X G a__law_hurt, k__law_hurt, b__law_hurt⟩
  have C_top : Cal l.prog w K mg base "top" ["tablet"] _ _ := ⟨f_top, _, ok_top F_top h_HOLES, PySem.W.mg_of X G a_top, k_top, b_top⟩
  have C_bottom : Cal l.prog w K mg base "bottom" ["tablet"] _ _ := ⟨f_bottom, _, ok_bottom F_bottom h_HOLES, PySem.W.mg_of X G a_bottom, k_bottom, b_bottom⟩
  have C_twisting : Cal l.prog w K mg base "twisting" ["tablet", "turn"] _ _ := ⟨f_twisting, _, ok_twisting F_twisting h_STEPS D_STEPS, PySem.W.mg_of X G a_twisting, k_twisting, b_twisting⟩
  have C_turned : Cal l.prog w K mg base "turned" ["tablet", "turn"] _ _ := ⟨f_turned, _, ok_turned F_turned h_HOLES h_STEPS D_STEPS, PySem.W.mg_of X G a_turned, k_turned, b_turned⟩
  have C_flipped : Cal l.prog w K mg base "flipped" ["tablet"] _ _ := ⟨f_flipped, _, ok_flipped F_flipped h_HOLES h_OTHER_LAYS D_OTHER_LAYS, PySem.W.mg_of X G a_flipped, k_flipped, b_flipped⟩
  have C_rolled : Cal l.prog w K mg base "rolled" ["tablet", "many"] _ _ := ⟨f_rolled, _, ok_rolled F_rolled h_HOLES, PySem.W.mg_of X G a_rolled, k_rolled, b_rolled⟩
  have C_left_place : Cal l.prog w K mg base "left_place" ["tablet", "turn"] _ _ := ⟨f_left_place, _, ok_left F_left_place C_top C_bottom C_twisting h_SLANTS D_SLANTS, PySem.W.mg_of X G a_left_place, k_left_place, b_left_place⟩
  have C_woven : Cal l.prog w K mg base "woven" ["draft", "plan"] _ _ := ⟨f_woven, _, ok_woven F_woven h_list h_zip C_turned C_left_place, PySem.W.mg_of X G a_woven, k_woven, b_woven⟩
  have C_left_by : Cal l.prog w K mg base "left_by" ["strand"] _ _ := ⟨f_left_by, _, ok_left_by F_left_by h_list C_woven, PySem.W.mg_of X G a_left_by, k_left_by, b_left_by⟩
  have C_seen : Cal l.prog w K mg base "seen" ["strand"] _ _ := ⟨f_seen, _, ok_seen F_seen h_sorted h_HOLES C_turned, PySem.W.mg_of X G a_seen, k_seen, b_seen⟩
  have C_plain : Cal l.prog w K mg base "plain" ["strand"] _ _ := ⟨f_plain, _, ok_plain F_plain h_enumerate C_seen C_left_by C_flipped C_rolled, PySem.W.mg_of X G a_plain, k_plain, b_plain⟩
  exact ok_law F_law C__law_at C__law_strand C__law_kin C__law_hurt C__law_places C_left_by C__law_same C_plain
theorem walk {l : PySem.W.OpenLaw} {q : Program} {loose : List Str} {XP : (Str → Option Value) → Heap → Prop} {YP : World → Heap → Prop} {d : DefRec} {K : Params → PySem.W.Frag} (hn : l.most = some 63) (hdf : d.params.defaults = []) (hY : ∀ (w : World) (h : Heap), YP w h → (K w.params).In h)
    (F : ∀ (w : World) (mg : Str → Option Value) (fa : Addr) (h : Heap), (K w.params).In h → h.Ns mainGlobals mg → mg d.name = some (.ref fa) → ∃ fd : FuncData, (∀ (s : Shared) (u : Value), BindsTo s fd ⟨[u], []⟩ [("_law_script", u)]) ∧ ∀ base : Heap, (K w.params).In base → base.Ns mainGlobals mg → FnOk l.prog w (K w.params) mg base CX0 6 fa fd ["_law_script"] (spLaw (K w.params))) :
    PySem.W.WalkO q loose XP YP l.row.toRowW d [] (fun f vs => PySem.call f vs) :=
  L2.walk_of (n := 63) (k := 6) (x := "_law_script") (CX := fun _ => CX0) (sp := fun w => spLaw (K w.params)) hn (by decide) hdf ⟨rfl, by decide, by decide⟩ hY F (fun _ _ a ns hl _ hS => ⟨a, ns, rfl, hS, hl, fun _ => rfl⟩) fun _ _ _ _ _ z => z
end Wb
open PySem PySem.W PyProof.Rows
set_option maxRecDepth 100000 in
set_option maxHeartbeats 0 in
theorem PySem.Challenge.cw_wornband_k19_whole_plain_forms_holds : PySem.Challenge.rw_wornband_k19_whole_plain_forms.Holds := by
  w_on; o_law; k_head; (case hw => w_witness2)
  k_fill
  refine Wb.walk (l := PySem.Challenge.rw_wornband_k19_whole_plain_forms) rfl rfl (fun w h Y => PySem.W.kIn_of Y) ?F
  case F =>
    intro w mg fa h KX G hmg
    refine' Wb.fin_mk KX G hmg ?a_top ?l_top ?c_top ?k_top ?a_bottom ?l_bottom ?c_bottom ?k_bottom ?a_twisting ?l_twisting ?c_twisting ?k_twisting ?a_turned ?l_turned ?c_turned ?k_turned ?a_flipped ?l_flipped ?c_flipped ?k_flipped ?a_rolled ?l_rolled ?c_rolled ?k_rolled ?a_left_place ?l_left_place ?c_left_place ?k_left_place ?a_woven ?l_woven ?c_woven ?k_woven ?a_left_by ?l_left_by ?c_left_by ?k_left_by ?a_seen ?l_seen ?c_seen ?k_seen ?a_plain ?l_plain ?c_plain ?k_plain ?a__law_row ?l__law_row ?c__law_row ?k__law_row ?a__law_holes ?l__law_holes ?c__law_holes ?k__law_holes ?a__law_card ?l__law_card ?c__law_card ?k__law_card ?a__law_turns ?l__law_turns ?c__law_turns ?k__law_turns ?a__law_at ?l__law_at ?c__law_at ?k__law_at ?a__law_strand ?l__law_strand ?c__law_strand ?k__law_strand ?a__law_go ?l__law_go ?c__law_go ?k__law_go ?a__law_behind ?l__law_behind ?c__law_behind ?k__law_behind ?a__law_twist ?l__law_twist ?c__law_twist ?k__law_twist ?a__law_places ?l__law_places ?c__law_places ?k__law_places ?a__law_turnover ?l__law_turnover ?c__law_turnover ?k__law_turnover ?a__law_back ?l__law_back ?c__law_back ?k__law_back ?a__law_roll ?l__law_roll ?c__law_roll ?k__law_roll ?a__law_seen ?l__law_seen ?c__law_seen ?k__law_seen ?a__law_kin ?l__law_kin ?c__law_kin ?k__law_kin ?a__law_hurt ?l__law_hurt ?c__law_hurt ?k__law_hurt ?a__law_same ?l__law_same ?c__law_same ?k__law_same ?a_law ?l_law ?c_law ?k_law ?z_len ?z_abs ?z_range ?z_isinstance ?z_bool ?z_int ?z_str ?z_list ?z_tuple ?z_zip ?z_enumerate ?z_sum ?z_max ?z_sorted ?z_reversed ?g_HOLES ?g_STEPS ?m_STEPS ?s_STEPS ?g_OTHER_LAYS ?m_OTHER_LAYS ?s_OTHER_LAYS ?g_SLANTS ?m_SLANTS ?s_SLANTS
    (case a_top => k_is)
    (case l_top => k_is)
    (case c_top => k_is)
    (case k_top => k_is)
    (case a_bottom => k_is)
    (case l_bottom => k_is)
    (case c_bottom => k_is)
    (case k_bottom => k_is)
    (case a_twisting => k_is)
    (case l_twisting => k_is)
    (case c_twisting => k_is)
    (case k_twisting => k_is)
    (case a_turned => k_is)
    (case l_turned => k_is)
    (case c_turned => k_is)
    (case k_turned => k_is)
    (case a_flipped => k_is)
    (case l_flipped => k_is)
    (case c_flipped => k_is)
    (case k_flipped => k_is)
    (case a_rolled => k_is)
    (case l_rolled => k_is)
    (case c_rolled => k_is)
    (case k_rolled => k_is)
    (case a_left_place => k_is)
    (case l_left_place => k_is)
    (case c_left_place => k_is)
    (case k_left_place => k_is)
    (case a_woven => k_is)
    (case l_woven => k_is)
    (case c_woven => k_is)
    (case k_woven => k_is)
    (case a_left_by => k_is)
    (case l_left_by => k_is)
    (case c_left_by => k_is)
    (case k_left_by => k_is)
    (case a_seen => k_is)
    (case l_seen => k_is)
    (case c_seen => k_is)
    (case k_seen => k_is)
    (case a_plain => k_is)
    (case l_plain => k_is)
    (case c_plain => k_is)
    (case k_plain => k_is)
    (case a__law_row => k_is)
    (case l__law_row => k_is)
    (case c__law_row => k_is)
    (case k__law_row => k_is)
    (case a__law_holes => k_is)
    (case l__law_holes => k_is)
    (case c__law_holes => k_is)
    (case k__law_holes => k_is)
    (case a__law_card => k_is)
    (case l__law_card => k_is)
    (case c__law_card => k_is)
    (case k__law_card => k_is)
    (case a__law_turns => k_is)
    (case l__law_turns => k_is)
    (case c__law_turns => k_is)
    (case k__law_turns => k_is)
    (case a__law_at => k_is)
    (case l__law_at => k_is)
    (case c__law_at => k_is)
    (case k__law_at => k_is)
    (case a__law_strand => k_is)
    (case l__law_strand => k_is)
    (case c__law_strand => k_is)
    (case k__law_strand => k_is)
    (case a__law_go => k_is)
    (case l__law_go => k_is)
    (case c__law_go => k_is)
    (case k__law_go => k_is)
    (case a__law_behind => k_is)
    (case l__law_behind => k_is)
    (case c__law_behind => k_is)
    (case k__law_behind => k_is)
    (case a__law_twist => k_is)
    (case l__law_twist => k_is)
    (case c__law_twist => k_is)
    (case k__law_twist => k_is)
    (case a__law_places => k_is)
    (case l__law_places => k_is)
    (case c__law_places => k_is)
    (case k__law_places => k_is)
    (case a__law_turnover => k_is)
    (case l__law_turnover => k_is)
    (case c__law_turnover => k_is)
    (case k__law_turnover => k_is)
    (case a__law_back => k_is)
    (case l__law_back => k_is)
    (case c__law_back => k_is)
    (case k__law_back => k_is)
    (case a__law_roll => k_is)
    (case l__law_roll => k_is)
    (case c__law_roll => k_is)
    (case k__law_roll => k_is)
    (case a__law_seen => k_is)
    (case l__law_seen => k_is)
    (case c__law_seen => k_is)
    (case k__law_seen => k_is)
    (case a__law_kin => k_is)
    (case l__law_kin => k_is)
    (case c__law_kin => k_is)
    (case k__law_kin => k_is)
    (case a__law_hurt => k_is)
    (case l__law_hurt => k_is)
    (case c__law_hurt => k_is)
    (case k__law_hurt => k_is)
    (case a__law_same => k_is)
    (case l__law_same => k_is)
    (case c__law_same => k_is)
    (case k__law_same => k_is)
    (case a_law => k_is)
    (case l_law => k_is)
    (case c_law => k_is)
    (case k_law => k_is)
    (case z_len => k_is)
    (case z_abs => k_is)
    (case z_range => k_is)
    (case z_isinstance => k_is)
    (case z_bool => k_is)
    (case z_int => k_is)
    (case z_str => k_is)
    (case z_list => k_is)
    (case z_tuple => k_is)
    (case z_zip => k_is)
    (case z_enumerate => k_is)
    (case z_sum => k_is)
    (case z_max => k_is)
    (case z_sorted => k_is)
    (case z_reversed => k_is)
    (case g_HOLES => k_is)
    (case g_STEPS => k_is)
    (case m_STEPS => k_is)
    (case s_STEPS => rfl)
    (case g_OTHER_LAYS => k_is)
    (case m_OTHER_LAYS => k_is)
    (case s_OTHER_LAYS => rfl)
    (case g_SLANTS => k_is)
    (case m_SLANTS => k_is)
    (case s_SLANTS => rfl)
