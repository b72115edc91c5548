import PyProof.Rows.All
import Wide.All
import OpenK.AllK
import Wide.FinOn
import Lean
import PyProof.EqAt
import PyProof.EqKinds
import PyProof.TupleCall
import PySem.Sem
import PyProof.P3Statements
import PyProof.SliceList
import PyProof.Dict
import PyProof.TupleKey
import PyProof.DictRoadsH
import PyProof.P3Eq
import PyProof.FactsAll.NoneType_1
import PyProof.FString2
import KE.KDictOf
import PyProof.DictDisplay
import PyProof.Draws
import PyProof.EnumMake
import PyProof.Rows.TupIter
import PyProof.P3In
import PyProof.NeData
import KE.KRevIter
import PyProof.CollectIter
import PyProof.TupleOfGen
import PyProof.Rows.SetFrom
import PyProof.Rows.SortWalk
import KE.KSortedM
import PyProof.IsRules
import KE.KSortTup
import PySem.Challenge.RW_losspact_k12_views
set_option Elab.async false
set_option linter.all false
set_option maxRecDepth 100000
/-! THE HAND LAYER, for ints, bools, texts, own classes, LISTS and tuples (index, slices, in, append, pop ..), calls, loops. Paste it whole ahead of your own text; what your proof does not reach may be deleted. -/
namespace L2
open PySem PySem.Spec PyProof.Rows

/-- a key: an int or a str -/
abbrev Key := Sum Int Str
def keyIs : Key → Value → Bool
  | .inl k, v => Value.isInt k v
  | .inr x, v => Value.isStrOf x v
def keyH (w : World) : Key → Int
  | .inl k => hashInt k
  | .inr x => hashStr w x
theorem keyIs_shape : ∀ {k : Key} {v : Value}, keyIs k v = true → (∃ i t, k = Sum.inl i ∧ v = Value.int i t) ∨ (∃ x t, k = Sum.inr x ∧ v = Value.str x t)
  | .inl i, v, h => by
    obtain ⟨t, e⟩ := Value.isInt_shape (k := i) (v := v) h
    exact .inl ⟨i, t, rfl, e⟩
  | .inr x, v, h => by
    obtain ⟨t, e⟩ := Value.isStrOf_shape (x := x) (v := v) h
    exact .inr ⟨x, t, rfl, e⟩
theorem key_ll (a b : Int) : decide ((Sum.inl a : Key) = Sum.inl b) = (a == b) := by
  by_cases e : a = b
  · subst e; simp
  · have h : ¬ (Sum.inl a : Key) = Sum.inl b := fun q => e (Sum.inl.inj q)
    rw [decide_eq_false h]
    exact (beq_eq_false_iff_ne.mpr e).symm
theorem key_rr (a b : Str) : decide ((Sum.inr a : Key) = Sum.inr b) = decide (a = b) := by
  by_cases e : a = b
  · subst e; simp
  · have h : ¬ (Sum.inr a : Key) = Sum.inr b := fun q => e (Sum.inr.inj q)
    rw [decide_eq_false h, decide_eq_false e]
theorem key_lr (a : Int) (b : Str) : decide ((Sum.inl a : Key) = Sum.inr b) = false := decide_eq_false (fun q => nomatch q)
theorem key_rl (a : Str) (b : Int) : decide ((Sum.inr a : Key) = Sum.inl b) = false := decide_eq_false (fun q => nomatch q)

def mixKind (prog : Program) (w : World) : PySem.KeyKind prog w Key where
  is := keyIs
  hash := keyH w
  inj := fun v a b ha hb => by
    rcases keyIs_shape ha with ⟨i, t, rfl, rfl⟩ | ⟨x, t, rfl, rfl⟩
    · rcases keyIs_shape hb with ⟨j, u, rfl, e⟩ | ⟨y, u, rfl, e⟩
      · injection e with e1 _; rw [e1]
      · exact nomatch e
    · rcases keyIs_shape hb with ⟨j, u, rfl, e⟩ | ⟨y, u, rfl, e⟩
      · exact nomatch e
      · injection e with e1 _; rw [e1]
  byValue := fun k v h => by
    rcases keyIs_shape h with ⟨i, t, rfl, rfl⟩ | ⟨x, t, rfl, rfl⟩ <;> rfl
  pyHash := fun hv h => by
    rcases keyIs_shape hv with ⟨i, t, rfl, rfl⟩ | ⟨x, t, rfl, rfl⟩
    · exact wpAny_pyHash_int h
    · exact wpAny_pyHash_str h
  eqBool := fun hu hv h => by
    rcases keyIs_shape hu with ⟨i, t, rfl, rfl⟩ | ⟨x, t, rfl, rfl⟩
    · rcases keyIs_shape hv with ⟨j, u, rfl, rfl⟩ | ⟨y, u, rfl, rfl⟩
      · rw [key_ll] at h; exact wpAny_eqBool_int h
      · rw [key_lr] at h; exact SeqAt.EqAt.int_str i t y u _ _ _ _ h
    · rcases keyIs_shape hv with ⟨j, u, rfl, rfl⟩ | ⟨y, u, rfl, rfl⟩
      · rw [key_rl] at h; exact SeqAt.EqAt.str_int x t j u _ _ _ _ h
      · rw [key_rr] at h; exact wpAny_eqBool_str h
  «strs» := fun k x t v h => by
    rcases keyIs_shape h with ⟨i, u, rfl, e⟩ | ⟨y, u, rfl, e⟩
    · exact nomatch e
    · injection e with e1 _
      subst e1
      cases v <;> rfl

end L2

namespace L2
open PySem PySem.Spec PyProof.Rows

/-- a value, without the heap -/
inductive V where
  | non | bl (b : Bool) | int (i : Int) | str (x : Str) | byt (b : Array UInt8) | flt (b : UInt64) | ref (a : Addr) | ty (n : String)
  deriving DecidableEq

def RelV : V → Value → Prop
  | .non, u => u = Value.none
  | .bl b, u => u = Value.bool b
  | .int i, u => ∃ t, u = Value.int i t
  | .str x, u => ∃ t, u = Value.str x t
  | .byt b, u => ∃ t, u = Value.bytes b t
  | .flt b, u => ∃ t, u = Value.float b t
  | .ref a, u => u = Value.ref a
  | .ty n, u => u = Value.type n

abbrev Vals : List V → List Value → Prop := Paired RelV
theorem Vals.length {xs : List V} {us : List Value} (r : Vals xs us) : xs.length = us.length := Paired.length r
theorem Vals.get : ∀ {xs : List V} {us : List Value} {i : Nat} {x : V}, Vals xs us → xs[i]? = some x → ∃ u, us[i]? = some u ∧ RelV x u
  | _, _, _, _, .nil, e => by simp at e
  | _, _, 0, _, .cons r _, e => by simp at e; subst e; exact ⟨_, rfl, r⟩
  | _, _, i + 1, x, .cons _ t, e => by
    obtain ⟨u, h1, h2⟩ := Vals.get (i := i) (x := x) t (by simpa using e)
    exact ⟨u, by simpa using h1, h2⟩
theorem Vals.set {x : V} {u : Value} (r : RelV x u) : ∀ {xs : List V} {us : List Value} (i : Nat), Vals xs us → Vals (xs.set i x) (us.set i u)
  | _, _, _, .nil => .nil
  | _, _, 0, .cons _ t => .cons r t
  | _, _, i + 1, .cons q t => .cons q (Vals.set r i t)
theorem Vals.append : ∀ {xs ys : List V} {us ws : List Value}, Vals xs us → Vals ys ws → Vals (xs ++ ys) (us ++ ws)
  | _, _, _, _, .nil, s => s
  | _, _, _, _, .cons r t, s => .cons r (Vals.append t s)
theorem Vals.take : ∀ {xs : List V} {us : List Value} (n : Nat), Vals xs us → Vals (xs.take n) (us.take n)
  | _, _, 0, _ => .nil
  | _, _, _ + 1, .nil => .nil
  | _, _, n + 1, .cons r t => .cons r (Vals.take n t)
theorem Vals.drop : ∀ {xs : List V} {us : List Value} (n : Nat), Vals xs us → Vals (xs.drop n) (us.drop n)
  | _, _, 0, r => r
  | _, _, _ + 1, .nil => .nil
  | _, _, n + 1, .cons _ t => Vals.drop n t
theorem Vals.none_of : ∀ {xs : List V} {us : List Value} {i : Nat}, Vals xs us → xs[i]? = none → us[i]? = none := fun {xs us i} r e => by
  have h1 := r.length
  have h2 : xs.length ≤ i := List.getElem?_eq_none_iff.mp e
  exact List.getElem?_eq_none_iff.mpr (by omega)

def RelO : Option V → Option Value → Prop
  | some v, some u => RelV v u
  | none, none => True
  | _, _ => False
def KV {κ : Type} : List (κ × V) → List (κ × Value) → Prop := Paired fun (p : κ × V) (q : κ × Value) => p.1 = q.1 ∧ RelV p.2 q.2

/-- a key of a dict (00_mix): an int or a text -/
def kV : Key → V
  | .inl i => .int i
  | .inr x => .str x

/-- what stands at a tracked address -/
inductive HO where
  /-- a list -/
  | lst (xs : List V)
  /-- a tuple (never changes) -/
  | tup (xs : List V)
  /-- a dict whose keys are ints and texts; one whose keys are tuples of ints and texts (the empty one is both) -/
  | dK (kvs : List (Key × V)) | dT (kvs : List (List Key × V))
  /-- a set of ints: its members, its size -/
  | set (S : Int → Bool) (n : Nat)
  /-- an instance of the class at C, its dict at dx, its attributes -/
  | ins (C dx : Addr) (fs : List (Str × V))
  /-- the dict of the instance at x -/
  | own (x : Addr)
  /-- the dict of an exception -/
  | xd (fs : List (Str × V))
  /-- a bound method, f of x -/
  | met (f x : Addr)
  /-- a range object lo, lo + 1, .. below hi -/
  | rng (lo hi : Int)
  /-- a thing that is known to the object (the script; a dict while a loop walks it): read, never written while it is so -/
  | frz (o : Obj) (u : HO)
  /-- a code object's table -/
  | tbl (ps : Array Value)
  /-- any other thing, by what is true of its one object (a def of one's own: SetO a S n := HO.ext fun h => ..) -/
  | ext (φ : Heap → Prop)

abbrev Hp := Addr → Option HO
def upd (H : Hp) (a : Addr) (o : HO) : Hp := fun b => if b = a then some o else H b
theorem upd_same {H : Hp} {a : Addr} {o : HO} : upd H a o a = some o := by unfold upd; rw [if_pos rfl]
theorem upd_ne {H : Hp} {a b : Addr} {o : HO} (h : b ≠ a) : upd H a o b = H b := by unfold upd; rw [if_neg h]
/-- two objects of different content stand apart -/
theorem ne_of {H : Hp} {a b : Addr} {o u : HO} (h : H a = some o) (h' : H b = some u) (d : o ≠ u) : a ≠ b := by
  intro e; subst e; rw [h] at h'; exact d (Option.some.inj h')
theorem ne_of_none {H : Hp} {a b : Addr} {o : HO} (h : H a = some o) (h' : H b = none) : a ≠ b := by
  intro e; subst e; rw [h] at h'; cases h'

section
variable (P : Program) (w : World)
def ObjOk (H : Hp) (h : Heap) (a : Addr) : HO → Prop
  | .lst xs => xs.length ≤ sizeLine ∧ ∃ (its : List Value) (n : Nat), Vals xs its ∧ h.get? a = some { cls := .type "list", data := .seq its.toArray n }
  | .tup xs => xs.length ≤ sizeLine ∧ ∃ its : List Value, Vals xs its ∧ IsTup h a its.toArray
  | .dK kvs => kvs.length ≤ sizeLine ∧ (a == sysModules) = false ∧ ∃ vs, KV kvs vs ∧ h.DictOf (mixKind P w) a vs
  | .dT kvs => kvs.length ≤ sizeLine ∧ (a == sysModules) = false ∧ ∃ xs : List (List Key × Addr × Value),
      Paired (fun (p : List Key × V) (q : List Key × Addr × Value) => p.1 = q.1 ∧ H q.2.1 = some (.tup (p.1.map kV)) ∧ RelV p.2 q.2.2) kvs xs ∧
      ∃ o es ep, h.get? a = some o ∧ o.ExactDict ∧ o.data = .dict es ep ∧ es.toList = xs.map (entryOfKey (tupleKind (mixKind P w))) ∧ (xs.map (·.1)).Nodup
  | .set S n => h.SetOf (intKind P w) a S n
  | .ins C dx fs => H dx = some (.own a) ∧ fs.length ≤ 1000 ∧ dx ≠ a ∧ h.get? a = some (PySem.W.instObj C dx) ∧
      ∃ mA, h.Ns1 dx mA ∧ (∀ f, RelO (fs.lookup f) (mA f)) ∧ PySem.Within mA (fs.map (·.1))
  | .own _ => ∃ o, h.get? a = some o
  | .xd fs => ∃ mA, h.Ns1 a mA ∧ ∀ f, RelO (fs.lookup f) (mA f)
  | .rng lo hi => ∃ t u v, h.get? a = some { cls := .type "range", data := .fields #[.int lo t, .int hi u, .int 1 v] }
  | .frz o u => h.get? a = some o ∧ ObjOk H h a u
  | .tbl ps => h.get? a = some { cls := .none, data := .fields ps }
  | .met f x => h.get? a = some (PySem.W.methodObj (.ref f) (.ref x))
  | .ext φ => φ h ∧ (∃ o, h.get? a = some o) ∧ ∀ h1 h2 : Heap, φ h1 → (∀ o, h1.get? a = some o → h2.get? a = some o) → φ h2
/-- the abstract heap is held -/
def HOk (H : Hp) (h : Heap) : Prop := ∀ a o, H a = some o → ObjOk P w H h a o
end

section
variable {P : Program} {w : World} {H H' : Hp} {h h' : Heap} {a : Addr} {o : HO}
theorem ObjOk.lt (x : ObjOk P w H h a o) : a < h.objs.size := by
  cases o with
  | lst xs => obtain ⟨_, _, _, _, e⟩ := x; exact Heap.lt_size e
  | tup xs => obtain ⟨_, _, _, p⟩ := x; exact p.lt
  | dK kvs => obtain ⟨_, _, _, _, o, _, _, e, _⟩ := x; exact Heap.lt_size e
  | dT kvs => obtain ⟨_, _, _, _, o, _, _, e, _⟩ := x; exact Heap.lt_size e
  | set S n => obtain ⟨o, _, _, _, e, _⟩ := x; exact Heap.lt_size e
  | ins C dx fs => obtain ⟨_, _, _, e, _⟩ := x; exact Heap.lt_size e
  | own y => obtain ⟨_, e⟩ := x; exact Heap.lt_size e
  | xd fs => obtain ⟨_, ⟨_, _, _, e, _⟩, _⟩ := x; exact Heap.lt_size e
  | rng lo hi => obtain ⟨_, _, _, e⟩ := x; exact Heap.lt_size e
  | frz ob u => obtain ⟨e, _⟩ := x; exact Heap.lt_size e
  | tbl ps => exact Heap.lt_size (show h.get? a = some _ from x)
  | met f y => exact Heap.lt_size (show h.get? a = some _ from x)
  | ext φ => obtain ⟨_, ⟨_, e⟩, _⟩ := x; exact Heap.lt_size e
theorem Paired.mapP {α β : Type} {F G : α → β → Prop} : ∀ {l₁ : List α} {l₂ : List β}, Paired F l₁ l₂ → (∀ a b, F a b → G a b) → Paired G l₁ l₂
  | _, _, .nil, _ => .nil
  | _, _, .cons r t, f => .cons (f _ _ r) (Paired.mapP t f)
/-- what an object's description leans on: its own object, its own dict, the tuples -/
theorem ObjOk.stay (x : ObjOk P w H h a o) (k : ∀ b u, (b = a ∨ H b = some (.own a)) → h.get? b = some u → h'.get? b = some u)
    (ho : ∀ b, H b = some (.own a) → H' b = some (.own a)) (ht : ∀ b xs, H b = some (.tup xs) → H' b = some (.tup xs)) : ObjOk P w H' h' a o := by
  induction o with
  | lst xs => obtain ⟨z, its, n, r, e⟩ := x; exact ⟨z, its, n, r, k _ _ (.inl rfl) e⟩
  | tup xs => obtain ⟨z, its, r, ob, e, c⟩ := x; exact ⟨z, its, r, ob, k _ _ (.inl rfl) e, c⟩
  | dK kvs => obtain ⟨z, y, vs, r, ob, es, ep, e, c⟩ := x; exact ⟨z, y, vs, r, ob, es, ep, k _ _ (.inl rfl) e, c⟩
  | dT kvs =>
    obtain ⟨z, y, xs, r, ob, es, ep, e, c⟩ := x
    exact ⟨z, y, xs, Paired.mapP r fun p q z => ⟨z.1, ht _ _ z.2.1, z.2.2⟩, ob, es, ep, k _ _ (.inl rfl) e, c⟩
  | set S n => obtain ⟨ob, es, ep, t, e, c⟩ := x; exact ⟨ob, es, ep, t, k _ _ (.inl rfl) e, c⟩
  | ins C dx fs =>
    obtain ⟨d, z, ne, e, mA, ⟨od, es, ep, e2, c⟩, r⟩ := x
    exact ⟨ho _ d, z, ne, k _ _ (.inl rfl) e, mA, ⟨od, es, ep, k _ _ (.inr d) e2, c⟩, r⟩
  | own y => obtain ⟨ob, e⟩ := x; exact ⟨ob, k _ _ (.inl rfl) e⟩
  | xd fs => obtain ⟨mA, ⟨od, es, ep, e, c⟩, r⟩ := x; exact ⟨mA, ⟨od, es, ep, k _ _ (.inl rfl) e, c⟩, r⟩
  | rng lo hi => obtain ⟨t, u, v, e⟩ := x; exact ⟨t, u, v, k _ _ (.inl rfl) e⟩
  | frz ob u ih => obtain ⟨e, q⟩ := x; exact ⟨k _ _ (.inl rfl) e, ih q⟩
  | tbl ps =>
    have e : h.get? a = some { cls := .none, data := .fields ps } := x
    show h'.get? a = some { cls := .none, data := .fields ps }
    exact k a _ (.inl rfl) e
  | met f y =>
    have e : h.get? a = some (PySem.W.methodObj (.ref f) (.ref y)) := x
    show h'.get? a = some (PySem.W.methodObj (.ref f) (.ref y))
    exact k a _ (.inl rfl) e
  | ext φ => obtain ⟨p, ⟨o, e⟩, st⟩ := x; exact ⟨st _ _ p fun o q => k _ _ (.inl rfl) q, ⟨o, k _ _ (.inl rfl) e⟩, st⟩
theorem HOk.lt (x : HOk P w H h) (e : H a = some o) : a < h.objs.size := (x a o e).lt
theorem HOk.fresh (x : HOk P w H h) (e : h.objs.size ≤ a) : H a = none := by
  cases q : H a with
  | none => rfl
  | some u => exact absurd (Nat.lt_of_lt_of_le (x.lt q) e) (Nat.lt_irrefl _)
/-- every object of the heap is kept -/
theorem HOk.kept (x : HOk P w H h) (k : ∀ b u, h.get? b = some u → h'.get? b = some u) : HOk P w H h' := fun a o e =>
  (x a o e).stay (fun b u _ q => k b u q) (fun _ q => q) fun _ _ q => q
/-- a new object is laid and tracked -/
theorem HOk.laid (x : HOk P w H h) (k : ∀ b u, h.get? b = some u → h'.get? b = some u) (hp : h.objs.size ≤ a) (new : ObjOk P w (upd H a o) h' a o) : HOk P w (upd H a o) h' := fun b u e => by
  have hn := x.fresh hp
  by_cases hb : b = a
  · subst hb; rw [upd_same] at e; cases e; exact new
  · rw [upd_ne hb] at e
    exact (x b u e).stay (fun c v _ q => k c v q) (fun c q => by rw [upd_ne (ne_of_none q hn)]; exact q) fun c xs q => by rw [upd_ne (ne_of_none q hn)]; exact q
end

/-- what may be read as u: it is u, or a known u -/
def Rd (H : Hp) (a : Addr) (u : HO) : Prop := H a = some u ∨ ∃ o, H a = some (.frz o u)
theorem Rd.of {H : Hp} {a : Addr} {u : HO} (h : H a = some u) : Rd H a u := .inl h
theorem Rd.ok {P : Program} {w : World} {H : Hp} {h : Heap} {a : Addr} {u : HO} (r : Rd H a u) (x : HOk P w H h) : ObjOk P w H h a u := by
  rcases r with r | ⟨o, r⟩
  · exact x a u r
  · obtain ⟨_, q⟩ := x a _ r
    exact q
/-- what may be written -/
def Mut : Option HO → Prop
  | some (.lst _) => True
  | some (.dK _) => True
  | some (.dT _) => True
  | some (.set _ _) => True
  | some (.ins _ _ _) => True
  | some (.ext _) => True
  | _ => False
section
variable {P : Program} {w : World} {H : Hp} {h h' : Heap} {x e : Addr} {o' : HO}
/-- the object at e is changed: x itself, or the dict of the instance x -/
theorem HOk.write (ok : HOk P w H h) (mu : Mut (H x)) (he : e = x ∨ H e = some (.own x)) (k : ∀ b u, b ≠ e → h.get? b = some u → h'.get? b = some u) (heo : ∃ u, h'.get? e = some u)
    (new : ObjOk P w (upd H x o') h' x o') : HOk P w (upd H x o') h' := fun b u q => by
  have nown : ∀ c y, H c = some (.own y) → c ≠ x := fun c y r z => by subst z; rw [r] at mu; exact mu
  have ntup : ∀ c xs, H c = some (.tup xs) → c ≠ x := fun c xs r z => by subst z; rw [r] at mu; exact mu
  by_cases hb : b = x
  · subst hb; rw [upd_same] at q; cases q; exact new
  · rw [upd_ne hb] at q
    by_cases hbe : b = e
    · have q' : H b = some (.own x) := by
        rcases he with z | z
        · exact absurd (hbe.trans z) hb
        · rw [hbe]; exact z
      rw [q] at q'; cases q'
      obtain ⟨v, hv⟩ := heo
      exact ⟨v, by rw [hbe]; exact hv⟩
    · refine (ok b u q).stay (fun c v hc r => k c v ?_ r) (fun c r => by rw [upd_ne (nown c b r)]; exact r) fun c xs r => by rw [upd_ne (ntup c xs r)]; exact r
      rcases hc with rfl | hc
      · exact hbe
      · rintro rfl
        rcases he with z | z
        · exact nown c b hc z
        · rw [hc] at z; cases z; exact hb rfl
end

/-! ### kept unless tracked; of the frames at fs (the callers') the slots may change (an exception that passes writes there); of the records at ex (iterators) nothing is said -/
structure Un (fs ex : List Addr) (H H' : Hp) (h h' : Heap) : Prop where
  keep : ∀ b o, h.get? b = some o → H b = none → b ∉ fs → b ∉ ex → h'.get? b = some o
  slot : ∀ b o, h.get? b = some o → H b = none → b ∈ fs → b ∉ ex → ∃ sl, h'.get? b = some { o with slots := sl }
  free : ∀ b o, h.get? b = some o → H b = none → b ∉ ex → H' b = none
  there : ∀ b o, h.get? b = some o → b ∉ ex → ∃ o', h'.get? b = some o'
  tups : ∀ b xs, H b = some (.tup xs) → H' b = some (.tup xs)
  frzs : ∀ b o u, H b = some (.frz o u) → H' b = some (.frz o u)
  tbls : ∀ b ps, H b = some (.tbl ps) → ∃ more, H' b = some (.tbl (ps ++ more))
section
variable {fs fs' ex ex' : List Addr} {H H1 H2 : Hp} {h h1 h2 h' : Heap} {a x e : Addr} {o : HO}
theorem Un.any (u : Un fs ex H H1 h h1) {b : Addr} {ob : Obj} (q : h.get? b = some ob) (n : H b = none) (hx : b ∉ ex) : ∃ sl, h1.get? b = some { ob with slots := sl } := by
  by_cases hb : b ∈ fs
  · exact u.slot b ob q n hb hx
  · exact ⟨ob.slots, u.keep b ob q n hb hx⟩
theorem Un.trans (a : Un fs ex H H1 h h1) (b : Un fs ex H1 H2 h1 h2) : Un fs ex H H2 h h2 where
  keep := fun c ob q n hc hx => b.keep c ob (a.keep c ob q n hc hx) (a.free c ob q n hx) hc hx
  slot := fun c ob q n hc hx => by
    obtain ⟨sl, e1⟩ := a.slot c ob q n hc hx
    obtain ⟨sl', e2⟩ := b.slot c _ e1 (a.free c ob q n hx) hc hx
    exact ⟨sl', e2⟩
  free := fun c ob q n hx => by
    obtain ⟨o', e1⟩ := a.there c ob q hx
    exact b.free c o' e1 (a.free c ob q n hx) hx
  there := fun c ob q hx => by
    obtain ⟨o', e1⟩ := a.there c ob q hx
    exact b.there c o' e1 hx
  tups := fun c xs q => b.tups c xs (a.tups c xs q)
  frzs := fun c ob xs q => b.frzs c ob xs (a.frzs c ob xs q)
  tbls := fun c ps q => by
    obtain ⟨m1, e1⟩ := a.tbls c ps q
    obtain ⟨m2, e2⟩ := b.tbls c _ e1
    exact ⟨m1 ++ m2, by rw [e2, Array.append_assoc]⟩
theorem Un.kept (k : ∀ b u, h.get? b = some u → h'.get? b = some u) : Un fs ex H H h h' :=
  ⟨fun b ob q _ _ _ => k b ob q, fun b ob q _ _ _ => ⟨ob.slots, k b ob q⟩, fun _ _ _ n _ => n, fun b ob q _ => ⟨ob, k b ob q⟩, fun _ _ q => q, fun _ _ _ q => q, fun _ ps q => ⟨#[], by rw [q]; simp⟩⟩
theorem Un.refl : Un fs ex H H h h := Un.kept fun _ _ q => q
theorem Un.laid (k : ∀ b u, h.get? b = some u → h'.get? b = some u) (hp : h.objs.size ≤ a) (hn : H a = none) : Un fs ex H (upd H a o) h h' where
  keep := fun b u q _ _ _ => k b u q
  slot := fun b u q _ _ _ => ⟨u.slots, k b u q⟩
  free := fun b u q n _ => by rw [upd_ne (Nat.ne_of_lt (Nat.lt_of_lt_of_le (Heap.lt_size q) hp))]; exact n
  there := fun b u q _ => ⟨u, k b u q⟩
  tups := fun b xs q => by rw [upd_ne (ne_of_none q hn)]; exact q
  frzs := fun b u xs q => by rw [upd_ne (ne_of_none q hn)]; exact q
  tbls := fun b ps q => ⟨#[], by rw [upd_ne (ne_of_none q hn), q]; simp⟩
theorem Un.write (mu : Mut (H x)) (he : e = x ∨ H e = some (.own x)) (k : ∀ b u, b ≠ e → h.get? b = some u → h'.get? b = some u) (heo : ∃ u, h'.get? e = some u) : Un fs ex H (upd H x o) h h' := by
  have hx : ∀ b, H b = none → b ≠ x := fun b n z => by subst z; rw [n] at mu; exact mu
  have hb : ∀ b, H b = none → b ≠ e := fun b n z => by
    subst z
    rcases he with r | r
    · exact hx b n r
    · rw [n] at r; cases r
  have hm : ∀ b u, H b = some u → ¬ Mut (some u) → b ≠ x := fun b u q nm z => by subst z; rw [q] at mu; exact nm mu
  refine ⟨fun b u q n _ _ => k b u (hb b n) q, fun b u q n _ _ => ⟨u.slots, k b u (hb b n) q⟩, fun b u q n _ => by rw [upd_ne (hx b n)]; exact n, fun b u q _ => ?_,
    fun b xs q => by rw [upd_ne (hm b _ q fun z => z)]; exact q, fun b u xs q => by rw [upd_ne (hm b _ q fun z => z)]; exact q, fun b ps q => ⟨#[], by rw [upd_ne (hm b _ q fun z => z), q]; simp⟩⟩
  by_cases hbe : b = e
  · subst hbe; exact heo
  · exact ⟨u, k b u hbe q⟩
theorem Un.mono (u : Un fs ex H H1 h h1) (hs : ∀ b ∈ fs, b ∈ fs') (hx : ∀ b ∈ ex, b ∈ ex') : Un fs' ex' H H1 h h1 :=
  ⟨fun b ob q n hb he => u.keep b ob q n (fun z => hb (hs b z)) fun z => he (hx b z), fun _ _ q n _ he => u.any q n fun z => he (hx _ z), fun b ob q n he => u.free b ob q n fun z => he (hx b z), fun b ob q he => u.there b ob q fun z => he (hx b z), u.tups, u.frzs, u.tbls⟩
end

/-! ### the heap without what is tracked -/
def trk (h : Heap) (H : Hp) : List Addr := (List.range h.objs.size).filter fun a => (H a).isSome
def hidT (h : Heap) (H : Hp) : Heap := PySem.W.hideAll h (trk h H)
theorem hidT_size (h : Heap) (H : Hp) : (hidT h H).objs.size = h.objs.size := PySem.W.hideAll_size _ _
theorem hidT_get {h : Heap} {H : Hp} {b : Addr} {o : Obj} (e : h.get? b = some o) (n : H b = none) : (hidT h H).get? b = some o :=
  PySem.W.hideAll_get _ e fun hm => by
    have q : (H b).isSome = true := (List.mem_filter.mp hm).2
    rw [n] at q; simp at q
theorem of_hidT {h : Heap} {H : Hp} {b : Addr} {o : Obj} (e : (hidT h H).get? b = some o) : h.get? b = some o ∧ H b = none := by
  have e' : h.get? b = some o := PySem.W.of_hideAll (trk h H) e
  refine ⟨e', ?_⟩
  cases q : H b with
  | none => rfl
  | some x =>
    have hm : b ∈ trk h H := List.mem_filter.mpr ⟨List.mem_range.mpr (Heap.lt_size e'), by simp [q]⟩
    have z : (hidT h H).get? b = none := PySem.W.hideAll_none (trk h H) hm
    rw [z] at e; cases e

/-! ### OpenK's ledger, filled with every new object but one -/
def allNews (g h : Heap) (L : Addr) : List (Addr × Obj) := (List.range h.objs.size).filterMap fun a => if a = L ∨ (g.get? a).isSome = true then none else (h.get? a).map fun o => (a, o)
def rest (g h : Heap) (L d : Addr) : List (Addr × Obj) := (allNews g h L).filter fun p => decide (p.1 ≠ d)
end L2

namespace L2
open PySem PySem.Spec PyProof.Rows

/-- the module's facts, over the base: the heap at the law's entry without what is tracked there -/
structure Mod (K : PySem.W.Frag) (mg : Str → Option Value) (base : Heap) : Prop where
  kin : K.In base
  glob : base.Ns mainGlobals mg
  blt : ∃ mb, base.Ns builtinsNs mb ∧ ∀ x : Str, x ≠ "__name__" → mb x = bootBuiltins x
  nolimit : base.NoLimit

/-- the context: a def's body (or a comprehension's block) running. base: fixed through the whole law; s₀, H₀: the entry; outer: the frames whose slots others may change (a def's callers); stack: all frames that run;
   ex: iterators that were made ahead of the entry and are walked here (a comprehension's); fn: the names whose cells were made at the entry (a def: all; a comprehension's block: its own); calm: not within an except suite; pn: pins that every state bears; xe: what is wanted of an exception that leaves the code -/
structure Cx where
  prog : Program
  w : World
  K : PySem.W.Frag
  mg : Str → Option Value
  base : Heap
  A : Around
  N : List Str
  s₀ : Shared
  H₀ : Hp
  env : Env
  outer : List Env
  stack : List Env
  ex : List Addr
  fn : Str → Bool
  calm : Bool
  pn : List (Addr × Obj)
  xe : Value → Shared → Prop
/-- the callers' frames -/
def frs (l : List Env) : List Addr := l.filterMap (·.frame)
abbrev Cx.fs (X : Cx) : List Addr := frs X.outer

def Vis (sc : Scope) (x : Str) : Prop := sc.names.lookup x = some .local ∨ sc.names.lookup x = some .cell ∨ sc.names.lookup x = some .free
def Loc (sc : Scope) (x : Str) : Prop := sc.names.lookup x = some .local ∨ sc.names.lookup x = some .cell
def Look (env : Env) (h : Heap) (m : Str → Option Value) (x : Str) (u : Value) : Prop :=
  (env.kindOf x = some .local ∧ m x = some u) ∨ ((env.kindOf x = some .cell ∨ env.kindOf x = some .free) ∧ ∃ c, env.cells.lookup x = some c ∧ h.IsCell c (some u))

structure Cx.Ok (X : Cx) : Prop where
  mod : Mod X.K X.mg X.base
  kind : X.env.scope.kind = .function
  glob : X.env.globals = mainGlobals
  blt : X.env.builtins = builtinsNs
  above : X.s₀.heap.objs.size ≤ X.env.locals
  inj : ∀ x y c, X.env.cells.lookup x = some c → X.env.cells.lookup y = some c → x = y
  has : ∀ x, (X.env.kindOf x = some .cell ∨ X.env.kindOf x = some .free) → ∃ c, X.env.cells.lookup x = some c
  cab : ∀ x c, X.fn x = true → X.env.cells.lookup x = some c → X.s₀.heap.objs.size ≤ c
  hd : X.calm = true → X.A.handled = none
  frames : X.A.frames = some X.stack
  stk : X.stack = X.outer ∨ (X.stack = X.env :: X.outer ∧ X.env.frame = some X.env.locals)
  exf : ∀ b ∈ X.ex, b ≠ X.env.locals ∧ ∀ x c, X.env.cells.lookup x = some c → c ≠ b
  bs : ∀ b o, X.base.get? b = some o → X.s₀.heap.get? b = some o ∧ X.H₀ b = none
  bsz : X.base.objs.size ≤ X.s₀.heap.objs.size
  noex : ∀ b o, X.base.get? b = some o → b ∉ X.ex
  exfs : ∀ b ∈ X.ex, b ∉ X.fs
  funs : X.s₀.heap.FunFrames X.base X.outer
  frf : ∀ b ∈ X.fs, X.H₀ b = none

structure Inv (X : Cx) (pins : List (Addr × Obj)) (σ : List (Option V)) (H : Hp) (s : Shared) : Prop where
  ok : X.Ok
  os : s.os = X.s₀.os
  bare : AllBare s.gens
  base : Un X.fs X.ex X.H₀ H X.s₀.heap s.heap
  loc : ∃ m, s.heap.Ns X.env.locals m ∧ ∀ (i : Nat) (x : Str) (v : V), X.N[i]? = some x → σ[i]? = some (some v) → Vis X.env.scope x → ∃ u, RelV v u ∧ Look X.env s.heap m x u
  cell : ∀ x c, X.env.cells.lookup x = some c → ∃ v, s.heap.IsCell c v
  free : H X.env.locals = none
  freeC : ∀ x c, X.env.cells.lookup x = some c → H c = none
  pin : ∀ p ∈ X.pn ++ pins, s.heap.get? p.1 = some p.2 ∧ H p.1 = none ∧ p.1 ≠ X.env.locals ∧ p.1 ∉ X.fs ∧ ∀ v, p.2.data ≠ .cell v
  hok : HOk X.prog X.w H s.heap
  len : σ.length = X.N.length

section
variable {X : Cx} {pins : List (Addr × Obj)} {σ : List (Option V)} {H H' : Hp} {s : Shared} {h' : Heap}

theorem Cx.Ok.nofr (ok : X.Ok) {b : Addr} {o : Obj} (e : X.base.get? b = some o) : b ∉ X.fs := fun hb => by
  have := (ok.funs.mem hb).1
  rw [e] at this; cases this
theorem Inv.bs (I : Inv X pins σ H s) : ∀ b o, X.base.get? b = some o → s.heap.get? b = some o ∧ H b = none := fun b o e =>
  ⟨I.base.keep b o (I.ok.bs b o e).1 (I.ok.bs b o e).2 (I.ok.nofr e) (I.ok.noex b o e), I.base.free b o (I.ok.bs b o e).1 (I.ok.bs b o e).2 (I.ok.noex b o e)⟩
theorem Inv.bk (I : Inv X pins σ H s) : ∀ b o, X.base.get? b = some o → s.heap.get? b = some o := fun b o e => (I.bs b o e).1
theorem Inv.mod (I : Inv X pins σ H s) : Mod X.K X.mg X.base := I.ok.mod
theorem Inv.kIn (I : Inv X pins σ H s) : X.K.In s.heap := I.ok.mod.kin.keeps I.bk
theorem Inv.nolimit (I : Inv X pins σ H s) : s.heap.NoLimit := I.ok.mod.nolimit.keeps I.bk
/-- the frame over the base: for OpenK's rules (K.In X.base is I.mod.kin) -/
theorem Inv.fr (I : Inv X pins σ H s) : ∃ m, Fr X.base X.env.locals s.heap m :=
  let ⟨m, hn, _⟩ := I.loc
  ⟨m, hn, I.bk, Nat.le_trans I.ok.bsz I.ok.above⟩
theorem Inv.lt (I : Inv X pins σ H s) : X.env.locals < s.heap.objs.size := let ⟨_, hn, _⟩ := I.loc; hn.lt
theorem Inv.sz (I : Inv X pins σ H s) : X.s₀.heap.objs.size ≤ s.heap.objs.size := Nat.le_trans I.ok.above (Nat.le_of_lt I.lt)
theorem Inv.nofs (I : Inv X pins σ H s) {a : Addr} (h : s.heap.objs.size ≤ a) : a ∉ X.fs := fun hb => by
  obtain ⟨_, o, ho, _⟩ := I.ok.funs.mem hb
  exact absurd (Nat.lt_of_lt_of_le (Heap.lt_size ho) (Nat.le_trans I.sz h)) (Nat.lt_irrefl _)
theorem Inv.cne (I : Inv X pins σ H s) : ∀ x c, X.env.cells.lookup x = some c → c ≠ X.env.locals := fun x c e z => by
  obtain ⟨v, o, ho, hd⟩ := I.cell x c e
  obtain ⟨m, ⟨o', es, ep, ho', hd', _⟩, _⟩ := I.loc
  rw [z, ho'] at ho; cases ho; rw [hd'] at hd; cases hd
theorem Inv.funs (I : Inv X pins σ H s) : s.heap.FunFrames X.base X.outer := by
  have all : ∀ (l : List Env), (∀ b ∈ frs l, b ∈ X.fs) → X.s₀.heap.FunFrames X.base l → s.heap.FunFrames X.base l := by
    intro l
    induction l with
    | nil => intro _ _; trivial
    | cons env r ih =>
      intro hs hl
      obtain ⟨hk, ⟨L, o, hf, hn, ho, hd⟩, hr⟩ := hl
      have hL : L ∈ X.fs := hs L (by unfold frs; rw [List.filterMap_cons, hf]; exact List.mem_cons_self)
      obtain ⟨sl, e⟩ := I.base.slot L o ho (I.ok.frf L hL) hL fun z => I.ok.exfs L z hL
      exact ⟨hk, ⟨L, _, hf, hn, e, hd⟩, ih (fun b hb => hs b (by unfold frs; rw [List.filterMap_cons, hf]; exact List.mem_cons_of_mem _ hb)) hr⟩
  exact all X.outer (fun _ hb => hb) I.ok.funs

/-- the frames that run, for a call -/
theorem Inv.stack (I : Inv X pins σ H s) : s.heap.FunFrames X.base X.stack := by
  rcases I.ok.stk with e | ⟨e, hf⟩
  · rw [e]; exact I.funs
  · rw [e]
    obtain ⟨m, hn, _⟩ := I.loc
    refine .cons (by rw [I.ok.kind]; decide) hf hn ?_ I.funs
    exact Heap.get?_none_of_le (Nat.le_trans I.ok.bsz I.ok.above)
theorem Inv.stkSub (I : Inv X pins σ H s) : ∀ b ∈ frs X.stack, b ∈ X.env.locals :: X.fs := fun b hb => by
  rcases I.ok.stk with e | ⟨e, hf⟩
  · rw [e] at hb; exact List.mem_cons_of_mem _ hb
  · rw [e] at hb
    unfold frs at hb
    rw [List.filterMap_cons, hf] at hb
    exact hb
theorem Inv.stkFree (I : Inv X pins σ H s) : ∀ b ∈ frs X.stack, H b = none := fun b hb => by
  rcases List.mem_cons.mp (I.stkSub b hb) with e | hb
  · rw [e]; exact I.free
  · obtain ⟨_, o, ho, _⟩ := I.ok.funs.mem hb
    exact I.base.free b o ho (I.ok.frf b hb) fun z => I.ok.exfs b z hb

/-- THE STEP: the untracked objects but the frame and the records at ch are kept (the callers' frames up to slots), the frame's map is kept, the new abstract heap is held -/
theorem Inv.step {g' : Array GenState} {t' : Nat} {d' : Drawn} {ch : List Addr} (I : Inv X pins σ H s)
    (hch : ∀ b ∈ ch, (b ∈ X.ex ∨ X.s₀.heap.objs.size ≤ b) ∧ b ≠ X.env.locals ∧ (∀ x c, X.env.cells.lookup x = some c → c ≠ b) ∧ ∀ p ∈ X.pn ++ pins, p.1 ≠ b)
    (keep : ∀ b o, b ≠ X.env.locals → b ∉ X.fs → b ∉ ch → s.heap.get? b = some o → H b = none → h'.get? b = some o)
    (slot : ∀ b o, b ≠ X.env.locals → b ∈ X.fs → b ∉ ch → s.heap.get? b = some o → H b = none → ∃ sl, h'.get? b = some { o with slots := sl }) (free : ∀ b o, b ∉ ch → s.heap.get? b = some o → H b = none → H' b = none)
    (there : ∀ b o, b ∉ ch → s.heap.get? b = some o → ∃ o', h'.get? b = some o')
    (tups : ∀ b xs, H b = some (.tup xs) → H' b = some (.tup xs)) (frzs : ∀ b o u, H b = some (.frz o u) → H' b = some (.frz o u)) (tbls : ∀ b ps, H b = some (.tbl ps) → ∃ more, H' b = some (.tbl (ps ++ more)))
    (ns : ∀ m, s.heap.Ns X.env.locals m → h'.Ns X.env.locals m) (hok : HOk X.prog X.w H' h') (hg : AllBare g') :
    Inv X pins σ H' { s with heap := h', gens := g', drawn := d', toks := t' } := by
  have neL : ∀ b o, X.s₀.heap.get? b = some o → b ≠ X.env.locals := fun b o e => Nat.ne_of_lt (Nat.lt_of_lt_of_le (Heap.lt_size e) I.ok.above)
  have neC : ∀ b o, X.s₀.heap.get? b = some o → b ∉ X.ex → b ∉ ch := fun b o e hx hb => by
    rcases (hch b hb).1 with z | z
    · exact hx z
    · exact absurd (Nat.lt_of_lt_of_le (Heap.lt_size e) z) (Nat.lt_irrefl _)
  have cellK : ∀ x c, X.env.cells.lookup x = some c → ∀ v, s.heap.IsCell c v → h'.IsCell c v := fun x c e v ⟨o, ho, hd⟩ => by
    have nch : c ∉ ch := fun z => (hch c z).2.2.1 x c e rfl
    by_cases hc : c ∈ X.fs
    · obtain ⟨sl, q⟩ := slot c o (I.cne x c e) hc nch ho (I.freeC x c e)
      exact ⟨_, q, hd⟩
    · exact ⟨o, keep c o (I.cne x c e) hc nch ho (I.freeC x c e), hd⟩
  refine ⟨I.ok, I.os, hg, ⟨fun b o e n hb hx => ?_, fun b o e n hb hx => ?_, fun b o e n hx => ?_, fun b o e hx => ?_, fun b xs e => tups b xs (I.base.tups b xs e), fun b o xs e => frzs b o xs (I.base.frzs b o xs e), fun b ps e => ?_⟩, ?_, fun x c e => ?_, ?_, fun x c e => ?_, fun p hp => ?_, hok, I.len⟩
  · exact keep b o (neL b o e) hb (neC b o e hx) (I.base.keep b o e n hb hx) (I.base.free b o e n hx)
  · obtain ⟨sl, e1⟩ := I.base.slot b o e n hb hx
    obtain ⟨sl', e2⟩ := slot b _ (neL b o e) hb (neC b o e hx) e1 (I.base.free b o e n hx)
    exact ⟨sl', e2⟩
  · obtain ⟨o', e1⟩ := I.base.there b o e hx
    exact free b o' (neC b o e hx) e1 (I.base.free b o e n hx)
  · obtain ⟨o', e1⟩ := I.base.there b o e hx
    exact there b o' (neC b o e hx) e1
  · obtain ⟨m1, e1⟩ := I.base.tbls b ps e
    obtain ⟨m2, e2⟩ := tbls b _ e1
    exact ⟨m1 ++ m2, by rw [e2, Array.append_assoc]⟩
  · obtain ⟨m, hn, hl⟩ := I.loc
    refine ⟨m, ns m hn, fun i x v e1 e2 e3 => ?_⟩
    obtain ⟨u, r, l⟩ := hl i x v e1 e2 e3
    refine ⟨u, r, ?_⟩
    rcases l with l | ⟨k, c, e, z⟩
    · exact .inl l
    · exact .inr ⟨k, c, e, cellK x c e _ z⟩
  · obtain ⟨v, z⟩ := I.cell x c e
    exact ⟨v, cellK x c e v z⟩
  · obtain ⟨m, ⟨o, _, _, ho, _⟩, _⟩ := I.loc
    exact free _ o (fun z => (hch _ z).2.1 rfl) ho I.free
  · obtain ⟨v, o, ho, hd⟩ := I.cell x c e
    exact free c o (fun z => (hch c z).2.2.1 x c e rfl) ho (I.freeC x c e)
  · obtain ⟨e, n, ne, nf, d⟩ := I.pin p hp
    have nch : p.1 ∉ ch := fun z => (hch p.1 z).2.2.2 p hp rfl
    exact ⟨keep p.1 p.2 ne nf nch e n, free p.1 p.2 nch e n, ne, nf, d⟩
/-- .. where the frame's own object is kept too -/
theorem Inv.un {t' : Nat} (I : Inv X pins σ H s) (u : Un X.fs [] H H' s.heap h') (hok : HOk X.prog X.w H' h') : Inv X pins σ H' { s with heap := h', toks := t' } := by
  obtain ⟨m, ⟨o, es, ep, ho, r⟩, _⟩ := id I.loc
  obtain ⟨sl, hL⟩ := u.any ho I.free (by simp)
  exact I.step (g' := s.gens) (d' := s.drawn) (ch := []) (fun _ z => nomatch z) (fun b o _ hb _ e n => u.keep b o e n hb (by simp)) (fun b o _ hb _ e n => u.slot b o e n hb (by simp)) (fun b o _ e n => u.free b o e n (by simp)) (fun b o _ e => u.there b o e (by simp)) u.tups u.frzs u.tbls (fun m' hm => by
    obtain ⟨o', es', ep', ho', r'⟩ := hm
    rw [ho] at ho'; cases ho'
    exact ⟨_, es', ep', hL, r'⟩) hok I.bare
/-- behind a call (or a comprehension's block): the slots of this frame may have changed too, the records at ch may have turned -/
theorem Inv.call {g' : Array GenState} {t' : Nat} {d' : Drawn} {ch : List Addr} (I : Inv X pins σ H s) (u : Un (frs X.stack) ch H H' s.heap h') (hok : HOk X.prog X.w H' h') (hg : AllBare g')
    (hch : ∀ b ∈ ch, (b ∈ X.ex ∨ X.s₀.heap.objs.size ≤ b) ∧ b ≠ X.env.locals ∧ (∀ x c, X.env.cells.lookup x = some c → c ≠ b) ∧ ∀ p ∈ X.pn ++ pins, p.1 ≠ b) :
    Inv X pins σ H' { s with heap := h', gens := g', drawn := d', toks := t' } := by
  obtain ⟨m, ⟨o, es, ep, ho, r⟩, _⟩ := id I.loc
  obtain ⟨sl, hL⟩ := u.any ho I.free fun z => (hch _ z).2.1 rfl
  exact I.step (ch := ch) hch (fun b o hL hb hc e n => u.keep b o e n (fun z => (List.mem_cons.mp (I.stkSub b z)).elim hL hb) hc) (fun b o _ _ hc e n => u.any e n hc) (fun b o hc e n => u.free b o e n hc) (fun b o hc e => u.there b o e hc) u.tups u.frzs u.tbls (fun m' hm => by
    obtain ⟨o', es', ep', ho', r'⟩ := hm
    rw [ho] at ho'; cases ho'
    exact ⟨_, es', ep', hL, r'⟩) hok hg
/-- an untracked record of ours (an iterator) has turned -/
theorem Inv.turned {t' : Nat} {it : Addr} (I : Inv X pins σ H s) (k : ∀ b o, b ≠ it → s.heap.get? b = some o → h'.get? b = some o) (hn : H it = none) (hL : it ≠ X.env.locals)
    (h1 : it ∈ X.ex ∨ X.s₀.heap.objs.size ≤ it) (h2 : ∀ x c, X.env.cells.lookup x = some c → c ≠ it) (h3 : ∀ p ∈ X.pn ++ pins, p.1 ≠ it) : Inv X pins σ H { s with heap := h', toks := t' } := by
  have nit : ∀ b u, H b = some u → b ≠ it := fun b u e z => by rw [z, hn] at e; cases e
  refine I.step (g' := s.gens) (d' := s.drawn) (ch := [it]) (fun b hb => ?_) (fun b o _ _ hc e _ => k b o (fun z => hc (by simp [z])) e) (fun b o _ _ hc e _ => ⟨o.slots, k b o (fun z => hc (by simp [z])) e⟩) (fun _ _ _ _ n => n)
    (fun b o hc e => ⟨o, k b o (fun z => hc (by simp [z])) e⟩) (fun _ _ e => e) (fun _ _ _ e => e) (fun b ps e => ⟨#[], by rw [e]; simp⟩) (fun m hm => ?_) (fun b u e => ?_) I.bare
  · have e : b = it := by simpa using hb
    subst e
    exact ⟨h1, hL, h2, h3⟩
  · obtain ⟨o, es, ep, ho, r⟩ := hm
    exact ⟨o, es, ep, k _ o (Ne.symm hL) ho, r⟩
  · refine (I.hok b u e).stay (fun c v hc q => k c v ?_ q) (fun _ q => q) fun _ _ q => q
    rcases hc with z | z
    · rw [z]; exact nit b u e
    · exact nit c _ z
theorem Inv.tok (I : Inv X pins σ H s) (t : Nat) : Inv X pins σ H { s with toks := t } := I.un (h' := s.heap) (t' := t) Un.refl I.hok
/-- all objects kept -/
theorem Inv.kept {t' : Nat} (I : Inv X pins σ H s) (k : ∀ b u, s.heap.get? b = some u → h'.get? b = some u) : Inv X pins σ H { s with heap := h', toks := t' } := I.un (Un.kept k) (I.hok.kept k)
/-- a new object laid and tracked -/
theorem Inv.laid {a : Addr} {o : HO} {t' : Nat} (I : Inv X pins σ H s) (k : ∀ b u, s.heap.get? b = some u → h'.get? b = some u) (hp : s.heap.objs.size ≤ a) (new : ObjOk X.prog X.w (upd H a o) h' a o) :
    Inv X pins σ (upd H a o) { s with heap := h', toks := t' } := I.un (Un.laid k hp (I.hok.fresh hp)) (I.hok.laid k hp new)
/-- an object written -/
theorem Inv.write {x e : Addr} {o : HO} {t' : Nat} (I : Inv X pins σ H s) (mu : Mut (H x)) (he : e = x ∨ H e = some (.own x)) (k : ∀ b u, b ≠ e → s.heap.get? b = some u → h'.get? b = some u) (heo : ∃ u, h'.get? e = some u)
    (new : ObjOk X.prog X.w (upd H x o) h' x o) : Inv X pins σ (upd H x o) { s with heap := h', toks := t' } := I.un (Un.write mu he k heo) (I.hok.write mu he k heo new)
/-- forgetting slots, pins -/
theorem Inv.weak {σ' : List (Option V)} (I : Inv X pins σ H s) (hl : σ'.length = σ.length) (w : ∀ (i : Nat) v, σ'[i]? = some (some v) → σ[i]? = some (some v)) : Inv X pins σ' H s :=
  ⟨I.ok, I.os, I.bare, I.base, let ⟨m, hn, hl'⟩ := I.loc; ⟨m, hn, fun i x v e1 e2 e3 => hl' i x v e1 (w i v e2) e3⟩, I.cell, I.free, I.freeC, I.pin, I.hok, hl.trans I.len⟩
theorem Inv.pins_of {pins' : List (Addr × Obj)} (I : Inv X pins σ H s) (h : ∀ p ∈ pins', s.heap.get? p.1 = some p.2 ∧ H p.1 = none ∧ p.1 ≠ X.env.locals ∧ p.1 ∉ X.fs ∧ ∀ v, p.2.data ≠ .cell v) : Inv X pins' σ H s :=
  ⟨I.ok, I.os, I.bare, I.base, I.loc, I.cell, I.free, I.freeC, fun p hp => (List.mem_append.mp hp).elim (fun z => I.pin p (List.mem_append_left _ z)) (h p), I.hok, I.len⟩

theorem nodup_ix {N : List Str} (hN : N.Nodup) {i j : Nat} {x : Str} (a : N[i]? = some x) (b : N[j]? = some x) : i = j := by
  obtain ⟨h1, e1⟩ := List.getElem?_eq_some_iff.mp a
  obtain ⟨h2, e2⟩ := List.getElem?_eq_some_iff.mp b
  exact (List.getElem_inj hN).mp (e1.trans e2.symm)

/-- a name is stored; what changed -/
theorem store_ok2 {M : Model} {A : Around} {E : Value → Shared → Prop} {i : Nat} {x : Str} {v : V} {u : Value} {Q : Unit → Shared → Prop} (I : Inv X pins σ H s) (hN : X.N.Nodup) (hi : X.N[i]? = some x) (hx : Loc X.env.scope x) (r : RelV v u)
    (h : ∀ s', Inv X pins (σ.set i (some v)) H s' → (∃ a, Heap.SameBut a s.heap s'.heap ∧ (a = X.env.locals ∨ X.env.cells.lookup x = some a)) → Q () s') (hf : X.fn x = true ∨ X.env.scope.names.lookup x = some .local := by first | exact .inl rfl | exact .inr rfl | assumption) : wpAny M A (storeName X.env x u) Q E s := by
  obtain ⟨m, hn, hl⟩ := id I.loc
  have hcls : (X.env.scope.kind == .class || (X.env.scope.kind == .module && X.env.locals != X.env.globals)) = false := by rw [I.ok.kind]; rfl
  have hiσ : i < σ.length := by rw [I.len]; exact (List.getElem?_eq_some_iff.mp hi).1
  have cne := I.cne
  have tracked : ∀ {a : Addr} {h' : Heap}, (∃ o, s.heap.get? a = some o ∧ H a = none) → Heap.SameBut a s.heap h' → HOk X.prog X.w H h' := fun {a h'} ha hs b ob e => by
    obtain ⟨_, _, hfree⟩ := ha
    refine (I.hok b ob e).stay (fun c w' hc q => (hs.2 c ?_).trans q) (fun _ q => q) fun _ _ q => q
    rintro rfl
    rcases hc with rfl | hc
    · rw [hfree] at e; cases e
    · rw [hfree] at hc; cases hc
  rcases hx with hk | hk
  · refine wpAny_storeName_local hk hn (fun h' hn' hs => ?_) hcls
    obtain ⟨oL, _, _, hoL, _⟩ := id hn
    refine h _ ⟨I.ok, I.os, I.bare, ⟨fun b o e n hb hx => ?_, fun b o e n hb hx => ?_, I.base.free, fun b o e hx => ?_, I.base.tups, I.base.frzs, I.base.tbls⟩, ⟨_, hn', fun j y v' e1 e2 e3 => ?_⟩, fun y c e => ?_, I.free, I.freeC, fun p hp => ?_, tracked ⟨oL, hoL, I.free⟩ hs, by simpa using I.len⟩ ⟨_, hs, .inl rfl⟩
    · exact (hs.2 b (Nat.ne_of_lt (Nat.lt_of_lt_of_le (Heap.lt_size e) I.ok.above))).trans (I.base.keep b o e n hb hx)
    · obtain ⟨sl, e1⟩ := I.base.slot b o e n hb hx
      exact ⟨sl, (hs.2 b (Nat.ne_of_lt (Nat.lt_of_lt_of_le (Heap.lt_size e) I.ok.above))).trans e1⟩
    · obtain ⟨o', e1⟩ := I.base.there b o e hx
      exact ⟨o', (hs.2 b (Nat.ne_of_lt (Nat.lt_of_lt_of_le (Heap.lt_size e) I.ok.above))).trans e1⟩
    · by_cases hj : j = i
      · subst hj
        rw [hi] at e1; cases e1
        rw [List.getElem?_set_self hiσ] at e2
        cases e2
        exact ⟨u, r, .inl ⟨hk, by simp⟩⟩
      · rw [List.getElem?_set_ne (Ne.symm hj)] at e2
        obtain ⟨u', r', q⟩ := hl j y v' e1 e2 e3
        refine ⟨u', r', ?_⟩
        rcases q with ⟨k, e⟩ | ⟨k, c, e, z⟩
        · refine .inl ⟨k, ?_⟩
          have : y ≠ x := fun e => hj (nodup_ix hN e1 (e ▸ hi))
          simp [this, e]
        · exact .inr ⟨k, c, e, z.sameBut hs (cne y c e)⟩
    · obtain ⟨w', z⟩ := I.cell y c e
      exact ⟨w', z.sameBut hs (cne y c e)⟩
    · obtain ⟨e, n, ne, nf, d⟩ := I.pin p hp
      exact ⟨(hs.2 p.1 ne).trans e, n, ne, nf, d⟩
  · have hfn : X.fn x = true := by
      rcases hf with z | z
      · exact z
      · rw [z] at hk; cases hk
    obtain ⟨c, hc⟩ := I.ok.has x (.inl hk)
    obtain ⟨w', z⟩ := I.cell x c hc
    refine wpAny_storeName_cell I.ok.kind hk hc z (fun h' hc' hs => ?_)
    obtain ⟨oc, hoc, hocd⟩ := id z
    refine h { s with heap := h' } ⟨I.ok, I.os, I.bare, ⟨fun b o e n hb hx => ?_, fun b o e n hb hx => ?_, I.base.free, fun b o e hx => ?_, I.base.tups, I.base.frzs, I.base.tbls⟩, ⟨m, hn.sameBut hs (Ne.symm (cne x c hc)), fun j y v' e1 e2 e3 => ?_⟩, fun y c' e => ?_, I.free, I.freeC, fun p hp => ?_, tracked ⟨oc, hoc, I.freeC x c hc⟩ hs, by simpa using I.len⟩ ⟨c, hs, .inr hc⟩
    · exact (hs.2 b (Nat.ne_of_lt (Nat.lt_of_lt_of_le (Heap.lt_size e) (I.ok.cab x c hfn hc)))).trans (I.base.keep b o e n hb hx)
    · obtain ⟨sl, e1⟩ := I.base.slot b o e n hb hx
      exact ⟨sl, (hs.2 b (Nat.ne_of_lt (Nat.lt_of_lt_of_le (Heap.lt_size e) (I.ok.cab x c hfn hc)))).trans e1⟩
    · obtain ⟨o', e1⟩ := I.base.there b o e hx
      exact ⟨o', (hs.2 b (Nat.ne_of_lt (Nat.lt_of_lt_of_le (Heap.lt_size e) (I.ok.cab x c hfn hc)))).trans e1⟩
    · by_cases hj : j = i
      · subst hj
        rw [hi] at e1; cases e1
        rw [List.getElem?_set_self hiσ] at e2
        cases e2
        exact ⟨u, r, .inr ⟨.inl hk, c, hc, hc'⟩⟩
      · rw [List.getElem?_set_ne (Ne.symm hj)] at e2
        obtain ⟨u', r', q⟩ := hl j y v' e1 e2 e3
        refine ⟨u', r', ?_⟩
        rcases q with q | ⟨k, c', e, z'⟩
        · exact .inl q
        · refine .inr ⟨k, c', e, z'.sameBut hs ?_⟩
          rintro rfl
          exact hj (nodup_ix hN e1 (I.ok.inj _ _ _ e hc ▸ hi))
    · by_cases hcc : c' = c
      · subst hcc; exact ⟨_, hc'⟩
      · obtain ⟨w2, z2⟩ := I.cell y c' e
        exact ⟨w2, z2.sameBut hs hcc⟩
    · obtain ⟨e, n, ne, nf, d⟩ := I.pin p hp
      refine ⟨(hs.2 p.1 ?_).trans e, n, ne, nf, d⟩
      intro q
      rw [q, hoc] at e
      have q' : oc = p.2 := Option.some.inj e
      exact d w' (by rw [← q']; exact hocd)
theorem store_ok {M : Model} {A : Around} {E : Value → Shared → Prop} {i : Nat} {x : Str} {v : V} {u : Value} {Q : Unit → Shared → Prop} (I : Inv X pins σ H s) (hN : X.N.Nodup) (hi : X.N[i]? = some x) (hx : Loc X.env.scope x) (r : RelV v u)
    (h : ∀ s', Inv X pins (σ.set i (some v)) H s' → Q () s') (hf : X.fn x = true ∨ X.env.scope.names.lookup x = some .local := by first | exact .inl rfl | exact .inr rfl | assumption) : wpAny M A (storeName X.env x u) Q E s :=
  store_ok2 I hN hi hx r (fun s' I' _ => h s' I') hf
/-- behind a call or a block, the state as it is -/
theorem Inv.call' {s' : Shared} {ch : List Addr} (I : Inv X pins σ H s) (ho : s'.os = s.os) (u : Un (frs X.stack) ch H H' s.heap s'.heap) (hok : HOk X.prog X.w H' s'.heap) (hg : AllBare s'.gens)
    (hch : ∀ b ∈ ch, (b ∈ X.ex ∨ X.s₀.heap.objs.size ≤ b) ∧ b ≠ X.env.locals ∧ (∀ x c, X.env.cells.lookup x = some c → c ≠ b) ∧ ∀ p ∈ X.pn ++ pins, p.1 ≠ b) : Inv X pins σ H' s' := by
  obtain ⟨h', g', d', t', o'⟩ := s'
  have e : o' = s.os := ho
  subst e
  exact I.call (g' := g') (t' := t') (d' := d') u hok hg hch
end

/-! ### the judgements -/
/-- an exception: its class, its own dict's address (where it has one), the abstract heap behind it -/
abbrev XK := Value → Option Addr → Hp → Prop
abbrev St := List (Option V)
abbrev VK := V → Hp → Prop
/-- an expression's reading; a test's; an argument list's -/
abbrev TE := St → Hp → VK → Prop
abbrev TT := St → Hp → (Bool → Hp → Prop) → Prop
abbrev TA := St → Hp → (List V → Hp → Prop) → Prop
/-- what is wanted behind a statement -/
structure Ends where
  nx : St → Hp → Prop
  rt : VK
  bk : St → Hp → Prop := fun _ _ => False
  ct : St → Hp → Prop := fun _ _ => False
abbrev TS := Ends → St → Hp → Prop

def EP (X : Cx) (pins : List (Addr × Obj)) (σ : St) (Q : VK) (u : Value) (s' : Shared) : Prop := ∃ v H', Inv X pins σ H' s' ∧ RelV v u ∧ Q v H'
def TP (X : Cx) (pins : List (Addr × Obj)) (σ : St) (Q : Bool → Hp → Prop) (b : Bool) (s' : Shared) : Prop := ∃ H', Inv X pins σ H' s' ∧ Q b H'
def AP (X : Cx) (pins : List (Addr × Obj)) (σ : St) (Q : List V → Hp → Prop) (us : List Value) (s' : Shared) : Prop := ∃ vs H', Inv X pins σ H' s' ∧ Vals vs us ∧ Q vs H'
def SP (X : Cx) (pins : List (Addr × Obj)) (D : Ends) (f : Flow) (s' : Shared) : Prop :=
  match f with
  | .next => ∃ σ' H', Inv X pins σ' H' s' ∧ D.nx σ' H'
  | .brk => ∃ σ' H', Inv X pins σ' H' s' ∧ D.bk σ' H'
  | .cont => ∃ σ' H', Inv X pins σ' H' s' ∧ D.ct σ' H'
  | .ret u => ∃ v σ' H', Inv X pins σ' H' s' ∧ RelV v u ∧ D.rt v H'

def PE (X : Cx) (e : Expr) (t : TE) : Prop :=
  ∀ (pins : List (Addr × Obj)) (s : Shared) (σ : St) (H : Hp) (Q : VK), Inv X pins σ H s → t σ H Q → wpAny (model X.prog X.w) X.A (eval e X.env) (EP X pins σ Q) X.xe s
def PT (X : Cx) (e : Expr) (t : TT) : Prop :=
  ∀ (pins : List (Addr × Obj)) (s : Shared) (σ : St) (H : Hp) (Q : Bool → Hp → Prop), Inv X pins σ H s → t σ H Q → wpAny (model X.prog X.w) X.A (isTrue e X.env (eval e X.env)) (TP X pins σ Q) X.xe s
/-- a test whatever its 'whole' is (and, or) -/
def PW (X : Cx) (e : Expr) (t : TT) : Prop :=
  ∀ (whole : Sem Value) (pins : List (Addr × Obj)) (s : Shared) (σ : St) (H : Hp) (Q : Bool → Hp → Prop), Inv X pins σ H s → t σ H Q → wpAny (model X.prog X.w) X.A (isTrue e X.env whole) (TP X pins σ Q) X.xe s
theorem PW.pt {X : Cx} {e : Expr} {t : TT} (h : PW X e t) : PT X e t := h _
/-- an argument list (no star), from the left -/
def PA (X : Cx) (es : List Expr) (t : TA) : Prop :=
  ∀ (pos : Pos) (pins : List (Addr × Obj)) (s : Shared) (σ : St) (H : Hp) (Q : List V → Hp → Prop), Inv X pins σ H s → t σ H Q → wpAny (model X.prog X.w) X.A (spliced (backTo pos (starEach es X.env))) (AP X pins σ Q) X.xe s
def PS (X : Cx) (st : Stmt) (t : TS) : Prop :=
  ∀ (pins : List (Addr × Obj)) (s : Shared) (σ : St) (H : Hp) (D : Ends), Inv X pins σ H s → t D σ H → wpAny (model X.prog X.w) X.A (exec st X.env) (SP X pins D) X.xe s
def PSs (X : Cx) (st : List Stmt) (t : TS) : Prop :=
  ∀ (pins : List (Addr × Obj)) (s : Shared) (σ : St) (H : Hp) (D : Ends), Inv X pins σ H s → t D σ H → wpAny (model X.prog X.w) X.A (execs st X.env) (SP X pins D) X.xe s
/-- weaken the end -/
theorem thn {α : Type} {t : Sem α} {Q Q' : α → Shared → Prop} {M : Model} {A : Around} {E : Value → Shared → Prop} {s : Shared} (h : wpAny M A t Q E s) (hQ : ∀ a s, Q a s → Q' a s) : wpAny M A t Q' E s := wpAny_mono h hQ fun _ _ x => x
end L2

namespace L2
open PySem PySem.Spec PyProof.Rows
section
variable {X : Cx}

/-! ### names and constants -/
def tVar (i : Nat) : TE := fun σ H Q => ∃ v, σ[i]? = some (some v) ∧ Q v H
def tC (v : V) : TE := fun _ H Q => Q v H
theorem pe_var {i : Nat} {x : Str} {pos : Pos} (hN : X.N[i]? = some x) (hv : Vis X.env.scope x) (hd : (x == ("__debug__" : Str)) = false := by decide) (hcd : (x == ("__classdict__" : Str)) = false := by decide) : PE X (.Name x pos) (tVar i) := by
  intro pins s σ H Q I h
  obtain ⟨v, e, h⟩ := h
  obtain ⟨m, hn, hl⟩ := I.loc
  obtain ⟨u, r, l⟩ := hl i x v hN e hv
  have fin : EP X pins σ Q u s := ⟨v, H, I, r, h⟩
  rcases l with ⟨hk, hm⟩ | ⟨hk, c, hc, hcell⟩
  · exact wpAny_Name (wpAny_loadName_local I.ok.kind hk hn hm fin) hd
  · rcases hk with hk | hk
    · exact wpAny_Name (wpAny_loadName_cell I.ok.kind hk hc hcell fin) hd
    · exact wpAny_Name (wpAny_loadName_free I.ok.kind hk hc hcell fin hcd) hd
theorem pe_int {i j pos} : PE X (.Constant (.int i) j pos) (tC (.int i)) := fun _ _ _ H _ I h => wpAny_Constant_int ⟨.int i, H, I.tok _, ⟨_, rfl⟩, h⟩
theorem pe_bl {b j pos} : PE X (.Constant (.bool b) j pos) (tC (.bl b)) := fun _ _ _ H _ I h => Constant_bool ⟨.bl b, H, I, rfl, h⟩
theorem pe_non {j pos} : PE X (.Constant .none j pos) (tC .non) := fun _ _ _ H _ I h => Constant_none ⟨.non, H, I, rfl, h⟩

/-- a global name of the def -/
def Gl (X : Cx) (x : Str) : Prop := X.env.kindOf x = some .globalImplicit
theorem ld_glob {E : Value → Shared → Prop} {pins : List (Addr × Obj)} {s : Shared} {σ : St} {H : Hp} {x : Str} {u : Value} {pos : Pos} {Q : Value → Shared → Prop} (I : Inv X pins σ H s) (hg : Gl X x) (hm : X.mg x = some u) (h : Q u s)
    (hd : (x == ("__debug__" : Str)) = false := by decide) : wpAny (model X.prog X.w) X.A (eval (.Name x pos) X.env) Q E s :=
  Calls.Name_function_global I.ok.kind hg (Calls.loadGlobal_global (by rw [I.ok.glob]; exact I.mod.glob.keeps I.bk) hm h) hd
theorem ld_blt {E : Value → Shared → Prop} {pins : List (Addr × Obj)} {s : Shared} {σ : St} {H : Hp} {x : Str} {u : Value} {pos : Pos} {Q : Value → Shared → Prop} (I : Inv X pins σ H s) (hg : Gl X x) (hm : X.mg x = none) (hv : bootBuiltins x = some u) (h : Q u s)
    (hn : x ≠ "__name__" := by decide) (hd : (x == ("__debug__" : Str)) = false := by decide) : wpAny (model X.prog X.w) X.A (eval (.Name x pos) X.env) Q E s := by
  obtain ⟨mb, h1, h2⟩ := I.mod.blt
  exact Calls.Name_function_global I.ok.kind hg (Calls.loadGlobal_builtin (by rw [I.ok.glob]; exact I.mod.glob.keeps I.bk) hm (by rw [I.ok.blt]; exact h1.keeps I.bk) ((h2 x hn).trans hv) h) hd
theorem pe_bltn {x : Str} {v : V} {u : Value} {pos : Pos} (hg : Gl X x) (hm : X.mg x = none) (hv : bootBuiltins x = some u) (r : RelV v u) (hn : x ≠ "__name__" := by decide) (hd : (x == ("__debug__" : Str)) = false := by decide) : PE X (.Name x pos) (tC v) :=
  fun _ _ _ H _ I h => ld_blt I hg hm hv ⟨v, H, I, r, h⟩ hn hd

/-! ### arithmetic -/
variable {a b : Expr} {ta tb : TE} {pos : Pos}

/-! ### comparisons -/
/-- a comparison as a value, as a test -/
def tB (t : TE) : TT := fun σ H Q => t σ H fun x H1 => ∃ c, x = .bl c ∧ Q c H1
/-- an expression whose value is a bool, as a test -/
theorem pt_val {e : Expr} {t : TE} (h : PE X e t) (he : ∀ whole, isTrue e X.env whole = (do let v ← whole; standAt e.pos; holding [v] (truthy v)) := by intro _; rfl) : PT X e (tB t) := by
  intro pins s σ H Q I hw
  refine isTrue_plain (thn (h pins s σ H _ I hw) fun v s1 ⟨x, H1, I1, r1, q1⟩ => ?_) (he _)
  obtain ⟨d, rfl, q⟩ := q1
  cases r1
  exact wpAny_truthy_bool ⟨H1, I1, q⟩

/-! ### and, or, not -/
variable {tA tB' : TT} {rest : List Expr}
def tAnd (t u : TT) : TT := fun σ H Q => t σ H fun c H1 => if c = true then u σ H1 Q else Q false H1
def tOr (t u : TT) : TT := fun σ H Q => t σ H fun c H1 => if c = true then Q true H1 else u σ H1 Q
def tNot (t : TT) : TT := fun σ H Q => t σ H fun c H1 => Q (!c) H1
theorem pw_and1 (ha : PT X a tA) : PW X (.BoolOp .And [a] pos) tA := by
  intro wh pins s σ H Q I h
  refine isTrue_and (thn (ha pins s σ H Q I h) fun c s1 e => ?_)
  cases c with
  | true => exact isTrue_and_nil e
  | false => exact e
theorem pw_or1 (ha : PT X a tA) : PW X (.BoolOp .Or [a] pos) tA := by
  intro wh pins s σ H Q I h
  refine isTrue_or (thn (ha pins s σ H Q I h) fun c s1 e => ?_)
  cases c with
  | false => exact isTrue_or_nil e
  | true => exact e
theorem pw_and (ha : PT X a tA) (hb : PW X (.BoolOp .And (b :: rest) pos) tB') : PW X (.BoolOp .And (a :: b :: rest) pos) (tAnd tA tB') := by
  intro wh pins s σ H Q I h
  refine isTrue_and (thn (ha pins s σ H _ I h) fun c s1 ⟨H1, I1, q1⟩ => ?_)
  cases c with
  | true => exact hb wh pins s1 σ H1 Q I1 q1
  | false => exact ⟨H1, I1, q1⟩
theorem pw_or (ha : PT X a tA) (hb : PW X (.BoolOp .Or (b :: rest) pos) tB') : PW X (.BoolOp .Or (a :: b :: rest) pos) (tOr tA tB') := by
  intro wh pins s σ H Q I h
  refine isTrue_or (thn (ha pins s σ H _ I h) fun c s1 ⟨H1, I1, q1⟩ => ?_)
  cases c with
  | true => exact ⟨H1, I1, q1⟩
  | false => exact hb wh pins s1 σ H1 Q I1 q1
theorem pt_not (ha : PT X a tA) : PT X (.UnaryOp .Not a pos) (tNot tA) := by
  intro pins s σ H Q I h
  exact isTrue_not (ha pins s σ H (fun c H1 => Q (!c) H1) I h)
/-- .. as values (bools) -/
def tAndV (ta tb : TE) : TE := fun σ H Q => ta σ H fun x H1 => ∃ c, x = .bl c ∧ if c = true then tb σ H1 Q else Q (.bl false) H1
def tNotV (ta : TE) : TE := fun σ H Q => ta σ H fun x H1 => ∃ c, x = .bl c ∧ Q (.bl (!c)) H1
theorem pe_one {op} {t : TE} (h : PE X a t) : PE X (.BoolOp op [a] pos) t := fun pins s σ H Q I hw => BoolOp_one (h pins s σ H Q I hw)
theorem pe_and (ha : PE X a ta) (hb : PE X (.BoolOp .And (b :: rest) pos) tb) : PE X (.BoolOp .And (a :: b :: rest) pos) (tAndV ta tb) := by
  intro pins s σ H Q I h
  refine BoolOp_and (thn (ha pins s σ H _ I h) fun v s1 ⟨x, H1, I1, r1, q1⟩ => ?_)
  obtain ⟨c, rfl, q1⟩ := q1
  cases r1
  refine wpAny_truthy_bool ?_
  cases c with
  | true => exact hb pins s1 σ H1 Q I1 q1
  | false => exact ⟨.bl false, H1, I1, rfl, q1⟩
theorem pe_not (ha : PE X a ta) : PE X (.UnaryOp .Not a pos) (tNotV ta) := by
  intro pins s σ H Q I h
  refine UnaryOp_ (thn (ha pins s σ H _ I h) fun v s1 ⟨x, H1, I1, r1, q1⟩ => ?_)
  obtain ⟨c, rfl, q1⟩ := q1
  cases r1
  exact not_of (wpAny_truthy_bool ⟨.bl (!c), H1, I1, rfl, q1⟩)
/-- a if t else b -/
def tIf (t : TT) (ta tb : TE) : TE := fun σ H Q => t σ H fun c H1 => if c = true then ta σ H1 Q else tb σ H1 Q
theorem pe_ifExp {c : Expr} (hc : PT X c tA) (ha : PE X a ta) (hb : PE X b tb) : PE X (.IfExp c a b pos) (tIf tA ta tb) := by
  intro pins s σ H Q I h
  refine wpAny_IfExp (thn (hc pins s σ H _ I h) fun d s1 ⟨H1, I1, q1⟩ => ?_)
  cases d with
  | true => exact ha pins s1 σ H1 Q I1 q1
  | false => exact hb pins s1 σ H1 Q I1 q1
end
end L2

namespace L2
open PySem PySem.Spec PyProof.Rows

/-! ### a list, a tuple that is read: tracked, frozen, or an object of the module -/
def SqL (K : PySem.W.Frag) (H : Hp) (a : Addr) (xs : List V) : Prop :=
  Rd H a (.lst xs) ∨
    ∃ (o : Obj) (its : Array Value) (n : Nat), K.lookup a = some o ∧ o.cls = .type "list" ∧ o.dict = none ∧ o.data = .seq its n ∧ its.size ≤ sizeLine ∧ Vals xs its.toList
def SqT (K : PySem.W.Frag) (H : Hp) (a : Addr) (xs : List V) : Prop :=
  Rd H a (.tup xs) ∨
    ∃ (o : Obj) (its : Array Value) (n : Nat), K.lookup a = some o ∧ o.cls = .type "tuple" ∧ o.data = .seq its n ∧ its.size ≤ sizeLine ∧ Vals xs its.toList
def absV : Value → Option V
  | .none => some .non
  | .bool b => some (.bl b)
  | .int i _ => some (.int i)
  | .str x _ => some (.str x)
  | .bytes b _ => some (.byt b)
  | .float b _ => some (.flt b)
  | .ref a => some (.ref a)
  | .type n => some (.ty n)
  | _ => none
theorem RelV.abs {x : V} {u : Value} (r : RelV x u) : absV u = some x := by
  cases x with
  | non => cases r; rfl
  | bl _ => cases r; rfl
  | int _ => obtain ⟨t, rfl⟩ := r; rfl
  | str _ => obtain ⟨t, rfl⟩ := r; rfl
  | byt _ => obtain ⟨t, rfl⟩ := r; rfl
  | flt _ => obtain ⟨t, rfl⟩ := r; rfl
  | ref _ => cases r; rfl
  | ty _ => cases r; rfl
theorem RelV.inj {x y : V} {u : Value} (r : RelV x u) (q : RelV y u) : x = y := Option.some.inj (r.abs.symm.trans q.abs)
theorem Vals.inj : ∀ {xs ys : List V} {us : List Value}, Vals xs us → Vals ys us → xs = ys
  | _, _, _, .nil, .nil => rfl
  | _, _, _, .cons r t, .cons r' t' => by rw [r.inj r', Vals.inj t t']
section
variable {X : Cx} {pins : List (Addr × Obj)} {σ : St} {H : Hp} {s : Shared} {a : Addr} {xs ys : List V}
theorem SqL.of {K : PySem.W.Frag} (h : H a = some (.lst xs)) : SqL K H a xs := .inl (.inl h)
theorem SqT.of {K : PySem.W.Frag} (h : H a = some (.tup xs)) : SqT K H a xs := .inl (.inl h)
theorem Inv.list (I : Inv X pins σ H s) (h : SqL X.K H a xs) : ∃ its : List Value, Vals xs its ∧ PlainL s.heap a its.toArray ∧ xs.length ≤ sizeLine := by
  rcases h with h | ⟨o, its, n, hk, hc, hd, hs, hz, r⟩
  · obtain ⟨z, its, n, r, e⟩ := h.ok I.hok
    exact ⟨its, r, ⟨_, n, e, rfl, rfl, rfl⟩, z⟩
  · refine ⟨its.toList, r, ⟨o, n, I.kIn a o hk, hc, hd, by simpa using hs⟩, ?_⟩
    have e := r.length
    simp only [Array.length_toList] at e
    omega
theorem Inv.tuple (I : Inv X pins σ H s) (h : SqT X.K H a xs) : ∃ its : List Value, Vals xs its ∧ IsTup s.heap a its.toArray ∧ xs.length ≤ sizeLine := by
  rcases h with h | ⟨o, its, n, hk, hc, hs, hz, r⟩
  · obtain ⟨z, its, r, p⟩ := h.ok I.hok
    exact ⟨its, r, p, z⟩
  · refine ⟨its.toList, r, ⟨o, I.kIn a o hk, hc, n, by simpa using hs⟩, ?_⟩
    have e := r.length
    simp only [Array.length_toList] at e
    omega
theorem Inv.list_inj (I : Inv X pins σ H s) (h : SqL X.K H a xs) (h' : SqL X.K H a ys) : xs = ys := by
  obtain ⟨its, r, ⟨o, n, e, _, _, d⟩, _⟩ := I.list h
  obtain ⟨its', r', ⟨o', n', e', _, _, d'⟩, _⟩ := I.list h'
  rw [e] at e'; cases e'
  rw [d] at d'
  injection d' with d1 _
  have : its = its' := by simpa using congrArg Array.toList d1
  subst this
  exact r.inj r'
theorem Inv.tuple_inj (I : Inv X pins σ H s) (h : SqT X.K H a xs) (h' : SqT X.K H a ys) : xs = ys := by
  obtain ⟨its, r, ⟨o, e, _, n, d⟩, _⟩ := I.tuple h
  obtain ⟨its', r', ⟨o', e', _, n', d'⟩, _⟩ := I.tuple h'
  rw [e] at e'; cases e'
  rw [d] at d'
  injection d' with d1 _
  have : its = its' := by simpa using congrArg Array.toList d1
  subst this
  exact r.inj r'
end

/-! ### another wish about exceptions -/
abbrev Cx.wish (X : Cx) (E : Value → Shared → Prop) : Cx := { X with xe := E }
/-- no exception leaves -/
abbrev Cx.nox (X : Cx) : Cx := X.wish fun _ _ => False
theorem Cx.Ok.wish {X : Cx} (ok : X.Ok) (E : Value → Shared → Prop) : (X.wish E).Ok :=
  ⟨ok.mod, ok.kind, ok.glob, ok.blt, ok.above, ok.inj, ok.has, ok.cab, ok.hd, ok.frames, ok.stk, ok.exf, ok.bs, ok.bsz, ok.noex, ok.exfs, ok.funs, ok.frf⟩
theorem Cx.Ok.unwish {X : Cx} {E : Value → Shared → Prop} (ok : (X.wish E).Ok) : X.Ok :=
  ⟨ok.mod, ok.kind, ok.glob, ok.blt, ok.above, ok.inj, ok.has, ok.cab, ok.hd, ok.frames, ok.stk, ok.exf, ok.bs, ok.bsz, ok.noex, ok.exfs, ok.funs, ok.frf⟩
section
variable {X : Cx} {pins : List (Addr × Obj)} {σ : St} {H : Hp} {s : Shared} {E : Value → Shared → Prop}
theorem Inv.wish (I : Inv X pins σ H s) (E : Value → Shared → Prop) : Inv (X.wish E) pins σ H s := ⟨I.ok.wish E, I.os, I.bare, I.base, I.loc, I.cell, I.free, I.freeC, I.pin, I.hok, I.len⟩
theorem Inv.unwish (I : Inv (X.wish E) pins σ H s) : Inv X pins σ H s := ⟨I.ok.unwish, I.os, I.bare, I.base, I.loc, I.cell, I.free, I.freeC, I.pin, I.hok, I.len⟩
theorem SP.unwish {D : Ends} {f : Flow} {s' : Shared} (h : SP (X.wish E) pins D f s') : SP X pins D f s' := by
  cases f with
  | next => obtain ⟨σ', H', I, q⟩ := h; exact ⟨σ', H', I.unwish, q⟩
  | brk => obtain ⟨σ', H', I, q⟩ := h; exact ⟨σ', H', I.unwish, q⟩
  | cont => obtain ⟨σ', H', I, q⟩ := h; exact ⟨σ', H', I.unwish, q⟩
  | ret u => obtain ⟨v, σ', H', I, r, q⟩ := h; exact ⟨v, σ', H', I.unwish, r, q⟩
theorem PE.nox {e : Expr} {t : TE} (h : PE X.nox e t) : PE X e t := fun pins s σ H Q I hw =>
  wpAny_mono (h pins s σ H Q (I.wish _) hw) (fun _ _ ⟨v, H', I', r, q⟩ => ⟨v, H', I'.unwish, r, q⟩) fun _ _ z => False.elim z
theorem PT.nox {e : Expr} {t : TT} (h : PT X.nox e t) : PT X e t := fun pins s σ H Q I hw =>
  wpAny_mono (h pins s σ H Q (I.wish _) hw) (fun _ _ ⟨H', I', q⟩ => ⟨H', I'.unwish, q⟩) fun _ _ z => False.elim z
theorem PSs.nox {st : List Stmt} {t : TS} (h : PSs X.nox st t) : PSs X st t := fun pins s σ H D I hw =>
  wpAny_mono (h pins s σ H D (I.wish _) hw) (fun _ _ q => q.unwish) fun _ _ z => False.elim z
end

/-! ### blocks and small statements -/
section
variable {X : Cx} {st : Stmt} {rest : List Stmt} {t u : TS} {e : Expr} {te : TE} {pos : Pos}
def tNext : TS := fun D σ H => D.nx σ H
def tSeq (t u : TS) : TS := fun D σ H => t { D with nx := u D } σ H
theorem pss_nil : PSs X [] tNext := fun _ _ σ H _ I h => wpAny_execs_nil ⟨σ, H, I, h⟩
theorem pss_cons (h1 : PS X st t) (h2 : PSs X rest u) : PSs X (st :: rest) (tSeq t u) := by
  intro pins s σ H D I h
  refine wpAny_execs_cons (thn (h1 pins s σ H { D with nx := u D } I h) fun f s1 q => ?_)
  cases f with
  | next =>
    obtain ⟨σ', H', I', q⟩ := q
    exact h2 pins s1 σ' H' D I' q
  | ret v => exact q
  | brk => exact q
  | cont => exact q
theorem pss_one (h1 : PS X st t) : PSs X [st] t := by
  intro pins s σ H D I h
  refine wpAny_execs_cons (thn (h1 pins s σ H D I h) fun f s1 q => ?_)
  cases f with
  | next => exact wpAny_execs_nil q
  | ret v => exact q
  | brk => exact q
  | cont => exact q
/-- in a def's body nothing is shown -/
theorem Inv.quiet {pins : List (Addr × Obj)} {σ : St} {H : Hp} {s : Shared} (I : Inv X pins σ H s) : interactive X.env = false := by simp [interactive, I.ok.kind]
/-- an expression whose value is dropped -/
def tDrop (te : TE) : TS := fun D σ H => te σ H fun _ H1 => D.nx σ H1
theorem ps_expr (he : PE X e te) (hs : swapsWith e none pos.line X.env = pure false := by rfl) : PS X (.Expr e pos) (tDrop te) := by
  intro pins s σ H D I h
  exact wpAny_Expr_any (thn (he pins s σ H _ I h) fun v s1 ⟨x, H1, I1, r1, q1⟩ => ⟨σ, H1, I1, q1⟩) I.quiet hs
def tRet (te : TE) : TS := fun D σ H => te σ H D.rt
theorem ps_ret (he : PE X e te) : PS X (.Return (some e) pos) (tRet te) := by
  intro pins s σ H D I h
  exact wpAny_Return_some (thn (he pins s σ H _ I h) fun v s1 ⟨x, H1, I1, r1, q1⟩ => ⟨x, σ, H1, I1, r1, q1⟩)
def tIfS (c : TT) (t u : TS) : TS := fun D σ H => c σ H fun b H1 => if b = true then t D σ H1 else u D σ H1
theorem ps_if {c : Expr} {a b : List Stmt} {tc : TT} (hc : PT X c tc) (ha : PSs X a t) (hb : PSs X b u) : PS X (.If c a b pos) (tIfS tc t u) := by
  intro pins s σ H D I h
  refine wpAny_If (thn (hc pins s σ H _ I h) fun d s1 ⟨H1, I1, q1⟩ => ?_)
  cases d with
  | true => exact ha pins s1 σ H1 D I1 q1
  | false => exact hb pins s1 σ H1 D I1 q1
end

/-! ### targets -/
abbrev TG := V → St → Hp → (St → Hp → Prop) → Prop
abbrev TGs := List V → St → Hp → (St → Hp → Prop) → Prop
def PG (X : Cx) (target : Expr) (t : TG) : Prop :=
  ∀ (pins : List (Addr × Obj)) (s : Shared) (σ : St) (H : Hp) (v : V) (u : Value) (Q : St → Hp → Prop), Inv X pins σ H s → RelV v u → t v σ H Q →
    wpAny (model X.prog X.w) X.A (assign target X.env u) (fun _ s' => ∃ σ' H', Inv X pins σ' H' s' ∧ Q σ' H') X.xe s
/-- several targets, one after another -/
def PGs (X : Cx) (ts : List Expr) (t : TGs) : Prop :=
  ∀ (pins : List (Addr × Obj)) (s : Shared) (σ : St) (H : Hp) (vs : List V) (us : List Value) (Q : St → Hp → Prop), Inv X pins σ H s → Vals vs us → t vs σ H Q →
    wpAny (model X.prog X.w) X.A (assignInOrder ((assignEach ts X.env).map (·.2)) us) (fun _ s' => ∃ σ' H', Inv X pins σ' H' s' ∧ Q σ' H') X.xe s
/-- o[i] = v, by values -/
abbrev TSet := V → V → V → Hp → (Hp → Prop) → Prop
def PSet (X : Cx) (t : TSet) : Prop :=
  ∀ (pins : List (Addr × Obj)) (s : Shared) (σ : St) (H : Hp) (o i v : V) (ov iv u : Value) (Q : Hp → Prop), Inv X pins σ H s → RelV o ov → RelV i iv → RelV v u → t o i v H Q →
    wpAny (model X.prog X.w) X.A (setItem ov iv u) (fun _ s' => ∃ H', Inv X pins σ H' s' ∧ Q H') X.xe s
section
variable {X : Cx} {pos : Pos}
def gName (i : Nat) : TG := fun v σ H Q => Q (σ.set i (some v)) H
theorem pg_name {i : Nat} {x : Str} (hN : X.N.Nodup) (hi : X.N[i]? = some x) (hx : Loc X.env.scope x) (hf : X.fn x = true ∨ X.env.scope.names.lookup x = some .local := by first | exact .inl rfl | exact .inr rfl | assumption) : PG X (.Name x pos) (gName i) := by
  intro pins s σ H v u Q I r h
  exact wpAny_assign_Name (store_ok I hN hi hx r (fun s' I' => ⟨_, H, I', h⟩) hf)
def gNil : TGs := fun vs σ H Q => vs = [] ∧ Q σ H
def gCons (t : TG) (u : TGs) : TGs := fun vs σ H Q => ∃ v r, vs = v :: r ∧ t v σ H fun σ' H' => u r σ' H' Q
theorem pgs_nil : PGs X [] gNil := by
  intro pins s σ H vs us Q I r h
  obtain ⟨e, h⟩ := h
  subst e
  cases r
  exact assignInOrder_nil ⟨σ, H, I, h⟩
theorem pgs_cons {e : Expr} {es : List Expr} {t : TG} {u : TGs} (h1 : PG X e t) (h2 : PGs X es u)
    (hs : (assignEach (e :: es) X.env).map (·.2) = assign e X.env :: (assignEach es X.env).map (·.2) := by rfl) : PGs X (e :: es) (gCons t u) := by
  intro pins s σ H vs us Q I r h
  obtain ⟨v, vr, e1, h⟩ := h
  subst e1
  cases r with
  | cons r rr =>
    rw [hs]
    refine assignInOrder_cons (thn (h1 pins s σ H _ _ _ I r h) fun _ s1 ⟨σ1, H1, I1, q1⟩ => ?_)
    exact h2 pins s1 σ1 H1 _ _ Q I1 rr q1
/-- (a, b, ..) = a tuple of that length -/
def gTup (K : PySem.W.Frag) (n : Nat) (t : TGs) : TG := fun v σ H Q => ∃ a xs, v = .ref a ∧ SqT K H a xs ∧ xs.length = n ∧ t xs σ H Q
theorem pg_tup {es : List Expr} {k : Nat} {t : TGs} {n : Nat} (hc : X.calm = true) (h : PGs X es t)
    (hn : (assignEach es X.env).length = n := by rfl) (hst : (assignEach es X.env).findIdx? (·.1) = none := by rfl) : PG X (.Tuple es k pos) (gTup X.K n t) := by
  intro pins s σ H v u Q I r hw
  obtain ⟨a, xs, e1, hq, hl, hw⟩ := hw
  subst e1
  cases r
  obtain ⟨its, rv, ht, hz⟩ := I.tuple hq
  refine assign_Tuple_tuple (I.ok.hd hc) ht (by simp [hn, ← hl, rv.length]) hst fun h' hx => ?_
  have I1 : Inv X pins σ H { s with heap := h' } := I.kept (t' := s.toks) fun b o e => hx b o (Nat.ne_of_lt (Heap.lt_size e)) e
  exact h pins _ σ H xs _ Q I1 (by simpa using rv) hw
/-- o[i] = .. -/
def gSub (to ti : TE) (t : TSet) : TG := fun v σ H Q => to σ H fun o H1 => ti σ H1 fun i H2 => t o i v H2 fun H3 => Q σ H3
theorem pg_sub {o i : Expr} {to ti : TE} {t : TSet} (ho : PE X o to) (hi : PE X i ti) (hs : PSet X t)
    (ha : ∀ v, assign (.Subscript o i pos) X.env v = (do
      let ov ← holding [v] (eval o X.env)
      let iv ← holding [v, ov] (eval i X.env)
      standAt pos
      holding [v, ov, iv] (setItem ov iv v)
      release [v, ov, iv] []) := by intro _; rfl) : PG X (.Subscript o i pos) (gSub to ti t) := by
  intro pins s σ H v u Q I r h
  rw [ha]
  refine wpAny_bind (wpAny_holding (thn (ho pins s σ H _ I h) fun ov s1 ⟨x, H1, I1, r1, q1⟩ => ?_))
  refine wpAny_bind (wpAny_holding (thn (hi pins s1 σ H1 _ I1 q1) fun iv s2 ⟨y, H2, I2, r2, q2⟩ => ?_))
  refine wpAny_bind (wpAny_standAt (wpAny_bind (wpAny_holding (thn (hs pins s2 σ H2 x y v ov iv u _ I2 r1 r2 r q2) fun _ s3 ⟨H3, I3, q3⟩ => ?_))))
  exact wpAny_release ⟨σ, H3, I3, q3⟩
/-- target = value -/
def tAsg (te : TE) (g : TG) : TS := fun D σ H => te σ H fun x H1 => g x σ H1 D.nx
theorem ps_asg {tg e : Expr} {te : TE} {g : TG} (he : PE X e te) (hg : PG X tg g) (hs : swapsWithSole [tg] e pos.line X.env = pure false := by rfl) (hw : swappedStores [tg] e X.env = pure none := by rfl)
    (h1 : (assignEach [tg] X.env).map (·.2) = [assign tg X.env] := by rfl) : PS X (.Assign [tg] e pos) (tAsg te g) := by
  intro pins s σ H D I h
  refine wpAny_Assign_stores (thn (he pins s σ H _ I h) fun v s1 ⟨x, H1, I1, r1, q1⟩ => ?_) hs hw
  rw [h1]
  exact thn (hg pins s1 σ H1 x v _ I1 r1 q1) fun _ s2 q => q
/-- name = value -/
theorem ps_set {i : Nat} {x : Str} {e : Expr} {te : TE} {pos' : Pos} (hN : X.N.Nodup) (hi : X.N[i]? = some x) (hx : Loc X.env.scope x) (he : PE X e te) (hs : swapsWith e (some (.Name x pos')) pos.line X.env = pure false := by rfl) (hf : X.fn x = true ∨ X.env.scope.names.lookup x = some .local := by first | exact .inl rfl | exact .inr rfl | assumption) :
    PS X (.Assign [.Name x pos'] e pos) (tAsg te (gName i)) := by
  intro pins s σ H D I h
  refine wpAny_Assign_Name (thn (he pins s σ H _ I h) fun v s1 ⟨y, H1, I1, r1, q1⟩ => ?_) hs
  exact store_ok I1 hN hi hx r1 (fun s2 I2 => ⟨_, H1, I2, q1⟩) hf
end

/-! ### while -/

/-! ### what a loop or a comprehension walks -/
/-- at turn i: it yields x (the heap may grow), or it stops -/
structure It where
  go : Nat → Hp → Prop
  yld : Nat → Hp → V → Hp → Prop
  stop : Nat → Hp → Prop
/-- the iterator's own objects may turn: they are not the frame's, not pinned, younger than the entry (or a comprehension's own) -/
def FpOk (X : Cx) (pins : List (Addr × Obj)) (H : Hp) (b : Addr) : Prop :=
  H b = none ∧ b ≠ X.env.locals ∧ b ∉ X.fs ∧ (b ∈ X.ex ∨ X.s₀.heap.objs.size ≤ b) ∧ (∀ x c, X.env.cells.lookup x = some c → c ≠ b) ∧ ∀ p ∈ X.pn ++ pins, p.1 ≠ b
theorem Inv.fpOk {X : Cx} {pins : List (Addr × Obj)} {σ : St} {H H' : Hp} {s : Shared} {b : Addr} (I : Inv X pins σ H s) (hb : s.heap.objs.size ≤ b) (hn : H' b = none) : FpOk X pins H' b := by
  refine ⟨hn, Nat.ne_of_gt (Nat.lt_of_lt_of_le I.lt hb), I.nofs hb, .inr (Nat.le_trans I.sz hb), fun x c e z => ?_, fun p hp z => ?_⟩
  · obtain ⟨v, q⟩ := I.cell x c e
    exact absurd (Nat.lt_of_lt_of_le q.lt (by rw [z]; exact hb)) (Nat.lt_irrefl _)
  · exact absurd (Nat.lt_of_lt_of_le (Heap.lt_size (I.pin p hp).1) (by rw [z]; exact hb)) (Nat.lt_irrefl _)
structure Turn (P : Program) (w : World) (K : PySem.W.Frag) (tg : Expr) (J : It) (fp : List Addr) (it : Addr) (tn : Nat → Heap → Prop) : Prop where
  mem : it ∈ fp
  obj : ∀ i h, tn i h → ∀ b ∈ fp, ∃ o, h.get? b = some o ∧ ∀ v, o.data ≠ .cell v
  keep : ∀ i h h', tn i h → (∀ b ∈ fp, ∀ o, h.get? b = some o → h'.get? b = some o) → tn i h'
  item : ∀ (X : Cx), X.prog = P → X.w = w → X.K = K → X.calm = true → ∀ (i : Nat) (pins : List (Addr × Obj)) (s : Shared) (σ : St) (H : Hp) (E : Value → Shared → Prop), Inv X pins σ H s → (∀ b ∈ fp, FpOk X pins H b) → tn i s.heap → J.go i H →
    wpAny (model P w) X.A (pyNext (.ref it)) (fun r s1 => ∃ u, r = some u ∧
      wpAny (model P w) X.A (letOwnedTupleGo tg (.ref it) u) (fun _ s2 => ∃ x H', Inv X pins σ H' s2 ∧ RelV x u ∧ J.yld i H x H' ∧ tn (i + 1) s2.heap ∧ ∀ b ∈ fp, H' b = none) E s1) E s
  done : ∀ (X : Cx), X.prog = P → X.w = w → X.K = K → X.calm = true → ∀ (i : Nat) (pins : List (Addr × Obj)) (s : Shared) (σ : St) (H : Hp) (E : Value → Shared → Prop), Inv X pins σ H s → (∀ b ∈ fp, FpOk X pins H b) → tn i s.heap → J.stop i H →
    wpAny (model P w) X.A (pyNext (.ref it)) (fun r s1 => r = none ∧ Inv X pins σ H s1) E s
  self : ∀ (A : Around) (i : Nat) (s : Shared) (Q : Value → Shared → Prop) (E : Value → Shared → Prop), tn i s.heap → Q (.ref it) s → wpAny (model P w) A (pyIter (.ref it)) Q E s
abbrev TI := St → Hp → (It → Hp → Prop) → Prop
/-- an iterator has come -/
def PIE (X : Cx) (pins : List (Addr × Obj)) (σ : St) (tg : Expr) (R : It → Hp → Prop) (itv : Value) (s2 : Shared) : Prop :=
  ∃ (it : Addr) (fp : List Addr) (tn : Nat → Heap → Prop) (J : It) (H' : Hp), itv = .ref it ∧ Inv X pins σ H' s2 ∧ Turn X.prog X.w X.K tg J fp it tn ∧ tn 0 s2.heap ∧ (∀ b ∈ fp, FpOk X pins H' b) ∧ R J H'
def PI (X : Cx) (tg iter : Expr) (wi : TI) : Prop :=
  ∀ (pins : List (Addr × Obj)) (s : Shared) (σ : St) (H : Hp) (R : It → Hp → Prop), Inv X pins σ H s → wi σ H R →
    wpAny (model X.prog X.w) X.A (eval iter X.env) (fun v s1 => wpAny (model X.prog X.w) X.A (pyIter v) (PIE X pins σ tg R) X.xe s1) X.xe s

/-- the step ahead of the store is nothing for an iterator that keeps no tuple -/
theorem go_of {M : Model} {A : Around} {E : Value → Shared → Prop} {s : Shared} {tg : Expr} {it : Addr} {u : Value} {o : Obj} {n : String} {vs : Array Value} {Q : Unit → Shared → Prop} (ho : s.heap.get? it = some o) (hc : o.cls = .type n) (hd : o.data = .fields vs)
    (hn : ["enumerate", "zip", "dict_itemiterator", "dict_reverseitemiterator", "odict_iterator", "itertools.zip_longest", "itertools.pairwise"].contains n = false) (hQ : Q () s) : wpAny M A (letOwnedTupleGo tg (.ref it) u) Q E s := by
  unfold letOwnedTupleGo
  cases tg <;> first
    | exact wpAny_pure hQ
    | (cases u <;> first
        | exact wpAny_pure hQ
        | (refine wpAny_bind (wpAny_load ho ?_)
           rw [hc, hd]
           show wpAny M A (if (["enumerate", "zip", "dict_itemiterator", "dict_reverseitemiterator", "odict_iterator", "itertools.zip_longest", "itertools.pairwise"].contains n && vs[0]? == some (rawInt _)) = true then _ else _) Q E s
           rw [if_neg (by intro h; rw [hn, Bool.false_and] at h; cases h)]
           exact wpAny_pure hQ))

/-- the list at a, as it stands at each turn (a loop may append to it) -/
def Itl (K : PySem.W.Frag) (a : Addr) : It :=
  ⟨fun i H => ∃ xs x, SqL K H a xs ∧ xs[i]? = some x, fun i H x H' => H' = H ∧ ∀ xs, SqL K H a xs → xs[i]? = some x, fun i H => ∃ xs, SqL K H a xs ∧ xs.length ≤ i⟩
def Itt (K : PySem.W.Frag) (a : Addr) : It :=
  ⟨fun i H => ∃ xs x, SqT K H a xs ∧ xs[i]? = some x, fun i H x H' => H' = H ∧ ∀ xs, SqT K H a xs → xs[i]? = some x, fun i H => ∃ xs, SqT K H a xs ∧ xs.length ≤ i⟩
/-- lo, lo + 1, .. (n of them) -/
def Itr (lo : Int) (n : Nat) : It := ⟨fun i _ => i < n, fun i H x H' => H' = H ∧ x = .int (lo + i), fun i _ => n ≤ i⟩
theorem turn_list {P : Program} {w : World} {K : PySem.W.Frag} {tg : Expr} (a it : Addr) : Turn P w K tg (Itl K a) [it] it (fun i h => h.IsListIter it a i) where
  mem := by simp
  obj := fun i h st b hb => by
    have e : b = it := by simpa using hb
    subst e
    obtain ⟨o, e, c, d⟩ := st
    exact ⟨o, e, fun v z => by rw [d] at z; cases z⟩
  keep := fun i h h' st k => st.at fun o e => k it (by simp) o e
  item := by
    intro X hP hw hK hc i pins s σ H E I hf st hg
    subst hP hw hK
    obtain ⟨xs, x, hq, hx⟩ := hg
    obtain ⟨its, rv, p, hz⟩ := I.list hq
    obtain ⟨u, hu, ru⟩ := rv.get hx
    obtain ⟨f0, f1, f2, f3, f4, f5⟩ := hf it (by simp)
    refine wpAny_pyNext_list_item st p.isList (x := u) (by simpa using hu) fun h' st' sb => ?_
    have I1 : Inv X pins σ H { s with heap := h' } := I.turned (t' := s.toks) (fun b o hb e => (sb.2 b hb).trans e) f0 f1 f3 f4 f5
    obtain ⟨o, e, c, d⟩ := id st'
    exact ⟨u, rfl, go_of (s := { s with heap := h' }) e c d (by decide) ⟨x, H, I1, ru, ⟨rfl, fun ys hy => by rw [I.list_inj hy hq]; exact hx⟩, st', fun b hb => (hf b hb).1⟩⟩
  done := by
    intro X hP hw hK hc i pins s σ H E I hf st hg
    subst hP hw hK
    obtain ⟨xs, hq, hx⟩ := hg
    obtain ⟨its, rv, p, hz⟩ := I.list hq
    obtain ⟨f0, f1, f2, f3, f4, f5⟩ := hf it (by simp)
    have hl := rv.length
    exact wpAny_pyNext_list_end (I.ok.hd hc) st p.isList (by simp; omega) fun h' eb => ⟨rfl, I.turned (t' := s.toks) (fun b o hb e => eb b o hb e) f0 f1 f3 f4 f5⟩
  self := fun _ _ _ _ _ st h => wpAny_pyIter_listiter st h
theorem turn_tuple {P : Program} {w : World} {K : PySem.W.Frag} {tg : Expr} (a it : Addr) : Turn P w K tg (Itt K a) [it] it (fun i h => h.IsTupleIter it a i) where
  mem := by simp
  obj := fun i h st b hb => by
    have e : b = it := by simpa using hb
    subst e
    obtain ⟨o, e, c, d⟩ := st
    exact ⟨o, e, fun v z => by rw [d] at z; cases z⟩
  keep := fun i h h' st k => st.at fun o e => k it (by simp) o e
  item := by
    intro X hP hw hK hc i pins s σ H E I hf st hg
    subst hP hw hK
    obtain ⟨xs, x, hq, hx⟩ := hg
    obtain ⟨its, rv, p, hz⟩ := I.tuple hq
    obtain ⟨u, hu, ru⟩ := rv.get hx
    obtain ⟨f0, f1, f2, f3, f4, f5⟩ := hf it (by simp)
    refine wpAny_pyNext_tuple_item st (show s.heap.IsTuple a its.toArray from p) (x := u) (by simpa using hu) fun h' st' sb => ?_
    have I1 : Inv X pins σ H { s with heap := h' } := I.turned (t' := s.toks) (fun b o hb e => (sb.2 b hb).trans e) f0 f1 f3 f4 f5
    obtain ⟨o, e, c, d⟩ := id st'
    exact ⟨u, rfl, go_of (s := { s with heap := h' }) e c d (by decide) ⟨x, H, I1, ru, ⟨rfl, fun ys hy => by rw [I.tuple_inj hy hq]; exact hx⟩, st', fun b hb => (hf b hb).1⟩⟩
  done := by
    intro X hP hw hK hc i pins s σ H E I hf st hg
    subst hP hw hK
    obtain ⟨xs, hq, hx⟩ := hg
    obtain ⟨its, rv, p, hz⟩ := I.tuple hq
    obtain ⟨f0, f1, f2, f3, f4, f5⟩ := hf it (by simp)
    have hl := rv.length
    exact wpAny_pyNext_tuple_end (I.ok.hd hc) st (show s.heap.IsTuple a its.toArray from p) (by simp; omega) fun h' eb => ⟨rfl, I.turned (t' := s.toks) (fun b o hb e => eb b o hb e) f0 f1 f3 f4 f5⟩
  self := fun _ _ _ _ _ st h => wpAny_pyIter_tupleiter st h
theorem turn_range {P : Program} {w : World} {K : PySem.W.Frag} {tg : Expr} (it : Addr) (lo : Int) (n : Nat) : Turn P w K tg (Itr lo n) [it] it (fun i h => IsRangeIter h it (lo + (i : Nat) * 1) ((n : Int) - (i : Nat)) 1) where
  mem := by simp
  obj := fun i h st b hb => by
    have e : b = it := by simpa using hb
    subst e
    exact ⟨_, st, fun v z => by
      have z' : Data.fields _ = Data.cell v := z
      cases z'⟩
  keep := fun i h h' st k => k it (by simp) _ st
  item := by
    intro X hP hw hK hc i pins s σ H E I hf st hg
    subst hP hw hK
    obtain ⟨f0, f1, f2, f3, f4, f5⟩ := hf it (by simp)
    have W := Walks.range (prog := X.prog) (w := X.w) (I.ok.hd hc) it lo 1 n
    refine W.item i s _ _ hg st fun v h' tk hv st' kk => ?_
    obtain ⟨t, rfl⟩ := hv
    have I1 : Inv X pins σ H { s with heap := h', toks := tk } := I.turned (fun b o hb e => kk b o (by simpa using hb) e) f0 f1 f3 f4 f5
    refine ⟨_, rfl, go_of (s := { s with heap := h', toks := tk }) (n := "range_iterator") st' rfl rfl (by decide) ⟨.int (lo + i), H, I1, ⟨t, ?_⟩, ⟨rfl, rfl⟩, st', fun b hb => (hf b hb).1⟩⟩
    rw [Int.mul_one]
  done := by
    intro X hP hw hK hc i pins s σ H E I hf st hg
    subst hP hw hK
    obtain ⟨f0, f1, f2, f3, f4, f5⟩ := hf it (by simp)
    exact wpAny_pyNext_range_end (I.ok.hd hc) st (by have : n ≤ i := hg; omega) fun h' eb => ⟨rfl, I.turned (t' := s.toks) (fun b o hb e => eb b o hb e) f0 f1 f3 f4 f5⟩
  self := fun _ _ _ _ _ st h => wpAny_pyIter_rangeiter st h
end L2

namespace L2
open PySem PySem.Spec PyProof.Rows
section
variable {X : Cx} {tg : Expr}
def iList (K : PySem.W.Frag) (tl : TE) : TI := fun σ H R => tl σ H fun x H1 => ∃ a, x = .ref a ∧ (∃ xs, SqL K H1 a xs) ∧ R (Itl K a) H1
def iTup (K : PySem.W.Frag) (tl : TE) : TI := fun σ H R => tl σ H fun x H1 => ∃ a, x = .ref a ∧ (∃ xs, SqT K H1 a xs) ∧ R (Itt K a) H1
theorem pi_list {l : Expr} {tl : TE} (hl : PE X l tl) : PI X tg l (iList X.K tl) := by
  intro pins s σ H R I h
  refine thn (hl pins s σ H _ I h) fun v s1 ⟨x, H1, I1, r1, q1⟩ => ?_
  obtain ⟨a, e, ⟨xs, hq⟩, q⟩ := q1
  subst e
  cases r1
  obtain ⟨its, rv, p, hz⟩ := I1.list hq
  refine wpAny_pyIter_list p.isList ?_
  refine ⟨s1.heap.objs.size, [s1.heap.objs.size], _, _, H1, rfl, I1.kept (t' := s1.toks) fun b o e => Heap.get?_push_of_some _ e, turn_list a _, ⟨_, Heap.get?_push_size _ rfl, rfl, rfl⟩, fun b hb => ?_, q⟩
  have e : b = s1.heap.objs.size := by simpa using hb
  subst e
  exact I1.fpOk (Nat.le_refl _) (I1.hok.fresh (Nat.le_refl _))
theorem pi_tup {l : Expr} {tl : TE} (hl : PE X l tl) : PI X tg l (iTup X.K tl) := by
  intro pins s σ H R I h
  refine thn (hl pins s σ H _ I h) fun v s1 ⟨x, H1, I1, r1, q1⟩ => ?_
  obtain ⟨a, e, ⟨xs, hq⟩, q⟩ := q1
  subst e
  cases r1
  obtain ⟨its, rv, p, hz⟩ := I1.tuple hq
  refine wpAny_pyIter_tuple (show s1.heap.IsTuple a its.toArray from p) ?_
  refine ⟨s1.heap.objs.size, [s1.heap.objs.size], _, _, H1, rfl, I1.kept (t' := s1.toks) fun b o e => Heap.get?_push_of_some _ e, turn_tuple a _, ⟨_, Heap.get?_push_size _ rfl, rfl, rfl⟩, fun b hb => ?_, q⟩
  have e : b = s1.heap.objs.size := by simpa using hb
  subst e
  exact I1.fpOk (Nat.le_refl _) (I1.hok.fresh (Nat.le_refl _))
/-- a range object just made, walked -/
theorem range_it {pins : List (Addr × Obj)} {σ : St} {H : Hp} {s : Shared} {R : It → Hp → Prop} {E : Value → Shared → Prop} {lo hi : Int} {t u v : Tok} {tk : Nat} (I : Inv X pins σ H s) (h1 : -(2 ^ 62) ≤ lo) (h2 : lo < 2 ^ 62) (h3 : -(2 ^ 62) ≤ hi) (h4 : hi < 2 ^ 62)
    (q : R (Itr lo (hi - lo).toNat) H) : wpAny (model X.prog X.w) X.A (pyIter (.ref s.heap.objs.size)) (PIE X pins σ tg R) E { s with heap := s.heap.push { cls := .type "range", data := .fields #[.int lo t, .int hi u, .int 1 v] }, toks := tk } := by
  refine wpAny_pyIter_range (IsRange.new ..) (small_one h1 h2 h3 h4) ?_
  have I1 : Inv X pins σ H { s with heap := s.heap.push { cls := .type "range", data := .fields #[.int lo t, .int hi u, .int 1 v] }, toks := tk } := I.kept fun b o e => Heap.get?_push_of_some _ e
  refine ⟨(s.heap.push { cls := .type "range", data := .fields #[.int lo t, .int hi u, .int 1 v] }).objs.size, [(s.heap.push { cls := .type "range", data := .fields #[.int lo t, .int hi u, .int 1 v] }).objs.size], _, _, H, rfl,
    I1.kept (t' := tk) fun b o e => Heap.get?_push_of_some _ e, turn_range _ lo (hi - lo).toNat, ?_, fun b hb => ?_, q⟩
  · have e1 : lo + ((0 : Nat) : Int) * 1 = lo := by simp
    have e2 : (((hi - lo).toNat : Nat) : Int) - ((0 : Nat) : Int) = Builtin.Range.rangeSize lo hi 1 := by rw [rangeSize_one]; split <;> omega
    show IsRangeIter _ _ (lo + ((0 : Nat) : Int) * 1) ((((hi - lo).toNat : Nat) : Int) - ((0 : Nat) : Int)) 1
    rw [e1, e2]
    exact Heap.get?_push_size _ rfl
  · have e : b = (s.heap.push { cls := .type "range", data := .fields #[.int lo t, .int hi u, .int 1 v] }).objs.size := by simpa using hb
    subst e
    exact I1.fpOk (Nat.le_refl _) (I1.hok.fresh (Nat.le_refl _))
def iRng1 (ta : TA) : TI := fun σ H R => ta σ H fun vs H1 => ∃ j : Int, vs = [.int j] ∧ -(2 ^ 62) ≤ j ∧ j < 2 ^ 62 ∧ R (Itr 0 j.toNat) H1
theorem pi_range1 {a : Expr} {ta : TA} {p pos : Pos} (hg : Gl X "range") (hm : X.mg "range" = none) (ha : PA X [a] ta) (hs : starEach [a] X.env = [(false, eval a X.env)] := by rfl) : PI X tg (.Call (.Name "range" p) [a] [] pos) (iRng1 ta) := by
  intro pins s σ H R I h
  refine Call_ (ld_blt I hg hm boot_range (PyProof.Rows.callWith_type1 (thn (ha pos pins s σ H _ I h) fun us s1 ⟨vs, H1, I1, r1, q1⟩ => ?_) hs rfl))
  obtain ⟨j, e, q1, q2, q⟩ := q1
  subst e
  cases r1 with
  | cons r rr =>
    cases rr
    obtain ⟨t, rfl⟩ := r
    exact call_range_1 (range_it I1 (by omega) (by omega) q1 q2 (by simpa using q))

/-! ### for -/
/-- W: the invariant by the turn and a measure; N: what the body is to reach -/
def tFor (wi : TI) (g : TG) (tb : TS) : TS := fun D σ H => wi σ H fun J H1 => ∃ W : Nat → Nat → St → Hp → Prop, (∃ m, W 0 m σ H1) ∧ ∀ i m σ H, W i m σ H →
  (J.stop i H ∧ D.nx σ H) ∨ (J.go i H ∧ ∃ N : St → Hp → Prop, (∀ σ' H', N σ' H' → ∃ m', m' < m ∧ W (i + 1) m' σ' H') ∧ ∀ x H', J.yld i H x H' → g x σ H' fun σ2 H2 => tb { D with nx := N, ct := N, bk := D.nx } σ2 H2)
/-- the records at fp as they stand -/
def pinsAt (fp : List Addr) (h : Heap) : List (Addr × Obj) := fp.filterMap fun b => (h.get? b).map fun o => (b, o)
theorem mem_pinsAt {fp : List Addr} {h : Heap} {b : Addr} {o : Obj} (hb : b ∈ fp) (e : h.get? b = some o) : (b, o) ∈ pinsAt fp h := List.mem_filterMap.mpr ⟨b, hb, by rw [e]; rfl⟩
theorem of_pinsAt {fp : List Addr} {h : Heap} {p : Addr × Obj} (hp : p ∈ pinsAt fp h) : p.1 ∈ fp ∧ h.get? p.1 = some p.2 := by
  obtain ⟨b, hb, e⟩ := List.mem_filterMap.mp hp
  cases q : h.get? b with
  | none => rw [q] at e; cases e
  | some o =>
    rw [q] at e
    have e' : (b, o) = p := Option.some.inj e
    subst e'
    exact ⟨hb, q⟩
theorem Inv.pinned {pins : List (Addr × Obj)} {σ : St} {H : Hp} {s : Shared} {fp : List Addr} (I : Inv X pins σ H s) (hf : ∀ b ∈ fp, FpOk X pins H b) (ho : ∀ b ∈ fp, ∃ o, s.heap.get? b = some o ∧ ∀ v, o.data ≠ .cell v) : Inv X (pins ++ pinsAt fp s.heap) σ H s :=
  I.pins_of fun p hp => (List.mem_append.mp hp).elim (fun z => I.pin p (List.mem_append_right _ z)) fun z => by
    obtain ⟨hb, e⟩ := of_pinsAt z
    obtain ⟨f0, f1, f2, _⟩ := hf p.1 hb
    obtain ⟨o, e', d⟩ := ho p.1 hb
    rw [e] at e'; cases e'
    exact ⟨e, f0, f1, f2, d⟩
theorem Inv.unpinned {pins pl : List (Addr × Obj)} {σ : St} {H : Hp} {s : Shared} (I : Inv X (pins ++ pl) σ H s) : Inv X pins σ H s := I.pins_of fun p hp => I.pin p (List.mem_append_right _ (List.mem_append_left _ hp))
theorem ps_for {iter : Expr} {body : List Stmt} {wi : TI} {g : TG} {tb : TS} {pos : Pos} (hp : PassesOwn (model X.prog X.w) X.A X.env X.xe) (hc : X.calm = true) (hi : PI X tg iter wi) (hg : PG X tg g) (hb : PSs X body tb)
    (hs : ∀ x, foldedSetIterable iter X.env x = pure x := by intro _; rfl) : PS X (.For tg iter body [] pos) (tFor wi g tb) := by
  intro pins s σ H D I h
  refine wpAny_For (thn (hi pins s σ H _ I h) fun v s1 h1 => thn h1 fun itv s2 h2 => ?_) hs
  obtain ⟨it, fp, tn, J, H2, e, I2, T, st2, f2, W, ⟨m0, w0⟩, turn⟩ := h2
  subst e
  -- what stays true of the iterator's objects through the loop
  have stat : ∀ {H' : Hp}, (∀ b ∈ fp, H' b = none) → ∀ b ∈ fp, FpOk X pins H' b := fun hn b hb => ⟨hn b hb, (f2 b hb).2⟩
  refine codeAny_forLoop_any (fun n s' => ∃ i σ' H', Inv X pins σ' H' s' ∧ tn i s'.heap ∧ (∀ b ∈ fp, H' b = none) ∧ W i n σ' H') ?_ m0 ⟨0, σ, H2, I2, st2, fun b hb => (f2 b hb).1, w0⟩
  rintro n s3 ⟨i, σ3, H3, I3, st3, fr3, w3⟩
  rcases turn i n σ3 H3 w3 with ⟨stop, qn⟩ | ⟨go, N, hN, step⟩
  · refine wpAny_passesOwn hp (thn (T.done X rfl rfl rfl hc i pins s3 σ3 H3 X.xe I3 (stat fr3) st3 stop) fun r s4 ⟨hr, I4⟩ => ?_)
    subst hr
    exact wpAny_execs_nil ⟨σ3, H3, I4, qn⟩
  · refine wpAny_passesOwn hp (thn (T.item X rfl rfl rfl hc i pins s3 σ3 H3 X.xe I3 (stat fr3) st3 go) fun r s4 ⟨u, hr, h4⟩ => ?_)
    subst hr
    refine wpAny_passesOwn hp (thn h4 fun _ s5 ⟨x, H5, I5, r5, y5, st5, fr5⟩ => ?_)
    have I5' := I5.pinned (stat fr5) (T.obj _ _ st5)
    refine wpAny_passesOwn hp (thn (hg _ s5 σ3 H5 x u _ I5' r5 (step x H5 y5)) fun _ s6 ⟨σ6, H6, I6, q6⟩ => ?_)
    refine wpAny_passesOwn hp (thn (hb _ s6 σ6 H6 _ I6 q6) fun f s7 q7 => ?_)
    have again : ∀ {σ7 : St} {H7 : Hp}, Inv X (pins ++ pinsAt fp s5.heap) σ7 H7 s7 → N σ7 H7 → ∃ m, m < n ∧ ∃ i σ' H', Inv X pins σ' H' s7 ∧ tn i s7.heap ∧ (∀ b ∈ fp, H' b = none) ∧ W i m σ' H' := fun {σ7 H7} I7 n7 => by
      obtain ⟨m', hm, w7⟩ := hN σ7 H7 n7
      refine ⟨m', hm, i + 1, σ7, H7, I7.unpinned, T.keep _ _ _ st5 fun b hb o e => (I7.pin (b, o) (List.mem_append_right _ (List.mem_append_right _ (mem_pinsAt hb e)))).1, fun b hb => ?_, w7⟩
      obtain ⟨o, e, d⟩ := T.obj _ _ st5 b hb
      exact (I7.pin (b, o) (List.mem_append_right _ (List.mem_append_right _ (mem_pinsAt hb e)))).2.1
    cases f with
    | next => obtain ⟨σ7, H7, I7, n7⟩ := q7; exact again I7 n7
    | cont => obtain ⟨σ7, H7, I7, n7⟩ := q7; exact again I7 n7
    | brk => obtain ⟨σ7, H7, I7, q7⟩ := q7; exact ⟨σ7, H7, I7.unpinned, q7⟩
    | ret v => obtain ⟨x7, σ7, H7, I7, r7, q7⟩ := q7; exact ⟨x7, σ7, H7, I7.unpinned, r7, q7⟩
end

/-! ### the forms one uses -/
end L2

namespace L2
open PySem PySem.Spec PyProof.Rows

abbrev R2 := V → V → Hp → VK → Prop
/-- a two-place operation on values: f is binaryOp op, inplaceOp op or compareOp op -/
def OpR (X : Cx) (f : Value → Value → Sem Value) (r : R2) : Prop :=
  ∀ (pins : List (Addr × Obj)) (s : Shared) (σ : St) (H : Hp) (x y : V) (v u : Value) (Q : VK), Inv X pins σ H s → RelV x v → RelV y u → r x y H Q →
    wpAny (model X.prog X.w) X.A (f v u) (EP X pins σ Q) X.xe s
/-- a one-place operation -/
def UnR (X : Cx) (f : Value → Sem Value) (r : V → Hp → VK → Prop) : Prop :=
  ∀ (pins : List (Addr × Obj)) (s : Shared) (σ : St) (H : Hp) (x : V) (v : Value) (Q : VK), Inv X pins σ H s → RelV x v → r x H Q →
    wpAny (model X.prog X.w) X.A (f v) (EP X pins σ Q) X.xe s
/-- a call of a value that is known (a builtin, a type) with values -/
def CallR (X : Cx) (f : Value) (r : List V → Hp → VK → Prop) : Prop :=
  ∀ (pins : List (Addr × Obj)) (s : Shared) (σ : St) (H : Hp) (xs : List V) (us : List Value) (Q : VK), Inv X pins σ H s → Vals xs us → r xs H Q →
    wpAny (model X.prog X.w) X.A (call f us) (EP X pins σ Q) X.xe s

def tOp (r : R2) (ta tb : TE) : TE := fun σ H Q => ta σ H fun x H1 => tb σ H1 fun y H2 => r x y H2 Q
def tUn (r : V → Hp → VK → Prop) (ta : TE) : TE := fun σ H Q => ta σ H fun x H1 => r x H1 Q
/-- ints in, under C, and a value out -/
def rI (C : Int → Int → Prop) (g : Int → Int → V) : R2 := fun x y H Q => ∃ i j, x = .int i ∧ y = .int j ∧ C i j ∧ Q (g i j) H
def rI0 (g : Int → Int → V) : R2 := fun x y H Q => ∃ i j, x = .int i ∧ y = .int j ∧ Q (g i j) H
def rU (g : Int → V) : V → Hp → VK → Prop := fun x H Q => ∃ i, x = .int i ∧ Q (g i) H

section
variable {X : Cx} {a b c : Expr} {ta tb tc : TE} {pos : Pos}

theorem binT (ha : PE X a ta) (hb : PE X b tb) {pins : List (Addr × Obj)} {s : Shared} {σ : St} {H : Hp} {R : V → V → Hp → Prop} (I : Inv X pins σ H s)
    (h : ta σ H fun x H1 => tb σ H1 fun y H2 => R x y H2) {Q : Value → Shared → Prop} {f : Value → Value → Sem Value}
    (hf : ∀ v u s2 x y H2, Inv X pins σ H2 s2 → RelV x v → RelV y u → R x y H2 → wpAny (model X.prog X.w) X.A (f v u) Q X.xe s2) :
    wpAny (model X.prog X.w) X.A (eval a X.env) (fun v s₁ => wpAny (model X.prog X.w) X.A (eval b X.env) (fun u s₂ => wpAny (model X.prog X.w) X.A (f v u) Q X.xe s₂) X.xe s₁) X.xe s := by
  refine thn (ha pins s σ H _ I h) fun v s1 ⟨x, H1, I1, r1, q1⟩ => ?_
  refine thn (hb pins s1 σ H1 _ I1 q1) fun u s2 ⟨y, H2, I2, r2, q2⟩ => ?_
  exact hf v u s2 x y H2 I2 r1 r2 q2

theorem pe_op {op : Operator} {r : R2} (ho : OpR X (binaryOp op) r) (ha : PE X a ta) (hb : PE X b tb) : PE X (.BinOp a op b pos) (tOp r ta tb) := by
  intro pins s σ H Q I h
  exact wpAny_BinOp (binT ha hb I h fun v u s2 x y H2 I2 rx ry q => ho pins s2 σ H2 x y v u Q I2 rx ry q)
theorem pe_un {op : UnaryOp} {r : V → Hp → VK → Prop} (ho : UnR X (unaryOp op) r) (ha : PE X a ta) : PE X (.UnaryOp op a pos) (tUn r ta) := by
  intro pins s σ H Q I h
  exact UnaryOp_ (thn (ha pins s σ H _ I h) fun v s1 ⟨x, H1, I1, r1, q1⟩ => ho pins s1 σ H1 x v Q I1 r1 q1)

/-! ### ints -/
theorem opI {f : Value → Value → Sem Value} {C : Int → Int → Prop} {g : Int → Int → Int}
    (rule : ∀ (i j : Int) (t u : Tok) (s : Shared) (Q : Value → Shared → Prop) (E : Value → Shared → Prop), C i j → Q (.int (g i j) s.toks) { s with toks := s.toks + 1 } → wpAny (model X.prog X.w) X.A (f (.int i t) (.int j u)) Q E s) :
    OpR X f (rI C fun i j => .int (g i j)) := by
  intro pins s σ H x y v u Q I rx ry h
  obtain ⟨i, j, rfl, rfl, hc, q⟩ := h
  obtain ⟨t, rfl⟩ := rx
  obtain ⟨t', rfl⟩ := ry
  exact rule i j t t' s _ _ hc ⟨.int (g i j), H, I.tok _, ⟨_, rfl⟩, q⟩
theorem opI0 {f : Value → Value → Sem Value} {g : Int → Int → Int}
    (rule : ∀ (i j : Int) (t u : Tok) (s : Shared) (Q : Value → Shared → Prop) (E : Value → Shared → Prop), Q (.int (g i j) s.toks) { s with toks := s.toks + 1 } → wpAny (model X.prog X.w) X.A (f (.int i t) (.int j u)) Q E s) :
    OpR X f (rI0 fun i j => .int (g i j)) := by
  intro pins s σ H x y v u Q I rx ry h
  obtain ⟨i, j, rfl, rfl, q⟩ := h
  obtain ⟨t, rfl⟩ := rx
  obtain ⟨t', rfl⟩ := ry
  exact rule i j t t' s _ _ ⟨.int (g i j), H, I.tok _, ⟨_, rfl⟩, q⟩
theorem opB0 {f : Value → Value → Sem Value} {g : Int → Int → Bool}
    (rule : ∀ (i j : Int) (t u : Tok) (s : Shared) (Q : Value → Shared → Prop) (E : Value → Shared → Prop), Q (.bool (g i j)) s → wpAny (model X.prog X.w) X.A (f (.int i t) (.int j u)) Q E s) :
    OpR X f (rI0 fun i j => .bl (g i j)) := by
  intro pins s σ H x y v u Q I rx ry h
  obtain ⟨i, j, rfl, rfl, q⟩ := h
  obtain ⟨t, rfl⟩ := rx
  obtain ⟨t', rfl⟩ := ry
  exact rule i j t t' s _ _ ⟨.bl (g i j), H, I, rfl, q⟩

def CPow (i j : Int) : Prop := 0 ≤ j ∧ j ≤ 1000000 ∧ i.natAbs < 2 ^ 64
def CMul (i j : Int) : Prop := (-(2 ^ 64) < i ∧ i < 2 ^ 64) ∨ (-(2 ^ 64) < j ∧ j < 2 ^ 64)
theorem CMul.ok {i j : Int} (h : CMul i j) : IntMulOk i j := by
  rcases h with ⟨h1, h2⟩ | ⟨h1, h2⟩
  · exact .of_left (intBits_le_64 h1 h2)
  · exact .of_right (intBits_le_64 h1 h2)

theorem op_add : OpR X (binaryOp .Add) (rI0 fun i j => .int (i + j)) := opI0 fun _ _ _ _ _ _ _ q => add_int q
theorem op_sub : OpR X (binaryOp .Sub) (rI0 fun i j => .int (i - j)) := opI0 fun _ _ _ _ _ _ _ q => sub_int q
theorem op_mul : OpR X (binaryOp .Mult) (rI CMul fun i j => .int (i * j)) := opI fun _ _ _ _ _ _ _ hc q => mul_int q hc.ok
/-- % by a positive divisor of any size -/
theorem op_mod : OpR X (binaryOp .Mod) (rI (fun _ j => 0 < j) fun i j => .int (i % j)) := opI fun i j _ _ _ _ _ hc q => by
  have h1 : (0 : Int) < j := hc
  exact mod_int' (by omega) (by rw [Int.fmod_eq_emod_of_nonneg i (by omega)]; exact q)
theorem op_pow : OpR X (binaryOp .Pow) (rI CPow fun i j => .int (i ^ j.toNat)) := opI fun _ _ _ _ _ _ _ hc q => pow_int_small hc.1 hc.2.1 hc.2.2 q

theorem unI {f : Value → Sem Value} {g : Int → Int}
    (rule : ∀ (i : Int) (t : Tok) (s : Shared) (Q : Value → Shared → Prop) (E : Value → Shared → Prop), Q (.int (g i) s.toks) { s with toks := s.toks + 1 } → wpAny (model X.prog X.w) X.A (f (.int i t)) Q E s) :
    UnR X f (rU fun i => .int (g i)) := by
  intro pins s σ H x v Q I rx h
  obtain ⟨i, rfl, q⟩ := h
  obtain ⟨t, rfl⟩ := rx
  exact rule i t s _ _ ⟨.int (g i), H, I.tok _, ⟨_, rfl⟩, q⟩
theorem un_neg : UnR X (unaryOp .USub) (rU fun i => .int (-i)) := unI fun _ _ _ _ _ q => neg_int q

/-! ### bools among ints: n += (a < b) -/
end

/-! ### comparisons -/

section
variable {X : Cx} {a b c : Expr} {ta tb tc : TE} {pos : Pos}
theorem fin_bl {pins : List (Addr × Obj)} {σ : St} {H : Hp} {s : Shared} {Q : VK} {k k' : Bool} (I : Inv X pins σ H s) (q : Q (.bl k) H) (e : k = k') : EP X pins σ Q (.bool k') s := by
  subst e
  exact ⟨.bl k, H, I, rfl, q⟩

theorem op_lt : OpR X (compareOp .Lt) (rI0 fun i j => .bl (decide (i < j))) := opB0 fun _ _ _ _ _ _ _ q => lt_int q
theorem op_ge : OpR X (compareOp .GtE) (rI0 fun i j => .bl (decide (j ≤ i))) := opB0 fun _ _ _ _ _ _ _ q => ge_int q

theorem op_notN : OpR X (compareOp .IsNot) (fun x y H Q => y = .non ∧ Q (.bl (!decide (x = .non))) H) := by
  intro pins s σ H x y v u Q I rx ry h
  obtain ⟨rfl, q⟩ := h
  cases ry
  refine isnot_none_gen (fin_bl I q ?_)
  cases x <;> first
    | (cases rx; rfl)
    | (obtain ⟨t, rfl⟩ := rx; rfl)

/-- two rules for one operation: by cases -/
theorem OpR.or {f : Value → Value → Sem Value} {r r' : R2} (h : OpR X f r) (h' : OpR X f r') : OpR X f (fun x y H Q => r x y H Q ∨ r' x y H Q) := by
  intro pins s σ H x y v u Q I rx ry q
  rcases q with q | q
  · exact h pins s σ H x y v u Q I rx ry q
  · exact h' pins s σ H x y v u Q I rx ry q

theorem nomark (b : Expr) {op : CmpOp} (h : op ≠ .In := by decide) (h2 : op ≠ .NotIn := by decide) : behindInMarks op b = false := by
  have e1 : (op == CmpOp.In) = false := by cases op <;> first | rfl | exact absurd rfl h
  have e2 : (op == CmpOp.NotIn) = false := by cases op <;> first | rfl | exact absurd rfl h2
  cases b <;> simp [behindInMarks, e1, e2]
/-- a reading of a value as a test -/
def tTest (t : TE) : TT := fun σ H Q => t σ H fun x H' => ∃ k, x = .bl k ∧ Q k H'
theorem pt_cmpR {op : CmpOp} {r : R2} (ho : OpR X (compareOp op) r) (ha : PE X a ta) (hb : PE X b tb) (hm : behindInMarks op b = false) : PT X (.Compare a [op] [b] pos) (tTest (tOp r ta tb)) := by
  intro pins s σ H Q I h
  refine wpAny_isTrue_Compare1 (thn (ha pins s σ H _ I h) fun v s1 ⟨x, H1, I1, r1, q1⟩ => thn (hb pins s1 σ H1 _ I1 q1) fun u s2 ⟨y, H2, I2, r2, q2⟩ =>
    thn (ho pins s2 σ H2 x y v u _ I2 r1 r2 q2) fun c s3 ⟨z, H3, I3, r3, k, e, q3⟩ => ?_) hm
  subst e
  cases r3
  exact wpAny_truthy_bool ⟨H3, I3, q3⟩

/-! ### truth -/
theorem line63 : (sizeLine : Nat) < 2 ^ 63 := by rw [sizeLine_eq]; decide

/-! ### strs and bytes -/

/-! ### scalar builtins, by CallR -/
theorem vals1 {x : V} {us : List Value} (r : Vals [x] us) : ∃ u, us = [u] ∧ RelV x u := by
  cases r with
  | cons r1 r2 => cases r2; exact ⟨_, rfl, r1⟩
end
end L2

namespace L2
open PySem PySem.Spec PyProof.Rows

/-! ### an instance, its attributes a map -/


/-! ### the attributes as a list of pairs -/

theorem RelO.none_of {o : Option Value} (r : RelO none o) : o = none := by
  cases o with
  | none => rfl
  | some u => exact (show False from r).elim


/-! ### what of the text a class must have -/
structure Cls (K : PySem.W.Frag) (C : Addr) : Prop where
  pg : PySem.W.plainGet K C Str.empty = true
  hd : PySem.W.hasDictIn K C = true
  po : PySem.W.plainOver K C = true
  sa : PySem.W.findIn K (.ref C) "__setattr__" = some (some (.builtin "object.__setattr__"))
theorem Cls.get {K : PySem.W.Frag} {C : Addr} (c : Cls K C) (f : Str) : PySem.W.plainGet K C f = true := c.pg

section
variable {X : Cx} {pins : List (Addr × Obj)} {σ : St} {H : Hp} {s : Shared} {a C dx : Addr} {fs : List (Str × V)} {f : Str} {v : V} {A : Around} {E : Value → Shared → Prop}

/-- a new instance, tracked, without attributes -/
theorem Inv.made (I : Inv X pins σ H s) : Inv X pins σ (upd (upd H s.heap.objs.size (.own (s.heap.objs.size + 1))) (s.heap.objs.size + 1) (.ins C s.heap.objs.size []))
    { s with heap := (s.heap.push PySem.W.emptyDict).push (PySem.W.instObj C s.heap.objs.size) } := by
  have e1 : (s.heap.push PySem.W.emptyDict).get? s.heap.objs.size = some PySem.W.emptyDict := Heap.get?_push_size s.heap rfl
  have e2 : ((s.heap.push PySem.W.emptyDict).push (PySem.W.instObj C s.heap.objs.size)).get? (s.heap.objs.size + 1) = some (PySem.W.instObj C s.heap.objs.size) := by
    have := Heap.get?_push_size (s.heap.push PySem.W.emptyDict) (o := PySem.W.instObj C s.heap.objs.size) rfl
    rwa [Heap.size_push] at this
  have e3 : (s.heap.push PySem.W.emptyDict).Ns s.heap.objs.size (fun _ => none) := ⟨PySem.W.emptyDict, #[], _, e1, rfl, (fun e he => absurd he (by simp)), fun _ => rfl⟩
  have I1 := I.laid (a := s.heap.objs.size) (o := .own (s.heap.objs.size + 1)) (h' := s.heap.push PySem.W.emptyDict) (t' := s.toks) (fun b u q => Heap.get?_push_of_some _ q) (Nat.le_refl _) ⟨_, e1⟩
  refine I1.laid (a := s.heap.objs.size + 1) (o := .ins C s.heap.objs.size []) (t' := s.toks) (fun b u q => Heap.get?_push_of_some _ q) (Nat.le_of_eq (Heap.size_push _ _)) ?_
  have ne : s.heap.objs.size ≠ s.heap.objs.size + 1 := Nat.ne_of_lt (Nat.lt_succ_self _)
  refine ⟨by rw [upd_ne ne, upd_same], Nat.zero_le _, ne, e2, fun _ => none, (Heap.Ns1.of_empty e3).at fun o q => Heap.get?_push_of_some _ q, fun _ => True.intro, fun y hy => absurd rfl hy⟩

end

/-! ### readings and rules -/


/-! ### isinstance -/
end L2

namespace L2
open PySem PySem.Spec PyProof.Rows

/-! ### room -/
structure Room (k : Nat) (A : Around) : Prop where
  hd : A.handled = none
  dp : A.depth + 3 * k + 5 < recursionLimit
  un : A.units + 16 * k + 200 < cLine
theorem Room.mono {j k : Nat} {A : Around} (r : Room k A) (h : j ≤ k) : Room j A := ⟨r.hd, by have := r.dp; omega, by have := r.un; omega⟩
theorem Room.deeper {k : Nat} {A : Around} (r : Room (k + 1) A) (env : Env) : Room k (A.deeper env) :=
  ⟨r.hd, by have := r.dp; show A.depth + 1 + 3 * k + 5 < _; omega, by have := r.un; show A.units + 3 + 16 * k + 200 < _; omega⟩
theorem Room.in1 {k : Nat} {A : Around} (r : Room (k + 1) A) : Room k A.in1 :=
  ⟨r.hd, by have := r.dp; show A.depth + 3 * k + 5 < _; omega, by have := r.un; show A.units + 1 + 16 * k + 200 < _; omega⟩
theorem Room.depth {k : Nat} {A : Around} (r : Room k A) : A.depth < recursionLimit := by have := r.dp; omega
theorem Room.units {k : Nat} {A : Around} (r : Room k A) : A.units + 64 < cLine := by have := r.un; omega

/-! ### argument lists and displays -/
def tNil : TA := fun _ H Q => Q [] H
def tCons (ta : TE) (tr : TA) : TA := fun σ H Q => ta σ H fun x H1 => tr σ H1 fun xs H2 => Q (x :: xs) H2
section
variable {X : Cx} {e : Expr} {es : List Expr} {te : TE} {t : TA} {pos : Pos}
theorem pa_nil : PA X [] tNil := fun _ _ _ _ H Q I h => Calls.spliced_nil ⟨[], H, I, .nil, h⟩
theorem pa_cons (ha : PE X e te) (hr : PA X es t) (hs : starEach (e :: es) X.env = (false, eval e X.env) :: starEach es X.env := by rfl) : PA X (e :: es) (tCons te t) := by
  intro pos pins s σ H Q I h
  rw [hs]
  show wpAny _ _ (spliced ((false, eval e X.env) :: backTo pos (starEach es X.env))) _ _ s
  refine Calls.spliced_cons (thn (ha pins s σ H _ I h) fun u s1 ⟨x, H1, I1, r1, q1⟩ => ?_)
  exact thn (hr pos pins s1 σ H1 _ I1 q1) fun us s2 ⟨xs, H2, I2, r2, q2⟩ => ⟨x :: xs, H2, I2, .cons r1 r2, q2⟩

/-- a tuple, a list of written items -/
def tTup (t : TA) : TE := fun σ H Q => t σ H fun xs H1 => xs.length ≤ sizeLine ∧ ∀ p, H1 p = none → Q (.ref p) (upd H1 p (.tup xs))
def tLst (t : TA) : TE := fun σ H Q => t σ H fun xs H1 => xs.length ≤ sizeLine ∧ ∀ p, H1 p = none → Q (.ref p) (upd H1 p (.lst xs))
theorem pe_tup {x1} (h : PA X es t) : PE X (.Tuple es x1 pos) (tTup t) := by
  intro pins s σ H Q I hq
  refine wpAny_Tuple_spliced (thn (h pos pins s σ H _ I hq) fun us s1 ⟨xs, H1, I1, r, z, q⟩ => ⟨by rw [← r.length]; exact z, ?_⟩)
  have hf : H1 s1.heap.objs.size = none := I1.hok.fresh (Nat.le_refl _)
  refine ⟨.ref s1.heap.objs.size, upd H1 s1.heap.objs.size (.tup xs), I1.laid (t' := s1.toks) (fun b u e => Heap.get?_push_of_some _ e) (Nat.le_refl _) ?_, rfl, q _ hf⟩
  exact ⟨z, us, r, ⟨_, Heap.get?_push_size _ rfl, rfl, _, rfl⟩⟩
theorem pe_lst (h : PA X es t) : PE X (.List es pos) (tLst t) := by
  intro pins s σ H Q I hq
  refine wpAny_List_spliced (thn (h pos pins s σ H _ I hq) fun us s1 ⟨xs, H1, I1, r, z, q⟩ => ⟨by rw [← r.length]; exact z, ?_⟩)
  have hf : H1 s1.heap.objs.size = none := I1.hok.fresh (Nat.le_refl _)
  refine ⟨.ref s1.heap.objs.size, upd H1 s1.heap.objs.size (.lst xs), I1.laid (t' := s1.toks) (fun b u e => Heap.get?_push_of_some _ e) (Nat.le_refl _) ?_, rfl, q _ hf⟩
  exact ⟨z, us, 0, r, Heap.get?_push_size _ rfl⟩
end

/-! ### what a def promises -/
/-- a def's promise: the bound arguments in the parameters' order, the heap, the wanted end, the wanted exception -/
abbrev Sp := List V → Hp → VK → XK → Prop
/-- how an exception lies behind a call (file 08 gives it): the callers' frames, abstract heap and state ahead of the call, the wish, the exception, the state -/
abbrev CXT := List Env → Hp → Shared → XK → Value → Shared → Prop

/-- the state at a call -/
structure Env0 (P : Program) (w : World) (K : PySem.W.Frag) (mg : Str → Option Value) (base : Heap) (A : Around) (outer : List Env) (s : Shared) (H : Hp) : Prop where
  frames : A.frames = some outer
  mod : Mod K mg base
  bs : ∀ b o, base.get? b = some o → s.heap.get? b = some o ∧ H b = none
  bsz : base.objs.size ≤ s.heap.objs.size
  funs : s.heap.FunFrames base outer
  frf : ∀ b ∈ frs outer, H b = none
  hok : HOk P w H s.heap
  bare : AllBare s.gens
/-- a call's end -/
def CE (outer : List Env) (P : Program) (w : World) (H : Hp) (s : Shared) (Q : VK) (u : Value) (s' : Shared) : Prop :=
  ∃ v H', s'.os = s.os ∧ AllBare s'.gens ∧ Un (frs outer) [] H H' s.heap s'.heap ∧ HOk P w H' s'.heap ∧ RelV v u ∧ Q v H'
def CR (CX : CXT) (outer : List Env) (P : Program) (w : World) (H : Hp) (s : Shared) (Q : VK) (E : XK) (r : Result) (s' : Shared) : Prop :=
  match r with
  | .ok (.ret u) => CE outer P w H s Q u s'
  | .ok _ => False
  | .error e => CX outer H s E e s'
structure FnOk (P : Program) (w : World) (K : PySem.W.Frag) (mg : Str → Option Value) (base : Heap) (CX : CXT) (k : Nat) (f : Addr) (fd : FuncData) (ps : List Str) (sp : Sp) : Prop where
  len : ∀ vs H Q E, sp vs H Q E → vs.length = ps.length
  run : ∀ (A : Around) (outer : List Env) (s : Shared) (H : Hp) (args : Args) (us : List Value) (vs : List V) (Q : VK) (E : XK), Room k A → Env0 P w K mg base A outer s H → BindsTo s fd args (ps.zip us) → Vals vs us → sp vs H Q E →
    codeAny (model P w) A (.call (.ref f) args) (CR CX outer P w H s Q E) s
theorem FnOk.mono {P : Program} {w : World} {K : PySem.W.Frag} {mg : Str → Option Value} {base : Heap} {CX : CXT} {j k : Nat} {f : Addr} {fd : FuncData} {ps : List Str} {sp : Sp} (F : FnOk P w K mg base CX j f fd ps sp) (h : j ≤ k) :
    FnOk P w K mg base CX k f fd ps sp := ⟨F.len, fun A outer s H args us vs Q E hr => F.run A outer s H args us vs Q E (hr.mono h)⟩
/-- a weaker promise -/
theorem FnOk.imp {P : Program} {w : World} {K : PySem.W.Frag} {mg : Str → Option Value} {base : Heap} {CX : CXT} {k : Nat} {f : Addr} {fd : FuncData} {ps : List Str} {sp sp' : Sp} (F : FnOk P w K mg base CX k f fd ps sp)
    (h : ∀ vs H Q E, sp' vs H Q E → sp vs H Q E) : FnOk P w K mg base CX k f fd ps sp' :=
  ⟨fun vs H Q E q => F.len vs H Q E (h _ _ _ _ q), fun A outer s H args us vs Q E hr he hb hv hs => F.run A outer s H args us vs Q E hr he hb hv (h _ _ _ _ hs)⟩

theorem Env0.in1 {P : Program} {w : World} {K : PySem.W.Frag} {mg : Str → Option Value} {base : Heap} {A : Around} {outer : List Env} {s : Shared} {H : Hp} (e : Env0 P w K mg base A outer s H) :
    Env0 P w K mg base A.in1 outer s H := ⟨e.frames, e.mod, e.bs, e.bsz, e.funs, e.frf, e.hok, e.bare⟩

section
variable {X : Cx} {pins : List (Addr × Obj)} {σ : St} {H : Hp} {s s' : Shared}
/-- from a body: what a callee wants -/
theorem Inv.env0 (I : Inv X pins σ H s) : Env0 X.prog X.w X.K X.mg X.base X.A X.stack s H :=
  ⟨I.ok.frames, I.ok.mod, I.bs, Nat.le_trans I.ok.bsz I.sz, I.stack, I.stkFree, I.hok, I.bare⟩
/-- behind a call -/
theorem Inv.after {Q : VK} {u : Value} (I : Inv X pins σ H s) (h : CE X.stack X.prog X.w H s Q u s') : EP X pins σ Q u s' := by
  obtain ⟨v, H', os, bare, un, hok, r, q⟩ := h
  obtain ⟨hh, g, d, t, os'⟩ := s'
  obtain rfl : os' = s.os := os
  exact ⟨v, H', I.call (h' := hh) (g' := g) (d' := d) (t' := t) (ch := []) un hok bare (fun b z => absurd z (by simp)), r, q⟩
end

/-! ### calls -/
/-- f(..): the written arguments, then the defaults dvs; E: what is wanted of an exception -/
def tCall (sp : Sp) (dvs : List V) (E : XK) (t : TA) : TE := fun σ H Q => t σ H fun vs H1 => sp (vs ++ dvs) H1 Q E

/-- how the parameters are bound: us the positional arguments, kw the keywords' values by name, ds the defaults that fill up -/
def Binds (K : PySem.W.Frag) (fd : FuncData) (ps : List Str) (ds : List Value) : Prop :=
  ∀ (s : Shared) (us : List Value), K.In s.heap → (us ++ ds).length = ps.length → BindsTo s fd ⟨us, []⟩ (ps.zip (us ++ ds))
/-- every parameter is given -/
theorem Binds.all {K : PySem.W.Frag} {fd : FuncData} {ps : List Str} (h : ∀ us : List Value, us.length = ps.length → bindArgs fd ⟨us, []⟩ = pure (ps.zip us)) : Binds K fd ps [] := fun s us _ hl => by
  rw [List.append_nil] at hl ⊢
  exact .of_eq (h us hl)

/-- an exception of a callee reaches what this body wants of exceptions -/
def Passes (CX : CXT) (X : Cx) (E : XK) : Prop := ∀ (pins : List (Addr × Obj)) (σ : St) (H : Hp) (s : Shared) (e : Value) (s' : Shared), Inv X pins σ H s → CX X.stack H s E e s' → X.xe e s'

section
variable {X : Cx} {CX : CXT} {k : Nat} {f C : Addr} {fd : FuncData} {ps : List Str} {sp : Sp} {dvs : List V} {ds : List Value} {E : XK} {x m : Str} {p pos apos : Pos} {e o : Expr} {es : List Expr} {ta : TE} {t : TA}

/-- the callee runs -/
theorem run_fn {pins : List (Addr × Obj)} {σ : St} {H : Hp} {s : Shared} {Q : VK} {us : List Value} {vs : List V} (F : FnOk X.prog X.w X.K X.mg X.base CX k f fd ps sp) (hr : Room k X.A) (hb : Binds X.K fd ps ds) (hd : Vals dvs ds) (hx : Passes CX X E)
    (I : Inv X pins σ H s) (r : Vals vs us) (h : sp (vs ++ dvs) H Q E) : wpAny (model X.prog X.w) X.A (call (.ref f) us) (EP X pins σ Q) X.xe s := by
  have r2 : Vals (vs ++ dvs) (us ++ ds) := r.append hd
  have hl : (us ++ ds).length = ps.length := by rw [← r2.length]; exact F.len _ _ _ _ h
  refine wpAny_call (codeAny_mono (F.run X.A X.stack s H ⟨us, []⟩ (us ++ ds) (vs ++ dvs) Q E hr I.env0 (hb s us I.kIn hl) r2 h) fun r s' hq => ?_)
  cases r with
  | error e => exact hx pins σ H s e s' I hq
  | ok fl =>
    cases fl with
    | ret u => exact I.after hq
    | next => exact False.elim hq
    | brk => exact False.elim hq
    | cont => exact False.elim hq

theorem pe_call (F : FnOk X.prog X.w X.K X.mg X.base CX k f fd ps sp) (hr : Room k X.A) (hg : Gl X x) (hm : X.mg x = some (.ref f)) (hk : PySem.W.keepIn X.K (.ref f) = true) (hb : Binds X.K fd ps ds) (hd : Vals dvs ds) (hx : Passes CX X E)
    (ha : PA X (e :: es) t) (hdb : (x == ("__debug__" : Str)) = false := by decide) (he : starEach (e :: es) X.env = (false, eval e X.env) :: starEach es X.env := by rfl) (hpl : (backTo pos (starEach es X.env)).any (·.1) = false := by rfl) :
    PE X (.Call (.Name x p) (e :: es) [] pos) (tCall sp dvs E t) := by
  intro pins s σ H Q I h
  refine wpAny_Call_Name_kw (ld_glob I hg hm ?_ hdb)
  refine PySem.W.callWith_K (h₀ := X.base) I.ok.mod.kin hk (thn (ha pos pins s σ H _ I h) fun us s1 ⟨vs, H1, I1, r, q⟩ => ⟨I1.kIn, ?_⟩) he hpl
  exact run_fn F hr hb hd hx I1 r q

end

/-! ### keywords -/

/-! ### a def's body keeps its promise -/
/-- names: the parameters first -/
structure FnScope (N P : List Str) (sc : Scope) : Prop where
  kind : sc.kind = .function
  co : sc.isCoroutine = false
  gen : sc.isGenerator = false
  nd : N.Nodup
  pre : N.take P.length = P
  par : ∀ x ∈ P, sc.names.lookup x = some .local ∨ sc.names.lookup x = some .cell
  nofree : ∀ y ∈ sc.names, y.2 ≠ .free

theorem bindL_out {kindOf : Str → Option NameKind} {x : Str} : ∀ {binds : List (Str × Value)} {m : Str → Option Value}, (∀ v, (x, v) ∉ binds) → bindL kindOf binds m x = m x
  | [], _, _ => rfl
  | (n, v) :: r, m, h => by
    unfold bindL
    rw [bindL_out fun w hw => h w (List.mem_cons_of_mem _ hw)]
    split
    · have : x ≠ n := by rintro rfl; exact h v List.mem_cons_self
      simp [this]
    · rfl
theorem bindC_out {kindOf : Str → Option NameKind} {x : Str} : ∀ {binds : List (Str × Value)} {m : Str → Option Value}, (∀ v, (x, v) ∉ binds) → bindC kindOf binds m x = m x
  | [], _, _ => rfl
  | (n, v) :: r, m, h => by
    unfold bindC
    rw [bindC_out fun w hw => h w (List.mem_cons_of_mem _ hw)]
    split
    · rfl
    · have : x ≠ n := by rintro rfl; exact h v List.mem_cons_self
      simp [this]
theorem bindL_get {kindOf : Str → Option NameKind} {x : Str} {v : Value} : ∀ {P : List Str} {vs : List Value} {i : Nat} {m : Str → Option Value}, P.Nodup → P[i]? = some x → vs[i]? = some v → kindOf x = some .local →
    bindL kindOf (P.zip vs) m x = some v
  | [], _, _, _, _, h, _, _ => by simp at h
  | _ :: _, [], _, _, _, _, h, _ => by simp at h
  | p :: P, w :: vs, 0, m, nd, h1, h2, hk => by
    simp at h1 h2; subst h1; subst h2
    show bindL kindOf ((p, w) :: P.zip vs) m p = _
    unfold bindL
    rw [bindL_out fun v hv => (List.nodup_cons.mp nd).1 (List.of_mem_zip hv).1, if_pos hk]
    simp
  | p :: P, w :: vs, i + 1, m, nd, h1, h2, hk => by
    show bindL kindOf ((p, w) :: P.zip vs) m x = _
    unfold bindL
    exact bindL_get (i := i) (List.nodup_cons.mp nd).2 (by simpa using h1) (by simpa using h2) hk
theorem bindC_get {kindOf : Str → Option NameKind} {x : Str} {v : Value} : ∀ {P : List Str} {vs : List Value} {i : Nat} {m : Str → Option Value}, P.Nodup → P[i]? = some x → vs[i]? = some v → kindOf x ≠ some .local →
    bindC kindOf (P.zip vs) m x = some v
  | [], _, _, _, _, h, _, _ => by simp at h
  | _ :: _, [], _, _, _, _, h, _ => by simp at h
  | p :: P, w :: vs, 0, m, nd, h1, h2, hk => by
    simp at h1 h2; subst h1; subst h2
    show bindC kindOf ((p, w) :: P.zip vs) m p = _
    unfold bindC
    rw [bindC_out fun v hv => (List.nodup_cons.mp nd).1 (List.of_mem_zip hv).1, if_neg hk]
    simp
  | p :: P, w :: vs, i + 1, m, nd, h1, h2, hk => by
    show bindC kindOf ((p, w) :: P.zip vs) m x = _
    unfold bindC
    exact bindC_get (i := i) (List.nodup_cons.mp nd).2 (by simpa using h1) (by simpa using h2) hk

/-- the names' values at the entry -/
def start (N : List Str) (vs : List V) : St := vs.map some ++ List.replicate (N.length - vs.length) none

/-- the context of a def's body, at its entry; an exception leaves the frame, then lies as CX says -/
def cxOf (CX : CXT) (P : Program) (w : World) (K : PySem.W.Frag) (mg : Str → Option Value) (base : Heap) (N : List Str) (qual : Str) (scope : Scope) (f : Addr) (cd : Value) (A : Around) (outer : List Env) (s : Shared) (H : Hp) (E : XK) : Cx where
  prog := P
  w := w
  K := K
  mg := mg
  base := base
  A := A.deeper (envOfC qual scope s.heap.objs.size f cd)
  N := N
  s₀ := s
  H₀ := H
  env := envOfC qual scope s.heap.objs.size f cd
  outer := outer
  stack := envOfC qual scope s.heap.objs.size f cd :: outer
  ex := []
  calm := true
  fn := fun _ => true
  pn := []
  xe := fun e s' => wpAny (model P w) (A.deeper (envOfC qual scope s.heap.objs.size f cd)) (leaving (envOfC qual scope s.heap.objs.size f cd) e) (fun _ s'' => CX outer H s E e s'') (fun e' s'' => CX outer H s E e' s'') s'

theorem cell_has {sc : Scope} {n : Nat} {x : Str} (h : sc.names.lookup x = some .cell) : ∃ c, (cellsFrom n sc.names []).lookup x = some c := by
  have q := PySem.W.cellsFrom_some sc.names n [] (.inl h)
  exact Option.isSome_iff_exists.mp q

theorem inv_start {CX : CXT} {P : Program} {w : World} {K : PySem.W.Frag} {mg : Str → Option Value} {base : Heap} {N ps : List Str} {qual : Str} {scope : Scope} {f : Addr} {cd : Value} {A : Around} {outer : List Env} {s s1 : Shared} {H : Hp} {E : XK} {us : List Value} {vs : List V}
    (S : FnScope N ps scope) (hd : A.handled = none) (e0 : Env0 P w K mg base A outer s H) (hl : vs.length = ps.length) (r : Vals vs us)
    (x : InCallC s s.heap.objs.size (bindL (envOfC qual scope s.heap.objs.size f cd).kindOf (ps.zip us) fun _ => none) (cellsFrom (s.heap.objs.size + 1) scope.names []) (bindC (envOfC qual scope s.heap.objs.size f cd).kindOf (ps.zip us) fun _ => none) s1) :
    Inv (cxOf CX P w K mg base N qual scope f cd A outer s H E) [] (start N vs) H s1 := by
  have hpl : ps.length ≤ N.length := by have := congrArg List.length S.pre; rw [List.length_take] at this; omega
  obtain ⟨h1, tk, rfl, hk⟩ := x.done
  have noA : ∀ b : Addr, b ∉ (cxOf CX P w K mg base N qual scope f cd A outer s H E).ex := fun b z => absurd (show b ∈ ([] : List Addr) from z) (by simp)
  refine ⟨⟨e0.mod, S.kind, rfl, rfl, Nat.le_refl _, fun y z c h1 h2 => ?_, fun y hy => ?_, fun y c _ h => ?_, fun _ => hd, Around.frames_deeper e0.frames, .inr ⟨rfl, rfl⟩, fun b z => absurd z (noA b), e0.bs, e0.bsz, fun b _ _ => noA b, fun b z => absurd z (noA b), e0.funs, e0.frf⟩,
    rfl, e0.bare, Un.kept hk, ⟨_, x.toInCall.ns, fun i y v h1 h2 h3 => ?_⟩, fun y c h => ⟨_, x.cell y c h⟩, e0.hok.fresh (Nat.le_refl _), fun y c h => ?_, fun p hp => absurd (show p ∈ ([] : List (Addr × Obj)) from hp) (by simp), e0.hok.kept hk, ?_⟩
  · exact name_of_addr x.apart (PySem.mem_of_lookup h1) (PySem.mem_of_lookup h2)
  · have hy : scope.names.lookup y = some .cell ∨ scope.names.lookup y = some .free := hy
    rcases hy with hy | hy
    · exact cell_has hy
    · exact absurd rfl (S.nofree _ (PySem.mem_of_lookup hy))
  · exact Nat.le_of_lt (x.above y c (PySem.mem_of_lookup h))
  · have hi : i < vs.length := by
      unfold start at h2
      by_cases hi : i < vs.length
      · exact hi
      · rw [List.getElem?_append_right (by simpa using hi)] at h2
        rw [List.getElem?_replicate] at h2
        split at h2 <;> cases h2
    have ha : vs[i]? = some v := by
      unfold start at h2
      rw [List.getElem?_append_left (by simpa using hi), List.getElem?_map] at h2
      cases e : vs[i]? with
      | none => rw [e] at h2; cases h2
      | some a => rw [e] at h2; cases h2; rfl
    obtain ⟨u, hu, rv⟩ := r.get ha
    have hp : ps[i]? = some y := by
      rw [← S.pre, List.getElem?_take_of_lt (by omega)]; exact h1
    have ndP : ps.Nodup := by rw [← S.pre]; exact S.nd.sublist (List.take_sublist _ _)
    refine ⟨u, rv, ?_⟩
    rcases S.par y (List.mem_of_getElem? hp) with k | k
    · exact .inl ⟨k, bindL_get ndP hp hu k⟩
    · obtain ⟨c, e⟩ := cell_has (n := s.heap.objs.size + 1) k
      refine .inr ⟨.inl k, c, e, ?_⟩
      have q := x.cell y c e
      rw [bindC_get ndP hp hu (by show scope.names.lookup y ≠ _; rw [k]; decide)] at q
      exact q
  · exact e0.hok.fresh (Nat.le_of_lt (x.above y c (PySem.mem_of_lookup h)))
  · unfold start
    show _ = N.length
    rw [List.length_append, List.length_map, List.length_replicate]
    omega

/-- THE RULE: a def (or a method) of the text, by its body. The body's reading t is chosen for each entry; it is run at the parameters' values -/
theorem fn_of {CX : CXT} {P : Program} {w : World} {K : PySem.W.Frag} {mg : Str → Option Value} {base : Heap} {k : Nat} {f : Addr} {name qual : Str} {params : Arguments} {body : List Stmt} {scope : Scope} {dV kV doc pm cdv ct oc : Value} {an od : Option Addr}
    {osl : Array (Option Value)} {N ps : List Str} {sp : Sp} (lk : K.lookup f = some ⟨oc, od, .func (PySem.W.fnOf name qual params body scope dV kV doc pm an cdv ct), osl⟩) (hcd : PySem.W.codeIn K cdv qual = true) (S : FnScope N ps scope)
    (len : ∀ vs H Q E, sp vs H Q E → vs.length = ps.length)
    (hbody : ∀ (A : Around) (outer : List Env) (s : Shared) (H : Hp) (vs : List V) (Q : VK) (E : XK), Room k (A.deeper (envOfC qual scope s.heap.objs.size f cdv)) → sp vs H Q E →
      ∃ t, PSs (cxOf CX P w K mg base N qual scope f cdv A outer s H E) body t ∧ t { nx := fun _ H' => Q .non H', rt := Q } (start N vs) H) :
    FnOk P w K mg base CX (k + 1) f (PySem.W.fnOf name qual params body scope dV kV doc pm an cdv ct) ps sp := by
  refine ⟨len, fun A outer s H args us vs Q E hr e0 hb r hsp => ?_⟩
  have hl := len _ _ _ _ hsp
  have KX : K.In s.heap := e0.mod.kin.keeps fun b o e => (e0.bs b o e).1
  have lim : s.heap.NoLimit := e0.mod.nolimit.keeps fun b o e => (e0.bs b o e).1
  have hkind : ∀ y ∈ ps.zip us, scope.names.lookup y.1 = some .local ∨ (scope.names.lookup y.1 = some .cell ∧ ((cellsFrom (s.heap.objs.size + 1) scope.names []).lookup y.1).isSome = true) := fun ⟨n, v⟩ hy => by
    rcases S.par n (List.of_mem_zip hy).1 with q | q
    · exact .inl q
    · exact .inr ⟨q, PySem.W.cellsFrom_some _ _ _ (.inl q)⟩
  refine codeAny_call_function hr.depth (KX _ _ lk) rfl S.co S.gen rfl (PySem.W.codeRec_of KX hcd) (hb _ _ _ _ ?_)
  refine wpAny_newFunctionEnv_cells S.kind hkind fun env he s1 x => ?_
  subst he
  refine ⟨lim.keeps x.toInCall.keep, codeAny_func ?_⟩
  obtain ⟨t, ht, hq⟩ := hbody A outer s H vs Q E (hr.deeper _) hsp
  have I : Inv (cxOf CX P w K mg base N qual scope f cdv A outer s H E) [] (start N vs) H s1 := inv_start S hr.hd e0 hl r x
  refine wpAny_mono (ht [] s1 (start N vs) H _ I hq) (fun fl s' hs => ?_) fun e s' hs => hs
  have fin : ∀ {σ' : St} {H' : Hp} {v : V} {u : Value}, Inv (cxOf CX P w K mg base N qual scope f cdv A outer s H E) [] σ' H' s' → RelV v u → Q v H' → CE outer P w H s Q u s' :=
    fun {σ' H' v u} J rv q => ⟨v, H', J.os, J.bare, J.base, J.hok, rv, q⟩
  cases fl with
  | ret u =>
    obtain ⟨v, σ', H', J, rv, q⟩ := hs
    exact fin J rv q
  | next =>
    obtain ⟨σ', H', J, q⟩ := hs
    exact fin (v := V.non) (u := Value.none) J rfl q
  | brk =>
    obtain ⟨_, _, _, q⟩ := hs
    exact False.elim q
  | cont =>
    obtain ⟨_, _, _, q⟩ := hs
    exact False.elim q
end L2

namespace L2
open PySem PySem.Spec PyProof.Rows
section
variable {X : Cx} {x : Str} {p pos : Pos} {e : Expr} {es : List Expr} {t : TA} {id T : String} {r : List V → Hp → VK → Prop}

def tCB (r : List V → Hp → VK → Prop) (t : TA) : TE := fun σ H Q => t σ H fun vs H1 => r vs H1 Q
/-- f(e, ..), f a built-in function -/
theorem pe_callB (hc : CallR X (.builtin id) r) (hg : Gl X x) (hm : X.mg x = none) (hv : bootBuiltins x = some (.builtin id)) (ha : PA X (e :: es) t) (hn : x ≠ "__name__" := by decide) (hdb : (x == ("__debug__" : Str)) = false := by decide)
    (he : starEach (e :: es) X.env = (false, eval e X.env) :: starEach es X.env := by rfl) (hpl : (backTo pos (starEach es X.env)).any (·.1) = false := by rfl) : PE X (.Call (.Name x p) (e :: es) [] pos) (tCB r t) := by
  intro pins s σ H Q I h
  refine wpAny_Call_Name_kw (ld_blt I hg hm hv ?_ hn hdb)
  exact PyProof.Rows.callWith_builtin1 (thn (ha pos pins s σ H _ I h) fun us s1 ⟨vs, H1, I1, r1, q1⟩ => hc pins s1 σ H1 vs us Q I1 r1 q1) he hpl
/-- T(e, ..), T a built-in type -/
theorem pe_callTy (hc : CallR X (.type T) r) (hg : Gl X x) (hm : X.mg x = none) (hv : bootBuiltins x = some (.type T)) (ha : PA X (e :: es) t) (hn : x ≠ "__name__" := by decide) (hdb : (x == ("__debug__" : Str)) = false := by decide)
    (he : starEach (e :: es) X.env = (false, eval e X.env) :: starEach es X.env := by rfl) (hpl : (backTo pos (starEach es X.env)).any (·.1) = false := by rfl) : PE X (.Call (.Name x p) (e :: es) [] pos) (tCB r t) := by
  intro pins s σ H Q I h
  refine wpAny_Call_Name_kw (ld_blt I hg hm hv ?_ hn hdb)
  exact PyProof.Rows.callWith_type1 (thn (ha pos pins s σ H _ I h) fun us s1 ⟨vs, H1, I1, r1, q1⟩ => hc pins s1 σ H1 vs us Q I1 r1 q1) he hpl
end
end L2

namespace HT
open PySem PyProof.Rows


section
variable {prog : Program} {w : World} {A : Around} {E : Value → Shared → Prop} {s : Shared}

/-- t + u, t not empty -/
theorem cat_tup {t b : Addr} {vs ws : List Value} {Q : Value → Shared → Prop} (ht : IsTup s.heap t vs.toArray) (hb : IsTup s.heap b ws.toArray) (hv : vs ≠ [])
    (h1 : ws = [] → Q (.ref t) s) (h2 : ws ≠ [] → Q (.ref s.heap.objs.size) { s with heap := s.heap.push { cls := .type "tuple", data := .seq (vs ++ ws).toArray } })
    (hsz : vs.length + ws.length ≤ sizeLine) : wpAny (model prog w) A (binaryOp .Add (.ref t) (.ref b)) Q E s := by
  obtain ⟨⟨cls, dd, data, sl⟩, ho, hc, n, hd⟩ := id ht
  obtain ⟨⟨cls2, dd2, data2, sl2⟩, ho2, hc2, n2, hd2⟩ := id hb
  simp only at hc hd hc2 hd2
  subst hc hd hc2 hd2
  have e : vs.toArray ++ ws.toArray = (vs ++ ws).toArray := by simp
  by_cases hw : ws = []
  · exact concat_meets ⟨_, ho, rfl⟩ ⟨_, ho2, rfl⟩ noFill_tuple_add seq_tuple_add PySem.F.slot_tuple_add PySem.F.entry_tuple_add (PySem.F.args_tuple_add_2 _ _)
      (tuple_addW1 t b vs.toArray ws.toArray n n2 dd dd2 sl sl2 (by simpa using hv) (by simp [hw])) ⟨ho, ho2, h1 hw⟩
  · refine concat_meets ⟨_, ho, rfl⟩ ⟨_, ho2, rfl⟩ noFill_tuple_add seq_tuple_add PySem.F.slot_tuple_add PySem.F.entry_tuple_add (PySem.F.args_tuple_add_2 _ _)
      (tuple_addW2 t b vs.toArray ws.toArray n n2 dd dd2 sl sl2 (by simpa using hv) (by simpa using hw) (by rw [List.size_toArray, List.size_toArray]; exact hsz)) ⟨ho, ho2, ?_⟩
    rw [e]
    exact h2 hw

/-! ### t[a:b], not the whole -/
/-- a slice's bound as a place among n (d where it is left out) -/
def sIx (n d : Nat) : Option Int → Nat
  | none => d
  | some v => if v < 0 then (v + (n : Int)).toNat else min v.toNat n
theorem sIx_le (n d : Nat) (hd : d ≤ n) (o : Option Int) : sIx n d o ≤ n := by
  cases o with
  | none => exact hd
  | some v =>
    show (if v < 0 then (v + (n : Int)).toNat else min v.toNat n) ≤ n
    by_cases hv : v < 0
    · rw [if_pos hv]; omega
    · rw [if_neg hv]; exact Nat.min_le_right _ _
theorem clip_eq (v : Int) (n d : Nat) : (if v < 0 then max (v + (n : Int)) 0 else min v (n : Int)) = ((sIx n d (some v) : Nat) : Int) := by
  show (if v < 0 then max (v + (n : Int)) 0 else min v (n : Int)) = (((if v < 0 then (v + (n : Int)).toNat else min v.toNat n) : Nat) : Int)
  by_cases hv : v < 0
  · simp only [if_pos hv]; omega
  · simp only [if_neg hv]; omega
theorem adjust_gen (lo hi : Option Int) (n : Nat) : Builtin.Slice.sliceAdjust lo hi 1 (n : Int) = (((sIx n 0 lo : Nat) : Int), ((sIx n n hi : Nat) : Int)) := by
  have h1 : ¬ ((1 : Int) < 0) := by omega
  unfold Builtin.Slice.sliceAdjust
  simp only [h1, if_false]
  refine Prod.ext ?_ ?_
  · cases lo with
    | none => rfl
    | some v => exact clip_eq v n 0
  · cases hi with
    | none => rfl
    | some v => exact clip_eq v n n
theorem places_gen (i j : Nat) : Builtin.Slice.slicePlaces (i : Int) (j : Int) 1 = j - i := by
  unfold Builtin.Slice.slicePlaces
  have h1 : (1 : Int) > 0 := by omega
  simp only [h1, if_true, Int.ediv_one]
  split <;> omega
theorem slicePart_ {v : Value} {o : Option Int} {Q : Option Int → Shared → Prop} (p : IsPart v o) (h : Q o s) : wpAny (model prog w) A (Builtin.Slice.slicePartIndex v) Q E s := by
  cases p with
  | none => exact slicePart_none h
  | int i t => exact slicePart_int h
theorem sliceApplied_gen {sl : Addr} {vl vu : Value} {lo hi : Option Int} {n : Nat} {Q : Int × Int × Nat → Shared → Prop} (hs : s.heap.IsSliceOf sl vl vu .none) (pl : IsPart vl lo) (pu : IsPart vu hi)
    (h : Q (((sIx n 0 lo : Nat) : Int), 1, sIx n n hi - sIx n 0 lo) s) : wpAny (model prog w) A (Builtin.Slice.sliceApplied (.ref sl) (pure (n : Int))) Q E s := by
  obtain ⟨os, hos, hcs, hds⟩ := id hs
  unfold Builtin.Slice.sliceApplied Builtin.Slice.sliceFields
  refine wpAny_bind (wpAny_bind (wpAny_field hos hds (x := vl) rfl (wpAny_bind (wpAny_field hos hds (x := vu) rfl (wpAny_bind (wpAny_field hos hds (x := .none) rfl (wpAny_pure ?_)))))))
  refine wpAny_bind (slicePart_none ?_)
  show wpAny _ _ (if ((1 : Int) == 0) = true then _ else _) _ _ s
  rw [if_neg (by decide)]
  refine wpAny_bind (slicePart_ pl (wpAny_bind (slicePart_ pu (wpAny_bind (wpAny_pure ?_)))))
  show wpAny _ _ (match Builtin.Slice.sliceAdjust lo hi 1 (n : Int) with | (lo, hi) => pure (lo, (1 : Int), Builtin.Slice.slicePlaces lo hi 1)) _ _ s
  rw [adjust_gen lo hi n]
  show wpAny _ _ (pure (((sIx n 0 lo : Nat) : Int), (1 : Int), Builtin.Slice.slicePlaces ((sIx n 0 lo : Nat) : Int) ((sIx n n hi : Nat) : Int) 1)) _ _ s
  rw [places_gen]
  exact wpAny_pure h
theorem pick_gen (xs : Array Value) (i k : Nat) : ((List.range k).filterMap fun (m : Nat) => xs[((i : Int) + (m : Int) * 1).toNat]?).toArray = ((xs.toList.drop i).take k).toArray := by
  have e : (fun (m : Nat) => xs[((i : Int) + (m : Int) * 1).toNat]?) = fun m => xs[i + m]? := by
    funext m
    have : ((i : Int) + (m : Int) * 1).toNat = i + m := by omega
    rw [this]
  rw [e]
  have := pick_run xs i k
  rw [List.filterMap_map] at this
  have e2 : ((fun x => xs[x]?) ∘ fun x => i + x) = fun m => xs[i + m]? := rfl
  rw [e2] at this
  rw [this]

theorem getItem_tuple_cut {t sl : Addr} {items : Array Value} {vl vu : Value} {lo hi : Option Int} {Q : Value → Shared → Prop} (ht : IsTup s.heap t items) (hs : s.heap.IsSliceOf sl vl vu .none) (pl : IsPart vl lo) (pu : IsPart vu hi)
    (hw : ¬ (sIx items.size 0 lo = 0 ∧ sIx items.size items.size hi = items.size))
    (h : Q (.ref s.heap.objs.size) { s with heap := s.heap.push { cls := .type "tuple", data := .seq ((items.toList.drop (sIx items.size 0 lo)).take (sIx items.size items.size hi - sIx items.size 0 lo)).toArray } })
    (hsz : items.size ≤ sizeLine) : wpAny (model prog w) A (getItem (.ref t) (.ref sl)) Q E s := by
  have htake : sizeOk (.seq ((items.toList.drop (sIx items.size 0 lo)).take (sIx items.size items.size hi - sIx items.size 0 lo)).toArray) := by
    show ((items.toList.drop (sIx items.size 0 lo)).take (sIx items.size items.size hi - sIx items.size 0 lo)).toArray.size ≤ sizeLine
    rw [List.size_toArray, List.length_take, List.length_drop, Array.length_toList]
    omega
  have hj : sIx items.size items.size hi ≤ items.size := sIx_le _ _ (Nat.le_refl _) hi
  obtain ⟨os, hos, hcs, hds⟩ := id hs
  have hTs : s.TypeIs (.ref sl) "slice" := ⟨os, hos, hcs⟩
  unfold getItem
  try with_reducible refine wpAny_holding ?_
  first | refine wpAny_bind (wpAny_pure ?_) | skip
  refine wpAny_bind (wpAny_sequenceKey ht.typeIs (by decide) ?_)
  refine wpAny_bind (wpAny_callSpecial?_slot (name := Str.ofString "__getitem__") ht.typeIs PyProof.Rows.slot_tuple_getitem
    (wpAny_call_entry PyProof.Rows.slot_tuple_getitem ht.typeIs entry_tuple_getitem ?_ (args_tuple_getitem _ _)))
  show wpAny _ _ (Builtin.Tuple.tupleItemsOf (.ref t) >>= _) _ _ s
  refine wpAny_bind (tupleItemsOf_ ht ?_)
  refine wpAny_bind (wpAny_typeOf hTs ?_)
  rw [if_pos (by decide)]
  refine wpAny_bind (sliceApplied_gen hs pl pu ?_)
  have hno : ¬ ((((sIx items.size 0 lo : Nat) : Int) == 0 && (1 : Int) == 1 && (sIx items.size items.size hi - sIx items.size 0 lo) == items.size) = true) := by
    intro q
    rw [Bool.and_eq_true, Bool.and_eq_true] at q
    have q1 : ((sIx items.size 0 lo : Nat) : Int) = 0 := eq_of_beq q.1.1
    have q2 : sIx items.size items.size hi - sIx items.size 0 lo = items.size := eq_of_beq q.2
    exact hw ⟨by omega, by omega⟩
  show wpAny _ _ (if (((sIx items.size 0 lo : Nat) : Int) == 0 && (1 : Int) == 1 && (sIx items.size items.size hi - sIx items.size 0 lo) == items.size) = true then _ else _) _ _ s
  rw [if_neg hno, pick_gen]
  first
    | exact wpAny_bind (m := Builtin.Tuple.tupleExact _) (wpAny_newObj_type (wpAny_pure ⟨_, rfl, wpAny_pure h⟩) htake)
    | exact wpAny_bind (m := Builtin.Tuple.tupleExact _) (wpAny_newObj_type (wpAny_bind (wpAny_pure (wpAny_pure ⟨_, rfl, wpAny_pure h⟩))) htake)
    | exact wpAny_bind (wpAny_bind (m := Builtin.Tuple.tupleExact _) (wpAny_newObj_type (wpAny_pure (wpAny_pure ⟨_, rfl, wpAny_pure h⟩)) htake))
    | exact wpAny_bind (wpAny_bind (m := Builtin.Tuple.tupleExact _) (wpAny_newObj_type (wpAny_pure ⟨_, rfl, wpAny_pure h⟩) htake))
end
end HT

namespace L2
open PySem PySem.Spec PyProof.Rows

/-! ### the parts of a slice -/
abbrev TO := St → Hp → (Option Int → Hp → Prop) → Prop
/-- a slice's part (left out, or an int) -/
def PO (X : Cx) (e : Option Expr) (t : TO) : Prop :=
  ∀ (pins : List (Addr × Obj)) (s : Shared) (σ : St) (H : Hp) (Q : Option Int → Hp → Prop), Inv X pins σ H s → t σ H Q →
    wpAny (model X.prog X.w) X.A (evalPart e X.env) (fun u s' => ∃ o H', Inv X pins σ H' s' ∧ IsPart u o ∧ Q o H') X.xe s
def tNoPart : TO := fun _ H Q => Q none H
def tPart (t : TE) : TO := fun σ H Q => t σ H fun x H1 => ∃ i, x = .int i ∧ Q (some i) H1

section
variable {X : Cx} {e : Expr} {te : TE} {lo hi : Option Expr} {tl th : TO} {pos p2 : Pos}

theorem po_none : PO X none tNoPart := by
  intro pins s σ H Q I h
  rw [evalPart_none]
  exact wpAny_pure ⟨none, H, I, .none, h⟩
theorem po_some (h : PE X e te) : PO X (some e) (tPart te) := by
  intro pins s σ H Q I hw
  rw [evalPart_some]
  refine thn (h pins s σ H _ I hw) fun u s1 ⟨x, H1, I1, r1, q1⟩ => ?_
  obtain ⟨i, rfl, q⟩ := q1
  obtain ⟨t, rfl⟩ := r1
  exact ⟨some i, H1, I1, .int i t, q⟩

/-- what a slice of a value is, by values: the slice object stands at sl -/
def SlR (X : Cx) (r : V → Option Int → Option Int → Hp → VK → Prop) : Prop :=
  ∀ (pins : List (Addr × Obj)) (s : Shared) (σ : St) (H : Hp) (x : V) (v vl vu : Value) (lo hi : Option Int) (sl : Addr) (Q : VK), Inv X pins σ H s → RelV x v → s.heap.IsSliceOf sl vl vu .none → IsPart vl lo → IsPart vu hi → r x lo hi H Q →
    ∃ T id, typeLookup (.type T) "__getitem__" = pure (some (.builtin id)) ∧ s.TypeIs v T ∧ wpAny (model X.prog X.w) X.A (getItem v (.ref sl)) (EP X pins σ Q) X.xe s
theorem SlR.or {r r' : V → Option Int → Option Int → Hp → VK → Prop} (h : SlR X r) (h' : SlR X r') : SlR X (fun x lo hi H Q => r x lo hi H Q ∨ r' x lo hi H Q) := by
  intro pins s σ H x v vl vu lo hi sl Q I rx hs pl pu q
  rcases q with q | q
  · exact h pins s σ H x v vl vu lo hi sl Q I rx hs pl pu q
  · exact h' pins s σ H x v vl vu lo hi sl Q I rx hs pl pu q
def tSl (r : V → Option Int → Option Int → Hp → VK → Prop) (te : TE) (tl th : TO) : TE := fun σ H Q => te σ H fun x H1 => tl σ H1 fun l H2 => th σ H2 fun u H3 => r x l u H3 Q
/-- a[lo:hi], any a -/
theorem pe_slice {r : V → Option Int → Option Int → Hp → VK → Prop} (hr : SlR X r) (he : PE X e te) (hl : PO X lo tl) (hu : PO X hi th) : PE X (.Subscript e (.Slice lo hi none p2) pos) (tSl r te tl th) := by
  intro pins s σ H Q I h
  refine Subscript_ (thn (he pins s σ H _ I h) fun v s1 ⟨x, H1, I1, r1, q1⟩ => ?_)
  refine wpAny_Slice (thn (hl pins s1 σ H1 _ I1 q1) fun vl s2 ⟨l, H2, I2, pl, q2⟩ => thn (hu pins s2 σ H2 _ I2 q2) fun vu s3 ⟨u, H3, I3, pu, q3⟩ => ?_)
  rw [evalPart_none]
  refine wpAny_pure ?_
  have I4 : Inv X pins σ H3 { s3 with heap := s3.heap.push { cls := .type "slice", data := .fields #[vl, vu, .none] } } := I3.kept (t' := s3.toks) fun b ob q => Heap.get?_push_of_some _ q
  obtain ⟨T, id, hT, ht, hg⟩ := hr pins { s3 with heap := s3.heap.push { cls := .type "slice", data := .fields #[vl, vu, .none] } } σ H3 x v vl vu l u s3.heap.objs.size Q I4 r1 (Heap.IsSliceOf.new ..) pl pu q3
  show wpAny (model X.prog X.w) X.A (subscriptTail e (.Slice lo hi none p2) v (.ref s3.heap.objs.size)) (EP X pins σ Q) X.xe { s3 with heap := s3.heap.push { cls := .type "slice", data := .fields #[vl, vu, .none] } }
  exact tail_any (ops := [.ref s3.heap.objs.size, v]) ht hT hg (by with_unfolding_all rfl)

/-- the items of xs[lo:hi] -/
def cutV (xs : List V) (lo hi : Option Int) : List V := (xs.drop (HT.sIx xs.length 0 lo)).take (HT.sIx xs.length xs.length hi - HT.sIx xs.length 0 lo)
theorem cutV_length (xs : List V) (lo hi : Option Int) : (cutV xs lo hi).length ≤ xs.length := by
  unfold cutV
  rw [List.length_take, List.length_drop]
  omega
/-- t[lo:hi], not the whole of it (the whole would be t itself) -/
def rSlT (K : PySem.W.Frag) : V → Option Int → Option Int → Hp → VK → Prop := fun x lo hi H Q => ∃ a xs, x = .ref a ∧ SqT K H a xs ∧
  ¬ (HT.sIx xs.length 0 lo = 0 ∧ HT.sIx xs.length xs.length hi = xs.length) ∧ ∀ p, H p = none → Q (.ref p) (upd H p (.tup (cutV xs lo hi)))
theorem sl_tup : SlR X (rSlT X.K) := by
  intro pins s σ H x v vl vu lo hi sl Q I rx hs pl pu h
  obtain ⟨a, xs, rfl, hx, hw, q⟩ := h
  cases rx
  obtain ⟨its, r, ht, hz⟩ := I.tuple hx
  have hlen : its.toArray.size = xs.length := by rw [List.size_toArray]; exact r.length.symm
  refine ⟨"tuple", _, PyProof.Rows.slot_tuple_getitem.lookup, ht.typeIs, ?_⟩
  refine HT.getItem_tuple_cut ht hs pl pu (by rw [hlen]; exact hw) ?_ (by rw [hlen]; exact hz)
  rw [hlen]
  refine ⟨.ref s.heap.objs.size, _, I.laid (t' := s.toks) (o := .tup (cutV xs lo hi)) (fun b ob q => Heap.get?_push_of_some _ q) (Nat.le_refl _) ?_, rfl, q _ (I.hok.fresh (Nat.le_refl _))⟩
  exact ⟨Nat.le_trans (cutV_length xs lo hi) hz, _, (r.drop (HT.sIx xs.length 0 lo)).take (HT.sIx xs.length xs.length hi - HT.sIx xs.length 0 lo), IsTup.new _ _⟩

/-! ### t < u, t + u -/
/-- t + u, t not empty: u empty gives t itself -/
def rCatT (K : PySem.W.Frag) : R2 := fun x y H Q => ∃ a b xs ys, x = .ref a ∧ y = .ref b ∧ SqT K H a xs ∧ SqT K H b ys ∧ xs ≠ [] ∧ xs.length + ys.length ≤ sizeLine ∧
  (ys = [] → Q (.ref a) H) ∧ (ys ≠ [] → ∀ p, H p = none → Q (.ref p) (upd H p (.tup (xs ++ ys))))
theorem Vals.nil_iff {xs : List V} {us : List Value} (r : Vals xs us) : us = [] ↔ xs = [] := by
  cases r with
  | nil => simp
  | cons _ _ => simp
theorem op_catT : OpR X (binaryOp .Add) (rCatT X.K) := by
  intro pins s σ H x y v u Q I rx ry h
  obtain ⟨a, b, xs, ys, rfl, rfl, ha, hb, hx, hz, q1, q2⟩ := h
  cases rx
  cases ry
  obtain ⟨its, r1, p1, _⟩ := I.tuple ha
  obtain ⟨its2, r2, p2, _⟩ := I.tuple hb
  refine HT.cat_tup p1 p2 (fun z => hx (r1.nil_iff.mp z)) (fun z => ⟨.ref a, H, I, rfl, q1 (r2.nil_iff.mp z)⟩) (fun z => ?_) (by rw [← r1.length, ← r2.length]; exact hz)
  refine ⟨.ref s.heap.objs.size, _, I.laid (t' := s.toks) (o := .tup (xs ++ ys)) (fun b ob q => Heap.get?_push_of_some _ q) (Nat.le_refl _) ?_, rfl, q2 (fun w => z (r2.nil_iff.mpr w)) _ (I.hok.fresh (Nat.le_refl _))⟩
  exact ⟨by rw [List.length_append]; exact hz, _, r1.append r2, IsTup.new _ _⟩
end
end L2

namespace L2
open PySem PySem.Spec PyProof.Rows

/-! ### places -/
/-- the place that an index of any sign means -/
def ixN (n : Nat) (i : Int) : Option Nat := if 0 ≤ i then (if i < n then some i.toNat else none) else if -(n : Int) ≤ i then some (i + n).toNat else none
def atI {α : Type} (xs : List α) (i : Int) : Option α := (ixN xs.length i).bind fun j => xs[j]?
theorem ixN_seq {n : Nat} {i : Int} {j : Nat} (h : ixN n i = some j) : seqIndex? i n = some j ∧ j < n ∧ -(n : Int) ≤ i ∧ i < n := by
  unfold ixN at h
  by_cases h0 : 0 ≤ i
  · rw [if_pos h0] at h
    by_cases h1 : i < n
    · rw [if_pos h1] at h
      have e : i.toNat = j := Option.some.inj h
      exact ⟨by rw [seqIndex_of h0 h1, e], by omega, by omega, h1⟩
    · rw [if_neg h1] at h; cases h
  · rw [if_neg h0] at h
    by_cases h1 : -(n : Int) ≤ i
    · rw [if_pos h1] at h
      have e : (i + n).toNat = j := Option.some.inj h
      exact ⟨by rw [seqIndex_neg (by omega) h1, e], by omega, h1, by omega⟩
    · rw [if_neg h1] at h; cases h
theorem atI_get {α : Type} {xs : List α} {i : Int} {v : α} (h : atI xs i = some v) : ∃ j, seqIndex? i xs.length = some j ∧ xs[j]? = some v ∧ j < xs.length ∧ -(xs.length : Int) ≤ i ∧ i < xs.length := by
  unfold atI at h
  cases e : ixN xs.length i with
  | none => rw [e] at h; cases h
  | some j =>
    rw [e] at h
    obtain ⟨h1, h2, h3, h4⟩ := ixN_seq e
    exact ⟨j, h1, h, h2, h3, h4⟩

/-! ### what may be subscripted -/
/-- what stands as an index of a plain subscript -/
def PlainIx (b : Expr) : Prop := ∀ o i, subscripted b false o i = operate [o, i] (getItem o i)
/-- a subscript by values -/
def IxR (X : Cx) (r : R2) : Prop :=
  ∀ (value slice : Expr) (pins : List (Addr × Obj)) (s : Shared) (σ : St) (H : Hp) (x y : V) (v u : Value) (Q : VK), Inv X pins σ H s → RelV x v → RelV y u → r x y H Q →
    subscripted slice false v u = operate [v, u] (getItem v u) → wpAny (model X.prog X.w) X.A (subscriptTail value slice v u) (EP X pins σ Q) X.xe s
/-- a call of a builtin's method by values: the receiver, the arguments -/
def MtR (X : Cx) (id : String) (r : V → List V → Hp → VK → Prop) : Prop :=
  ∀ (pins : List (Addr × Obj)) (s : Shared) (σ : St) (H : Hp) (x : V) (xs : List V) (v : Value) (us : List Value) (Q : VK), Inv X pins σ H s → RelV x v → Vals xs us → r x xs H Q →
    wpAny (model X.prog X.w) X.A (call (.builtin id) (v :: us)) (EP X pins σ Q) X.xe s
section
variable {X : Cx} {a b : Expr} {ta tb : TE} {pos : Pos}
theorem IxR.or {r r' : R2} (h : IxR X r) (h' : IxR X r') : IxR X (fun x y H Q => r x y H Q ∨ r' x y H Q) := by
  intro value slice pins s σ H x y v u Q I rx ry q hs
  rcases q with q | q
  · exact h value slice pins s σ H x y v u Q I rx ry q hs
  · exact h' value slice pins s σ H x y v u Q I rx ry q hs
theorem MtR.or {id : String} {r r' : V → List V → Hp → VK → Prop} (h : MtR X id r) (h' : MtR X id r') : MtR X id (fun x xs H Q => r x xs H Q ∨ r' x xs H Q) := by
  intro pins s σ H x xs v us Q I rx rs q
  rcases q with q | q
  · exact h pins s σ H x xs v us Q I rx rs q
  · exact h' pins s σ H x xs v us Q I rx rs q
/-- a[b] -/
theorem pe_ix {r : R2} (hr : IxR X r) (ha : PE X a ta) (hb : PE X b tb) (hs : PlainIx b) : PE X (.Subscript a b pos) (tOp r ta tb) := by
  intro pins s σ H Q I h
  exact Subscript_ (binT ha hb I h fun v u s2 x y H2 I2 rx ry q => hr a b pins s2 σ H2 x y v u Q I2 rx ry q (hs _ _))

def rIxL (K : PySem.W.Frag) : R2 := fun x y H Q => ∃ p xs i v, x = .ref p ∧ y = .int i ∧ SqL K H p xs ∧ atI xs i = some v ∧ Q v H
def rIxT (K : PySem.W.Frag) : R2 := fun x y H Q => ∃ p xs i v, x = .ref p ∧ y = .int i ∧ SqT K H p xs ∧ atI xs i = some v ∧ Q v H
def rIxS : R2 := fun x y H Q => ∃ z i c, x = .str z ∧ y = .int i ∧ z.length ≤ sizeLine ∧ atI z.cps.toList i = some c ∧ Q (.str ⟨#[c]⟩) H
theorem ix_list : IxR X (rIxL X.K) := by
  intro value slice pins s σ H x y v u Q I rx ry h hs
  obtain ⟨p, xs, i, z, rfl, rfl, hq, he, q⟩ := h
  cases rx
  obtain ⟨t, rfl⟩ := ry
  obtain ⟨its, r, pl, hz⟩ := I.list hq
  obtain ⟨j, h1, h2, h3, h4, h5⟩ := atI_get he
  obtain ⟨w, ew, rw'⟩ := r.get h2
  have hl := r.length
  have hn := line63
  have fin : EP X pins σ Q w s := ⟨z, H, I, rw', q⟩
  by_cases h0 : 0 ≤ i
  · have hj : i.toNat = j := by
      rw [seqIndex_of h0 h5] at h1
      exact Option.some.inj h1
    exact item_listR pl.isList h0 (by omega) (by rw [hj]; simpa using ew) fin hs
  · have hj : (i + (its.toArray.size : Int)).toNat = j := by
      rw [seqIndex_neg (by omega) h4] at h1
      rw [List.size_toArray, ← hl]
      exact Option.some.inj h1
    exact subscriptTail_builtinR (x := w) pl.isList.typeIs slot_list_getitem.lookup
      (wpAny_getItem_list_neg (Q := fun r s' => r = w ∧ EP X pins σ Q r s') pl.isList (by omega) (by rw [List.size_toArray] <;> omega) (by omega) (by rw [hj]; simpa using ew) ⟨rfl, fin⟩) hs
theorem ix_tup : IxR X (rIxT X.K) := by
  intro value slice pins s σ H x y v u Q I rx ry h hs
  obtain ⟨p, xs, i, z, rfl, rfl, hq, he, q⟩ := h
  cases rx
  obtain ⟨t, rfl⟩ := ry
  obtain ⟨its, r, pl, hz⟩ := I.tuple hq
  obtain ⟨j, h1, h2, h3, h4, h5⟩ := atI_get he
  obtain ⟨w, ew, rw'⟩ := r.get h2
  have hl := r.length
  have hn := line63
  have fin : EP X pins σ Q w s := ⟨z, H, I, rw', q⟩
  exact subscriptTail_builtinR (x := w) pl.typeIs slot_tuple_getitem.lookup
    (getItem_tuple (j := j) (Q := fun r s' => r = w ∧ EP X pins σ Q r s') pl (by omega) (by omega) (by rw [List.size_toArray, ← hl]; exact h1) (by simpa using ew) ⟨rfl, fin⟩) hs
theorem ix_str : IxR X rIxS := by
  intro value slice pins s σ H x y v u Q I rx ry h hs
  obtain ⟨z, i, c, rfl, rfl, hz, he, q⟩ := h
  obtain ⟨t, rfl⟩ := rx
  obtain ⟨t', rfl⟩ := ry
  obtain ⟨j, h1, h2, h3, h4, h5⟩ := atI_get he
  have hl : z.cps.toList.length = z.length := by simp [Str.length]
  rw [hl] at h1 h4 h5
  have hn := line63
  exact tail_any (typeIs_str s z t) slot_str_getitem.lookup (getItem_str (c := c) (by
    have e1 : decide (i < -(2 ^ 63 : Int)) = false := decide_eq_false (by omega)
    have e2 : decide (i ≥ 2 ^ 63) = false := decide_eq_false (by omega)
    rw [e1, e2, Bool.or_false]) (by rw [h1]; simpa using h2) ⟨.str ⟨#[c]⟩, H, I.tok _, ⟨_, rfl⟩, q⟩) hs
/-- list, tuple or str -/
def rIx (K : PySem.W.Frag) : R2 := fun x y H Q => rIxL K x y H Q ∨ rIxT K x y H Q ∨ rIxS x y H Q
theorem ix_seq : IxR X (rIx X.K) := ix_list.or (ix_tup.or ix_str)

/-! ### xs[i] = v, any sign -/
/-- the list's object behind a store -/
theorem mapSeq_set (its : List Value) (n j : Nat) (u : Value) : Obj.mapSeq (·.setIfInBounds j u) { cls := .type "list", data := .seq its.toArray n } = { cls := .type "list", data := .seq (its.set j u).toArray n } := by
  simp [Obj.mapSeq]
theorem Inv.lst {pins : List (Addr × Obj)} {σ : St} {H : Hp} {s : Shared} {p : Addr} {xs : List V} (I : Inv X pins σ H s) (h : H p = some (.lst xs)) :
    ∃ (its : List Value) (n : Nat), Vals xs its ∧ s.heap.get? p = some { cls := .type "list", data := .seq its.toArray n } ∧ xs.length ≤ sizeLine := by
  obtain ⟨z, its, n, r, e⟩ := I.hok p _ h
  exact ⟨its, n, r, e, z⟩
/-- the list at p is written by an update of its object -/
theorem Inv.lstUpd {pins : List (Addr × Obj)} {σ : St} {H : Hp} {s : Shared} {p : Addr} {xs ys : List V} {its its' : List Value} {n n' : Nat} {f : Obj → Obj} (I : Inv X pins σ H s) (h : H p = some (.lst xs))
    (ho : s.heap.get? p = some { cls := .type "list", data := .seq its.toArray n }) (hf : f { cls := .type "list", data := .seq its.toArray n } = { cls := .type "list", data := .seq its'.toArray n' }) (r : Vals ys its') (hz : ys.length ≤ sizeLine) (t : Nat) :
    Inv X pins σ (upd H p (.lst ys)) { s with heap := s.heap.update p f, toks := t } := by
  have e : (s.heap.update p f).get? p = some { cls := .type "list", data := .seq its'.toArray n' } := by
    rw [Heap.get?_update_self f ho (by rw [hf] <;> rfl), hf]
  refine I.write (x := p) (e := p) (by rw [h]; trivial) (.inl rfl) (fun b u hb q => (Heap.get?_update_other _ _ (Ne.symm hb)).trans q) ⟨_, e⟩ ?_
  exact ⟨hz, its', n', r, e⟩
def rSetL : V → V → V → Hp → (Hp → Prop) → Prop := fun o i v H Q => ∃ p xs k j, o = .ref p ∧ i = .int k ∧ H p = some (.lst xs) ∧ ixN xs.length k = some j ∧ Q (upd H p (.lst (xs.set j v)))
theorem set_list : PSet X rSetL := by
  intro pins s σ H o i v ov iv u Q I ro ri rv h
  obtain ⟨p, xs, k, j, rfl, rfl, hp, hj, q⟩ := h
  cases ro
  obtain ⟨t, rfl⟩ := ri
  obtain ⟨its, n, r, ho, hz⟩ := I.lst hp
  obtain ⟨h1, h2, h3, h4⟩ := ixN_seq hj
  have hl := r.length
  have hn := line63
  have I' : Inv X pins σ (upd H p (.lst (xs.set j v))) { s with heap := s.heap.update p (Obj.mapSeq (·.setIfInBounds j u)) } :=
    I.lstUpd hp ho (mapSeq_set its n j u) (r.set rv j) (by rw [List.length_set]; exact hz) s.toks
  by_cases h0 : 0 ≤ k
  · have hk : k.toNat = j := by
      rw [seqIndex_of h0 h4] at h1
      exact Option.some.inj h1
    exact PySem.W.ki_setAt ho h0 (by omega) (by rw [List.size_toArray, ← hl]; exact h4) (by rw [hk]; exact ⟨_, I', q⟩)
  · have hk : (k + (its.toArray.size : Int)).toNat = j := by
      rw [seqIndex_neg (by omega) h3] at h1
      rw [List.size_toArray, ← hl]
      exact Option.some.inj h1
    exact PySem.W.ki_setBack ho (by omega) (by rw [List.size_toArray, ← hl]; exact h3) (by omega) (by rw [hk]; exact ⟨_, I', q⟩)

/-! ### slices -/
theorem slice_bounds (lo hi : Option Int) (n : Nat) : (sliceBounds lo hi none n).1 = ((HT.sIx n 0 lo : Nat) : Int) ∧ (sliceBounds lo hi none n).2.1 = ((HT.sIx n n hi : Nat) : Int) ∧ (sliceBounds lo hi none n).2.2 = 1 := by
  refine ⟨?_, ?_, rfl⟩
  · cases lo with
    | none => simp [sliceBounds, HT.sIx]
    | some i =>
      simp only [sliceBounds, HT.sIx, Option.getD_none, show (1 : Int) > 0 by decide, if_true]
      by_cases h : i < 0
      · simp only [h, if_true] <;> omega
      · simp only [h, if_false] <;> omega
  · cases hi with
    | none => simp [sliceBounds, HT.sIx]
    | some i =>
      simp only [sliceBounds, HT.sIx, Option.getD_none, show (1 : Int) > 0 by decide, if_true]
      by_cases h : i < 0
      · simp only [h, if_true] <;> omega
      · simp only [h, if_false] <;> omega
theorem slicePick_cut (its : List Value) (lo hi : Option Int) : slicePick its.toArray lo hi none = ((its.drop (HT.sIx its.length 0 lo)).take (HT.sIx its.length its.length hi - HT.sIx its.length 0 lo)).toArray := by
  obtain ⟨h1, h2, h3⟩ := slice_bounds lo hi its.toArray.size
  unfold slicePick
  rw [h1, h2, h3]
  simp only [sliceRange_one, pick_run, List.size_toArray] <;> rfl
/-- xs[lo:hi] of a list: a new list -/
def rSlL (K : PySem.W.Frag) : V → Option Int → Option Int → Hp → VK → Prop := fun x lo hi H Q => ∃ a xs, x = .ref a ∧ SqL K H a xs ∧ ∀ p, H p = none → Q (.ref p) (upd H p (.lst (cutV xs lo hi)))
theorem sl_list : SlR X (rSlL X.K) := by
  intro pins s σ H x v vl vu lo hi sl Q I rx hs pl pu h
  obtain ⟨a, xs, rfl, hx, q⟩ := h
  cases rx
  obtain ⟨its, r, ht, hz⟩ := I.list hx
  have hlen := r.length
  refine ⟨"list", _, slot_list_getitem.lookup, ht.isList.typeIs, ?_⟩
  refine wpAny_getItem_list_slice ht.isList hs pl pu .none (by simp) ?_ (by rw [List.size_toArray] <;> omega)
  rw [slicePick_cut, ← hlen]
  refine ⟨.ref s.heap.objs.size, _, I.laid (t' := s.toks) (o := .lst (cutV xs lo hi)) (fun b ob q => Heap.get?_push_of_some _ q) (Nat.le_refl _) ?_, rfl, q _ (I.hok.fresh (Nat.le_refl _))⟩
  exact ⟨Nat.le_trans (cutV_length xs lo hi) hz, _, 0, (r.drop (HT.sIx xs.length 0 lo)).take (HT.sIx xs.length xs.length hi - HT.sIx xs.length 0 lo), Heap.get?_push_size _ rfl⟩

/-! ### in, not in: flat items -/

/-! ### len, list(x), tuple(x) of any list or tuple that is read -/
theorem call_len_seq : CallR X (.builtin "len") (fun xs H Q => ∃ p ys, xs = [.ref p] ∧ (SqL X.K H p ys ∨ SqT X.K H p ys) ∧ Q (.int ys.length) H) := by
  intro pins s σ H xs us Q I r h
  obtain ⟨p, ys, rfl, hq, q⟩ := h
  obtain ⟨u, rfl, rx⟩ := vals1 r
  cases rx
  have hn := line63
  rcases hq with hq | hq
  · obtain ⟨its, r', pl, hz⟩ := I.list hq
    have hlen := r'.length
    exact Calls.call_len_list pl.isList (by simp only [List.size_toArray] <;> omega) ⟨.int ys.length, H, I.tok _, ⟨s.toks + 1, by rw [List.size_toArray, hlen]⟩, q⟩
  · obtain ⟨its, r', pl, hz⟩ := I.tuple hq
    have hlen := r'.length
    exact len_tuple pl (by simp only [List.size_toArray] <;> omega) ⟨.int ys.length, H, I.tok _, ⟨s.toks + 1, by rw [List.size_toArray, hlen]⟩, q⟩
theorem call_len_str : CallR X (.builtin "len") (fun xs H Q => ∃ z, xs = [.str z] ∧ z.length ≤ sizeLine ∧ Q (.int z.length) H) := by
  intro pins s σ H xs us Q I r h
  obtain ⟨z, rfl, hz, q⟩ := h
  obtain ⟨u, rfl, t, rfl⟩ := vals1 r
  have hn := line63
  exact len_str (by omega) ⟨.int z.length, H, I.tok _, ⟨_, rfl⟩, q⟩
theorem CallR.or {f : Value} {r r' : List V → Hp → VK → Prop} (h : CallR X f r) (h' : CallR X f r') : CallR X f (fun xs H Q => r xs H Q ∨ r' xs H Q) := by
  intro pins s σ H xs us Q I rs q
  rcases q with q | q
  · exact h pins s σ H xs us Q I rs q
  · exact h' pins s σ H xs us Q I rs q
theorem call_list_of : CallR X (.type "list") (fun xs H Q => ∃ p ys, xs = [.ref p] ∧ (SqL X.K H p ys ∨ SqT X.K H p ys) ∧ ∀ l, H l = none → Q (.ref l) (upd H l (.lst ys))) := by
  intro pins s σ H xs us Q I r h
  obtain ⟨p, ys, rfl, hq, q⟩ := h
  obtain ⟨u, rfl, rx⟩ := vals1 r
  cases rx
  have fin : ∀ (its : List Value), Vals ys its → ys.length ≤ sizeLine → ∀ (h' : Heap) (c' : Nat), (∀ b o', s.heap.get? b = some o' → h'.get? b = some o') →
      h'.get? s.heap.objs.size = some { cls := .type "list", dict := none, data := .seq its.toArray c', slots := #[] } → EP X pins σ Q (.ref s.heap.objs.size) { s with heap := h' } := fun its r' hz h' c' kp e =>
    ⟨.ref s.heap.objs.size, _, I.laid (t' := s.toks) kp (Nat.le_refl _) (show ObjOk X.prog X.w _ h' _ (.lst ys) from ⟨hz, its, c', r', e⟩), rfl, q _ (I.hok.fresh (Nat.le_refl _))⟩
  rcases hq with hq | hq
  · obtain ⟨its, r', pl, hz⟩ := I.list hq
    have hlen := r'.length
    obtain ⟨o, ho, hc, n, hd⟩ := pl.isList
    exact call_list_seq p (.inl rfl) ho hc hd (fun h' c' kp e => fin its r' hz h' c' kp e) (by simp only [List.size_toArray] <;> omega)
  · obtain ⟨its, r', pl, hz⟩ := I.tuple hq
    have hlen := r'.length
    obtain ⟨o, ho, hc, n, hd⟩ := pl
    exact call_list_seq p (.inr rfl) ho hc hd (fun h' c' kp e => fin its r' hz h' c' kp e) (by simp only [List.size_toArray] <;> omega)
theorem call_tuple_of : CallR X (.type "tuple") (fun xs H Q => ∃ p ys, xs = [.ref p] ∧ ((SqL X.K H p ys ∧ ∀ l, H l = none → Q (.ref l) (upd H l (.tup ys))) ∨ (SqT X.K H p ys ∧ Q (.ref p) H))) := by
  intro pins s σ H xs us Q I r h
  obtain ⟨p, ys, rfl, h⟩ := h
  obtain ⟨u, rfl, rx⟩ := vals1 r
  cases rx
  rcases h with ⟨hq, q⟩ | ⟨hq, q⟩
  · obtain ⟨its, r', pl, hz⟩ := I.list hq
    have hlen := r'.length
    refine call_tuple_list pl.isList (fun h' kp => ?_) (by simp only [List.size_toArray] <;> omega)
    have I1 : Inv X pins σ H { s with heap := h' } := I.kept (t' := s.toks) kp
    have I2 : Inv X pins σ (upd H h'.objs.size (.tup ys)) { s with heap := h'.push { cls := .type "tuple", data := .seq its.toArray } } :=
      I1.laid (t' := s.toks) (fun b o e => Heap.get?_push_of_some _ e) (Nat.le_refl _) (show ObjOk X.prog X.w _ _ _ (.tup ys) from ⟨hz, its, r', IsTup.new _ _⟩)
    exact ⟨.ref h'.objs.size, _, I2, rfl, q _ (I1.hok.fresh (Nat.le_refl _))⟩
  · obtain ⟨its, r', pl, hz⟩ := I.tuple hq
    exact call_tuple_same pl ⟨.ref p, H, I, rfl, q⟩

/-! ### the call of a builtin's method: o.m(..) -/
/-- the value is of that builtin type -/
def tyV (K : PySem.W.Frag) (T : String) (x : V) (H : Hp) : Prop := match x with
  | .str _ => T = "str"
  | .int _ => T = "int"
  | .ref p => (T = "list" ∧ ∃ xs, SqL K H p xs) ∨ (T = "tuple" ∧ ∃ o, K.lookup p = some o ∧ o.cls = .type "tuple" ∧ o.dict = none) ∨
      (T = "dict" ∧ ((∃ kvs, H p = some (.dK kvs)) ∨ ∃ kvs, H p = some (.dT kvs))) ∨ (T = "set" ∧ ∃ S n, H p = some (.set S n))
  | _ => False
theorem tyV_is {pins : List (Addr × Obj)} {σ : St} {H : Hp} {s : Shared} {T : String} {x : V} {v : Value} (I : Inv X pins σ H s) (r : RelV x v) (ty : tyV X.K T x H) :
    s.TypeIs v T ∧ ∀ a, v = .ref a → ∃ ob, s.heap.get? a = some ob ∧ ob.dict = none := by
  cases x with
  | str z =>
    obtain ⟨t, rfl⟩ := r
    cases (show T = "str" from ty)
    exact ⟨typeIs_str s z t, fun _ e => nomatch e⟩
  | int i =>
    obtain ⟨t, rfl⟩ := r
    cases (show T = "int" from ty)
    exact ⟨typeIs_int s i t, fun _ e => nomatch e⟩
  | ref p =>
    cases r
    rcases ty with ⟨rfl, xs, hq⟩ | ⟨rfl, o, hk, hc, hd⟩ | ⟨rfl, hk⟩ | ⟨rfl, S, n, hk⟩
    · obtain ⟨its, _, pl, _⟩ := I.list hq
      refine ⟨pl.isList.typeIs, fun a e => ?_⟩
      cases e
      obtain ⟨o, n, e, c, hd, _⟩ := pl
      exact ⟨o, e, hd⟩
    · refine ⟨⟨o, I.kIn p o hk, hc⟩, fun a e => ?_⟩
      cases e
      exact ⟨o, I.kIn _ o hk, hd⟩
    · have z : ∃ o, s.heap.get? p = some o ∧ o.ExactDict := by
        rcases hk with ⟨kvs, hk⟩ | ⟨kvs, hk⟩
        · obtain ⟨_, _, _, _, o, _, _, e, ex, _⟩ := I.hok p _ hk
          exact ⟨o, e, ex⟩
        · obtain ⟨_, _, _, _, o, _, _, e, ex, _⟩ := I.hok p _ hk
          exact ⟨o, e, ex⟩
      obtain ⟨o, e, ex⟩ := z
      refine ⟨⟨o, e, ex.1⟩, fun a e2 => ?_⟩
      cases e2
      exact ⟨o, e, ex.2.1⟩
    · obtain ⟨o, _, _, _, e, ex, _⟩ := I.hok p _ hk
      refine ⟨⟨o, e, ex.1⟩, fun a e2 => ?_⟩
      cases e2
      exact ⟨o, e, ex.2.1⟩
  | _ => exact False.elim ty
def tBM (K : PySem.W.Frag) (T : String) (r : V → List V → Hp → VK → Prop) (to : TE) (t : TA) : TE := fun σ H Q => to σ H fun x H1 => tyV K T x H1 ∧ t σ H1 fun xs H2 => r x xs H2 Q
variable {o e : Expr} {es : List Expr} {to : TE} {t : TA} {name : Str} {apos cpos : Pos} {T id : String} {r : V → List V → Hp → VK → Prop}
theorem pe_bm (pa : PlainAttrs T) (slot : Slot T name id) (hty : typeOf (.builtin id) = pure (.type "method_descriptor")) (hm : MtR X id r) (ho : PE X o to) (ha : PA X (e :: es) t)
    (hbase : attributeBase o name X.env (eval o X.env) = eval o X.env := by rfl)
    (hfew : ((backTo cpos (starEach (e :: es) X.env)).all (fun x => !x.1) && (backToKw cpos (keywordEach [] X.env)).all (fun x => x.1.isSome)
      && decide ((e :: es).length + ([] : List Keyword).length + (if ([] : List Keyword).isEmpty then 0 else 1) < 30)) = true := by rfl)
    (hline : (apos.endLine == cpos.line) = true := by rfl) (hs : starEach (e :: es) X.env = (false, eval e X.env) :: starEach es X.env := by rfl) (hplain : (backTo cpos (starEach es X.env)).any (·.1) = false := by rfl) :
    PE X (.Call (.Attribute o name apos) (e :: es) [] cpos) (tBM X.K T r to t) := by
  intro pins s σ H Q I h
  refine wpAny_Call_method_late hbase hfew hline rfl (thn (ho pins s σ H _ I h) fun v s1 ⟨x, H1, I1, r1, ty, q1⟩ => ?_)
  obtain ⟨h1, h2⟩ := tyV_is I1 r1 ty
  refine ⟨T, id, pa, slot, hty, h1, h2, ?_⟩
  have hA := ha cpos pins s1 σ H1 _ I1 q1
  rw [hs] at hA ⊢
  refine Calls.callWith_builtin (by show (false || (backTo cpos (starEach es X.env)).any (·.1)) = false; rw [hplain] <;> rfl) (Calls.evalArgs_plain ?_)
  exact thn hA fun us s2 ⟨vs, H2, I2, r2, q2⟩ => hm pins s2 σ H2 x vs v us Q I2 r1 r2 q2
/- xs.append(e), list.index on a module's tuple .. are MtR facts of 06m -/
end
end L2

namespace L2
open PySem PySem.Spec PyProof.Rows

def MtM (X : Cx) (id : String) (r : V → List V → Hp → VK → Prop) : Prop :=
  ∀ (pins : List (Addr × Obj)) (s : Shared) (σ : St) (H : Hp) (x : V) (xs : List V) (v : Value) (us : List Value) (Q : VK), Inv X pins σ H s → RelV x v → Vals xs us → r x xs H Q →
    wpAny (model X.prog X.w) X.A (call (.builtin id) (v :: us)) (EP X pins σ Q) X.xe s

/-! ### lists of values -/
theorem Vals.one : ∀ {x : V} {us : List Value}, Vals [x] us → ∃ u, us = [u] ∧ RelV x u
  | _, _, .cons r .nil => ⟨_, rfl, r⟩
theorem Vals.two : ∀ {x y : V} {us : List Value}, Vals [x, y] us → ∃ u v, us = [u, v] ∧ RelV x u ∧ RelV y v
  | _, _, _, .cons r (.cons q .nil) => ⟨_, _, rfl, r, q⟩
theorem Vals.zero : ∀ {us : List Value}, Vals [] us → us = []
  | _, .nil => rfl
theorem Vals.eraseIdx : ∀ {xs : List V} {us : List Value} (i : Nat), Vals xs us → Vals (xs.eraseIdx i) (us.eraseIdx i)
  | _, _, _, .nil => .nil
  | _, _, 0, .cons _ t => t
  | _, _, i + 1, .cons r t => .cons r (Vals.eraseIdx i t)
theorem Vals.reverse {xs : List V} {us : List Value} (h : Vals xs us) : Vals xs.reverse us.reverse := by
  induction h with
  | nil => exact .nil
  | cons r t ih => rw [List.reverse_cons, List.reverse_cons]; exact Vals.append ih (.cons r .nil)
theorem Vals.rep {xs : List V} {us : List Value} (h : Vals xs us) : ∀ k : Nat, Vals (List.replicate k xs).flatten (List.replicate k us).flatten
  | 0 => .nil
  | k + 1 => by
    rw [List.replicate_succ, List.replicate_succ, List.flatten_cons, List.flatten_cons]
    exact Vals.append h (Vals.rep h k)
theorem foldl_rep (its : List Value) : ∀ (k : Nat) (acc : List Value),
    List.foldl (fun x1 x2 => x1 ++ x2) acc.toArray (List.replicate k its.toArray) = (acc ++ (List.replicate k its).flatten).toArray
  | 0, acc => by simp
  | k + 1, acc => by
    have e : acc.toArray ++ its.toArray = (acc ++ its).toArray := by simp
    have e2 : (acc ++ its) ++ (List.replicate k its).flatten = acc ++ (List.replicate (k + 1) its).flatten := by
      rw [List.replicate_succ, List.flatten_cons, List.append_assoc]
    rw [← e2, ← foldl_rep its k (acc ++ its), ← e, List.replicate_succ, List.foldl_cons]

section
variable {X : Cx} {pins : List (Addr × Obj)} {σ : St} {H : Hp} {s : Shared} {l b : Addr} {xs ys zs : List V}

/-! ### the two steps: a tracked list is rewritten, a new list is laid -/
theorem Inv.lset {its its' : List Value} {n : Nat} {f : Array Value → Array Value} {t' : Nat} (I : Inv X pins σ H s) (hH : H l = some (.lst xs))
    (e : s.heap.get? l = some { cls := .type "list", data := .seq its.toArray n }) (hf : f its.toArray = its'.toArray) (hv : Vals ys its') (hz : ys.length ≤ sizeLine) :
    Inv X pins σ (upd H l (.lst ys)) { s with heap := s.heap.update l (Obj.mapSeq f), toks := t' } := by
  have q := PySem.IsL.update e f
  rw [hf] at q
  refine I.write (x := l) (e := l) (by rw [hH]; exact trivial) (.inl rfl) (fun b' u hb hu => (Heap.get?_update_other s.heap (Obj.mapSeq f) (Ne.symm hb)).trans hu) ⟨_, q⟩ ?_
  exact ⟨hz, its', _, hv, q⟩
theorem Inv.lnew {its : List Value} {t' : Nat} (I : Inv X pins σ H s) (hv : Vals ys its) (hz : ys.length ≤ sizeLine) :
    Inv X pins σ (upd H s.heap.objs.size (.lst ys)) { s with heap := s.heap.push { cls := .type "list", data := .seq its.toArray }, toks := t' } :=
  I.laid (fun _ _ q => Heap.get?_push_of_some _ q) (Nat.le_refl _) ⟨hz, its, 0, hv, Heap.get?_push_size _ rfl⟩
theorem Inv.fresh (I : Inv X pins σ H s) : H s.heap.objs.size = none := I.hok.fresh (Nat.le_refl _)
theorem Inv.lstM (I : Inv X pins σ H s) (hH : H l = some (.lst xs)) : xs.length ≤ sizeLine ∧ ∃ (its : List Value) (n : Nat), Vals xs its ∧ xs.length = its.length ∧ s.heap.get? l = some { cls := .type "list", data := .seq its.toArray n } := by
  obtain ⟨z, its, n, r, e⟩ := I.hok l _ hH
  exact ⟨z, its, n, r, r.length, e⟩

theorem notLongL {n : Nat} (h : n ≤ sizeLine) : Builtin.List.listTooLong n = false := by
  unfold Builtin.List.listTooLong
  exact decide_eq_false (by omega)
end

section
variable {X : Cx}

/-! ### methods -/
def rAppend : V → List V → Hp → VK → Prop := fun x vs H Q => ∃ l xs y, x = .ref l ∧ vs = [y] ∧ H l = some (.lst xs) ∧ xs.length < sizeLine ∧ Q .non (upd H l (.lst (xs ++ [y])))
theorem mt_append : MtM X "list.append" rAppend := by
  intro pins s σ H x vs v us Q I rx rv h
  obtain ⟨l, xs, y, rfl, rfl, hH, hz, q⟩ := h
  cases rx
  obtain ⟨u, rfl, ru⟩ := rv.one
  obtain ⟨z, its, n, r, hl, e⟩ := I.lstM hH
  refine call_meets F.slot_list_append ⟨_, e, rfl⟩ F.entry_list_append (F.args_list_append_2 _ _) (PySem.list_append l its.toArray n u (by rw [List.size_toArray]; omega)) ⟨e, ?_⟩
  refine ⟨.non, _, I.lset (its' := its ++ [u]) hH e (by simp) (r.append (.cons ru .nil)) ?_, rfl, q⟩
  rw [List.length_append, List.length_singleton]
  omega

/-! ### list + list, list += list, list * int -/
/-- a list times an int (a negative one is nothing) -/
def rRep : R2 := fun x y H Q => ∃ l k xs, x = .ref l ∧ y = .int k ∧ H l = some (.lst xs) ∧ -(2 ^ 63) ≤ k ∧ k < 2 ^ 63 ∧ xs.length * k.toNat ≤ sizeLine ∧
  ∀ p, H p = none → Q (.ref p) (upd H p (.lst (List.replicate k.toNat xs).flatten))
theorem len_rep {α : Type} (xs : List α) (k : Nat) : (List.replicate k xs).flatten.length = k * xs.length := by
  induction k with
  | zero => simp
  | succ k ih => rw [List.replicate_succ, List.flatten_cons, List.length_append, ih, Nat.succ_mul, Nat.add_comm]
theorem op_rep : OpR X (binaryOp .Mult) rRep := by
  intro pins s σ H x y v u Q I rx ry h
  obtain ⟨l, k, xs, rfl, rfl, hH, h1, h2, hz, q⟩ := h
  cases rx
  obtain ⟨t, rfl⟩ := ry
  obtain ⟨z, its, n, r, hl, e⟩ := I.lstM hH
  have hlen : its.toArray.size * k.toNat ≤ sizeLine := by rw [List.size_toArray, ← hl]; exact hz
  have hcap : ¬ its.toArray.size * k.toNat > (2 ^ 63 - 1) / 8 := by
    have : (sizeLine : Nat) ≤ (2 ^ 63 - 1) / 8 := by decide
    omega
  have hfit : ¬ (!Builtin.List.listFitsIndex k) = true := by
    rw [fitsIndex_both h1 h2]
    exact Bool.false_ne_true
  have hlong : ¬ Builtin.List.listTooLong (its.toArray.size * k.toNat) = true := by
    rw [notLongL hlen]
    exact Bool.false_ne_true
  have hnew : List.foldl (fun x1 x2 => x1 ++ x2) #[] (List.replicate (if its.toArray.isEmpty = true then 0 else k.toNat) its.toArray) = (List.replicate k.toNat its).flatten.toArray := by
    have f0 : ∀ m : Nat, List.foldl (fun x1 x2 => x1 ++ x2) #[] (List.replicate m its.toArray) = (List.replicate m its).flatten.toArray := fun m => by
      have := foldl_rep its m []
      rw [List.nil_append] at this
      exact this
    rw [f0]
    cases its with
    | nil => simp
    | cons a r' => rw [if_neg (by simp)]
  refine wpAny_binaryOp_repeat_ref (T := "list") (U := "int") (by decide) ⟨_, e, rfl⟩ (fun s' => typeIs_int s' k t) noFill_list_mul F.fills_int_mul F.slot_int_rmul repeat_list F.slot_int_index.lookup
    (call_meets F.slot_int_rmul (typeIs_int s k t) F.entry_int_rmul (F.args_int_rmul_2 _ _) (int___rmul___int_list k t l its.toArray n)
      ⟨e, rfl, ⟨_, e, rfl⟩, call_meets F.slot_list_mul ⟨_, e, rfl⟩ F.entry_list_mul (F.args_list_mul_2 _ _) (AutoListH.list___mul___list_int_3 l its.toArray n k t hfit hcap hlong) ⟨e, ?_⟩⟩)
  rw [hnew]
  exact ⟨.ref _, _, I.lnew (t' := s.toks) (r.rep k.toNat) (by rw [len_rep, Nat.mul_comm]; exact hz), rfl, q _ I.fresh⟩

/-! ### del xs[i] -/
end

/-! ### xs[a:b] = ys -/

end L2

namespace Att
open PySem PySem.W PySem.Calls PyProof.Rows

/-! ### the script -/
theorem ints_of_wellAll {P : Params} {h : Heap} : ∀ (ns : List Int) (vs : List Value), WellAll P h vs (ns.map WData.int) → IntsAre vs ns := by
  intro ns
  induction ns with
  | nil =>
    intro vs w
    rw [List.map_nil] at w
    cases w
    exact .nil
  | cons n ns ih =>
    intro vs w
    rw [List.map_cons] at w
    cases w with
    | cons a b =>
      cases a
      exact .cons _ _ (ih _ b)

theorem script_of {l : OpenLaw} {n : Nat} (hn : l.most = some n) {P : Params} {h : Heap} {args : List WData} {vals : List Value}
    (hpre : l.row.toRowW.claim.pre args = true) (hwl : WellAll P h vals args) :
    ∃ a vs ns, vals = [Value.ref a] ∧ args = [WData.list (ns.map WData.int)] ∧ h.get? a = some { cls := .type "list", data := .seq vs.toArray } ∧ IntsAre vs ns ∧ ns.length ≤ n := by
  have hsh : WShape.hasAll [] args [.list .int] = true := (pre_splitW hpre).1
  have hc : l.pre.holds [] { args := args } = true := (pre_splitW hpre).2
  obtain ⟨d, r, rfl, h1, h2⟩ := hasAllW_cons hsh
  obtain rfl := hasAllW_nil h2
  obtain ⟨xs, rfl, h3⟩ := hasW_list h1
  obtain ⟨ns, rfl⟩ := items_int h3
  have hlen : ns.length ≤ n := by
    unfold OpenLaw.pre at hc
    have h4 : (WTm.not (.lt (.lit (.int (n : Int))) (.len (.arg 0)))).holds [] { args := [.list (ns.map .int)] } = true := by
      have h4 := (holds_andW hc).1
      rw [hn] at h4
      exact h4
    have h5 := condW_of h4 (w_not (w_lt w_lit (w_len_list (w_arg rfl))))
    rw [List.length_map] at h5
    refine Nat.le_of_not_lt fun q => ?_
    have q' : (n : Int) < ((ns.length : Nat) : Int) := by omega
    first
      | (rw [decide_eq_true q'] at h5; exact absurd h5 (by decide))
      | (simp at h5; omega)
  cases hwl with
  | cons w1 w2 =>
    cases w2
    cases w1 with
    | list ho hall => exact ⟨_, _, ns, rfl, rfl, ho, ints_of_wellAll ns _ hall, hlen⟩

theorem post_true (l : OpenLaw) (args : List WData) : l.row.toRowW.claim.post args (.bool true) args = true :=
  postW_of (r := l.row.toRowW) (X := (true == true))
    (show WShape.has [] (.bool true) .bool = true by first | rfl | decide | simp [WShape.has, WShape.arms, WShape.armsAll])
    (show (WTm.eq .res (.lit (.bool true))).value [] { args := args, res := some (.bool true), after := args } = some (.bool (true == true)) from w_eq_bool (w_res rfl) w_lit) rfl

/-! ### the attachment: holds_open's last premise (the goal 'hc' behind k_head) from a wpAny of the law's body -/

/-- the same from a codeAny of the CALL (for a layer whose function contracts speak of calls) -/
theorem attach_call {l : OpenLaw} {n : Nat} {q : Program} {loose : List Str} {XP : (Str → Option Value) → Heap → Prop} {YP : World → Heap → Prop} {d : DefRec}
    (hn : l.most = some n) (hdf : d.params.defaults = [])
    (call : ∀ (w : World) (s₀ s₁ : Shared) (mg mb : Str → Option Value) (fa : Addr) (o : Obj) (pm cd doc : Value) (a : Addr) (vs : List Value) (ns : List Int),
      Ground q loose [] XP w s₀ mg mb s₁.heap → YP w s₁.heap →
      s₁.heap.get? fa = some o → o.data = .func (docDef d.name d.params d.body d.scope pm cd doc) → s₁.heap.CodeRec cd d.name → mg d.name = some (.ref fa) →
      s₁.heap.get? a = some { cls := .type "list", data := .seq vs.toArray } → IntsAre vs ns → ns.length ≤ n → s₁.gens = #[] →
      codeAny (model l.prog w) callerA (.call (.ref fa) ⟨[.ref a], []⟩) (fun r s' => r = .ok (.ret (.bool true)) ∧ OldK s₁.heap s'.heap ∧ s'.os = s₁.os ∧ AllBare s'.gens) s₁) :
    WalkO q loose XP YP l.row.toRowW d [] (fun f vs => PySem.call f vs) := by
  intro w s₀ s₁ mg mb G Y fa o pm cd doc dV kV ho hd hcd hD hmg hg args vals as hpre hlay hrd hwl hlo
  obtain rfl : dV = .none := Dflts.none hD hdf
  obtain rfl : kV = .none := Dflts.noKw hD
  obtain ⟨a, vs, ns, rfl, rfl, hobj, hints, hlen⟩ := script_of hn hpre hwl
  refine enter_call (codeAny_mono (call w s₀ s₁ mg mb fa o pm cd doc a vs ns G Y ho (fd_plain hd) hcd hmg hobj hints hlen hg) fun r s' hq => ?_)
  obtain ⟨rfl, h2, h3, h4⟩ := hq
  exact ⟨.inl ⟨.bool true, .bool true, [], rfl, fun _ => rfl, .bool true, post_true l _, fun _ => ⟨List.Pairwise.nil, fun _ hm => (nomatch hm)⟩⟩, h2, h3, h4⟩

/-! ### rules over ANY heap (no ledger) from facts about the written part K: the library's own take a ledger (News) for what they write -/
section
variable {prog : Program} {w : World} {A : Around} {E : Value → Shared → Prop} {s : Shared} {K : Frag}

/-! the whole heap as the ledger: makes every rule that writes through a ledger a rule over any heap -/
def ledger (h : Heap) (L d : Addr) : List (Addr × Obj) := (List.range h.objs.size).filterMap fun a => if a = L ∨ a = d then none else (h.get? a).map fun o => (a, o)

end
end Att

namespace L2
open PySem PySem.Spec PyProof.Rows

theorem vals_ints : ∀ {vs : List Value} {ns : List Int}, IntsAre vs ns → Vals (ns.map V.int) vs
  | _, _, .nil => .nil
  | _, _, .cons n t h => .cons ⟨t, rfl⟩ (vals_ints h)

/-- nothing is tracked but the script, known to the object (or it is an object of the module) -/
def Only (H : Hp) : Prop := ∀ b, H b = none ∨ ∃ o xs, H b = some (.frz o (.lst xs))

/-- THE HEAD: the law's promise, at the heap behind the top. F, the promise of the law's def, may use that base is part of the heap (so K.In base, base.Ns mainGlobals mg stand in Mod) -/
theorem law_call {P : Program} {w : World} {K : PySem.W.Frag} {mg mb : Str → Option Value} {CX : CXT} {k : Nat} {fa a : Addr} {fd : FuncData} {x : Str} {sp : Sp} {s₁ : Shared} {vs : List Value} {ns : List Int}
    (KX : K.In s₁.heap) (hns : s₁.heap.Ns mainGlobals mg) (hb : s₁.heap.Ns builtinsNs mb) (hbb : ∀ x : Str, x ≠ "__name__" → mb x = bootBuiltins x) (hlim : s₁.heap.NoLimit) (hg : s₁.gens = #[])
    (ha : s₁.heap.get? a = some { cls := .type "list", data := .seq vs.toArray }) (hi : IntsAre vs ns) (hl : ns.length ≤ sizeLine) (hr : Room k callerA)
    (F : ∀ base : Heap, K.In base → base.Ns mainGlobals mg → FnOk P w K mg base CX k fa fd [x] sp) (hbind : ∀ (s : Shared) (u : Value), BindsTo s fd ⟨[u], []⟩ [(x, u)])
    (hsp : ∀ H : Hp, Only H → SqL K H a (ns.map V.int) → sp [.ref a] H (fun v _ => v = .bl true) fun _ _ _ => False)
    (hCX : ∀ H e s', CX [] H s₁ (fun _ _ _ => False) e s' → False) :
    codeAny (model P w) callerA (.call (.ref fa) ⟨[.ref a], []⟩) (fun r s' => r = .ok (.ret (.bool true)) ∧ OldK s₁.heap s'.heap ∧ s'.os = s₁.os ∧ AllBare s'.gens) s₁ := by
  have rv := vals_ints hi
  have lenV := hi.length
  -- from an abstract heap in which nothing but the script may be tracked
  have core : ∀ H : Hp, Only H → SqL K H a (ns.map V.int) → HOk P w H s₁.heap → (∀ b, H b ≠ none → b = a) → (H a ≠ none → K.lookup a = none) →
      codeAny (model P w) callerA (.call (.ref fa) ⟨[.ref a], []⟩) (fun r s' => r = .ok (.ret (.bool true)) ∧ OldK s₁.heap s'.heap ∧ s'.os = s₁.os ∧ AllBare s'.gens) s₁ := by
    intro H hO hS hok hA hK
    have base_of : ∀ {b : Addr} {o : Obj}, s₁.heap.get? b = some o → H b = none → (hidT s₁.heap H).get? b = some o := fun e n => hidT_get e n
    have noA : ∀ {b : Addr} {o : Obj} {es : Array DictEntry} {ep : Nat}, s₁.heap.get? b = some o → o.data = .dict es ep → H b = none := fun {b o es ep} e d => by
      cases q : H b with
      | none => rfl
      | some u =>
        have e' : b = a := hA b (by rw [q]; simp)
        subst e'
        rw [ha] at e; cases e
        have d' : Data.seq vs.toArray _ = Data.dict es ep := d
        cases d'
    have nsK : ∀ {b : Addr} {m : Str → Option Value}, s₁.heap.Ns b m → (hidT s₁.heap H).Ns b m := fun {b m} ⟨o, es, ep, e, d, r⟩ => ⟨o, es, ep, base_of e (noA e d), d, r⟩
    have hKb : K.In (hidT s₁.heap H) := fun b o e => base_of (KX b o e) (by
      cases q : H b with
      | none => rfl
      | some u =>
        have e' : b = a := hA b (by rw [q]; simp)
        subst e'
        rw [hK (by rw [q]; simp)] at e; cases e)
    have hM : Mod K mg (hidT s₁.heap H) := ⟨hKb, nsK hns, ⟨mb, nsK hb, hbb⟩, let ⟨mc, h1, h2⟩ := hlim; ⟨mc, nsK h1, h2⟩⟩
    have e0 : Env0 P w K mg (hidT s₁.heap H) callerA [] s₁ H := ⟨rfl, hM, fun b o e => of_hidT e, Nat.le_of_eq (hidT_size _ _), trivial, fun b hb => absurd (show b ∈ ([] : List Addr) from hb) (by simp), hok, .of_eq hg⟩
    refine codeAny_mono ((F _ hKb (nsK hns)).run callerA [] s₁ H ⟨[.ref a], []⟩ [.ref a] [.ref a] _ _ hr e0 (hbind s₁ (.ref a)) (.cons rfl .nil) (hsp H hO hS)) fun r s' h => ?_
    cases r with
    | error e => exact (hCX H e s' h).elim
    | ok fl =>
      cases fl with
      | next => exact False.elim h
      | brk => exact False.elim h
      | cont => exact False.elim h
      | ret u =>
        obtain ⟨v, H', os, bare, un, hok', r', q⟩ := h
        have q' : v = .bl true := q
        subst q'
        obtain rfl : u = Value.bool true := r'
        refine ⟨rfl, OldK.of_keep fun b o e => ?_, os, bare⟩
        cases q : H b with
        | none => exact un.keep b o e q (by intro z; exact absurd (show b ∈ ([] : List Addr) from z) (by simp)) (by simp)
        | some u =>
          rcases hO b with z | ⟨ob, xs, z⟩
          · rw [q] at z; cases z
          · have z2 := un.frzs b ob _ z
            obtain ⟨e1, _⟩ := hok b _ z
            obtain ⟨e2, _⟩ := hok' b _ z2
            rw [e] at e1; cases e1
            exact e2
  cases hk : K.lookup a with
  | some o =>
    -- the script is one of the module's own objects
    have e := KX a o hk
    rw [ha] at e
    cases e
    refine core (fun _ => none) (fun _ => .inl rfl) (.inr ⟨_, vs.toArray, _, hk, rfl, rfl, rfl, by rw [List.size_toArray, lenV]; exact hl, by simpa using rv⟩) (fun b u z => by have z' : (none : Option HO) = some u := z; cases z') (fun b z => absurd rfl z) fun z => absurd rfl z
  | none =>
    refine core (fun b => if b = a then some (.frz { cls := .type "list", data := .seq vs.toArray } (.lst (ns.map V.int))) else none) (fun b => ?_) (.inl (.inr ⟨{ cls := .type "list", data := .seq vs.toArray }, if_pos rfl⟩)) (fun b u z => ?_) (fun b z => ?_) fun _ => hk
    · by_cases hb : b = a
      · exact .inr ⟨_, _, if_pos hb⟩
      · exact .inl (if_neg hb)
    · by_cases hb : b = a
      · have z' := (if_pos hb).symm.trans z
        cases z'
        subst hb
        exact ⟨ha, by rw [List.length_map]; exact hl, vs, _, rv, ha⟩
      · have z' := (if_neg hb).symm.trans z
        cases z'
    · by_cases hb : b = a
      · exact hb
      · exact absurd (if_neg hb) z
end L2

namespace L2
open PySem PySem.Spec PyProof.Rows

/-- the goal that k_head leaves (case hc), from the law's promise. F gives the function object fd (K's own) once, then the promise over every base -/
theorem walk_of {l : PySem.W.OpenLaw} {n k : Nat} {q : Program} {loose : List Str} {XP : (Str → Option Value) → Heap → Prop} {YP : World → Heap → Prop} {d : DefRec} {K : Params → PySem.W.Frag} {CX : World → CXT} {sp : World → Sp} {x : Str}
    (hn : l.most = some n) (hn2 : n ≤ sizeLine) (hdf : d.params.defaults = []) (hr : Room k callerA)
    (hY : ∀ (w : World) (h : Heap), YP w h → (K w.params).In h)
    (F : ∀ (w : World) (mg : Str → Option Value) (fa : Addr) (h : Heap), (K w.params).In h → h.Ns mainGlobals mg → mg d.name = some (.ref fa) →
      ∃ fd : FuncData, (∀ (s : Shared) (u : Value), BindsTo s fd ⟨[u], []⟩ [(x, u)]) ∧
        ∀ base : Heap, (K w.params).In base → base.Ns mainGlobals mg → FnOk l.prog w (K w.params) mg base (CX w) k fa fd [x] (sp w))
    (hsp : ∀ (w : World) (H : Hp) (a : Addr) (ns : List Int), ns.length ≤ n → Only H → SqL (K w.params) H a (ns.map V.int) → sp w [.ref a] H (fun v _ => v = .bl true) fun _ _ _ => False)
    (hCX : ∀ (w : World) (H : Hp) (s : Shared) (e : Value) (s' : Shared), CX w [] H s (fun _ _ _ => False) e s' → False) :
    PySem.W.WalkO q loose XP YP l.row.toRowW d [] (fun f vs => PySem.call f vs) := by
  refine Att.attach_call hn hdf fun w s₀ s₁ mg mb fa o pm cd doc a vs ns G Y ho hd hcd hmg hobj hints hlen hg => ?_
  have KX := hY w _ Y
  obtain ⟨fd, hb, hF⟩ := F w mg fa _ KX G.T.g hmg
  exact law_call KX G.T.g G.T.b G.T.builtins G.T.nolimit hg hobj hints (Nat.le_trans hlen hn2) hr hF hb (fun H hO hS => hsp w H a ns hlen hO hS) fun H e s' => hCX w H s₁ e s'
end L2

/- THE LAST THEOREM (shape; LID, My.* are yours):
   My.Adr: a structure of the addresses that your layer names (classes, functions); My.Txt K t: a structure (Prop) of the equations over K;
   My.txt_mk : {K} {implicit addresses ..} (e1 : nsIn K mainGlobals "law" = some (some (.ref f))) (e2 : K.lookup f = some ⟨oc, od, .func (fnOf "law" "law" params body scope dV kV doc pm an cdv ct), sl⟩) (e3 : codeIn K cdv "law" = true) .. : ∃ t, My.Txt K t

(the tactic k_is has no namespace: write k_is) -/

/-! SHORT WORDS over the layer: a def of the text, its body, what a loop and a test want. -/
namespace L2
open PySem PySem.Spec PyProof.Rows

/-! ### the text by places -/
def defArgs (s : Stmt) : Arguments := match s with
  | .FunctionDef _ a _ _ _ _ _ _ _ _ => a
  | _ => { posonlyargs := [], args := [], vararg := none, kwonlyargs := [], kw_defaults := [], kwarg := none, defaults := [] }
def defBody (s : Stmt) : List Stmt := match s with
  | .FunctionDef _ _ b _ _ _ _ _ _ _ => b
  | _ => []
def defScope (s : Stmt) : Scope := match s with
  | .FunctionDef _ _ _ _ _ _ sc _ _ _ => sc
  | _ => { kind := .function, names := [], isGenerator := false, isCoroutine := false }

/-! ### no exception leaves a def -/
abbrev CX0 : CXT := fun _ _ _ _ _ _ => False
abbrev E0 : XK := fun _ _ _ => False
theorem pass0 {X : Cx} : Passes CX0 X E0 := fun _ _ _ _ _ _ _ h => h.elim

/-! ### a def (or method) of the text as it stands behind the top -/
structure Fun (K : PySem.W.Frag) (x qual : Str) (st : Stmt) (f : Addr) (fd : FuncData) : Prop where
  ex : ∃ (oc : Value) (od : Option Addr) (kV doc pm : Value) (an : Option Addr) (cdv ct : Value) (osl : Array (Option Value)),
    fd = PySem.W.fnOf x qual (defArgs st) (defBody st) (defScope st) .none kV doc pm an cdv ct ∧ K.lookup f = some ⟨oc, od, .func fd, osl⟩ ∧ PySem.W.codeIn K cdv qual = true
  kp : PySem.W.keepIn K (.ref f) = true
section
variable {P : Program} {w : World} {K : PySem.W.Frag} {mg : Str → Option Value} {base : Heap}
/-- THE RULE for a def: its body as a term of rules, and the reading of that term -/
theorem Fun.ok {x qual : Str} {st : Stmt} {f : Addr} {fd : FuncData} {N ps : List Str} {k : Nat} {sp : Sp} (F : Fun K x qual st f fd) (S : FnScope N ps (defScope st)) (len : ∀ vs H Q E, sp vs H Q E → vs.length = ps.length)
    (hbody : ∀ (cdv : Value) (A : Around) (outer : List Env) (s : Shared) (H : Hp) (vs : List V) (Q : VK) (E : XK), Room k (A.deeper (envOfC qual (defScope st) s.heap.objs.size f cdv)) → sp vs H Q E →
      ∃ t, PSs (cxOf CX0 P w K mg base N qual (defScope st) f cdv A outer s H E).nox (defBody st) t ∧ t { nx := fun _ H' => Q .non H', rt := Q } (start N vs) H) : FnOk P w K mg base CX0 (k + 1) f fd ps sp := by
  obtain ⟨oc, od, kV, doc, pm, an, cdv, ct, osl, rfl, lk, hcd⟩ := F.ex
  refine fn_of lk hcd S len fun A outer s H vs Q E hr hsp => ?_
  obtain ⟨t, h, q⟩ := hbody cdv A outer s H vs Q E hr hsp
  exact ⟨t, h.nox, q⟩
/-- how its arguments bind (no defaults): h is «fun _ _ _ _ _ _ us hl => match us, hl with | [_, _], _ => rfl», one _ a parameter -/
theorem Fun.binds {x qual : Str} {st : Stmt} {f : Addr} {fd : FuncData} {ps : List Str} (F : Fun K x qual st f fd)
    (h : ∀ (kV doc pm : Value) (an : Option Addr) (cdv ct : Value) (us : List Value), us.length = ps.length → bindArgs (PySem.W.fnOf x qual (defArgs st) (defBody st) (defScope st) .none kV doc pm an cdv ct) ⟨us, []⟩ = pure (ps.zip us)) : Binds K fd ps [] := by
  obtain ⟨oc, od, kV, doc, pm, an, cdv, ct, osl, rfl, lk, hcd⟩ := F.ex
  exact .all (h kV doc pm an cdv ct)
theorem fun_mk {x qual : Str} {st : Stmt} {f : Addr} {oc : Value} {od an : Option Addr} {osl : Array (Option Value)} {kV doc pm cdv ct : Value} (l : K.lookup f = some ⟨oc, od, .func (PySem.W.fnOf x qual (defArgs st) (defBody st) (defScope st) .none kV doc pm an cdv ct), osl⟩)
    (c : PySem.W.codeIn K cdv qual = true) (k : PySem.W.keepIn K (.ref f) = true) : Fun K x qual st f (PySem.W.fnOf x qual (defArgs st) (defBody st) (defScope st) .none kV doc pm an cdv ct) := ⟨⟨oc, od, kV, doc, pm, an, cdv, ct, osl, rfl, l, c⟩, k⟩
end

/-! ### expressions in short: the name that stands in the i-th slot -/
section
variable {X : Cx}
theorem pv (i : Nat) {x : Str} {pos : Pos} (hN : X.N[i]? = some x := by rfl) (hv : Vis X.env.scope x := by first | exact Or.inl rfl | exact Or.inr (Or.inl rfl) | exact Or.inr (Or.inr rfl)) (hd : (x == ("__debug__" : Str)) = false := by decide)
    (hcd : (x == ("__classdict__" : Str)) = false := by decide) : PE X (.Name x pos) (tVar i) := pe_var hN hv hd hcd
end

/-! ### tests -/

/-! ### heaps -/
/-- all that was tracked is as it was -/
def Same (H H' : Hp) : Prop := ∀ b o, H b = some o → H' b = some o
theorem Same.refl (H : Hp) : Same H H := fun _ _ h => h
theorem Same.trans {H H1 H2 : Hp} (a : Same H H1) (b : Same H1 H2) : Same H H2 := fun c o h => b c o (a c o h)
theorem Same.free {H H' : Hp} (e : Same H H') {l : Addr} (h : H' l = Option.none) : H l = Option.none := by
  cases q : H l with
  | none => rfl
  | some o =>
    rw [e l o q] at h
    cases h
theorem Same.seq {K : PySem.W.Frag} {H H' : Hp} {a : Addr} {xs : List V} (e : Same H H') (h : SqL K H a xs) : SqL K H' a xs := by
  rcases h with (h | ⟨o, h⟩) | h
  · exact .inl (.inl (e _ _ h))
  · exact .inl (.inr ⟨o, e _ _ h⟩)
  · exact .inr h

end L2
set_option Elab.async false
set_option linter.all false
set_option maxRecDepth 100000
/-! ### a list comprehension over one clause -/
namespace L2
open PySem PySem.Spec PyProof.Rows

theorem lookup_relabel (env : Env) : ∀ (names : List (Str × NameKind)) (x : Str),
    (names.map fun (n, k) => if (k == NameKind.free && env.scope.kind == .function && env.kindOf n == some .cell) then (n, NameKind.cell) else (n, k)).lookup x =
      (names.lookup x).map fun k => if (k == NameKind.free && env.scope.kind == .function && env.kindOf x == some .cell) then NameKind.cell else k
  | [], _ => rfl
  | (n, k) :: r, x => by
    have ih := lookup_relabel env r x
    show List.lookup x ((if (k == NameKind.free && env.scope.kind == .function && env.kindOf n == some .cell) = true then (n, NameKind.cell) else (n, k)) :: _) = _
    cases hx : x == n with
    | true =>
      have e : x = n := eq_of_beq hx
      subst e
      by_cases hc : (k == NameKind.free && env.scope.kind == .function && env.kindOf x == some .cell) = true
      · rw [if_pos hc]; simp only [List.lookup_cons, beq_self_eq_true, Option.map_some, if_pos hc]
      · rw [if_neg hc]; simp only [List.lookup_cons, beq_self_eq_true, Option.map_some, if_neg hc]
    | false =>
      by_cases hc : (k == NameKind.free && env.scope.kind == .function && env.kindOf n == some .cell) = true
      · rw [if_pos hc]; simp only [List.lookup_cons, hx]; exact ih
      · rw [if_neg hc]; simp only [List.lookup_cons, hx]; exact ih
theorem relabel_free {scope : Scope} {env : Env} {x : Str} (h : scope.names.lookup x = some .free) : (relabel scope env).names.lookup x = some .cell ∨ (relabel scope env).names.lookup x = some .free := by
  show (List.lookup x (scope.names.map _) = _) ∨ (List.lookup x (scope.names.map _) = _)
  rw [lookup_relabel, h]
  simp only [Option.map_some]
  split
  · exact .inl rfl
  · exact .inr rfl
theorem relabel_of {scope : Scope} {env : Env} {x : Str} (h : (relabel scope env).names.lookup x = some .cell ∨ (relabel scope env).names.lookup x = some .free) : scope.names.lookup x = some .cell ∨ scope.names.lookup x = some .free := by
  have e : (relabel scope env).names.lookup x = (scope.names.lookup x).map _ := lookup_relabel env scope.names x
  rw [e] at h
  cases q : scope.names.lookup x with
  | none => rw [q] at h; rcases h with h | h <;> cases h
  | some k =>
    rw [q] at h
    simp only [Option.map_some] at h
    by_cases hc : (k == NameKind.free && env.scope.kind == .function && env.kindOf x == some .cell) = true
    · have : k = .free := by
        cases k <;> first | rfl | (exfalso; revert hc; simp; done) | (exfalso; simp at hc)
      exact .inr (by rw [this])
    · rw [if_neg hc] at h
      exact h

/-- the closure of a comprehension: the cells of its free names -/
theorem closure_ok {scope : Scope} {env : Env} (h : ∀ y ∈ scope.names, y.2 = .free → ∃ c, env.cells.lookup y.1 = some c) :
    ∃ cl : List (Str × Addr), closureFor scope env = pure cl ∧ (∀ x c, cl.lookup x = some c → env.cells.lookup x = some c) ∧ ∀ y ∈ scope.names, y.2 = .free → ∃ c, cl.lookup y.1 = some c := by
  have aux : ∀ (names : List (Str × NameKind)) (cs : List (Str × Addr)), (∀ y ∈ names, y.2 = .free → ∃ c, env.cells.lookup y.1 = some c) → (∀ x c, cs.lookup x = some c → env.cells.lookup x = some c) →
      ∃ cl : List (Str × Addr), (forIn names cs (fun x r => (match x with | (name, kind) => if (kind == NameKind.free) = true then do let a ← cellOf env name; pure (ForInStep.yield ((name, a) :: r)) else pure (ForInStep.yield r) : Sem (ForInStep (List (Str × Addr))))) : Sem (List (Str × Addr))) = pure cl ∧
        (∀ x c, cl.lookup x = some c → env.cells.lookup x = some c) ∧ (∀ x, (∃ c, cs.lookup x = some c) → ∃ c, cl.lookup x = some c) ∧ ∀ y ∈ names, y.2 = .free → ∃ c, cl.lookup y.1 = some c := by
    intro names
    induction names with
    | nil => intro cs _ hs; exact ⟨cs, rfl, hs, fun _ z => z, fun y hy => by cases hy⟩
    | cons p r ih =>
      intro cs hn hs
      obtain ⟨n, k⟩ := p
      by_cases hk : (k == NameKind.free) = true
      · have ek : k = .free := by cases k <;> first | rfl | (exfalso; revert hk; decide)
        obtain ⟨c, hc⟩ := hn (n, k) List.mem_cons_self ek
        obtain ⟨cl, e, h1, h2, h3⟩ := ih ((n, c) :: cs) (fun y hy => hn y (List.mem_cons_of_mem _ hy)) (fun x c' hx => by
          rw [List.lookup_cons] at hx
          cases hxn : x == n with
          | true =>
            rw [hxn] at hx
            cases hx
            rw [eq_of_beq hxn]
            exact hc
          | false => rw [hxn] at hx; exact hs x c' hx)
        have self : ∃ c', ((n, c) :: cs).lookup n = some c' := ⟨c, by simp [List.lookup_cons]⟩
        refine ⟨cl, ?_, h1, fun x ⟨c', hx⟩ => h2 x ?_, fun y hy ef => ?_⟩
        · rw [List.forIn_cons]
          simp only [hk, if_true]
          have hco : cellOf env n = pure c := by unfold cellOf; rw [hc]
          rw [hco]
          simp only [pure_bind]
          exact e
        · rw [List.lookup_cons]
          cases hxn : x == n with
          | true => exact ⟨c, rfl⟩
          | false => exact ⟨c', hx⟩
        · rcases List.mem_cons.mp hy with rfl | hy
          · exact h2 _ self
          · exact h3 y hy ef
      · obtain ⟨cl, e, h1, h2, h3⟩ := ih cs (fun y hy => hn y (List.mem_cons_of_mem _ hy)) hs
        refine ⟨cl, ?_, h1, h2, fun y hy ef => ?_⟩
        · rw [List.forIn_cons]
          simp only [hk, if_false, pure_bind]
          exact e
        · rcases List.mem_cons.mp hy with rfl | hy
          · have ef' : k = .free := ef
            rw [ef'] at hk
            exact absurd rfl hk
          · exact h3 y hy ef
  obtain ⟨cl, e, h1, _, h3⟩ := aux scope.names [] h (fun x c hx => by cases hx)
  refine ⟨cl, ?_, h1, h3⟩
  unfold closureFor
  first
    | exact (congrArg (· >>= fun r => pure r) e).trans rfl
    | (simp only [bind_pure]; exact e)
    | exact e

/-- the context of a comprehension's block -/
def cxComp (X : Cx) (scope : Scope) (cl : List (Str × Addr)) (N : List Str) (fp : List Addr) (s : Shared) (H : Hp) (C : Addr) : Cx :=
  { X with N := N, s₀ := s, H₀ := H, env := compEnvC scope cl C X.env, outer := X.stack, ex := fp, fn := fun _ => false, pn := [], xe := fun _ _ => False }
/-- the slots of the captured names -/
def impS (σ : St) (ix : List Nat) : St := ix.map fun k => (σ[k]?).join

/-- what the text says of a comprehension: v its own name, F the captured ones, at the places ix of the frame around -/
structure CompOk (X : Cx) (scope : Scope) (v : Str) (F : List Str) (ix : List Nat) : Prop where
  kind : scope.kind = .function
  own : scope.names.lookup v = some .local
  names : ∀ y ∈ scope.names, y.2 = .local → scope.names.lookup y.1 = some .local
  nocell : ∀ y ∈ scope.names, y.2 ≠ .cell
  free : ∀ y ∈ scope.names, y.2 = .free → X.env.scope.names.lookup y.1 = some .cell ∨ X.env.scope.names.lookup y.1 = some .free
  cap : ∀ x ∈ F, scope.names.lookup x = some .free
  nd : (v :: F).Nodup
  eqs : ix.map (fun k => X.N[k]?) = F.map some
theorem CompOk.len {X : Cx} {scope : Scope} {v : Str} {F : List Str} {ix : List Nat} (O : CompOk X scope v F ix) : ix.length = F.length := by
  have := congrArg List.length O.eqs
  simpa using this
theorem CompOk.imp {X : Cx} {scope : Scope} {v : Str} {F : List Str} {ix : List Nat} (O : CompOk X scope v F ix) : ∀ (i : Nat) (x : Str), F[i]? = some x → ∃ k, ix[i]? = some k ∧ X.N[k]? = some x := fun i x e => by
  have h := congrArg (·[i]?) O.eqs
  simp only [List.getElem?_map, e, Option.map_some] at h
  cases q : ix[i]? with
  | none => rw [q] at h; cases h
  | some k => rw [q] at h; exact ⟨k, rfl, Option.some.inj h⟩

/-- the tests of a clause -/
def PTs (X : Cx) (ifs : List Expr) (t : TT) : Prop :=
  ∀ (pins : List (Addr × Obj)) (s : Shared) (σ : St) (H : Hp) (Q : Bool → Hp → Prop), Inv X pins σ H s → t σ H Q →
    wpAny (model X.prog X.w) X.A (forIn ifs true fun c r => if r = true then do let ok ← isTrue c X.env (eval c X.env); pure (ForInStep.yield ok) else pure (ForInStep.yield r)) (TP X pins σ Q) X.xe s
def tYes : TT := fun _ H Q => Q true H
theorem pts_nil {X : Cx} : PTs X [] tYes := fun _ _ _ H _ I h => wpAny_tests_nil ⟨H, I, h⟩
theorem pts_one {X : Cx} {c : Expr} {t : TT} (h : PT X c t) : PTs X [c] t := fun pins s σ H Q I hw => wpAny_tests_one (h pins s σ H Q I hw)

/-- the turns of a comprehension whose list stands at D: W by the turn, a measure, the items so far -/
def CompW (J : It) (σ : St) (ix : List Nat) (tt : TT) (te : TE) (H1 : Hp) (Q : VK) (D : Addr) : Prop :=
  ∃ W : Nat → Nat → List V → Hp → Prop, (∃ m, W 0 m [] (upd H1 D (.lst []))) ∧ ∀ i m ys H, W i m ys H → H D = some (.lst ys) ∧
   ((J.stop i H ∧ Q (.ref D) H) ∨ (J.go i H ∧ ∀ x H', J.yld i H x H' → tt (some x :: impS σ ix) H' fun b H3 => if b = true then te (some x :: impS σ ix) H3 fun v H4 => H4 D = some (.lst ys) ∧ ys.length < sizeLine ∧ ∃ m', m' < m ∧ W (i + 1) m' (ys ++ [v]) (upd H4 D (.lst (ys ++ [v])))
     else ∃ m', m' < m ∧ W (i + 1) m' ys H3))
def tComp (wi : TI) (ix : List Nat) (tt : TT) (te : TE) : TE := fun σ H Q => wi σ H fun J H1 => ∀ D, H1 D = none → CompW J σ ix tt te H1 Q D

section
variable {X : Cx} {scope : Scope} {v : Str} {F : List Str} {ix : List Nat} {pins : List (Addr × Obj)} {σ : St} {H : Hp} {s : Shared}

theorem Inv.compCells (I : Inv X pins σ H s) (O : CompOk X scope v F ix) : ∀ y ∈ scope.names, y.2 = .free → ∃ c, X.env.cells.lookup y.1 = some c := fun y hy hf => I.ok.has y.1 (O.free y hy hf)

/-- the block's context is a good one -/
theorem Inv.compOk {cl : List (Str × Addr)} {fp : List Addr} {C : Addr} (I : Inv X pins σ H s) (O : CompOk X scope v F ix) (hsub : ∀ x c, cl.lookup x = some c → X.env.cells.lookup x = some c) (hcl : ∀ y ∈ scope.names, y.2 = .free → ∃ c, cl.lookup y.1 = some c)
    (hfp : ∀ b ∈ fp, FpOk X pins H b) (hfz : ∀ b ∈ fp, b < s.heap.objs.size) (hC : s.heap.objs.size ≤ C) : (cxComp X scope cl (v :: F) fp s H C).Ok where
  mod := I.ok.mod
  kind := O.kind
  glob := I.ok.glob
  blt := I.ok.blt
  above := hC
  inj := fun x y c h1 h2 => I.ok.inj x y c (hsub x c h1) (hsub y c h2)
  has := fun x hx => by
    have hx' : scope.names.lookup x = some .cell ∨ scope.names.lookup x = some .free := relabel_of (env := X.env) hx
    rcases hx' with e | e
    · exact absurd rfl (O.nocell _ (PySem.mem_of_lookup e))
    · exact hcl _ (PySem.mem_of_lookup e) rfl
  cab := fun x c hf _ => by cases hf
  hd := I.ok.hd
  frames := I.ok.frames
  stk := .inl rfl
  exf := fun b hb => ⟨Nat.ne_of_lt (Nat.lt_of_lt_of_le (hfz b hb) hC), fun x c e => (hfp b hb).2.2.2.2.1 x c (hsub x c e)⟩
  bs := I.bs
  bsz := Nat.le_trans I.ok.bsz I.sz
  noex := fun b o e hb => by
    rcases (hfp b hb).2.2.2.1 with z | z
    · exact I.ok.noex b o e z
    · exact absurd (Nat.lt_of_lt_of_le (Heap.lt_size e) (Nat.le_trans I.ok.bsz z)) (Nat.lt_irrefl _)
  exfs := fun b hb hs => by
    rcases List.mem_cons.mp (I.stkSub b hs) with e | e
    · exact (hfp b hb).2.1 e
    · exact (hfp b hb).2.2.1 e
  funs := I.stack
  frf := I.stkFree

/-- the block begins -/
theorem Inv.compStart {cl : List (Str × Addr)} {fp : List Addr} {C : Addr} {h1 : Heap} {tk n : Nat} (I : Inv X pins σ H s) (O : CompOk X scope v F ix) (hsub : ∀ x c, cl.lookup x = some c → X.env.cells.lookup x = some c) (hcl : ∀ y ∈ scope.names, y.2 = .free → ∃ c, cl.lookup y.1 = some c)
    (hfp : ∀ b ∈ fp, FpOk X pins H b) (hfz : ∀ b ∈ fp, b < s.heap.objs.size) (hC : C = s.heap.objs.size + 1) (hk : ∀ b o, s.heap.get? b = some o → h1.get? b = some o) (hns : h1.Ns C fun _ => none)
    (hD : h1.get? s.heap.objs.size = some { cls := .type "list", data := .seq ([] : List Value).toArray n }) :
    Inv (cxComp X scope cl (v :: F) fp s H C) [] (none :: impS σ ix) (upd H s.heap.objs.size (.lst [])) { s with heap := h1, toks := tk } := by
  have hn : H s.heap.objs.size = none := I.hok.fresh (Nat.le_refl _)
  have hlt : s.heap.objs.size < C := by rw [hC]; exact Nat.lt_succ_self _
  refine ⟨I.compOk O hsub hcl hfp hfz (Nat.le_of_lt hlt), rfl, I.bare, Un.laid hk (Nat.le_refl _) hn, ⟨_, hns, fun i x u e1 e2 e3 => ?_⟩, fun x c e => ?_, ?_, fun x c e => ?_, fun p hp => absurd (show p ∈ ([] : List (Addr × Obj)) from hp) (by simp),
    I.hok.laid hk (Nat.le_refl _) ⟨Nat.zero_le _, [], n, .nil, hD⟩, ?_⟩
  · cases i with
    | zero => have e2' : (some none : Option (Option V)) = some (some u) := e2; cases e2'
    | succ i =>
      have e1' : F[i]? = some x := e1
      have e2' : (impS σ ix)[i]? = some (some u) := e2
      obtain ⟨k, hk1, hk2⟩ := O.imp i x e1'
      unfold impS at e2'
      rw [List.getElem?_map, hk1] at e2'
      have e4 : (σ[k]?).join = some u := by simpa using e2'
      have e5 : σ[k]? = some (some u) := by
        cases q : σ[k]? with
        | none => rw [q] at e4; cases e4
        | some o => rw [q] at e4; have : o = some u := e4; rw [this]
      have hfr : scope.names.lookup x = some .free := O.cap x (List.mem_of_getElem? e1')
      have hxX := O.free _ (PySem.mem_of_lookup hfr) rfl
      obtain ⟨m, hm, hl⟩ := I.loc
      obtain ⟨w, rw', lk⟩ := hl k x u hk2 e5 (by rcases hxX with z | z; exact .inr (.inl z); exact .inr (.inr z))
      refine ⟨w, rw', .inr ⟨?_, ?_⟩⟩
      · exact relabel_free hfr
      · obtain ⟨c, hc⟩ := hcl _ (PySem.mem_of_lookup hfr) rfl
        refine ⟨c, hc, ?_⟩
        rcases lk with ⟨z, _⟩ | ⟨_, c', hc', cell⟩
        · have z' : X.env.scope.names.lookup x = some .local := z
          rcases hxX with y | y <;> (rw [z'] at y; cases y)
        · have : c' = c := by
            have := hsub _ _ hc
            rw [hc'] at this
            exact Option.some.inj this
          subst this
          exact cell.keeps hk
  · obtain ⟨w, cell⟩ := I.cell x c (hsub x c e)
    exact ⟨w, cell.keeps hk⟩
  · show upd H s.heap.objs.size (.lst []) C = none
    rw [upd_ne (Nat.ne_of_gt hlt)]
    exact I.hok.fresh (Nat.le_of_lt hlt)
  · obtain ⟨w, cell⟩ := I.cell x c (hsub x c e)
    rw [upd_ne (Nat.ne_of_lt cell.lt)]
    exact I.freeC x c (hsub x c e)
  · show (none :: impS σ ix).length = (v :: F).length
    unfold impS
    rw [List.length_cons, List.length_cons, List.length_map, O.len]
end
end L2
set_option Elab.async false
set_option linter.all false
set_option maxRecDepth 100000
namespace L2
open PySem PySem.Spec PyProof.Rows
section
variable {X : Cx} {scope : Scope} {v : Str} {F : List Str} {ix : List Nat} {pins : List (Addr × Obj)} {σ : St} {H : Hp} {s : Shared}
  {elt iter : Expr} {ifs : List Expr} {px pos : Pos} {tt : TT} {te : TE}

/-- the block of a comprehension: the new list, the frame, the turns -/
theorem comp_block {J : It} {fp : List Addr} {it : Addr} {tn : Nat → Heap → Prop} {cl : List (Str × Addr)} {Q : VK} {RR : Value → Addr → Result → Shared → Prop}
    (I : Inv X pins σ H s) (O : CompOk X scope v F ix) (hc : X.calm = true) (hsub : ∀ x c, cl.lookup x = some c → X.env.cells.lookup x = some c) (hcl : ∀ y ∈ scope.names, y.2 = .free → ∃ c, cl.lookup y.1 = some c)
    (T : Turn X.prog X.w X.K (.Name v px) J fp it tn) (hst : tn 0 s.heap) (hfp : ∀ b ∈ fp, FpOk X pins H b)
    (hifs : ∀ cl fp s H C, PTs (cxComp X scope cl (v :: F) fp s H C) ifs tt) (helt : ∀ cl fp s H C, PE (cxComp X scope cl (v :: F) fp s H C) elt te)
    (hr : ∀ D, H D = none → CompW J σ ix tt te H Q D)
    (hRR : ∀ (D C : Addr) (s' : Shared) (H' : Hp) (m : Str → Option Value), s'.heap.Ns C m → Inv X pins σ H' s' → H' C = none → s.heap.objs.size ≤ C → Q (.ref D) H' → RR (.ref D) C (.ok .next) s') :
    wpAny (model X.prog X.w) X.A (newList []) (fun acc s₃ => wpAny (model X.prog X.w) X.A (newFunctionEnv scope X.env.globals cl [] X.env.qual none .none (some X.env)) (fun cenv s₄ =>
      codeAny (model X.prog X.w) X.A (.compStart (.ListComp elt [⟨.Name v px, iter, ifs, 0⟩] scope pos) 0 (.ref it) acc { cenv with scope := relabel scope X.env }) (RR acc cenv.locals) s₄) X.xe s₃) X.xe s := by
  have hfz : ∀ b ∈ fp, b < s.heap.objs.size := fun b hb => let ⟨o, e, _⟩ := T.obj 0 s.heap hst b hb; Heap.lt_size e
  refine wpAny_newObj_type (wpAny_newFunctionEnv O.nocell (by intro y hy; simp at hy) (fun h₁ hns₁ hsb₁ => ?_) O.kind)
  dsimp only at hns₁ hsb₁ ⊢
  generalize hH2 : s.heap.push { cls := .type "list", dict := none, data := .seq ([] : List Value).toArray } = H2 at hns₁ hsb₁ ⊢
  have hC : H2.objs.size = s.heap.objs.size + 1 := by rw [← hH2, Heap.size_push]
  have hDC : s.heap.objs.size ≠ H2.objs.size := by rw [hC]; exact Nat.ne_of_lt (Nat.lt_succ_self _)
  have old : ∀ b o, s.heap.get? b = some o → h₁.get? b = some o := fun b o e => hsb₁.extBut b o (by rw [hC]; exact Nat.ne_of_lt (Nat.lt_succ_of_lt (Heap.lt_size e))) (Heap.get?_push_of_some _ (hH2 ▸ Heap.get?_push_of_some _ e))
  have hD : h₁.get? s.heap.objs.size = some { cls := .type "list", data := .seq ([] : List Value).toArray } := hsb₁.extBut _ _ hDC (Heap.get?_push_of_some _ (hH2 ▸ Heap.get?_push_size _ rfl))
  have hst₁ : tn 0 h₁ := T.keep 0 _ _ hst fun b _ o e => old b o e
  have loop : ∀ s₃ : Shared, s₃ = { s with heap := h₁, toks := s.toks + ([] : List (Str × Value)).length } →
      codeAny (model X.prog X.w) X.A (.compLoop (.ListComp elt [⟨.Name v px, iter, ifs, 0⟩] scope pos) 0 (.ref it) (.ref s.heap.objs.size) (compEnvC scope cl H2.objs.size X.env))
        (RR (.ref s.heap.objs.size) H2.objs.size) s₃ := by
    rintro s₃ rfl
    have I1 := I.compStart (C := H2.objs.size) (tk := s.toks + ([] : List (Str × Value)).length) O hsub hcl hfp hfz hC old (show h₁.Ns _ (fun _ => none) from hns₁) hD
    obtain ⟨W, ⟨m0, w0⟩, turn⟩ := hr s.heap.objs.size (I.hok.fresh (Nat.le_refl _))
    have stat : ∀ {H' : Hp}, (∀ b ∈ fp, H' b = none) → ∀ b ∈ fp, FpOk (cxComp X scope cl (v :: F) fp s H H2.objs.size) [] H' b := fun hn b hb =>
      ⟨hn b hb, ((I1.ok.exf b hb).1), I1.ok.exfs b hb, .inl hb, (I1.ok.exf b hb).2, fun p hp => absurd (show p ∈ ([] : List (Addr × Obj)) from hp) (by simp)⟩
    have fr0 : ∀ b ∈ fp, (upd H s.heap.objs.size (.lst [])) b = none := fun b hb => by
      rw [upd_ne (Nat.ne_of_lt (hfz b hb))]
      exact (hfp b hb).1
    have ndN : (cxComp X scope cl (v :: F) fp s H H2.objs.size).N.Nodup := O.nd
    have locN : Loc (cxComp X scope cl (v :: F) fp s H H2.objs.size).env.scope v := .inl (lookup_relabel_local O.own)
    refine codeAny_loop rfl (fun n s' => ∃ i ys H', Inv (cxComp X scope cl (v :: F) fp s H H2.objs.size) [] (none :: impS σ ix) H' s' ∧ tn i s'.heap ∧ (∀ b ∈ fp, H' b = none) ∧ W i n ys H') (fun n s3 hI => ?_) m0 ⟨0, [], _, I1, hst₁, fr0, w0⟩
    obtain ⟨i, ys, H3, I3, st3, fr3, w3⟩ := hI
    show wpAny _ X.A ((compTurn (.ListComp elt [⟨.Name v px, iter, ifs, 0⟩] scope pos) 0 (.ref it) (.ref s.heap.objs.size) (compEnvC scope cl H2.objs.size X.env)).onRaise (fun x => do noteFrame x (compEnvC scope cl H2.objs.size X.env); theTreesLotGoes x)) _ _ s3
    refine wpAny_noted ?_
    rw [compTurn_list]
    refine wpAny_bind (wpAny_standAt (wpAny_bind ?_))
    obtain ⟨hD3, ⟨stop, qn⟩ | ⟨go, step⟩⟩ := turn i n ys H3 w3
    · refine thn (T.done (cxComp X scope cl (v :: F) fp s H H2.objs.size) rfl rfl rfl hc i [] s3 _ H3 _ I3 (stat fr3) st3 stop) fun r s4 ⟨hr4, I4⟩ => ?_
      subst hr4
      obtain ⟨m, hm, _⟩ := id I4.loc
      refine wpAny_pure ?_
      refine hRR _ _ s4 H3 m hm ?_ I4.free (by rw [hC]; exact Nat.le_succ _) qn
      exact I.call' (ch := fp) I4.os I4.base I4.hok I4.bare fun b hb => ⟨(hfp b hb).2.2.2.1, (hfp b hb).2.1, (hfp b hb).2.2.2.2.1, (hfp b hb).2.2.2.2.2⟩
    · refine thn (T.item (cxComp X scope cl (v :: F) fp s H H2.objs.size) rfl rfl rfl hc i [] s3 _ H3 _ I3 (stat fr3) st3 go) fun r s4 ⟨u, hr4, h4⟩ => ?_
      subst hr4
      refine wpAny_bind (thn h4 fun _ s5 ⟨x, H5, I5, r5, y5, st5, fr5⟩ => ?_)
      have I5' := I5.pinned (stat fr5) (T.obj _ _ st5)
      have hstep := step x H5 y5
      -- back to the invariant behind the body
      have again : ∀ {H7 : Hp} {s7 : Shared} {m' : Nat} {zs : List V}, Inv (cxComp X scope cl (v :: F) fp s H H2.objs.size) ([] ++ pinsAt fp s5.heap) (some x :: impS σ ix) H7 s7 → m' < n → W (i + 1) m' zs H7 →
          ∃ m, m < n ∧ ∃ i ys H', Inv (cxComp X scope cl (v :: F) fp s H H2.objs.size) [] (none :: impS σ ix) H' s7 ∧ tn i s7.heap ∧ (∀ b ∈ fp, H' b = none) ∧ W i m ys H' := fun {H7 s7 m' zs} I7 hm w7 => by
        refine ⟨m', hm, i + 1, zs, H7, ?_, T.keep _ _ _ st5 fun b hb o e => (I7.pin (b, o) (List.mem_append_right _ (List.mem_append_right _ (mem_pinsAt hb e)))).1, fun b hb => ?_, w7⟩
        · refine I7.unpinned.weak rfl fun j w e => ?_
          cases j with
          | zero => cases e
          | succ j => exact e
        · obtain ⟨o, e, d⟩ := T.obj _ _ st5 b hb
          exact (I7.pin (b, o) (List.mem_append_right _ (List.mem_append_right _ (mem_pinsAt hb e)))).2.1
      refine wpAny_bind (wpAny_mono (pg_name (X := cxComp X scope cl (v :: F) fp s H H2.objs.size) (i := 0) (x := v) (pos := px) ndN rfl locN (.inr (lookup_relabel_local O.own)) _ s5 _ H5 x u (fun σ2 H2' => σ2 = some x :: impS σ ix ∧ H2' = H5) I5' r5 ⟨rfl, rfl⟩) (fun _ s6 ⟨σ6, H6, I6, e6, e6'⟩ => ?_) fun _ _ z => False.elim z)
      subst e6 e6'
      refine wpAny_bind (wpAny_mono (hifs cl fp s H H2.objs.size _ s6 _ H6 _ I6 hstep) (fun ok s7 ⟨H7, I7, q7⟩ => ?_) fun _ _ z => False.elim z)
      cases ok with
      | false =>
        rw [if_neg Bool.false_ne_true] at q7
        obtain ⟨m', hm, w7⟩ := q7
        exact wpAny_pure ⟨rfl, again I7 hm w7⟩
      | true =>
        rw [if_pos rfl] at q7
        refine wpAny_bind (wpAny_bind (wpAny_mono (helt cl fp s H H2.objs.size _ s7 _ H7 _ I7 q7) (fun y s8 ⟨vv, H8, I8, r8, hD8, hz8, m', hm, w8⟩ => ?_) fun _ _ z => False.elim z))
        refine wpAny_bind (wpAny_mono (mt_append (X := cxComp X scope cl (v :: F) fp s H H2.objs.size) _ s8 _ H8 (.ref s.heap.objs.size) [vv] _ [y] (fun _ H9 => H9 = upd H8 s.heap.objs.size (.lst (ys ++ [vv]))) I8 rfl (.cons r8 .nil) ⟨_, ys, vv, rfl, rfl, hD8, hz8, rfl⟩) (fun _ s9 ⟨_, H9, I9, _, e9⟩ => ?_) fun _ _ z => False.elim z)
        subst e9
        exact wpAny_pure (wpAny_pure ⟨rfl, again I9 hm w8⟩)
  exact codeAny_compStart_list (loop _ rfl) (T.self _ 0 _ _ _ hst₁ (loop _ rfl))

theorem pe_comp {wi : TI} (hc : X.calm = true) (O : CompOk X scope v F ix) (hi : PI X (.Name v px) iter wi)
    (hifs : ∀ cl fp s H C, PTs (cxComp X scope cl (v :: F) fp s H C) ifs tt) (helt : ∀ cl fp s H C, PE (cxComp X scope cl (v :: F) fp s H C) elt te)
    (hs : ∀ x, foldedSetIterable iter X.env x = pure x := by intro _; rfl) : PE X (.ListComp elt [⟨.Name v px, iter, ifs, 0⟩] scope pos) (tComp wi ix tt te) := by
  intro pins s σ H Q I h
  obtain ⟨cl, hclos, hsub, hcl⟩ := closure_ok (I.compCells O)
  rw [eval_ListComp]
  refine wpAny_comprehension_free (use := none) rfl hs hclos O.kind O.names (thn (hi pins s σ H _ I h) fun xv s1 h1 => thn h1 fun itv s2 h2 => ?_)
  obtain ⟨it, fp, tn, J, H2, e, I2, T, st2, f2, hr⟩ := h2
  subst e
  refine comp_block (RR := fun acc C => compPost (model X.prog X.w) X.A X.xe none (EP X pins σ Q) acc C) I2 O hc hsub hcl T st2 f2 hifs helt hr ?_
  intro D C s' H' m hm I' hn hC q
  have fp' := I2.fpOk (H' := H') hC hn
  exact ⟨m, hm, fun h' hs' => ⟨.ref D, H', I'.turned (t' := s'.toks) (fun b o hb e => (hs'.2 b hb).trans e) hn fp'.2.1 fp'.2.2.2.1 fp'.2.2.2.2.1 fp'.2.2.2.2.2, rfl, q⟩⟩

/-- name = [.. for ..] -/
theorem ps_setComp {wi : TI} {i : Nat} {x : Str} {py spos : Pos} (hN : X.N.Nodup) (hxi : X.N[i]? = some x) (hx : Loc X.env.scope x) (hc : X.calm = true) (O : CompOk X scope v F ix) (hi : PI X (.Name v px) iter wi)
    (hifs : ∀ cl fp s H C, PTs (cxComp X scope cl (v :: F) fp s H C) ifs tt) (helt : ∀ cl fp s H C, PE (cxComp X scope cl (v :: F) fp s H C) elt te)
    (hsw : swapsWith (.ListComp elt [⟨.Name v px, iter, ifs, 0⟩] scope pos) (some (.Name x py)) spos.line X.env = pure true)
    (hs : ∀ x, foldedSetIterable iter X.env x = pure x := by intro _; rfl) (hf : X.fn x = true ∨ X.env.scope.names.lookup x = some .local := by first | exact .inl rfl | exact .inr rfl | assumption) :
    PS X (.Assign [.Name x py] (.ListComp elt [⟨.Name v px, iter, ifs, 0⟩] scope pos) spos) (tAsg (tComp wi ix tt te) (gName i)) := by
  intro pins s σ H D I h
  obtain ⟨cl, hclos, hsub, hcl⟩ := closure_ok (I.compCells O)
  rw [exec_Assign_Name_used _ _ _ _ hsw]
  refine wpAny_bind (wpAny_standAt (wpAny_bind ?_))
  show wpAny _ X.A (do let _ ← comprehension (.ListComp elt [⟨.Name v px, iter, ifs, 0⟩] scope pos) scope X.env _ (newList []) false (eval iter X.env) (some (assign (.Name x py) X.env))) _ _ s
  refine wpAny_bind (wpAny_mono (wpAny_comprehension_free (use := some (assign (.Name x py) X.env)) (Q := fun _ s' => SP X pins D .next s') rfl hs hclos O.kind O.names
    (thn (hi pins s σ H _ I h) fun xv s1 h1 => thn h1 fun itv s2 h2 => ?_)) (fun _ s' hq => wpAny_pure (wpAny_pure hq)) fun _ _ e => e)
  obtain ⟨it, fp, tn, J, H2, e, I2, T, st2, f2, hr⟩ := h2
  subst e
  refine comp_block (RR := fun acc C => compPost (model X.prog X.w) X.A X.xe (some (assign (.Name x py) X.env)) (fun _ s' => SP X pins D .next s') acc C) (Q := fun y H1 => gName i y σ H1 D.nx) I2 O hc hsub hcl T st2 f2 hifs helt hr ?_
  intro L C s' H' m hm I' hn hC q
  have fp' := I2.fpOk (H' := H') hC hn
  show wpAny _ X.A (assign (.Name x py) X.env (.ref L)) _ _ _
  refine wpAny_assign_Name (store_ok2 I' hN hxi hx (v := .ref L) rfl (fun s3 I3 ⟨a, sb, ha⟩ => ?_) hf)
  have hCa : C ≠ a := by
    rcases ha with e | e
    · rw [e]; exact fp'.2.1
    · exact Ne.symm (fp'.2.2.2.2.1 _ _ e)
  refine ⟨m, hm.sameBut sb hCa, fun h' hs' => ⟨_, H', I3.turned (t' := s3.toks) (fun b o hb e => (hs'.2 b hb).trans e) hn fp'.2.1 fp'.2.2.2.1 fp'.2.2.2.2.1 fp'.2.2.2.2.2, q⟩⟩
end
end L2
set_option Elab.async false
set_option linter.all false
set_option maxRecDepth 100000
/-! ### a program by values: what an expression, a statement, a def does, as a function of the names' data -/
namespace Y
open PySem

/- no list or dict within -/
mutual
def nol : PyData → Bool
  | .list _ => false
  | .dict _ => false
  | .tuple xs => nols xs
  | _ => true
def nols : List PyData → Bool
  | [] => true
  | d :: ds => nol d && nols ds
end
theorem nols_append : ∀ (xs ys : List PyData), nols (xs ++ ys) = (nols xs && nols ys)
  | [], ys => by simp [nols]
  | x :: xs, ys => by rw [List.cons_append, nols, nols, nols_append xs ys, Bool.and_assoc]
theorem nols_iff : ∀ {xs : List PyData}, nols xs = true ↔ ∀ x ∈ xs, nol x = true
  | [] => by simp [nols]
  | x :: xs => by rw [nols, Bool.and_eq_true, nols_iff (xs := xs)]; simp
theorem nols_map {α : Type} (f : α → PyData) (h : ∀ i, nol (f i) = true) (l : List α) : nols (l.map f) = true := nols_iff.mpr fun x hx => by
  obtain ⟨y, _, rfl⟩ := List.mem_map.mp hx; exact h y
theorem nols_rep {xs : List PyData} (h : nols xs = true) : ∀ k : Nat, nols (List.replicate k xs).flatten = true
  | 0 => rfl
  | k + 1 => by rw [List.replicate_succ, List.flatten_cons, nols_append, h, nols_rep h k]; rfl
/- data that == reads: no dict, not too deep -/
mutual
def lay : Nat → PyData → Bool
  | _, .none => true
  | _, .bool _ => true
  | _, .int _ => true
  | _, .str x => PyData.strOk x
  | n + 1, .list xs => lays n xs
  | n + 1, .tuple xs => lays n xs
  | _, _ => false
def lays : Nat → List PyData → Bool
  | _, [] => true
  | n, d :: ds => lay n d && lays n ds
end
theorem lays_iff {n : Nat} : ∀ {xs : List PyData}, lays n xs = true ↔ ∀ x ∈ xs, lay n x = true
  | [] => by simp [lays]
  | x :: xs => by rw [lays, Bool.and_eq_true, lays_iff (xs := xs)]; simp
theorem lays_map {α : Type} {n : Nat} (f : α → PyData) (h : ∀ i, lay n (f i) = true) (l : List α) : lays n (l.map f) = true := lays_iff.mpr fun x hx => by
  obtain ⟨y, _, rfl⟩ := List.mem_map.mp hx; exact h y

/-- what comes of a step: a value, or an exception of a class by name -/
inductive R (α : Type) where
  | ok (a : α)
  | ex (c : Str)
abbrev M (α : Type) := Option (R α)
def mret {α : Type} (a : α) : M α := some (.ok a)
def mbind {α β : Type} (m : M α) (f : α → M β) : M β := match m with
  | none => none
  | some (.ok a) => f a
  | some (.ex c) => some (.ex c)
theorem mbind_ret {α β : Type} (a : α) (f : α → M β) : mbind (mret a) f = f a := rfl
def mo {α : Type} (o : Option α) : M α := o.map .ok
theorem mo_some {α : Type} (a : α) : mo (some a) = mret a := rfl

/-- the names' data: own (no one else holds its lists and dicts) or shared -/
abbrev DEnv := List (Option (Bool × PyData))
/-- whose lists and dicts a value may hold: those of these names and new ones; none that changes; any -/
inductive Kd where
  | fr (l : List Nat)
  | base
  | any
def nrm (k : Kd) (d : PyData) : Kd := if nol d then .fr [] else k
abbrev EF := DEnv → M (Kd × PyData)
abbrev TF := DEnv → M Bool
inductive Out where
  | nx (Γ : DEnv)
  | bk (Γ : DEnv)
  | ct (Γ : DEnv)
  | rt (o : Bool) (d : PyData)
abbrev SF := DEnv → M Out
abbrev GF := Kd → PyData → DEnv → Option DEnv
abbrev IF := DEnv → M (Kd × List PyData)
abbrev FF := List PyData → M (Bool × PyData)

/-! #### expressions -/
def eC (d : PyData) : EF := fun _ => mret (.fr [], d)
def eV (i : Nat) : EF := fun Γ => match Γ[i]? with
  | some (some (o, d)) => mret (nrm (if o then .fr [i] else .base) d, d)
  | _ => none
def eOp (g : PyData → PyData → Option PyData) (a b : EF) : EF := fun Γ => mbind (a Γ) fun x => mbind (b Γ) fun y => mbind (mo (g x.2 y.2)) fun z => mret (.fr [], z)
def eUn (g : PyData → Option PyData) (a : EF) : EF := fun Γ => mbind (a Γ) fun x => mbind (mo (g x.2)) fun z => mret (.fr [], z)
def eIx (g : PyData → PyData → Option PyData) (a b : EF) : EF := fun Γ => mbind (a Γ) fun x => mbind (b Γ) fun y => mbind (mo (g x.2 y.2)) fun z => mret (nrm x.1 z, z)
def eIf (c : TF) (a b : EF) : EF := fun Γ => mbind (c Γ) fun t => if t = true then a Γ else b Γ
/-- a op b op c -/
def eChain (g g' : PyData → PyData → Option PyData) (a b c : EF) : EF := fun Γ => mbind (a Γ) fun x => mbind (b Γ) fun y => mbind (mo (g x.2 y.2)) fun z => match z with
  | .bool true => mbind (c Γ) fun w => mbind (mo (g' y.2 w.2)) fun u => mret (.fr [], u)
  | .bool false => mret (.fr [], .bool false)
  | _ => none
/-- and, or of bools -/
def eAnd (a b : EF) : EF := fun Γ => mbind (a Γ) fun x => match x.2 with
  | .bool true => b Γ
  | .bool false => mret (.fr [], .bool false)
  | _ => none
def eOr (a b : EF) : EF := fun Γ => mbind (a Γ) fun x => match x.2 with
  | .bool true => mret (.fr [], .bool true)
  | .bool false => b Γ
  | _ => none
def eNotV (a : EF) : EF := fun Γ => mbind (a Γ) fun x => match x.2 with
  | .bool t => mret (.fr [], .bool (!t))
  | _ => none
def tE (a : EF) : TF := fun Γ => mbind (a Γ) fun x => match x.2 with
  | .bool t => mret t
  | _ => none
def tAndF (a b : TF) : TF := fun Γ => mbind (a Γ) fun x => if x = true then b Γ else mret false
def tOrF (a b : TF) : TF := fun Γ => mbind (a Γ) fun x => if x = true then mret true else b Γ
def tNotF (a : TF) : TF := fun Γ => mbind (a Γ) fun x => mret (!x)
def eArgs : List EF → DEnv → M (List (Kd × PyData))
  | [], _ => mret []
  | f :: r, Γ => mbind (f Γ) fun x => mbind (eArgs r Γ) fun xs => mret (x :: xs)
def kdDisp : List (Kd × PyData) → Kd
  | [] => .fr []
  | (.fr [], _) :: r => kdDisp r
  | _ :: _ => .any
def eTup (fs : List EF) : EF := fun Γ => mbind (eArgs fs Γ) fun xs => mret (nrm (kdDisp xs) (.tuple (xs.map Prod.snd)), .tuple (xs.map Prod.snd))
def eLst (fs : List EF) : EF := fun Γ => mbind (eArgs fs Γ) fun xs => mret (kdDisp xs, .list (xs.map Prod.snd))
def eCB (g : List PyData → Option PyData) (fs : List EF) : EF := fun Γ => mbind (eArgs fs Γ) fun xs => mbind (mo (g (xs.map Prod.snd))) fun z => mret (.fr [], z)
def eCall (F : FF) (fs : List EF) : EF := fun Γ => mbind (eArgs fs Γ) fun xs => mbind (F (xs.map Prod.snd)) fun r => mret (nrm (if r.1 = true then .fr [] else .any) r.2, r.2)

/-! #### operations -/
def gEq (x y : PyData) : Option PyData := if lay 60 x && lay 60 y then some (.bool (PyData.eqv x y)) else none
def gNe (x y : PyData) : Option PyData := if lay 60 x && lay 60 y then some (.bool (!PyData.eqv x y)) else none
def inAny (ys : List PyData) (x : PyData) : Bool := ys.any fun z => PyData.eqv z x
def gIn (x : PyData) : PyData → Option PyData
  | .list ys => if lay 60 x && lays 60 ys then some (.bool (inAny ys x)) else none
  | .tuple ys => if lay 60 x && lays 60 ys then some (.bool (inAny ys x)) else none
  | _ => none
def gNotIn (x : PyData) : PyData → Option PyData
  | .list ys => if lay 60 x && lays 60 ys then some (.bool (!inAny ys x)) else none
  | .tuple ys => if lay 60 x && lays 60 ys then some (.bool (!inAny ys x)) else none
  | _ => none
def isNon : PyData → Bool
  | .none => true
  | _ => false
def gIs (x : PyData) : PyData → Option PyData
  | .none => some (.bool (isNon x))
  | _ => none
def gIsNot (x : PyData) : PyData → Option PyData
  | .none => some (.bool (!isNon x))
  | _ => none
def gSub : PyData → PyData → Option PyData
  | .int i, .int j => some (.int (i - j))
  | _, _ => none
def gFdiv : PyData → PyData → Option PyData
  | .int i, .int j => if 0 < j ∧ j < 2 ^ 64 then some (.int (i / j)) else none
  | _, _ => none
def gMod : PyData → PyData → Option PyData
  | .int i, .int j => if 0 < j then some (.int (i % j)) else none
  | _, _ => none
def gPow : PyData → PyData → Option PyData
  | .int i, .int j => if 0 ≤ j ∧ j ≤ 1000000 ∧ i.natAbs < 2 ^ 64 then some (.int (i ^ j.toNat)) else none
  | _, _ => none
def gLt : PyData → PyData → Option PyData
  | .int i, .int j => some (.bool (decide (i < j)))
  | _, _ => none
def gLe : PyData → PyData → Option PyData
  | .int i, .int j => some (.bool (decide (i ≤ j)))
  | _, _ => none
def gGt : PyData → PyData → Option PyData
  | .int i, .int j => some (.bool (decide (j < i)))
  | _, _ => none
def gNeg : PyData → Option PyData
  | .int i => some (.int (-i))
  | _ => none
def gAdd : PyData → PyData → Option PyData
  | .int i, .int j => some (.int (i + j))
  | .list xs, .list ys => if nols xs && nols ys && decide (xs.length + ys.length ≤ sizeLine) then some (.list (xs ++ ys)) else none
  | .tuple xs, .tuple ys => if nols xs && nols ys && decide (xs.length + ys.length ≤ sizeLine) then some (.tuple (xs ++ ys)) else none
  | .str x, .str y => if x.length + y.length ≤ sizeLine then some (.str (x ++ y)) else none
  | _, _ => none
def gMul : PyData → PyData → Option PyData
  | .int i, .int j => if (-(2 ^ 64) < i ∧ i < 2 ^ 64) ∨ (-(2 ^ 64) < j ∧ j < 2 ^ 64) then some (.int (i * j)) else none
  | _, _ => none
/-- a new list times an int -/
def repL (xs : List PyData) : PyData → M (Kd × PyData)
  | .int k => if nols xs = true ∧ -(2 ^ 63) ≤ k ∧ k < 2 ^ 63 ∧ xs.length * k.toNat ≤ sizeLine then mret (.fr [], .list (List.replicate k.toNat xs).flatten) else none
  | _ => none
def isNew : Kd → Bool
  | .fr [] => true
  | _ => false
def repD (k : Kd) (x y : PyData) : M (Kd × PyData) := if isNew k = true then (match x with
  | .list xs => repL xs y
  | _ => none) else none
def eRep (a b : EF) : EF := fun Γ => mbind (a Γ) fun x => mbind (b Γ) fun y => repD x.1 x.2 y.2
/-- the place that an index of any sign means -/
def ixN (n : Nat) (i : Int) : Option Nat := if 0 ≤ i then (if i < n then some i.toNat else none) else if -(n : Int) ≤ i then some (i + n).toNat else none
def atD {α : Type} (xs : List α) (i : Int) : Option α := (ixN xs.length i).bind fun j => xs[j]?
def gIx : PyData → PyData → Option PyData
  | .list xs, .int i => atD xs i
  | .tuple xs, .int i => atD xs i
  | .str x, .int i => if x.length ≤ sizeLine then (atD x.cps.toList i).map fun c => .str ⟨#[c]⟩ else none
  | _, _ => none
def gLen : List PyData → Option PyData
  | [.list xs] => some (.int xs.length)
  | [.tuple xs] => some (.int xs.length)
  | [.str x] => if x.length ≤ sizeLine then some (.int x.length) else none
  | _ => none
def gList : List PyData → Option PyData
  | [.list xs] => if nols xs then some (.list xs) else none
  | [.tuple xs] => if nols xs then some (.list xs) else none
  | _ => none
def gTuple : List PyData → Option PyData
  | [.list xs] => if nols xs then some (.tuple xs) else none
  | [.tuple xs] => if nols xs then some (.tuple xs) else none
  | _ => none
/-- isinstance(x, T), T a written type -/
def isTy (n : String) : PyData → Bool
  | .none => false
  | .bool _ => n == "bool" || n == "int"
  | .int _ => n == "int"
  | .str _ => n == "str"
  | .list _ => n == "list"
  | .tuple _ => n == "tuple"
  | .dict _ => n == "dict"
def eIsi (n : String) (a : EF) : EF := fun Γ => mbind (a Γ) fun x => mret (.fr [], .bool (isTy n x.2))

/-! #### stores -/
def frz1 (i : Nat) (Γ : DEnv) : DEnv := match Γ[i]? with
  | some (some (_, d)) => Γ.set i (some (false, d))
  | _ => Γ
def frzL (l : List Nat) (Γ : DEnv) : DEnv := l.foldl (fun Γ i => frz1 i Γ) Γ
def frzA (Γ : DEnv) : DEnv := Γ.map fun s => s.map fun p => (false, p.2)
def stor (Γ : DEnv) (i : Nat) (k : Kd) (d : PyData) : DEnv := match k with
  | .fr [] => Γ.set i (some (true, d))
  | .fr (j :: l) => (frzL (j :: l) Γ).set i (some (false, d))
  | .base => Γ.set i (some (false, d))
  | .any => (frzA Γ).set i (some (false, d))
def gNm (i : Nat) : GF := fun k d Γ => some (stor Γ i k d)
/-- the kind of the parts of a tuple -/
def partK : Kd → Kd
  | .fr [] => .fr []
  | .fr (_ :: _) => .any
  | .base => .base
  | .any => .any
def stors (Γ : DEnv) : List Nat → Kd → List PyData → DEnv
  | i :: is, k, d :: ds => stors (stor Γ i (nrm k d) d) is k ds
  | _, _, _ => Γ
def gTp (is : List Nat) : GF := fun k d Γ => match d with
  | .tuple ds => if ds.length = is.length then some (stors Γ is (partK k) ds) else none
  | _ => none
def frzK (k : Kd) (Γ : DEnv) : DEnv := match k with
  | .fr [] => Γ
  | .fr (j :: l) => frzL (j :: l) Γ
  | .base => Γ
  | .any => frzA Γ
/-! #### what is walked -/
def itemsOf : PyData → Option (List PyData)
  | .list xs => some xs
  | .tuple xs => some xs
  | _ => none
def itE (e : EF) : IF := fun Γ => mbind (e Γ) fun x => mbind (mo (itemsOf x.2)) fun ds => mret (x.1, ds)
def rng1 : PyData → M (Kd × List PyData)
  | .int n => if -(2 ^ 62) ≤ n ∧ n < 2 ^ 62 then mret (.fr [], (List.range n.toNat).map fun i => .int (i : Nat)) else none
  | _ => none
def itR1 (e : EF) : IF := fun Γ => mbind (e Γ) fun x => rng1 x.2
/-! #### a comprehension -/
def capD (Γ : DEnv) (ix : List Nat) : DEnv := ix.map fun k => (Γ[k]?).join.map fun p => (false, p.2)
def compD (ft : TF) (fe : EF) (cap : DEnv) : List PyData → Option (List (Kd × PyData))
  | [] => some []
  | d :: ds => match ft (some (false, d) :: cap) with
    | some (.ok true) => match fe (some (false, d) :: cap) with
      | some (.ok x) => (compD ft fe cap ds).map (x :: ·)
      | _ => none
    | some (.ok false) => compD ft fe cap ds
    | _ => none
def kdEl : List (Kd × PyData) → Option Kd
  | [] => some (.fr [])
  | (.fr [], _) :: r => kdEl r
  | (.base, _) :: r => (kdEl r).map fun _ => .any
  | _ :: _ => none
def tYesF : TF := fun _ => mret true
def eComp (it : IF) (ix : List Nat) (ft : TF) (fe : EF) : EF := fun Γ => mbind (it Γ) fun x => mbind (mo (compD ft fe (capD Γ ix) x.2)) fun ys => mbind (mo (kdEl ys)) fun k => if x.2.length ≤ 100000 then mret (k, .list (ys.map Prod.snd)) else none

/-! #### statements -/
def sSeq (f g : SF) : SF := fun Γ => mbind (f Γ) fun o => match o with
  | .nx Γ' => g Γ'
  | o => mret o
def sNil : SF := fun Γ => mret (.nx Γ)
def sBrk : SF := fun Γ => mret (.bk Γ)
def sCnt : SF := fun Γ => mret (.ct Γ)
def isFr : Kd → Bool
  | .fr _ => true
  | _ => false
def sRet (e : EF) : SF := fun Γ => mbind (e Γ) fun x => mret (.rt (isFr x.1) x.2)
def sRetN : SF := fun _ => mret (.rt true .none)
def sSet (i : Nat) (e : EF) : SF := fun Γ => mbind (e Γ) fun x => mret (.nx (stor Γ i x.1 x.2))
def sExp (e : EF) : SF := fun Γ => mbind (e Γ) fun _ => mret (.nx Γ)
def sIf (t : TF) (a b : SF) : SF := fun Γ => mbind (t Γ) fun c => if c = true then a Γ else b Γ
/-- x = y: what y held is x's -/
def sMov (i j : Nat) : SF := fun Γ => match Γ[j]? with
  | some (some (true, d)) => if nol d then mret (.nx (Γ.set i (some (true, d)))) else if i = j then none else mret (.nx ((Γ.set j none).set i (some (true, d))))
  | some (some (false, d)) => mret (.nx (stor Γ i (nrm .base d) d))
  | _ => none
def sAsg (g : GF) (e : EF) : SF := fun Γ => mbind (e Γ) fun x => mbind (mo (g x.1 x.2 Γ)) fun Γ' => mret (.nx Γ')
def forD (g : GF) (b : SF) : List PyData → DEnv → M Out
  | [], Γ => mret (.nx Γ)
  | d :: ds, Γ => mbind (mo (g (nrm .base d) d Γ)) fun Γ1 => mbind (b Γ1) fun o => match o with
    | .nx Γ' => forD g b ds Γ'
    | .ct Γ' => forD g b ds Γ'
    | .bk Γ' => mret (.nx Γ')
    | .rt o d => mret (.rt o d)
def sFor (it : IF) (g : GF) (b : SF) : SF := fun Γ => mbind (it Γ) fun x => forD g b x.2 (frzK x.1 Γ)
/-- xs.append(e), xs a name -/
def sApp (i : Nat) (e : EF) : SF := fun Γ => match Γ[i]? with
  | some (some (true, .list xs)) => mbind (e Γ) fun x => match x.1 with
    | .fr [] => if xs.length < sizeLine then mret (.nx (Γ.set i (some (true, .list (xs ++ [x.2]))))) else none
    | .fr [j] => if xs.length < sizeLine ∧ i ≠ j then mret (.nx ((Γ.set j none).set i (some (true, .list (xs ++ [x.2]))))) else none
    | _ => none
  | _ => none
/-- not one of the names' own lists -/
def notAl : Kd → Bool
  | .fr [] => true
  | .base => true
  | _ => false
def extI (k : Kd) : PyData → Option (List PyData)
  | .list ys => if notAl k = true then some ys else none
  | .tuple ys => some ys
  | _ => none
/-- xs.extend(e) -/
def sExt (i : Nat) (e : EF) : SF := fun Γ => match Γ[i]? with
  | some (some (true, .list xs)) => mbind (e Γ) fun x => match extI x.1 x.2 with
    | some ys => if nols ys = true ∧ xs.length + ys.length ≤ sizeLine then mret (.nx (Γ.set i (some (true, .list (xs ++ ys))))) else none
    | none => none
  | _ => none
/-- xs.clear() -/
def sClr (i : Nat) : SF := fun Γ => match Γ[i]? with
  | some (some (true, .list xs)) => mret (.nx (Γ.set i (some (true, .list []))))
  | _ => none
/-- xs[j] = e -/
def sPut (i : Nat) (j e : EF) : SF := fun Γ => mbind (e Γ) fun x => match Γ[i]? with
  | some (some (true, .list xs)) => mbind (j Γ) fun y => match y.2 with
    | .int n => match ixN xs.length n with
      | some m => if nol x.2 && nols xs then mret (.nx (Γ.set i (some (true, .list (xs.set m x.2))))) else none
      | none => none
    | _ => none
  | _ => none
/-! #### defs -/
def startD (n : Nat) (ds : List PyData) : DEnv := ds.map (fun d => some (false, d)) ++ List.replicate (n - ds.length) none
def runF (n : Nat) (f : SF) : FF := fun ds => mbind (f (startD n ds)) fun o => match o with
  | .rt o d => mret (o, d)
  | .nx _ => mret (true, .none)
  | _ => none
end Y
namespace Y
open PySem
/-- tuple(reversed(xs)) -/
def gRevT : PyData → Option PyData
  | .list xs => if nols xs then some (.tuple xs.reverse) else none
  | _ => none
/-- xs.index(x) -/
def idxD (x : PyData) : List PyData → Option Nat
  | [] => none
  | y :: ys => if PyData.eqv y x then some 0 else (idxD x ys).map (· + 1)
def gIndex : PyData → PyData → Option PyData
  | .list ys, x => if lay 60 x && lays 60 ys then (idxD x ys).map fun (n : Nat) => .int n else none
  | _, _ => none
def eIdx (a b : EF) : EF := fun Γ => mbind (a Γ) fun x => match x.2 with
  | .list ys => mbind (b Γ) fun y => mbind (mo (gIndex (.list ys) y.2)) fun z => mret (.fr [], z)
  | _ => none
/-! #### slices -/
def sIxD (n d : Nat) : Option Int → Nat
  | none => d
  | some v => if v < 0 then (v + (n : Int)).toNat else min v.toNat n
def cutD (xs : List PyData) (lo hi : Option Int) : List PyData := (xs.drop (sIxD xs.length 0 lo)).take (sIxD xs.length xs.length hi - sIxD xs.length 0 lo)
def oI : PyData → M (Option Int)
  | .int n => mret (some n)
  | _ => none
def oE : Option EF → DEnv → M (Option Int)
  | none, _ => mret none
  | some f, Γ => mbind (f Γ) fun x => oI x.2
def gSl (d : PyData) (lo hi : Option Int) : Option PyData := match d with
  | .list xs => if nols xs = true then some (.list (cutD xs lo hi)) else none
  | .tuple xs => if nols xs = true then some (.tuple (cutD xs lo hi)) else none
  | _ => none
def eSl (a : EF) (lo hi : Option EF) : EF := fun Γ => mbind (a Γ) fun x => mbind (oE lo Γ) fun l => mbind (oE hi Γ) fun h => mbind (mo (gSl x.2 l h)) fun z => mret (.fr [], z)
def pickD (xs : List PyData) (lo hi st : Option Int) : List PyData := (sliceRange (sliceBounds lo hi st xs.length).1 (sliceBounds lo hi st xs.length).2.1 (sliceBounds lo hi st xs.length).2.2).filterMap (xs[·]?)
def gSl3 (d : PyData) (lo hi st : Option Int) : Option PyData := match d with
  | .list xs => if nols xs = true ∧ st ≠ some 0 then some (.list (pickD xs lo hi st)) else none
  | _ => none
def eSl3 (a : EF) (lo hi st : Option EF) : EF := fun Γ => mbind (a Γ) fun x => mbind (oE lo Γ) fun l => mbind (oE hi Γ) fun h => mbind (oE st Γ) fun t => mbind (mo (gSl3 x.2 l h t)) fun z => mret (.fr [], z)
/-! #### reversed(t), t a tuple, walked -/
def revI (k : Kd) : PyData → M (Kd × List PyData)
  | .tuple xs => mret (k, xs.reverse)
  | _ => none
def itRev (e : EF) : IF := fun Γ => mbind (e Γ) fun x => revI x.1 x.2
end Y
set_option Elab.async false
set_option linter.all false
namespace Y
open PySem
/-! ### a name for an inner list: `x = n[i]; y = e; x[y] = 1 - x[y]` -/
end Y
namespace Y
open PySem
/-! #### sorted(set(xs)), xs of 0, 1, 2, 3 -/
def isK (k : Nat) : PyData → Bool
  | .int i => i == (k : Int)
  | _ => false
def in4 : PyData → Bool
  | .int i => decide (0 ≤ i) && decide (i < 4)
  | _ => false
def sort4 (xs : List PyData) : List PyData := (([0, 1, 2, 3] : List Nat).filter fun k => xs.any (isK k)).map fun (k : Nat) => .int (k : Int)
def gSortSet : PyData → Option PyData
  | .list xs => if xs.all in4 = true then some (.list (sort4 xs)) else none
  | _ => none
end Y
namespace Y
open PySem
def gGe : PyData → PyData → Option PyData
  | .int i, .int j => some (.bool (decide (j ≤ i)))
  | _, _ => none
theorem gGe_int (i j : Int) : gGe (.int i) (.int j) = some (.bool (decide (j ≤ i))) := rfl
end Y
set_option Elab.async false
set_option linter.all false
/-! ### dicts, by data: keys are tuples of ints, None and such tuples -/
namespace Y
open PySem
mutual
def nest : Nat → PyData → Bool
  | _, .int _ => true
  | _, .none => true
  | n + 1, .tuple ds => nests n ds
  | _, _ => false
def nests : Nat → List PyData → Bool
  | _, [] => true
  | n, d :: ds => nest n d && nests n ds
end
def hashNone : Int := 4238894112
mutual
def hashK : PyData → Int
  | .int i => hashInt i
  | .tuple xs => reduceHash (Builtin.Tuple.tupleHashOf (hashKs xs))
  | _ => hashNone
def hashKs : List PyData → List Int
  | [] => []
  | d :: ds => hashK d :: hashKs ds
end
def keyT : PyData → Bool
  | .tuple ds => nests 7 ds
  | _ => false
def hasK (kvs : List (PyData × PyData)) (x : PyData) : Bool := kvs.any fun p => PyData.eqv p.1 x
def putK (kvs : List (PyData × PyData)) (k v : PyData) : List (PyData × PyData) := if hasK kvs k = true then kvs.map fun p => if PyData.eqv p.1 k = true then (p.1, v) else p else kvs ++ [(k, v)]
def mergK (kvs more : List (PyData × PyData)) : List (PyData × PyData) := more.foldl (fun acc p => putK acc p.1 p.2) kvs
def nolv (kvs : List (PyData × PyData)) : Bool := nols (kvs.map (·.2))
/-- x in y -/
def gInA (x y : PyData) : Option PyData := match y with
  | .dict kvs => if keyT x = true then some (.bool (hasK kvs x)) else none
  | y => gIn x y
/-- {k: v} -/
def eDct1 (a b : EF) : EF := fun Γ => mbind (a Γ) fun x => mbind (b Γ) fun y => if keyT x.2 = true ∧ nol y.2 = true then mret (.fr [], .dict [(x.2, y.2)]) else none
/-- dict(d) -/
def gDictOf : List PyData → Option PyData
  | [.dict kvs] => if kvs.isEmpty = false ∧ nolv kvs = true ∧ (kvs.map fun p => hashK p.1).Nodup then some (.dict kvs) else none
  | _ => none
def offK (i : Nat) : Kd → Bool
  | .fr l => !l.contains i
  | .base => true
  | .any => false
/-- d[k] = v -/
def sPutA (i : Nat) (j e : EF) : SF := fun Γ => match Γ[i]? with
  | some (some (true, .dict kvs)) => mbind (e Γ) fun x => mbind (j Γ) fun y => if keyT y.2 = true ∧ nol x.2 = true ∧ nolv kvs = true ∧ kvs.length < sizeLine then mret (.nx (Γ.set i (some (true, .dict (putK kvs y.2 x.2))))) else none
  | _ => sPut i j e Γ
/-- enumerate(t), t a tuple -/
def enumI : Nat → List PyData → List PyData
  | _, [] => []
  | n, d :: ds => .tuple [.int (n : Int), d] :: enumI (n + 1) ds
def enuI (k : Kd) : PyData → M (Kd × List PyData)
  | .tuple xs => mret (k, enumI 0 xs)
  | _ => none
def itEnum (e : EF) : IF := fun Γ => mbind (e Γ) fun x => enuI x.1 x.2
end Y
set_option Elab.async false
set_option linter.all false
namespace Y
open PySem
def updJ (i : Nat) (k : Kd) (kvs : List (PyData × PyData)) : PyData → Option (List (PyData × PyData))
  | .dict more => if offK i k = true ∧ kvs.isEmpty = false ∧ nolv kvs = true ∧ nolv more = true ∧ (more.all fun p => keyT p.1) = true ∧ kvs.length + more.length ≤ sizeLine then some (mergK kvs more) else none
  | _ => none
/-- d.update(e), d not empty -/
def sUpdJ (i : Nat) (e : EF) : SF := fun Γ => match Γ[i]? with
  | some (some (true, .dict kvs)) => mbind (e Γ) fun x => match updJ i x.1 kvs x.2 with
    | some kvs' => mret (.nx (Γ.set i (some (true, .dict kvs'))))
    | none => none
  | _ => none
end Y
set_option Elab.async false
set_option linter.all false
set_option maxRecDepth 100000
/-! ### keys of dicts: ints, None, tuples of them -/
namespace L2
open PySem Y
mutual
def drawK : PyData → Nat
  | .tuple xs => drawKs xs + 1
  | _ => 1
def drawKs : List PyData → Nat
  | [] => 0
  | d :: ds => drawK d + drawKs ds
end
mutual
def KAt (h : Heap) : PyData → Value → Prop
  | .int i, v => ∃ t, v = .int i t
  | .none, v => v = .none
  | .tuple ds, v => ∃ a o items n, v = .ref a ∧ h.get? a = some o ∧ o.cls = .type "tuple" ∧ o.data = .seq items n ∧ KsAt h ds items.toList
  | _, _ => False
def KsAt (h : Heap) : List PyData → List Value → Prop
  | [], vs => vs = []
  | d :: ds, vs => ∃ v r, vs = v :: r ∧ KAt h d v ∧ KsAt h ds r
end
mutual
theorem KAt.reads {h : Heap} : ∀ (d : PyData) (v : Value), KAt h d v → Reads h v d []
  | .int i, v, x => by simp only [KAt] at x; obtain ⟨t, rfl⟩ := x; exact .int i t
  | .none, v, x => by simp only [KAt] at x; subst x; exact .none
  | .tuple ds, v, x => by
    simp only [KAt] at x
    obtain ⟨a, o, items, n, rfl, h1, h2, h3, h4⟩ := x
    exact .tuple h1 h2 h3 (KsAt.reads ds _ h4)
  | .bool _, v, x => by simp only [KAt] at x
  | .str _, v, x => by simp only [KAt] at x
  | .list _, v, x => by simp only [KAt] at x
  | .dict _, v, x => by simp only [KAt] at x
theorem KsAt.reads {h : Heap} : ∀ (ds : List PyData) (vs : List Value), KsAt h ds vs → ReadsAll h vs ds []
  | [], vs, x => by simp only [KsAt] at x; subst x; exact .nil
  | d :: ds, vs, x => by
    simp only [KsAt] at x
    obtain ⟨v, r, rfl, h1, h2⟩ := x
    exact .cons (KAt.reads d v h1) (KsAt.reads ds r h2)
end
mutual
theorem nest_lay : ∀ (n : Nat) (d : PyData), nest n d = true → d.canLay0 = true
  | _, .int _, _ => rfl
  | _, .none, _ => rfl
  | n + 1, .tuple ds, x => by rw [nest] at x; simp only [PyData.canLay0]; exact nests_lay n ds x
  | 0, .tuple _, x => by simp [nest] at x
  | 0, .bool _, x => by simp [nest] at x
  | 0, .str _, x => by simp [nest] at x
  | 0, .list _, x => by simp [nest] at x
  | 0, .dict _, x => by simp [nest] at x
  | _ + 1, .bool _, x => by simp [nest] at x
  | _ + 1, .str _, x => by simp [nest] at x
  | _ + 1, .list _, x => by simp [nest] at x
  | _ + 1, .dict _, x => by simp [nest] at x
theorem nests_lay : ∀ (n : Nat) (ds : List PyData), nests n ds = true → PyData.canLayAll0 ds = true
  | _, [], _ => rfl
  | n, d :: ds, x => by
    rw [nests, Bool.and_eq_true] at x
    simp only [PyData.canLayAll0, nest_lay n d x.1, nests_lay n ds x.2, Bool.and_self]
end
mutual
theorem nest_depth : ∀ (n : Nat) (d : PyData), nest n d = true → d.depth ≤ n + 1
  | _, .int _, _ => by simp [PyData.depth]
  | _, .none, _ => by simp [PyData.depth]
  | n + 1, .tuple ds, x => by rw [nest] at x; have := nests_depth n ds x; simp only [PyData.depth]; omega
  | 0, .tuple _, x => by simp [nest] at x
  | 0, .bool _, x => by simp [nest] at x
  | 0, .str _, x => by simp [nest] at x
  | 0, .list _, x => by simp [nest] at x
  | 0, .dict _, x => by simp [nest] at x
  | _ + 1, .bool _, x => by simp [nest] at x
  | _ + 1, .str _, x => by simp [nest] at x
  | _ + 1, .list _, x => by simp [nest] at x
  | _ + 1, .dict _, x => by simp [nest] at x
theorem nests_depth : ∀ (n : Nat) (ds : List PyData), nests n ds = true → PyData.depthAll ds ≤ n + 1
  | _, [], _ => by simp [PyData.depthAll]
  | n, d :: ds, x => by
    rw [nests, Bool.and_eq_true] at x
    have h1 := nest_depth n d x.1
    have h2 := nests_depth n ds x.2
    simp only [PyData.depthAll]; omega
end
mutual
theorem nest_eqv : ∀ (n : Nat) (x y : PyData), nest n x = true → nest n y = true → PyData.eqv x y = true → x = y
  | _, .none, .none, _, _, _ => rfl
  | _, .int i, .int j, _, _, h => by simp [PyData.eqv] at h; rw [h]
  | n + 1, .tuple xs, .tuple ys, hx, hy, h => by
    rw [nest] at hx hy
    simp only [PyData.eqv] at h
    rw [nests_eqv n xs ys hx hy h]
  | 0, .tuple _, _, hx, _, _ => by simp [nest] at hx
  | 0, _, .tuple _, _, hy, _ => by simp [nest] at hy
  | _, .none, .int _, _, _, h => by simp [PyData.eqv] at h
  | _, .none, .tuple _, _, _, h => by simp [PyData.eqv] at h
  | _, .int _, .none, _, _, h => by simp [PyData.eqv] at h
  | _, .int _, .tuple _, _, _, h => by simp [PyData.eqv] at h
  | _, .tuple _, .none, _, _, h => by simp [PyData.eqv] at h
  | _, .tuple _, .int _, _, _, h => by simp [PyData.eqv] at h
  | n, .bool _, _, hx, _, _ => by cases n <;> simp [nest] at hx
  | n, .str _, _, hx, _, _ => by cases n <;> simp [nest] at hx
  | n, .list _, _, hx, _, _ => by cases n <;> simp [nest] at hx
  | n, .dict _, _, hx, _, _ => by cases n <;> simp [nest] at hx
  | n, _, .bool _, _, hy, _ => by cases n <;> simp [nest] at hy
  | n, _, .str _, _, hy, _ => by cases n <;> simp [nest] at hy
  | n, _, .list _, _, hy, _ => by cases n <;> simp [nest] at hy
  | n, _, .dict _, _, hy, _ => by cases n <;> simp [nest] at hy
theorem nests_eqv : ∀ (n : Nat) (xs ys : List PyData), nests n xs = true → nests n ys = true → PyData.eqvAll xs ys = true → xs = ys
  | _, [], [], _, _, _ => rfl
  | n, x :: xs, y :: ys, hx, hy, h => by
    rw [nests, Bool.and_eq_true] at hx hy
    simp only [PyData.eqvAll, Bool.and_eq_true] at h
    rw [nest_eqv n x y hx.1 hy.1 h.1, nests_eqv n xs ys hx.2 hy.2 h.2]
  | _, [], _ :: _, _, _, h => by simp [PyData.eqvAll] at h
  | _, _ :: _, [], _, _, h => by simp [PyData.eqvAll] at h
end
section
variable {prog : Program} {w : World} {A : Around} {E : Value → Shared → Prop} {s : Shared}
theorem hash_none {Q : Int → Shared → Prop} (hu : A.units < cLine) (h : Q hashNone { s with toks := s.toks + 1 }) : wpAny (model prog w) A (pyHash .none) Q E s := by
  have hT := typeIs_none s
  unfold pyHash; unfold pyHashByItsType
  refine wpAny_bind (wpAny_cRoomFor_or (.inr hu) ?_); refine wpAny_bind (wpAny_specialOf hT F.slot_NoneType_hash.lookup ?_)
  rw [if_neg (by decide)]
  refine wpAny_bind (wpAny_specialOf hT F.slot_NoneType_hash.lookup ?_)
  show wpAny _ _ (callSpecialIfBoundUnlessNone? .none "__hash__" _ >>= _) Q E s
  refine wpAny_bind (wpAny_callSpecialIfBoundUnlessNone?_slot hT F.slot_NoneType_hash (wpAny_call_entry F.slot_NoneType_hash hT F.entry_NoneType_hash ?_ (F.args_NoneType_hash_1 _)))
  show wpAny _ _ (retInt 0xFCA86420) _ _ s
  refine wpAny_ret_mkInt ?_
  exact wpAny_pure h
mutual
theorem hash_at : ∀ (n : Nat) (d : PyData) {A : Around} {E : Value → Shared → Prop} {s : Shared} {v : Value} {Q : Int → Shared → Prop}, nest n d = true → KAt s.heap d v → A.units + n < cLine → Q (hashK d) { s with toks := s.toks + drawK d } → wpAny (model prog w) A (pyHash v) Q E s
  | n, .int i, A, E, s, v, Q, _, x, _, h => by
    simp only [KAt] at x; obtain ⟨t, rfl⟩ := x
    exact (intKind prog w).pyHash (k := i) (by simp [intKind, Value.isInt]) h
  | n, .none, A, E, s, v, Q, _, x, hu, h => by
    simp only [KAt] at x; subst x
    exact hash_none (by omega) h
  | n + 1, .tuple ds, A, E, s, v, Q, hn, x, hu, h => by
    rw [nest] at hn
    simp only [KAt] at x
    obtain ⟨a, o, items, m, rfl, ho, hc, hd, hi⟩ := x
    have hT : s.TypeIs (.ref a) "tuple" := ⟨o, ho, hc⟩
    unfold pyHash; unfold pyHashByItsType
    refine wpAny_bind (wpAny_cRoomFor_or (.inr (by omega)) ?_); refine wpAny_bind (wpAny_specialOf hT F.slot_tuple_hash.lookup ?_)
    rw [if_neg (by rw [beq_builtin_none]; decide)]
    refine wpAny_bind (wpAny_specialOf hT F.slot_tuple_hash.lookup ?_)
    show wpAny (model prog w) A (callSpecialIfBoundUnlessNone? (.ref a) "__hash__" _ >>= _) Q E s
    refine wpAny_bind (wpAny_callSpecialIfBoundUnlessNone?_slot hT F.slot_tuple_hash (wpAny_call_entry F.slot_tuple_hash hT F.entry_tuple_hash ?_ (F.args_tuple_hash_1 _)))
    show wpAny (model prog w) A.in1 (Builtin.Tuple.tupleItemsOf (.ref a) >>= _) _ _ s
    refine wpAny_bind (wpAny_tupleItemsOf ho hd ?_); refine wpAny_bind ?_
    rw [← Array.forIn_toList]
    refine hashes_at n ds #[] hn hi (by show A.units + 1 + n < cLine; omega) fun b hb => ?_
    rw [List.nil_append] at hb
    show wpAny (model prog w) A.in1 (retInt (Builtin.Tuple.tupleHashOf b.toList)) _ _ _
    rw [hb]
    refine wpAny_ret_mkInt ?_
    simp only [hashK, reduceHash, drawK] at h
    show wpAny (model prog w) A (if (decide (-(2 : Int) ^ 63 ≤ Builtin.Tuple.tupleHashOf (hashKs ds)) && decide (Builtin.Tuple.tupleHashOf (hashKs ds) < 2 ^ 63)) = true then _ else _) Q E _
    by_cases hr : (decide (-(2 : Int) ^ 63 ≤ Builtin.Tuple.tupleHashOf (hashKs ds)) && decide (Builtin.Tuple.tupleHashOf (hashKs ds) < 2 ^ 63)) = true
    · rw [if_pos hr]; rw [if_pos hr] at h
      exact wpAny_pure (by simpa [Nat.add_assoc] using h)
    · rw [if_neg hr]; rw [if_neg hr] at h
      exact wpAny_bind (wpAny_rule (wpAny_pure (by simpa [Nat.add_assoc] using h)))
  | 0, .tuple _, _, _, _, _, _, hn, _, _, _ => by simp [nest] at hn
  | n, .bool _, _, _, _, _, _, hn, _, _, _ => by cases n <;> simp [nest] at hn
  | n, .str _, _, _, _, _, _, hn, _, _, _ => by cases n <;> simp [nest] at hn
  | n, .list _, _, _, _, _, _, hn, _, _, _ => by cases n <;> simp [nest] at hn
  | n, .dict _, _, _, _, _, _, hn, _, _, _ => by cases n <;> simp [nest] at hn
theorem hashes_at : ∀ (n : Nat) (ds : List PyData) {A : Around} {E : Value → Shared → Prop} {s : Shared} {vs : List Value} {Q : Array Int → Shared → Prop} (b0 : Array Int), nests n ds = true → KsAt s.heap ds vs → A.units + n < cLine →
    (∀ b : Array Int, b.toList = b0.toList ++ hashKs ds → Q b { s with toks := s.toks + drawKs ds }) →
    wpAny (model prog w) A (forIn vs b0 fun x r => do let y ← pyHash x; pure (ForInStep.yield (r.push y))) Q E s
  | _, [], A, E, s, vs, Q, b0, _, x, _, h => by
    simp only [KsAt] at x; subst x
    rw [List.forIn_nil]
    exact wpAny_pure (h b0 (by simp [hashKs]))
  | n, d :: ds, A, E, s, vs, Q, b0, hn, x, hu, h => by
    simp only [KsAt] at x
    obtain ⟨v, r, rfl, h1, h2⟩ := x
    rw [nests, Bool.and_eq_true] at hn
    rw [List.forIn_cons]
    refine wpAny_bind (wpAny_bind (hash_at n d hn.1 h1 hu (wpAny_pure ?_)))
    refine hashes_at n ds (s := { s with toks := s.toks + drawK d }) (b0.push (hashK d)) hn.2 h2 hu fun b hb => ?_
    have := h b (by rw [hb]; simp [hashKs])
    simpa [drawKs, Nat.add_assoc] using this
end
mutual
theorem quiet_at : ∀ (n : Nat) (d : PyData) {A : Around} {E : Value → Shared → Prop} {s : Shared} {v : Value} {Q : Bool → Shared → Prop}, nest n d = true → KAt s.heap d v → Q true s → wpAny (model prog w) A (eqIsQuiet n v) Q E s
  | n, .int i, A, E, s, v, Q, _, x, h => by
    simp only [KAt] at x; obtain ⟨t, rfl⟩ := x
    rw [eqIsQuiet_byValue n rfl]; exact wpAny_pure h
  | n, .none, A, E, s, v, Q, _, x, h => by
    simp only [KAt] at x; subst x
    rw [eqIsQuiet_byValue n rfl]; exact wpAny_pure h
  | n + 1, .tuple ds, A, E, s, v, Q, hn, x, h => by
    rw [nest] at hn
    simp only [KAt] at x
    obtain ⟨a, o, items, m, rfl, ho, hc, hd, hi⟩ := x
    have hT : s.TypeIs (.ref a) "tuple" := ⟨o, ho, hc⟩
    unfold eqIsQuiet
    refine wpAny_bind (wpAny_specialOf hT F.slot_tuple_eq.lookup ?_); dsimp only
    refine wpAny_bind (wpAny_isInstance hT isSubtype_tuple_tuple ?_)
    simp only [Bool.not_true, Bool.false_eq_true, if_false]
    refine wpAny_bind (wpAny_seqItems ho hd ?_); refine wpAny_bind ?_
    show wpAny (model prog w) A (forIn items _ _) _ E s
    rw [← Array.forIn_toList]
    exact quiets_at n ds hn hi (wpAny_pure h)
  | 0, .tuple _, _, _, _, _, _, hn, _, _ => by simp [nest] at hn
  | n, .bool _, _, _, _, _, _, hn, _, _ => by cases n <;> simp [nest] at hn
  | n, .str _, _, _, _, _, _, hn, _, _ => by cases n <;> simp [nest] at hn
  | n, .list _, _, _, _, _, _, hn, _, _ => by cases n <;> simp [nest] at hn
  | n, .dict _, _, _, _, _, _, hn, _, _ => by cases n <;> simp [nest] at hn
theorem quiets_at : ∀ (n : Nat) (ds : List PyData) {A : Around} {E : Value → Shared → Prop} {s : Shared} {vs : List Value} {Q : Option Bool × PUnit → Shared → Prop}, nests n ds = true → KsAt s.heap ds vs → Q (none, PUnit.unit) s →
    wpAny (model prog w) A (forIn vs ((none, PUnit.unit) : Option Bool × PUnit) fun x r => do let y ← eqIsQuiet n x; if (!y) = true then pure (ForInStep.done (some false, PUnit.unit)) else pure (ForInStep.yield (none, PUnit.unit))) Q E s
  | _, [], A, E, s, vs, Q, _, x, h => by
    simp only [KsAt] at x; subst x
    rw [List.forIn_nil]
    exact wpAny_pure h
  | n, d :: ds, A, E, s, vs, Q, hn, x, h => by
    simp only [KsAt] at x
    obtain ⟨v, r, rfl, h1, h2⟩ := x
    rw [nests, Bool.and_eq_true] at hn
    rw [List.forIn_cons]
    refine wpAny_bind (wpAny_bind (quiet_at n d hn.1 h1 ?_))
    simp only [Bool.not_true, Bool.false_eq_true, if_false]
    exact wpAny_pure (quiets_at n ds hn.2 h2 h)
end
end
end L2
set_option Elab.async false
set_option linter.all false
set_option maxRecDepth 100000
/-! ### dicts whose keys lie in the heap: written by hash, copied, merged -/
namespace L2
open PySem Y
section
variable {prog : Program} {w : World} {K : Type} [DecidableEq K] {knd : HeapKind prog w K} {A : Around} {E : Value → Shared → Prop} {s : Shared}
theorem setH {d a : Addr} {xs : List (K × Addr × Value)} {k : K} {v : Value} {Q : Unit → Shared → Prop} (hu : knd.room A) (hkey : knd.is s.heap k a) (hm : s.heap.DictOfH knd d xs) (hsz : xs.length ≤ sizeLine)
    (hQ : ∀ h', h'.DictOfH knd d (storedH xs k a v) → Heap.SameBut d s.heap h' → Q () { s with heap := h' }) : wpAny (model prog w) A (dictSetHashed d (.ref a) (knd.hash k) v) Q E s := by
  obtain ⟨o, es, ep, ho, hc, hd, he, his, hn⟩ := hm
  have hes : es.size ≤ sizeLine := by rw [size_of_entries he]; exact hsz
  unfold dictSetHashed
  refine wpAny_holding ?_
  refine wpAny_bind (wpAny_dictFind_heap hu hkey ho hd he his hn (fun hno => ?_) fun j p hj => ?_)
  · have h1 := storedH_new (atKey_none_of_get hno) a v
    refine wpAny_bind (wpAny_rule (wpAny_updateDictKeys (hz := hes) ho hd (hQ _ ⟨_, _, ep + 1, Heap.get?_update_self _ ho (Obj.isFreed_of_dict (Obj.data_mapDictKeys hd _)), hc.mapDictKeys _, Obj.data_mapDictKeys hd _, ?_, fun x hx => ?_, ?_⟩ (Heap.SameBut.update ..))))
    · rw [h1]; simp [he, entryOfKey]
    · rw [h1] at hx
      rcases List.mem_append.mp hx with hx | hx
      · exact knd.keeps (his x hx) ho hd (Heap.SameBut.update ..)
      · rw [List.mem_singleton.mp hx]; exact knd.keeps hkey ho hd (Heap.SameBut.update ..)
    · rw [h1, List.map_append, List.nodup_append]
      refine ⟨hn, List.nodup_cons.mpr ⟨by simp, List.nodup_nil⟩, fun x hx y hy e => not_mem_keys_of_get hno ?_⟩
      have hy' : y = k := by simpa using hy
      rw [← hy', ← e]; exact hx
  · have h1 := storedH_old (atKey_of_get hn hj) a v
    refine wpAny_bind (wpAny_rule (wpAny_bind (wpAny_updateDict ho hd (wpAny_point (hQ _ ⟨_, _, ep, Heap.get?_update_self _ ho (Obj.isFreed_of_dict (Obj.data_mapDict hd _)), hc.mapDict _, Obj.data_mapDict hd _, ?_, fun x hx => ?_, ?_⟩ (Heap.SameBut.update ..))))))
    · rw [h1]
      have := modify_map_putAt (entryOfKey knd) (fun e : DictEntry => { e with val := v }) k v (fun _ _ => rfl) hn hj
      rw [← he] at this; obtain ⟨l⟩ := es; simpa using this
    · rw [h1] at hx
      obtain ⟨y, hy, rfl⟩ := List.mem_map.mp hx
      unfold putAt; split <;> exact knd.keeps (his y hy) ho hd (Heap.SameBut.update ..)
    · rw [h1, keys_map_putAt]; exact hn
def mergedH (xs more : List (K × Addr × Value)) : List (K × Addr × Value) := more.foldl (fun acc x => storedH acc x.1 x.2.1 x.2.2) xs
theorem storedH_len (xs : List (K × Addr × Value)) (k : K) (a : Addr) (v : Value) : (storedH xs k a v).length ≤ xs.length + 1 := by
  unfold storedH; split
  · rw [List.length_map]; omega
  · rw [List.length_append, List.length_singleton]; exact Nat.le_refl _
theorem mergedH_len : ∀ (more xs : List (K × Addr × Value)), (mergedH xs more).length ≤ xs.length + more.length
  | [], xs => Nat.le_refl _
  | x :: more, xs => by
    have h1 := mergedH_len more (storedH xs x.1 x.2.1 x.2.2)
    have h2 := storedH_len xs x.1 x.2.1 x.2.2
    show (mergedH (storedH xs x.1 x.2.1 x.2.2) more).length ≤ _
    rw [List.length_cons]; omega
theorem mergedH_step {xs more : List (K × Addr × Value)} {i : Nat} {x : K × Addr × Value} (h : more[i]? = some x) : mergedH xs (more.take (i + 1)) = storedH (mergedH xs (more.take i)) x.1 x.2.1 x.2.2 := by
  unfold mergedH; rw [List.take_add_one, h, List.foldl_append]; rfl
/-- d.update(o), d not empty -/
theorem mergeH {nm : String} {d o : Addr} {xs more : List (K × Addr × Value)} {Q : Unit → Shared → Prop} (hu : knd.room A) (hdo : d ≠ o) (hoS : (o == sysModules) = false) (hx0 : xs ≠ [])
    (hd : s.heap.DictOfH knd d xs) (ho : s.heap.DictOfH knd o more) (hsz : xs.length + more.length ≤ sizeLine)
    (hQ : ∀ h', h'.DictOfH knd d (mergedH xs more) → Heap.SameBut d s.heap h' → Q () { s with heap := h' }) : wpAny (model prog w) A (Builtin.Dict.mergeDict nm d o) Q E s := by
  obtain ⟨od, esd, epd, hod, hcd, hdd, hed, hisd, hnd⟩ := id hd
  obtain ⟨oo, eso, epo, hoo, hco, hdo', heo, hiso, hno⟩ := id ho
  have hlen : eso.size = more.length := size_of_entries heo
  unfold Builtin.Dict.mergeDict
  rw [if_neg (by simpa using hdo)]
  unfold Builtin.Dict.showsAll
  rw [if_neg (by rw [hoS]; exact Bool.false_ne_true)]
  refine wpAny_bind (wpAny_pure ?_); refine wpAny_bind (wpAny_dictEntries hoo hdo' ?_)
  have loop : wpAny (model prog w) A (do
      let epoch ← dictEpoch o; let l ← dictEntries o
      forIn [:l.size] PUnit.unit fun i (_ : PUnit) => (do
          let l' ← dictEntries o
          match l'[i]? with
            | some e => do
              holding [e.key, e.val] (dictSetHashed d e.key e.hash e.val)
              let ep' ← dictEpoch o
              if (ep' != epoch) = true then do
                  (unsupported (toString nm ++ toString ":source-changed-during-callback") : Sem PUnit); pure (ForInStep.yield PUnit.unit)
                else pure (ForInStep.yield PUnit.unit)
            | _ => do
              (unsupported "internal:dict-merge" : Sem PUnit); pure (ForInStep.yield PUnit.unit) : Sem (ForInStep PUnit))
      pure ()) Q E s := by
    refine wpAny_bind (wpAny_dictEpoch hoo hdo' ?_); refine wpAny_bind (wpAny_dictEntries hoo hdo' ?_); refine wpAny_bind ?_
    rw [Std.Legacy.Range.forIn_eq_forIn_range']; simp only [Std.Legacy.Range.size, Nat.sub_zero, Nat.add_sub_cancel, Nat.div_one]
    refine wpAny_forIn_list _ (fun rest _ s' => ∃ h' i, s' = { s with heap := h' } ∧ rest = List.range' i (eso.size - i) ∧ i ≤ eso.size ∧ h'.DictOfH knd d (mergedH xs (more.take i)) ∧ h'.get? o = some oo ∧ Heap.SameBut d s.heap h')
      _ ?_ ?_ _ _ ⟨s.heap, 0, rfl, by simp, Nat.zero_le _, by simpa [mergedH] using hd, hoo, Heap.SameBut.refl _ _⟩
    · rintro x rest b s' ⟨h', i, rfl, hr, hi, hd', hoo', hs'⟩
      have hlt : i < eso.size := Nat.lt_of_not_le fun h => by rw [Nat.sub_eq_zero_of_le h] at hr; simp at hr
      obtain ⟨rfl, hrest⟩ : x = i ∧ rest = List.range' (i + 1) (eso.size - (i + 1)) := by
        rw [show eso.size - i = (eso.size - (i + 1)) + 1 by omega, List.range'_succ] at hr; injection hr with h1 h2; exact ⟨h1, h2⟩
      refine wpAny_bind (wpAny_dictEntries hoo' hdo' ?_)
      have hxm : x < more.length := by omega
      have hkv : more[x]? = some more[x] := List.getElem?_eq_getElem hxm
      have hen : eso[x]? = some (entryOfKey knd more[x]) := by rw [entry_at heo x, hkv]; rfl
      rw [hen]
      have hmx : (mergedH xs (more.take x)).length ≤ sizeLine := by
        have e1 := mergedH_len (more.take x) xs
        rw [List.length_take] at e1; omega
      have hkx : knd.is h' more[x].1 more[x].2.1 := knd.keeps (hiso _ (List.getElem_mem hxm)) hod hdd hs'
      refine wpAny_bind (wpAny_holding (setH (s := { s with heap := h' }) hu hkx hd' hmx fun h'' hd'' hs'' => ?_))
      have hoo'' : h''.get? o = some oo := (hs''.2 o (Ne.symm hdo)).trans hoo'
      refine wpAny_bind (wpAny_dictEpoch hoo'' hdo' ?_)
      rw [if_neg (by simp)]
      exact wpAny_pure ⟨h'', x + 1, rfl, hrest, hlt, by rw [mergedH_step hkv]; exact hd'', hoo'', hs'.trans hs''⟩
    · rintro b s' ⟨h', i, rfl, hr, hi, hd', hoo', hs'⟩
      have hin : i = eso.size := Nat.le_antisymm hi (Nat.le_of_not_lt fun h => by
        rw [show eso.size - i = (eso.size - (i + 1)) + 1 by omega, List.range'_succ] at hr; exact nomatch hr)
      refine wpAny_pure (hQ h' ?_ hs')
      rw [hin, hlen, List.take_length] at hd'; exact hd'
  dsimp only
  split
  · refine wpAny_bind (wpAny_dictEntries hod hdd ?_)
    split
    · rename_i hemp
      have h0 : esd = #[] := Array.isEmpty_iff.mp hemp
      rw [h0] at hed
      exact absurd (by simpa using hed) hx0
    · exact loop
  · exact loop
theorem filter_one {α : Type} (f : α → Int) (c : Int) : ∀ (l : List α), (l.map f).Nodup → (l.filter fun x => f x == c).length ≤ 1
  | [], _ => Nat.zero_le _
  | x :: l, h => by
    rw [List.map_cons, List.nodup_cons] at h
    rw [List.filter_cons]
    by_cases hx : (f x == c) = true
    · rw [if_pos hx, List.length_cons]
      have : l.filter (fun x => f x == c) = [] := List.filter_eq_nil_iff.mpr fun y hy hz => h.1 (by
        rw [eq_of_beq hx, ← eq_of_beq hz]; exact List.mem_map_of_mem hy)
      rw [this]; exact Nat.le_refl _
    · rw [if_neg hx]; exact filter_one f c l h.2
/-- into an empty dict -/
theorem fillH {nm : String} {d o : Addr} {more : List (K × Addr × Value)} {Q : Unit → Shared → Prop} (hdo : d ≠ o) (hoS : (o == sysModules) = false) (hm0 : more ≠ [])
    (hT : ∀ x ∈ more, s.TypeIs (.ref x.2.1) "tuple") (hh : (more.map fun x => knd.hash x.1).Nodup)
    (hd : s.heap.DictOfH knd d []) (ho : s.heap.DictOfH knd o more) (hsz : more.length ≤ sizeLine)
    (hQ : ∀ h', h'.DictOfH knd d more → Heap.SameBut d s.heap h' → Q () { s with heap := h' }) : wpAny (model prog w) A (Builtin.Dict.mergeDict nm d o) Q E s := by
  obtain ⟨od, esd, epd, hod, hcd, hdd, hed, hisd, hnd⟩ := id hd
  obtain ⟨oo, eso, epo, hoo, hco, hdo', heo, hiso, hno⟩ := id ho
  have hlen : eso.size = more.length := size_of_entries heo
  have h0 : esd = #[] := by obtain ⟨l⟩ := esd; simpa using hed
  subst h0
  unfold Builtin.Dict.mergeDict
  rw [if_neg (by simpa using hdo)]
  unfold Builtin.Dict.showsAll
  rw [if_neg (by rw [hoS]; exact Bool.false_ne_true)]
  refine wpAny_bind (wpAny_pure ?_); refine wpAny_bind (wpAny_dictEntries hoo hdo' ?_)
  have few : (eso.all fun e => (keyPart e.key).isSome) = false := by
    obtain ⟨x, r, rfl⟩ := List.exists_cons_of_ne_nil hm0
    obtain ⟨l⟩ := eso
    simp only at heo
    subst heo
    simp [entryOfKey, keyPart]
  dsimp only
  rw [few]
  simp only [Bool.and_false, Bool.not_false, if_true]
  refine wpAny_bind (wpAny_dictEntries hod hdd ?_)
  rw [if_pos (show (#[] : Array DictEntry).isEmpty = true from rfl)]
  refine wpAny_bind ?_
  unfold Builtin.Dict.entriesForEmpty
  refine wpAny_bind (wpAny_dictEntries hoo hdo' ?_); refine wpAny_bind ?_
  rw [← Array.forIn_toList]
  refine wpAny_forIn_list _ (fun rest _ s' => s' = s ∧ ∀ e ∈ rest, e ∈ eso.toList) _ ?_ ?_ _ _ ⟨rfl, fun e he => he⟩
  · rintro e rest b s' ⟨rfl, hr⟩
    obtain ⟨x, hx, rfl⟩ : ∃ x ∈ more, entryOfKey knd x = e := by
      have := hr e List.mem_cons_self
      rw [heo] at this
      obtain ⟨x, hx, he⟩ := List.mem_map.mp this
      exact ⟨x, hx, he⟩
    have hT1 := hT x hx
    have hone : ¬ (eso.filter fun y => y.hash == (entryOfKey knd x).hash).size > 1 := by
      have e1 : (eso.toList.map DictEntry.hash).Nodup := by rw [heo, List.map_map]; exact hh
      have := filter_one DictEntry.hash (entryOfKey knd x).hash eso.toList e1
      rw [← Array.length_toList, Array.toList_filter]; omega
    unfold Builtin.Dict.quietEq
    refine wpAny_bind ?_
    show wpAny (model prog w) A (specialOf (.ref x.2.1) "__eq__" >>= _) _ E _
    refine wpAny_bind (wpAny_specialOf hT1 F.slot_tuple_eq.lookup (wpAny_pure ?_))
    rw [show ((some (Value.builtin "tuple.__eq__") == some (Value.builtin "object.__eq__")) = false) by decide]
    simp only [Bool.not_false, if_true]
    rw [if_neg hone]
    exact wpAny_pure ⟨rfl, fun e he => hr e (List.mem_cons_of_mem _ he)⟩
  · rintro b s' ⟨rfl, _⟩
    refine wpAny_pure ?_
    have hne : eso.isEmpty = false := by
      cases hz : eso.isEmpty with
      | false => rfl
      | true => rw [Array.isEmpty_iff.mp hz] at hlen; exact absurd (List.length_eq_zero_iff.mp hlen.symm) hm0
    rw [hne]
    simp only [Bool.not_false, if_true]
    refine wpAny_bind (wpAny_updateDictKeysTo hod hdd (wpAny_pure (hQ _ ⟨_, _, epd + 1, Heap.get?_update_self _ hod (Obj.isFreed_of_dict (Obj.data_mapDictKeys hdd _)), hcd.mapDictKeys _, Obj.data_mapDictKeys hdd _, heo, fun x hx => knd.keeps (hiso x hx) hod hdd (Heap.SameBut.update ..), hno⟩ (Heap.SameBut.update ..))) (by omega))
end
end L2
set_option Elab.async false
set_option linter.all false
set_option maxRecDepth 100000
namespace L2
open PySem Y
mutual
theorem KAt.keep {h h' : Heap} (k : ∀ b o items n, h.get? b = some o → o.data = .seq items n → h'.get? b = some o) : ∀ (d : PyData) (v : Value), KAt h d v → KAt h' d v
  | .int i, v, x => by simp only [KAt] at x ⊢; exact x
  | .none, v, x => by simp only [KAt] at x ⊢; exact x
  | .tuple ds, v, x => by
    simp only [KAt] at x ⊢
    obtain ⟨a, o, items, n, rfl, h1, h2, h3, h4⟩ := x
    exact ⟨a, o, items, n, rfl, k a o items n h1 h3, h2, h3, KsAt.keep k ds _ h4⟩
  | .bool _, v, x => by simp only [KAt] at x
  | .str _, v, x => by simp only [KAt] at x
  | .list _, v, x => by simp only [KAt] at x
  | .dict _, v, x => by simp only [KAt] at x
theorem KsAt.keep {h h' : Heap} (k : ∀ b o items n, h.get? b = some o → o.data = .seq items n → h'.get? b = some o) : ∀ (ds : List PyData) (vs : List Value), KsAt h ds vs → KsAt h' ds vs
  | [], vs, x => by simp only [KsAt] at x ⊢; exact x
  | d :: ds, vs, x => by
    simp only [KsAt] at x ⊢
    obtain ⟨v, r, rfl, h1, h2⟩ := x
    exact ⟨v, r, rfl, KAt.keep k d v h1, KsAt.keep k ds r h2⟩
end
def NK := { ds : List PyData // nests 7 ds = true }
noncomputable instance : DecidableEq NK := fun _ _ => Classical.propDecidable _
def NK.d (k : NK) : PyData := .tuple k.1
theorem NK.n (k : NK) : nest 8 k.d = true := by rw [NK.d, nest]; exact k.2
theorem NK.inj {x y : NK} (h : x.d = y.d) : x = y := Subtype.ext (PyData.tuple.inj h)
noncomputable def nestKind (prog : Program) (w : World) : HeapKind prog w NK where
  is := fun h k a => KAt h k.d (.ref a)
  hash := fun k => hashK k.d
  draws := fun k => drawK k.d
  room := fun A => A.units + 10 < cLine
  inj := fun {h a x y} hx hy => NK.inj (SeqAt.Reads.unique _ _ _ _ _ (nest_lay 8 _ x.n) (KAt.reads _ _ hx) (KAt.reads _ _ hy))
  keeps := fun {h h' k a d o es ep} x ho hd hs => KAt.keep (fun b ob items n hb hdb => (hs.2 b fun e => by subst e; rw [ho] at hb; cases hb; rw [hd] at hdb; cases hdb).trans hb) _ _ x
  pyHash := fun {A E s k a Q} hu x h => hash_at 8 k.d k.n x (by omega) h
  eqBool := fun {A E s x y a b Q} hu hx hy h => by
    have h1 := SeqAt.eqAt_reads x.d y.d A s (.ref a) (.ref b) [] [] (KAt.reads _ _ hx) (KAt.reads _ _ hy) (nest_lay 8 _ x.n) (nest_lay 8 _ y.n) (by
      have := nest_depth 8 _ x.n
      have : min x.d.depth y.d.depth ≤ 9 := Nat.le_trans (Nat.min_le_left _ _) this
      omega)
    refine h1 prog w E Q ?_
    have e : PyData.eqv x.d y.d = decide (x = y) := by
      rw [Bool.eq_iff_iff, decide_eq_true_eq]
      refine ⟨fun z => NK.inj (nest_eqv 8 _ _ x.n y.n z), fun z => ?_⟩
      rw [z]; exact SeqAt.eqv_refl _ (nest_lay 8 _ y.n)
    rw [e]; exact h
  quiet := fun {A E s k a Q} x h => quiet_at 8 k.d k.n x h
section
variable {prog : Program} {w : World} {K : Type} [DecidableEq K] {knd : HeapKind prog w K} {A : Around} {E : Value → Shared → Prop} {s : Shared}
theorem dictOfH_keep {h h' : Heap} {d : Addr} {xs : List (K × Addr × Value)} (hm : h.DictOfH knd d xs) (k : ∀ b o, h.get? b = some o → h'.get? b = some o) (hi : ∀ x ∈ xs, knd.is h' x.1 x.2.1) : h'.DictOfH knd d xs := by
  obtain ⟨o, es, ep, ho, hc, hd, he, his, hn⟩ := hm
  exact ⟨o, es, ep, k _ _ ho, hc, hd, he, hi, hn⟩
/-- dict(o), o not empty -/
theorem copyH {o : Addr} {more : List (K × Addr × Value)} {Q : Value → Shared → Prop} (hoS : (o == sysModules) = false) (ho : s.heap.DictOfH knd o more) (hm0 : more ≠ []) (hsz : more.length ≤ sizeLine)
    (hT : ∀ x ∈ more, s.TypeIs (.ref x.2.1) "tuple") (hh : (more.map fun x => knd.hash x.1).Nodup)
    (hi : ∀ x ∈ more, knd.is (s.heap.push { cls := .type "dict", data := .dict #[] }) x.1 x.2.1)
    (h : ∀ h', h'.DictOfH knd s.heap.objs.size more → Heap.SameBut s.heap.objs.size (s.heap.push { cls := .type "dict", data := .dict #[] }) h' → Q (.ref s.heap.objs.size) { s with heap := h' }) :
    wpAny (model prog w) A (call (.type "dict") [.ref o]) Q E s := by
  refine callType_codes (Q₁ := fun obj s₁ => obj = .ref s.heap.objs.size ∧ s₁ = { s with heap := s.heap.push { cls := .type "dict", data := .dict #[] } }) F.kt_called_dict (F.kt_typeCall_dict_1 _) F.entry_dict_init (kt_code_dict_new _ ⟨rfl, rfl⟩) fun obj s₁ hs₁ => ?_
  obtain ⟨rfl, rfl⟩ := hs₁
  have hk : ∀ b u, s.heap.get? b = some u → (s.heap.push { cls := .type "dict", data := .dict #[] }).get? b = some u := fun b u e => Heap.get?_push_of_some _ e
  have hnew : (s.heap.push { cls := .type "dict", data := .dict #[] }).DictOfH knd s.heap.objs.size [] := Heap.DictOfH.new s.heap
  have ho' := dictOfH_keep ho hk hi
  have hdo : s.heap.objs.size ≠ o := by
    obtain ⟨_, _, _, hg, _⟩ := ho
    exact fun e => absurd (Heap.lt_size hg) (by rw [e]; exact Nat.lt_irrefl _)
  have hT1 : Shared.TypeIs { s with heap := s.heap.push { cls := .type "dict", data := .dict #[] } } (.ref s.heap.objs.size) "dict" := hnew.typeIs (s := { s with heap := s.heap.push { cls := .type "dict", data := .dict #[] } })
  have hT2 : Shared.TypeIs { s with heap := s.heap.push { cls := .type "dict", data := .dict #[] } } (.ref o) "dict" := ho'.typeIs (s := { s with heap := s.heap.push { cls := .type "dict", data := .dict #[] } })
  refine ⟨hT1, F.args_dict_init_2 _ _, ?_⟩
  unfold Builtin.«dict.__init__»; refine wpAny_bind ?_
  unfold Builtin.Dict.selfAndRest; refine wpAny_bind (wpAny_notOrdered_dict hT1 ?_)
  show wpAny (model prog w) _ (pure (s.heap.objs.size, [Value.ref o])) _ _ _; refine wpAny_pure ?_
  show wpAny (model prog w) _ (Builtin.Dict.updateFrom "dict.__init__" s.heap.objs.size (.ref o) [] .none) _ _ _; unfold Builtin.Dict.updateFrom
  refine wpAny_bind (wpAny_typeOf hT2 ?_); rw [if_neg (by decide)]
  refine wpAny_bind ?_; unfold Builtin.Dict.merge; refine wpAny_bind ?_; unfold Builtin.Dict.readDirectly
  refine wpAny_bind (wpAny_isInstance hT2 isSubtype_dict_dict ?_); simp only [Bool.not_true, Bool.false_eq_true, if_false]
  refine wpAny_bind (wpAny_specialOf hT2 F.slot_dict_iter.lookup (wpAny_pure ?_)); simp only [beq_self_eq_true, if_true]; refine wpAny_bind (wpAny_pure ?_)
  refine fillH (s := { s with heap := s.heap.push { cls := .type "dict", data := .dict #[] } }) hdo hoS hm0 (fun x hx => let ⟨ob, e, c⟩ := hT x hx; ⟨ob, hk _ _ e, c⟩) hh hnew ho' hsz fun h' hd' hs' => ?_
  show wpAny (model prog w) _ (Builtin.Dict.addKeywords s.heap.objs.size [] >>= _) _ _ _
  exact wpAny_bind (wpAny_pure (wpAny_pure ⟨rfl, h h' hd' hs'⟩))
/-- d.update(o), d not empty -/
theorem updateH (d o : Addr) (hdo : d ≠ o) (hoS : (o == sysModules) = false) :
    MeetsIn prog w (Builtin.«dict.update» ⟨[.ref d, .ref o], []⟩) (fun A R s => knd.room A.in1 ∧ ∃ xs more, xs ≠ [] ∧ s.heap.DictOfH knd d xs ∧ s.heap.DictOfH knd o more ∧ xs.length + more.length ≤ sizeLine ∧
      ∀ h', h'.DictOfH knd d (mergedH xs more) → Heap.SameBut d s.heap h' → R (.ok (.ret .none)) { s with heap := h' }) :=
  .of_wp fun A R s ⟨hu, xs, more, hx0, hd, ho, hsz, h⟩ => by
    unfold Builtin.«dict.update»; refine wpAny_bind ?_
    unfold Builtin.Dict.selfAndRest; refine wpAny_bind (wpAny_notOrdered_dict hd.typeIs ?_)
    show wpAny (model prog w) _ (pure (d, [Value.ref o])) _ _ s; refine wpAny_pure ?_
    show wpAny (model prog w) _ (Builtin.Dict.updateFrom "dict.update" d (.ref o) [] .none) _ _ s; unfold Builtin.Dict.updateFrom
    refine wpAny_bind (wpAny_typeOf ho.typeIs ?_); rw [if_neg (by decide)]
    refine wpAny_bind ?_; unfold Builtin.Dict.merge; refine wpAny_bind ?_; unfold Builtin.Dict.readDirectly
    refine wpAny_bind (wpAny_isInstance ho.typeIs isSubtype_dict_dict ?_); simp only [Bool.not_true, Bool.false_eq_true, if_false]
    refine wpAny_bind (wpAny_specialOf ho.typeIs F.slot_dict_iter.lookup (wpAny_pure ?_)); simp only [beq_self_eq_true, if_true]; refine wpAny_bind (wpAny_pure ?_)
    refine mergeH hu hdo hoS hx0 hd ho hsz fun h' hd' hs' => ?_
    show wpAny (model prog w) _ (Builtin.Dict.addKeywords d [] >>= _) _ _ _
    exact wpAny_bind (wpAny_pure (wpAny_pure ⟨.none, rfl, h h' hd' hs'⟩))
/-- {k: v} -/
theorem dispH {env : Env} {ke ve : Expr} {pos : Pos} {Q : Value → Shared → Prop} (hu : knd.room A)
    (h : wpAny (model prog w) A (eval ke env) (fun kv s₁ => wpAny (model prog w) A (eval ve env) (fun vv s₂ => ∃ a k, kv = .ref a ∧ knd.is s₂.heap k a ∧ s₂.heap.DictOfH knd s.heap.objs.size [] ∧
      ∀ h' t', h'.DictOfH knd s.heap.objs.size [(k, a, vv)] → Heap.SameBut s.heap.objs.size s₂.heap h' → Q (.ref s.heap.objs.size) { s₂ with heap := h', toks := t' }) E s₁) E
      { s with heap := s.heap.push { cls := .type "dict", data := .dict #[] } }) :
    wpAny (model prog w) A (eval (.Dict [some ke] [ve] pos) env) Q E s := by
  rw [arm_eval_Dict]
  have hsh : (evalEachOpt [some ke] env).zip ((evalEach [ve] env).map fun v => do let x ← v; standAt pos; pure x) = [(eval ke env, do let x ← eval ve env; standAt pos; pure x)].map fun p => (some p.1, p.2) := rfl
  rw [hsh, dictDisplay_pairs _ (by simp) (by simp)]
  refine wpAny_bind (wpAny_standAt ?_); refine wpAny_bind ?_
  unfold subDict
  refine wpAny_bind (wpAny_alloc ?_); refine wpAny_bind (wpAny_holding ?_)
  rw [if_pos (by simp)]
  refine wpAny_bind (evalPairs_cons (wpAny_mono h (fun kv s₁ h₁ => wpAny_bind (wpAny_mono h₁ (fun vv s₂ h₂ => ?_) fun _ _ e => e)) fun _ _ e => e))
  obtain ⟨a, k, rfl, hk, hd, q⟩ := h₂
  refine wpAny_bind (wpAny_standAt (wpAny_pure (evalPairs_nil (wpAny_holding ?_))))
  rw [List.forIn_cons]
  refine wpAny_bind (wpAny_bind (wpAny_bind (wpAny_dictSet_heap (hsz := Nat.zero_le _) hu hk hd fun h' hd' hs' => wpAny_pure ?_)))
  dsimp only; rw [List.forIn_nil]
  exact wpAny_pure (wpAny_pure (wpAny_pure (wpAny_pure (q h' _ hd' hs'))))
end
end L2
set_option Elab.async false
set_option linter.all false
set_option maxRecDepth 100000
/-! ### enumerate(t), t a tuple -/
namespace L2
open PySem PyProof.Rows
section
variable {prog : Program} {w : World} {A : Around} {E : Value → Shared → Prop} {s : Shared}
theorem tupNext {it t : Addr} {i : Nat} {items : Array Value} {x : Value} {Q : Value → Shared → Prop} (hit : IsTupIter s.heap it t i) (ht : IsTup s.heap t items) (hx : items[i]? = some x)
    (hQ : ∀ h', IsTupIter h' it t (i + 1) → Heap.SameBut it s.heap h' → Q x { s with heap := h' }) : wpAny (model prog w) A (Builtin.SmallTypes.nextOf (.ref it)) Q E s := by
  obtain ⟨o, ho, hc, hd⟩ := id hit
  obtain ⟨ol, hol, _, nl, hdl⟩ := ht
  unfold Builtin.SmallTypes.nextOf
  refine wpAny_bind (wpAny_callSpecial?_slot (name := Str.ofString "__next__") hit.typeIs slot_tupleiter_next (wpAny_call_entry slot_tupleiter_next hit.typeIs entry_tupleiter_next ?_ (args_tupleiter_next _)))
  show wpAny (model prog w) _ (field (.ref it) 0 >>= _) _ _ s; refine wpAny_bind (wpAny_field ho hd (x := .ref t) rfl ?_)
  show wpAny (model prog w) _ (if (Value.ref t == Value.none) = true then _ else _) _ _ s; rw [if_neg (fun z : (Value.ref t == Value.none) = true => Bool.false_ne_true z)]
  show wpAny (model prog w) _ (field (.ref it) 1 >>= _) _ _ s; refine wpAny_bind (wpAny_field ho hd (x := .int i 0) rfl ?_)
  show wpAny (model prog w) _ (seqItems? (.ref t) >>= _) _ _ s; refine wpAny_bind (wpAny_seqItems hol hdl ?_)
  simp only [Int.toNat_natCast, hx]; refine wpAny_bind (wpAny_setField ho hd (by simp) (wpAny_pure ⟨x, rfl, wpAny_pure (hQ _ ?_ (Heap.SameBut.update ..))⟩))
  exact ⟨_, Heap.get?_update_self _ ho (Obj.isFreed_of_fields (Obj.data_mapFields hd _)), (Obj.cls_mapFields ..).trans hc, by (rw [Obj.data_mapFields hd]); simp [rawInt]⟩
theorem tupStop {it t : Addr} {i : Nat} {items : Array Value} {Q : Value → Shared → Prop} (hh : A.handled = none) (hit : IsTupIter s.heap it t i) (ht : IsTup s.heap t items) (hx : items[i]? = none)
    (hE : ∀ h' e, Heap.ExtBut it s.heap h' → (∃ o, h'.get? e = some o ∧ o.cls = .type "StopIteration") → E (.ref e) { s with heap := h' }) : wpAny (model prog w) A (Builtin.SmallTypes.nextOf (.ref it)) Q E s := by
  obtain ⟨o, ho, hc, hd⟩ := id hit
  obtain ⟨ol, hol, _, nl, hdl⟩ := ht
  unfold Builtin.SmallTypes.nextOf
  refine wpAny_bind (wpAny_callSpecial?_slot (name := Str.ofString "__next__") hit.typeIs slot_tupleiter_next (wpAny_call_entry slot_tupleiter_next hit.typeIs entry_tupleiter_next ?_ (args_tupleiter_next _)))
  show wpAny (model prog w) _ (field (.ref it) 0 >>= _) _ _ s; refine wpAny_bind (wpAny_field ho hd (x := .ref t) rfl ?_)
  show wpAny (model prog w) _ (if (Value.ref t == Value.none) = true then _ else _) _ _ s; rw [if_neg (fun z : (Value.ref t == Value.none) = true => Bool.false_ne_true z)]
  show wpAny (model prog w) _ (field (.ref it) 1 >>= _) _ _ s; refine wpAny_bind (wpAny_field ho hd (x := .int i 0) rfl ?_)
  show wpAny (model prog w) _ (seqItems? (.ref t) >>= _) _ _ s; refine wpAny_bind (wpAny_seqItems hol hdl ?_)
  simp only [Int.toNat_natCast, hx]; refine wpAny_bind (wpAny_rule (wpAny_bind (wpAny_setField ho hd (by simp) ?_)))
  show wpAny (model prog w) _ (newExc (.type "StopIteration") [] >>= _) _ _ _
  refine wpAny_bind ?_; simp only [newExc, newTuple]; refine wpAny_bind (wpAny_newObj_type ?_ (by size_fits)); refine wpAny_bind (m := firstArgMember _ _) (wpAny_of_eq (a := Value.none) (by first | rfl | (simp only [firstArgMember]; rfl)) ?_); refine wpAny_newObj_type ?_ (by size_fits)
  simp only [raiseNew]; refine wpAny_bind (wpAny_handled ?_); (first | rw [show A.in1.handled = none from hh] | rw [hh])
  refine wpAny_bind (wpAny_pure (wpAny_throw ?_)); exact hE _ _ (((Heap.SameBut.update ..).extBut.push _).push _) ⟨_, Heap.get?_push_size _ rfl, rfl⟩
end
theorem draws_tup {prog : Program} {w : World} {A : Around} (hh : A.handled = none) (it l : Addr) (hne : l ≠ it) (items : Array Value) : Draws prog w A it [it, l] items.size (fun i v => items[i]? = some v) (fun i h => IsTupIter h it l i ∧ IsTup h l items) where
  live := fun _ _ st => let ⟨o, ho, _⟩ := st.1; ⟨o, ho⟩
  frame := fun _ _ _ st hk => ⟨let ⟨o, ho, r⟩ := st.1; ⟨o, hk it (by simp) o ho, r⟩, let ⟨o, ho, r⟩ := st.2; ⟨o, hk l (by simp) o ho, r⟩⟩
  item := fun i s Q E hi st hQ => by
    refine tupNext st.1 st.2 (x := items[i]) (by simp [hi]) fun h' hit' hs' => hQ _ h' s.toks (by simp [hi]) ⟨hit', st.2.extBut hs'.extBut hne⟩ hs'
  done := fun s Q E st hE => tupStop hh st.1 st.2 (by simp) hE
open AutoSeq1 (wpAny_loadPart') in
theorem enumNew (l : Addr) (items : Array Value) (n : Nat) (dct : Option Addr) (sl : Array (Option Value)) :
    Meets (Builtin.«enumerate.__new__» ⟨[.type "enumerate", .ref l], []⟩) (fun _ R s => s.heap.get? l = some { cls := .type "tuple", dict := dct, data := .seq items n, slots := sl } ∧
      R (.ok (.ret (.ref (s.heap.push { cls := .type "tuple_iterator", data := .fields #[.ref l, .int 0 0] }).objs.size)))
        { s with heap := (s.heap.push { cls := .type "tuple_iterator", data := .fields #[.ref l, .int 0 0] }).push { cls := .type "enumerate", data := .fields #[.none, .bool false, .ref s.heap.objs.size, rawInt 0, .none, .none] } }) :=
  .of_wp fun prog w A R s h => by
    obtain ⟨hp, g, d, tk, os⟩ := s; obtain ⟨hl, h⟩ := h; have hsub := sub_enumerate
    have hL : IsTup (Shared.heap ⟨hp, g, d, tk, os⟩) l items := ⟨_, hl, rfl, n, rfl⟩
    wp_walk using wpAny_loadPart' hl
    refine wpAny_stack_any fun st => wpAny_pure ?_
    split
    · rename_i c _ _ _ _ _
      cases (c == Value.type "enumerate") <;> (wp_walk using wpAny_loadPart' hl, iter_tuple hL; exact ⟨_, rfl, h⟩)
    · (wp_walk using wpAny_loadPart' hl, iter_tuple hL; exact ⟨_, rfl, h⟩)
section
variable {prog : Program} {w : World} {A : Around} {E : Value → Shared → Prop} {s : Shared}
theorem call_enum {l : Addr} {items : Array Value} {Q : Value → Shared → Prop} (hL : IsTup s.heap l items)
    (h : ∀ h', IsEnum h' (s.heap.objs.size + 1) s.heap.objs.size 0 .none → IsTupIter h' s.heap.objs.size l 0 → (∀ b o, s.heap.get? b = some o → h'.get? b = some o) → Q (.ref (s.heap.objs.size + 1)) { s with heap := h' }) :
    wpAny (model prog w) A (call (.type "enumerate") [.ref l]) Q E s := by
  obtain ⟨⟨c, dct, dt, sl⟩, hl, hc, n, hd⟩ := hL
  replace hc : c = .type "tuple" := hc
  replace hd : dt = .seq items n := hd
  subst hc hd
  refine callType_new F.called_enumerate (by decide) (F.typeCall_enumerate_1 _) (F.newCall_enumerate_1 _) (fun obj => F.args_object_init_2 obj _) F.entry_enumerate_new (enumNew l items n dct sl) ⟨hl, ?_⟩
  have hz : (s.heap.push { cls := .type "tuple_iterator", data := .fields #[.ref l, .int 0 0] }).objs.size = s.heap.objs.size + 1 := Heap.size_push ..
  show _ ∧ _; rw [hz]
  have he : IsEnum ((s.heap.push { cls := .type "tuple_iterator", data := .fields #[.ref l, .int 0 0] }).push { cls := .type "enumerate", data := .fields #[.none, .bool false, .ref s.heap.objs.size, rawInt 0, .none, .none] }) (s.heap.objs.size + 1) s.heap.objs.size 0 .none := by
    have := Heap.get?_push_size (s.heap.push { cls := .type "tuple_iterator", data := .fields #[.ref l, .int 0 0] }) (o := { cls := .type "enumerate", data := .fields #[.none, .bool false, .ref s.heap.objs.size, rawInt 0, .none, .none] }) rfl
    rw [hz] at this; exact this
  exact ⟨⟨_, he, rfl⟩, h _ he ⟨_, Heap.get?_push_of_some _ (Heap.get?_push_size _ rfl), rfl, rfl⟩ fun b o x => Heap.get?_push_of_some _ (Heap.get?_push_of_some _ x)⟩
/-- pyIter of an enumerate is itself -/
theorem enum_self {e it : Addr} {i : Int} {old : Value} {Q : Value → Shared → Prop} (he : IsEnum s.heap e it i old) (h : Q (.ref e) s) : wpAny (model prog w) A (pyIter (.ref e)) Q E s := by
  have hT : s.TypeIs (.ref e) "enumerate" := ⟨_, he, rfl⟩
  refine wpAny_pyIter_slot hT F.slot_enumerate_iter (wpAny_call_entry F.slot_enumerate_iter hT F.entry_enumerate_iter ?_ (F.args_enumerate_iter_1 _))
  show wpAny (model prog w) _ (ret (.ref e)) _ _ s
  exact wpAny_pure ⟨_, rfl, "enumerate", _, hT, F.slot_enumerate_next.lookup, h⟩
end
end L2
set_option Elab.async false
set_option linter.all false
set_option maxRecDepth 100000
/-! ### data: what a value tells, whole; with the addresses of its lists and dicts, and without -/
namespace L2
open PySem PySem.Spec PyProof.Rows Y

/-- a dict's object: its entries' key data, key, value -/
def dctPhi (a : Addr) (ks : List (PyData × V × V)) (h : Heap) : Prop :=
  ks.length ≤ sizeLine ∧ (a == sysModules) = false ∧ (∀ k ∈ ks, keyT k.1 = true) ∧ (ks.map (·.1)).Nodup ∧ ∃ o es ep, h.get? a = some o ∧ o.ExactDict ∧ o.data = .dict es ep ∧
    Paired (fun (k : PyData × V × V) (e : DictEntry) => e.hash = hashK k.1 ∧ RelV k.2.1 e.key ∧ RelV k.2.2 e.val) ks es.toList
def HO.dct (a : Addr) (ks : List (PyData × V × V)) : HO := .ext (dctPhi a ks)

mutual
def IsD (K : PySem.W.Frag) (H : Hp) : PyData → V → Prop
  | .none, v => v = .non
  | .bool b, v => v = .bl b
  | .int i, v => v = .int i
  | .str x, v => v = .str x
  | .list xs, v => ∃ a vs, v = .ref a ∧ SqL K H a vs ∧ IsDs K H xs vs
  | .tuple xs, v => ∃ a vs, v = .ref a ∧ SqT K H a vs ∧ IsDs K H xs vs
  | .dict kvs, v => ∃ a ks, v = .ref a ∧ Rd H a (.dct a ks) ∧ IsDk K H kvs ks
def IsDs (K : PySem.W.Frag) (H : Hp) : List PyData → List V → Prop
  | [], vs => vs = []
  | d :: ds, vs => ∃ v r, vs = v :: r ∧ IsD K H d v ∧ IsDs K H ds r
def IsDk (K : PySem.W.Frag) (H : Hp) : List (PyData × PyData) → List (PyData × V × V) → Prop
  | [], ks => ks = []
  | (k, d) :: r, ks => ∃ kv v q, ks = (k, kv, v) :: q ∧ IsD K H k kv ∧ IsD K H d v ∧ IsDk K H r q
end
mutual
def IsT (K : PySem.W.Frag) (H : Hp) : PyData → V → List Addr → Prop
  | .none, v, as => v = .non ∧ as = []
  | .bool b, v, as => v = .bl b ∧ as = []
  | .int i, v, as => v = .int i ∧ as = []
  | .str x, v, as => v = .str x ∧ as = []
  | .list xs, v, as => ∃ a vs bs, v = .ref a ∧ H a = some (.lst vs) ∧ IsTs K H xs vs bs ∧ as = a :: bs
  | .tuple xs, v, as => ∃ a vs, v = .ref a ∧ SqT K H a vs ∧ IsTs K H xs vs as
  | .dict kvs, v, as => ∃ a ks bs, v = .ref a ∧ H a = some (.dct a ks) ∧ IsTk K H kvs ks bs ∧ as = a :: bs
def IsTs (K : PySem.W.Frag) (H : Hp) : List PyData → List V → List Addr → Prop
  | [], vs, as => vs = [] ∧ as = []
  | d :: ds, vs, as => ∃ v r a1 a2, vs = v :: r ∧ as = a1 ++ a2 ∧ IsT K H d v a1 ∧ IsTs K H ds r a2
def IsTk (K : PySem.W.Frag) (H : Hp) : List (PyData × PyData) → List (PyData × V × V) → List Addr → Prop
  | [], ks, as => ks = [] ∧ as = []
  | (k, d) :: r, ks, as => ∃ kv v q a1 a2, ks = (k, kv, v) :: q ∧ as = a1 ++ a2 ∧ IsT K H k kv [] ∧ IsT K H d v a1 ∧ IsTk K H r q a2
end

section
variable {K : PySem.W.Frag} {H H' : Hp}
theorem isD_int {i : Int} : IsD K H (.int i) (.int i) := by simp only [IsD]
theorem isD_non : IsD K H .none .non := by simp only [IsD]
theorem isD_bl {b : Bool} : IsD K H (.bool b) (.bl b) := by simp only [IsD]
theorem isD_str {x : Str} : IsD K H (.str x) (.str x) := by simp only [IsD]
theorem isDs_nil : IsDs K H [] [] := by simp only [IsDs]
theorem isDs_cons {d : PyData} {ds : List PyData} {v : V} {vs : List V} (h : IsD K H d v) (t : IsDs K H ds vs) : IsDs K H (d :: ds) (v :: vs) := by
  simp only [IsDs]; exact ⟨v, vs, rfl, h, t⟩
theorem isD_tup {ds : List PyData} {a : Addr} {vs : List V} (h : SqT K H a vs) (t : IsDs K H ds vs) : IsD K H (.tuple ds) (.ref a) := by
  simp only [IsD]; exact ⟨a, vs, rfl, h, t⟩
theorem isD_lst {ds : List PyData} {a : Addr} {vs : List V} (h : SqL K H a vs) (t : IsDs K H ds vs) : IsD K H (.list ds) (.ref a) := by
  simp only [IsD]; exact ⟨a, vs, rfl, h, t⟩
theorem of_isD_tup {ds : List PyData} {v : V} (h : IsD K H (.tuple ds) v) : ∃ a vs, v = .ref a ∧ SqT K H a vs ∧ IsDs K H ds vs := by
  simpa only [IsD] using h
theorem of_isD_lst {ds : List PyData} {v : V} (h : IsD K H (.list ds) v) : ∃ a vs, v = .ref a ∧ SqL K H a vs ∧ IsDs K H ds vs := by
  simpa only [IsD] using h
theorem of_isD_dct {kvs : List (PyData × PyData)} {v : V} (h : IsD K H (.dict kvs) v) : ∃ a ks, v = .ref a ∧ Rd H a (.dct a ks) ∧ IsDk K H kvs ks := by
  simpa only [IsD] using h
theorem of_isD_int {i : Int} {v : V} (h : IsD K H (.int i) v) : v = .int i := by simpa only [IsD] using h
theorem of_isD_str {i : Str} {v : V} (h : IsD K H (.str i) v) : v = .str i := by simpa only [IsD] using h
theorem of_isD_bl {i : Bool} {v : V} (h : IsD K H (.bool i) v) : v = .bl i := by simpa only [IsD] using h
theorem of_isD_non {v : V} (h : IsD K H .none v) : v = .non := by simpa only [IsD] using h
theorem isDs_length : ∀ {ds : List PyData} {vs : List V}, IsDs K H ds vs → vs.length = ds.length
  | [], vs, h => by simp only [IsDs] at h; subst h; rfl
  | d :: ds, vs, h => by
    simp only [IsDs] at h
    obtain ⟨v, r, rfl, _, t⟩ := h
    rw [List.length_cons, List.length_cons, isDs_length t]
theorem isDs_get : ∀ {ds : List PyData} {vs : List V} {i : Nat} {d : PyData}, IsDs K H ds vs → ds[i]? = some d → ∃ v, vs[i]? = some v ∧ IsD K H d v
  | [], _, _, _, _, e => by simp at e
  | c :: ds, vs, i, d, h, e => by
    simp only [IsDs] at h
    obtain ⟨v, r, rfl, hv, t⟩ := h
    cases i with
    | zero => simp at e; subst e; exact ⟨v, rfl, hv⟩
    | succ i =>
      obtain ⟨w, h1, h2⟩ := isDs_get (i := i) (d := d) t (by simpa using e)
      exact ⟨w, by simpa using h1, h2⟩
theorem isDs_get' : ∀ {ds : List PyData} {vs : List V} {i : Nat} {v : V}, IsDs K H ds vs → vs[i]? = some v → ∃ d, ds[i]? = some d ∧ IsD K H d v
  | [], vs, i, v, h, e => by simp only [IsDs] at h; subst h; simp at e
  | c :: ds, vs, i, v, h, e => by
    simp only [IsDs] at h
    obtain ⟨v', r, rfl, hv, t⟩ := h
    cases i with
    | zero => simp at e; subst e; exact ⟨c, rfl, hv⟩
    | succ i =>
      obtain ⟨w, h1, h2⟩ := isDs_get' (i := i) (v := v) t (by simpa using e)
      exact ⟨w, by simpa using h1, h2⟩
theorem isDs_append : ∀ {ds es : List PyData} {vs ws : List V}, IsDs K H ds vs → IsDs K H es ws → IsDs K H (ds ++ es) (vs ++ ws)
  | [], es, vs, ws, h, t => by simp only [IsDs] at h; subst h; exact t
  | d :: ds, es, vs, ws, h, t => by
    simp only [IsDs] at h
    obtain ⟨v, r, rfl, hv, tl⟩ := h
    exact isDs_cons hv (isDs_append tl t)
theorem isDs_snoc {ds : List PyData} {d : PyData} {vs : List V} {v : V} (h : IsDs K H ds vs) (t : IsD K H d v) : IsDs K H (ds ++ [d]) (vs ++ [v]) := isDs_append h (isDs_cons t isDs_nil)
theorem isDs_reverse : ∀ {ds : List PyData} {vs : List V}, IsDs K H ds vs → IsDs K H ds.reverse vs.reverse
  | [], vs, h => by simp only [IsDs] at h; subst h; exact isDs_nil
  | d :: ds, vs, h => by
    simp only [IsDs] at h
    obtain ⟨v, r, rfl, hv, tl⟩ := h
    rw [List.reverse_cons, List.reverse_cons]
    exact isDs_snoc (isDs_reverse tl) hv
theorem isDs_take : ∀ {ds : List PyData} {vs : List V} (n : Nat), IsDs K H ds vs → IsDs K H (ds.take n) (vs.take n)
  | _, _, 0, _ => by simp only [List.take_zero]; exact isDs_nil
  | [], vs, n + 1, h => by simp only [IsDs] at h; subst h; simp only [List.take_nil]; exact isDs_nil
  | d :: ds, vs, n + 1, h => by
    simp only [IsDs] at h
    obtain ⟨v, r, rfl, hv, tl⟩ := h
    exact isDs_cons hv (isDs_take n tl)
theorem isDs_drop : ∀ {ds : List PyData} {vs : List V} (n : Nat), IsDs K H ds vs → IsDs K H (ds.drop n) (vs.drop n)
  | _, _, 0, h => h
  | [], vs, n + 1, h => by simp only [IsDs] at h; subst h; simp only [List.drop_nil]; exact isDs_nil
  | d :: ds, vs, n + 1, h => by
    simp only [IsDs] at h
    obtain ⟨v, r, rfl, hv, tl⟩ := h
    exact isDs_drop n tl
theorem isDs_set : ∀ {ds : List PyData} {vs : List V} {d : PyData} {v : V} (n : Nat), IsDs K H ds vs → IsD K H d v → IsDs K H (ds.set n d) (vs.set n v)
  | [], vs, _, _, n, h, _ => by simp only [IsDs] at h; subst h; simp only [List.set_nil]; exact isDs_nil
  | c :: ds, vs, d, v, n, h, q => by
    simp only [IsDs] at h
    obtain ⟨v', r, rfl, hv, tl⟩ := h
    cases n with
    | zero => exact isDs_cons q tl
    | succ n => exact isDs_cons hv (isDs_set n tl q)
theorem isDs_rep : ∀ {ds : List PyData} {vs : List V} (k : Nat), IsDs K H ds vs → IsDs K H (List.replicate k ds).flatten (List.replicate k vs).flatten
  | _, _, 0, _ => isDs_nil
  | _, _, k + 1, h => by
    rw [List.replicate_succ, List.replicate_succ, List.flatten_cons, List.flatten_cons]
    exact isDs_append h (isDs_rep k h)
theorem isDs_pick {ds : List PyData} {vs : List V} (h : IsDs K H ds vs) : ∀ (ks : List Nat), IsDs K H (ks.filterMap (ds[·]?)) (ks.filterMap (vs[·]?))
  | [] => isDs_nil
  | k :: ks => by
    cases e : ds[k]? with
    | none =>
      have e2 : vs[k]? = none := by
        have := isDs_length h
        rw [List.getElem?_eq_none_iff] at e ⊢
        omega
      rw [List.filterMap_cons, List.filterMap_cons, e, e2]
      exact isDs_pick h ks
    | some x =>
      obtain ⟨u, hu, ru⟩ := isDs_get h e
      rw [List.filterMap_cons, List.filterMap_cons, e, hu]
      exact isDs_cons ru (isDs_pick h ks)
theorem isDs_ints : ∀ (ns : List Int), IsDs K H (ns.map PyData.int) (ns.map V.int)
  | [] => isDs_nil
  | n :: ns => isDs_cons isD_int (isDs_ints ns)

theorem Same.seqT {a : Addr} {xs : List V} (e : Same H H') (h : SqT K H a xs) : SqT K H' a xs := by
  rcases h with (h | ⟨o, h⟩) | h
  · exact .inl (.inl (e _ _ h))
  · exact .inl (.inr ⟨o, e _ _ h⟩)
  · exact .inr h
theorem Same.rd {a : Addr} {u : HO} (e : Same H H') (h : Rd H a u) : Rd H' a u := by
  rcases h with h | ⟨o, h⟩
  · exact .inl (e _ _ h)
  · exact .inr ⟨o, e _ _ h⟩
mutual
theorem IsD.same (e : Same H H') : ∀ (d : PyData) (v : V), IsD K H d v → IsD K H' d v
  | .none, v, h => by simpa only [IsD] using h
  | .bool b, v, h => by simpa only [IsD] using h
  | .int i, v, h => by simpa only [IsD] using h
  | .str x, v, h => by simpa only [IsD] using h
  | .list xs, v, h => by
    simp only [IsD] at h ⊢
    obtain ⟨a, vs, e1, h1, h2⟩ := h
    exact ⟨a, vs, e1, e.seq h1, IsDs.same e xs vs h2⟩
  | .tuple xs, v, h => by
    simp only [IsD] at h ⊢
    obtain ⟨a, vs, e1, h1, h2⟩ := h
    exact ⟨a, vs, e1, e.seqT h1, IsDs.same e xs vs h2⟩
  | .dict kvs, v, h => by
    simp only [IsD] at h ⊢
    obtain ⟨a, ks, e1, h1, h2⟩ := h
    exact ⟨a, ks, e1, e.rd h1, IsDk.same e kvs ks h2⟩
theorem IsDs.same (e : Same H H') : ∀ (ds : List PyData) (vs : List V), IsDs K H ds vs → IsDs K H' ds vs
  | [], vs, h => by simpa only [IsDs] using h
  | d :: ds, vs, h => by
    simp only [IsDs] at h ⊢
    obtain ⟨v, r, e1, h1, h2⟩ := h
    exact ⟨v, r, e1, IsD.same e d v h1, IsDs.same e ds r h2⟩
theorem IsDk.same (e : Same H H') : ∀ (ds : List (PyData × PyData)) (ks : List (PyData × V × V)), IsDk K H ds ks → IsDk K H' ds ks
  | [], ks, h => by simpa only [IsDk] using h
  | (k, d) :: r, ks, h => by
    simp only [IsDk] at h ⊢
    obtain ⟨kv, v, q, e1, h1, h2, h3⟩ := h
    exact ⟨kv, v, q, e1, IsD.same e k kv h1, IsD.same e d v h2, IsDk.same e r q h3⟩
end
theorem Same.upd {a : Addr} {o : HO} (h : H a = none) : Same H (upd H a o) := fun b u e => by
  rw [upd_ne (ne_of_none e h)]; exact e
theorem Same.upd' {H0 : Hp} {a : Addr} {o : HO} (s : Same H0 H) (h : H0 a = none) : Same H0 (L2.upd H a o) := fun b u e => by
  rw [upd_ne (ne_of_none e h)]; exact s b u e

mutual
theorem IsT.same (e : Same H H') : ∀ (d : PyData) (v : V) (as : List Addr), IsT K H d v as → IsT K H' d v as
  | .none, v, as, h => by simpa only [IsT] using h
  | .bool b, v, as, h => by simpa only [IsT] using h
  | .int i, v, as, h => by simpa only [IsT] using h
  | .str x, v, as, h => by simpa only [IsT] using h
  | .list xs, v, as, h => by
    simp only [IsT] at h ⊢
    obtain ⟨a, vs, bs, e1, h1, h2, h3⟩ := h
    exact ⟨a, vs, bs, e1, e _ _ h1, IsTs.same e xs vs bs h2, h3⟩
  | .tuple xs, v, as, h => by
    simp only [IsT] at h ⊢
    obtain ⟨a, vs, e1, h1, h2⟩ := h
    exact ⟨a, vs, e1, e.seqT h1, IsTs.same e xs vs as h2⟩
  | .dict kvs, v, as, h => by
    simp only [IsT] at h ⊢
    obtain ⟨a, ks, bs, e1, h1, h2, h3⟩ := h
    exact ⟨a, ks, bs, e1, e _ _ h1, IsTk.same e kvs ks bs h2, h3⟩
theorem IsTs.same (e : Same H H') : ∀ (ds : List PyData) (vs : List V) (as : List Addr), IsTs K H ds vs as → IsTs K H' ds vs as
  | [], vs, as, h => by simpa only [IsTs] using h
  | d :: ds, vs, as, h => by
    simp only [IsTs] at h ⊢
    obtain ⟨v, r, a1, a2, e1, e2, h1, h2⟩ := h
    exact ⟨v, r, a1, a2, e1, e2, IsT.same e d v a1 h1, IsTs.same e ds r a2 h2⟩
theorem IsTk.same (e : Same H H') : ∀ (ds : List (PyData × PyData)) (ks : List (PyData × V × V)) (as : List Addr), IsTk K H ds ks as → IsTk K H' ds ks as
  | [], ks, as, h => by simpa only [IsTk] using h
  | (k, d) :: r, ks, as, h => by
    simp only [IsTk] at h ⊢
    obtain ⟨kv, v, q, a1, a2, e1, e2, h1, h2, h3⟩ := h
    exact ⟨kv, v, q, a1, a2, e1, e2, IsT.same e k kv [] h1, IsT.same e d v a1 h2, IsTk.same e r q a2 h3⟩
end
mutual
theorem IsT.toD : ∀ (d : PyData) (v : V) (as : List Addr), IsT K H d v as → IsD K H d v
  | .none, v, as, h => by simp only [IsT] at h; simp only [IsD]; exact h.1
  | .bool b, v, as, h => by simp only [IsT] at h; simp only [IsD]; exact h.1
  | .int i, v, as, h => by simp only [IsT] at h; simp only [IsD]; exact h.1
  | .str x, v, as, h => by simp only [IsT] at h; simp only [IsD]; exact h.1
  | .list xs, v, as, h => by
    simp only [IsT] at h; simp only [IsD]
    obtain ⟨a, vs, bs, e1, h1, h2, h3⟩ := h
    exact ⟨a, vs, e1, SqL.of h1, IsTs.toD xs vs bs h2⟩
  | .tuple xs, v, as, h => by
    simp only [IsT] at h; simp only [IsD]
    obtain ⟨a, vs, e1, h1, h2⟩ := h
    exact ⟨a, vs, e1, h1, IsTs.toD xs vs as h2⟩
  | .dict kvs, v, as, h => by
    simp only [IsT] at h; simp only [IsD]
    obtain ⟨a, ks, bs, e1, h1, h2, h3⟩ := h
    exact ⟨a, ks, e1, .inl h1, IsTk.toD kvs ks bs h2⟩
theorem IsTs.toD : ∀ (ds : List PyData) (vs : List V) (as : List Addr), IsTs K H ds vs as → IsDs K H ds vs
  | [], vs, as, h => by simp only [IsTs] at h; simp only [IsDs]; exact h.1
  | d :: ds, vs, as, h => by
    simp only [IsTs] at h; simp only [IsDs]
    obtain ⟨v, r, a1, a2, e1, e2, h1, h2⟩ := h
    exact ⟨v, r, e1, IsT.toD d v a1 h1, IsTs.toD ds r a2 h2⟩
theorem IsTk.toD : ∀ (ds : List (PyData × PyData)) (ks : List (PyData × V × V)) (as : List Addr), IsTk K H ds ks as → IsDk K H ds ks
  | [], ks, as, h => by simp only [IsTk] at h; simp only [IsDk]; exact h.1
  | (k, d) :: r, ks, as, h => by
    simp only [IsTk] at h; simp only [IsDk]
    obtain ⟨kv, v, q, a1, a2, e1, e2, h1, h2, h3⟩ := h
    exact ⟨kv, v, q, e1, IsT.toD k kv [] h1, IsT.toD d v a1 h2, IsTk.toD r q a2 h3⟩
end
mutual
theorem IsD.toT : ∀ (d : PyData) (v : V), nol d = true → IsD K H d v → IsT K H d v []
  | .none, v, _, h => by simp only [IsD] at h; simp only [IsT]; exact ⟨h, trivial⟩
  | .bool b, v, _, h => by simp only [IsD] at h; simp only [IsT]; exact ⟨h, trivial⟩
  | .int i, v, _, h => by simp only [IsD] at h; simp only [IsT]; exact ⟨h, trivial⟩
  | .str x, v, _, h => by simp only [IsD] at h; simp only [IsT]; exact ⟨h, trivial⟩
  | .list xs, v, n, h => by simp [nol] at n
  | .tuple xs, v, n, h => by
    simp only [IsD] at h; simp only [IsT]
    obtain ⟨a, vs, e1, h1, h2⟩ := h
    exact ⟨a, vs, e1, h1, IsDs.toT xs vs (by simpa [nol] using n) h2⟩
  | .dict kvs, v, n, h => by simp [nol] at n
theorem IsDs.toT : ∀ (ds : List PyData) (vs : List V), nols ds = true → IsDs K H ds vs → IsTs K H ds vs []
  | [], vs, _, h => by simp only [IsDs] at h; simp only [IsTs]; exact ⟨h, trivial⟩
  | d :: ds, vs, n, h => by
    simp only [IsDs] at h; simp only [IsTs]
    obtain ⟨v, r, e1, h1, h2⟩ := h
    have n' : nol d = true ∧ nols ds = true := by simpa [nols] using n
    exact ⟨v, r, [], [], e1, rfl, IsD.toT d v n'.1 h1, IsDs.toT ds r n'.2 h2⟩
end
mutual
theorem IsT.nil : ∀ (d : PyData) (v : V) (as : List Addr), nol d = true → IsT K H d v as → as = []
  | .none, v, as, _, h => by simp only [IsT] at h; exact h.2
  | .bool b, v, as, _, h => by simp only [IsT] at h; exact h.2
  | .int i, v, as, _, h => by simp only [IsT] at h; exact h.2
  | .str x, v, as, _, h => by simp only [IsT] at h; exact h.2
  | .list xs, v, as, n, h => by simp [nol] at n
  | .tuple xs, v, as, n, h => by
    simp only [IsT] at h
    obtain ⟨a, vs, e1, h1, h2⟩ := h
    exact IsTs.nil xs vs as (by simpa [nol] using n) h2
  | .dict kvs, v, as, n, h => by simp [nol] at n
theorem IsTs.nil : ∀ (ds : List PyData) (vs : List V) (as : List Addr), nols ds = true → IsTs K H ds vs as → as = []
  | [], vs, as, _, h => by simp only [IsTs] at h; exact h.2
  | d :: ds, vs, as, n, h => by
    simp only [IsTs] at h
    obtain ⟨v, r, a1, a2, e1, e2, h1, h2⟩ := h
    have n' : nol d = true ∧ nols ds = true := by simpa [nols] using n
    rw [e2, IsT.nil d v a1 n'.1 h1, IsTs.nil ds r a2 n'.2 h2]; rfl
end
/-- a tracked list or dict -/
def isMu : HO → Prop
  | .lst _ => True
  | .ext _ => True
  | _ => False
mutual
theorem IsT.live : ∀ (d : PyData) (v : V) (as : List Addr), IsT K H d v as → ∀ a ∈ as, ∃ o, H a = some o ∧ isMu o
  | .none, v, as, h => by simp only [IsT] at h; rw [h.2]; intro a ha; cases ha
  | .bool b, v, as, h => by simp only [IsT] at h; rw [h.2]; intro a ha; cases ha
  | .int i, v, as, h => by simp only [IsT] at h; rw [h.2]; intro a ha; cases ha
  | .str x, v, as, h => by simp only [IsT] at h; rw [h.2]; intro a ha; cases ha
  | .list xs, v, as, h => by
    simp only [IsT] at h
    obtain ⟨a, vs, bs, e1, h1, h2, rfl⟩ := h
    intro b hb
    rcases List.mem_cons.mp hb with rfl | hb
    · exact ⟨_, h1, trivial⟩
    · exact IsTs.live xs vs bs h2 b hb
  | .tuple xs, v, as, h => by
    simp only [IsT] at h
    obtain ⟨a, vs, e1, h1, h2⟩ := h
    exact IsTs.live xs vs as h2
  | .dict kvs, v, as, h => by
    simp only [IsT] at h
    obtain ⟨a, ks, bs, e1, h1, h2, rfl⟩ := h
    intro b hb
    rcases List.mem_cons.mp hb with rfl | hb
    · exact ⟨_, h1, trivial⟩
    · exact IsTk.live kvs ks bs h2 b hb
theorem IsTs.live : ∀ (ds : List PyData) (vs : List V) (as : List Addr), IsTs K H ds vs as → ∀ a ∈ as, ∃ o, H a = some o ∧ isMu o
  | [], vs, as, h => by simp only [IsTs] at h; rw [h.2]; intro a ha; cases ha
  | d :: ds, vs, as, h => by
    simp only [IsTs] at h
    obtain ⟨v, r, a1, a2, e1, rfl, h1, h2⟩ := h
    intro a ha
    rcases List.mem_append.mp ha with ha | ha
    · exact IsT.live d v a1 h1 a ha
    · exact IsTs.live ds r a2 h2 a ha
theorem IsTk.live : ∀ (ds : List (PyData × PyData)) (ks : List (PyData × V × V)) (as : List Addr), IsTk K H ds ks as → ∀ a ∈ as, ∃ o, H a = some o ∧ isMu o
  | [], ks, as, h => by simp only [IsTk] at h; rw [h.2]; intro a ha; cases ha
  | (k, d) :: r, ks, as, h => by
    simp only [IsTk] at h
    obtain ⟨kv, v, q, a1, a2, e1, rfl, h1, h2, h3⟩ := h
    intro a ha
    rcases List.mem_append.mp ha with ha | ha
    · exact IsT.live d v a1 h2 a ha
    · exact IsTk.live r q a2 h3 a ha
end
/-- a mutable object elsewhere changes -/
theorem SqT.upd {l : Addr} {o o' : HO} {a : Addr} {xs : List V} (hl : H l = some o) (hm : isMu o) (h : SqT K H a xs) : SqT K (upd H l o') a xs := by
  rcases h with (h | ⟨ob, h⟩) | h
  · exact .inl (.inl (by rw [upd_ne (ne_of h hl (by intro z; subst z; exact hm))]; exact h))
  · exact .inl (.inr ⟨ob, by rw [upd_ne (ne_of h hl (by intro z; subst z; exact hm))]; exact h⟩)
  · exact .inr h
mutual
theorem IsT.upd {l : Addr} {o o' : HO} (hl : H l = some o) (hm : isMu o) : ∀ (d : PyData) (v : V) (as : List Addr), l ∉ as → IsT K H d v as → IsT K (upd H l o') d v as
  | .none, v, as, _, h => by simpa only [IsT] using h
  | .bool b, v, as, _, h => by simpa only [IsT] using h
  | .int i, v, as, _, h => by simpa only [IsT] using h
  | .str x, v, as, _, h => by simpa only [IsT] using h
  | .list xs, v, as, n, h => by
    simp only [IsT] at h ⊢
    obtain ⟨a, vs, bs, e1, h1, h2, rfl⟩ := h
    have n1 : a ≠ l := fun e => n (by rw [e]; exact List.mem_cons_self)
    exact ⟨a, vs, bs, e1, by rw [upd_ne n1]; exact h1, IsTs.upd hl hm xs vs bs (fun z => n (List.mem_cons_of_mem _ z)) h2, rfl⟩
  | .tuple xs, v, as, n, h => by
    simp only [IsT] at h ⊢
    obtain ⟨a, vs, e1, h1, h2⟩ := h
    exact ⟨a, vs, e1, h1.upd hl hm, IsTs.upd hl hm xs vs as n h2⟩
  | .dict kvs, v, as, n, h => by
    simp only [IsT] at h ⊢
    obtain ⟨a, ks, bs, e1, h1, h2, rfl⟩ := h
    have n1 : a ≠ l := fun e => n (by rw [e]; exact List.mem_cons_self)
    exact ⟨a, ks, bs, e1, by rw [upd_ne n1]; exact h1, IsTk.upd hl hm kvs ks bs (fun z => n (List.mem_cons_of_mem _ z)) h2, rfl⟩
theorem IsTs.upd {l : Addr} {o o' : HO} (hl : H l = some o) (hm : isMu o) : ∀ (ds : List PyData) (vs : List V) (as : List Addr), l ∉ as → IsTs K H ds vs as → IsTs K (upd H l o') ds vs as
  | [], vs, as, _, h => by simpa only [IsTs] using h
  | d :: ds, vs, as, n, h => by
    simp only [IsTs] at h ⊢
    obtain ⟨v, r, a1, a2, e1, rfl, h1, h2⟩ := h
    exact ⟨v, r, a1, a2, e1, rfl, IsT.upd hl hm d v a1 (fun z => n (List.mem_append_left _ z)) h1, IsTs.upd hl hm ds r a2 (fun z => n (List.mem_append_right _ z)) h2⟩
theorem IsTk.upd {l : Addr} {o o' : HO} (hl : H l = some o) (hm : isMu o) : ∀ (ds : List (PyData × PyData)) (ks : List (PyData × V × V)) (as : List Addr), l ∉ as → IsTk K H ds ks as → IsTk K (upd H l o') ds ks as
  | [], ks, as, _, h => by simpa only [IsTk] using h
  | (k, d) :: r, ks, as, n, h => by
    simp only [IsTk] at h ⊢
    obtain ⟨kv, v, q, a1, a2, e1, rfl, h1, h2, h3⟩ := h
    exact ⟨kv, v, q, a1, a2, e1, rfl, IsT.upd hl hm k kv [] (by intro z; cases z) h1, IsT.upd hl hm d v a1 (fun z => n (List.mem_append_left _ z)) h2, IsTk.upd hl hm r q a2 (fun z => n (List.mem_append_right _ z)) h3⟩
end
theorem isTs_nil : IsTs K H [] [] [] := by simp only [IsTs]; exact ⟨trivial, trivial⟩
theorem isTs_cons {d : PyData} {ds : List PyData} {v : V} {vs : List V} {a1 a2 : List Addr} (h : IsT K H d v a1) (t : IsTs K H ds vs a2) : IsTs K H (d :: ds) (v :: vs) (a1 ++ a2) := by
  simp only [IsTs]; exact ⟨v, vs, a1, a2, rfl, rfl, h, t⟩
theorem isT_tup {ds : List PyData} {a : Addr} {vs : List V} {as : List Addr} (h : SqT K H a vs) (t : IsTs K H ds vs as) : IsT K H (.tuple ds) (.ref a) as := by
  simp only [IsT]; exact ⟨a, vs, rfl, h, t⟩
theorem isT_lst {ds : List PyData} {a : Addr} {vs : List V} {as : List Addr} (h : H a = some (.lst vs)) (t : IsTs K H ds vs as) : IsT K H (.list ds) (.ref a) (a :: as) := by
  simp only [IsT]; exact ⟨a, vs, as, rfl, h, t, rfl⟩
theorem isT_dct {kvs : List (PyData × PyData)} {a : Addr} {ks : List (PyData × V × V)} {as : List Addr} (h : H a = some (.dct a ks)) (t : IsTk K H kvs ks as) : IsT K H (.dict kvs) (.ref a) (a :: as) := by
  simp only [IsT]; exact ⟨a, ks, as, rfl, h, t, rfl⟩
theorem of_isT_lst {ds : List PyData} {v : V} {as : List Addr} (h : IsT K H (.list ds) v as) : ∃ a vs bs, v = .ref a ∧ H a = some (.lst vs) ∧ IsTs K H ds vs bs ∧ as = a :: bs := by
  simpa only [IsT] using h
theorem of_isT_tup {ds : List PyData} {v : V} {as : List Addr} (h : IsT K H (.tuple ds) v as) : ∃ a vs, v = .ref a ∧ SqT K H a vs ∧ IsTs K H ds vs as := by
  simpa only [IsT] using h
theorem of_isT_dct {kvs : List (PyData × PyData)} {v : V} {as : List Addr} (h : IsT K H (.dict kvs) v as) : ∃ a ks bs, v = .ref a ∧ H a = some (.dct a ks) ∧ IsTk K H kvs ks bs ∧ as = a :: bs := by
  simpa only [IsT] using h
theorem isTs_length {ds : List PyData} {vs : List V} {as : List Addr} (h : IsTs K H ds vs as) : vs.length = ds.length := isDs_length (IsTs.toD _ _ _ h)
theorem isTs_append : ∀ {ds es : List PyData} {vs ws : List V} {as bs : List Addr}, IsTs K H ds vs as → IsTs K H es ws bs → IsTs K H (ds ++ es) (vs ++ ws) (as ++ bs)
  | [], es, vs, ws, as, bs, h, t => by simp only [IsTs] at h; obtain ⟨rfl, rfl⟩ := h; exact t
  | d :: ds, es, vs, ws, as, bs, h, t => by
    simp only [IsTs] at h
    obtain ⟨v, r, a1, a2, rfl, rfl, hv, tl⟩ := h
    rw [List.append_assoc]
    exact isTs_cons hv (isTs_append tl t)
theorem isTs_get : ∀ {ds : List PyData} {vs : List V} {as : List Addr} {i : Nat} {d : PyData}, IsTs K H ds vs as → ds[i]? = some d → ∃ v bs, vs[i]? = some v ∧ IsT K H d v bs ∧ bs.Sublist as
  | [], _, _, _, _, _, e => by simp at e
  | c :: ds, vs, as, i, d, h, e => by
    simp only [IsTs] at h
    obtain ⟨v, r, a1, a2, rfl, rfl, hv, tl⟩ := h
    cases i with
    | zero => simp at e; subst e; exact ⟨v, a1, rfl, hv, List.sublist_append_left _ _⟩
    | succ i =>
      obtain ⟨w, bs, h1, h2, h3⟩ := isTs_get (i := i) (d := d) tl (by simpa using e)
      exact ⟨w, bs, by simpa using h1, h2, h3.trans (List.sublist_append_right _ _)⟩
end
end L2
set_option Elab.async false
set_option linter.all false
set_option maxRecDepth 100000
/-! ### a program by values: an expression is a function of the names' data -/
namespace L2
open PySem PySem.Spec PyProof.Rows Y

/-- new, and no one else's -/
def Fresh (K : PySem.W.Frag) (H H' : Hp) (d : PyData) (v : V) : Prop := ∃ as, IsT K H' d v as ∧ as.Nodup ∧ ∀ a ∈ as, H a = none
def VR (K : PySem.W.Frag) (B : Hp) (φ : Nat → List Addr) (H H' : Hp) : Kd → PyData → V → Prop
  | .fr l, d, v => ∃ as, IsT K H' d v as ∧ as.Nodup ∧ ∀ a ∈ as, (∃ i ∈ l, a ∈ φ i) ∨ H a = none
  | .base, d, v => IsD K B d v
  | .any, d, v => IsD K H' d v

structure Rep (K : PySem.W.Frag) (B : Hp) (φ : Nat → List Addr) (Γ : DEnv) (σ : St) (H : Hp) : Prop where
  bs : Same B H
  len : Γ.length = σ.length
  sl : ∀ i o d, Γ[i]? = some (some (o, d)) → ∃ v, σ[i]? = some (some v) ∧ if o = true then IsT K H d v (φ i) else IsD K B d v
  nd : ∀ i, (φ i).Nodup
  nb : ∀ i, ∀ a ∈ φ i, B a = none ∧ ∃ o, H a = some o ∧ isMu o
  dj : ∀ i j, i ≠ j → ∀ a ∈ φ i, a ∉ φ j

def Runs (K : PySem.W.Frag) (Ew : Str → Hp → Prop) (B : Hp) (φ : Nat → List Addr) (H : Hp) (m : M (Kd × PyData)) (Q : VK) : Prop :=
  (∃ k d, m = some (.ok (k, d)) ∧ ∀ v H', Same H H' → VR K B φ H H' k d v → Q v H') ∨ (∃ c, m = some (.ex c) ∧ ∀ H', Same B H' → Ew c H')
def RunT (Ew : Str → Hp → Prop) (B : Hp) (H : Hp) (m : M Bool) (Q : Bool → Hp → Prop) : Prop :=
  (∃ b, m = some (.ok b) ∧ ∀ H', Same H H' → Q b H') ∨ (∃ c, m = some (.ex c) ∧ ∀ H', Same B H' → Ew c H')
def RV (K : PySem.W.Frag) (B H' : Hp) (o : Bool) (d : PyData) (v : V) : Prop :=
  if o = true then ∃ as, IsT K H' d v as ∧ as.Nodup ∧ ∀ a ∈ as, B a = none else IsD K H' d v
def RunS (K : PySem.W.Frag) (Ew : Str → Hp → Prop) (B : Hp) (m : M Out) (D : Ends) : Prop :=
  match m with
  | some (.ok (.nx Γ)) => ∀ B' φ σ H, Same B B' → Rep K B' φ Γ σ H → D.nx σ H
  | some (.ok (.bk Γ)) => ∀ B' φ σ H, Same B B' → Rep K B' φ Γ σ H → D.bk σ H
  | some (.ok (.ct Γ)) => ∀ B' φ σ H, Same B B' → Rep K B' φ Γ σ H → D.ct σ H
  | some (.ok (.rt o d)) => ∀ v H', Same B H' → RV K B H' o d v → D.rt v H'
  | some (.ex c) => ∀ H', Same B H' → Ew c H'
  | none => False
def tD (K : PySem.W.Frag) (Ew : Str → Hp → Prop) (f : EF) : TE := fun σ H Q => ∃ B φ Γ, Rep K B φ Γ σ H ∧ Runs K Ew B φ H (f Γ) Q
def tDT (K : PySem.W.Frag) (Ew : Str → Hp → Prop) (f : TF) : TT := fun σ H Q => ∃ B φ Γ, Rep K B φ Γ σ H ∧ RunT Ew B H (f Γ) Q
def tDS (K : PySem.W.Frag) (Ew : Str → Hp → Prop) (f : SF) : TS := fun D σ H => ∃ B φ Γ, Rep K B φ Γ σ H ∧ RunS K Ew B (f Γ) D
def DE (X : Cx) (K : PySem.W.Frag) (Ew : Str → Hp → Prop) (e : Expr) (f : EF) : Prop := PE X e (tD K Ew f)
def DT (X : Cx) (K : PySem.W.Frag) (Ew : Str → Hp → Prop) (e : Expr) (f : TF) : Prop := PT X e (tDT K Ew f)
def DW (X : Cx) (K : PySem.W.Frag) (Ew : Str → Hp → Prop) (e : Expr) (f : TF) : Prop := PW X e (tDT K Ew f)
def DS (X : Cx) (K : PySem.W.Frag) (Ew : Str → Hp → Prop) (s : Stmt) (f : SF) : Prop := PS X s (tDS K Ew f)
def DSs (X : Cx) (K : PySem.W.Frag) (Ew : Str → Hp → Prop) (s : List Stmt) (f : SF) : Prop := PSs X s (tDS K Ew f)

theorem PE.imp {X : Cx} {e : Expr} {t t' : TE} (h : PE X e t) (i : ∀ σ H Q, t' σ H Q → t σ H Q) : PE X e t' := fun pins s σ H Q I q => h pins s σ H Q I (i σ H Q q)
theorem PT.imp {X : Cx} {e : Expr} {t t' : TT} (h : PT X e t) (i : ∀ σ H Q, t' σ H Q → t σ H Q) : PT X e t' := fun pins s σ H Q I q => h pins s σ H Q I (i σ H Q q)
theorem PW.imp {X : Cx} {e : Expr} {t t' : TT} (h : PW X e t) (i : ∀ σ H Q, t' σ H Q → t σ H Q) : PW X e t' := fun w pins s σ H Q I q => h w pins s σ H Q I (i σ H Q q)
theorem PS.imp {X : Cx} {e : Stmt} {t t' : TS} (h : PS X e t) (i : ∀ D σ H, t' D σ H → t D σ H) : PS X e t' := fun pins s σ H D I q => h pins s σ H D I (i D σ H q)
theorem PSs.imp {X : Cx} {e : List Stmt} {t t' : TS} (h : PSs X e t) (i : ∀ D σ H, t' D σ H → t D σ H) : PSs X e t' := fun pins s σ H D I q => h pins s σ H D I (i D σ H q)

section
variable {K : PySem.W.Frag} {B B' H H' H'' : Hp} {φ : Nat → List Addr} {Γ : DEnv} {σ : St} {k : Kd} {d : PyData} {v : V} {Ew : Str → Hp → Prop}
theorem Rep.same (r : Rep K B φ Γ σ H) (s : Same H H') : Rep K B φ Γ σ H' where
  bs := r.bs.trans s
  len := r.len
  sl := fun i o d e => by
    obtain ⟨v, h1, h2⟩ := r.sl i o d e
    refine ⟨v, h1, ?_⟩
    cases o with
    | true => rw [if_pos rfl] at h2 ⊢; exact IsT.same s _ _ _ h2
    | false => rw [if_neg Bool.false_ne_true] at h2 ⊢; exact h2
  nd := r.nd
  nb := fun i a ha => ⟨(r.nb i a ha).1, let ⟨o, h1, h2⟩ := (r.nb i a ha).2; ⟨o, s _ _ h1, h2⟩⟩
  dj := r.dj
theorem VR.toD (r : Same B H') (h : VR K B φ H H' k d v) : IsD K H' d v := by
  cases k with
  | fr l => obtain ⟨as, h1, _⟩ := h; exact IsT.toD _ _ _ h1
  | base => exact IsD.same r _ _ h
  | any => exact h
theorem VR.same (h : VR K B φ H H' k d v) (s : Same H' H'') : VR K B φ H H'' k d v := by
  cases k with
  | fr l => obtain ⟨as, h1, h2, h3⟩ := h; exact ⟨as, IsT.same s _ _ _ h1, h2, h3⟩
  | base => exact h
  | any => exact IsD.same s _ _ h
/-- known at a later heap -/
theorem VR.from (h : VR K B φ H H' k d v) (s : Same H'' H) : VR K B φ H'' H' k d v := by
  cases k with
  | fr l => obtain ⟨as, h1, h2, h3⟩ := h; exact ⟨as, h1, h2, fun a ha => (h3 a ha).imp id fun z => s.free z⟩
  | base => exact h
  | any => exact h
theorem VR.imm (hn : nol d = true) (h : IsD K H' d v) (l : List Nat) : VR K B φ H H' (.fr l) d v := ⟨[], IsD.toT _ _ hn h, List.nodup_nil, fun a ha => by cases ha⟩
theorem VR.nrm (r : Same B H') (h : VR K B φ H H' k d v) : VR K B φ H H' (nrm k d) d v := by
  unfold Y.nrm
  by_cases hn : nol d = true
  · rw [if_pos hn]; exact VR.imm hn (h.toD r) []
  · rw [if_neg hn]; exact h
theorem VR.fresh : VR K B φ H H' (.fr []) d v ↔ Fresh K H H' d v := by
  constructor
  · rintro ⟨as, h1, h2, h3⟩
    exact ⟨as, h1, h2, fun a ha => by rcases h3 a ha with ⟨i, hi, _⟩ | z; cases hi; exact z⟩
  · rintro ⟨as, h1, h2, h3⟩
    exact ⟨as, h1, h2, fun a ha => .inr (h3 a ha)⟩
theorem Fresh.imm (hn : nol d = true) (h : IsD K H' d v) : Fresh K H H' d v := ⟨[], IsD.toT _ _ hn h, List.nodup_nil, fun a ha => by cases ha⟩
theorem Fresh.from (h : Fresh K H H' d v) (s : Same H'' H) : Fresh K H'' H' d v := by
  obtain ⟨as, h1, h2, h3⟩ := h
  exact ⟨as, h1, h2, fun a ha => s.free (h3 a ha)⟩
theorem Fresh.lst {ds : List PyData} {a : Addr} {vs : List V} (hn : nols ds = true) (h : H' a = some (.lst vs)) (t : IsDs K H' ds vs) (n : H a = none) : Fresh K H H' (.list ds) (.ref a) :=
  ⟨[a], isT_lst h (IsDs.toT _ _ hn t), List.nodup_cons.mpr ⟨by simp, List.nodup_nil⟩, fun b hb => by rw [List.mem_singleton.mp hb]; exact n⟩
theorem Fresh.tup {ds : List PyData} {a : Addr} {vs : List V} (hn : nols ds = true) (h : SqT K H' a vs) (t : IsDs K H' ds vs) : Fresh K H H' (.tuple ds) (.ref a) :=
  ⟨[], isT_tup h (IsDs.toT _ _ hn t), List.nodup_nil, fun b hb => by cases hb⟩

theorem Runs.mono {m : M (Kd × PyData)} {Q Q' : VK} (h : Runs K Ew B φ H m Q) (i : ∀ v H', Same H H' → Q v H' → Q' v H') : Runs K Ew B φ H m Q' := by
  rcases h with ⟨k, d, e, h⟩ | h
  · exact .inl ⟨k, d, e, fun v H' s r => i v H' s (h v H' s r)⟩
  · exact .inr h
/-- a run of a bind: the first step, then the rest -/
theorem Runs.bind {m : M (Kd × PyData)} {g : Kd × PyData → M (Kd × PyData)} {Q : VK} (r : Rep K B φ Γ σ H) (h : Runs K Ew B φ H (mbind m g) Q) :
    Runs K Ew B φ H m (fun v H1 => ∃ k d, m = some (.ok (k, d)) ∧ VR K B φ H H1 k d v ∧ Rep K B φ Γ σ H1 ∧ Same H H1 ∧ Runs K Ew B φ H (g (k, d)) Q) := by
  match m, h with
  | some (.ok (k, d)), h => exact .inl ⟨k, d, rfl, fun v H1 s hv => ⟨k, d, rfl, hv, r.same s, s, h⟩⟩
  | some (.ex c), h =>
    refine .inr ⟨c, rfl, ?_⟩
    rcases h with ⟨k, d, e, _⟩ | ⟨c', e, h⟩
    · cases e
    · cases e; exact h
  | none, h =>
    exfalso
    rcases h with ⟨k, d, e, _⟩ | ⟨c', e, h⟩
    · cases e
    · cases e
/-- from an earlier heap to a later one -/
theorem Runs.later {m : M (Kd × PyData)} {Q : VK} {H1 : Hp} (h : Runs K Ew B φ H m Q) (s : Same H H1) : Runs K Ew B φ H1 m Q := by
  rcases h with ⟨k, d, e, h⟩ | h
  · exact .inl ⟨k, d, e, fun v H' s' hv => h v H' (s.trans s') (hv.from s)⟩
  · exact .inr h
theorem RunT.later {m : M Bool} {Q : Bool → Hp → Prop} {H1 : Hp} (h : RunT Ew B H m Q) (s : Same H H1) : RunT Ew B H1 m Q := by
  rcases h with ⟨b, e, h⟩ | h
  · exact .inl ⟨b, e, fun H' s' => h H' (s.trans s')⟩
  · exact .inr h
theorem RunT.bind {m : M Bool} {g : Bool → M Bool} {Q : Bool → Hp → Prop} (h : RunT Ew B H (mbind m g) Q) :
    RunT Ew B H m (fun b H1 => m = some (.ok b) ∧ Same H H1 ∧ RunT Ew B H1 (g b) Q) := by
  match m, h with
  | some (.ok b), h => exact .inl ⟨b, rfl, fun H1 s => ⟨rfl, s, h.later s⟩⟩
  | some (.ex c), h =>
    refine .inr ⟨c, rfl, ?_⟩
    rcases h with ⟨k, e, _⟩ | ⟨c', e, h⟩
    · cases e
    · cases e; exact h
  | none, h =>
    exfalso
    rcases h with ⟨k, e, _⟩ | ⟨c', e, h⟩
    · cases e
    · cases e
end

/-! ### expressions -/

/-- a two-place operation by data -/
def OpD (X : Cx) (f : Value → Value → Sem Value) (g : PyData → PyData → Option PyData) : Prop :=
  ∃ r, OpR X f r ∧ ∀ x y z u v H Q, g x y = some z → IsD X.K H x u → IsD X.K H y v → (∀ w H', Same H H' → Fresh X.K H H' z w → Q w H') → r u v H Q
def UnD (X : Cx) (f : Value → Sem Value) (g : PyData → Option PyData) : Prop :=
  ∃ r, UnR X f r ∧ ∀ x z u H Q, g x = some z → IsD X.K H x u → (∀ w H', Same H H' → Fresh X.K H H' z w → Q w H') → r u H Q
def CallD (X : Cx) (f : Value) (g : List PyData → Option PyData) : Prop :=
  ∃ r, CallR X f r ∧ ∀ xs z us H Q, g xs = some z → IsDs X.K H xs us → (∀ w H', Same H H' → Fresh X.K H H' z w → Q w H') → r us H Q
/-- a subscript by data: the item keeps to what it came of -/
def IxD (X : Cx) (g : PyData → PyData → Option PyData) : Prop :=
  ∃ r, IxR X r ∧ ∀ B φ H0 k x y z u v H Q, Same B H → g x y = some z → VR X.K B φ H0 H k x u → IsD X.K H y v → (∀ w, VR X.K B φ H0 H (nrm k z) z w → Q w H) → r u v H Q

section
variable {X : Cx} {K : PySem.W.Frag} {Ew : Str → Hp → Prop} {pos : Pos}
theorem de_c {e : Expr} {c : V} {d : PyData} (h : PE X e (tC c)) (hn : nol d = true) (hd : ∀ H, IsD K H d c) : DE X K Ew e (eC d) := h.imp fun σ H Q q => by
  obtain ⟨B, φ, Γ, r, q⟩ := q
  rcases q with ⟨k, d', e, q⟩ | ⟨c', e, q⟩
  · cases e
    exact q _ H (Same.refl H) (VR.imm hn (hd H) [])
  · cases e
theorem de_int {i : Int} {j pos} : DE X K Ew (.Constant (.int i) j pos) (eC (.int i)) := de_c pe_int rfl fun _ => isD_int
theorem de_bl {i : Bool} {j pos} : DE X K Ew (.Constant (.bool i) j pos) (eC (.bool i)) := de_c pe_bl rfl fun _ => isD_bl
theorem de_non {j pos} : DE X K Ew (.Constant .none j pos) (eC .none) := de_c pe_non rfl fun _ => isD_non
theorem de_v (i : Nat) {x : Str} (hN : X.N[i]? = some x := by rfl) (hv : Vis X.env.scope x := by first | exact Or.inl rfl | exact Or.inr (Or.inl rfl) | exact Or.inr (Or.inr rfl)) (hd : (x == ("__debug__" : Str)) = false := by decide)
    (hcd : (x == ("__classdict__" : Str)) = false := by decide) : DE X K Ew (.Name x pos) (eV i) := (pe_var hN hv hd hcd).imp fun σ H Q q => by
  obtain ⟨B, φ, Γ, r, q⟩ := q
  unfold eV at q
  match hg : Γ[i]?, q with
  | some (some (o, d)), q =>
    obtain ⟨v, h1, h2⟩ := r.sl i o d hg
    refine ⟨v, h1, ?_⟩
    rcases q with ⟨k, d', e, q⟩ | ⟨c', e, q⟩
    · cases e
      refine q v H (Same.refl H) (VR.nrm r.bs ?_)
      cases o with
      | true =>
        rw [if_pos rfl] at h2
        exact ⟨_, h2, r.nd i, fun a ha => .inl ⟨i, by simp, ha⟩⟩
      | false =>
        rw [if_neg Bool.false_ne_true] at h2
        exact h2
    · cases e
  | some none, q => rcases q with ⟨k, d', e, q⟩ | ⟨c', e, q⟩ <;> cases e
  | none, q => rcases q with ⟨k, d', e, q⟩ | ⟨c', e, q⟩ <;> cases e

/-- two operands in a row, their data at the end -/
theorem tD_two {fa fb : EF} {g : Kd × PyData → Kd × PyData → M (Kd × PyData)} {σ : St} {H : Hp} {Q : VK} {R2' : V → V → Hp → Prop} (h : tD K Ew (fun Γ => mbind (fa Γ) fun x => mbind (fb Γ) fun y => g x y) σ H Q)
    (i : ∀ B φ Γ k x k' y u v H1 H2, Rep K B φ Γ σ H2 → Same H H1 → Same H1 H2 → VR K B φ H H2 k x u → VR K B φ H1 H2 k' y v → Runs K Ew B φ H (g (k, x) (k', y)) Q → R2' u v H2) :
    tD K Ew fa σ H fun u H1 => tD K Ew fb σ H1 fun v H2 => R2' u v H2 := by
  obtain ⟨B, φ, Γ, r, q⟩ := h
  refine ⟨B, φ, Γ, r, (q.bind r).mono fun u H1 s1 ⟨k, x, e1, v1, r1, _, q1⟩ => ?_⟩
  refine ⟨B, φ, Γ, r1, ((q1.later s1).bind r1).mono fun v H2 s2 ⟨k', y, e2, v2, r2, _, q2⟩ => ?_⟩
  refine i B φ Γ k x k' y u v H1 H2 r2 s1 s2 (v1.same s2) v2 ?_
  rcases q1 with ⟨k0, d0, e0, q0⟩ | ⟨c0, e0, q0⟩
  · rw [e2] at e0
    exact .inl ⟨k0, d0, e0, q0⟩
  · rw [e2] at e0
    exact .inr ⟨c0, e0, q0⟩
theorem runs_mo {B : Hp} {φ : Nat → List Addr} {H : Hp} {o : Option PyData} {kf : PyData → Kd} {Q : VK} (h : Runs K Ew B φ H (mbind (mo o) fun z => mret (kf z, z)) Q) : ∃ z, o = some z ∧ ∀ v H', Same H H' → VR K B φ H H' (kf z) z v → Q v H' := by
  cases o with
  | none => rcases h with ⟨k, d', e, q⟩ | ⟨c', e, q⟩ <;> cases e
  | some z =>
    rcases h with ⟨k, d', e, q⟩ | ⟨c', e, q⟩
    · cases e; exact ⟨z, rfl, q⟩
    · cases e
theorem de_op {a b : Expr} {op : Operator} {fa fb : EF} {g : PyData → PyData → Option PyData} (ho : OpD X (binaryOp op) g) (ha : DE X K Ew a fa) (hb : DE X K Ew b fb) (hK : X.K = K := by rfl) : DE X K Ew (.BinOp a op b pos) (eOp g fa fb) := by
  obtain ⟨r, hr, hx⟩ := ho
  refine (pe_op hr ha hb).imp fun σ H Q q => tD_two q fun B φ Γ k x k' y u v H1 H2 r2 s1 s2 v1 v2 q => ?_
  obtain ⟨z, e, q⟩ := runs_mo q
  rw [hK] at hx
  exact hx x y z u v H2 Q e (v1.toD r2.bs) (v2.toD r2.bs) fun w H' s f => q w H' ((s1.trans s2).trans s) (VR.fresh.mpr (f.from (s1.trans s2)))
theorem de_un {a : Expr} {op : UnaryOp} {fa : EF} {g : PyData → Option PyData} (ho : UnD X (unaryOp op) g) (ha : DE X K Ew a fa) (hK : X.K = K := by rfl) : DE X K Ew (.UnaryOp op a pos) (eUn g fa) := by
  obtain ⟨r, hr, hx⟩ := ho
  refine (pe_un hr ha).imp fun σ H Q q => ?_
  obtain ⟨B, φ, Γ, r0, q⟩ := q
  refine ⟨B, φ, Γ, r0, (q.bind r0).mono fun u H1 s1 ⟨k, x, e1, v1, r1, _, q1⟩ => ?_⟩
  obtain ⟨z, e, q⟩ := runs_mo q1
  rw [hK] at hx
  exact hx x z u H1 Q e (v1.toD r1.bs) fun w H' s f => q w H' (s1.trans s) (VR.fresh.mpr (f.from s1))
theorem de_ix {a b : Expr} {fa fb : EF} {g : PyData → PyData → Option PyData} (ho : IxD X g) (ha : DE X K Ew a fa) (hb : DE X K Ew b fb) (hs : PlainIx b) (hK : X.K = K := by rfl) : DE X K Ew (.Subscript a b pos) (eIx g fa fb) := by
  obtain ⟨r, hr, hx⟩ := ho
  refine (pe_ix hr ha hb hs).imp fun σ H Q q => tD_two q fun B φ Γ k x k' y u v H1 H2 r2 s1 s2 v1 v2 q => ?_
  obtain ⟨z, e, q⟩ := runs_mo (kf := fun z => nrm k z) q
  rw [hK] at hx
  exact hx B φ H k x y z u v H2 Q r2.bs e v1 (v2.toD r2.bs) fun w hw => q w H2 (s1.trans s2) hw
end
end L2
set_option Elab.async false
set_option linter.all false
set_option maxRecDepth 100000
/-! ### operations by data -/
namespace L2
open PySem PySem.Spec PyProof.Rows Y

mutual
theorem lay_can : ∀ (d : PyData) (n : Nat), lay n d = true → d.canLay0 = true ∧ d.depth ≤ n
  | .none, n, _ => by simp [PyData.canLay0, PyData.depth]
  | .bool _, n, _ => by simp [PyData.canLay0, PyData.depth]
  | .int _, n, _ => by simp [PyData.canLay0, PyData.depth]
  | .str x, n, h => by
    have h' : PyData.strOk x = true := by cases n <;> simpa [lay] using h
    simp [PyData.canLay0, PyData.depth, h']
  | .list xs, 0, h => by simp [lay] at h
  | .list xs, n + 1, h => by
    have := lays_can xs n (by simpa [lay] using h)
    simp only [PyData.canLay0, PyData.depth]
    exact ⟨this.1, by omega⟩
  | .tuple xs, 0, h => by simp [lay] at h
  | .tuple xs, n + 1, h => by
    have := lays_can xs n (by simpa [lay] using h)
    simp only [PyData.canLay0, PyData.depth]
    exact ⟨this.1, by omega⟩
  | .dict _, n, h => by cases n <;> simp [lay] at h
theorem lays_can : ∀ (ds : List PyData) (n : Nat), lays n ds = true → PyData.canLayAll0 ds = true ∧ PyData.depthAll ds ≤ n
  | [], n, _ => by simp [PyData.canLayAll0, PyData.depthAll]
  | d :: ds, n, h => by
    have h' : lay n d = true ∧ lays n ds = true := by simpa [lays] using h
    have h1 := lay_can d n h'.1
    have h2 := lays_can ds n h'.2
    simp only [PyData.canLayAll0, PyData.depthAll, h1.1, h2.1, Bool.and_self, true_and]
    omega
end

section
variable {X : Cx} {pins : List (Addr × Obj)} {σ : St} {H : Hp} {s : Shared}
mutual
theorem IsD.reads (I : Inv X pins σ H s) : ∀ (d : PyData) (v : V) (u : Value), d.canLay0 = true → IsD X.K H d v → RelV v u → ∃ as, Reads s.heap u d as
  | .none, v, u, _, h, r => by
    simp only [IsD] at h; subst h
    cases (show u = Value.none from r); exact ⟨_, .none⟩
  | .bool b, v, u, _, h, r => by
    simp only [IsD] at h; subst h
    cases (show u = Value.bool b from r); exact ⟨_, .bool b⟩
  | .int i, v, u, _, h, r => by
    simp only [IsD] at h; subst h
    obtain ⟨t, rfl⟩ := (show ∃ t, u = Value.int i t from r); exact ⟨_, .int i t⟩
  | .str x, v, u, _, h, r => by
    simp only [IsD] at h; subst h
    obtain ⟨t, rfl⟩ := (show ∃ t, u = Value.str x t from r); exact ⟨_, .str x t⟩
  | .list xs, v, u, c, h, r => by
    simp only [IsD] at h
    obtain ⟨a, vs, rfl, h1, h2⟩ := h
    cases (show u = Value.ref a from r)
    obtain ⟨its, rv, ⟨o, n, e, hc, _, hd⟩, _⟩ := I.list h1
    obtain ⟨as, ra⟩ := IsDs.reads I xs vs its (by simpa [PyData.canLay0] using c) h2 rv
    exact ⟨_, .list e hc hd (by simpa using ra)⟩
  | .tuple xs, v, u, c, h, r => by
    simp only [IsD] at h
    obtain ⟨a, vs, rfl, h1, h2⟩ := h
    cases (show u = Value.ref a from r)
    obtain ⟨its, rv, ⟨o, e, hc, n, hd⟩, _⟩ := I.tuple h1
    obtain ⟨as, ra⟩ := IsDs.reads I xs vs its (by simpa [PyData.canLay0] using c) h2 rv
    exact ⟨_, .tuple e hc hd (by simpa using ra)⟩
  | .dict _, v, u, c, h, r => by simp [PyData.canLay0] at c
theorem IsDs.reads (I : Inv X pins σ H s) : ∀ (ds : List PyData) (vs : List V) (us : List Value), PyData.canLayAll0 ds = true → IsDs X.K H ds vs → Vals vs us → ∃ as, ReadsAll s.heap us ds as
  | [], vs, us, _, h, r => by
    simp only [IsDs] at h; subst h; cases r; exact ⟨_, .nil⟩
  | d :: ds, vs, us, c, h, r => by
    simp only [IsDs] at h
    obtain ⟨v, w, rfl, h1, h2⟩ := h
    have c' : d.canLay0 = true ∧ PyData.canLayAll0 ds = true := by simpa [PyData.canLayAll0] using c
    cases r with
    | cons r1 r2 =>
      obtain ⟨as, ra⟩ := IsD.reads I d v _ c'.1 h1 r1
      obtain ⟨bs, rb⟩ := IsDs.reads I ds w _ c'.2 h2 r2
      exact ⟨_, .cons ra rb⟩
end
end
theorem Room.units80 {k : Nat} {A : Around} (r : Room k A) : A.units + 80 < cLine := by have := r.un; omega

/-! #### ==, !=, in, not in -/
section
variable {X : Cx}
/-- an operation whose rule leaves the heap -/
theorem OpD.of {f : Value → Value → Sem Value} {g : PyData → PyData → Option PyData}
    (h : ∀ (pins : List (Addr × Obj)) (s : Shared) (σ : St) (H : Hp) (x y z : PyData) (u v : V) (a b : Value) (Q : VK), Inv X pins σ H s → g x y = some z → IsD X.K H x u → IsD X.K H y v → RelV u a → RelV v b →
      (∀ w H', Same H H' → Fresh X.K H H' z w → Q w H') → wpAny (model X.prog X.w) X.A (f a b) (EP X pins σ Q) X.xe s) : OpD X f g :=
  ⟨fun u v H Q => ∃ x y z, g x y = some z ∧ IsD X.K H x u ∧ IsD X.K H y v ∧ ∀ w H', Same H H' → Fresh X.K H H' z w → Q w H',
   fun pins s σ H u v a b Q I ru rv ⟨x, y, z, e, hx, hy, q⟩ => h pins s σ H x y z u v a b Q I e hx hy ru rv q,
   fun x y z u v H Q e hx hy q => ⟨x, y, z, e, hx, hy, q⟩⟩
theorem opd_eq (hu : X.A.units + 80 < cLine) : OpD X (compareOp .Eq) gEq := OpD.of fun pins s σ H x y z u v a b Q I e hx hy ru rv q => by
  unfold gEq at e
  split at e
  · rename_i c
    have c' : lay 60 x = true ∧ lay 60 y = true := by simpa using c
    have l1 := lay_can _ _ c'.1
    have l2 := lay_can _ _ c'.2
    obtain ⟨as, ra⟩ := IsD.reads I x u a l1.1 hx ru
    obtain ⟨bs, rb⟩ := IsD.reads I y v b l2.1 hy rv
    cases e
    exact SeqAt.compareEq_reads ra rb l1.1 l2.1 (by omega) ⟨.bl _, H, I, rfl, q _ H (Same.refl H) (Fresh.imm rfl isD_bl)⟩
  · cases e
theorem opd_ne (hu : X.A.units + 80 < cLine) : OpD X (compareOp .NotEq) gNe := OpD.of fun pins s σ H x y z u v a b Q I e hx hy ru rv q => by
  unfold gNe at e
  split at e
  · rename_i c
    have c' : lay 60 x = true ∧ lay 60 y = true := by simpa using c
    have l1 := lay_can _ _ c'.1
    have l2 := lay_can _ _ c'.2
    obtain ⟨as, ra⟩ := IsD.reads I x u a l1.1 hx ru
    obtain ⟨bs, rb⟩ := IsD.reads I y v b l2.1 hy rv
    cases e
    exact SeqAt.compareNe_reads ra rb l1.1 l2.1 (by omega) ⟨.bl _, H, I, rfl, q _ H (Same.refl H) (Fresh.imm rfl isD_bl)⟩
  · cases e
theorem opd_in (hu : X.A.units + 80 < cLine) : OpD X (compareOp .In) gIn := OpD.of fun pins s σ H x y z u v a b Q I e hx hy ru rv q => by
  cases y <;> simp only [gIn] at e <;> try (cases e; done)
  · rename_i ys
    split at e
    · rename_i c
      have c' : lay 60 x = true ∧ lays 60 ys = true := by simpa using c
      have l1 := lay_can _ _ c'.1
      have l2 := lays_can _ _ c'.2
      obtain ⟨as, ra⟩ := IsD.reads I x u a l1.1 hx ru
      obtain ⟨bs, rb⟩ := IsD.reads I (.list ys) v b (by simpa [PyData.canLay0] using l2.1) hy rv
      cases e
      exact SeqAt.in_list_reads rb ra l2.1 l1.1 (by omega) ⟨.bl _, H, I, rfl, q _ H (Same.refl H) (Fresh.imm rfl isD_bl)⟩
    · cases e
  · rename_i ys
    split at e
    · rename_i c
      have c' : lay 60 x = true ∧ lays 60 ys = true := by simpa using c
      have l1 := lay_can _ _ c'.1
      have l2 := lays_can _ _ c'.2
      obtain ⟨as, ra⟩ := IsD.reads I x u a l1.1 hx ru
      obtain ⟨bs, rb⟩ := IsD.reads I (.tuple ys) v b (by simpa [PyData.canLay0] using l2.1) hy rv
      cases e
      exact SeqAt.in_tuple_reads rb ra l2.1 l1.1 (by omega) ⟨.bl _, H, I, rfl, q _ H (Same.refl H) (Fresh.imm rfl isD_bl)⟩
    · cases e
theorem opd_notIn (hu : X.A.units + 80 < cLine) : OpD X (compareOp .NotIn) gNotIn := OpD.of fun pins s σ H x y z u v a b Q I e hx hy ru rv q => by
  cases y <;> simp only [gNotIn] at e <;> try (cases e; done)
  · rename_i ys
    split at e
    · rename_i c
      have c' : lay 60 x = true ∧ lays 60 ys = true := by simpa using c
      have l1 := lay_can _ _ c'.1
      have l2 := lays_can _ _ c'.2
      obtain ⟨as, ra⟩ := IsD.reads I x u a l1.1 hx ru
      obtain ⟨bs, rb⟩ := IsD.reads I (.list ys) v b (by simpa [PyData.canLay0] using l2.1) hy rv
      cases e
      exact SeqAt.notIn_list_reads rb ra l2.1 l1.1 (by omega) ⟨.bl _, H, I, rfl, q _ H (Same.refl H) (Fresh.imm rfl isD_bl)⟩
    · cases e
  · rename_i ys
    split at e
    · rename_i c
      have c' : lay 60 x = true ∧ lays 60 ys = true := by simpa using c
      have l1 := lay_can _ _ c'.1
      have l2 := lays_can _ _ c'.2
      obtain ⟨as, ra⟩ := IsD.reads I x u a l1.1 hx ru
      obtain ⟨bs, rb⟩ := IsD.reads I (.tuple ys) v b (by simpa [PyData.canLay0] using l2.1) hy rv
      cases e
      exact SeqAt.notIn_tuple_reads rb ra l2.1 l1.1 (by omega) ⟨.bl _, H, I, rfl, q _ H (Same.refl H) (Fresh.imm rfl isD_bl)⟩
    · cases e
/-! #### is None, is True -/
theorem isNon_of {K : PySem.W.Frag} {H : Hp} {x : PyData} {u : V} (h : IsD K H x u) : decide (u = .non) = isNon x := by
  cases x <;> simp only [IsD] at h
  · subst h; rfl
  · subst h; rfl
  · subst h; rfl
  · subst h; rfl
  · obtain ⟨a, _, rfl, _⟩ := h; rfl
  · obtain ⟨a, _, rfl, _⟩ := h; rfl
  · obtain ⟨a, _, rfl, _⟩ := h; rfl
theorem opd_isNot : OpD X (compareOp .IsNot) gIsNot := OpD.of fun pins s σ H x y z u v a b Q I e hx hy ru rv q => by
  cases y <;> simp only [gIsNot] at e <;> try (cases e; done)
  cases e
  have hv := of_isD_non hy
  subst hv
  exact op_notN pins s σ H u .non a b Q I ru rv ⟨rfl, by rw [isNon_of hx]; exact q _ H (Same.refl H) (Fresh.imm rfl isD_bl)⟩

/-! #### ints -/
theorem OpD.ints {f : Value → Value → Sem Value} {C : Int → Int → Prop} {gv : Int → Int → V} {g : PyData → PyData → Option PyData} (h : OpR X f (rI C gv))
    (hg : ∀ x y z, g x y = some z → ∃ i j, x = .int i ∧ y = .int j ∧ C i j ∧ nol z = true ∧ ∀ K H, IsD K H z (gv i j)) : OpD X f g := OpD.of fun pins s σ H x y z u v a b Q I e hx hy ru rv q => by
  obtain ⟨i, j, rfl, rfl, c, hn, hz⟩ := hg x y z e
  have h1 := of_isD_int hx
  have h2 := of_isD_int hy
  subst h1 h2
  exact h pins s σ H _ _ a b Q I ru rv ⟨i, j, rfl, rfl, c, q _ H (Same.refl H) (Fresh.imm hn (hz _ _))⟩
theorem OpD.ints0 {f : Value → Value → Sem Value} {gv : Int → Int → V} {g : PyData → PyData → Option PyData} (h : OpR X f (rI0 gv))
    (hg : ∀ x y z, g x y = some z → ∃ i j, x = .int i ∧ y = .int j ∧ nol z = true ∧ ∀ K H, IsD K H z (gv i j)) : OpD X f g := OpD.of fun pins s σ H x y z u v a b Q I e hx hy ru rv q => by
  obtain ⟨i, j, rfl, rfl, hn, hz⟩ := hg x y z e
  have h1 := of_isD_int hx
  have h2 := of_isD_int hy
  subst h1 h2
  exact h pins s σ H _ _ a b Q I ru rv ⟨i, j, rfl, rfl, q _ H (Same.refl H) (Fresh.imm hn (hz _ _))⟩
theorem opd_sub : OpD X (binaryOp .Sub) Y.gSub := OpD.ints0 op_sub fun x y z e => by
  cases x <;> cases y <;> simp only [Y.gSub] at e <;> cases e
  exact ⟨_, _, rfl, rfl, rfl, fun _ _ => isD_int⟩
theorem opd_lt : OpD X (compareOp .Lt) gLt := OpD.ints0 op_lt fun x y z e => by
  cases x <;> cases y <;> simp only [gLt] at e <;> cases e
  exact ⟨_, _, rfl, rfl, rfl, fun _ _ => isD_bl⟩
theorem opd_mod : OpD X (binaryOp .Mod) gMod := OpD.ints op_mod fun x y z e => by
  cases x <;> cases y <;> simp only [gMod] at e <;> try (cases e; done)
  split at e
  · rename_i c; cases e; exact ⟨_, _, rfl, rfl, c, rfl, fun _ _ => isD_int⟩
  · cases e
theorem opd_pow : OpD X (binaryOp .Pow) gPow := OpD.ints op_pow fun x y z e => by
  cases x <;> cases y <;> simp only [gPow] at e <;> try (cases e; done)
  split at e
  · rename_i c; cases e; exact ⟨_, _, rfl, rfl, c, rfl, fun _ _ => isD_int⟩
  · cases e
theorem und_neg : UnD X (unaryOp .USub) gNeg := ⟨_, un_neg, fun x z u H Q e hx q => by
  cases x <;> simp only [gNeg] at e <;> cases e
  have := of_isD_int hx
  subst this
  exact ⟨_, rfl, q _ H (Same.refl H) (Fresh.imm rfl isD_int)⟩⟩
/-- // by a positive divisor -/
theorem opd_fdiv : OpD X (binaryOp .FloorDiv) gFdiv := OpD.of fun pins s σ H x y z u v a b Q I e hx hy ru rv q => by
  cases x <;> cases y <;> simp only [gFdiv] at e <;> try (cases e; done)
  rename_i i j
  split at e
  · rename_i c
    cases e
    have h1 := of_isD_int hx
    have h2 := of_isD_int hy
    subst h1 h2
    obtain ⟨t, rfl⟩ := ru
    obtain ⟨t', rfl⟩ := rv
    refine floordiv_int (by omega) ?_ (.inl (PyProof.noPylong_of_log2 ?_))
    · rw [Int.fdiv_eq_ediv_of_nonneg i (by omega)]
      exact ⟨.int (i / j), H, I.tok _, ⟨_, rfl⟩, q _ H (Same.refl H) (Fresh.imm rfl isD_int)⟩
    · have h3 : j.natAbs.log2 < 64 := (Nat.log2_lt (by omega)).mpr (by omega)
      omega
  · cases e
/-! #### +, * -/
theorem opd_add : OpD X (binaryOp .Add) gAdd := OpD.of fun pins s σ H x y z u v a b Q I e hx hy ru rv q => by
  cases x <;> cases y <;> simp only [gAdd] at e <;> try (cases e; done)
  · cases e
    have h1 := of_isD_int hx
    have h2 := of_isD_int hy
    subst h1 h2
    exact op_add pins s σ H _ _ a b Q I ru rv ⟨_, _, rfl, rfl, q _ H (Same.refl H) (Fresh.imm rfl isD_int)⟩
  · rename_i x y
    split at e
    · rename_i c
      cases e
      have h1 := of_isD_str hx
      have h2 := of_isD_str hy
      subst h1 h2
      obtain ⟨t, rfl⟩ := ru
      obtain ⟨t', rfl⟩ := rv
      exact add_str (fun t' tk => ⟨.str (x ++ y), H, I.tok _, ⟨_, rfl⟩, q _ H (Same.refl H) (Fresh.imm rfl isD_str)⟩) c
    · cases e
  · rename_i xs ys
    split at e
    · rename_i c
      have c' : (nols xs = true ∧ nols ys = true) ∧ xs.length + ys.length ≤ sizeLine := by simpa using c
      cases e
      obtain ⟨p, vs, rfl, h1, h2⟩ := of_isD_lst hx
      obtain ⟨p', vs', rfl, h3, h4⟩ := of_isD_lst hy
      cases ru; cases rv
      obtain ⟨its, r1, ⟨⟨c1, d1, da1, sl1⟩, n1, ho1, hc1, _, hd1⟩, _⟩ := I.list h1
      obtain ⟨its2, r2, ⟨⟨c2, d2, da2, sl2⟩, n2, ho2, hc2, _, hd2⟩, _⟩ := I.list h3
      simp only at hc1 hd1 hc2 hd2
      subst hc1 hd1 hc2 hd2
      have hz : vs.length + vs'.length ≤ sizeLine := by rw [isDs_length h2, isDs_length h4]; exact c'.2
      have hz2 : its.length + its2.length ≤ sizeLine := by rw [← r1.length, ← r2.length]; exact hz
      refine concat_meets ⟨_, ho1, rfl⟩ ⟨_, ho2, rfl⟩ noFill_list_add seq_list_add PySem.F.slot_list_add PySem.F.entry_list_add (PySem.F.args_list_add_2 _ _) (list_addW p p' its.toArray its2.toArray n1 n2 d1 d2 sl1 sl2 (by simpa using hz2)) ⟨ho1, ho2, ?_⟩
      have ea : its.toArray ++ its2.toArray = (its ++ its2).toArray := by simp
      rw [ea]
      have hf := I.fresh
      refine ⟨.ref _, _, I.lnew (t' := s.toks) (r1.append r2) (by rw [List.length_append]; exact hz), rfl, q _ _ (Same.upd hf) ?_⟩
      exact Fresh.lst (by rw [nols_append, c'.1.1, c'.1.2]; rfl) upd_same (IsDs.same (Same.upd hf) _ _ (isDs_append h2 h4)) hf
    · cases e
  · rename_i xs ys
    split at e
    · rename_i c
      have c' : (nols xs = true ∧ nols ys = true) ∧ xs.length + ys.length ≤ sizeLine := by simpa using c
      cases e
      obtain ⟨p, vs, rfl, h1, h2⟩ := of_isD_tup hx
      obtain ⟨p', vs', rfl, h3, h4⟩ := of_isD_tup hy
      have l1 := isDs_length h2
      have l2 := isDs_length h4
      by_cases hn : vs = []
      · have hds : xs = [] := List.eq_nil_of_length_eq_zero (by rw [← l1, hn]; rfl)
        cases ru; cases rv
        obtain ⟨its, r1, p1, _⟩ := I.tuple h1
        obtain ⟨its2, r2, p2, _⟩ := I.tuple h3
        obtain ⟨⟨cls, dd, data, sl⟩, ho, hc, n, hda⟩ := id p1
        obtain ⟨⟨cls2, dd2, data2, sl2⟩, ho2, hc2, n2, hdb⟩ := id p2
        simp only at hc hda hc2 hdb
        subst hc hda hc2 hdb
        have hv : its = [] := (r1.nil_iff).mpr hn
        exact concat_meets ⟨_, ho, rfl⟩ ⟨_, ho2, rfl⟩ noFill_tuple_add seq_tuple_add PySem.F.slot_tuple_add PySem.F.entry_tuple_add (PySem.F.args_tuple_add_2 _ _)
          (tuple_addW0 p p' its.toArray its2.toArray n n2 dd dd2 sl sl2 (by simp [hv])) ⟨ho, ho2, ⟨.ref p', H, I, rfl, q _ H (Same.refl H) (Fresh.imm (by rw [nol, hds]; exact c'.1.2) (by rw [hds]; exact hy))⟩⟩
      · refine op_catT pins s σ H _ _ a b Q I ru rv ⟨p, p', vs, vs', rfl, rfl, h1, h3, hn, by omega, fun e => ?_, fun e t ht => ?_⟩
        · have hes : ys = [] := List.eq_nil_of_length_eq_zero (by rw [← l2, e]; rfl)
          exact q _ H (Same.refl H) (Fresh.imm (by rw [nol, hes, List.append_nil]; exact c'.1.1) (by rw [hes, List.append_nil]; exact hx))
        · exact q _ _ (Same.upd ht) (Fresh.tup (by rw [nols_append, c'.1.1, c'.1.2]; rfl) (SqT.of upd_same) (IsDs.same (Same.upd ht) _ _ (isDs_append h2 h4)))
    · cases e
end
end L2
set_option Elab.async false
set_option linter.all false
set_option maxRecDepth 100000
/-! ### tests, stores, statements by data -/
namespace L2
open PySem PySem.Spec PyProof.Rows Y

section
variable {X : Cx} {K : PySem.W.Frag} {Ew : Str → Hp → Prop} {pos : Pos} {a b : Expr} {fa fb : EF} {ta tb : TF}
theorem runs_tE {B : Hp} {φ : Nat → List Addr} {Γ : DEnv} {σ : St} {H : Hp} {Q : Bool → Hp → Prop} (r : Rep K B φ Γ σ H) (h : RunT Ew B H (tE fa Γ) Q) :
    Runs K Ew B φ H (fa Γ) (fun v H1 => ∃ c, v = .bl c ∧ Q c H1) := by
  unfold tE at h
  match hm : fa Γ, h with
  | some (.ok (k, d)), h =>
    refine .inl ⟨k, d, rfl, fun v H' s hv => ?_⟩
    cases d <;> try (rcases h with ⟨t, e, _⟩ | ⟨c, e, _⟩ <;> cases e; done)
    rename_i t
    rcases h with ⟨t', e, h⟩ | ⟨c, e, h⟩
    · cases e
      have := of_isD_bl (hv.toD (r.bs.trans s))
      exact ⟨t, this, h H' s⟩
    · cases e
  | some (.ex c), h =>
    rcases h with ⟨t', e, h⟩ | ⟨c', e, h⟩
    · cases e
    · cases e; exact .inr ⟨c, rfl, h⟩
  | none, h => rcases h with ⟨t', e, h⟩ | ⟨c', e, h⟩ <;> cases e
theorem dt_val (ha : DE X K Ew a fa) (he : ∀ whole, isTrue a X.env whole = (do let v ← whole; standAt a.pos; holding [v] (truthy v)) := by intro _; rfl) : DT X K Ew a (tE fa) :=
  (pt_val ha he).imp fun σ H Q q => by
    obtain ⟨B, φ, Γ, r, q⟩ := q
    exact ⟨B, φ, Γ, r, runs_tE r q⟩
theorem dt_cmp {op : CmpOp} {g : PyData → PyData → Option PyData} (ho : OpD X (compareOp op) g) (ha : DE X K Ew a fa) (hb : DE X K Ew b fb) (hm : behindInMarks op b = false) (hK : X.K = K := by rfl) :
    DT X K Ew (.Compare a [op] [b] pos) (tE (eOp g fa fb)) := by
  obtain ⟨r, hr, hx⟩ := ho
  refine (pt_cmpR hr ha hb hm).imp fun σ H Q q => ?_
  obtain ⟨B, φ, Γ, r0, q⟩ := q
  refine tD_two (g := fun x y => mbind (mo (g x.2 y.2)) fun z => mret (.fr [], z)) (Q := fun v H1 => ∃ c, v = .bl c ∧ Q c H1) ⟨B, φ, Γ, r0, runs_tE r0 q⟩ fun B φ Γ k x k' y u v H1 H2 r2 s1 s2 v1 v2 q => ?_
  obtain ⟨z, e, q⟩ := runs_mo (kf := fun _ => .fr []) q
  rw [hK] at hx
  exact hx x y z u v H2 _ e (v1.toD r2.bs) (v2.toD r2.bs) fun w H' s f => q w H' ((s1.trans s2).trans s) (VR.fresh.mpr (f.from (s1.trans s2)))
theorem dw_and1 (ha : DT X K Ew a ta) : DW X K Ew (.BoolOp .And [a] pos) ta := pw_and1 ha
theorem dw_or1 (ha : DT X K Ew a ta) : DW X K Ew (.BoolOp .Or [a] pos) ta := pw_or1 ha
theorem dw_and {rest : List Expr} (ha : DT X K Ew a ta) (hb : DW X K Ew (.BoolOp .And (b :: rest) pos) tb) : DW X K Ew (.BoolOp .And (a :: b :: rest) pos) (tAndF ta tb) :=
  (pw_and ha hb).imp fun σ H Q q => by
    obtain ⟨B, φ, Γ, r, q⟩ := q
    refine ⟨B, φ, Γ, r, ?_⟩
    have q' := RunT.bind q
    rcases q' with ⟨t, e, q'⟩ | q'
    · refine .inl ⟨t, e, fun H1 s1 => ?_⟩
      obtain ⟨_, _, q2⟩ := q' H1 s1
      cases t with
      | true => rw [if_pos rfl] at q2 ⊢; exact ⟨B, φ, Γ, r.same s1, q2⟩
      | false =>
        rw [if_neg Bool.false_ne_true] at q2 ⊢
        rcases q2 with ⟨t', e', q2⟩ | ⟨c, e', _⟩
        · cases e'; exact q2 H1 (Same.refl H1)
        · cases e'
    · exact .inr q'
theorem dw_or {rest : List Expr} (ha : DT X K Ew a ta) (hb : DW X K Ew (.BoolOp .Or (b :: rest) pos) tb) : DW X K Ew (.BoolOp .Or (a :: b :: rest) pos) (tOrF ta tb) :=
  (pw_or ha hb).imp fun σ H Q q => by
    obtain ⟨B, φ, Γ, r, q⟩ := q
    refine ⟨B, φ, Γ, r, ?_⟩
    have q' := RunT.bind q
    rcases q' with ⟨t, e, q'⟩ | q'
    · refine .inl ⟨t, e, fun H1 s1 => ?_⟩
      obtain ⟨_, _, q2⟩ := q' H1 s1
      cases t with
      | false => rw [if_neg Bool.false_ne_true] at q2 ⊢; exact ⟨B, φ, Γ, r.same s1, q2⟩
      | true =>
        rw [if_pos rfl] at q2 ⊢
        rcases q2 with ⟨t', e', q2⟩ | ⟨c, e', _⟩
        · cases e'; exact q2 H1 (Same.refl H1)
        · cases e'
    · exact .inr q'
theorem DW.dt (h : DW X K Ew a ta) : DT X K Ew a ta := PW.pt h
theorem dt_not (ha : DT X K Ew a ta) : DT X K Ew (.UnaryOp .Not a pos) (tNotF ta) := (pt_not ha).imp fun σ H Q q => by
  obtain ⟨B, φ, Γ, r, q⟩ := q
  refine ⟨B, φ, Γ, r, ?_⟩
  have q' := RunT.bind q
  rcases q' with ⟨t, e, q'⟩ | q'
  · refine .inl ⟨t, e, fun H1 s1 => ?_⟩
    obtain ⟨_, _, q2⟩ := q' H1 s1
    rcases q2 with ⟨t', e', q2⟩ | ⟨c, e', _⟩
    · cases e'; exact q2 H1 (Same.refl H1)
    · cases e'
  · exact .inr q'
theorem de_if {c : Expr} (hc : DT X K Ew c ta) (ha : DE X K Ew a fa) (hb : DE X K Ew b fb) : DE X K Ew (.IfExp c a b pos) (eIf ta fa fb) := (pe_ifExp hc ha hb).imp fun σ H Q q => by
  obtain ⟨B, φ, Γ, r, q⟩ := q
  refine ⟨B, φ, Γ, r, ?_⟩
  unfold eIf at q
  match hm : ta Γ, q with
  | some (.ok t), q =>
    refine .inl ⟨t, rfl, fun H1 s1 => ?_⟩
    cases t with
    | true => rw [if_pos rfl]; exact ⟨B, φ, Γ, r.same s1, Runs.later q s1⟩
    | false => rw [if_neg Bool.false_ne_true]; exact ⟨B, φ, Γ, r.same s1, Runs.later q s1⟩
  | some (.ex c), q =>
    rcases q with ⟨k, d, e, h⟩ | ⟨c', e, h⟩
    · cases e
    · cases e; exact .inr ⟨c, rfl, h⟩
  | none, q => rcases q with ⟨k, d, e, h⟩ | ⟨c', e, h⟩ <;> cases e
/-- and, or, not as values (bools) -/
theorem de_one {op} (ha : DE X K Ew a fa) : DE X K Ew (.BoolOp op [a] pos) fa := pe_one ha
theorem runs_b1 {B : Hp} {φ : Nat → List Addr} {Γ : DEnv} {σ : St} {H : Hp} {Q Q' : VK} {g : PyData → M (Kd × PyData)} (r : Rep K B φ Γ σ H) (h : Runs K Ew B φ H (mbind (fa Γ) fun x => g x.2) Q)
    (hg : ∀ d, (∀ t, d ≠ .bool t) → g d = none) (i : ∀ t H1, Same H H1 → Rep K B φ Γ σ H1 → Runs K Ew B φ H1 (g (.bool t)) Q → Q' (.bl t) H1) : Runs K Ew B φ H (fa Γ) Q' := by
  refine (h.bind r).mono fun v H1 s1 ⟨k, d, e, hv, r1, _, q⟩ => ?_
  cases d with
  | bool t =>
    have := of_isD_bl (hv.toD r1.bs)
    subst this
    exact i t H1 s1 r1 (q.later s1)
  | _ =>
    exfalso
    rw [show g _ = none from hg _ (by intro t z; cases z)] at q
    rcases q with ⟨k, d, e, h⟩ | ⟨c', e, h⟩ <;> cases e
theorem de_and {rest : List Expr} (ha : DE X K Ew a fa) (hb : DE X K Ew (.BoolOp .And (b :: rest) pos) fb) : DE X K Ew (.BoolOp .And (a :: b :: rest) pos) (eAnd fa fb) := (pe_and ha hb).imp fun σ H Q q => by
  obtain ⟨B, φ, Γ, r, q⟩ := q
  refine ⟨B, φ, Γ, r, runs_b1 (g := fun d => match d with | .bool true => fb Γ | .bool false => mret (.fr [], .bool false) | _ => none) r q (fun d hd => ?_) fun t H1 s1 r1 q1 => ⟨t, rfl, ?_⟩⟩
  · cases d <;> first | rfl | exact absurd rfl (hd _)
  · cases t with
    | true => rw [if_pos rfl]; exact ⟨B, φ, Γ, r1, q1⟩
    | false =>
      rw [if_neg Bool.false_ne_true]
      rcases q1 with ⟨k, d, e, h⟩ | ⟨c', e, h⟩
      · cases e; exact h _ H1 (Same.refl H1) (VR.imm rfl isD_bl [])
      · cases e
theorem de_not (ha : DE X K Ew a fa) : DE X K Ew (.UnaryOp .Not a pos) (eNotV fa) := (pe_not ha).imp fun σ H Q q => by
  obtain ⟨B, φ, Γ, r, q⟩ := q
  refine ⟨B, φ, Γ, r, runs_b1 (g := fun d => match d with | .bool t => mret (.fr [], .bool (!t)) | _ => none) r q (fun d hd => ?_) fun t H1 s1 r1 q1 => ⟨t, rfl, ?_⟩⟩
  · cases d <;> first | rfl | exact absurd rfl (hd _)
  · rcases q1 with ⟨k, d, e, h⟩ | ⟨c', e, h⟩
    · cases e; exact h _ H1 (Same.refl H1) (VR.imm rfl isD_bl [])
    · cases e
end
end L2
set_option Elab.async false
set_option linter.all false
set_option maxRecDepth 100000
namespace L2
open PySem PySem.Spec PyProof.Rows Y
open Classical in
/-- all but the own lists and dicts -/
noncomputable def cutB (φ : Nat → List Addr) (H : Hp) : Hp := fun a => if ∃ j, a ∈ φ j then none else H a
theorem cutB_of {φ : Nat → List Addr} {H : Hp} {a : Addr} (h : ∀ j, a ∉ φ j) : cutB φ H a = H a := by
  unfold cutB; rw [if_neg]; rintro ⟨j, z⟩; exact h j z
theorem cutB_in {φ : Nat → List Addr} {H : Hp} {a : Addr} {j : Nat} (h : a ∈ φ j) : cutB φ H a = none := by
  unfold cutB; rw [if_pos ⟨j, h⟩]
theorem cutB_same (φ : Nat → List Addr) (H : Hp) : Same (cutB φ H) H := fun a o e => by
  unfold cutB at e
  split at e
  · cases e
  · exact e
section
variable {K : PySem.W.Frag} {B B' H H' : Hp} {φ : Nat → List Addr} {Γ : DEnv} {σ : St} {k : Kd} {d : PyData} {v : V}
theorem SqT.toB {a : Addr} {xs : List V} (e : ∀ a o, H a = some o → ¬ isMu o → B' a = some o) (h : SqT K H a xs) : SqT K B' a xs := by
  rcases h with (h | ⟨o, h⟩) | h
  · exact .inl (.inl (e _ _ h (fun z => z)))
  · exact .inl (.inr ⟨o, e _ _ h (fun z => z)⟩)
  · exact .inr h
mutual
theorem IsT.toB (e : ∀ a o, H a = some o → ¬ isMu o → B' a = some o) : ∀ (d : PyData) (v : V) (as : List Addr), (∀ a ∈ as, ∀ o, H a = some o → B' a = some o) → IsT K H d v as → IsD K B' d v
  | .none, v, as, _, h => by simp only [IsT] at h; simp only [IsD]; exact h.1
  | .bool b, v, as, _, h => by simp only [IsT] at h; simp only [IsD]; exact h.1
  | .int i, v, as, _, h => by simp only [IsT] at h; simp only [IsD]; exact h.1
  | .str x, v, as, _, h => by simp only [IsT] at h; simp only [IsD]; exact h.1
  | .list xs, v, as, m, h => by
    simp only [IsT] at h; simp only [IsD]
    obtain ⟨a, vs, bs, e1, h1, h2, rfl⟩ := h
    exact ⟨a, vs, e1, SqL.of (m a List.mem_cons_self _ h1), IsTs.toB e xs vs bs (fun b hb => m b (List.mem_cons_of_mem _ hb)) h2⟩
  | .tuple xs, v, as, m, h => by
    simp only [IsT] at h; simp only [IsD]
    obtain ⟨a, vs, e1, h1, h2⟩ := h
    exact ⟨a, vs, e1, h1.toB e, IsTs.toB e xs vs as m h2⟩
  | .dict kvs, v, as, m, h => by
    simp only [IsT] at h; simp only [IsD]
    obtain ⟨a, ks, bs, e1, h1, h2, rfl⟩ := h
    exact ⟨a, ks, e1, .inl (m a List.mem_cons_self _ h1), IsTk.toB e kvs ks bs (fun b hb => m b (List.mem_cons_of_mem _ hb)) h2⟩
theorem IsTs.toB (e : ∀ a o, H a = some o → ¬ isMu o → B' a = some o) : ∀ (ds : List PyData) (vs : List V) (as : List Addr), (∀ a ∈ as, ∀ o, H a = some o → B' a = some o) → IsTs K H ds vs as → IsDs K B' ds vs
  | [], vs, as, _, h => by simp only [IsTs] at h; simp only [IsDs]; exact h.1
  | d :: ds, vs, as, m, h => by
    simp only [IsTs] at h; simp only [IsDs]
    obtain ⟨v, r, a1, a2, e1, rfl, h1, h2⟩ := h
    exact ⟨v, r, e1, IsT.toB e d v a1 (fun b hb => m b (List.mem_append_left _ hb)) h1, IsTs.toB e ds r a2 (fun b hb => m b (List.mem_append_right _ hb)) h2⟩
theorem IsTk.toB (e : ∀ a o, H a = some o → ¬ isMu o → B' a = some o) : ∀ (ds : List (PyData × PyData)) (ks : List (PyData × V × V)) (as : List Addr), (∀ a ∈ as, ∀ o, H a = some o → B' a = some o) → IsTk K H ds ks as → IsDk K B' ds ks
  | [], ks, as, _, h => by simp only [IsTk] at h; simp only [IsDk]; exact h.1
  | (k, d) :: r, ks, as, m, h => by
    simp only [IsTk] at h; simp only [IsDk]
    obtain ⟨kv, v, q, a1, a2, e1, rfl, h1, h2, h3⟩ := h
    exact ⟨kv, v, q, e1, IsT.toB e k kv [] (fun b hb => by cases hb) h1, IsT.toB e d v a1 (fun b hb => m b (List.mem_append_left _ hb)) h2, IsTk.toB e r q a2 (fun b hb => m b (List.mem_append_right _ hb)) h3⟩
end
theorem Rep.mu (r : Rep K B φ Γ σ H) : ∀ a o, H a = some o → ¬ isMu o → cutB φ H a = some o := fun a o e n => by
  rw [cutB_of]
  · exact e
  · intro j hj
    obtain ⟨o', e', m⟩ := (r.nb j a hj).2
    rw [e] at e'; cases e'
    exact n m
theorem Rep.cutS (r : Rep K B φ Γ σ H) : Same B (cutB φ H) := fun a o e => by
  rw [cutB_of]
  · exact r.bs a o e
  · intro j hj
    rw [(r.nb j a hj).1] at e
    cases e
/-- another base -/
theorem Rep.base (r : Rep K B φ Γ σ H) (s : Same B B') (s' : Same B' H) (n : ∀ j, ∀ a ∈ φ j, B' a = none) : Rep K B' φ Γ σ H where
  bs := s'
  len := r.len
  sl := fun i o d e => by
    obtain ⟨v, h1, h2⟩ := r.sl i o d e
    refine ⟨v, h1, ?_⟩
    cases o with
    | true => exact h2
    | false => rw [if_neg Bool.false_ne_true] at h2 ⊢; exact IsD.same s _ _ h2
  nd := r.nd
  nb := fun i a ha => ⟨n i a ha, (r.nb i a ha).2⟩
  dj := r.dj
theorem Rep.cut (r : Rep K B φ Γ σ H) : Rep K (cutB φ H) φ Γ σ H := r.base r.cutS (cutB_same _ _) fun j a ha => cutB_in ha

def drp (φ : Nat → List Addr) (i : Nat) : Nat → List Addr := fun j => if j = i then [] else φ j
theorem drp_mem {φ : Nat → List Addr} {i j : Nat} {a : Addr} (h : a ∈ drp φ i j) : j ≠ i ∧ a ∈ φ j := by
  unfold drp at h
  split at h
  · cases h
  · rename_i n; exact ⟨n, h⟩
/-- less is own -/
theorem Rep.less {ψ : Nat → List Addr} (r : Rep K B φ Γ σ H) (hψ : ∀ j, ψ j = φ j ∨ ψ j = []) (Γ' : DEnv) (hl : Γ'.length = Γ.length)
    (hs : ∀ i o d, Γ'[i]? = some (some (o, d)) → (Γ[i]? = some (some (o, d)) ∧ (o = true → ψ i = φ i)) ∨ (o = false ∧ ψ i = [] ∧ ∃ o', Γ[i]? = some (some (o', d)))) :
    Same B (cutB ψ H) ∧ Rep K (cutB ψ H) ψ Γ' σ H := by
  have sub : ∀ j a, a ∈ ψ j → a ∈ φ j := fun j a ha => by
    rcases hψ j with e | e
    · rw [e] at ha; exact ha
    · rw [e] at ha; cases ha
  have s1 : Same B (cutB ψ H) := fun a o e => by
    rw [cutB_of]
    · exact r.bs a o e
    · intro j hj
      rw [(r.nb j a (sub j a hj)).1] at e
      cases e
  have mu : ∀ a o, H a = some o → ¬ isMu o → cutB ψ H a = some o := fun a o e n => by
    rw [cutB_of]
    · exact e
    · intro j hj
      obtain ⟨o', e', m⟩ := (r.nb j a (sub j a hj)).2
      rw [e] at e'; cases e'
      exact n m
  refine ⟨s1, cutB_same _ _, hl.trans r.len, fun i o d e => ?_, fun j => ?_, fun j a ha => ⟨cutB_in ha, (r.nb j a (sub j a ha)).2⟩, fun i j n a ha hb => r.dj i j n a (sub i a ha) (sub j a hb)⟩
  · rcases hs i o d e with ⟨e1, e2⟩ | ⟨rfl, e2, o', e3⟩
    · obtain ⟨v, h1, h2⟩ := r.sl i o d e1
      refine ⟨v, h1, ?_⟩
      cases o with
      | true => rw [if_pos rfl] at h2 ⊢; rw [e2 rfl]; exact h2
      | false => rw [if_neg Bool.false_ne_true] at h2 ⊢; exact IsD.same s1 _ _ h2
    · obtain ⟨v, h1, h2⟩ := r.sl i o' d e3
      refine ⟨v, h1, ?_⟩
      rw [if_neg Bool.false_ne_true]
      cases o' with
      | false => rw [if_neg Bool.false_ne_true] at h2; exact IsD.same s1 _ _ h2
      | true =>
        rw [if_pos rfl] at h2
        refine IsT.toB mu _ _ _ (fun a ha o e => ?_) h2
        rw [cutB_of]
        · exact e
        · intro j hj
          by_cases hji : j = i
          · subst hji; rw [e2] at hj; cases hj
          · exact r.dj i j (Ne.symm hji) a ha (sub j a hj)
  · rcases hψ j with e | e
    · rw [e]; exact r.nd j
    · rw [e]; exact List.nodup_nil
theorem frz1_len (i : Nat) (Γ : DEnv) : (frz1 i Γ).length = Γ.length := by
  unfold frz1
  split <;> simp
theorem Rep.frz1 (r : Rep K B φ Γ σ H) (i : Nat) : Same B (cutB (drp φ i) H) ∧ Rep K (cutB (drp φ i) H) (drp φ i) (frz1 i Γ) σ H := by
  refine r.less (fun j => ?_) _ (frz1_len i Γ) fun j o d e => ?_
  · unfold drp
    by_cases h : j = i
    · exact .inr (if_pos h)
    · exact .inl (if_neg h)
  · unfold Y.frz1 at e
    split at e
    · rename_i o' d' hg
      by_cases h : j = i
      · subst h
        have hj : j < Γ.length := (List.getElem?_eq_some_iff.mp hg).1
        rw [List.getElem?_set_self hj] at e
        cases e
        exact .inr ⟨rfl, if_pos rfl, o', hg⟩
      · rw [List.getElem?_set_ne (Ne.symm h)] at e
        exact .inl ⟨e, fun _ => if_neg h⟩
    · rename_i hg
      by_cases h : j = i
      · subst h
        exact absurd e (hg o d)
      · exact .inl ⟨e, fun _ => if_neg h⟩
theorem Rep.frzL : ∀ (l : List Nat) {B : Hp} {φ : Nat → List Addr} {Γ : DEnv}, Rep K B φ Γ σ H → ∃ ψ, Same B (cutB ψ H) ∧ Rep K (cutB ψ H) ψ (frzL l Γ) σ H ∧ (∀ j a, a ∈ ψ j → a ∈ φ j) ∧ ∀ j ∈ l, ψ j = []
  | [], B, φ, Γ, r => ⟨φ, r.cutS, r.cut, fun _ _ h => h, fun j hj => by cases hj⟩
  | i :: l, B, φ, Γ, r => by
    obtain ⟨s1, r1⟩ := r.frz1 i
    obtain ⟨ψ, s2, r2, h3, h4⟩ := Rep.frzL l r1
    refine ⟨ψ, s1.trans s2, r2, fun j a ha => (drp_mem (h3 j a ha)).2, fun j hj => ?_⟩
    rcases List.mem_cons.mp hj with rfl | hj
    · cases e : ψ j with
      | nil => rfl
      | cons b t =>
        have := drp_mem (h3 j b (by rw [e]; exact List.mem_cons_self))
        exact absurd rfl this.1
    · exact h4 j hj
theorem Rep.frzA (r : Rep K B φ Γ σ H) : Same B H ∧ Rep K H (fun _ => []) (frzA Γ) σ H := by
  have h := r.less (ψ := fun _ => []) (fun j => .inr rfl) (Y.frzA Γ) (by simp [Y.frzA]) fun j o d e => by
    unfold Y.frzA at e
    rw [List.getElem?_map] at e
    cases hg : Γ[j]? with
    | none => rw [hg] at e; cases e
    | some s =>
      rw [hg] at e
      cases s with
      | none => cases e
      | some p => cases e; exact .inr ⟨rfl, rfl, p.1, rfl⟩
  have e : cutB (fun _ => []) H = H := by
    funext a
    exact cutB_of fun j hj => by cases hj
  rw [e] at h
  exact h

/-- a value that may be stored -/
def Av (K : PySem.W.Frag) (B : Hp) (φ : Nat → List Addr) (H : Hp) : Kd → PyData → V → Prop
  | .fr l, d, v => ∃ as, IsT K H d v as ∧ as.Nodup ∧ ∀ a ∈ as, (∃ i ∈ l, a ∈ φ i) ∨ (B a = none ∧ ∀ j, a ∉ φ j)
  | .base, d, v => IsD K B d v
  | .any, d, v => IsD K H d v
theorem VR.av {H0 : Hp} (r : Rep K B φ Γ σ H0) (h : VR K B φ H0 H k d v) : Av K B φ H k d v := by
  cases k with
  | fr l =>
    obtain ⟨as, h1, h2, h3⟩ := h
    refine ⟨as, h1, h2, fun a ha => (h3 a ha).imp id fun z => ⟨r.bs.free z, fun j hj => ?_⟩⟩
    obtain ⟨o, e, _⟩ := (r.nb j a hj).2
    rw [z] at e; cases e
  | base => exact h
  | any => exact h
theorem Rep.put {as : List Addr} (r : Rep K B φ Γ σ H) (i : Nat) (h : IsT K H d v as) (nd : as.Nodup) (hb : ∀ a ∈ as, B a = none ∧ ∀ j, j ≠ i → a ∉ φ j) :
    Rep K B (fun j => if j = i then as else φ j) (Γ.set i (some (true, d))) (σ.set i (some v)) H where
  bs := r.bs
  len := by rw [List.length_set, List.length_set]; exact r.len
  sl := fun j o d' e => by
    by_cases hj : j = i
    · subst hj
      by_cases hlt : j < Γ.length
      · rw [List.getElem?_set_self hlt] at e
        cases e
        refine ⟨v, by rw [List.getElem?_set_self (by rw [← r.len]; exact hlt)], ?_⟩
        rw [if_pos rfl, if_pos rfl]; exact h
      · rw [List.getElem?_eq_none (by rw [List.length_set]; omega)] at e
        cases e
    · rw [List.getElem?_set_ne (Ne.symm hj)] at e
      obtain ⟨w, h1, h2⟩ := r.sl j o d' e
      refine ⟨w, by rw [List.getElem?_set_ne (Ne.symm hj)]; exact h1, ?_⟩
      simp only [if_neg hj]
      exact h2
  nd := fun j => by
    by_cases hj : j = i
    · simp only [if_pos hj]; exact nd
    · simp only [if_neg hj]; exact r.nd j
  nb := fun j a ha => by
    by_cases hj : j = i
    · simp only [if_pos hj] at ha; exact ⟨(hb a ha).1, IsT.live _ _ _ h a ha⟩
    · simp only [if_neg hj] at ha; exact r.nb j a ha
  dj := fun j j' n a ha hb' => by
    by_cases hj : j = i
    · simp only [if_pos hj] at ha
      by_cases hj' : j' = i
      · exact n (hj.trans hj'.symm)
      · simp only [if_neg hj'] at hb'; exact (hb a ha).2 j' hj' hb'
    · simp only [if_neg hj] at ha
      by_cases hj' : j' = i
      · simp only [if_pos hj'] at hb'; exact (hb a hb').2 j hj ha
      · simp only [if_neg hj'] at hb'; exact r.dj j j' n a ha hb'
theorem Rep.putB (r : Rep K B φ Γ σ H) (i : Nat) (h : IsD K B d v) : Rep K B (drp φ i) (Γ.set i (some (false, d))) (σ.set i (some v)) H where
  bs := r.bs
  len := by rw [List.length_set, List.length_set]; exact r.len
  sl := fun j o d' e => by
    by_cases hj : j = i
    · subst hj
      by_cases hlt : j < Γ.length
      · rw [List.getElem?_set_self hlt] at e
        cases e
        refine ⟨v, by rw [List.getElem?_set_self (by rw [← r.len]; exact hlt)], ?_⟩
        rw [if_neg Bool.false_ne_true]; exact h
      · rw [List.getElem?_eq_none (by rw [List.length_set]; omega)] at e
        cases e
    · rw [List.getElem?_set_ne (Ne.symm hj)] at e
      obtain ⟨w, h1, h2⟩ := r.sl j o d' e
      refine ⟨w, by rw [List.getElem?_set_ne (Ne.symm hj)]; exact h1, ?_⟩
      unfold drp
      simp only [if_neg hj]
      exact h2
  nd := fun j => by
    unfold drp
    by_cases hj : j = i
    · simp only [if_pos hj]; exact List.nodup_nil
    · simp only [if_neg hj]; exact r.nd j
  nb := fun j a ha => r.nb j a (drp_mem ha).2
  dj := fun j j' n a ha hb' => r.dj j j' n a (drp_mem ha).2 (drp_mem hb').2
/-- a name no longer told of -/
theorem Rep.kill (r : Rep K B φ Γ σ H) (i : Nat) : Rep K B (drp φ i) (Γ.set i none) σ H where
  bs := r.bs
  len := by rw [List.length_set]; exact r.len
  sl := fun j o d' e => by
    by_cases hj : j = i
    · subst hj
      by_cases hlt : j < Γ.length
      · rw [List.getElem?_set_self hlt] at e; cases e
      · rw [List.getElem?_eq_none (by rw [List.length_set]; omega)] at e; cases e
    · rw [List.getElem?_set_ne (Ne.symm hj)] at e
      obtain ⟨w, h1, h2⟩ := r.sl j o d' e
      refine ⟨w, h1, ?_⟩
      unfold drp
      simp only [if_neg hj]
      exact h2
  nd := fun j => by
    unfold drp
    by_cases hj : j = i
    · simp only [if_pos hj]; exact List.nodup_nil
    · simp only [if_neg hj]; exact r.nd j
  nb := fun j a ha => r.nb j a (drp_mem ha).2
  dj := fun j j' n a ha hb' => r.dj j j' n a (drp_mem ha).2 (drp_mem hb').2

theorem stor_ok (r : Rep K B φ Γ σ H) (i : Nat) (h : Av K B φ H k d v) : ∃ B' φ', Same B B' ∧ Rep K B' φ' (stor Γ i k d) (σ.set i (some v)) H := by
  match k, h with
  | .fr [], h =>
    obtain ⟨as, h1, h2, h3⟩ := h
    exact ⟨B, _, Same.refl B, r.put i h1 h2 fun a ha => by
      rcases h3 a ha with ⟨_, z, _⟩ | z
      · cases z
      · exact ⟨z.1, fun j _ => z.2 j⟩⟩
  | .fr (j :: l), h =>
    obtain ⟨as, h1, h2, h3⟩ := h
    obtain ⟨ψ, s1, r1, sub, hl⟩ := r.frzL (j :: l)
    refine ⟨_, _, s1, r1.putB i ?_⟩
    refine IsT.toB (fun a o e n => ?_) _ _ _ (fun a ha o e => ?_) h1
    · rw [cutB_of]
      · exact e
      · intro j' hj'
        obtain ⟨o', e', m⟩ := (r.nb j' a (sub j' a hj')).2
        rw [e] at e'; cases e'
        exact n m
    · rw [cutB_of]
      · exact e
      · intro j' hj'
        rcases h3 a ha with ⟨i', hi', z⟩ | z
        · by_cases hij : i' = j'
          · subst hij; rw [hl _ hi'] at hj'; cases hj'
          · exact r.dj i' j' hij a z (sub j' a hj')
        · exact z.2 j' (sub j' a hj')
  | .base, h => exact ⟨B, _, Same.refl B, r.putB i h⟩
  | .any, h =>
    obtain ⟨s1, r1⟩ := r.frzA
    exact ⟨H, _, s1, r1.putB i h⟩
end

/-! ### statements -/

section
variable {X : Cx} {K : PySem.W.Frag} {Ew : Str → Hp → Prop} {pos : Pos} {st : Stmt} {rest : List Stmt} {e : Expr} {fe : EF} {f g : SF} {t : TF}
theorem RV.base {B B' H' : Hp} {o : Bool} {d : PyData} {v : V} (s : Same B B') (h : RV K B' H' o d v) : RV K B H' o d v := by
  unfold RV at h ⊢
  cases o with
  | true =>
    rw [if_pos rfl] at h ⊢
    obtain ⟨as, h1, h2, h3⟩ := h
    exact ⟨as, h1, h2, fun a ha => s.free (h3 a ha)⟩
  | false => rw [if_neg Bool.false_ne_true] at h ⊢; exact h
theorem RunS.base {B B' : Hp} {m : M Out} {D : Ends} (s : Same B B') (h : RunS K Ew B m D) : RunS K Ew B' m D := by
  match m, h with
  | some (.ok (.nx Γ)), h => exact fun B2 φ σ H s2 r => h B2 φ σ H (s.trans s2) r
  | some (.ok (.bk Γ)), h => exact fun B2 φ σ H s2 r => h B2 φ σ H (s.trans s2) r
  | some (.ok (.ct Γ)), h => exact fun B2 φ σ H s2 r => h B2 φ σ H (s.trans s2) r
  | some (.ok (.rt o d)), h => exact fun v H' s' rv => h v H' (s.trans s') (rv.base s)
  | some (.ex c), h => exact fun H' s' => h H' (s.trans s')
  | none, h => exact h
theorem dss_nil : DSs X K Ew [] sNil := pss_nil.imp fun D σ H q => by
  obtain ⟨B, φ, Γ, r, q⟩ := q
  exact q B φ σ H (Same.refl B) r
theorem dss_cons (h1 : DS X K Ew st f) (h2 : DSs X K Ew rest g) : DSs X K Ew (st :: rest) (sSeq f g) := (pss_cons h1 h2).imp fun D σ H q => by
  obtain ⟨B, φ, Γ, r, q⟩ := q
  refine ⟨B, φ, Γ, r, ?_⟩
  unfold sSeq at q
  match hm : f Γ, q with
  | some (.ok (.nx Γ')), q => exact fun B' φ' σ' H' s' r' => ⟨B', φ', Γ', r', RunS.base s' q⟩
  | some (.ok (.bk Γ')), q => exact q
  | some (.ok (.ct Γ')), q => exact q
  | some (.ok (.rt o d)), q => exact q
  | some (.ex c), q => exact q
  | none, q => exact False.elim q
theorem dss_one (h1 : DS X K Ew st f) : DSs X K Ew [st] f := pss_one h1
/-- an expression at the head of a statement -/
theorem tDS_head {g : Kd × PyData → DEnv → M Out} {σ : St} {H : Hp} {D : Ends} {R : VK} (h : tDS K Ew (fun Γ => mbind (fe Γ) fun x => g x Γ) D σ H)
    (i : ∀ B φ Γ k d v H1, Rep K B φ Γ σ H1 → Av K B φ H1 k d v → RunS K Ew B (g (k, d) Γ) D → R v H1) : tD K Ew fe σ H R := by
  obtain ⟨B, φ, Γ, r, q⟩ := h
  refine ⟨B, φ, Γ, r, ?_⟩
  have q : RunS K Ew B (mbind (fe Γ) fun x => g x Γ) D := q
  match hm : fe Γ, q with
  | some (.ok (k, d)), q => exact .inl ⟨k, d, rfl, fun v H1 s hv => i B φ Γ k d v H1 (r.same s) (hv.av r) q⟩
  | some (.ex c), q => exact .inr ⟨c, rfl, q⟩
  | none, q => exact False.elim q
theorem Av.toD {B : Hp} {φ : Nat → List Addr} {H : Hp} {k : Kd} {d : PyData} {v : V} (s : Same B H) (h : Av K B φ H k d v) : IsD K H d v := by
  cases k with
  | fr l => obtain ⟨as, h1, _⟩ := h; exact IsT.toD _ _ _ h1
  | base => exact IsD.same s _ _ h
  | any => exact h
theorem ds_ret (he : DE X K Ew e fe) : DS X K Ew (.Return (some e) pos) (sRet fe) := (ps_ret he).imp fun D σ H q =>
  tDS_head (g := fun x _ => mret (.rt (isFr x.1) x.2)) q fun B φ Γ k d v H1 r a q => by
    refine q v H1 r.bs ?_
    unfold RV
    cases k with
    | fr l =>
      simp only [isFr, if_true]
      obtain ⟨as, h1, h2, h3⟩ := a
      refine ⟨as, h1, h2, fun a ha => ?_⟩
      rcases h3 a ha with ⟨i, _, z⟩ | z
      · exact (r.nb i a z).1
      · exact z.1
    | base => simp only [isFr, Bool.false_eq_true, if_false]; exact IsD.same r.bs _ _ a
    | any => simp only [isFr, Bool.false_eq_true, if_false]; exact a
theorem ds_set {i : Nat} {x : Str} {pos' : Pos} (hN : X.N.Nodup) (hi : X.N[i]? = some x) (hx : Loc X.env.scope x) (he : DE X K Ew e fe) (hs : swapsWith e (some (.Name x pos')) pos.line X.env = pure false := by rfl) (hf : X.fn x = true ∨ X.env.scope.names.lookup x = some .local := by first | exact .inl rfl | exact .inr rfl | assumption) :
    DS X K Ew (.Assign [.Name x pos'] e pos) (sSet i fe) := (ps_set (i := i) hN hi hx he hs hf).imp fun D σ H q =>
  tDS_head (g := fun x Γ => mret (.nx (stor Γ i x.1 x.2))) q fun B φ Γ k d v H1 r a q => by
    obtain ⟨B', φ', s', r'⟩ := stor_ok r i a
    exact q B' φ' _ H1 s' r'
theorem ds_mov {i j : Nat} {x y : Str} {pos' pos2 : Pos} (hN : X.N.Nodup) (hi : X.N[i]? = some x) (hx : Loc X.env.scope x) (hj : PE X (.Name y pos2) (tVar j)) (hs : swapsWith (.Name y pos2) (some (.Name x pos')) pos.line X.env = pure false := by rfl) (hf : X.fn x = true ∨ X.env.scope.names.lookup x = some .local := by first | exact .inl rfl | exact .inr rfl | assumption) :
    DS X K Ew (.Assign [.Name x pos'] (.Name y pos2) pos) (sMov i j) := (ps_set (i := i) hN hi hx hj hs hf).imp fun D σ H q => by
  obtain ⟨B, φ, Γ, r, q⟩ := q
  unfold sMov at q
  match hm : Γ[j]?, q with
  | some (some (true, d)), q =>
    obtain ⟨v, h1, h2⟩ := r.sl j true d hm
    rw [if_pos rfl] at h2
    refine ⟨v, h1, ?_⟩
    by_cases hn : nol d = true
    · simp only [hn, if_true] at q
      exact q B _ _ H (Same.refl B) (r.put i (IsD.toT _ _ hn (IsT.toD _ _ _ h2)) List.nodup_nil fun a ha => by cases ha)
    · simp only [hn, if_false] at q
      by_cases hij : i = j
      · simp only [hij, if_true] at q; exact False.elim q
      · simp only [hij, if_false] at q
        refine q B _ _ H (Same.refl B) ((r.kill j).put i h2 (r.nd j) fun a ha => ⟨(r.nb j a ha).1, fun j' _ hj' => ?_⟩)
        obtain ⟨n1, n2⟩ := drp_mem hj'
        exact r.dj j' j n1 a n2 ha
  | some (some (false, d)), q =>
    obtain ⟨v, h1, h2⟩ := r.sl j false d hm
    rw [if_neg Bool.false_ne_true] at h2
    refine ⟨v, h1, ?_⟩
    obtain ⟨B', φ', s', r'⟩ := stor_ok (k := nrm .base d) r i (VR.av r (VR.nrm r.bs (show VR K B φ H H .base d v from h2)))
    exact q B' φ' _ H s' r'
  | some none, q => exact False.elim q
  | none, q => exact False.elim q
theorem ds_if {c : Expr} {a b : List Stmt} (hc : DT X K Ew c t) (ha : DSs X K Ew a f) (hb : DSs X K Ew b g) : DS X K Ew (.If c a b pos) (sIf t f g) := (ps_if hc ha hb).imp fun D σ H q => by
  obtain ⟨B, φ, Γ, r, q⟩ := q
  refine ⟨B, φ, Γ, r, ?_⟩
  unfold sIf at q
  match hm : t Γ, q with
  | some (.ok true), q => exact .inl ⟨true, rfl, fun H1 s => by show (if true = true then _ else _); rw [if_pos rfl]; exact ⟨B, φ, Γ, r.same s, q⟩⟩
  | some (.ok false), q => exact .inl ⟨false, rfl, fun H1 s => by show (if false = true then _ else _); rw [if_neg Bool.false_ne_true]; exact ⟨B, φ, Γ, r.same s, q⟩⟩
  | some (.ex c), q => exact .inr ⟨c, rfl, q⟩
  | none, q => exact False.elim q
end
end L2
set_option Elab.async false
set_option linter.all false
set_option maxRecDepth 100000
namespace L2
open PySem PySem.Spec PyProof.Rows Y

/-! ### targets -/
/-- several values to be stored -/
def Avs (K : PySem.W.Frag) (B : Hp) (φ : Nat → List Addr) (H : Hp) : Kd → List PyData → List V → Prop
  | .fr l, ds, vs => ∃ as, IsTs K H ds vs as ∧ as.Nodup ∧ ∀ a ∈ as, (∃ i ∈ l, a ∈ φ i) ∨ (B a = none ∧ ∀ j, a ∉ φ j)
  | .base, ds, vs => IsDs K B ds vs
  | .any, ds, vs => IsDs K H ds vs
def tG (K : PySem.W.Frag) (g : GF) : TG := fun v σ H Q => ∃ B φ Γ k d Γ', Rep K B φ Γ σ H ∧ Av K B φ H k d v ∧ g k d Γ = some Γ' ∧ ∀ B' φ' σ', Same B B' → Rep K B' φ' Γ' σ' H → Q σ' H
def DG (X : Cx) (K : PySem.W.Frag) (e : Expr) (g : GF) : Prop := PG X e (tG K g)
theorem PG.imp {X : Cx} {e : Expr} {t t' : TG} (h : PG X e t) (i : ∀ v σ H Q, t' v σ H Q → t v σ H Q) : PG X e t' := fun pins s σ H v u Q I r q => h pins s σ H v u Q I r (i v σ H Q q)
def gNames : List Nat → TGs
  | [] => gNil
  | i :: is => gCons (gName i) (gNames is)
def setsV (σ : St) : List Nat → List V → St
  | i :: is, v :: vs => setsV (σ.set i (some v)) is vs
  | _, _ => σ
section
variable {X : Cx} {K : PySem.W.Frag} {Ew : Str → Hp → Prop} {pos : Pos}
theorem dg_nm {i : Nat} {x : Str} (hN : X.N.Nodup) (hi : X.N[i]? = some x) (hx : Loc X.env.scope x) (hf : X.fn x = true ∨ X.env.scope.names.lookup x = some .local := by first | exact .inl rfl | exact .inr rfl | assumption) : DG X K (.Name x pos) (gNm i) :=
  (pg_name (i := i) hN hi hx hf).imp fun v σ H Q q => by
    obtain ⟨B, φ, Γ, k, d, Γ', r, a, e, q⟩ := q
    cases e
    obtain ⟨B', φ', s', r'⟩ := stor_ok r i a
    exact q B' φ' _ s' r'
theorem gNames_run : ∀ (is : List Nat) (vs : List V) (σ : St) (H : Hp) (Q : St → Hp → Prop), vs.length = is.length → Q (setsV σ is vs) H → gNames is vs σ H Q
  | [], [], σ, H, Q, _, q => ⟨rfl, q⟩
  | i :: is, v :: vs, σ, H, Q, hl, q => ⟨v, vs, rfl, gNames_run is vs _ H Q (by simpa using hl) q⟩
  | [], _ :: _, _, _, _, hl, _ => by simp at hl
  | _ :: _, [], _, _, _, hl, _ => by simp at hl
def kOk : Kd → Prop
  | .fr [] => True
  | .fr (_ :: _) => False
  | _ => True
theorem stors_ok {H : Hp} {k : Kd} (hk : kOk k) : ∀ (is : List Nat) (ds : List PyData) (vs : List V) {B : Hp} {φ : Nat → List Addr} {Γ : DEnv} {σ : St}, ds.length = is.length → Rep K B φ Γ σ H → Avs K B φ H k ds vs →
    ∃ B' φ', Same B B' ∧ Rep K B' φ' (stors Γ is k ds) (setsV σ is vs) H
  | [], [], vs, B, φ, Γ, σ, _, r, a => ⟨B, φ, Same.refl B, by unfold setsV stors; exact r⟩
  | [], _ :: _, _, _, _, _, _, hl, _, _ => by simp at hl
  | _ :: _, [], _, _, _, _, _, hl, _, _ => by simp at hl
  | i :: is, d :: ds, vs, B, φ, Γ, σ, hl, r, a => by
    have hl' : ds.length = is.length := by simpa using hl
    match k, hk, a with
    | .fr [], _, a =>
      obtain ⟨as, h1, h2, h3⟩ := a
      simp only [IsTs] at h1
      obtain ⟨v, vr, a1, a2, rfl, rfl, hv, tl⟩ := h1
      have h3' : ∀ a ∈ a1 ++ a2, B a = none ∧ ∀ j, a ∉ φ j := fun a ha => by
        rcases h3 a ha with ⟨_, z, _⟩ | z
        · cases z
        · exact z
      have hnd := List.nodup_append.mp h2
      by_cases hn : nol d = true
      · have e1 : a1 = [] := IsT.nil _ _ _ hn hv
        subst e1
        have r1 := r.put i hv List.nodup_nil fun a ha => by cases ha
        obtain ⟨B', φ', s', r'⟩ := stors_ok (k := .fr []) trivial is ds vr hl' r1 ⟨a2, tl, hnd.2.1, fun a ha => .inr ⟨(h3' a (List.mem_append_right _ ha)).1, fun j => by
          by_cases hj : j = i
          · simp only [if_pos hj]; intro z; cases z
          · simp only [if_neg hj]; exact (h3' a (List.mem_append_right _ ha)).2 j⟩⟩
        refine ⟨B', φ', s', ?_⟩
        simp only [stors, setsV, nrm, hn, if_true, stor]
        exact r'
      · have r1 := r.put i hv hnd.1 fun a ha => ⟨(h3' a (List.mem_append_left _ ha)).1, fun j _ => (h3' a (List.mem_append_left _ ha)).2 j⟩
        obtain ⟨B', φ', s', r'⟩ := stors_ok (k := .fr []) trivial is ds vr hl' r1 ⟨a2, tl, hnd.2.1, fun a ha => .inr ⟨(h3' a (List.mem_append_right _ ha)).1, fun j => by
          by_cases hj : j = i
          · simp only [if_pos hj]; intro z; exact hnd.2.2 a z a ha rfl
          · simp only [if_neg hj]; exact (h3' a (List.mem_append_right _ ha)).2 j⟩⟩
        refine ⟨B', φ', s', ?_⟩
        simp only [stors, setsV, nrm, hn, if_false, stor]
        exact r'
    | .base, _, a =>
      have a' : IsDs K B (d :: ds) vs := a
      simp only [IsDs] at a'
      obtain ⟨v, vr, rfl, hv, tl⟩ := a'
      obtain ⟨B1, φ1, s1, r1⟩ := stor_ok (k := nrm .base d) r i (VR.av r (VR.nrm r.bs (show VR K B φ H H .base d v from hv)))
      obtain ⟨B', φ', s', r'⟩ := stors_ok (k := .base) trivial is ds vr hl' r1 (IsDs.same s1 _ _ tl)
      exact ⟨B', φ', s1.trans s', r'⟩
    | .any, _, a =>
      have a' : IsDs K H (d :: ds) vs := a
      simp only [IsDs] at a'
      obtain ⟨v, vr, rfl, hv, tl⟩ := a'
      obtain ⟨B1, φ1, s1, r1⟩ := stor_ok (k := nrm .any d) r i (VR.av r (VR.nrm r.bs (show VR K B φ H H .any d v from hv)))
      obtain ⟨B', φ', s', r'⟩ := stors_ok (k := .any) trivial is ds vr hl' r1 tl
      exact ⟨B', φ', s1.trans s', r'⟩
theorem Av.tup {B : Hp} {φ : Nat → List Addr} {H : Hp} {k : Kd} {ds : List PyData} {v : V} (s : Same B H) (h : Av K B φ H k (.tuple ds) v) : ∃ a vs, v = .ref a ∧ SqT K H a vs ∧ Avs K B φ H (partK k) ds vs ∧ vs.length = ds.length := by
  match k, h with
  | .fr [], h =>
    obtain ⟨as, h1, h2, h3⟩ := h
    obtain ⟨a, vs, e, q, t⟩ := of_isT_tup h1
    exact ⟨a, vs, e, q, ⟨as, t, h2, h3⟩, isTs_length t⟩
  | .fr (j :: l), h =>
    obtain ⟨as, h1, h2, h3⟩ := h
    obtain ⟨a, vs, e, q, t⟩ := of_isT_tup h1
    exact ⟨a, vs, e, q, IsTs.toD _ _ _ t, isTs_length t⟩
  | .base, h =>
    obtain ⟨a, vs, e, q, t⟩ := of_isD_tup (show IsD K B (.tuple ds) v from h)
    exact ⟨a, vs, e, s.seqT q, t, isDs_length t⟩
  | .any, h =>
    obtain ⟨a, vs, e, q, t⟩ := of_isD_tup (show IsD K H (.tuple ds) v from h)
    exact ⟨a, vs, e, q, t, isDs_length t⟩
theorem partK_ok (k : Kd) : kOk (partK k) := by
  match k with
  | .fr [] => trivial
  | .fr (_ :: _) => trivial
  | .base => trivial
  | .any => trivial
theorem dg_tp {es : List Expr} {k : Nat} {is : List Nat} (hc : X.calm = true) (hg : PGs X es (gNames is)) (hn : (assignEach es X.env).length = is.length := by rfl) (hst : (assignEach es X.env).findIdx? (·.1) = none := by rfl) (hK : X.K = K := by rfl) :
    DG X K (.Tuple es k pos) (gTp is) := (pg_tup (n := is.length) hc hg hn hst).imp fun v σ H Q q => by
  obtain ⟨B, φ, Γ, k, d, Γ', r, a, e, q⟩ := q
  cases d <;> simp only [gTp] at e <;> try (cases e; done)
  rename_i ds
  split at e
  · rename_i hl
    cases e
    obtain ⟨a', vs, rfl, hq, av, hlen⟩ := a.tup r.bs
    refine ⟨a', vs, rfl, by rw [hK]; exact hq, by omega, gNames_run _ _ _ _ _ (by omega) ?_⟩
    obtain ⟨B', φ', s', r'⟩ := stors_ok (partK_ok k) is ds vs hl r av
    exact q B' φ' _ s' r'
  · cases e

/-! ### x, y = .. -/

/-! ### what is walked -/
structure ItOk (K : PySem.W.Frag) (B : Hp) (J : It) (ds : List PyData) : Prop where
  go : ∀ i H, i < ds.length → Same B H → J.go i H
  yl : ∀ i H x H', i < ds.length → Same B H → J.yld i H x H' → Same H H' ∧ ∃ d, ds[i]? = some d ∧ ∀ B2, Same B B2 → (∀ a o, H a = none → H' a = some o → B2 a = some o) → IsD K B2 d x
  stop : ∀ H, Same B H → J.stop ds.length H
def RunI (K : PySem.W.Frag) (Ew : Str → Hp → Prop) (B H : Hp) (Γ : DEnv) (σ : St) (R : It → Hp → Prop) (m : M (Kd × List PyData)) : Prop := match m with
  | some (.ok (k, ds)) => ∀ J H1 B1 ψ, Same H H1 → Same B B1 → Rep K B1 ψ (frzK k Γ) σ H1 → ItOk K B1 J ds → R J H1
  | some (.ex c) => ∀ H', Same B H' → Ew c H'
  | none => False
def tI (K : PySem.W.Frag) (Ew : Str → Hp → Prop) (it : IF) : TI := fun σ H R => ∃ B φ Γ, Rep K B φ Γ σ H ∧ RunI K Ew B H Γ σ R (it Γ)
def DI (X : Cx) (K : PySem.W.Frag) (Ew : Str → Hp → Prop) (tg e : Expr) (it : IF) : Prop := PI X tg e (tI K Ew it)
theorem PI.imp {X : Cx} {tg e : Expr} {t t' : TI} (h : PI X tg e t) (i : ∀ σ H R, t' σ H R → t σ H R) : PI X tg e t' := fun pins s σ H R I q => h pins s σ H R I (i σ H R q)
/-- frozen by the kind -/
theorem Rep.frzK {B H : Hp} {φ : Nat → List Addr} {Γ : DEnv} {σ : St} {k : Kd} {d : PyData} {v : V} (r : Rep K B φ Γ σ H) (h : Av K B φ H k d v) :
    ∃ B1 ψ, Same B B1 ∧ Rep K B1 ψ (frzK k Γ) σ H ∧ IsD K B1 d v := by
  match k, h with
  | .fr [], h =>
    obtain ⟨as, h1, h2, h3⟩ := h
    refine ⟨cutB φ H, φ, r.cutS, r.cut, IsT.toB r.mu _ _ _ (fun a ha o e => ?_) h1⟩
    rw [cutB_of]
    · exact e
    · rcases h3 a ha with ⟨_, z, _⟩ | z
      · cases z
      · exact z.2
  | .fr (j :: l), h =>
    obtain ⟨as, h1, h2, h3⟩ := h
    obtain ⟨ψ, s1, r1, sub, hl⟩ := r.frzL (j :: l)
    refine ⟨_, _, s1, r1, IsT.toB (fun a o e n => ?_) _ _ _ (fun a ha o e => ?_) h1⟩
    · rw [cutB_of]
      · exact e
      · intro j' hj'
        obtain ⟨o', e', m⟩ := (r.nb j' a (sub j' a hj')).2
        rw [e] at e'; cases e'
        exact n m
    · rw [cutB_of]
      · exact e
      · intro j' hj'
        rcases h3 a ha with ⟨i', hi', z⟩ | z
        · by_cases hij : i' = j'
          · subst hij; rw [hl _ hi'] at hj'; cases hj'
          · exact r.dj i' j' hij a z (sub j' a hj')
        · exact z.2 j' (sub j' a hj')
  | .base, h => exact ⟨B, φ, Same.refl B, r, h⟩
  | .any, h =>
    obtain ⟨s1, r1⟩ := r.frzA
    exact ⟨H, _, s1, r1, h⟩
theorem itOk_list {B : Hp} {a : Addr} {vs : List V} {ds : List PyData} (h : SqL K B a vs) (t : IsDs K B ds vs) : ItOk K B (Itl K a) ds where
  go := fun i H hi s => by
    have hl := isDs_length t
    exact ⟨vs, vs[i]'(by omega), s.seq h, by simp⟩
  yl := fun i H x H' hi s y => by
    obtain ⟨rfl, y⟩ := y
    obtain ⟨d, e, hd⟩ := isDs_get' t (y vs (s.seq h))
    exact ⟨Same.refl _, d, e, fun B2 s2 _ => IsD.same s2 _ _ hd⟩
  stop := fun H s => ⟨vs, s.seq h, by rw [isDs_length t]; exact Nat.le_refl _⟩
theorem itOk_tup {B : Hp} {a : Addr} {vs : List V} {ds : List PyData} (h : SqT K B a vs) (t : IsDs K B ds vs) : ItOk K B (Itt K a) ds where
  go := fun i H hi s => by
    have hl := isDs_length t
    exact ⟨vs, vs[i]'(by omega), s.seqT h, by simp⟩
  yl := fun i H x H' hi s y => by
    obtain ⟨rfl, y⟩ := y
    obtain ⟨d, e, hd⟩ := isDs_get' t (y vs (s.seqT h))
    exact ⟨Same.refl _, d, e, fun B2 s2 _ => IsD.same s2 _ _ hd⟩
  stop := fun H s => ⟨vs, s.seqT h, by rw [isDs_length t]; exact Nat.le_refl _⟩
theorem itOk_rng {B : Hp} {m : Int} {n : Nat} : ItOk K B (Itr m n) ((List.range n).map fun i => .int (m + (i : Nat))) where
  go := fun i H hi s => by
    show i < n
    simpa using hi
  yl := fun i H x H' hi s y => by
    obtain ⟨rfl, rfl⟩ := y
    have hi' : i < n := by simpa using hi
    exact ⟨Same.refl _, .int (m + (i : Nat)), by simp [hi'], fun B2 s2 _ => isD_int⟩
  stop := fun H s => by
    show n ≤ _
    simp
/-- the walked value's expression at the head -/
theorem tI_head {fe : EF} {g : Kd × PyData → DEnv → M (Kd × List PyData)} {σ : St} {H : Hp} {R : It → Hp → Prop} {R1 : VK} (h : tI K Ew (fun Γ => mbind (fe Γ) fun x => g x Γ) σ H R)
    (i : ∀ B φ Γ k d v H1, Rep K B φ Γ σ H1 → Same H H1 → Av K B φ H1 k d v → RunI K Ew B H Γ σ R (g (k, d) Γ) → R1 v H1) : tD K Ew fe σ H R1 := by
  obtain ⟨B, φ, Γ, r, q⟩ := h
  refine ⟨B, φ, Γ, r, ?_⟩
  have q : RunI K Ew B H Γ σ R (mbind (fe Γ) fun x => g x Γ) := q
  match hm : fe Γ, q with
  | some (.ok (k, d)), q => exact .inl ⟨k, d, rfl, fun v H1 s hv => i B φ Γ k d v H1 (r.same s) s (hv.av r) q⟩
  | some (.ex c), q => exact .inr ⟨c, rfl, q⟩
  | none, q => exact False.elim q
theorem pi_or {tg l : Expr} {t t' : TI} (h : PI X tg l t) (h' : PI X tg l t') : PI X tg l (fun σ H R => t σ H R ∨ t' σ H R) := fun pins s σ H R I q => by
  rcases q with q | q
  · exact h pins s σ H R I q
  · exact h' pins s σ H R I q
theorem di_e {tg l : Expr} {fe : EF} (hl : DE X K Ew l fe) (hK : X.K = K := by rfl) : DI X K Ew tg l (itE fe) := (pi_or (pi_list hl) (pi_tup hl)).imp fun σ H R q => by
  have q0 := q
  obtain ⟨B0, φ0, Γ0, r0, q0⟩ := q0
  have isl : (∃ k xs, fe Γ0 = some (.ok (k, .list xs))) ∨ (∃ k xs, fe Γ0 = some (.ok (k, .tuple xs))) ∨ ∃ c, fe Γ0 = some (.ex c) := by
    unfold itE at q0
    match hm : fe Γ0, q0 with
    | some (.ok (k, .list xs)), q0 => exact .inl ⟨k, xs, rfl⟩
    | some (.ok (k, .tuple xs)), q0 => exact .inr (.inl ⟨k, xs, rfl⟩)
    | some (.ex c), q0 => exact .inr (.inr ⟨c, rfl⟩)
    | some (.ok (k, .none)), q0 => exact False.elim q0
    | some (.ok (k, .bool _)), q0 => exact False.elim q0
    | some (.ok (k, .int _)), q0 => exact False.elim q0
    | some (.ok (k, .str _)), q0 => exact False.elim q0
    | some (.ok (k, .dict _)), q0 => exact False.elim q0
    | none, q0 => exact False.elim q0
  rcases isl with ⟨k, xs, e⟩ | ⟨k, xs, e⟩ | ⟨c, e⟩
  · left
    refine ⟨B0, φ0, Γ0, r0, .inl ⟨k, _, e, fun v H1 s hv => ?_⟩⟩
    simp only [itE, e] at q0
    obtain ⟨B1, ψ, s1, r1, hd⟩ := (r0.same s).frzK (hv.av r0)
    obtain ⟨a, vs, rfl, h1, h2⟩ := of_isD_lst hd
    rw [hK]
    exact ⟨a, rfl, ⟨vs, r1.bs.seq h1⟩, q0 _ H1 B1 ψ s s1 r1 (itOk_list h1 h2)⟩
  · right
    refine ⟨B0, φ0, Γ0, r0, .inl ⟨k, _, e, fun v H1 s hv => ?_⟩⟩
    simp only [itE, e] at q0
    obtain ⟨B1, ψ, s1, r1, hd⟩ := (r0.same s).frzK (hv.av r0)
    obtain ⟨a, vs, rfl, h1, h2⟩ := of_isD_tup hd
    rw [hK]
    exact ⟨a, rfl, ⟨vs, r1.bs.seqT h1⟩, q0 _ H1 B1 ψ s s1 r1 (itOk_tup h1 h2)⟩
  · left
    simp only [itE, e] at q0
    exact ⟨B0, φ0, Γ0, r0, .inr ⟨c, e, q0⟩⟩
theorem di_r1 {tg a : Expr} {fa : EF} {p : Pos} (hg : Gl X "range") (hm : X.mg "range" = none) (ha : DE X K Ew a fa) (hs : starEach [a] X.env = [(false, eval a X.env)] := by rfl) : DI X K Ew tg (.Call (.Name "range" p) [a] [] pos) (itR1 fa) :=
  (pi_range1 hg hm (pa_cons ha pa_nil hs) hs).imp fun σ H R q => tI_head (g := fun x _ => rng1 x.2) q fun B φ Γ k d v H1 r s av q => by
    replace q : RunI K Ew B H Γ σ R (rng1 d) := q
    cases d <;> try (exact False.elim q)
    rename_i n
    have hv := of_isD_int (av.toD r.bs)
    subst hv
    by_cases hn : -(2 ^ 62) ≤ n ∧ n < 2 ^ 62
    · simp only [rng1, if_pos hn] at q
      refine ⟨n, rfl, hn.1, hn.2, q _ H1 B φ s (Same.refl B) r ?_⟩
      have := itOk_rng (K := K) (B := B) (m := 0) (n := n.toNat)
      simpa only [Int.zero_add] using this
    · simp only [rng1, if_neg hn] at q
      exact False.elim q

/-! ### for -/
theorem ds_for {tg iter : Expr} {body : List Stmt} {it : IF} {g : GF} {fb : SF} (hp : PassesOwn (model X.prog X.w) X.A X.env X.xe) (hc : X.calm = true) (hi : DI X K Ew tg iter it) (hg : DG X K tg g) (hb : DSs X K Ew body fb)
    (hs : ∀ x, foldedSetIterable iter X.env x = pure x := by intro _; rfl) : DS X K Ew (.For tg iter body [] pos) (sFor it g fb) := (ps_for hp hc hi hg hb hs).imp fun D σ H q => by
  obtain ⟨B, φ, Γ, r, q⟩ := q
  refine ⟨B, φ, Γ, r, ?_⟩
  unfold sFor at q
  match hm : it Γ, q with
  | some (.ok (k, ds)), q =>
    intro J H1 B1 ψ s0 s1 r1 io
    have q : RunS K Ew B1 (forD g fb ds (frzK k Γ)) D := RunS.base s1 q
    refine ⟨fun i m σ H => m = ds.length - i ∧ i ≤ ds.length ∧ ∃ B2 φ2 Γ2, Same B1 B2 ∧ Rep K B2 φ2 Γ2 σ H ∧ RunS K Ew B1 (forD g fb (ds.drop i) Γ2) D, ⟨ds.length, by simp, Nat.zero_le _, B1, ψ, _, Same.refl B1, r1, by simpa using q⟩, ?_⟩
    rintro i m σ2 H2 ⟨rfl, hi2, B2, φ2, Γ2, s2, r2, q2⟩
    by_cases hlt : i < ds.length
    · refine .inr ⟨io.go i H2 hlt (s2.trans r2.bs), fun σ' H' => ∃ B3 φ3 Γ3, Same B1 B3 ∧ Rep K B3 φ3 Γ3 σ' H' ∧ RunS K Ew B1 (forD g fb (ds.drop (i + 1)) Γ3) D, fun σ' H' h' => ⟨ds.length - (i + 1), by omega, rfl, hlt, h'⟩, fun x H' y => ?_⟩
      obtain ⟨s3, d, e, hd⟩ := io.yl i H2 x H' hlt (s2.trans r2.bs) y
      have r3 := r2.same s3
      have hcut : IsD K (cutB φ2 H') d x := hd _ (s2.trans r3.cutS) fun a o e1 e2 => by
        rw [cutB_of]
        · exact e2
        · intro j hj
          obtain ⟨o', e', _⟩ := (r2.nb j a hj).2
          rw [e1] at e'; cases e'
      have ed : ds.drop i = d :: ds.drop (i + 1) := by
        rw [List.drop_eq_getElem_cons hlt]
        congr 1
        rw [List.getElem?_eq_getElem hlt] at e
        exact Option.some.inj e
      rw [ed] at q2
      have q3 := q2
      simp only [forD] at q3
      cases hgg : g (nrm .base d) d Γ2 with
      | none => simp only [hgg] at q3; exact False.elim q3
      | some Γ3 =>
        simp only [hgg, mo_some, mbind_ret] at q3
        refine ⟨cutB φ2 H', φ2, Γ2, nrm .base d, d, Γ3, r3.cut, VR.av r3.cut (VR.nrm (cutB_same _ _) (show VR K _ φ2 H' H' .base d x from hcut)), hgg, fun B4 φ4 σ4 s4 r4 => ?_⟩
        have sB : Same B1 B4 := (s2.trans r3.cutS).trans s4
        refine ⟨B4, φ4, Γ3, r4, ?_⟩
        match hbm : fb Γ3, q3 with
        | some (.ok (.nx Γ')), q3 => exact fun B' φ' σ' H'' s' r' => ⟨B', φ', Γ', sB.trans s', r', q3⟩
        | some (.ok (.ct Γ')), q3 => exact fun B' φ' σ' H'' s' r' => ⟨B', φ', Γ', sB.trans s', r', q3⟩
        | some (.ok (.bk Γ')), q3 => exact fun B' φ' σ' H'' s' r' => q3 B' φ' σ' H'' (sB.trans s') r'
        | some (.ok (.rt o d)), q3 => exact fun v H'' s' rv => q3 v H'' (sB.trans s') (rv.base sB)
        | some (.ex c), q3 => exact fun H'' s' => q3 H'' (sB.trans s')
        | none, q3 => exact False.elim q3
    · have e : i = ds.length := by omega
      subst e
      rw [List.drop_length] at q2
      exact .inl ⟨io.stop H2 (s2.trans r2.bs), q2 B2 φ2 σ2 H2 s2 r2⟩
  | some (.ex c), q => exact q
  | none, q => exact False.elim q

/-! ### while -/
end
end L2
set_option Elab.async false
set_option linter.all false
set_option maxRecDepth 100000
namespace L2
open PySem PySem.Spec PyProof.Rows Y

/-! ### arguments -/
def VRs (K : PySem.W.Frag) (B : Hp) (φ : Nat → List Addr) : Hp → Hp → List (Kd × PyData) → List V → Prop
  | _, _, [], vs => vs = []
  | H, H', x :: xs, vs => ∃ v r H1, vs = v :: r ∧ Same H H1 ∧ Same H1 H' ∧ VR K B φ H H1 x.1 x.2 v ∧ VRs K B φ H1 H' xs r
def tA (K : PySem.W.Frag) (Ew : Str → Hp → Prop) (fs : List EF) : TA := fun σ H Q => ∃ B φ Γ, Rep K B φ Γ σ H ∧ match eArgs fs Γ with
  | some (.ok xs) => ∀ vs H', Same H H' → VRs K B φ H H' xs vs → Q vs H'
  | some (.ex c) => ∀ H', Same B H' → Ew c H'
  | none => False
def DA (X : Cx) (K : PySem.W.Frag) (Ew : Str → Hp → Prop) (es : List Expr) (fs : List EF) : Prop := PA X es (tA K Ew fs)
theorem PA.imp {X : Cx} {es : List Expr} {t t' : TA} (h : PA X es t) (i : ∀ σ H Q, t' σ H Q → t σ H Q) : PA X es t' := fun pos pins s σ H Q I q => h pos pins s σ H Q I (i σ H Q q)
section
variable {X : Cx} {K : PySem.W.Frag} {Ew : Str → Hp → Prop} {pos : Pos} {e : Expr} {es : List Expr} {fe : EF} {fs : List EF}
theorem da_nil : DA X K Ew [] [] := pa_nil.imp fun σ H Q q => by
  obtain ⟨B, φ, Γ, r, q⟩ := q
  exact q [] H (Same.refl H) (by unfold VRs; rfl)
theorem da_cons (h1 : DE X K Ew e fe) (h2 : DA X K Ew es fs) (hs : starEach (e :: es) X.env = (false, eval e X.env) :: starEach es X.env := by rfl) : DA X K Ew (e :: es) (fe :: fs) := (pa_cons h1 h2 hs).imp fun σ H Q q => by
  obtain ⟨B, φ, Γ, r, q⟩ := q
  refine ⟨B, φ, Γ, r, ?_⟩
  simp only [eArgs] at q
  match hm : fe Γ, q with
  | some (.ok (k, d)), q =>
    refine .inl ⟨k, d, rfl, fun v H1 s1 hv => ⟨B, φ, Γ, r.same s1, ?_⟩⟩
    match hm2 : eArgs fs Γ, q with
    | some (.ok xs), q => exact fun vs H2 s2 hvs => q (v :: vs) H2 (s1.trans s2) (by unfold VRs; exact ⟨v, vs, H1, rfl, s1, s2, hv, hvs⟩)
    | some (.ex c), q => exact q
    | none, q => exact False.elim q
  | some (.ex c), q => exact .inr ⟨c, rfl, q⟩
  | none, q => exact False.elim q
theorem VRs.toD {B : Hp} {φ : Nat → List Addr} : ∀ {xs : List (Kd × PyData)} {vs : List V} {H H' : Hp}, Same B H → Same H H' → VRs K B φ H H' xs vs → IsDs K H' (xs.map Prod.snd) vs
  | [], vs, H, H', _, _, h => by unfold VRs at h; subst h; exact isDs_nil
  | x :: xs, vs, H, H', s, s', h => by
    unfold VRs at h
    obtain ⟨v, r, H1, rfl, s1, s2, hv, tl⟩ := h
    exact isDs_cons (IsD.same s2 _ _ (hv.toD (s.trans s1))) (VRs.toD (s.trans s1) s2 tl)
theorem VRs.fresh {B : Hp} {φ : Nat → List Addr} : ∀ {xs : List (Kd × PyData)} {vs : List V} {H H' : Hp}, kdDisp xs = .fr [] → Same H H' → VRs K B φ H H' xs vs → ∃ as, IsTs K H' (xs.map Prod.snd) vs as ∧ as.Nodup ∧ ∀ a ∈ as, H a = none
  | [], vs, H, H', _, _, h => by unfold VRs at h; subst h; exact ⟨[], isTs_nil, List.nodup_nil, fun a ha => by cases ha⟩
  | (k, d) :: xs, vs, H, H', hk, s', h => by
    match k, hk with
    | .fr [], hk =>
      unfold VRs at h
      obtain ⟨v, r, H1, rfl, s1, s2, hv, tl⟩ := h
      obtain ⟨as, h1, h2, h3⟩ := VR.fresh.mp hv
      obtain ⟨bs, g1, g2, g3⟩ := VRs.fresh (xs := xs) (by simpa [kdDisp] using hk) s2 tl
      refine ⟨as ++ bs, isTs_cons (IsT.same s2 _ _ _ h1) g1, List.nodup_append.mpr ⟨h2, g2, fun a ha b hb e => ?_⟩, fun a ha => ?_⟩
      · subst e
        obtain ⟨o, e, _⟩ := IsT.live _ _ _ h1 a ha
        rw [g3 a hb] at e; cases e
      · rcases List.mem_append.mp ha with ha | ha
        · exact h3 a ha
        · exact s1.free (g3 a ha)
    | .fr (_ :: _), hk => simp [kdDisp] at hk
    | .base, hk => simp [kdDisp] at hk
    | .any, hk => simp [kdDisp] at hk
theorem kdDisp_or (xs : List (Kd × PyData)) : kdDisp xs = .fr [] ∨ kdDisp xs = .any := by
  induction xs with
  | nil => exact .inl rfl
  | cons x xs ih =>
    obtain ⟨k, d⟩ := x
    match k with
    | .fr [] => simpa [kdDisp] using ih
    | .fr (_ :: _) => exact .inr rfl
    | .base => exact .inr rfl
    | .any => exact .inr rfl
/-! ### displays -/
theorem eArgs_len {Γ : DEnv} : ∀ {fs : List EF} {xs : List (Kd × PyData)}, eArgs fs Γ = some (.ok xs) → xs.length = fs.length
  | [], xs, h => by simp only [eArgs, mret] at h; cases h; rfl
  | f :: fs, xs, h => by
    simp only [eArgs] at h
    match hf : f Γ, h with
    | some (.ok x), h =>
      match hr : eArgs fs Γ, h with
      | some (.ok ys), h => cases h; rw [List.length_cons, List.length_cons, eArgs_len hr]
      | some (.ex c), h => cases h
      | none, h => cases h
    | some (.ex c), h => cases h
    | none, h => cases h
theorem VRs.len {B : Hp} {φ : Nat → List Addr} : ∀ {xs : List (Kd × PyData)} {vs : List V} {H H' : Hp}, VRs K B φ H H' xs vs → vs.length = xs.length
  | [], vs, H, H', h => by unfold VRs at h; subst h; rfl
  | x :: xs, vs, H, H', h => by
    unfold VRs at h
    obtain ⟨v, r, H1, rfl, s1, s2, hv, tl⟩ := h
    rw [List.length_cons, List.length_cons, tl.len]
/-- arguments at the head -/
theorem tA_head {g : List (Kd × PyData) → M (Kd × PyData)} {σ : St} {H : Hp} {Q : VK} {R : List V → Hp → Prop} (h : tD K Ew (fun Γ => mbind (eArgs fs Γ) g) σ H Q)
    (i : ∀ B φ Γ xs vs H1, Rep K B φ Γ σ H → Rep K B φ Γ σ H1 → Same H H1 → eArgs fs Γ = some (.ok xs) → VRs K B φ H H1 xs vs → Runs K Ew B φ H (g xs) Q → R vs H1) : tA K Ew fs σ H R := by
  obtain ⟨B, φ, Γ, r, q⟩ := h
  refine ⟨B, φ, Γ, r, ?_⟩
  replace q : Runs K Ew B φ H (mbind (eArgs fs Γ) g) Q := q
  match hm : eArgs fs Γ, q with
  | some (.ok xs), q => exact fun vs H1 s hv => i B φ Γ xs vs H1 r (r.same s) s hm hv q
  | some (.ex c), q =>
    rcases q with ⟨k, d, e, _⟩ | ⟨c', e, q⟩
    · cases e
    · cases e; exact q
  | none, q => rcases q with ⟨k, d, e, _⟩ | ⟨c', e, q⟩ <;> cases e
theorem de_tup {x1} (h : DA X K Ew es fs) (hl : fs.length ≤ 1000 := by decide) : DE X K Ew (.Tuple es x1 pos) (eTup fs) := (pe_tup h).imp fun σ H Q q =>
  tA_head (g := fun (xs : List (Kd × PyData)) => mret (nrm (kdDisp xs) (.tuple (xs.map Prod.snd)), .tuple (xs.map Prod.snd))) q fun B φ Γ xs vs H1 r r1 s hx hv q => by
    have hz : vs.length ≤ 1000 := by rw [hv.len, eArgs_len hx]; exact hl
    refine ⟨Nat.le_trans hz (by decide), fun p hp => ?_⟩
    rcases q with ⟨k, d, e, q⟩ | ⟨c, e, q⟩
    · cases e
      refine q _ _ (s.trans (Same.upd hp)) (VR.nrm (r1.bs.trans (Same.upd hp)) ?_)
      rcases kdDisp_or xs with hk | hk
      · rw [hk]
        obtain ⟨as, h1, h2, h3⟩ := hv.fresh hk s
        exact ⟨as, isT_tup (SqT.of upd_same) (IsTs.same (Same.upd hp) _ _ _ h1), h2, fun a ha => .inr (h3 a ha)⟩
      · rw [hk]
        exact isD_tup (SqT.of upd_same) (IsDs.same (Same.upd hp) _ _ (hv.toD r.bs s))
    · cases e
theorem de_lst (h : DA X K Ew es fs) (hl : fs.length ≤ 1000 := by decide) : DE X K Ew (.List es pos) (eLst fs) := (pe_lst h).imp fun σ H Q q =>
  tA_head (g := fun (xs : List (Kd × PyData)) => mret (kdDisp xs, .list (xs.map Prod.snd))) q fun B φ Γ xs vs H1 r r1 s hx hv q => by
    have hz : vs.length ≤ 1000 := by rw [hv.len, eArgs_len hx]; exact hl
    refine ⟨Nat.le_trans hz (by decide), fun p hp => ?_⟩
    rcases q with ⟨k, d, e, q⟩ | ⟨c, e, q⟩
    · cases e
      refine q _ _ (s.trans (Same.upd hp)) ?_
      rcases kdDisp_or xs with hk | hk
      · rw [hk]
        obtain ⟨as, h1, h2, h3⟩ := hv.fresh hk s
        refine ⟨p :: as, isT_lst upd_same (IsTs.same (Same.upd hp) _ _ _ h1), List.nodup_cons.mpr ⟨fun z => ?_, h2⟩, fun a ha => .inr ?_⟩
        · obtain ⟨o, e, _⟩ := IsTs.live _ _ _ h1 p z
          rw [hp] at e; cases e
        · rcases List.mem_cons.mp ha with rfl | ha
          · exact s.free hp
          · exact h3 a ha
      · rw [hk]
        exact isD_lst (SqL.of upd_same) (IsDs.same (Same.upd hp) _ _ (hv.toD r.bs s))
    · cases e
/-! ### calls of built-ins -/
theorem tA_callD {f : Value} {g : List PyData → Option PyData} {r : List V → Hp → VK → Prop} {σ : St} {H : Hp} {Q : VK}
    (hx : ∀ xs z us H Q, g xs = some z → IsDs K H xs us → (∀ w H', Same H H' → Fresh K H H' z w → Q w H') → r us H Q) (q : tD K Ew (eCB g fs) σ H Q) : tCB r (tA K Ew fs) σ H Q :=
  tA_head (g := fun (xs : List (Kd × PyData)) => mbind (mo (g (xs.map Prod.snd))) fun z => mret (.fr [], z)) q fun B φ Γ xs vs H1 r0 r1 s hx' hv q => by
    obtain ⟨z, e, q⟩ := runs_mo (kf := fun _ => .fr []) q
    exact hx _ z vs H1 Q e (hv.toD r0.bs s) fun w H' s' f => q w H' (s.trans s') (VR.fresh.mpr (f.from s))
theorem de_callB {x : Str} {id : String} {p : Pos} {g : List PyData → Option PyData} {fes : List EF} (hc : CallD X (.builtin id) g) (hg : Gl X x) (hm : X.mg x = none) (hv : bootBuiltins x = some (.builtin id)) (ha : DA X K Ew (e :: es) fes) (hK : X.K = K := by rfl) (hn : x ≠ "__name__" := by decide) (hdb : (x == ("__debug__" : Str)) = false := by decide)
    (he : starEach (e :: es) X.env = (false, eval e X.env) :: starEach es X.env := by rfl) (hpl : (backTo pos (starEach es X.env)).any (·.1) = false := by rfl) : DE X K Ew (.Call (.Name x p) (e :: es) [] pos) (eCB g fes) := by
  obtain ⟨r, hr, hx⟩ := hc
  rw [hK] at hx
  exact (pe_callB hr hg hm hv ha hn hdb he hpl).imp fun σ H Q q => tA_callD (f := .builtin id) hx q
theorem de_callTy {x : Str} {T : String} {p : Pos} {g : List PyData → Option PyData} {fes : List EF} (hc : CallD X (.type T) g) (hg : Gl X x) (hm : X.mg x = none) (hv : bootBuiltins x = some (.type T)) (ha : DA X K Ew (e :: es) fes) (hK : X.K = K := by rfl) (hn : x ≠ "__name__" := by decide) (hdb : (x == ("__debug__" : Str)) = false := by decide)
    (he : starEach (e :: es) X.env = (false, eval e X.env) :: starEach es X.env := by rfl) (hpl : (backTo pos (starEach es X.env)).any (·.1) = false := by rfl) : DE X K Ew (.Call (.Name x p) (e :: es) [] pos) (eCB g fes) := by
  obtain ⟨r, hr, hx⟩ := hc
  rw [hK] at hx
  exact (pe_callTy hr hg hm hv ha hn hdb he hpl).imp fun σ H Q q => tA_callD (f := .type T) hx q

/-! ### calls of the text's defs -/
def spD (K : PySem.W.Frag) (n : Nat) (F : FF) : Sp := fun vs H Q _ => ∃ ds, ds.length = n ∧ IsDs K H ds vs ∧ match F ds with
  | some (.ok (o, d)) => ∀ v H', Same H H' → RV K H H' o d v → Q v H'
  | _ => False
theorem de_call {n : Nat} {CX : CXT} {k : Nat} {f : Addr} {fd : FuncData} {ps : List Str} {F : FF} {x : Str} {p : Pos} {fes : List EF} {E : XK} (G : FnOk X.prog X.w X.K X.mg X.base CX k f fd ps (spD K n F)) (hr : Room k X.A) (hg : Gl X x) (hm : X.mg x = some (.ref f)) (hk : PySem.W.keepIn X.K (.ref f) = true) (hb : Binds X.K fd ps []) (hx : Passes CX X E)
    (ha : DA X K Ew (e :: es) fes) (hn : fes.length = n := by rfl) (hE : ∀ c H, ¬ Ew c H := by exact fun _ _ h => h) (hdb : (x == ("__debug__" : Str)) = false := by decide) (he : starEach (e :: es) X.env = (false, eval e X.env) :: starEach es X.env := by rfl) (hpl : (backTo pos (starEach es X.env)).any (·.1) = false := by rfl) :
    DE X K Ew (.Call (.Name x p) (e :: es) [] pos) (eCall F fes) := (pe_call G hr hg hm hk hb .nil hx ha hdb he hpl).imp fun σ H Q q =>
  tA_head (g := fun (xs : List (Kd × PyData)) => mbind (F (xs.map Prod.snd)) fun r => mret (nrm (if r.1 = true then .fr [] else .any) r.2, r.2)) q fun B φ Γ xs vs H1 r r1 s hx' hv q => by
    rw [List.append_nil]
    refine ⟨xs.map Prod.snd, by rw [List.length_map, eArgs_len hx']; exact hn, hv.toD r.bs s, ?_⟩
    match hF : F (xs.map Prod.snd), q with
    | some (.ok (o, d)), q =>
      intro v H' s' rv
      rcases q with ⟨k, d', e, q⟩ | ⟨c, e, q⟩
      · cases e
        refine q v H' (s.trans s') (VR.nrm (r1.bs.trans s') ?_)
        unfold RV at rv
        cases o with
        | true =>
          rw [if_pos rfl] at rv ⊢
          obtain ⟨as, h1, h2, h3⟩ := rv
          exact ⟨as, h1, h2, fun a ha => .inr (s.free (h3 a ha))⟩
        | false =>
          rw [if_neg Bool.false_ne_true] at rv ⊢
          exact rv
      · cases e
    | some (.ex c), q =>
      rcases q with ⟨k, d', e, q⟩ | ⟨c, e, q⟩
      · cases e
      · exact hE _ _ (q H1 r1.bs)
    | none, q => rcases q with ⟨k, d', e, q⟩ | ⟨c, e, q⟩ <;> cases e
theorem rep_start {H : Hp} {ds : List PyData} {vs : List V} (N : List Str) (h : IsDs K H ds vs) : Rep K H (fun _ => []) (startD N.length ds) (start N vs) H where
  bs := Same.refl H
  len := by
    have := isDs_length h
    unfold startD start
    simp [this]
  sl := fun i o d e => by
    have hl := isDs_length h
    unfold startD at e
    by_cases hi : i < ds.length
    · rw [List.getElem?_append_left (by simpa using hi), List.getElem?_map] at e
      cases hd : ds[i]? with
      | none => rw [hd] at e; cases e
      | some d' =>
        rw [hd] at e
        cases e
        obtain ⟨v, h1, h2⟩ := isDs_get h hd
        refine ⟨v, ?_, ?_⟩
        · unfold start
          rw [List.getElem?_append_left (by simp; omega), List.getElem?_map, h1]; rfl
        · rw [if_neg Bool.false_ne_true]; exact h2
    · rw [List.getElem?_append_right (by simpa using hi), List.getElem?_replicate] at e
      split at e <;> cases e
  nd := fun _ => List.nodup_nil
  nb := fun _ a ha => by cases ha
  dj := fun _ _ _ a ha => by cases ha
theorem Fun.okD {P : Program} {w : World} {mg : Str → Option Value} {base : Heap} {x qual : Str} {st : Stmt} {f : Addr} {fd : FuncData} {N ps : List Str} {k : Nat} {fb : SF} (F : Fun K x qual st f fd) (S : FnScope N ps (defScope st))
    (hbody : ∀ (cdv : Value) (A : Around) (outer : List Env) (s : Shared) (H : Hp) (E : XK), Room k (A.deeper (envOfC qual (defScope st) s.heap.objs.size f cdv)) →
      DSs (cxOf CX0 P w K mg base N qual (defScope st) f cdv A outer s H E).nox K (fun _ _ => False) (defBody st) fb) : FnOk P w K mg base CX0 (k + 1) f fd ps (spD K ps.length (runF N.length fb)) := by
  refine F.ok S (fun vs H Q E h => ?_) fun cdv A outer s H vs Q E hr h => ⟨_, hbody cdv A outer s H E hr, ?_⟩
  · obtain ⟨ds, h1, h2, _⟩ := h
    rw [isDs_length h2]; exact h1
  · obtain ⟨ds, h1, h2, h3⟩ := h
    refine ⟨H, _, _, rep_start N h2, ?_⟩
    unfold runF at h3
    match hf : fb (startD N.length ds), h3 with
    | some (.ok (.rt o d)), h3 => exact h3
    | some (.ok (.nx Γ)), h3 =>
      exact fun B' φ σ H' s' r => h3 .non H' (s'.trans r.bs) (by unfold RV; rw [if_pos rfl]; exact ⟨[], IsD.toT _ _ rfl isD_non, List.nodup_nil, fun a ha => by cases ha⟩)
    | some (.ok (.bk Γ)), h3 => exact False.elim h3
    | some (.ok (.ct Γ)), h3 => exact False.elim h3
    | some (.ex c), h3 => exact False.elim h3
    | none, h3 => exact False.elim h3
end
end L2
set_option Elab.async false
set_option linter.all false
set_option maxRecDepth 100000
namespace L2
open PySem PySem.Spec PyProof.Rows Y
/-! ### subscripts -/
section
variable {X : Cx} {K : PySem.W.Frag} {Ew : Str → Hp → Prop} {pos : Pos}
theorem VR.ofList {B : Hp} {φ : Nat → List Addr} {H0 H : Hp} {k : Kd} {ds : List PyData} {u : V} (s : Same B H) (h : VR K B φ H0 H k (.list ds) u) :
    ∃ p vs, u = .ref p ∧ SqL K H p vs ∧ vs.length = ds.length ∧ ∀ (j : Nat) (d : PyData), ds[j]? = some d → ∃ w, vs[j]? = some w ∧ VR K B φ H0 H k d w := by
  cases k with
  | fr l =>
    obtain ⟨as, h1, h2, h3⟩ := h
    obtain ⟨a, vs, bs, rfl, e, t, rfl⟩ := of_isT_lst h1
    refine ⟨a, vs, rfl, SqL.of e, isTs_length t, fun j d hd => ?_⟩
    obtain ⟨w, cs, hw, hT, sub⟩ := isTs_get t hd
    have sub' : cs.Sublist (a :: bs) := sub.trans (List.sublist_cons_self _ _)
    exact ⟨w, hw, cs, hT, h2.sublist sub', fun x hx => h3 x (sub'.subset hx)⟩
  | base =>
    obtain ⟨a, vs, rfl, e, t⟩ := of_isD_lst (show IsD K B (.list ds) u from h)
    exact ⟨a, vs, rfl, s.seq e, isDs_length t, fun j d hd => isDs_get t hd⟩
  | any =>
    obtain ⟨a, vs, rfl, e, t⟩ := of_isD_lst (show IsD K H (.list ds) u from h)
    exact ⟨a, vs, rfl, e, isDs_length t, fun j d hd => isDs_get t hd⟩
theorem VR.ofTup {B : Hp} {φ : Nat → List Addr} {H0 H : Hp} {k : Kd} {ds : List PyData} {u : V} (s : Same B H) (h : VR K B φ H0 H k (.tuple ds) u) :
    ∃ p vs, u = .ref p ∧ SqT K H p vs ∧ vs.length = ds.length ∧ ∀ (j : Nat) (d : PyData), ds[j]? = some d → ∃ w, vs[j]? = some w ∧ VR K B φ H0 H k d w := by
  cases k with
  | fr l =>
    obtain ⟨as, h1, h2, h3⟩ := h
    obtain ⟨a, vs, rfl, e, t⟩ := of_isT_tup h1
    refine ⟨a, vs, rfl, e, isTs_length t, fun j d hd => ?_⟩
    obtain ⟨w, cs, hw, hT, sub⟩ := isTs_get t hd
    exact ⟨w, hw, cs, hT, h2.sublist sub, fun x hx => h3 x (sub.subset hx)⟩
  | base =>
    obtain ⟨a, vs, rfl, e, t⟩ := of_isD_tup (show IsD K B (.tuple ds) u from h)
    exact ⟨a, vs, rfl, s.seqT e, isDs_length t, fun j d hd => isDs_get t hd⟩
  | any =>
    obtain ⟨a, vs, rfl, e, t⟩ := of_isD_tup (show IsD K H (.tuple ds) u from h)
    exact ⟨a, vs, rfl, e, isDs_length t, fun j d hd => isDs_get t hd⟩
theorem atD_split {ds : List PyData} {vs : List V} {i : Int} {z : PyData} (hl : vs.length = ds.length) (h : atD ds i = some z) : ∃ j : Nat, ds[j]? = some z ∧ ∀ w, vs[j]? = some w → atI vs i = some w := by
  unfold atD at h
  cases e : Y.ixN ds.length i with
  | none => rw [e] at h; cases h
  | some j =>
    rw [e] at h
    refine ⟨j, h, fun w hw => ?_⟩
    unfold atI
    rw [show L2.ixN vs.length i = Y.ixN ds.length i by rw [hl]; rfl, e]
    exact hw
theorem ixd : IxD X gIx := ⟨_, ix_seq, fun B φ H0 k x y z u v H Q s e hx hy q => by
  cases x <;> cases y <;> simp only [gIx] at e <;> try (cases e; done)
  · rename_i x i
    split at e
    · rename_i hz
      have h1 := of_isD_str (hx.toD s)
      have h2 := of_isD_int hy
      subst h1 h2
      cases hc : atD x.cps.toList i with
      | none => rw [hc] at e; cases e
      | some c =>
        rw [hc] at e
        cases e
        exact .inr (.inr ⟨x, i, c, rfl, rfl, hz, hc, q _ (by rw [show nrm k (.str ⟨#[c]⟩) = .fr [] from rfl]; exact VR.imm rfl isD_str [])⟩)
    · cases e
  · rename_i xs i
    have h2 := of_isD_int hy
    subst h2
    obtain ⟨p, vs, rfl, hq, hl, hg⟩ := VR.ofList s hx
    obtain ⟨j, hj, hw⟩ := atD_split hl e
    obtain ⟨w, h3, h4⟩ := hg j z hj
    exact .inl ⟨p, vs, i, w, rfl, rfl, hq, hw w h3, q w (h4.nrm s)⟩
  · rename_i xs i
    have h2 := of_isD_int hy
    subst h2
    obtain ⟨p, vs, rfl, hq, hl, hg⟩ := VR.ofTup s hx
    obtain ⟨j, hj, hw⟩ := atD_split hl e
    obtain ⟨w, h3, h4⟩ := hg j z hj
    exact .inr (.inl ⟨p, vs, i, w, rfl, rfl, hq, hw w h3, q w (h4.nrm s)⟩)⟩
/-! ### len, list(x), tuple(x) -/
theorem isDs_one {H : Hp} {d : PyData} {us : List V} (h : IsDs K H [d] us) : ∃ u, us = [u] ∧ IsD K H d u := by
  simp only [IsDs] at h
  obtain ⟨v, r, rfl, hv, rfl⟩ := h
  exact ⟨v, rfl, hv⟩
theorem calld_len : CallD X (.builtin "len") gLen := ⟨_, call_len_seq.or call_len_str, fun xs z us H Q e h q => by
  match xs, e, h with
  | [.list ds], e, h =>
    cases e
    obtain ⟨u, rfl, hu⟩ := isDs_one h
    obtain ⟨a, vs, rfl, h1, h2⟩ := of_isD_lst hu
    exact .inl ⟨a, vs, rfl, .inl h1, by rw [isDs_length h2]; exact q _ H (Same.refl H) (Fresh.imm rfl isD_int)⟩
  | [.tuple ds], e, h =>
    cases e
    obtain ⟨u, rfl, hu⟩ := isDs_one h
    obtain ⟨a, vs, rfl, h1, h2⟩ := of_isD_tup hu
    exact .inl ⟨a, vs, rfl, .inr h1, by rw [isDs_length h2]; exact q _ H (Same.refl H) (Fresh.imm rfl isD_int)⟩
  | [.str x], e, h =>
    simp only [gLen] at e
    split at e
    · rename_i hz
      cases e
      obtain ⟨u, rfl, hu⟩ := isDs_one h
      have := of_isD_str hu
      subst this
      exact .inr ⟨x, rfl, hz, q _ H (Same.refl H) (Fresh.imm rfl isD_int)⟩
    · cases e⟩
theorem calld_list : CallD X (.type "list") gList := ⟨_, call_list_of, fun xs z us H Q e h q => by
  match xs, e, h with
  | [.list ds], e, h =>
    simp only [gList] at e
    split at e
    · rename_i hn
      cases e
      obtain ⟨u, rfl, hu⟩ := isDs_one h
      obtain ⟨a, vs, rfl, h1, h2⟩ := of_isD_lst hu
      exact ⟨a, vs, rfl, .inl h1, fun l hl => q _ _ (Same.upd hl) (Fresh.lst hn upd_same (IsDs.same (Same.upd hl) _ _ h2) hl)⟩
    · cases e
  | [.tuple ds], e, h =>
    simp only [gList] at e
    split at e
    · rename_i hn
      cases e
      obtain ⟨u, rfl, hu⟩ := isDs_one h
      obtain ⟨a, vs, rfl, h1, h2⟩ := of_isD_tup hu
      exact ⟨a, vs, rfl, .inr h1, fun l hl => q _ _ (Same.upd hl) (Fresh.lst hn upd_same (IsDs.same (Same.upd hl) _ _ h2) hl)⟩
    · cases e⟩
theorem calld_tuple : CallD X (.type "tuple") gTuple := ⟨_, call_tuple_of, fun xs z us H Q e h q => by
  match xs, e, h with
  | [.list ds], e, h =>
    simp only [gTuple] at e
    split at e
    · rename_i hn
      cases e
      obtain ⟨u, rfl, hu⟩ := isDs_one h
      obtain ⟨a, vs, rfl, h1, h2⟩ := of_isD_lst hu
      exact ⟨a, vs, rfl, .inl ⟨h1, fun l hl => q _ _ (Same.upd hl) (Fresh.tup hn (SqT.of upd_same) (IsDs.same (Same.upd hl) _ _ h2))⟩⟩
    · cases e
  | [.tuple ds], e, h =>
    simp only [gTuple] at e
    split at e
    · rename_i hn
      cases e
      obtain ⟨u, rfl, hu⟩ := isDs_one h
      obtain ⟨a, vs, rfl, h1, h2⟩ := of_isD_tup hu
      exact ⟨a, vs, rfl, .inr ⟨h1, q _ H (Same.refl H) (Fresh.imm (by rw [nol]; exact hn) hu)⟩⟩
    · cases e⟩
/-! ### isinstance(x, T), T a built-in type -/
def tyN : PyData → String
  | .none => "NoneType"
  | .bool _ => "bool"
  | .int _ => "int"
  | .str _ => "str"
  | .list _ => "list"
  | .tuple _ => "tuple"
  | .dict _ => "dict"
theorem kit_tab (K : PySem.W.Frag) : ∀ n ∈ ["int", "bool", "str", "list", "tuple", "dict"], ∀ d : PyData, PySem.W.kitOne K (.type (tyN d)) (.type n) = some (isTy n d) := by
  intro n hn d
  simp only [List.mem_cons, List.mem_nil_iff, or_false] at hn
  rcases hn with rfl | rfl | rfl | rfl | rfl | rfl <;> cases d <;> first | rfl | (unfold PySem.W.kitOne PySem.W.kitCls; decide +kernel)
theorem call_isiD : CallR X (.builtin "isinstance") (fun xs H Q => ∃ x d n, xs = [x, .ty n] ∧ IsD X.K H d x ∧ n ∈ ["int", "bool", "str", "list", "tuple", "dict"] ∧ Q (.bl (isTy n d)) H) := by
  intro pins s σ H xs us Q I r h
  obtain ⟨x, d, n, rfl, hd, hn, q⟩ := h
  obtain ⟨u, w, rfl, ru, rw'⟩ := r.two
  cases (show w = Value.type n from rw')
  have e := kit_tab X.K n hn d
  have fin : ∀ tk, EP X pins σ Q (.bool (isTy n d)) { s with toks := tk } := fun tk => ⟨.bl _, H, I.tok tk, rfl, q⟩
  cases d with
  | none => have := of_isD_non hd; subst this; cases (show u = Value.none from ru); exact PySem.W.kia_one PySem.W.kitx_none I.kIn True.intro e (fun z => nomatch z) fin
  | bool y => have := of_isD_bl hd; subst this; cases (show u = Value.bool y from ru); exact PySem.W.kia_one PySem.W.kitx_bool I.kIn True.intro e (fun z => nomatch z) fin
  | int i => have := of_isD_int hd; subst this; obtain ⟨t, q⟩ := (show ∃ t, u = Value.int i t from ru); cases q; exact PySem.W.kia_one PySem.W.kitx_int I.kIn True.intro e (fun z => nomatch z) fin
  | str y => have := of_isD_str hd; subst this; obtain ⟨t, q⟩ := (show ∃ t, u = Value.str y t from ru); cases q; exact PySem.W.kia_one PySem.W.kitx_str I.kIn True.intro e (fun z => nomatch z) fin
  | list ds =>
    obtain ⟨a, vs, rfl, h1, _⟩ := of_isD_lst hd
    cases (show u = Value.ref a from ru)
    obtain ⟨its, rv, ⟨o, n, h1, hc, _, hd⟩, _⟩ := I.list h1
    exact PySem.W.kia_one PySem.W.kitx_list I.kIn ⟨_, h1, hc⟩ e (fun z => nomatch z) fin
  | tuple ds =>
    obtain ⟨a, vs, rfl, h1, _⟩ := of_isD_tup hd
    cases (show u = Value.ref a from ru)
    obtain ⟨its, rv, ⟨o, h1, hc, n, hd⟩, _⟩ := I.tuple h1
    exact PySem.W.kia_one PySem.W.kitx_tuple I.kIn ⟨o, h1, hc⟩ e (fun z => nomatch z) fin
  | dict kvs =>
    obtain ⟨a, ks, rfl, h1, _⟩ := of_isD_dct hd
    cases (show u = Value.ref a from ru)
    obtain ⟨⟨_, _, _, _, o, es, ep, h1, hc, _⟩, _⟩ := h1.ok I.hok
    exact PySem.W.kia_one PySem.W.kitx_dict I.kIn ⟨o, h1, hc.1⟩ e (fun z => nomatch z) fin
theorem de_isi {n : String} {x : Str} {a : Expr} {fa : EF} {p p2 : Pos} (hn : n ∈ ["int", "bool", "str", "list", "tuple", "dict"]) (hg : Gl X "isinstance") (hm : X.mg "isinstance" = none) (ha : DE X K Ew a fa) (ht : PE X (.Name x p2) (tC (.ty n))) (hK : X.K = K := by rfl)
    (he : starEach [a, .Name x p2] X.env = (false, eval a X.env) :: starEach [.Name x p2] X.env := by rfl) (he2 : starEach [.Name x p2] X.env = (false, eval (.Name x p2) X.env) :: starEach [] X.env := by rfl) (hpl : (backTo pos (starEach [.Name x p2] X.env)).any (·.1) = false := by rfl) :
    DE X K Ew (.Call (.Name "isinstance" p) [a, .Name x p2] [] pos) (eIsi n fa) := (pe_callB call_isiD hg hm PyProof.Rows.boot_isinstance (pa_cons ha (pa_cons ht pa_nil he2) he) (by decide) (by decide) he hpl).imp fun σ H Q q => by
  obtain ⟨B, φ, Γ, r, q⟩ := q
  refine ⟨B, φ, Γ, r, (q.bind r).mono fun u H1 s1 ⟨k, d, e1, v1, r1, _, q1⟩ => ?_⟩
  refine ⟨u, d, n, rfl, by rw [hK]; exact v1.toD r1.bs, hn, ?_⟩
  rcases q1 with ⟨k, d', e, q1⟩ | ⟨c, e, q1⟩
  · cases e; exact q1 _ H1 s1 (VR.imm rfl isD_bl [])
  · cases e
/-! ### methods of a list at a name -/
theorem Rep.own {B H : Hp} {φ : Nat → List Addr} {Γ : DEnv} {σ : St} (r : Rep K B φ Γ σ H) {i : Nat} {d : PyData} (h : Γ[i]? = some (some (true, d))) : ∃ v, σ[i]? = some (some v) ∧ IsT K H d v (φ i) := by
  obtain ⟨v, h1, h2⟩ := r.sl i true d h
  rw [if_pos rfl] at h2
  exact ⟨v, h1, h2⟩
/-- the own object at l changes -/
theorem Rep.chg {B H : Hp} {φ : Nat → List Addr} {Γ : DEnv} {σ : St} {i : Nat} {l : Addr} {o o' : HO} {d : PyData} {v : V} {as : List Addr} (r : Rep K B φ Γ σ H) (hi : l ∈ φ i) (hl : H l = some o) (hm : isMu o) (hv : σ[i]? = some (some v))
    (ht : IsT K (upd H l o') d v as) (hnd : as.Nodup) (hs : ∀ a ∈ as, a ∈ φ i ∨ (B a = none ∧ ∀ j, a ∉ φ j)) (hm' : isMu o') : Rep K B (fun j => if j = i then as else φ j) (Γ.set i (some (true, d))) σ (upd H l o') := by
  have hB : B l = none := (r.nb i l hi).1
  have hn : ∀ j, j ≠ i → l ∉ φ j := fun j hj z => r.dj j i hj l z hi
  have r1 : Rep K B φ (Γ.set i none) σ (upd H l o') := {
    bs := r.bs.upd' hB
    len := by rw [List.length_set]; exact r.len
    sl := fun j o d' e => by
      by_cases hj : j = i
      · subst hj
        by_cases hlt : j < Γ.length
        · rw [List.getElem?_set_self hlt] at e; cases e
        · rw [List.getElem?_eq_none (by rw [List.length_set]; omega)] at e; cases e
      · rw [List.getElem?_set_ne (Ne.symm hj)] at e
        obtain ⟨w, h1, h2⟩ := r.sl j o d' e
        refine ⟨w, h1, ?_⟩
        cases o with
        | true => rw [if_pos rfl] at h2 ⊢; exact IsT.upd hl hm _ _ _ (hn j hj) h2
        | false => rw [if_neg Bool.false_ne_true] at h2 ⊢; exact h2
    nd := r.nd
    nb := fun j a ha => by
      refine ⟨(r.nb j a ha).1, ?_⟩
      by_cases hal : a = l
      · subst hal; exact ⟨o', upd_same, hm'⟩
      · obtain ⟨o2, e2, m2⟩ := (r.nb j a ha).2
        exact ⟨o2, by rw [upd_ne hal]; exact e2, m2⟩
    dj := r.dj }
  have r2 := r1.put i ht hnd fun a ha => by
    rcases hs a ha with z | z
    · exact ⟨(r.nb i a z).1, fun j hj hz => r.dj j i hj a hz z⟩
    · exact ⟨z.1, fun j _ => z.2 j⟩
  rw [List.set_set] at r2
  have e : σ.set i (some v) = σ := by
    apply List.ext_getElem?
    intro j
    by_cases hj : j = i
    · subst hj
      have hlt : j < σ.length := (List.getElem?_eq_some_iff.mp hv).1
      rw [List.getElem?_set_self hlt, hv]
    · rw [List.getElem?_set_ne (Ne.symm hj)]
  rw [e] at r2
  exact r2
variable {o e : Expr} {fe : EF} {apos cpos : Pos}
theorem ds_app {i : Nat} (ho : PE X o (tVar i)) (he : DE X K Ew e fe) (hK : X.K = K := by rfl)
    (hbase : attributeBase o "append" X.env (eval o X.env) = eval o X.env := by rfl)
    (hfew : ((backTo cpos (starEach [e] X.env)).all (fun x => !x.1) && (backToKw cpos (keywordEach [] X.env)).all (fun x => x.1.isSome)
      && decide (([e] : List Expr).length + ([] : List Keyword).length + (if ([] : List Keyword).isEmpty then 0 else 1) < 30)) = true := by rfl)
    (hline : (apos.endLine == cpos.line) = true := by rfl) (hs : starEach [e] X.env = (false, eval e X.env) :: starEach [] X.env := by rfl) (hplain : (backTo cpos (starEach [] X.env)).any (·.1) = false := by rfl)
    (hsw : swapsWith (.Call (.Attribute o "append" apos) [e] [] cpos) none pos.line X.env = pure false := by rfl) :
    DS X K Ew (.Expr (.Call (.Attribute o "append" apos) [e] [] cpos) pos) (sApp i fe) :=
  (ps_expr (pe_bm PySem.F.plainAttrs_list PySem.F.slot_list_append PySem.F.type_list_append mt_append ho (pa_cons he pa_nil hs) hbase hfew hline hs hplain) hsw).imp fun D σ H q => by
    obtain ⟨B, φ, Γ, r, q⟩ := q
    unfold sApp at q
    match hg : Γ[i]?, q with
    | some (some (true, .list xs)), q =>
      obtain ⟨v, hv, hT⟩ := r.own hg
      obtain ⟨l, vs, bs, rfl, hl, ht, hφ⟩ := of_isT_lst hT
      refine ⟨.ref l, hv, .inl ⟨rfl, vs, SqL.of hl⟩, B, φ, Γ, r, ?_⟩
      match hm : fe Γ, q with
      | some (.ok (k, d)), q =>
        refine .inl ⟨k, d, rfl, fun y H1 s1 hy => ?_⟩
        have r1 := r.same s1
        have hl1 := s1 _ _ hl
        have hlen : vs.length = xs.length := isTs_length ht
        have av := hy.av r
        have hli : l ∈ φ i := by rw [hφ]; exact List.mem_cons_self
        match k, q, av with
        | .fr [], q, av =>
          by_cases hz : xs.length < sizeLine
          · replace q : RunS K Ew B (mret (.nx (Γ.set i (some (true, .list (xs ++ [d])))))) D := by simpa only [mbind, if_pos hz] using q
            refine ⟨l, vs, y, rfl, rfl, hl1, by omega, ?_⟩
            obtain ⟨as, h1, h2, h3⟩ := av
            have h3' : ∀ a ∈ as, B a = none ∧ ∀ j, a ∉ φ j := fun a ha => by
              rcases h3 a ha with ⟨_, z, _⟩ | z
              · cases z
              · exact z
            have lna : l ∉ as := fun z => (h3' l z).2 i hli
            have hnd := r.nd i
            rw [hφ] at hnd
            have hnb : l ∉ bs := (List.nodup_cons.mp hnd).1
            refine q B _ σ _ (Same.refl B) (r1.chg (d := .list (xs ++ [d])) (as := l :: (bs ++ as)) hli hl1 trivial hv ?_ ?_ ?_ trivial)
            · exact isT_lst upd_same (isTs_append (IsTs.upd hl1 trivial _ _ _ hnb (IsTs.same s1 _ _ _ ht)) (by
                have := isTs_cons (IsT.upd (o' := .lst (vs ++ [y])) hl1 trivial _ _ _ lna h1) (isTs_nil (K := K))
                rwa [List.append_nil] at this))
            · refine List.nodup_cons.mpr ⟨fun z => ?_, List.nodup_append.mpr ⟨(List.nodup_cons.mp hnd).2, h2, fun a ha b hb e => ?_⟩⟩
              · rcases List.mem_append.mp z with z | z
                · exact hnb z
                · exact lna z
              · subst e
                exact (h3' a hb).2 i (by rw [hφ]; exact List.mem_cons_of_mem _ ha)
            · intro a ha
              rcases List.mem_cons.mp ha with rfl | ha
              · exact .inl hli
              · rcases List.mem_append.mp ha with ha | ha
                · exact .inl (by rw [hφ]; exact List.mem_cons_of_mem _ ha)
                · exact .inr (h3' a ha)
          · simp only [mbind, if_neg hz] at q
            exact False.elim q
        | .fr [j], q, av =>
          by_cases hz : xs.length < sizeLine ∧ i ≠ j
          · replace q : RunS K Ew B (mret (.nx ((Γ.set j none).set i (some (true, .list (xs ++ [d])))))) D := by simpa only [mbind, if_pos hz] using q
            refine ⟨l, vs, y, rfl, rfl, hl1, by omega, ?_⟩
            obtain ⟨as, h1, h2, h3⟩ := av
            have h3' : ∀ a ∈ as, a ∈ φ j ∨ (B a = none ∧ ∀ j', a ∉ φ j') := fun a ha => by
              rcases h3 a ha with ⟨j', z, z2⟩ | z
              · rw [List.mem_singleton.mp z] at z2; exact .inl z2
              · exact .inr z
            have lna : l ∉ as := fun z => by
              rcases h3' l z with z | z
              · exact r.dj i j hz.2 l hli z
              · exact z.2 i hli
            have hnd := r.nd i
            rw [hφ] at hnd
            have hnb : l ∉ bs := (List.nodup_cons.mp hnd).1
            have r2 := r1.kill j
            have hdi : drp φ j i = φ i := if_neg hz.2
            refine q B _ σ _ (Same.refl B) (r2.chg (d := .list (xs ++ [d])) (as := l :: (bs ++ as)) (by rw [hdi]; exact hli) hl1 trivial hv ?_ ?_ ?_ trivial)
            · exact isT_lst upd_same (isTs_append (IsTs.upd hl1 trivial _ _ _ hnb (IsTs.same s1 _ _ _ ht)) (by
                have := isTs_cons (IsT.upd (o' := .lst (vs ++ [y])) hl1 trivial _ _ _ lna h1) (isTs_nil (K := K))
                rwa [List.append_nil] at this))
            · refine List.nodup_cons.mpr ⟨fun z => ?_, List.nodup_append.mpr ⟨(List.nodup_cons.mp hnd).2, h2, fun a ha b hb e => ?_⟩⟩
              · rcases List.mem_append.mp z with z | z
                · exact hnb z
                · exact lna z
              · subst e
                have hai : a ∈ φ i := by rw [hφ]; exact List.mem_cons_of_mem _ ha
                rcases h3' a hb with z | z
                · exact r.dj i j hz.2 a hai z
                · exact z.2 i hai
            · intro a ha
              rw [hdi]
              rcases List.mem_cons.mp ha with rfl | ha
              · exact .inl hli
              · rcases List.mem_append.mp ha with ha | ha
                · exact .inl (by rw [hφ]; exact List.mem_cons_of_mem _ ha)
                · rcases h3' a ha with z | z
                  · refine .inr ⟨(r.nb j a z).1, fun j' hj' => ?_⟩
                    obtain ⟨n1, n2⟩ := drp_mem hj'
                    exact r.dj j' j n1 a n2 z
                  · exact .inr ⟨z.1, fun j' hj' => z.2 j' (drp_mem hj').2⟩
          · simp only [mbind, if_neg hz] at q
            exact False.elim q
        | .fr (_ :: _ :: _), q, _ => exact False.elim q
        | .base, q, _ => exact False.elim q
        | .any, q, _ => exact False.elim q
      | some (.ex c), q => exact .inr ⟨c, rfl, q⟩
      | none, q => exact False.elim q
    | some (some (true, .none)), q => exact False.elim q
    | some (some (true, .bool _)), q => exact False.elim q
    | some (some (true, .int _)), q => exact False.elim q
    | some (some (true, .str _)), q => exact False.elim q
    | some (some (true, .tuple _)), q => exact False.elim q
    | some (some (true, .dict _)), q => exact False.elim q
    | some (some (false, _)), q => exact False.elim q
    | some none, q => exact False.elim q
    | none, q => exact False.elim q
end
end L2
set_option Elab.async false
set_option linter.all false
set_option maxRecDepth 100000
namespace L2
open PySem PySem.Spec PyProof.Rows Y
/-! ### a comprehension by data -/
section
variable {K : PySem.W.Frag} {H H' : Hp}
theorem SqT.mv {a : Addr} {xs : List V} (e : ∀ a o, H a = some o → ¬ isMu o → H' a = some o) (h : SqT K H a xs) : SqT K H' a xs := SqT.toB e h
mutual
theorem IsT.mv (e : ∀ a o, H a = some o → ¬ isMu o → H' a = some o) : ∀ (d : PyData) (v : V) (as : List Addr), (∀ a ∈ as, ∀ o, H a = some o → H' a = some o) → IsT K H d v as → IsT K H' d v as
  | .none, v, as, _, h => by simpa only [IsT] using h
  | .bool b, v, as, _, h => by simpa only [IsT] using h
  | .int i, v, as, _, h => by simpa only [IsT] using h
  | .str x, v, as, _, h => by simpa only [IsT] using h
  | .list xs, v, as, m, h => by
    simp only [IsT] at h ⊢
    obtain ⟨a, vs, bs, e1, h1, h2, rfl⟩ := h
    exact ⟨a, vs, bs, e1, m a List.mem_cons_self _ h1, IsTs.mv e xs vs bs (fun b hb => m b (List.mem_cons_of_mem _ hb)) h2, rfl⟩
  | .tuple xs, v, as, m, h => by
    simp only [IsT] at h ⊢
    obtain ⟨a, vs, e1, h1, h2⟩ := h
    exact ⟨a, vs, e1, h1.mv e, IsTs.mv e xs vs as m h2⟩
  | .dict kvs, v, as, m, h => by
    simp only [IsT] at h ⊢
    obtain ⟨a, ks, bs, e1, h1, h2, rfl⟩ := h
    exact ⟨a, ks, bs, e1, m a List.mem_cons_self _ h1, IsTk.mv e kvs ks bs (fun b hb => m b (List.mem_cons_of_mem _ hb)) h2, rfl⟩
theorem IsTs.mv (e : ∀ a o, H a = some o → ¬ isMu o → H' a = some o) : ∀ (ds : List PyData) (vs : List V) (as : List Addr), (∀ a ∈ as, ∀ o, H a = some o → H' a = some o) → IsTs K H ds vs as → IsTs K H' ds vs as
  | [], vs, as, _, h => by simpa only [IsTs] using h
  | d :: ds, vs, as, m, h => by
    simp only [IsTs] at h ⊢
    obtain ⟨v, r, a1, a2, e1, rfl, h1, h2⟩ := h
    exact ⟨v, r, a1, a2, e1, rfl, IsT.mv e d v a1 (fun b hb => m b (List.mem_append_left _ hb)) h1, IsTs.mv e ds r a2 (fun b hb => m b (List.mem_append_right _ hb)) h2⟩
theorem IsTk.mv (e : ∀ a o, H a = some o → ¬ isMu o → H' a = some o) : ∀ (ds : List (PyData × PyData)) (ks : List (PyData × V × V)) (as : List Addr), (∀ a ∈ as, ∀ o, H a = some o → H' a = some o) → IsTk K H ds ks as → IsTk K H' ds ks as
  | [], ks, as, _, h => by simpa only [IsTk] using h
  | (k, d) :: r, ks, as, m, h => by
    simp only [IsTk] at h ⊢
    obtain ⟨kv, v, q, a1, a2, e1, rfl, h1, h2, h3⟩ := h
    exact ⟨kv, v, q, a1, a2, e1, rfl, IsT.mv e k kv [] (fun b hb => by cases hb) h1, IsT.mv e d v a1 (fun b hb => m b (List.mem_append_left _ hb)) h2, IsTk.mv e r q a2 (fun b hb => m b (List.mem_append_right _ hb)) h3⟩
end
end
open Classical in
noncomputable def delH (D : Addr) (H : Hp) : Hp := fun a => if a = D then none else H a
theorem delH_ne {D a : Addr} {H : Hp} (h : a ≠ D) : delH D H a = H a := by unfold delH; rw [if_neg h]
theorem delH_self {D : Addr} {H : Hp} : delH D H D = none := by unfold delH; rw [if_pos rfl]
theorem delH_same {D : Addr} {H : Hp} : Same (delH D H) H := fun a o e => by
  by_cases h : a = D
  · subst h; rw [delH_self] at e; cases e
  · rw [delH_ne h] at e; exact e
theorem delH_mono {D : Addr} {H H' : Hp} (s : Same H H') : Same (delH D H) (delH D H') := fun a o e => by
  by_cases h : a = D
  · subst h; rw [delH_self] at e; cases e
  · rw [delH_ne h] at e ⊢; exact s a o e
theorem same_delH {D : Addr} {H0 H : Hp} (h : H0 D = none) (s : Same H0 H) : Same H0 (delH D H) := fun a o e => by
  rw [delH_ne (ne_of_none e h)]; exact s a o e
theorem delH_upd {D : Addr} {H : Hp} {o : HO} : delH D (upd H D o) = delH D H := by
  funext a
  by_cases h : a = D
  · subst h; rw [delH_self, delH_self]
  · rw [delH_ne h, delH_ne h, upd_ne h]
theorem kdEl_snoc {xs : List (Kd × PyData)} {x : Kd × PyData} (h : kdEl (xs ++ [x]) = some (.fr [])) : kdEl xs = some (.fr []) ∧ x.1 = .fr [] := by
  induction xs with
  | nil =>
    obtain ⟨k, d⟩ := x
    match k, h with
    | .fr [], h => exact ⟨rfl, rfl⟩
    | .fr (_ :: _), h => simp [kdEl] at h
    | .base, h => simp [kdEl] at h
    | .any, h => simp [kdEl] at h
  | cons y xs ih =>
    obtain ⟨k, d⟩ := y
    match k, h with
    | .fr [], h =>
      simp only [List.cons_append, kdEl] at h ⊢
      exact ih h
    | .fr (_ :: _), h => simp [kdEl] at h
    | .base, h =>
      simp only [List.cons_append, kdEl] at h
      cases e : kdEl (xs ++ [x]) with
      | none => rw [e] at h; cases h
      | some k => rw [e] at h; cases h
    | .any, h => simp [kdEl] at h
theorem kdEl_mem {xs : List (Kd × PyData)} {k : Kd} (h : kdEl xs = some k) : (k = .fr [] ∨ k = .any) ∧ ∀ x ∈ xs, x.1 = .fr [] ∨ x.1 = .base := by
  induction xs generalizing k with
  | nil => cases h; exact ⟨.inl rfl, fun x hx => by cases hx⟩
  | cons y xs ih =>
    obtain ⟨k', d⟩ := y
    match k', h with
    | .fr [], h =>
      simp only [kdEl] at h
      obtain ⟨h1, h2⟩ := ih h
      exact ⟨h1, fun x hx => by rcases List.mem_cons.mp hx with rfl | hx; exact .inl rfl; exact h2 x hx⟩
    | .fr (_ :: _), h => simp [kdEl] at h
    | .base, h =>
      simp only [kdEl] at h
      cases e : kdEl xs with
      | none => rw [e] at h; cases h
      | some k2 =>
        rw [e] at h; cases h
        obtain ⟨h1, h2⟩ := ih e
        exact ⟨.inr rfl, fun x hx => by rcases List.mem_cons.mp hx with rfl | hx; exact .inr rfl; exact h2 x hx⟩
    | .any, h => simp [kdEl] at h
abbrev Ew0 : Str → Hp → Prop := fun _ _ => False
section
variable {X : Cx} {K : PySem.W.Frag} {Ew : Str → Hp → Prop} {pos px : Pos} {scope : Scope} {v : Str} {F : List Str} {ix : List Nat} {elt iter : Expr} {ifs : List Expr} {it : IF} {ft : TF} {fe : EF}
theorem dts_nil {Y : Cx} : PTs Y [] (tDT K Ew0 tYesF) := fun pins s σ H Q I q => by
  obtain ⟨B, φ, Γ, r, q⟩ := q
  rcases q with ⟨b, e, q⟩ | ⟨c, e, q⟩
  · cases e; exact pts_nil pins s σ H Q I (q H (Same.refl H))
  · cases e
theorem dts_one {Y : Cx} {c : Expr} (h : DT Y K Ew0 c ft) : PTs Y [c] (tDT K Ew0 ft) := pts_one h
theorem rep_comp {B H H1 H' : Hp} {φ : Nat → List Addr} {Γ : DEnv} {σ : St} {D : Addr} {d : PyData} {x : V} (r : Rep K B φ Γ σ H) (s0 : Same H H1) (hD : H1 D = none) (s1 : Same H1 H') (hx : IsD K (delH D H') d x) :
    Rep K (delH D H') (fun _ => []) (some (false, d) :: capD Γ ix) (some x :: impS σ ix) H' where
  bs := delH_same
  len := by unfold capD impS; simp
  sl := fun i o d' e => by
    cases i with
    | zero =>
      have e' : some (some (false, d)) = some (some (o, d')) := e
      cases e'
      exact ⟨x, rfl, by rw [if_neg Bool.false_ne_true]; exact hx⟩
    | succ i =>
      have e' : (capD Γ ix)[i]? = some (some (o, d')) := e
      unfold capD at e'
      rw [List.getElem?_map] at e'
      cases hk : ix[i]? with
      | none => rw [hk] at e'; cases e'
      | some k =>
        rw [hk] at e'
        have e2 : (Γ[k]?).join.map (fun p => (false, p.2)) = some (o, d') := Option.some.inj e'
        cases hg : Γ[k]? with
        | none => rw [hg] at e2; cases e2
        | some s =>
          rw [hg] at e2
          cases s with
          | none => cases e2
          | some p =>
            obtain ⟨o', d2⟩ := p
            cases e2
            obtain ⟨w, h1, h2⟩ := r.sl k o' d2 hg
            have hw : IsD K H d2 w := by
              cases o' with
              | true => rw [if_pos rfl] at h2; exact IsT.toD _ _ _ h2
              | false => rw [if_neg Bool.false_ne_true] at h2; exact IsD.same r.bs _ _ h2
            refine ⟨w, ?_, ?_⟩
            · show (impS σ ix)[i]? = _
              unfold impS
              rw [List.getElem?_map, hk, Option.map_some, h1]; rfl
            · rw [if_neg Bool.false_ne_true]
              exact IsD.same (same_delH hD s1) _ _ (IsD.same s0 _ _ hw)
  nd := fun _ => List.nodup_nil
  nb := fun _ a ha => by cases ha
  dj := fun _ _ _ a ha => by cases ha
theorem tD_comp {σ : St} {H : Hp} {Q : VK} (q : tD K Ew (eComp it ix ft fe) σ H Q) : tComp (tI K Ew it) ix (tDT K Ew0 ft) (tD K Ew0 fe) σ H Q := by
    obtain ⟨B, φ, Γ, r, q⟩ := q
    refine ⟨B, φ, Γ, r, ?_⟩
    replace q : Runs K Ew B φ H (mbind (it Γ) fun x => mbind (mo (compD ft fe (capD Γ ix) x.2)) fun ys => mbind (mo (kdEl ys)) fun k => if x.2.length ≤ 100000 then mret (k, .list (ys.map Prod.snd)) else none) Q := q
    match hm : it Γ, q with
    | some (.ok (k0, ds)), q =>
      intro J H1 B1 ψ s0 sB r1 io D hD
      replace q : Runs K Ew B φ H (mbind (mo (compD ft fe (capD Γ ix) ds)) fun ys => mbind (mo (kdEl ys)) fun k => if ds.length ≤ 100000 then mret (k, .list (ys.map Prod.snd)) else none) Q := q
      match hys : compD ft fe (capD Γ ix) ds, q with
      | none, q => rcases q with ⟨k, d, e, _⟩ | ⟨c, e, _⟩ <;> cases e
      | some ys, q =>
        replace q : Runs K Ew B φ H (mbind (mo (kdEl ys)) fun k => if ds.length ≤ 100000 then mret (k, .list (ys.map Prod.snd)) else none) Q := q
        match hkk : kdEl ys, q with
        | none, q => rcases q with ⟨k, d, e, _⟩ | ⟨c, e, _⟩ <;> cases e
        | some kk, q =>
          replace q : Runs K Ew B φ H (if ds.length ≤ 100000 then mret (kk, .list (ys.map Prod.snd)) else none) Q := q
          have hlen : ds.length ≤ 100000 := Decidable.byContradiction fun hn => by
            rw [if_neg hn] at q
            rcases q with ⟨k, d, e, _⟩ | ⟨c, e, _⟩ <;> cases e
          rw [if_pos hlen] at q
          have q : ∀ v H', Same H H' → VR K B φ H H' kk (.list (ys.map Prod.snd)) v → Q v H' := by
            rcases q with ⟨k, d, e, q⟩ | ⟨c, e, _⟩
            · cases e; exact q
            · cases e
          obtain ⟨hk1, hk2⟩ := kdEl_mem hkk
          refine ⟨fun i m zs Hc => m = ds.length - i ∧ i ≤ ds.length ∧ Same H1 Hc ∧ Hc D = some (.lst zs) ∧ zs.length ≤ i ∧ ∃ done rest, compD ft fe (capD Γ ix) (ds.drop i) = some rest ∧ ys = done ++ rest ∧
            IsDs K (delH D Hc) (done.map Prod.snd) zs ∧ (kdEl done = some (.fr []) → ∃ as, IsTs K (delH D Hc) (done.map Prod.snd) zs as ∧ as.Nodup ∧ ∀ a ∈ as, H1 a = none),
            ⟨ds.length, by simp, Nat.zero_le _, Same.upd hD, upd_same, Nat.zero_le _, [], ys, by simpa using hys, rfl, isDs_nil, fun _ => ⟨[], isTs_nil, List.nodup_nil, fun a ha => by cases ha⟩⟩, ?_⟩
          rintro i m zs Hc ⟨rfl, hi2, sc, hDc, hzl, done, rest, hrest, hysr, hel, hfr⟩
          refine ⟨hDc, ?_⟩
          by_cases hlt : i < ds.length
          · refine .inr ⟨io.go i Hc hlt (r1.bs.trans sc), fun x H' hy => ?_⟩
            obtain ⟨s3, d, hd, hitem⟩ := io.yl i Hc x H' hlt (r1.bs.trans sc) hy
            have sc' := sc.trans s3
            have hB1D : B1 D = none := by
              cases e : B1 D with
              | none => rfl
              | some o => have := r1.bs _ _ e; rw [hD] at this; cases this
            have hx : IsD K (delH D H') d x := hitem _ (same_delH hB1D (r1.bs.trans sc')) fun a o e1 e2 => by
              rw [delH_ne]
              · exact e2
              · rintro rfl; rw [hDc] at e1; cases e1
            have rin := rep_comp (ix := ix) r s0 hD sc' hx
            have ed : ds.drop i = d :: ds.drop (i + 1) := by
              rw [List.drop_eq_getElem_cons hlt]
              congr 1
              rw [List.getElem?_eq_getElem hlt] at hd
              exact Option.some.inj hd
            rw [ed] at hrest
            simp only [compD] at hrest
            refine ⟨delH D H', fun _ => [], some (false, d) :: capD Γ ix, rin, ?_⟩
            match hft : ft (some (false, d) :: capD Γ ix), hrest with
            | some (.ok true), hrest =>
              refine .inl ⟨true, rfl, fun H3 s4 => ?_⟩
              show (if true = true then _ else _)
              rw [if_pos rfl]
              refine ⟨delH D H', fun _ => [], some (false, d) :: capD Γ ix, rin.same s4, ?_⟩
              match hfe : fe (some (false, d) :: capD Γ ix), hrest with
              | some (.ok (k, d2)), hrest =>
                refine .inl ⟨k, d2, rfl, fun w H4 s5 hv => ?_⟩
                have hDH' : H' D = some (.lst zs) := s3 _ _ hDc
                have hD3 : H3 D = some (.lst zs) := s4 _ _ hDH'
                have hD4 : H4 D = some (.lst zs) := s5 _ _ hD3
                replace hrest : (compD ft fe (capD Γ ix) (ds.drop (i + 1))).map ((k, d2) :: ·) = some rest := hrest
                cases hr2 : compD ft fe (capD Γ ix) (ds.drop (i + 1)) with
                | none => rw [hr2] at hrest; cases hrest
                | some rest2 =>
                  rw [hr2] at hrest
                  have hrr : (k, d2) :: rest2 = rest := Option.some.inj hrest
                  have hmem : (k, d2) ∈ ys := by rw [hysr, ← hrr]; exact List.mem_append_right _ List.mem_cons_self
                  have ssc : Same (delH D Hc) (delH D H4) := delH_mono ((s3.trans s4).trans s5)
                  have sH' : Same (delH D H') (delH D H4) := delH_mono (s4.trans s5)
                  have mvD : ∀ {as : List Addr}, (∀ a ∈ as, H3 a = none) → IsT K H4 d2 w as → IsT K (delH D H4) d2 w as := fun {as} hn hT => by
                    refine IsT.mv (fun a o e n => ?_) _ _ _ (fun a ha o e => ?_) hT
                    · rw [delH_ne]
                      · exact e
                      · rintro rfl; rw [hD4] at e; cases e; exact n trivial
                    · rw [delH_ne]
                      · exact e
                      · rintro rfl; rw [hn _ ha] at hD3; cases hD3
                  have hfresh : ∀ {l : List Nat}, VR K (delH D H') (fun _ => []) H3 H4 (.fr l) d2 w → ∃ as, IsT K H4 d2 w as ∧ as.Nodup ∧ ∀ a ∈ as, H3 a = none := fun {l} ⟨as, h1, h2, h3⟩ => ⟨as, h1, h2, fun a ha => by
                    rcases h3 a ha with ⟨_, _, z⟩ | z
                    · cases z
                    · exact z⟩
                  refine ⟨hD4, Nat.lt_of_le_of_lt (show zs.length ≤ 100000 by omega) (by decide), ds.length - (i + 1), by omega, rfl, hlt, (sc'.trans (s4.trans s5)).upd' hD, upd_same, by rw [List.length_append, List.length_singleton]; omega, done ++ [(k, d2)], rest2, hr2, by rw [hysr, ← hrr, List.append_assoc]; rfl, ?_, fun hk => ?_⟩
                  · rw [delH_upd, List.map_append]
                    refine isDs_append (IsDs.same ssc _ _ hel) (isDs_cons ?_ isDs_nil)
                    rcases hk2 _ hmem with e | e
                    · have e' : k = .fr [] := e
                      subst e'
                      obtain ⟨as, h1, h2, h3⟩ := hfresh hv
                      exact IsT.toD _ _ _ (mvD h3 h1)
                    · have e' : k = .base := e
                      subst e'
                      exact IsD.same sH' _ _ hv
                  · obtain ⟨hk3, hk4⟩ := kdEl_snoc hk
                    have e' : k = .fr [] := hk4
                    subst e'
                    obtain ⟨as, h1, h2, h3⟩ := hfresh hv
                    obtain ⟨bs, g1, g2, g3⟩ := hfr hk3
                    rw [delH_upd, List.map_append]
                    refine ⟨bs ++ as, isTs_append (IsTs.same ssc _ _ _ g1) ?_, List.nodup_append.mpr ⟨g2, h2, fun a ha b hb e => ?_⟩, fun a ha => ?_⟩
                    · have := isTs_cons (mvD h3 h1) (isTs_nil (K := K))
                      rwa [List.append_nil] at this
                    · subst e
                      obtain ⟨o, eo, _⟩ := IsTs.live _ _ _ g1 a ha
                      have := s4 _ _ (s3 _ _ (delH_same _ _ eo))
                      rw [h3 a hb] at this; cases this
                    · rcases List.mem_append.mp ha with ha | ha
                      · exact g3 a ha
                      · exact (sc'.trans s4).free (h3 a ha)
              | some (.ex c), hrest => cases hrest
              | none, hrest => cases hrest
            | some (.ok false), hrest =>
              refine .inl ⟨false, rfl, fun H3 s4 => ?_⟩
              show (if false = true then _ else _)
              rw [if_neg Bool.false_ne_true]
              refine ⟨ds.length - (i + 1), by omega, rfl, hlt, sc'.trans s4, s4 _ _ (s3 _ _ hDc), by omega, done, rest, hrest, hysr, IsDs.same (delH_mono (s3.trans s4)) _ _ hel, fun hk => ?_⟩
              obtain ⟨bs, g1, g2, g3⟩ := hfr hk
              exact ⟨bs, IsTs.same (delH_mono (s3.trans s4)) _ _ _ g1, g2, g3⟩
            | some (.ex c), hrest => cases hrest
            | none, hrest => cases hrest
          · have e : i = ds.length := by omega
            subst e
            refine .inl ⟨io.stop Hc (r1.bs.trans sc), ?_⟩
            rw [List.drop_length] at hrest
            simp only [compD] at hrest
            cases hrest
            rw [List.append_nil] at hysr
            subst hysr
            refine q _ Hc (s0.trans sc) ?_
            rcases hk1 with e | e
            · subst e
              obtain ⟨bs, g1, g2, g3⟩ := hfr hkk
              refine ⟨D :: bs, isT_lst hDc (IsTs.same delH_same _ _ _ g1), List.nodup_cons.mpr ⟨fun z => ?_, g2⟩, fun a ha => .inr ?_⟩
              · obtain ⟨o, eo, _⟩ := IsTs.live _ _ _ g1 D z
                rw [delH_self] at eo; cases eo
              · rcases List.mem_cons.mp ha with rfl | ha
                · exact s0.free hD
                · exact s0.free (g3 a ha)
            · subst e
              exact isD_lst (SqL.of hDc) (IsDs.same delH_same _ _ hel)
    | some (.ex c), q =>
      rcases q with ⟨k, d, e, _⟩ | ⟨c', e, q⟩
      · cases e
      · cases e; exact q
    | none, q => rcases q with ⟨k, d, e, _⟩ | ⟨c, e, _⟩ <;> cases e
theorem de_comp (hc : X.calm = true) (O : CompOk X scope v F ix) (hi : DI X K Ew (.Name v px) iter it)
    (hifs : ∀ cl fp s H C, PTs (cxComp X scope cl (v :: F) fp s H C) ifs (tDT K Ew0 ft)) (helt : ∀ cl fp s H C, DE (cxComp X scope cl (v :: F) fp s H C) K Ew0 elt fe)
    (hs : ∀ x, foldedSetIterable iter X.env x = pure x := by intro _; rfl) : DE X K Ew (.ListComp elt [⟨.Name v px, iter, ifs, 0⟩] scope pos) (eComp it ix ft fe) :=
  (pe_comp hc O hi hifs helt hs).imp fun σ H Q q => tD_comp q
theorem ds_setComp {i : Nat} {x : Str} {py spos : Pos} (hN : X.N.Nodup) (hxi : X.N[i]? = some x) (hx : Loc X.env.scope x) (hc : X.calm = true) (O : CompOk X scope v F ix) (hi : DI X K Ew (.Name v px) iter it)
    (hifs : ∀ cl fp s H C, PTs (cxComp X scope cl (v :: F) fp s H C) ifs (tDT K Ew0 ft)) (helt : ∀ cl fp s H C, DE (cxComp X scope cl (v :: F) fp s H C) K Ew0 elt fe)
    (hsw : swapsWith (.ListComp elt [⟨.Name v px, iter, ifs, 0⟩] scope pos) (some (.Name x py)) spos.line X.env = pure true)
    (hs : ∀ x, foldedSetIterable iter X.env x = pure x := by intro _; rfl) (hf : X.fn x = true ∨ X.env.scope.names.lookup x = some .local := by first | exact .inl rfl | exact .inr rfl | assumption) :
    DS X K Ew (.Assign [.Name x py] (.ListComp elt [⟨.Name v px, iter, ifs, 0⟩] scope pos) spos) (sSet i (eComp it ix ft fe)) :=
  (ps_setComp (i := i) hN hxi hx hc O hi hifs helt hsw hs hf).imp fun D σ H q => tD_comp (tDS_head (g := fun x Γ => mret (.nx (stor Γ i x.1 x.2))) q fun B φ Γ k d v H1 r a q => by
    obtain ⟨B', φ', s', r'⟩ := stor_ok r i a
    exact q B' φ' _ H1 s' r')
end
end L2
set_option Elab.async false
set_option linter.all false
set_option maxRecDepth 100000
namespace L2
open PySem PySem.Spec PyProof.Rows Y
/-! ### tuple(reversed(xs)), list(reversed(xs)) -/
theorem rv_nolen : typeLookup (.type "list_reverseiterator") "__len__" = pure none := by (rw [typeLookup_type, builtinLookup_eq_fast]); (kernel_rfl)
theorem rv_hint : typeLookup (.type "list_reverseiterator") "__length_hint__" = pure (some (.builtin "list_reverseiterator.__length_hint__")) := by (rw [typeLookup_type, builtinLookup_eq_fast]); (kernel_rfl)
section
variable {prog : Program} {w : World} {A : Around} {E : Value → Shared → Prop} {s : Shared} {I : Addr} {fp wr : List Addr} {G : Array GenState → Array GenState → Prop} {n : Nat} {P : Nat → Value → Prop} {St : Nat → Shared → Prop}
theorem collectRev {Q : List Value → Shared → Prop} (W : WalksS prog w A.in1 I fp wr G n P St) (hT : ∀ i s, St i s → s.TypeIs (.ref I) "list_reverseiterator") (st0 : St 0 s) (hfp : ∀ b ∈ fp, b < s.heap.objs.size) (hI : I ∈ fp)
    (hn : n ≤ sizeLine) (hQ : ∀ s' acc, Moved wr G s s' → ItemsOf P acc n → Q acc.toList s') : wpAny (model prog w) A (collect (.ref I)) Q E s := by
  have nS : s.heap.objs.size ∉ fp := fun hm => Nat.lt_irrefl _ (hfp _ hm)
  have nI : s.heap.objs.size ≠ I := fun e => nS (e ▸ hI)
  unfold collect
  refine wpAny_bind (wpAny_runValue (codeAny_builtin F.entry_proto_collect ?_)); rw [Around.under_plainId F.plain_proto_collect _]
  show wpAny _ A.in1 (newList [] >>= fun l => again (.builtin "list.__iadd__" ⟨[l, .ref I], []⟩)) _ _ s
  refine wpAny_bind (wpAny_newObj_type ?_); refine wpAny_pure ⟨plainId_quiet F.plain_list_iadd _, codeAny_builtin F.entry_list_iadd ?_⟩; rw [Around.under_plainId F.plain_list_iadd _]
  have st1 := W.frame 0 s (s.heap.push { cls := .type "list", data := .seq ([] : List Value).toArray }) s.toks st0 (Nat.le_refl _) (fun b _ o e => Heap.get?_push_of_some _ e)
  have new1 : (s.heap.push { cls := .type "list", data := .seq ([] : List Value).toArray }).get? s.heap.objs.size = some { cls := .type "list", data := .seq ([] : List Value).toArray } := (Heap.get?_push_size _ rfl)
  have h1 : Builtin.List.listSameRef (.ref s.heap.objs.size) (.ref I) = false := by (simp [Builtin.List.listSameRef, nI])
  show wpAny _ A.in1 (Builtin.List.listExtendWith (.ref s.heap.objs.size) (.ref I) (.ref s.heap.objs.size)) _ _ _; unfold Builtin.List.listExtendWith
  refine wpAny_bind (wpAny_typeOf (hT 0 _ st1) ?_)
  rw [if_neg (by rw [h1]; decide)]; refine wpAny_bind (W.self 0 _ _ _ st1 ?_); refine wpAny_bind (wpAny_holding ?_); unfold Builtin.List.listLengthHint
  refine wpAny_bind (wpAny_specialOf (hT 0 _ st1) rv_nolen ?_)
  show wpAny _ A.in1 (specialOf (Value.ref I) (Str.ofString "__length_hint__") >>= _) _ _ _; refine wpAny_bind (wpAny_specialOf (hT 0 _ st1) rv_hint ?_)
  generalize hid : ("list_reverseiterator.__length_hint__" : String) = id0
  wp_delta
  rw [show splitId id0 = some ("list_reverseiterator", "__length_hint__") from by subst hid; decide +kernel]
  subst hid
  refine wpAny_bind (wpAny_isInstance (b := true) (hT 0 _ st1) (by rw [isSubtype_type]; kernel_rfl) ?_); refine wpAny_pure ?_; rw [if_neg (by decide)]
  refine wpAny_pure ⟨plainId_quiet F.plain_extend_loop _, codeAny_extend_loopS W hn _ nS _ n 0 _ _ _ rfl (Nat.zero_le _) st1 new1 (ItemsOf.nil P) fun s' acc' c' hm hS' hacc => ?_⟩
  show wpAny _ A (load s.heap.objs.size >>= _) _ _ s'; refine wpAny_bind (wpAny_load hS' ?_)
  exact wpAny_pure (hQ s' acc' (Moved.drop_new (o := { cls := .type "list", data := .seq ([] : List Value).toArray }) (tk := s.toks) hm (Nat.le_refl _)) hacc)
theorem newTupleRev {Q1 : Value → Shared → Prop} (W : WalksS prog w A.in1.in1 I fp wr G n P St) (hT : ∀ i s, St i s → s.TypeIs (.ref I) "list_reverseiterator") (st0 : St 0 s) (hfp : ∀ b ∈ fp, b < s.heap.objs.size) (hI : I ∈ fp)
    (hn : n ≤ sizeLine) (h : ∀ s' acc, Moved wr G s s' → ItemsOf P acc n → Q1 (.ref s'.heap.objs.size) { s' with heap := s'.heap.push { cls := .type "tuple", data := .seq acc } }) :
    codeAny (model prog w) A (.call (.builtin "tuple.__new__") ⟨[.type "tuple", .ref I], []⟩) (wants Q1 E) s := by
  refine codeAny_of_tree ?_
  show wpAny _ A.in1 (do checkBuiltinCall "tuple.__new__" ⟨[.type "tuple", .ref I], []⟩; again (.builtin "tuple.__new__" ⟨[.type "tuple", .ref I], []⟩)) _ _ s; refine wpAny_bind (wpAny_of_eq (F.newCall_tuple_1 _) (wpAny_pure ⟨plainId_quiet F.plain_tuple_new _, codeAny_builtin F.entry_tuple_new ?_⟩))
  rw [Around.under_plainId F.plain_tuple_new _]; have hsub := sub_tuple_self; have hinit := init_tuple_lookup; have hmh := madeHere_tuple; have hTI := hT 0 s st0
  wp_walk using wpAny_typeOf hTI, collectRev W hT st0 hfp hI hn
  intro s' acc hm hacc
  show wpAny _ _ (Builtin.Tuple.tupleExact acc.toList.toArray >>= fun v => ret v) _ _ _; unfold Builtin.Tuple.tupleExact
  refine wpAny_bind (wpAny_newObj_type ?_ (by show acc.toList.toArray.size ≤ sizeLine; (simp only [Array.toArray_toList]); (rw [hacc.1]); exact hn)); refine wpAny_pure ?_
  have e : acc.toList.toArray = acc := (by simp)
  rw [e]; exact h s' acc hm hacc
theorem callTupleRev {Q : Value → Shared → Prop} (W : WalksS prog w A.in1.in1.in1 I fp wr G n P St) (hT : ∀ i s, St i s → s.TypeIs (.ref I) "list_reverseiterator") (st0 : St 0 s) (hfp : ∀ b ∈ fp, b < s.heap.objs.size) (hI : I ∈ fp)
    (hn : n ≤ sizeLine) (hQ : ∀ s' acc, Moved wr G s s' → ItemsOf P acc n → Q (.ref s'.heap.objs.size) { s' with heap := s'.heap.push { cls := .type "tuple", data := .seq acc } }) : wpAny (model prog w) A (call (.type "tuple") [.ref I]) Q E s := by
  refine callType_codes (Q₁ := fun obj s1 => s1.TypeIs obj "tuple" ∧ Q obj s1) F.called_tuple (F.typeCall_tuple_1 _) F.entry_object_init (newTupleRev W hT st0 hfp hI hn fun s' acc hm hacc => ⟨⟨_, Heap.get?_push_size _ rfl, rfl⟩, hQ s' acc hm hacc⟩) fun obj s1 q => ?_
  exact ⟨q.1, F.args_object_init_2 obj _, object_init_meets F.called_tuple.init.lookup F.called_tuple.made (by decide) prog w A.in1 _ s1 ⟨q.1, rfl, q.2⟩⟩
end
end L2
set_option Elab.async false
set_option linter.all false
set_option maxRecDepth 100000
namespace L2
open PySem PySem.Spec PyProof.Rows Y
section
variable {X : Cx} {K : PySem.W.Frag} {Ew : Str → Hp → Prop} {pos pos2 p p2 : Pos} {a e o : Expr} {ta : TE} {fa fe : EF} {apos cpos : Pos}
def tTupRev (K : PySem.W.Frag) (ta : TE) : TE := fun σ H Q => ta σ H fun x H1 => ∃ q ys, x = .ref q ∧ SqL K H1 q ys ∧ ∀ t, H1 t = none → Q (.ref t) (upd H1 t (.tup ys.reverse))
theorem rev_items {its : List Value} {acc : Array Value} (h : ItemsOf (fun i v => its.toArray[its.toArray.size - 1 - i]? = some v) acc its.toArray.size) : acc = its.reverse.toArray := by
  apply Array.ext'
  apply List.ext_getElem?
  intro i
  have hs : acc.toList.length = its.length := by simpa using h.1
  by_cases hi : i < its.length
  · have hi' : i < acc.toList.length := by omega
    have e1 : acc.toList[i]? = some (acc.toList[i]'hi') := List.getElem?_eq_getElem hi'
    have e2 := h.2 i (acc.toList[i]'hi') (by rw [← Array.getElem?_toList]; exact e1)
    rw [e1, List.getElem?_reverse hi, ← e2]
    simp
  · rw [List.getElem?_eq_none (by omega), List.getElem?_eq_none (by simp; omega)]
theorem pe_tupRev (hc : X.calm = true) (hg : Gl X "tuple") (hm : X.mg "tuple" = none) (hg2 : Gl X "reversed") (hm2 : X.mg "reversed" = none) (ha : PE X a ta)
    (hs : starEach [a] X.env = (false, eval a X.env) :: starEach [] X.env := by rfl) (hpl : (backTo pos2 (starEach [] X.env)).any (·.1) = false := by rfl)
    (hs2 : starEach [.Call (.Name "reversed" p2) [a] [] pos2] X.env = (false, eval (.Call (.Name "reversed" p2) [a] [] pos2) X.env) :: starEach [] X.env := by rfl) (hpl2 : (backTo pos (starEach [] X.env)).any (·.1) = false := by rfl)
    (hnil : backTo pos (starEach [] X.env) = [] := by rfl) :
    PE X (.Call (.Name "tuple" p) [.Call (.Name "reversed" p2) [a] [] pos2] [] pos) (tTupRev X.K ta) := by
  intro pins s σ H Q I h
  refine wpAny_Call_Name_kw (ld_blt I hg hm PyProof.Rows.boot_tuple ?_)
  refine PyProof.Rows.callWith_type1 ?_ hs2 hpl2
  rw [hs2]
  show wpAny _ _ (spliced ((false, eval (.Call (.Name "reversed" p2) [a] [] pos2) X.env) :: backTo pos (starEach [] X.env))) _ _ s
  refine Calls.spliced_cons ?_
  refine wpAny_Call_Name_kw (ld_blt I hg2 hm2 PyProof.Rows.boot_reversed ?_)
  refine PyProof.Rows.callWith_type1 (thn (pa_cons ha pa_nil hs pos2 pins s σ H (fun vs H1 => match vs with
    | [x] => ∃ q ys, x = .ref q ∧ SqL X.K H1 q ys ∧ ∀ t, H1 t = none → Q (.ref t) (upd H1 t (.tup ys.reverse))
    | _ => False) I h) fun us s1 ⟨vs, H1, I1, r1, q1⟩ => ?_) hs hpl
  match vs, r1, q1 with
  | [x], r1, q1 =>
    obtain ⟨q, ys, rfl, hq, fin⟩ := q1
    obtain ⟨u, rfl, ru⟩ := r1.one
    cases ru
    obtain ⟨its, rv, pl, hz⟩ := I1.list hq
    refine call_reversed_list pl.isList ?_
    rw [hnil]
    refine Calls.spliced_nil ?_
    have hfr := I1.fresh
    have I2 : Inv X pins σ H1 { s1 with heap := s1.heap.push (revObj q ((its.toArray.size : Int) - 1)) } := I1.kept (t' := s1.toks) fun b u e => Heap.get?_push_of_some _ e
    have hit : (s1.heap.push (revObj q ((its.toArray.size : Int) - 1))).IsRevIter s1.heap.objs.size q ((its.toArray.size : Int) - 1) := ⟨_, Heap.get?_push_size _ rfl, rfl, rfl⟩
    have pl2 : (s1.heap.push (revObj q ((its.toArray.size : Int) - 1))).IsList q its.toArray := pl.isList.at fun o e => Heap.get?_push_of_some _ e
    have hq1 : q < s1.heap.objs.size := let ⟨o, _, e, _⟩ := pl; Heap.lt_size e
    have hne : q ≠ s1.heap.objs.size := Nat.ne_of_lt hq1
    have hh : X.A.in1.in1.in1.handled = none := I1.ok.hd hc
    have hl := rv.length
    refine callTupleRev (Walks.toS (Walks.listRev (prog := X.prog) (w := X.w) hh s1.heap.objs.size q hne its.toArray)) (fun i s st => st.2.1.typeIs) ⟨Nat.zero_le _, by simpa using hit, pl2⟩ (fun b hb => ?_) (by simp) (by rw [List.size_toArray]; omega) fun s' acc hm hacc => ?_
    · have : b = s1.heap.objs.size ∨ b = q := by simpa using hb
      show b < (s1.heap.push _).objs.size
      rw [Heap.size_push]
      rcases this with z | z
      · rw [z]; exact Nat.lt_succ_self _
      · rw [z]; exact Nat.lt_succ_of_lt hq1
    · rw [rev_items hacc]
      obtain ⟨h', g', d', t', os'⟩ := s'
      obtain rfl : g' = s1.gens := hm.gens
      obtain rfl : d' = s1.drawn := hm.drawn
      obtain rfl : os' = s1.os := hm.os
      have fo := I1.fpOk (H' := H1) (Nat.le_refl s1.heap.objs.size) hfr
      have I3 : Inv X pins σ H1 { s1 with heap := h', toks := t' } := Inv.turned (s := { s1 with heap := s1.heap.push (revObj q ((its.toArray.size : Int) - 1)) }) (h' := h') (t' := t') (it := s1.heap.objs.size) I2 (fun b o hb e => hm.heap b o (by simpa using hb) e) hfr fo.2.1 fo.2.2.2.1 fo.2.2.2.2.1 fo.2.2.2.2.2
      refine ⟨.ref h'.objs.size, _, I3.laid (t' := t') (a := h'.objs.size) (o := .tup ys.reverse) (fun b u e => Heap.get?_push_of_some _ e) (Nat.le_refl _) ⟨by rw [List.length_reverse]; exact hz, its.reverse, rv.reverse, IsTup.new _ _⟩, rfl, fin _ I3.fresh⟩
  | [], r1, q1 => exact False.elim q1
  | _ :: _ :: _, r1, q1 => exact False.elim q1
theorem de_tupRev (hc : X.calm = true) (hg : Gl X "tuple") (hm : X.mg "tuple" = none) (hg2 : Gl X "reversed") (hm2 : X.mg "reversed" = none) (ha : DE X K Ew a fa) (hK : X.K = K := by rfl)
    (hs : starEach [a] X.env = (false, eval a X.env) :: starEach [] X.env := by rfl) (hpl : (backTo pos2 (starEach [] X.env)).any (·.1) = false := by rfl)
    (hs2 : starEach [.Call (.Name "reversed" p2) [a] [] pos2] X.env = (false, eval (.Call (.Name "reversed" p2) [a] [] pos2) X.env) :: starEach [] X.env := by rfl) (hpl2 : (backTo pos (starEach [] X.env)).any (·.1) = false := by rfl)
    (hnil : backTo pos (starEach [] X.env) = [] := by rfl) :
    DE X K Ew (.Call (.Name "tuple" p) [.Call (.Name "reversed" p2) [a] [] pos2] [] pos) (eUn gRevT fa) := (pe_tupRev hc hg hm hg2 hm2 ha hs hpl hs2 hpl2 hnil).imp fun σ H Q q => by
  obtain ⟨B, φ, Γ, r0, q⟩ := q
  refine ⟨B, φ, Γ, r0, (q.bind r0).mono fun u H1 s1 ⟨k, x, e1, v1, r1, _, q1⟩ => ?_⟩
  obtain ⟨z, e, q⟩ := runs_mo (kf := fun _ => .fr []) q1
  cases x <;> simp only [gRevT] at e <;> try (cases e; done)
  split at e
  · rename_i xs hn
    cases e
    obtain ⟨p, vs, rfl, h1, h2⟩ := of_isD_lst (v1.toD r1.bs)
    rw [hK]
    refine ⟨p, vs, rfl, h1, fun t ht => q _ _ (s1.trans (Same.upd ht)) (VR.fresh.mpr (Fresh.tup ?_ (SqT.of upd_same) (IsDs.same (Same.upd ht) _ _ (isDs_reverse h2))))⟩
    exact nols_iff.mpr fun x hx => nols_iff.mp hn x (List.mem_reverse.mp hx)
  · cases e
/-! ### int * int, list * int -/
theorem opd_mul : OpD X (binaryOp .Mult) gMul := OpD.ints op_mul fun x y z e => by
  cases x <;> cases y <;> simp only [gMul] at e <;> try (cases e; done)
  split at e
  · rename_i c; cases e; exact ⟨_, _, rfl, rfl, c, rfl, fun _ _ => isD_int⟩
  · cases e
theorem Runs.no {B H : Hp} {φ : Nat → List Addr} {Q : VK} (h : Runs K Ew B φ H none Q) : False := by
  rcases h with ⟨k, d, e, _⟩ | ⟨c, e, _⟩ <;> cases e
theorem Runs.ret {B H : Hp} {φ : Nat → List Addr} {Q : VK} {k : Kd} {d : PyData} (h : Runs K Ew B φ H (mret (k, d)) Q) : ∀ v H', Same H H' → VR K B φ H H' k d v → Q v H' := by
  rcases h with ⟨k', d', e, q⟩ | ⟨c, e, _⟩
  · cases e; exact q
  · cases e
theorem isNew_eq {k : Kd} (h : isNew k = true) : k = .fr [] := by
  match k, h with
  | .fr [], _ => rfl
theorem runs_rep {B H : Hp} {φ : Nat → List Addr} {Q : VK} {k : Kd} {x y : PyData} (h : Runs K Ew B φ H (repD k x y) Q) : ∃ xs n, k = .fr [] ∧ x = .list xs ∧ y = .int n ∧
    (nols xs = true ∧ -(2 ^ 63) ≤ n ∧ n < 2 ^ 63 ∧ xs.length * n.toNat ≤ sizeLine) ∧ ∀ v H', Same H H' → VR K B φ H H' (.fr []) (.list (List.replicate n.toNat xs).flatten) v → Q v H' := by
  unfold repD at h
  by_cases hk : isNew k = true
  · rw [if_pos hk] at h
    cases x <;> try (exact (Runs.no h).elim)
    rename_i xs
    replace h : Runs K Ew B φ H (repL xs y) Q := h
    cases y <;> try (exact (Runs.no h).elim)
    rename_i n
    by_cases hc : nols xs = true ∧ -(2 ^ 63) ≤ n ∧ n < 2 ^ 63 ∧ xs.length * n.toNat ≤ sizeLine
    · rw [repL, if_pos hc] at h
      exact ⟨xs, n, isNew_eq hk, rfl, rfl, hc, h.ret⟩
    · rw [repL, if_neg hc] at h
      exact (Runs.no h).elim
  · rw [if_neg hk] at h
    exact (Runs.no h).elim
theorem de_rep {b : Expr} {fb : EF} (ha : DE X K Ew a fa) (hb : DE X K Ew b fb) : DE X K Ew (.BinOp a .Mult b pos) (eRep fa fb) :=
  (pe_op op_rep ha hb).imp fun σ H Q q => tD_two (g := fun x y => repD x.1 x.2 y.2) q fun B φ Γ k x k' y u v H1 H2 r2 s1 s2 v1 v2 q => by
    obtain ⟨xs, n, rfl, rfl, rfl, ⟨hn, c1, c2, c3⟩, q⟩ := runs_rep q
    obtain ⟨as, h1, h2, h3⟩ := v1
    obtain ⟨l, vs, bs, rfl, hl, ht, rfl⟩ := of_isT_lst h1
    have hv := of_isD_int (v2.toD r2.bs)
    subst hv
    have hd := IsTs.toD _ _ _ ht
    exact ⟨l, n, vs, rfl, rfl, hl, c1, c2, by rw [isDs_length hd]; exact c3, fun p hp => q _ _ ((s1.trans s2).trans (Same.upd hp)) (VR.fresh.mpr (Fresh.from (Fresh.lst (nols_rep hn _) upd_same (IsDs.same (Same.upd hp) _ _ (isDs_rep _ hd)) hp) (s1.trans s2)))⟩
/-! ### xs.extend(e), xs.clear(), xs[j] = e -/
open AutoSeq1 in
theorem ext_any (T : String) (hT : T = "list" ∨ T = "tuple") (l b : Addr) (xs ys : Array Value) (n m : Nat) (dd : Option Addr) (sl : Array (Option Value)) (h0 : ¬ (!xs.isEmpty && Builtin.List.listTooLong (xs.size + ys.size)) = true) (h1 : xs.size ≤ sizeLine) (h2 : xs.size + ys.size ≤ sizeLine + 1) (hlb : l ≠ b) :
    Meets (Builtin.«list.extend» ⟨[.ref l, .ref b], []⟩) (fun _ R s => s.heap.get? l = some { cls := .type "list", data := .seq xs n } ∧ s.heap.get? b = some ⟨.type T, dd, .seq ys m, sl⟩ ∧ R (.ok (.ret Value.none)) { s with heap := s.heap.update l (Obj.mapSeq fun x => x ++ ys) }) :=
  .of_wp fun prog w A R s q => by
    obtain ⟨hp, g, d, tk, os⟩ := s
    obtain ⟨hl, hb, q⟩ := q
    have f1 := AutoSeq1.idx_int; have f2 := AutoSeq1.sub_tuple_tuple; have f3 := AutoSeq1.sub_list_list; have f4 := AutoSeq1.sub_tuple_list; have f5 := AutoSeq1.sub_list_tuple
    have hz : (xs ++ ys).size ≤ sizeLine + 1 := by (rw [Array.size_append]); exact h2
    rcases hT with rfl | rfl
    · (wp_walk using (wpAny_updateSeq hl rfl (hz := h1) (_hz' := hz)), wpAny_loadPart' hl, wpAny_loadPart' hb); exact ⟨_, rfl, q⟩
    · (wp_walk using (wpAny_updateSeq hl rfl (hz := h1) (_hz' := hz)), wpAny_loadPart' hl, wpAny_loadPart' hb); exact ⟨_, rfl, q⟩
def rExtS (K : PySem.W.Frag) : V → List V → Hp → VK → Prop := fun x vs H Q => ∃ l b xs zs, x = .ref l ∧ vs = [.ref b] ∧ H l = some (.lst xs) ∧ (l = b → ∃ o, K.lookup b = some o) ∧ (SqL K H b zs ∨ SqT K H b zs) ∧ xs.length + zs.length ≤ sizeLine ∧ Q .non (upd H l (.lst (xs ++ zs)))
theorem mt_extS : MtM X "list.extend" (rExtS X.K) := by
  intro pins s σ H x vs v us Q I rx rv h
  obtain ⟨l, b, xs, zs, rfl, rfl, hH, hlb, hB, hz, q⟩ := h
  replace hlb : l ≠ b := fun z => by
    obtain ⟨o, ho⟩ := hlb z
    have := (I.bs b o (I.ok.mod.kin b o ho)).2
    rw [← z, hH] at this
    cases this
  cases rx
  obtain ⟨u, rfl, ru⟩ := rv.one
  cases ru
  obtain ⟨z, its, n, r, hl, e⟩ := I.lstM hH
  have main : ∀ (T : String) (hT : T = "list" ∨ T = "tuple") (its2 : List Value) (dd : Option Addr) (sl : Array (Option Value)) (m : Nat), Vals zs its2 → s.heap.get? b = some ⟨.type T, dd, .seq its2.toArray m, sl⟩ → wpAny (model X.prog X.w) X.A (call (.builtin "list.extend") [.ref l, .ref b]) (EP X pins σ Q) X.xe s := fun T hT its2 dd sl m r2 e2 => by
    have hl2 := r2.length
    have hsz : its.toArray.size + its2.toArray.size ≤ sizeLine := by rw [List.size_toArray, List.size_toArray]; omega
    have hlong : ¬ (!its.toArray.isEmpty && Builtin.List.listTooLong (its.toArray.size + its2.toArray.size)) = true := fun w => by
      rw [notLongL hsz, Bool.and_false] at w
      cases w
    refine call_meets F.slot_list_extend ⟨_, e, rfl⟩ F.entry_list_extend (F.args_list_extend_2 _ _) (ext_any T hT l b its.toArray its2.toArray n m dd sl hlong (by rw [List.size_toArray]; omega) (by omega) hlb) ⟨e, e2, ?_⟩
    refine ⟨.non, _, I.lset (t' := s.toks) (its' := its ++ its2) hH e (by simp) (r.append r2) ?_, rfl, q⟩
    (rw [List.length_append]); omega
  rcases hB with hB | hB
  · obtain ⟨its2, r2, ⟨⟨c2, d2, da2, sl2⟩, n2, ho2, hc2, _, hd2⟩, hz2⟩ := I.list hB
    simp only at hc2 hd2
    subst hc2 hd2
    exact main "list" (.inl rfl) its2 d2 sl2 n2 r2 ho2
  · obtain ⟨its2, r2, ⟨⟨c2, d2, da2, sl2⟩, ho2, hc2, n2, hd2⟩, hz2⟩ := I.tuple hB
    simp only at hc2 hd2
    subst hc2 hd2
    exact main "tuple" (.inr rfl) its2 d2 sl2 n2 r2 ho2
theorem ds_ext {i : Nat} (ho : PE X o (tVar i)) (he : DE X K Ew e fe) (hK : X.K = K := by rfl)
    (hbase : attributeBase o "extend" X.env (eval o X.env) = eval o X.env := by rfl)
    (hfew : ((backTo cpos (starEach [e] X.env)).all (fun x => !x.1) && (backToKw cpos (keywordEach [] X.env)).all (fun x => x.1.isSome)
      && decide (([e] : List Expr).length + ([] : List Keyword).length + (if ([] : List Keyword).isEmpty then 0 else 1) < 30)) = true := by rfl)
    (hline : (apos.endLine == cpos.line) = true := by rfl) (hs : starEach [e] X.env = (false, eval e X.env) :: starEach [] X.env := by rfl) (hplain : (backTo cpos (starEach [] X.env)).any (·.1) = false := by rfl)
    (hsw : swapsWith (.Call (.Attribute o "extend" apos) [e] [] cpos) none pos.line X.env = pure false := by rfl) :
    DS X K Ew (.Expr (.Call (.Attribute o "extend" apos) [e] [] cpos) pos) (sExt i fe) :=
  (ps_expr (pe_bm PySem.F.plainAttrs_list PySem.F.slot_list_extend PySem.F.type_list_extend mt_extS ho (pa_cons he pa_nil hs) hbase hfew hline hs hplain) hsw).imp fun D σ H q => by
    obtain ⟨B, φ, Γ, r, q⟩ := q
    unfold sExt at q
    match hg : Γ[i]?, q with
    | some (some (true, .list xs)), q =>
      obtain ⟨v, hv, hT⟩ := r.own hg
      obtain ⟨l, vs, bs, rfl, hl, ht, hφ⟩ := of_isT_lst hT
      refine ⟨.ref l, hv, .inl ⟨rfl, vs, SqL.of hl⟩, B, φ, Γ, r, ?_⟩
      match hm : fe Γ, q with
      | some (.ok (k, d)), q =>
        refine .inl ⟨k, d, rfl, fun y H1 s1 hy => ?_⟩
        have r1 := r.same s1
        have hl1 := s1 _ _ hl
        have hlen : vs.length = xs.length := isTs_length ht
        have hli : l ∈ φ i := by rw [hφ]; exact List.mem_cons_self
        replace q : RunS K Ew B (match extI k d with
          | some ys => if nols ys = true ∧ xs.length + ys.length ≤ sizeLine then mret (.nx (Γ.set i (some (true, .list (xs ++ ys))))) else none
          | none => none) D := q
        have hd := hy.toD r1.bs
        have hnd := r.nd i
        rw [hφ] at hnd
        have hnb : l ∉ bs := (List.nodup_cons.mp hnd).1
        have main : ∀ (b : Addr) (ws : List V) (ys : List PyData), y = .ref b → extI k d = some ys → (l = b → ∃ o, K.lookup b = some o) → (SqL K H1 b ws ∨ SqT K H1 b ws) → IsDs K H1 ys ws → rExtS X.K (.ref l) [y] H1 fun _ H1 => D.nx σ H1 := fun b ws ys ey ei nlb hb hws => by
          rw [ei] at q
          by_cases hc : nols ys = true ∧ xs.length + ys.length ≤ sizeLine
          · replace q : RunS K Ew B (mret (.nx (Γ.set i (some (true, .list (xs ++ ys)))))) D := by simpa only [if_pos hc] using q
            subst ey
            refine ⟨l, b, vs, ws, rfl, rfl, hl1, by rw [hK]; exact nlb, by rw [hK]; exact hb, by rw [isDs_length hws]; omega, ?_⟩
            refine q B _ σ _ (Same.refl B) (r1.chg (d := .list (xs ++ ys)) (as := l :: bs) hli hl1 trivial hv ?_ hnd (fun a ha => .inl (by rw [hφ]; exact ha)) trivial)
            have h1 := IsTs.upd (o' := .lst (vs ++ ws)) hl1 trivial _ _ _ hnb (IsTs.same s1 _ _ _ ht)
            have h2 := IsTs.upd (o' := .lst (vs ++ ws)) hl1 trivial _ _ _ (show l ∉ [] by simp) (IsDs.toT _ _ hc.1 hws)
            have h3 := isTs_append h1 h2
            rw [List.append_nil] at h3
            exact isT_lst upd_same h3
          · simp only [if_neg hc] at q
            exact False.elim q
        cases d <;> try (exact False.elim q)
        · rename_i ys
          match k, hy, q, main with
          | .fr [], hy, q, main =>
            obtain ⟨as, h1, h2, h3⟩ := hy
            obtain ⟨b, ws, cs, ey, hb, hws, rfl⟩ := of_isT_lst h1
            refine main b ws ys ey rfl (fun z => ?_) (.inl (SqL.of hb)) (IsTs.toD _ _ _ hws)
            rcases h3 b List.mem_cons_self with ⟨_, w, _⟩ | w
            · cases w
            · rw [← z, hl] at w; cases w
          | .base, hy, q, main =>
            obtain ⟨b, ws, ey, hb, hws⟩ := of_isD_lst (show IsD K B (.list ys) y from hy)
            refine main b ws ys ey rfl (fun z => ?_) (.inl (r1.bs.seq hb)) (IsDs.same r1.bs _ _ hws)
            have hB := (r.nb i l hli).1
            rcases hb with (w | ⟨o, w⟩) | ⟨o, _, _, w, _⟩
            · rw [← z, hB] at w; cases w
            · rw [← z, hB] at w; cases w
            · exact ⟨o, w⟩
          | .fr (_ :: _), hy, q, main => exact False.elim q
          | .any, hy, q, main => exact False.elim q
        · rename_i ys
          obtain ⟨b, ws, ey, hb, hws⟩ := of_isD_tup hd
          refine main b ws ys ey rfl (fun z => ?_) (.inr hb) hws
          rcases hb with (w | ⟨o, w⟩) | ⟨o, _, _, w, _⟩
          · rw [← z, hl1] at w; cases w
          · rw [← z, hl1] at w; cases w
          · exact ⟨o, w⟩
      | some (.ex c), q => exact .inr ⟨c, rfl, q⟩
      | none, q => exact False.elim q
    | some (some (true, .none)), q => exact False.elim q
    | some (some (true, .bool _)), q => exact False.elim q
    | some (some (true, .int _)), q => exact False.elim q
    | some (some (true, .str _)), q => exact False.elim q
    | some (some (true, .tuple _)), q => exact False.elim q
    | some (some (true, .dict _)), q => exact False.elim q
    | some (some (false, _)), q => exact False.elim q
    | some none, q => exact False.elim q
    | none, q => exact False.elim q
end
end L2
set_option Elab.async false
set_option linter.all false
set_option maxRecDepth 100000
namespace L2
open PySem PySem.Spec PyProof.Rows Y
section
variable {X : Cx} {K : PySem.W.Frag} {Ew : Str → Hp → Prop} {pos pos2 p p2 : Pos} {a e o j : Expr} {ta : TE} {fa fe fj : EF} {apos cpos : Pos}
/-- xs[j] = e -/
theorem ds_put {i : Nat} (ho : PE X o (tVar i)) (hj : DE X K Ew j fj) (he : DE X K Ew e fe)
    (ha : ∀ v, assign (.Subscript o j p) X.env v = (do
      let ov ← holding [v] (eval o X.env)
      let iv ← holding [v, ov] (eval j X.env)
      standAt p
      holding [v, ov, iv] (setItem ov iv v)
      release [v, ov, iv] []) := by intro _; rfl)
    (hs : swapsWithSole [.Subscript o j p] e pos.line X.env = pure false := by rfl) (hw : swappedStores [.Subscript o j p] e X.env = pure none := by rfl)
    (h1 : (assignEach [.Subscript o j p] X.env).map (·.2) = [assign (.Subscript o j p) X.env] := by rfl) : DS X K Ew (.Assign [.Subscript o j p] e pos) (sPut i fj fe) :=
  (ps_asg he (pg_sub ho hj set_list ha) hs hw h1).imp fun D σ H q =>
    tDS_head (g := fun x Γ => match Γ[i]? with
      | some (some (true, .list xs)) => mbind (fj Γ) fun y => match y.2 with
        | .int n => match Y.ixN xs.length n with
          | some m => if nol x.2 && nols xs then mret (.nx (Γ.set i (some (true, .list (xs.set m x.2))))) else none
          | none => none
        | _ => none
      | _ => none) q fun B φ Γ k d y H1 r av q => by
      match hg : Γ[i]?, q with
      | some (some (true, .list xs)), q =>
        obtain ⟨v, hv, hT⟩ := r.own hg
        obtain ⟨l, vs, bs, rfl, hl, ht, hφ⟩ := of_isT_lst hT
        have hli : l ∈ φ i := by rw [hφ]; exact List.mem_cons_self
        refine ⟨.ref l, hv, B, φ, Γ, r, ?_⟩
        match hm : fj Γ, q with
        | some (.ok (k', d')), q =>
          refine .inl ⟨k', d', rfl, fun w H2 s2 hw => ?_⟩
          have r2 := r.same s2
          cases d' <;> try (exact False.elim q)
          rename_i n
          have := of_isD_int (hw.toD r2.bs)
          subst this
          replace q : RunS K Ew B (match Y.ixN xs.length n with
            | some m => if nol d && nols xs then mret (.nx (Γ.set i (some (true, .list (xs.set m d))))) else none
            | none => none) D := q
          match hix : Y.ixN xs.length n, q with
          | some m, q =>
            replace q : RunS K Ew B (if nol d && nols xs then mret (.nx (Γ.set i (some (true, .list (xs.set m d))))) else none) D := q
            by_cases hc : (nol d && nols xs) = true
            · rw [if_pos hc] at q
              have hc' : nol d = true ∧ nols xs = true := by simpa using hc
              have hlen := isTs_length ht
              refine ⟨l, vs, n, m, rfl, rfl, s2 _ _ hl, by rw [hlen]; exact hix, ?_⟩
              have hbs : bs = [] := IsTs.nil _ _ _ hc'.2 ht
              subst hbs
              have hds := IsDs.same s2 _ _ (IsTs.toD _ _ _ ht)
              have hdd := IsD.same s2 _ _ (av.toD r.bs)
              have hns : nols (xs.set m d) = true := nols_iff.mpr fun x hx => by
                rcases List.mem_or_eq_of_mem_set hx with z | z
                · exact nols_iff.mp hc'.2 x z
                · rw [z]; exact hc'.1
              have hnew := IsTs.upd (o' := .lst (vs.set m y)) (s2 _ _ hl) trivial _ _ _ (show l ∉ [] by simp) (IsDs.toT _ _ hns (isDs_set m hds hdd))
              exact q B _ σ _ (Same.refl B) (r2.chg (d := .list (xs.set m d)) (as := [l]) hli (s2 _ _ hl) trivial hv (isT_lst upd_same hnew) (List.nodup_cons.mpr ⟨by simp, List.nodup_nil⟩) (fun a ha => .inl (by rw [List.mem_singleton.mp ha]; exact hli)) trivial)
            · rw [if_neg hc] at q
              exact False.elim q
          | none, q => exact False.elim q
        | some (.ex c), q => exact .inr ⟨c, rfl, q⟩
        | none, q => exact False.elim q
      | some (some (true, .none)), q => exact False.elim q
      | some (some (true, .bool _)), q => exact False.elim q
      | some (some (true, .int _)), q => exact False.elim q
      | some (some (true, .str _)), q => exact False.elim q
      | some (some (true, .tuple _)), q => exact False.elim q
      | some (some (true, .dict _)), q => exact False.elim q
      | some (some (false, _)), q => exact False.elim q
      | some none, q => exact False.elim q
      | none, q => exact False.elim q
/-! ### xs.index(x) -/
end
end L2
set_option Elab.async false
set_option linter.all false
set_option maxRecDepth 100000
namespace L2
open PySem PySem.Spec PyProof.Rows Y
theorem okDn {P : Program} {w : World} {K : PySem.W.Frag} {mg : Str → Option Value} {base : Heap} {x qual : Str} {st : Stmt} {f : Addr} {fd : FuncData} {N ps : List Str} (k n m : Nat) {fb : SF} (hn : N.length = n) (hm : ps.length = m) (F : Fun K x qual st f fd) (S : FnScope N ps (defScope st))
    (hbody : ∀ (cdv : Value) (A : Around) (outer : List Env) (s : Shared) (H : Hp) (E : XK), Room k (A.deeper (envOfC qual (defScope st) s.heap.objs.size f cdv)) →
      DSs (cxOf CX0 P w K mg base N qual (defScope st) f cdv A outer s H E).nox K (fun _ _ => False) (defBody st) fb) : FnOk P w K mg base CX0 (k + 1) f fd ps (spD K m (runF n fb)) := by
  subst hn hm
  exact F.okD S hbody
theorem spD_true {K : PySem.W.Frag} {H : Hp} {a : Addr} {ns : List Int} {F : FF} (hS : SqL K H a (ns.map V.int)) (h : ∃ o, F [.list (ns.map PyData.int)] = some (.ok (o, .bool true))) : spD K 1 F [.ref a] H (fun v _ => v = .bl true) fun _ _ _ => False := by
  obtain ⟨o, h⟩ := h
  refine ⟨[.list (ns.map PyData.int)], rfl, isDs_cons (isD_lst hS (isDs_ints ns)) isDs_nil, ?_⟩
  rw [h]
  intro v H' s r
  unfold RV at r
  cases o with
  | true => rw [if_pos rfl] at r; obtain ⟨as, h1, _⟩ := r; exact of_isD_bl (IsT.toD _ _ _ h1)
  | false => rw [if_neg Bool.false_ne_true] at r; exact of_isD_bl r
end L2
set_option Elab.async false
set_option linter.all false
set_option maxRecDepth 100000
namespace L2
open PySem PySem.Spec PyProof.Rows Y
/-! ### a[lo:hi:st] of a list -/
def pickV (xs : List V) (lo hi st : Option Int) : List V := (sliceRange (sliceBounds lo hi st xs.length).1 (sliceBounds lo hi st xs.length).2.1 (sliceBounds lo hi st xs.length).2.2).filterMap (xs[·]?)
theorem vals_pick {xs : List V} {us : List Value} (r : Vals xs us) : ∀ (ks : List Nat), Vals (ks.filterMap (xs[·]?)) (ks.filterMap (us[·]?))
  | [] => .nil
  | k :: ks => by
    cases e : xs[k]? with
    | none =>
      rw [List.filterMap_cons, List.filterMap_cons, e, r.none_of e]
      exact vals_pick r ks
    | some x =>
      obtain ⟨u, hu, ru⟩ := r.get e
      rw [List.filterMap_cons, List.filterMap_cons, e, hu]
      exact .cons ru (vals_pick r ks)
section
variable {X : Cx} {e st : Expr} {te : TE} {lo hi : Option Expr} {tl th ts : TO} {pos p2 : Pos}
def tSl3 (K : PySem.W.Frag) (te : TE) (tl th ts : TO) : TE := fun σ H Q => te σ H fun x H1 => tl σ H1 fun l H2 => th σ H2 fun u H3 => ts σ H3 fun t H4 => ∃ a xs, x = .ref a ∧ SqL K H4 a xs ∧ t ≠ some 0 ∧ ∀ p, H4 p = none → (pickV xs l u t).length ≤ xs.length → Q (.ref p) (upd H4 p (.lst (pickV xs l u t)))
theorem pe_slice3 (he : PE X e te) (hl : PO X lo tl) (hu : PO X hi th) (ht : PO X (some st) ts) : PE X (.Subscript e (.Slice lo hi (some st) p2) pos) (tSl3 X.K te tl th ts) := by
  intro pins s σ H Q I h
  refine Subscript_ (thn (he pins s σ H _ I h) fun v s1 ⟨x, H1, I1, r1, q1⟩ => ?_)
  refine wpAny_Slice (thn (hl pins s1 σ H1 _ I1 q1) fun vl s2 ⟨l, H2, I2, pl, q2⟩ => thn (hu pins s2 σ H2 _ I2 q2) fun vu s3 ⟨u, H3, I3, pu, q3⟩ => thn (ht pins s3 σ H3 _ I3 q3) fun vt s4 ⟨t, H4, I4, pt, q4⟩ => ?_)
  obtain ⟨a, xs, rfl, hx, hz, q⟩ := q4
  cases r1
  have I5 : Inv X pins σ H4 { s4 with heap := s4.heap.push { cls := .type "slice", data := .fields #[vl, vu, vt] } } := I4.kept (t' := s4.toks) fun b ob q => Heap.get?_push_of_some _ q
  obtain ⟨its, r, hpl, hsz⟩ := I5.list hx
  have hlen := r.length
  have hple : (pickV xs l u t).length ≤ xs.length := by
    have h1 := slicePick_size_le its.toArray l u t
    have h2 : (pickV xs l u t).length = (slicePick its.toArray l u t).size := by
      unfold slicePick pickV
      rw [List.size_toArray, List.size_toArray, hlen]
      exact (vals_pick r _).length.trans (by simp)
    rw [h2, hlen]
    simpa using h1
  show wpAny (model X.prog X.w) X.A (subscriptTail e (.Slice lo hi (some st) p2) (.ref a) (.ref s4.heap.objs.size)) (EP X pins σ Q) X.xe { s4 with heap := s4.heap.push { cls := .type "slice", data := .fields #[vl, vu, vt] } }
  refine tail_any (ops := [.ref a, .ref s4.heap.objs.size]) hpl.isList.typeIs slot_list_getitem.lookup ?_ (by with_unfolding_all rfl)
  refine wpAny_getItem_list_slice hpl.isList (Heap.IsSliceOf.new ..) pl pu pt hz ?_ (by rw [List.size_toArray]; omega)
  refine ⟨.ref _, _, I5.laid (t' := s4.toks) (o := .lst (pickV xs l u t)) (fun b ob q => Heap.get?_push_of_some _ q) (Nat.le_refl _) ?_, rfl, q _ (I5.hok.fresh (Nat.le_refl _)) hple⟩
  refine ⟨Nat.le_trans hple hsz, _, 0, ?_, Heap.get?_push_size _ rfl⟩
  have hv := vals_pick r (sliceRange (sliceBounds l u t xs.length).1 (sliceBounds l u t xs.length).2.1 (sliceBounds l u t xs.length).2.2)
  have e2 : (slicePick its.toArray l u t).toList = (sliceRange (sliceBounds l u t xs.length).1 (sliceBounds l u t xs.length).2.1 (sliceBounds l u t xs.length).2.2).filterMap (its[·]?) := by
    unfold slicePick
    rw [List.size_toArray, ← hlen]
    simp
  rw [← e2] at hv
  exact hv
end
/-! ### the whole of a tuple, sliced -/
section
variable {prog : Program} {w : World} {A : Around} {E : Value → Shared → Prop} {s : Shared}
theorem getItem_tuple_whole {t sl : Addr} {items : Array Value} {vl vu : Value} {lo hi : Option Int} {Q : Value → Shared → Prop} (ht : IsTup s.heap t items) (hs : s.heap.IsSliceOf sl vl vu .none) (pl : IsPart vl lo) (pu : IsPart vu hi)
    (hw : HT.sIx items.size 0 lo = 0 ∧ HT.sIx items.size items.size hi = items.size) (h : Q (.ref t) s) : wpAny (model prog w) A (getItem (.ref t) (.ref sl)) Q E s := by
  obtain ⟨os, hos, hcs, hds⟩ := id hs
  have hTs : s.TypeIs (.ref sl) "slice" := ⟨os, hos, hcs⟩
  unfold getItem
  try with_reducible refine wpAny_holding ?_
  first | refine wpAny_bind (wpAny_pure ?_) | skip
  refine wpAny_bind (wpAny_sequenceKey ht.typeIs (by decide) ?_)
  refine wpAny_bind (wpAny_callSpecial?_slot (name := Str.ofString "__getitem__") ht.typeIs PyProof.Rows.slot_tuple_getitem
    (wpAny_call_entry PyProof.Rows.slot_tuple_getitem ht.typeIs entry_tuple_getitem ?_ (args_tuple_getitem _ _)))
  show wpAny _ _ (Builtin.Tuple.tupleItemsOf (.ref t) >>= _) _ _ s
  refine wpAny_bind (tupleItemsOf_ ht ?_)
  refine wpAny_bind (wpAny_typeOf hTs ?_)
  rw [if_pos (by decide)]
  refine wpAny_bind (HT.sliceApplied_gen hs pl pu ?_)
  have hyes : (((HT.sIx items.size 0 lo : Nat) : Int) == 0 && (1 : Int) == 1 && (HT.sIx items.size items.size hi - HT.sIx items.size 0 lo) == items.size) = true := by
    rw [hw.1, hw.2]; simp
  show wpAny _ _ (if (((HT.sIx items.size 0 lo : Nat) : Int) == 0 && (1 : Int) == 1 && (HT.sIx items.size items.size hi - HT.sIx items.size 0 lo) == items.size) = true then _ else _) _ _ s
  rw [if_pos hyes]
  unfold Builtin.Tuple.tupleIsExact
  refine wpAny_bind ?_
  first
    | exact wpAny_bind (wpAny_typeOf ht.typeIs (wpAny_pure (wpAny_bind (wpAny_rule (wpAny_pure ⟨_, rfl, wpAny_pure h⟩)))))
    | (refine wpAny_bind (wpAny_typeOf ht.typeIs (wpAny_pure ?_))
       rw [if_pos (by decide)]
       exact wpAny_bind (wpAny_rule (wpAny_pure ⟨_, rfl, wpAny_pure h⟩)))
end

theorem isDs_cut {K : PySem.W.Frag} {H : Hp} {ds : List PyData} {vs : List V} (h : IsDs K H ds vs) (lo hi : Option Int) : IsDs K H (cutD ds lo hi) (cutV vs lo hi) := by
  have e : cutD ds lo hi = (ds.drop (HT.sIx ds.length 0 lo)).take (HT.sIx ds.length ds.length hi - HT.sIx ds.length 0 lo) := rfl
  rw [e]
  unfold cutV
  rw [isDs_length h]
  exact isDs_take _ (isDs_drop _ h)
theorem nols_cut {ds : List PyData} (h : nols ds = true) (lo hi : Option Int) : nols (cutD ds lo hi) = true := nols_iff.mpr fun x hx => nols_iff.mp h x (List.mem_of_mem_drop (List.mem_of_mem_take hx))
section
variable {X : Cx} {K : PySem.W.Frag} {Ew : Str → Hp → Prop} {pos p2 : Pos} {e : Expr} {fe : EF} {lo hi st : Option Expr} {fl fh fs : Option EF}
def rSlD (K : PySem.W.Frag) : V → Option Int → Option Int → Hp → VK → Prop := fun x lo hi H Q => ∃ d z, IsD K H d x ∧ gSl d lo hi = some z ∧ ∀ v H', Same H H' → Fresh K H H' z v → Q v H'
theorem sl_D : SlR X (rSlD X.K) := by
  intro pins s σ H x v vl vu lo hi sl Q I rx hs pl pu h
  obtain ⟨d, z, hd, hz, q⟩ := h
  cases d <;> simp only [gSl] at hz <;> try (cases hz; done)
  · rename_i ds
    split at hz
    · rename_i hn
      cases hz
      obtain ⟨a, xs, rfl, hx, hi'⟩ := of_isD_lst hd
      exact sl_list pins s σ H _ v vl vu lo hi sl Q I rx hs pl pu ⟨a, xs, rfl, hx, fun p hp => q _ _ (Same.upd hp) (Fresh.lst (nols_cut hn lo hi) upd_same (IsDs.same (Same.upd hp) _ _ (isDs_cut hi' lo hi)) hp)⟩
    · cases hz
  · rename_i ds
    split at hz
    · rename_i hn
      cases hz
      obtain ⟨a, xs, rfl, hx, hi'⟩ := of_isD_tup hd
      by_cases hw : HT.sIx xs.length 0 lo = 0 ∧ HT.sIx xs.length xs.length hi = xs.length
      · cases rx
        obtain ⟨its, r, ht, hz⟩ := I.tuple hx
        have hlen : its.toArray.size = xs.length := by rw [List.size_toArray]; exact r.length.symm
        refine ⟨"tuple", _, PyProof.Rows.slot_tuple_getitem.lookup, ht.typeIs, ?_⟩
        refine getItem_tuple_whole ht hs pl pu (by rw [hlen]; exact hw) ⟨.ref a, H, I, rfl, q _ H (Same.refl H) (Fresh.imm (by rw [nol]; exact nols_cut hn lo hi) ?_)⟩
        have e : cutD ds lo hi = ds := by
          have e : cutD ds lo hi = (ds.drop (HT.sIx ds.length 0 lo)).take (HT.sIx ds.length ds.length hi - HT.sIx ds.length 0 lo) := rfl
          rw [e, ← isDs_length hi', hw.1, hw.2, List.drop_zero, Nat.sub_zero]
          exact List.take_of_length_le (by rw [isDs_length hi']; exact Nat.le_refl _)
        rw [e]
        exact hd
      · exact sl_tup pins s σ H _ v vl vu lo hi sl Q I rx hs pl pu ⟨a, xs, rfl, hx, hw, fun p hp => q _ _ (Same.upd hp) (Fresh.tup (nols_cut hn lo hi) (SqT.of upd_same) (IsDs.same (Same.upd hp) _ _ (isDs_cut hi' lo hi)))⟩
    · cases hz
def tO (K : PySem.W.Frag) (Ew : Str → Hp → Prop) (f : Option EF) : TO := fun σ H Q => ∃ B φ Γ, Rep K B φ Γ σ H ∧ ((∃ o, oE f Γ = some (.ok o) ∧ ∀ H', Same H H' → Q o H') ∨ (∃ c, oE f Γ = some (.ex c) ∧ ∀ H', Same B H' → Ew c H'))
def DPO (X : Cx) (K : PySem.W.Frag) (Ew : Str → Hp → Prop) (e : Option Expr) (f : Option EF) : Prop := PO X e (tO K Ew f)
theorem PO.imp {X : Cx} {e : Option Expr} {t t' : TO} (h : PO X e t) (i : ∀ σ H Q, t' σ H Q → t σ H Q) : PO X e t' := fun pins s σ H Q I q => h pins s σ H Q I (i σ H Q q)
theorem dpo_none : DPO X K Ew none none := po_none.imp fun σ H Q q => by
  obtain ⟨B, φ, Γ, r, q⟩ := q
  rcases q with ⟨o, e, q⟩ | ⟨c, e, _⟩
  · cases e; exact q H (Same.refl H)
  · cases e
theorem dpo_some (he : DE X K Ew e fe) : DPO X K Ew (some e) (some fe) := (po_some he).imp fun σ H Q q => by
  obtain ⟨B, φ, Γ, r, q⟩ := q
  refine ⟨B, φ, Γ, r, ?_⟩
  have e0 : oE (some fe) Γ = mbind (fe Γ) fun x => oI x.2 := rfl
  rw [e0] at q
  match hm : fe Γ, q with
  | some (.ok (k, d)), q =>
    refine .inl ⟨k, d, rfl, fun v H' s hv => ?_⟩
    cases d <;> try (rcases q with ⟨o, e, _⟩ | ⟨c, e, _⟩ <;> cases e; done)
    rename_i n
    have := of_isD_int (hv.toD (r.bs.trans s))
    subst this
    rcases q with ⟨o, e, q⟩ | ⟨c, e, _⟩
    · cases e; exact ⟨n, rfl, q H' s⟩
    · cases e
  | some (.ex c), q =>
    rcases q with ⟨o, e, q⟩ | ⟨c', e, q⟩
    · cases e
    · cases e; exact .inr ⟨c, rfl, q⟩
  | none, q => rcases q with ⟨o, e, _⟩ | ⟨c, e, _⟩ <;> cases e
/-- a part of a slice, then the rest -/
theorem tO_head {fo : Option EF} {B H : Hp} {φ : Nat → List Addr} {Γ : DEnv} {σ : St} {g : Option Int → M (Kd × PyData)} {Q : VK} {R : Option Int → Hp → Prop} (r : Rep K B φ Γ σ H) (h : Runs K Ew B φ H (mbind (oE fo Γ) g) Q)
    (i : ∀ o H1, Same H H1 → Rep K B φ Γ σ H1 → Runs K Ew B φ H1 (g o) Q → R o H1) : tO K Ew fo σ H R := by
  refine ⟨B, φ, Γ, r, ?_⟩
  match hm : oE fo Γ, h with
  | some (.ok o), h => exact .inl ⟨o, rfl, fun H1 s => i o H1 s (r.same s) (Runs.later h s)⟩
  | some (.ex c), h =>
    rcases h with ⟨k, d, e, _⟩ | ⟨c', e, h⟩
    · cases e
    · cases e; exact .inr ⟨c, rfl, h⟩
  | none, h => exact (Runs.no h).elim
theorem de_sl (he : DE X K Ew e fe) (hl : DPO X K Ew lo fl) (hu : DPO X K Ew hi fh) (hK : X.K = K := by rfl) : DE X K Ew (.Subscript e (.Slice lo hi none p2) pos) (eSl fe fl fh) := (pe_slice sl_D he hl hu).imp fun σ H Q q => by
  obtain ⟨B, φ, Γ, r, q⟩ := q
  refine ⟨B, φ, Γ, r, (q.bind r).mono fun u H1 s1 ⟨k, x, e1, v1, r1, _, q1⟩ => ?_⟩
  refine tO_head r1 (q1.later s1) fun l H2 s2 r2 q2 => tO_head r2 q2 fun h H3 s3 r3 q3 => ?_
  obtain ⟨z, ez, q⟩ := runs_mo (kf := fun _ => .fr []) q3
  rw [hK]
  exact ⟨x, z, IsD.same (s2.trans s3) _ _ (v1.toD r1.bs), ez, fun v H' s f => q v H' s (VR.fresh.mpr f)⟩
theorem pickV_D {H : Hp} {ds : List PyData} {vs : List V} (h : IsDs K H ds vs) (lo hi st : Option Int) : IsDs K H (pickD ds lo hi st) (pickV vs lo hi st) := by
  unfold pickD pickV
  rw [isDs_length h]
  exact isDs_pick h _
theorem de_sl3 {se : Expr} {fs : EF} (he : DE X K Ew e fe) (hl : DPO X K Ew lo fl) (hu : DPO X K Ew hi fh) (ht : DPO X K Ew (some se) (some fs)) (hK : X.K = K := by rfl) : DE X K Ew (.Subscript e (.Slice lo hi (some se) p2) pos) (eSl3 fe fl fh (some fs)) := (pe_slice3 he hl hu ht).imp fun σ H Q q => by
  obtain ⟨B, φ, Γ, r, q⟩ := q
  refine ⟨B, φ, Γ, r, (q.bind r).mono fun u H1 s1 ⟨k, x, e1, v1, r1, _, q1⟩ => ?_⟩
  refine tO_head r1 (q1.later s1) fun l H2 s2 r2 q2 => tO_head r2 q2 fun h H3 s3 r3 q3 => tO_head r3 q3 fun t H4 s4 r4 q4 => ?_
  obtain ⟨z, ez, q⟩ := runs_mo (kf := fun _ => .fr []) q4
  cases x <;> simp only [gSl3] at ez <;> try (cases ez; done)
  rename_i ds
  split at ez
  · rename_i hc
    cases ez
    obtain ⟨a, vs, rfl, hv, hd⟩ := of_isD_lst (IsD.same ((s2.trans s3).trans s4) _ _ (v1.toD r1.bs))
    rw [hK]
    refine ⟨a, vs, rfl, hv, hc.2, fun p hp _ => q _ _ (Same.upd hp) (VR.fresh.mpr (Fresh.lst ?_ upd_same (IsDs.same (Same.upd hp) _ _ (pickV_D hd l h t)) hp))⟩
    refine nols_iff.mpr fun y hy => nols_iff.mp hc.1 y ?_
    unfold pickD at hy
    obtain ⟨j, _, ej⟩ := List.mem_filterMap.mp hy
    exact List.mem_of_getElem? ej
  · cases ez
end
end L2
set_option Elab.async false
set_option linter.all false
set_option maxRecDepth 100000
namespace L2
open PySem PySem.Spec PyProof.Rows Y
/-! ### reversed(t), t a tuple -/
theorem own_rvs : Manifest.owners.lookup (String.ofList ['d', 'e', 's', 'r', 'e', 'v', 'e', 'r'].reverse) = some Manifest.sig_reversed := by (kernel_rfl)
theorem slot_rvs_next : Slot "reversed" "__next__" "reversed.__next__" :=
  .of (owner := "reversed") (n := "__next__") (by (rw [typeLookup_type, builtinLookup_eq_fast]); kernel_rfl) (by decide +kernel) (by decide +kernel) (by decide +kernel) (by first | exact .inl (by decide +kernel) | exact .inr (by decide +kernel)) (by (rw [isSubtype_type]); kernel_rfl)
theorem ent_rvs_next : entryFor table "reversed.__next__" = some Builtin.«reversed.__next__» := entryFor_of_tree (by (kernel_rfl))
theorem arg_rvs_next (a : Value) : argsOk "reversed.__next__" ⟨[a], []⟩ := by
  unfold argsOk; rw [signature?_of (id := "reversed.__next__") (n := ['_', '_', 't', 'x', 'e', 'n', '_', '_']) (o := ['d', 'e', 's', 'r', 'e', 'v', 'e', 'r']) (by (kernel_rfl)) own_rvs]; (kernel_rfl)
theorem slot_rvs_iter : Slot "reversed" "__iter__" "reversed.__iter__" :=
  .of (owner := "reversed") (n := "__iter__") (by (rw [typeLookup_type, builtinLookup_eq_fast]); kernel_rfl) (by decide +kernel) (by decide +kernel) (by decide +kernel) (by first | exact .inl (by decide +kernel) | exact .inr (by decide +kernel)) (by (rw [isSubtype_type]); kernel_rfl)
theorem arg_rvs_iter (a : Value) : argsOk "reversed.__iter__" ⟨[a], []⟩ := by
  unfold argsOk; rw [signature?_of (id := "reversed.__iter__") (n := ['_', '_', 'r', 'e', 't', 'i', '_', '_']) (o := ['d', 'e', 's', 'r', 'e', 'v', 'e', 'r']) (by (kernel_rfl)) own_rvs]; (kernel_rfl)
theorem ent_rvs_iter : entryFor table "reversed.__iter__" = some Builtin.«dict_keyiterator.__iter__» :=
  entryFor_alias (id' := "dict_keyiterator.__iter__") (by (kernel_rfl)) (by first | rfl | decide +kernel | (unfold String.splitOn; simp +decide [String.splitOnAux])) (by decide +kernel) (by (kernel_rfl))
theorem tup_norev : typeLookup (.type "tuple") "__reversed__" = pure none := by (rw [typeLookup_type, builtinLookup_eq_fast]); (kernel_rfl)
theorem sub_tup_dict : isSubtype (.type "tuple") (.type "dict") = pure false := by (rw [isSubtype_type]); (kernel_rfl)
def rvsObj (t : Addr) (i : Int) : Obj := { cls := .type "reversed", data := .fields #[.ref t, rawInt i] }
def IsRvs (h : Heap) (a t : Addr) (i : Int) : Prop := h.get? a = some (rvsObj t i)
section
variable {prog : Program} {w : World} {A : Around} {E : Value → Shared → Prop} {s : Shared}
theorem code_rvs_new {t : Addr} {items : Array Value} {Q1 : Value → Shared → Prop} (ht : IsTup s.heap t items) (hz : items.size ≤ sizeLine)
    (h : ∀ tk, Q1 (.ref s.heap.objs.size) { s with heap := s.heap.push (rvsObj t ((items.size : Int) - 1)), toks := tk }) :
    codeAny (model prog w) A (.call (.builtin "reversed.__new__") ⟨[.type "reversed", .ref t], []⟩) (wants Q1 E) s := by
  refine codeAny_of_tree ?_
  show wpAny _ A.in1 (do checkBuiltinCall "reversed.__new__" ⟨[.type "reversed", .ref t], []⟩; again (.builtin "reversed.__new__" ⟨[.type "reversed", .ref t], []⟩)) _ _ s; refine wpAny_bind (wpAny_of_eq (F.newCall_reversed_1 _) (wpAny_pure ⟨plainId_quiet F.plain_reversed_new _, codeAny_builtin F.entry_reversed_new ?_⟩))
  rw [Around.under_plainId F.plain_reversed_new _]; unfold Builtin.«reversed.__new__»
  refine wpAny_bind (wpAny_of_eq (newClass_reversed _) ?_)
  try dsimp only
  refine wpAny_bind (wpAny_of_eq (a := ()) (by first | rfl | kernel_rfl) ?_); refine wpAny_bind (wpAny_of_eq (a := ()) (by first | rfl | kernel_rfl) ?_)
  try dsimp only
  refine wpAny_bind (wpAny_specialOf ht.typeIs tup_norev ?_)
  have hT := ht.typeIs
  have hd := sub_tup_dict
  have hget := PyProof.Rows.slot_tuple_getitem.lookup
  show wpAny _ _ (_ >>= _) _ _ _
  refine wpAny_bind ?_
  wp_delta
  refine wpAny_bind (wpAny_isInstance hT hd ?_); rw [if_neg Bool.false_ne_true]
  refine wpAny_bind (wpAny_specialOf hT hget ?_)
  try dsimp only
  rw [if_pos (by decide +kernel)]
  refine wpAny_pure ?_
  rw [if_neg (by decide)]
  have hl63 := line63
  refine wpAny_bind (len_tuple ht (by omega) ?_)
  refine wpAny_bind (wpAny_of_eq (a := some ((items.size : Nat) : Int)) (by first | rfl | kernel_rfl) ?_)
  try dsimp only
  refine wpAny_bind ?_
  wp_delta
  exact wpAny_newObj_type (wpAny_pure (h _))
theorem called_rvs : TypeCalled "reversed" "reversed.__new__" "object.__init__" :=
  ⟨by decide +kernel, by decide +kernel, ⟨_, _, F.mro_reversed⟩, F.made_reversed, by decide +kernel, by (rw [isSubtype_type]); kernel_rfl, .of (owner := "object") (n := "__init__") (by (rw [typeLookup_type, builtinLookup_eq_fast]); kernel_rfl) (by decide +kernel) (by decide +kernel) (by decide +kernel) (by first | exact .inl (by decide +kernel) | exact .inr (by decide +kernel)) (by (rw [isSubtype_type]); kernel_rfl)⟩
theorem call_rvs {t : Addr} {items : Array Value} {Q : Value → Shared → Prop} (ht : IsTup s.heap t items) (hz : items.size ≤ sizeLine)
    (h : ∀ tk, Q (.ref s.heap.objs.size) { s with heap := s.heap.push (rvsObj t ((items.size : Int) - 1)), toks := tk }) : wpAny (model prog w) A (call (.type "reversed") [.ref t]) Q E s := by
  refine callType_codes (Q₁ := fun obj s1 => s1.TypeIs obj "reversed" ∧ Q obj s1) called_rvs (F.typeCall_reversed_1 _) F.entry_object_init (code_rvs_new ht hz fun tk => ⟨⟨_, Heap.get?_push_size _ rfl, rfl⟩, h tk⟩) fun obj s1 q => ?_
  exact ⟨q.1, F.args_object_init_2 obj _, object_init_meets called_rvs.init.lookup called_rvs.made (by decide) prog w A.in1 _ s1 ⟨q.1, rfl, q.2⟩⟩
theorem rvs_typeIs {it t : Addr} {i : Int} (h : IsRvs s.heap it t i) : s.TypeIs (.ref it) "reversed" := ⟨_, h, rfl⟩
theorem rvs_item {it t : Addr} {i : Nat} {items : Array Value} {x : Value} {Q : Option Value → Shared → Prop} (hit : IsRvs s.heap it t (i : Int)) (ht : IsTup s.heap t items) (hz : items.size ≤ sizeLine) (hx : items[i]? = some x)
    (hQ : ∀ h' tk, IsRvs h' it t ((i : Int) - 1) → Heap.SameBut it s.heap h' → Q (some x) { s with heap := h', toks := tk }) : wpAny (model prog w) A (pyNext (.ref it)) Q E s := by
  unfold pyNext
  refine wpAny_bind (wpAny_attempt (wpAny_callSpecial?_slot (name := Str.ofString "__next__") (rvs_typeIs hit) slot_rvs_next (wpAny_call_entry slot_rvs_next (rvs_typeIs hit) ent_rvs_next ?_ (arg_rvs_next _))))
  unfold Builtin.«reversed.__next__»
  refine wpAny_bind (wpAny_of_eq (a := (Value.ref it, [])) rfl ?_)
  try dsimp only
  refine wpAny_bind (wpAny_field hit rfl (x := .ref t) rfl ?_)
  refine wpAny_bind (wpAny_field hit rfl (x := rawInt (i : Int)) rfl ?_)
  show wpAny _ _ (if (i : Int) < 0 then _ else _) _ _ _
  rw [if_neg (by omega)]
  refine wpAny_bind (wpAny_specialOf ht.typeIs PyProof.Rows.slot_tuple_getitem.lookup ?_)
  rw [if_neg (by decide)]
  refine wpAny_bind (wpAny_mkInt ?_)
  have hi : i < items.size := (Array.getElem?_eq_some_iff.mp hx).1
  have hl63 := line63
  have hg : wpAny (model prog w) A.in1 (getItem (.ref t) (.int (i : Int) s.toks)) (fun r s' => r = x ∧ s' = { s with toks := s.toks + 1 }) (fun _ _ => False) { s with toks := s.toks + 1 } :=
    getItem_tuple (k := (i : Int)) (j := i) ht (by omega) (by omega) (seqIndex_of (by omega) (by omega)) hx ⟨rfl, rfl⟩
  refine wpAny_bind (wpAny_attempt (wpAny_mono hg (fun r s' q => ?_) fun _ _ q => False.elim q))
  obtain ⟨rfl, rfl⟩ := q
  refine wpAny_bind (wpAny_field hit rfl (x := rawInt (i : Int)) rfl ?_)
  show wpAny _ _ (setField (.ref it) 1 (rawInt ((i : Int) - 1)) >>= _) _ _ _
  refine wpAny_bind (wpAny_setField hit rfl (by simp) ?_)
  refine wpAny_pure ⟨_, rfl, wpAny_pure (hQ _ _ ?_ (Heap.SameBut.update ..))⟩
  exact Heap.get?_update_self (Obj.mapFields (·.setIfInBounds 1 (rawInt ((i : Int) - 1)))) hit rfl
theorem rvs_end {it t : Addr} {Q : Option Value → Shared → Prop} (hh : A.handled = none) (hit : IsRvs s.heap it t (-1))
    (hQ : ∀ h' tk, Heap.ExtBut it s.heap h' → Q none { s with heap := h', toks := tk }) : wpAny (model prog w) A (pyNext (.ref it)) Q E s := by
  unfold pyNext
  refine wpAny_bind (wpAny_attempt (wpAny_callSpecial?_slot (name := Str.ofString "__next__") (rvs_typeIs hit) slot_rvs_next (wpAny_call_entry slot_rvs_next (rvs_typeIs hit) ent_rvs_next ?_ (arg_rvs_next _))))
  unfold Builtin.«reversed.__next__»
  refine wpAny_bind (wpAny_of_eq (a := (Value.ref it, [])) rfl ?_)
  try dsimp only
  refine wpAny_bind (wpAny_field hit rfl (x := .ref t) rfl ?_)
  refine wpAny_bind (wpAny_field hit rfl (x := rawInt (-1)) rfl ?_)
  show wpAny _ _ (if (-1 : Int) < 0 then _ else _) _ _ _
  rw [if_pos (by decide)]
  refine wpAny_bind (wpAny_rule ?_)
  refine wpAny_bind ?_
  wp_delta
  refine wpAny_bind (wpAny_setField hit rfl (by simp) ?_)
  have hit2 := Heap.get?_update_self (Obj.mapFields (·.setIfInBounds 1 (rawInt (-1)))) hit rfl
  refine wpAny_setField hit2 rfl (by simp) ?_
  refine wpAny_bind ?_
  (first | show wpAny _ _ (newExc (.type "StopIteration") [] >>= _) _ _ _ | (wp_delta; show wpAny _ _ (newExc (.type "StopIteration") [] >>= _) _ _ _))
  refine wpAny_bind ?_; simp only [newExc, newTuple]; refine wpAny_bind (wpAny_newObj_type ?_ (by size_fits)); refine wpAny_bind (m := firstArgMember _ _) (wpAny_of_eq (a := Value.none) (by first | rfl | (simp only [firstArgMember]; rfl)) ?_); refine wpAny_newObj_type ?_ (by size_fits)
  simp only [raiseNew]; refine wpAny_bind (wpAny_handled ?_); (first | rw [show A.in1.handled = none from hh] | rw [hh])
  refine wpAny_bind (wpAny_pure (wpAny_throw ?_)); refine wpAny_bind (wpAny_isInstance (T := "StopIteration") (b := true) ⟨_, Heap.get?_push_size _ rfl, rfl⟩ isSubtype_stop ?_)
  exact wpAny_pure (hQ _ _ ((((Heap.SameBut.update ..).extBut.trans (Heap.SameBut.update ..).extBut).push _).push _))
theorem rvs_self {it t : Addr} {i : Int} {Q : Value → Shared → Prop} (hit : IsRvs s.heap it t i) (h : Q (.ref it) s) : wpAny (model prog w) A (pyIter (.ref it)) Q E s := by
  refine wpAny_pyIter_slot (rvs_typeIs hit) slot_rvs_iter (wpAny_call_entry slot_rvs_iter (rvs_typeIs hit) ent_rvs_iter ?_ (arg_rvs_iter _))
  show wpAny _ _ (ret (.ref it)) _ _ s; exact wpAny_pure ⟨_, rfl, "reversed", _, rvs_typeIs hit, slot_rvs_next.lookup, h⟩
end
/-- the turns of a tuple of n items from its end -/
def Itv (K : PySem.W.Frag) (a : Addr) (n : Nat) : It :=
  ⟨fun i H => i < n ∧ ∃ xs, SqT K H a xs ∧ xs.length = n, fun i H x H' => H' = H ∧ ∀ xs, SqT K H a xs → xs[n - 1 - i]? = some x, fun i _ => n ≤ i⟩
theorem turn_rvs {P : Program} {w : World} {K : PySem.W.Frag} {tg : Expr} (a it : Addr) (n : Nat) : Turn P w K tg (Itv K a n) [it] it (fun i h => i ≤ n ∧ IsRvs h it a ((n : Int) - 1 - i)) where
  mem := by simp
  obj := fun i h st b hb => by
    have z : b = it := by simpa using hb
    subst z
    exact ⟨_, st.2, fun v z => by cases z⟩
  keep := fun i h h' st k => ⟨st.1, k it (by simp) _ st.2⟩
  item := by
    intro X hP hw hK hc i pins s σ H E I hf st hg; subst hP hw hK
    obtain ⟨hi, xs, hq, hl⟩ := hg
    obtain ⟨its, rv, p, hz⟩ := I.tuple hq
    have hx : xs[n - 1 - i]? = some (xs[n - 1 - i]'(by omega)) := List.getElem?_eq_getElem _
    obtain ⟨u, hu, ru⟩ := rv.get hx
    obtain ⟨f0, f1, f2, f3, f4, f5⟩ := hf it (by simp)
    have hlen := rv.length
    have hst := st.2
    rw [show (n : Int) - 1 - (i : Int) = ((n - 1 - i : Nat) : Int) by omega] at hst
    refine rvs_item (i := n - 1 - i) (x := u) hst p (by rw [List.size_toArray]; omega) (by simpa using hu) fun h' tk st' sb => ?_
    have I1 : Inv X pins σ H { s with heap := h', toks := tk } := I.turned (t' := tk) (fun b o hb e => (sb.2 b hb).trans e) f0 f1 f3 f4 f5
    rw [show ((n - 1 - i : Nat) : Int) - 1 = (n : Int) - 1 - ((i + 1 : Nat) : Int) by omega] at st'
    exact ⟨u, rfl, go_of (s := { s with heap := h', toks := tk }) st' rfl rfl (by decide) ⟨_, H, I1, ru, ⟨rfl, fun ys hy => by rw [I.tuple_inj hy hq]; exact hx⟩, ⟨by omega, st'⟩, fun b hb => (hf b hb).1⟩⟩
  done := by
    intro X hP hw hK hc i pins s σ H E I hf st hg; subst hP hw hK
    have hi : n ≤ i := hg
    obtain ⟨f0, f1, f2, f3, f4, f5⟩ := hf it (by simp)
    have hst := st.2
    rw [show (n : Int) - 1 - (i : Int) = -1 by have := st.1; omega] at hst
    exact rvs_end (I.ok.hd hc) hst fun h' tk eb => ⟨rfl, I.turned (t' := tk) (fun b o hb e => eb b o hb e) f0 f1 f3 f4 f5⟩
  self := fun A i s Q E st h => rvs_self st.2 h
section
variable {X : Cx} {K : PySem.W.Frag} {Ew : Str → Hp → Prop} {pos p : Pos} {tg a : Expr} {ta : TE} {fa : EF}
def iRvs (K : PySem.W.Frag) (ta : TE) : TI := fun σ H R => ta σ H fun x H1 => ∃ q xs, x = .ref q ∧ SqT K H1 q xs ∧ R (Itv K q xs.length) H1
theorem pi_rvs (hg : Gl X "reversed") (hm : X.mg "reversed" = none) (ha : PE X a ta) (hs : starEach [a] X.env = [(false, eval a X.env)] := by rfl) : PI X tg (.Call (.Name "reversed" p) [a] [] pos) (iRvs X.K ta) := by
  intro pins s σ H R I h
  refine Call_ (ld_blt I hg hm PyProof.Rows.boot_reversed (PyProof.Rows.callWith_type1 (thn (pa_cons ha pa_nil hs pos pins s σ H (fun vs H1 => match vs with
    | [x] => ∃ q xs, x = .ref q ∧ SqT X.K H1 q xs ∧ R (Itv X.K q xs.length) H1
    | _ => False) I h) fun us s1 ⟨vs, H1, I1, r1, q1⟩ => ?_) hs rfl))
  match vs, r1, q1 with
  | [x], r1, q1 =>
    obtain ⟨q, xs, rfl, hq, fin⟩ := q1
    obtain ⟨u, rfl, ru⟩ := r1.one
    cases ru
    obtain ⟨its, rv, pl, hz⟩ := I1.tuple hq
    have hl := rv.length
    refine call_rvs pl (by rw [List.size_toArray]; omega) fun tk => ?_
    have I2 : Inv X pins σ H1 { s1 with heap := s1.heap.push (rvsObj q ((its.toArray.size : Int) - 1)), toks := tk } := I1.kept (t' := tk) fun b u e => Heap.get?_push_of_some _ e
    have hit : IsRvs (s1.heap.push (rvsObj q ((its.toArray.size : Int) - 1))) s1.heap.objs.size q ((its.toArray.size : Int) - 1) := Heap.get?_push_size _ rfl
    refine rvs_self hit ⟨s1.heap.objs.size, [s1.heap.objs.size], _, _, H1, rfl, I2, turn_rvs q _ xs.length, ⟨Nat.zero_le _, ?_⟩, fun b hb => ?_, fin⟩
    · have e : ((its.toArray.size : Int) - 1) = (xs.length : Int) - 1 - ((0 : Nat) : Int) := by rw [List.size_toArray, ← hl]; simp
      exact (congrArg (fun z => IsRvs (s1.heap.push (rvsObj q ((its.toArray.size : Int) - 1))) s1.heap.objs.size q z) e).mp hit
    · have e : b = s1.heap.objs.size := by simpa using hb
      subst e
      exact I1.fpOk (Nat.le_refl _) I1.fresh
  | [], r1, q1 => exact False.elim q1
  | _ :: _ :: _, r1, q1 => exact False.elim q1
theorem itOk_rvs {B : Hp} {a : Addr} {vs : List V} {ds : List PyData} (h : SqT K B a vs) (t : IsDs K B ds vs) : ItOk K B (Itv K a vs.length) ds.reverse where
  go := fun i H hi s => by
    have hl := isDs_length t
    exact ⟨by rw [List.length_reverse] at hi; omega, vs, s.seqT h, rfl⟩
  yl := fun i H x H' hi s y => by
    obtain ⟨rfl, y⟩ := y
    have hl := isDs_length t
    rw [List.length_reverse] at hi
    obtain ⟨d, e, hd⟩ := isDs_get' t (y vs (s.seqT h))
    exact ⟨Same.refl _, d, by rw [List.getElem?_reverse hi, ← hl]; exact e, fun B2 s2 _ => IsD.same s2 _ _ hd⟩
  stop := fun H s => by
    show vs.length ≤ _
    rw [List.length_reverse, isDs_length t]; exact Nat.le_refl _
theorem di_rev (hc : X.calm = true) (hg : Gl X "reversed") (hm : X.mg "reversed" = none) (ha : DE X K Ew a fa) (hK : X.K = K := by rfl) (hs : starEach [a] X.env = [(false, eval a X.env)] := by rfl) : DI X K Ew tg (.Call (.Name "reversed" p) [a] [] pos) (itRev fa) :=
  (pi_rvs hg hm ha hs).imp fun σ H R q => tI_head (g := fun x _ => revI x.1 x.2) q fun B φ Γ k d v H1 r s av q => by
    replace q : RunI K Ew B H Γ σ R (revI k d) := q
    cases d <;> try (exact False.elim q)
    rename_i ds
    obtain ⟨B1, ψ, s1, r1, hd⟩ := r.frzK av
    obtain ⟨a, vs, rfl, h1, h2⟩ := of_isD_tup hd
    rw [hK]
    exact ⟨a, vs, rfl, r1.bs.seqT h1, q _ H1 B1 ψ s s1 r1 (itOk_rvs h1 h2)⟩
end
end L2
set_option Elab.async false
set_option linter.all false
set_option maxRecDepth 100000
namespace L2
open PySem PySem.Spec PyProof.Rows Y
end L2
set_option Elab.async false
set_option linter.all false
set_option maxRecDepth 100000
/-! ### dicts by data -/
namespace L2
open PySem PySem.Spec PyProof.Rows Y
section
variable {X : Cx} {pins : List (Addr × Obj)} {σ : St} {H : Hp} {s : Shared}
mutual
theorem IsD.kat (I : Inv X pins σ H s) : ∀ (n : Nat) (d : PyData) (v : V) (u : Value), nest n d = true → IsD X.K H d v → RelV v u → KAt s.heap d u
  | n, .int i, v, u, _, h, r => by
    have := of_isD_int h
    subst this
    obtain ⟨t, rfl⟩ := r
    simp only [KAt]; exact ⟨t, rfl⟩
  | n, .none, v, u, _, h, r => by
    have := of_isD_non h
    subst this
    cases r
    simp only [KAt]
  | n + 1, .tuple ds, v, u, hn, h, r => by
    rw [Y.nest] at hn
    obtain ⟨a, vs, rfl, h1, h2⟩ := of_isD_tup h
    cases r
    obtain ⟨its, rv, ⟨o, e, hc, m, hd⟩, _⟩ := I.tuple h1
    simp only [KAt]
    exact ⟨a, o, its.toArray, m, rfl, e, hc, hd, by simpa using IsDs.kat I n ds vs its hn h2 rv⟩
  | 0, .tuple _, _, _, hn, _, _ => by simp [Y.nest] at hn
  | n, .bool _, _, _, hn, _, _ => by cases n <;> simp [Y.nest] at hn
  | n, .str _, _, _, hn, _, _ => by cases n <;> simp [Y.nest] at hn
  | n, .list _, _, _, hn, _, _ => by cases n <;> simp [Y.nest] at hn
  | n, .dict _, _, _, hn, _, _ => by cases n <;> simp [Y.nest] at hn
theorem IsDs.kat (I : Inv X pins σ H s) : ∀ (n : Nat) (ds : List PyData) (vs : List V) (us : List Value), nests n ds = true → IsDs X.K H ds vs → Vals vs us → KsAt s.heap ds us
  | n, [], vs, us, _, h, r => by
    simp only [IsDs] at h; subst h; cases r; simp only [KsAt]
  | n, d :: ds, vs, us, hn, h, r => by
    rw [nests, Bool.and_eq_true] at hn
    simp only [IsDs] at h
    obtain ⟨v, w, rfl, h1, h2⟩ := h
    cases r with
    | cons r1 r2 =>
      simp only [KsAt]
      exact ⟨_, _, rfl, IsD.kat I n d v _ hn.1 h1 r1, IsDs.kat I n ds w _ hn.2 h2 r2⟩
end
end
theorem keyT_tup {k : PyData} (h : keyT k = true) : ∃ ds, k = .tuple ds ∧ nests 7 ds = true := by
  cases k <;> first | exact ⟨_, rfl, h⟩ | exact absurd h (by simp [keyT])
mutual
theorem nest_nol : ∀ (n : Nat) (d : PyData), nest n d = true → nol d = true
  | _, .int _, _ => rfl
  | _, .none, _ => rfl
  | n + 1, .tuple ds, x => by rw [Y.nest] at x; rw [nol]; exact nests_nol n ds x
  | 0, .tuple _, x => by simp [Y.nest] at x
  | n, .bool _, x => by cases n <;> simp [Y.nest] at x
  | n, .str _, x => by cases n <;> simp [Y.nest] at x
  | n, .list _, x => by cases n <;> simp [Y.nest] at x
  | n, .dict _, x => by cases n <;> simp [Y.nest] at x
theorem nests_nol : ∀ (n : Nat) (ds : List PyData), nests n ds = true → nols ds = true
  | _, [], _ => rfl
  | n, d :: ds, x => by
    rw [nests, Bool.and_eq_true] at x
    rw [nols, nest_nol n d x.1, nests_nol n ds x.2]; rfl
end
theorem keyT_nol {k : PyData} (h : keyT k = true) : nol k = true := by
  obtain ⟨ds, rfl, h⟩ := keyT_tup h
  rw [nol]; exact nests_nol 7 ds h
theorem nk_eqv (x y : NK) : PyData.eqv x.d y.d = decide (x = y) := by
  rw [Bool.eq_iff_iff, decide_eq_true_eq]
  refine ⟨fun z => NK.inj (nest_eqv 8 _ _ x.n y.n z), fun z => ?_⟩
  rw [z]; exact SeqAt.eqv_refl _ (nest_lay 8 _ y.n)
def Rk (q : PyData × V × V) (x : NK × Addr × Value) : Prop := q.1 = x.1.d ∧ q.2.1 = .ref x.2.1 ∧ RelV q.2.2 x.2.2
theorem rk_keys : ∀ {ks : List (PyData × V × V)} {xs : List (NK × Addr × Value)}, Paired Rk ks xs → ks.map (·.1) = xs.map (·.1.d)
  | _, _, .nil => rfl
  | _, _, .cons r t => by rw [List.map_cons, List.map_cons, r.1, rk_keys t]
theorem Paired.len {α β : Type} {F : α → β → Prop} : ∀ {l : List α} {m : List β}, Paired F l m → l.length = m.length
  | _, _, .nil => rfl
  | _, _, .cons _ t => by rw [List.length_cons, List.length_cons, Paired.len t]
theorem rk_nodup {ks : List (PyData × V × V)} {xs : List (NK × Addr × Value)} (p : Paired Rk ks xs) : (ks.map (·.1)).Nodup ↔ (xs.map (·.1)).Nodup := by
  rw [rk_keys p]
  have e : xs.map (·.1.d) = (xs.map (·.1)).map NK.d := by rw [List.map_map]; rfl
  rw [e]
  exact ⟨fun h => List.Pairwise.of_map _ (fun a b hab e => hab (by rw [e])) h, fun h => List.Pairwise.map _ (fun a b hab e => hab (NK.inj e)) h⟩
section
variable {X : Cx} {pins : List (Addr × Obj)} {σ : St} {H : Hp} {s : Shared}
theorem dct_xs (I : Inv X pins σ H s) : ∀ {kvs : List (PyData × PyData)} {ks : List (PyData × V × V)} {es : List DictEntry}, IsDk X.K H kvs ks → (∀ k ∈ ks, keyT k.1 = true) →
    Paired (fun (k : PyData × V × V) (e : DictEntry) => e.hash = hashK k.1 ∧ RelV k.2.1 e.key ∧ RelV k.2.2 e.val) ks es →
    ∃ xs, Paired Rk ks xs ∧ es = xs.map (entryOfKey (nestKind X.prog X.w)) ∧ ∀ x ∈ xs, KAt s.heap x.1.d (.ref x.2.1)
  | [], ks, es, t, _, p => by
    simp only [IsDk] at t; subst t; cases p
    exact ⟨[], .nil, rfl, fun x hx => by cases hx⟩
  | (k, d) :: r, ks, es, t, hk, p => by
    simp only [IsDk] at t
    obtain ⟨kv, v, q, rfl, h1, h2, h3⟩ := t
    cases p with
    | @cons _ e _ es' hp pt =>
      obtain ⟨xs, p1, e1, k1⟩ := dct_xs I h3 (fun x hx => hk x (List.mem_cons_of_mem _ hx)) pt
      obtain ⟨ds, rfl, hn⟩ := keyT_tup (hk _ List.mem_cons_self)
      obtain ⟨b, vs, rfl, g1, g2⟩ := of_isD_tup h1
      obtain ⟨eh, ek, ev⟩ := e
      obtain ⟨q1, q2, q3⟩ := hp
      cases (show ek = Value.ref b from q2)
      have q1' : eh = hashK (.tuple ds) := q1
      subst q1'
      refine ⟨(⟨ds, hn⟩, b, ev) :: xs, .cons ⟨rfl, rfl, q3⟩ p1, by rw [e1]; rfl, fun x hx => ?_⟩
      rcases List.mem_cons.mp hx with rfl | hx
      · exact IsD.kat I 8 (.tuple ds) (.ref b) (.ref b) (by rw [Y.nest]; exact hn) h1 rfl
      · exact k1 x hx
theorem dct_of (I : Inv X pins σ H s) {a : Addr} {kvs : List (PyData × PyData)} {ks : List (PyData × V × V)} (e : Rd H a (.dct a ks)) (t : IsDk X.K H kvs ks) :
    ∃ xs, s.heap.DictOfH (nestKind X.prog X.w) a xs ∧ Paired Rk ks xs ∧ (a == sysModules) = false ∧ ks.length ≤ sizeLine ∧ ∀ x ∈ xs, KAt s.heap x.1.d (.ref x.2.1) := by
  obtain ⟨⟨hl, hs, hk, hn, o, es, ep, ho, hc, hd, p⟩, _⟩ := (show ObjOk X.prog X.w H s.heap a (.dct a ks) from e.ok I.hok)
  obtain ⟨xs, p1, e1, k1⟩ := dct_xs I t hk p
  exact ⟨xs, ⟨o, es, ep, ho, hc, hd, e1, k1, (rk_nodup p1).mp hn⟩, p1, hs, hl, k1⟩
theorem Inv.big' (I : Inv X pins σ H s) : sysModules < s.heap.objs.size := by
  have h : mainGlobals < s.heap.objs.size := (I.mod.glob.keeps I.bk).lt
  exact Nat.lt_trans (by decide) h
end
theorem dct_new {P : Program} {w : World} {h' : Heap} {a : Addr} : ∀ {ks : List (PyData × V × V)} {xs : List (NK × Addr × Value)}, ks.length ≤ sizeLine → (a == sysModules) = false → Paired Rk ks xs → h'.DictOfH (nestKind P w) a xs → dctPhi a ks h' := by
  intro ks xs hl hs p dd
  obtain ⟨o, es, ep, ho, hc, hd, he, his, hn⟩ := dd
  have key : ∀ {ks : List (PyData × V × V)} {xs : List (NK × Addr × Value)}, Paired Rk ks xs → (∀ k ∈ ks, keyT k.1 = true) ∧ Paired (fun (k : PyData × V × V) (e : DictEntry) => e.hash = hashK k.1 ∧ RelV k.2.1 e.key ∧ RelV k.2.2 e.val) ks (xs.map (entryOfKey (nestKind P w))) := by
    intro ks xs p
    induction p with
    | nil => exact ⟨(fun k hk => by cases hk), .nil⟩
    | @cons q x qs xs r t ih =>
      refine ⟨fun k hk => ?_, ?_⟩
      · rcases List.mem_cons.mp hk with rfl | hk
        · rw [r.1]; exact x.1.2
        · exact ih.1 k hk
      · exact .cons ⟨by rw [r.1]; rfl, by rw [r.2.1]; rfl, r.2.2⟩ ih.2
  obtain ⟨k1, k2⟩ := key p
  exact ⟨hl, hs, k1, (rk_nodup p).mpr hn, o, es, ep, ho, hc, hd, by rw [he]; exact k2⟩
theorem dct_ok {P : Program} {w : World} {H : Hp} {h' : Heap} {a : Addr} {ks : List (PyData × V × V)} (h : dctPhi a ks h') : ObjOk P w H h' a (.dct a ks) := by
  refine ⟨h, ?_, fun h1 h2 q k => ?_⟩
  · obtain ⟨_, _, _, _, o, _, _, ho, _⟩ := h; exact ⟨o, ho⟩
  · obtain ⟨a1, a2, a3, a4, o, es, ep, ho, r⟩ := q
    exact ⟨a1, a2, a3, a4, o, es, ep, k o ho, r⟩
/-! #### a key more -/
def putV (ks : List (PyData × V × V)) (k : PyData) (kv v : V) : List (PyData × V × V) := if (ks.any fun p => PyData.eqv p.1 k) = true then ks.map fun p => if PyData.eqv p.1 k = true then (p.1, p.2.1, v) else p else ks ++ [(k, kv, v)]
def mergV (ks ms : List (PyData × V × V)) : List (PyData × V × V) := ms.foldl (fun acc p => putV acc p.1 p.2.1 p.2.2) ks
theorem atKey_has (k : NK) : ∀ {ks : List (PyData × V × V)} {xs : List (NK × Addr × Value)}, Paired Rk ks xs → (atKey xs k).isSome = ks.any fun q => PyData.eqv q.1 k.d
  | _, _, .nil => rfl
  | _, _, .cons (a := q) (b := x) r t => by
    have ih := atKey_has k t
    rw [List.any_cons, r.1, nk_eqv, ← ih]
    unfold atKey
    rw [List.find?_cons]
    cases hd : decide (x.1 = k) <;> simp
theorem paired_map {f : PyData × V × V → PyData × V × V} {g : NK × Addr × Value → NK × Addr × Value} (h : ∀ q x, Rk q x → Rk (f q) (g x)) : ∀ {ks : List (PyData × V × V)} {xs : List (NK × Addr × Value)}, Paired Rk ks xs → Paired Rk (ks.map f) (xs.map g)
  | _, _, .nil => .nil
  | _, _, .cons r t => .cons (h _ _ r) (paired_map h t)
theorem paired_snoc {q : PyData × V × V} {x : NK × Addr × Value} (h : Rk q x) : ∀ {ks : List (PyData × V × V)} {xs : List (NK × Addr × Value)}, Paired Rk ks xs → Paired Rk (ks ++ [q]) (xs ++ [x])
  | _, _, .nil => .cons h .nil
  | _, _, .cons r t => .cons r (paired_snoc h t)
theorem paired_put {ks : List (PyData × V × V)} {xs : List (NK × Addr × Value)} (p : Paired Rk ks xs) (k : NK) (a : Addr) {v : V} {u : Value} (rv : RelV v u) : Paired Rk (putV ks k.d (.ref a) v) (storedH xs k a u) := by
  unfold putV storedH
  rw [atKey_has k p]
  split
  · refine paired_map (fun q x r => ?_) p
    unfold putAt
    rw [r.1, nk_eqv]
    by_cases hx : x.1 = k
    · rw [if_pos (decide_eq_true hx), if_pos hx]; exact ⟨rfl, r.2.1, rv⟩
    · rw [if_neg (by rw [decide_eq_false hx]; exact Bool.false_ne_true), if_neg hx]; exact r
  · exact paired_snoc ⟨rfl, rfl, rv⟩ p
theorem paired_merg : ∀ {ms : List (PyData × V × V)} {ys : List (NK × Addr × Value)}, Paired Rk ms ys → ∀ {ks : List (PyData × V × V)} {xs : List (NK × Addr × Value)}, Paired Rk ks xs → Paired Rk (mergV ks ms) (mergedH xs ys)
  | _, _, .nil, _, _, p => p
  | _, _, .cons (a := q) (b := y) r t, ks, xs, p => by
    have h1 := paired_put p y.1 y.2.1 r.2.2
    rw [← r.1, ← r.2.1] at h1
    exact paired_merg t h1
theorem putV_len (ks : List (PyData × V × V)) (k : PyData) (kv v : V) : (putV ks k kv v).length ≤ ks.length + 1 := by
  unfold putV; split
  · rw [List.length_map]; omega
  · rw [List.length_append, List.length_singleton]; exact Nat.le_refl _
theorem mergV_len : ∀ (ms ks : List (PyData × V × V)), (mergV ks ms).length ≤ ks.length + ms.length
  | [], ks => Nat.le_refl _
  | m :: ms, ks => by
    have h1 := mergV_len ms (putV ks m.1 m.2.1 m.2.2)
    have h2 := putV_len ks m.1 m.2.1 m.2.2
    show (mergV (putV ks m.1 m.2.1 m.2.2) ms).length ≤ _
    rw [List.length_cons]; omega
section
variable {K : PySem.W.Frag} {H : Hp}
theorem isDk_keys : ∀ {kvs : List (PyData × PyData)} {ks : List (PyData × V × V)}, IsDk K H kvs ks → ks.map (·.1) = kvs.map (·.1)
  | [], ks, t => by simp only [IsDk] at t; subst t; rfl
  | (k, d) :: r, ks, t => by
    simp only [IsDk] at t
    obtain ⟨kv, v, q, rfl, _, _, h3⟩ := t
    rw [List.map_cons, List.map_cons, isDk_keys h3]
theorem isDk_len {kvs : List (PyData × PyData)} {ks : List (PyData × V × V)} (t : IsDk K H kvs ks) : ks.length = kvs.length := by
  have := congrArg List.length (isDk_keys t); simpa using this
theorem isDk_has {kvs : List (PyData × PyData)} {ks : List (PyData × V × V)} (t : IsDk K H kvs ks) (k : PyData) : (ks.any fun q => PyData.eqv q.1 k) = hasK kvs k := by
  have h1 : ∀ {α : Type} (l : List (PyData × α)), (l.any fun q => PyData.eqv q.1 k) = (l.map (·.1)).any fun x => PyData.eqv x k := fun l => by rw [List.any_map]; rfl
  unfold hasK
  rw [h1, h1, isDk_keys t]
theorem isDk_map {k d : PyData} {v : V} (hv : IsD K H d v) : ∀ {kvs : List (PyData × PyData)} {ks : List (PyData × V × V)}, IsDk K H kvs ks →
    IsDk K H (kvs.map fun p => if PyData.eqv p.1 k = true then (p.1, d) else p) (ks.map fun p => if PyData.eqv p.1 k = true then (p.1, p.2.1, v) else p)
  | [], ks, t => by simp only [IsDk] at t; subst t; simp only [List.map_nil, IsDk]
  | (k', d') :: r, ks, t => by
    simp only [IsDk] at t
    obtain ⟨kv, v', q, rfl, h1, h2, h3⟩ := t
    rw [List.map_cons, List.map_cons]
    by_cases he : PyData.eqv k' k = true
    · simp only [if_pos he, IsDk]; exact ⟨kv, v, _, rfl, h1, hv, isDk_map hv h3⟩
    · simp only [if_neg he, IsDk]; exact ⟨kv, v', _, rfl, h1, h2, isDk_map hv h3⟩
theorem isDk_snoc {k d : PyData} {kv v : V} (hk : IsD K H k kv) (hv : IsD K H d v) : ∀ {kvs : List (PyData × PyData)} {ks : List (PyData × V × V)}, IsDk K H kvs ks → IsDk K H (kvs ++ [(k, d)]) (ks ++ [(k, kv, v)])
  | [], ks, t => by simp only [IsDk] at t; subst t; simp only [List.nil_append, IsDk]; exact ⟨kv, v, [], rfl, hk, hv, rfl⟩
  | (k', d') :: r, ks, t => by
    simp only [IsDk] at t
    obtain ⟨kv', v', q, rfl, h1, h2, h3⟩ := t
    rw [List.cons_append, List.cons_append]
    simp only [IsDk]
    exact ⟨kv', v', _, rfl, h1, h2, isDk_snoc hk hv h3⟩
theorem isDk_put {kvs : List (PyData × PyData)} {ks : List (PyData × V × V)} {k d : PyData} {kv v : V} (t : IsDk K H kvs ks) (hk : IsD K H k kv) (hv : IsD K H d v) : IsDk K H (putK kvs k d) (putV ks k kv v) := by
  unfold putK putV
  rw [isDk_has t]
  split
  · exact isDk_map hv t
  · exact isDk_snoc hk hv t
theorem isDk_merg : ∀ {more : List (PyData × PyData)} {ms : List (PyData × V × V)}, IsDk K H more ms → ∀ {kvs : List (PyData × PyData)} {ks : List (PyData × V × V)}, IsDk K H kvs ks → IsDk K H (mergK kvs more) (mergV ks ms)
  | [], ms, t, kvs, ks, h => by simp only [IsDk] at t; subst t; exact h
  | (k, d) :: r, ms, t, kvs, ks, h => by
    simp only [IsDk] at t
    obtain ⟨kv, v, q, rfl, h1, h2, h3⟩ := t
    exact isDk_merg h3 (isDk_put h h1 h2)
theorem isTk_of : ∀ {kvs : List (PyData × PyData)} {ks : List (PyData × V × V)}, IsDk K H kvs ks → (∀ p ∈ kvs, nol p.1 = true) → nolv kvs = true → IsTk K H kvs ks []
  | [], ks, t, _, _ => by simp only [IsDk] at t; subst t; simp only [IsTk]; exact ⟨trivial, trivial⟩
  | (k, d) :: r, ks, t, hk, hn => by
    simp only [IsDk] at t
    obtain ⟨kv, v, q, rfl, h1, h2, h3⟩ := t
    have hn' : nol d = true ∧ nolv r = true := by
      unfold nolv at hn; rw [List.map_cons, nols, Bool.and_eq_true] at hn; exact hn
    simp only [IsTk]
    exact ⟨kv, v, q, [], [], rfl, rfl, IsD.toT _ _ (hk _ List.mem_cons_self) h1, IsD.toT _ _ hn'.1 h2, isTk_of h3 (fun p hp => hk p (List.mem_cons_of_mem _ hp)) hn'.2⟩
theorem isTk_nil : ∀ {kvs : List (PyData × PyData)} {ks : List (PyData × V × V)} {as : List Addr}, IsTk K H kvs ks as → nolv kvs = true → as = []
  | [], ks, as, t, _ => by simp only [IsTk] at t; exact t.2
  | (k, d) :: r, ks, as, t, hn => by
    simp only [IsTk] at t
    obtain ⟨kv, v, q, a1, a2, rfl, rfl, h1, h2, h3⟩ := t
    have hn' : nol d = true ∧ nolv r = true := by
      unfold nolv at hn; rw [List.map_cons, nols, Bool.and_eq_true] at hn; exact hn
    rw [IsT.nil _ _ _ hn'.1 h2, isTk_nil h3 hn'.2]; rfl
end
section
variable {K : PySem.W.Frag} {H : Hp}
mutual
theorem IsT.nol_of : ∀ (d : PyData) (v : V) (as : List Addr), IsT K H d v as → as = [] → nol d = true
  | .none, _, _, _, _ => rfl
  | .bool _, _, _, _, _ => rfl
  | .int _, _, _, _, _ => rfl
  | .str _, _, _, _, _ => rfl
  | .list xs, v, as, h, e => by obtain ⟨a, vs, bs, _, _, _, z⟩ := of_isT_lst h; rw [e] at z; cases z
  | .dict xs, v, as, h, e => by obtain ⟨a, vs, bs, _, _, _, z⟩ := of_isT_dct h; rw [e] at z; cases z
  | .tuple xs, v, as, h, e => by
    obtain ⟨a, vs, _, _, h2⟩ := of_isT_tup h
    rw [nol]; exact IsTs.nol_of xs vs as h2 e
theorem IsTs.nol_of : ∀ (ds : List PyData) (vs : List V) (as : List Addr), IsTs K H ds vs as → as = [] → nols ds = true
  | [], _, _, _, _ => rfl
  | d :: ds, vs, as, h, e => by
    simp only [IsTs] at h
    obtain ⟨v, r, a1, a2, rfl, rfl, h1, h2⟩ := h
    have := List.append_eq_nil_iff.mp e
    rw [nols, IsT.nol_of d v a1 h1 this.1, IsTs.nol_of ds r a2 h2 this.2]; rfl
end
theorem key_nol : ∀ {kvs : List (PyData × PyData)} {ks : List (PyData × V × V)} {as : List Addr}, IsTk K H kvs ks as → ∀ p ∈ kvs, nol p.1 = true
  | [], ks, as, t, p, hp => by cases hp
  | (k, d) :: r, ks, as, t, p, hp => by
    simp only [IsTk] at t
    obtain ⟨kv, v, q, a1, a2, rfl, rfl, h1, h2, h3⟩ := t
    rcases List.mem_cons.mp hp with rfl | hp
    · exact IsT.nol_of _ _ _ h1 rfl
    · exact key_nol h3 p hp
end
theorem nolv_put {kvs : List (PyData × PyData)} {k d : PyData} (h : nolv kvs = true) (hd : nol d = true) : nolv (putK kvs k d) = true := by
  unfold nolv at h ⊢
  rw [nols_iff] at h ⊢
  intro x hx
  unfold putK at hx
  split at hx
  · rw [List.map_map] at hx
    obtain ⟨p, hp, rfl⟩ := List.mem_map.mp hx
    simp only [Function.comp]
    split
    · exact hd
    · exact h _ (List.mem_map_of_mem hp)
  · rw [List.map_append] at hx
    rcases List.mem_append.mp hx with hx | hx
    · exact h x hx
    · have : x = d := by simpa using hx
      rw [this]; exact hd
theorem nolv_merg : ∀ {more kvs : List (PyData × PyData)}, nolv more = true → nolv kvs = true → nolv (mergK kvs more) = true
  | [], kvs, _, h => h
  | (k, d) :: r, kvs, hm, h => by
    have hn' : nol d = true ∧ nolv r = true := by
      unfold nolv at hm; rw [List.map_cons, nols, Bool.and_eq_true] at hm; exact hm
    exact nolv_merg (kvs := putK kvs k d) hn'.2 (nolv_put h hn'.1)
end L2
set_option Elab.async false
set_option linter.all false
set_option maxRecDepth 100000
namespace L2
open PySem PySem.Spec PyProof.Rows Y
section
variable {X : Cx} {K : PySem.W.Frag} {Ew : Str → Hp → Prop}
/-! #### k in d -/
theorem opd_inA (hu : X.A.units + 80 < cLine) : OpD X (compareOp .In) gInA := OpD.of fun pins s σ H x y z u v a b Q I e hx hy ru rv q => by
  cases y with
  | dict kvs =>
    simp only [gInA] at e
    split at e
    · rename_i hk
      cases e
      obtain ⟨ad, ks, rfl, hr, t⟩ := of_isD_dct hy
      cases (show b = Value.ref ad from rv)
      obtain ⟨xs, dd, p, hs, hl, _⟩ := dct_of I hr t
      obtain ⟨ds, rfl, hn⟩ := keyT_tup hk
      obtain ⟨bk, vs, rfl, g1, g2⟩ := of_isD_tup hx
      cases (show a = Value.ref bk from ru)
      obtain ⟨kk, hkk⟩ : ∃ kk : NK, kk.d = .tuple ds := ⟨⟨ds, hn⟩, rfl⟩
      have hkat : KAt s.heap kk.d (.ref bk) := by rw [hkk]; exact IsD.kat I 8 (.tuple ds) (.ref bk) (.ref bk) (by rw [Y.nest]; exact hn) hx rfl
      refine wpAny_in_heap (knd := nestKind X.prog X.w) (k := kk) (show X.A.units + 1 + 10 < cLine by omega) hkat hs dd ?_
      rw [atKey_has _ p, isDk_has t, hkk]
      exact ⟨.bl _, H, I.tok _, rfl, q _ H (Same.refl H) (Fresh.imm rfl isD_bl)⟩
    · cases e
  | _ =>
    obtain ⟨r, op, lift⟩ := opd_in (X := X) hu
    refine op pins s σ H u v a b Q I ru rv (lift x _ z u v H Q ?_ hx hy q)
    exact e
/-! #### dict(d) -/
theorem call_dictOf : CallR X (.type "dict") (fun us H Q => ∃ a kvs ks, us = [.ref a] ∧ Rd H a (.dct a ks) ∧ IsDk X.K H kvs ks ∧ kvs.isEmpty = false ∧ (kvs.map fun p => hashK p.1).Nodup ∧ ∀ l, H l = none → Q (.ref l) (upd H l (.dct l ks))) := by
  intro pins s σ H us vs Q I r h
  obtain ⟨a, kvs, ks, rfl, hr, t, h0, hh, q⟩ := h
  obtain ⟨u, rfl, rx⟩ := vals1 r
  cases (show u = Value.ref a from rx)
  obtain ⟨xs, dd, p, hs, hl, hk⟩ := dct_of I hr t
  have hpl := Paired.len p
  have hkl := isDk_len t
  have hx0 : xs ≠ [] := fun z => by
    rw [z] at hpl
    have : kvs.length = 0 := by rw [← hkl, hpl]; rfl
    rw [List.length_eq_zero_iff.mp this] at h0; cases h0
  refine copyH (knd := nestKind X.prog X.w) hs dd hx0 (by omega) (fun x hx => ?_) ?_ (fun x hx => ?_) fun h' dd' sb => ?_
  · have := hk x hx
    simp only [NK.d, KAt] at this
    obtain ⟨b, o, items, n, e, h1, h2, _⟩ := this
    cases e
    exact ⟨o, h1, h2⟩
  · have e1 : (xs.map fun x => (nestKind X.prog X.w).hash x.1) = (ks.map (·.1)).map hashK := by rw [rk_keys p, List.map_map]; rfl
    rw [e1, isDk_keys t, List.map_map]; exact hh
  · exact KAt.keep (fun b o items n hb _ => Heap.get?_push_of_some _ hb) _ _ (hk x hx)
  · refine ⟨.ref s.heap.objs.size, _, I.laid (a := s.heap.objs.size) (o := .dct s.heap.objs.size ks) (t' := s.toks) (fun b u hb => ?_) (Nat.le_refl _) (dct_ok (dct_new hl (beq_eq_false_iff_ne.mpr (Ne.symm (Nat.ne_of_lt I.big'))) p dd')), rfl, q _ I.fresh⟩
    exact (sb.2 b (Nat.ne_of_lt (Heap.lt_size hb))).trans (Heap.get?_push_of_some _ hb)
theorem dct_nol {kvs : List (PyData × PyData)} {ks : List (PyData × V × V)} {H : Hp} (t : IsDk K H kvs ks) (hk : ∀ k ∈ ks, keyT k.1 = true) : ∀ p ∈ kvs, nol p.1 = true := fun p hp => by
  have : p.1 ∈ ks.map (·.1) := by rw [isDk_keys t]; exact List.mem_map_of_mem hp
  obtain ⟨k, hk1, e⟩ := List.mem_map.mp this
  rw [← e]; exact keyT_nol (hk k hk1)
theorem calld_dict : CallD X (.type "dict") gDictOf := ⟨fun us H Q => (∃ a kvs ks, us = [.ref a] ∧ Rd H a (.dct a ks) ∧ IsDk X.K H kvs ks ∧ kvs.isEmpty = false ∧ (kvs.map fun p => hashK p.1).Nodup ∧ nolv kvs = true ∧ ((∀ k ∈ ks, keyT k.1 = true) → ∀ l, H l = none → Q (.ref l) (upd H l (.dct l ks)))),
  fun pins s σ H us vs Q I r h => by
    obtain ⟨a, kvs, ks, e, hr, t, h0, hh, hn, q⟩ := h
    obtain ⟨⟨_, _, hk, _⟩, _⟩ := (show ObjOk X.prog X.w H s.heap a (.dct a ks) from hr.ok I.hok)
    exact call_dictOf pins s σ H us vs Q I r ⟨a, kvs, ks, e, hr, t, h0, hh, q hk⟩,
  fun xs z us H Q e h q => by
    match xs, e, h with
    | [.dict kvs], e, h =>
      simp only [gDictOf] at e
      split at e
      · rename_i hc
        cases e
        obtain ⟨u, rfl, hu⟩ := isDs_one h
        obtain ⟨a, ks, rfl, hr, t⟩ := of_isD_dct hu
        refine ⟨a, kvs, ks, rfl, hr, t, hc.1, hc.2.2, hc.2.1, fun hk l hl => q _ _ (Same.upd hl) ⟨[l], isT_dct upd_same (isTk_of (IsDk.same (Same.upd hl) _ _ t) (dct_nol t hk) hc.2.1), List.nodup_cons.mpr ⟨by simp, List.nodup_nil⟩, fun b hb => by rw [List.mem_singleton.mp hb]; exact hl⟩⟩
      · cases e⟩
end
/-! #### d[k] = v -/
section
variable {X : Cx} {K : PySem.W.Frag} {Ew : Str → Hp → Prop} {pos pos2 p p2 : Pos} {a e o j : Expr} {ta : TE} {fa fe fj : EF} {apos cpos : Pos}
def rSetD (K : PySem.W.Frag) : V → V → V → Hp → (Hp → Prop) → Prop := fun o i v H Q => ∃ a ks kvs k b, o = .ref a ∧ i = .ref b ∧ H a = some (.dct a ks) ∧ IsDk K H kvs ks ∧ IsD K H k (.ref b) ∧ keyT k = true ∧ ks.length < sizeLine ∧ Q (upd H a (.dct a (putV ks k (.ref b) v)))
theorem set_dct (hu : X.A.units + 80 < cLine) : PSet X (rSetD X.K) := by
  intro pins s σ H o i v ov iv u Q I ro ri rv h
  obtain ⟨a, ks, kvs, k, b, rfl, rfl, hH, t, hk, hkt, hl, q⟩ := h
  cases (show ov = Value.ref a from ro)
  cases (show iv = Value.ref b from ri)
  obtain ⟨xs, dd, p, hs, hl0, _⟩ := dct_of I (.inl hH) t
  obtain ⟨ds, rfl, hn⟩ := keyT_tup hkt
  have hpl := Paired.len p
  obtain ⟨kk, hkk⟩ : ∃ kk : NK, kk.d = .tuple ds := ⟨⟨ds, hn⟩, rfl⟩
  have hkat : KAt s.heap kk.d (.ref b) := by rw [hkk]; exact IsD.kat I 8 (.tuple ds) (.ref b) (.ref b) (by rw [Y.nest]; exact hn) hk rfl
  refine wpAny_setItem_heap (knd := nestKind X.prog X.w) (k := kk) (hsz := by omega) (show X.A.units + 1 + 10 < cLine by omega) hkat dd fun h' dd' sb => ?_
  have hp := paired_put p kk b rv
  rw [hkk] at hp
  have hlen := putV_len ks (.tuple ds) (.ref b) v
  refine ⟨_, I.write (x := a) (e := a) (by rw [hH]; trivial) (.inl rfl) (fun c w hc hw => (sb.2 c hc).trans hw) ?_ (dct_ok (dct_new (by omega) hs hp dd')), q⟩
  obtain ⟨ob, _, _, ho, _⟩ := dd'
  exact ⟨ob, ho⟩
def sPutD (i : Nat) (j e : EF) : SF := fun Γ => mbind (e Γ) fun x => match Γ[i]? with
  | some (some (true, .dict kvs)) => mbind (j Γ) fun y => if keyT y.2 = true ∧ nol x.2 = true ∧ nolv kvs = true ∧ kvs.length < sizeLine then mret (.nx (Γ.set i (some (true, .dict (putK kvs y.2 x.2))))) else none
  | _ => none
theorem ds_putD (hu : X.A.units + 80 < cLine) {i : Nat} (ho : PE X o (tVar i)) (hj : DE X K Ew j fj) (he : DE X K Ew e fe) (hK : X.K = K := by rfl)
    (ha : ∀ v, assign (.Subscript o j p) X.env v = (do
      let ov ← holding [v] (eval o X.env)
      let iv ← holding [v, ov] (eval j X.env)
      standAt p
      holding [v, ov, iv] (setItem ov iv v)
      release [v, ov, iv] []) := by intro _; rfl)
    (hs : swapsWithSole [.Subscript o j p] e pos.line X.env = pure false := by rfl) (hw : swappedStores [.Subscript o j p] e X.env = pure none := by rfl)
    (h1 : (assignEach [.Subscript o j p] X.env).map (·.2) = [assign (.Subscript o j p) X.env] := by rfl) : DS X K Ew (.Assign [.Subscript o j p] e pos) (sPutD i fj fe) :=
  (ps_asg he (pg_sub ho hj (set_dct hu) ha) hs hw h1).imp fun D σ H q =>
    tDS_head (g := fun x Γ => match Γ[i]? with
      | some (some (true, .dict kvs)) => mbind (fj Γ) fun y => if keyT y.2 = true ∧ nol x.2 = true ∧ nolv kvs = true ∧ kvs.length < sizeLine then mret (.nx (Γ.set i (some (true, .dict (putK kvs y.2 x.2))))) else none
      | _ => none) q fun B φ Γ k d y H1 r av q => by
      subst hK
      match hg : Γ[i]?, q with
      | some (some (true, .dict kvs)), q =>
        obtain ⟨v, hv, hT⟩ := r.own hg
        obtain ⟨l, ks, bs, rfl, hl, ht, hφ⟩ := of_isT_dct hT
        have hli : l ∈ φ i := by rw [hφ]; exact List.mem_cons_self
        refine ⟨.ref l, hv, B, φ, Γ, r, ?_⟩
        match hm : fj Γ, q with
        | some (.ok (k', d')), q =>
          refine .inl ⟨k', d', rfl, fun w H2 s2 hw => ?_⟩
          have r2 := r.same s2
          replace q : RunS X.K Ew B (if keyT d' = true ∧ nol d = true ∧ nolv kvs = true ∧ kvs.length < sizeLine then mret (.nx (Γ.set i (some (true, .dict (putK kvs d' d))))) else none) D := q
          by_cases hc : keyT d' = true ∧ nol d = true ∧ nolv kvs = true ∧ kvs.length < sizeLine
          · rw [if_pos hc] at q
            obtain ⟨c1, c2, c3, c4⟩ := hc
            have hbs : bs = [] := isTk_nil ht c3
            subst hbs
            have hdk := IsDk.same s2 _ _ (IsTk.toD _ _ _ ht)
            have hkd := hw.toD r2.bs
            have hdd := IsD.same s2 _ _ (av.toD r.bs)
            obtain ⟨ds, hds, _⟩ := keyT_tup c1
            obtain ⟨b, vs, rfl, _, _⟩ := of_isD_tup (by rw [← hds]; exact hkd)
            refine ⟨l, ks, kvs, d', b, rfl, rfl, s2 _ _ hl, hdk, hkd, c1, by rw [isDk_len hdk]; exact c4, ?_⟩
            have hkn : ∀ p ∈ kvs, nol p.1 = true := fun p hp => by
              have := ht
              exact key_nol ht p hp
            have hput := isDk_put hdk hkd hdd
            have hn2 : ∀ p ∈ putK kvs d' d, nol p.1 = true := fun p hp => by
              unfold putK at hp
              split at hp
              · obtain ⟨q', hq', rfl⟩ := List.mem_map.mp hp
                split
                · exact hkn q' hq'
                · exact hkn q' hq'
              · rcases List.mem_append.mp hp with hp | hp
                · exact hkn p hp
                · rw [List.mem_singleton.mp hp]; exact keyT_nol c1
            have hnew := IsTk.upd (o' := .dct l (putV ks d' (.ref b) y)) (s2 _ _ hl) trivial _ _ _ (show l ∉ [] by simp) (isTk_of hput hn2 (nolv_put c3 c2))
            exact q B _ σ _ (Same.refl B) (r2.chg (d := .dict (putK kvs d' d)) (as := [l]) hli (s2 _ _ hl) trivial hv (isT_dct upd_same hnew) (List.nodup_cons.mpr ⟨by simp, List.nodup_nil⟩) (fun a ha => .inl (by rw [List.mem_singleton.mp ha]; exact hli)) trivial)
          · rw [if_neg hc] at q
            exact False.elim q
        | some (.ex c), q => exact .inr ⟨c, rfl, q⟩
        | none, q => exact False.elim q
      | some (some (true, .none)), q => exact False.elim q
      | some (some (true, .bool _)), q => exact False.elim q
      | some (some (true, .int _)), q => exact False.elim q
      | some (some (true, .str _)), q => exact False.elim q
      | some (some (true, .tuple _)), q => exact False.elim q
      | some (some (true, .list _)), q => exact False.elim q
      | some (some (false, _)), q => exact False.elim q
      | some none, q => exact False.elim q
      | none, q => exact False.elim q
end
end L2
set_option Elab.async false
set_option linter.all false
set_option maxRecDepth 100000
namespace L2
open PySem PySem.Spec PyProof.Rows Y
section
variable {X : Cx} {K : PySem.W.Frag} {Ew : Str → Hp → Prop} {pos pos2 p p2 : Pos} {a e o j : Expr} {ta : TE} {fa fe fj : EF} {apos cpos : Pos}
theorem DS.or {st : Stmt} {f f1 f2 : SF} (h1 : DS X K Ew st f1) (h2 : DS X K Ew st f2) (hf : ∀ Γ, f Γ = f1 Γ ∨ f Γ = f2 Γ) : DS X K Ew st f := fun pins s σ H D I q => by
  obtain ⟨B, φ, Γ, r, q⟩ := q
  rcases hf Γ with z | z
  · exact h1 pins s σ H D I ⟨B, φ, Γ, r, by rw [← z]; exact q⟩
  · exact h2 pins s σ H D I ⟨B, φ, Γ, r, by rw [← z]; exact q⟩
theorem ds_putA (hu : X.A.units + 80 < cLine) {i : Nat} (ho : PE X o (tVar i)) (hj : DE X K Ew j fj) (he : DE X K Ew e fe) (hK : X.K = K := by rfl)
    (ha : ∀ v, assign (.Subscript o j p) X.env v = (do
      let ov ← holding [v] (eval o X.env)
      let iv ← holding [v, ov] (eval j X.env)
      standAt p
      holding [v, ov, iv] (setItem ov iv v)
      release [v, ov, iv] []) := by intro _; rfl)
    (hs : swapsWithSole [.Subscript o j p] e pos.line X.env = pure false := by rfl) (hw : swappedStores [.Subscript o j p] e X.env = pure none := by rfl)
    (h1 : (assignEach [.Subscript o j p] X.env).map (·.2) = [assign (.Subscript o j p) X.env] := by rfl) : DS X K Ew (.Assign [.Subscript o j p] e pos) (sPutA i fj fe) := by
  refine DS.or (ds_putD hu ho hj he hK ha hs hw h1) (ds_put ho hj he ha hs hw h1) fun Γ => ?_
  unfold sPutA sPutD
  match hg : Γ[i]? with
  | some (some (true, .dict kvs)) => exact .inl rfl
  | some (some (true, .none)) => exact .inr rfl
  | some (some (true, .bool _)) => exact .inr rfl
  | some (some (true, .int _)) => exact .inr rfl
  | some (some (true, .str _)) => exact .inr rfl
  | some (some (true, .tuple _)) => exact .inr rfl
  | some (some (true, .list _)) => exact .inr rfl
  | some (some (false, _)) => exact .inr rfl
  | some none => exact .inr rfl
  | none => exact .inr rfl
theorem put_nol {kvs : List (PyData × PyData)} {k d : PyData} (h : ∀ p ∈ kvs, nol p.1 = true) (hk : nol k = true) : ∀ p ∈ putK kvs k d, nol p.1 = true := fun p hp => by
  unfold putK at hp
  split at hp
  · obtain ⟨q', hq', rfl⟩ := List.mem_map.mp hp
    split
    · exact h q' hq'
    · exact h q' hq'
  · rcases List.mem_append.mp hp with hp | hp
    · exact h p hp
    · rw [List.mem_singleton.mp hp]; exact hk
theorem merg_nol : ∀ {more kvs : List (PyData × PyData)}, (∀ p ∈ more, nol p.1 = true) → (∀ p ∈ kvs, nol p.1 = true) → ∀ p ∈ mergK kvs more, nol p.1 = true
  | [], kvs, _, h => h
  | (k, d) :: r, kvs, hm, h => merg_nol (kvs := putK kvs k d) (fun p hp => hm p (List.mem_cons_of_mem _ hp)) (put_nol h (hm _ List.mem_cons_self))
/-! #### d.update(e) -/
def tyD (H : Hp) (x : V) : Prop := ∃ a ks, x = .ref a ∧ Rd H a (.dct a ks)
theorem tyD_is {pins : List (Addr × Obj)} {σ : St} {H : Hp} {s : Shared} {x : V} {v : Value} (I : Inv X pins σ H s) (r : RelV x v) (t : tyD H x) : s.TypeIs v "dict" ∧ ∀ b, v = .ref b → ∃ ob, s.heap.get? b = some ob ∧ ob.dict = none := by
  obtain ⟨a, ks, rfl, hr⟩ := t
  cases (show v = Value.ref a from r)
  obtain ⟨⟨_, _, _, _, o, es, ep, ho, hc, _⟩, _⟩ := (show ObjOk X.prog X.w H s.heap a (.dct a ks) from hr.ok I.hok)
  refine ⟨⟨o, ho, hc.1⟩, fun b e => ?_⟩
  cases e
  exact ⟨o, ho, hc.2.1⟩
def tDM (r : V → List V → Hp → VK → Prop) (to : TE) (t : TA) : TE := fun σ H Q => to σ H fun x H1 => tyD H1 x ∧ t σ H1 fun xs H2 => r x xs H2 Q
theorem pe_dm {es : List Expr} {to : TE} {t : TA} {name : Str} {id : String} {r : V → List V → Hp → VK → Prop} (slot : Slot "dict" name id) (hty : typeOf (.builtin id) = pure (.type "method_descriptor")) (hm : MtR X id r) (ho : PE X o to) (ha : PA X (e :: es) t)
    (hbase : attributeBase o name X.env (eval o X.env) = eval o X.env)
    (hfew : ((backTo cpos (starEach (e :: es) X.env)).all (fun x => !x.1) && (backToKw cpos (keywordEach [] X.env)).all (fun x => x.1.isSome)
      && decide ((e :: es).length + ([] : List Keyword).length + (if ([] : List Keyword).isEmpty then 0 else 1) < 30)) = true)
    (hline : (apos.endLine == cpos.line) = true) (hs : starEach (e :: es) X.env = (false, eval e X.env) :: starEach es X.env) (hplain : (backTo cpos (starEach es X.env)).any (·.1) = false) :
    PE X (.Call (.Attribute o name apos) (e :: es) [] cpos) (tDM r to t) := by
  intro pins s σ H Q I h
  refine wpAny_Call_method_late hbase hfew hline rfl (thn (ho pins s σ H _ I h) fun v s1 ⟨x, H1, I1, r1, ty, q1⟩ => ?_)
  obtain ⟨h1, h2⟩ := tyD_is I1 r1 ty
  refine ⟨"dict", id, PySem.F.plainAttrs_dict, slot, hty, h1, h2, ?_⟩
  have hA := ha cpos pins s1 σ H1 _ I1 q1
  rw [hs] at hA ⊢
  refine Calls.callWith_builtin (by show (false || (backTo cpos (starEach es X.env)).any (·.1)) = false; rw [hplain] <;> rfl) (Calls.evalArgs_plain ?_)
  exact thn hA fun us s2 ⟨vs, H2, I2, r2, q2⟩ => hm pins s2 σ H2 x vs v us Q I2 r1 r2 q2
def rUpd (K : PySem.W.Frag) : V → List V → Hp → VK → Prop := fun x vs H Q => ∃ a b kvs ks more ms, x = .ref a ∧ vs = [.ref b] ∧ a ≠ b ∧ H a = some (.dct a ks) ∧ IsDk K H kvs ks ∧ Rd H b (.dct b ms) ∧ IsDk K H more ms ∧ kvs.isEmpty = false ∧ kvs.length + more.length ≤ sizeLine ∧ Q .non (upd H a (.dct a (mergV ks ms)))
theorem mt_upd (hu : X.A.units + 80 < cLine) : MtM X "dict.update" (rUpd X.K) := by
  intro pins s σ H x vs v us Q I rx rv h
  obtain ⟨a, b, kvs, ks, more, ms, rfl, rfl, hab, hH, t, hr, t2, h0, hz, q⟩ := h
  cases (show v = Value.ref a from rx)
  obtain ⟨u, rfl, ru⟩ := rv.one
  cases (show u = Value.ref b from ru)
  obtain ⟨xs, dd, p, hs, hl, _⟩ := dct_of I (.inl hH) t
  obtain ⟨ys, dd2, p2, hs2, hl2, _⟩ := dct_of I hr t2
  have e1 := Paired.len p
  have e2 := Paired.len p2
  have e3 := isDk_len t
  have e4 := isDk_len t2
  have hx0 : xs ≠ [] := fun z => by
    rw [z] at e1
    have : kvs.length = 0 := by rw [← e3, e1]; rfl
    rw [List.length_eq_zero_iff.mp this] at h0; cases h0
  refine call_meetsIn PySem.F.slot_dict_update dd.typeIs PySem.F.entry_dict_update (PySem.F.args_dict_update_2 _ _) (updateH (knd := nestKind X.prog X.w) a b hab hs2) ⟨show X.A.units + 1 + 10 < cLine by omega, xs, ys, hx0, dd, dd2, by omega, fun h' dd' sb => ?_⟩
  have hlen := mergV_len ms ks
  refine ⟨.non, _, I.write (x := a) (e := a) (t' := s.toks) (by rw [hH]; trivial) (.inl rfl) (fun c w hc hw => (sb.2 c hc).trans hw) ?_ (dct_ok (dct_new (by omega) hs (paired_merg p2 p) dd')), rfl, q⟩
  obtain ⟨ob, _, _, ho, _⟩ := dd'
  exact ⟨ob, ho⟩
theorem ds_upd (hu : X.A.units + 80 < cLine) {i : Nat} (ho : PE X o (tVar i)) (he : DE X K Ew e fe) (hK : X.K = K := by rfl)
    (hbase : attributeBase o "update" X.env (eval o X.env) = eval o X.env := by rfl)
    (hfew : ((backTo cpos (starEach [e] X.env)).all (fun x => !x.1) && (backToKw cpos (keywordEach [] X.env)).all (fun x => x.1.isSome)
      && decide (([e] : List Expr).length + ([] : List Keyword).length + (if ([] : List Keyword).isEmpty then 0 else 1) < 30)) = true := by rfl)
    (hline : (apos.endLine == cpos.line) = true := by rfl) (hs : starEach [e] X.env = (false, eval e X.env) :: starEach [] X.env := by rfl) (hplain : (backTo cpos (starEach [] X.env)).any (·.1) = false := by rfl)
    (hsw : swapsWith (.Call (.Attribute o "update" apos) [e] [] cpos) none pos.line X.env = pure false := by rfl) :
    DS X K Ew (.Expr (.Call (.Attribute o "update" apos) [e] [] cpos) pos) (sUpdJ i fe) :=
  (ps_expr (pe_dm PySem.F.slot_dict_update PySem.F.type_dict_update (mt_upd hu) ho (pa_cons he pa_nil hs) hbase hfew hline hs hplain) hsw).imp fun D σ H q => by
    subst hK
    obtain ⟨B, φ, Γ, r, q⟩ := q
    unfold sUpdJ at q
    match hg : Γ[i]?, q with
    | some (some (true, .dict kvs)), q =>
      obtain ⟨v, hv, hT⟩ := r.own hg
      obtain ⟨l, ks, bs, rfl, hl, ht, hφ⟩ := of_isT_dct hT
      have hli : l ∈ φ i := by rw [hφ]; exact List.mem_cons_self
      refine ⟨.ref l, hv, ⟨l, ks, rfl, .inl hl⟩, B, φ, Γ, r, ?_⟩
      match hm : fe Γ, q with
      | some (.ok (k, d)), q =>
        refine .inl ⟨k, d, rfl, fun y H1 s1 hy => ?_⟩
        have r1 := r.same s1
        have hl1 := s1 _ _ hl
        replace q : RunS X.K Ew B (match updJ i k kvs d with
          | some kvs' => mret (.nx (Γ.set i (some (true, .dict kvs'))))
          | none => none) D := q
        cases d <;> try (exact False.elim q)
        rename_i more
        by_cases hc : offK i k = true ∧ kvs.isEmpty = false ∧ nolv kvs = true ∧ nolv more = true ∧ (more.all fun p => keyT p.1) = true ∧ kvs.length + more.length ≤ sizeLine
        · simp only [updJ, if_pos hc] at q
          obtain ⟨c1, c2, c3, c4, c6, c5⟩ := hc
          have hd := hy.toD r1.bs
          obtain ⟨b, ms, rfl, hr, t2⟩ := of_isD_dct hd
          have hbs : bs = [] := isTk_nil ht c3
          subst hbs
          have hdk := IsDk.same s1 _ _ (IsTk.toD _ _ _ ht)
          have hlb : l ≠ b := fun z => by
            subst z
            cases k with
            | fr js =>
              obtain ⟨as, h1, h2, h3⟩ := hy
              obtain ⟨a', ks', bs', e1, e2, e3, e4⟩ := of_isT_dct h1
              cases e1
              rcases h3 l (by rw [e4]; exact List.mem_cons_self) with ⟨jj, hj1, hj2⟩ | z
              · by_cases hji : jj = i
                · subst hji
                  simp only [offK, Bool.not_eq_true', List.contains_eq_mem, decide_eq_false_iff_not] at c1
                  exact c1 hj1
                · exact r.dj jj i hji l hj2 hli
              · rw [hl] at z; cases z
            | base =>
              have hb : IsD X.K B (.dict more) (.ref l) := hy
              obtain ⟨a', ks', e1, e2, _⟩ := of_isD_dct hb
              cases e1
              have hn := (r.nb i l hli).1
              rcases e2 with e2 | ⟨_, e2⟩ <;> (rw [hn] at e2; cases e2)
            | any => simp [offK] at c1
          have hkn := key_nol ht
          have htn : ∀ p ∈ mergK kvs more, nol p.1 = true := merg_nol (fun p hp => keyT_nol (List.all_eq_true.mp c6 p hp)) hkn
          refine ⟨l, b, kvs, ks, more, ms, rfl, rfl, hlb, hl1, hdk, hr, t2, c2, c5, ?_⟩
          have hnew := IsTk.upd (o' := .dct l (mergV ks ms)) hl1 trivial _ _ _ (show l ∉ [] by simp) (isTk_of (isDk_merg t2 hdk) htn (nolv_merg c4 c3))
          exact q B _ σ _ (Same.refl B) (r1.chg (d := .dict (mergK kvs more)) (as := [l]) hli hl1 trivial hv (isT_dct upd_same hnew) (List.nodup_cons.mpr ⟨by simp, List.nodup_nil⟩) (fun a ha => .inl (by rw [List.mem_singleton.mp ha]; exact hli)) trivial)
        · simp only [updJ, if_neg hc] at q
          exact False.elim q
      | some (.ex c), q => exact .inr ⟨c, rfl, q⟩
      | none, q => exact False.elim q
    | some (some (true, .none)), q => exact False.elim q
    | some (some (true, .bool _)), q => exact False.elim q
    | some (some (true, .int _)), q => exact False.elim q
    | some (some (true, .str _)), q => exact False.elim q
    | some (some (true, .tuple _)), q => exact False.elim q
    | some (some (true, .list _)), q => exact False.elim q
    | some (some (false, _)), q => exact False.elim q
    | some none, q => exact False.elim q
    | none, q => exact False.elim q
end
end L2
set_option Elab.async false
set_option linter.all false
set_option maxRecDepth 100000
namespace L2
open PySem PySem.Spec PyProof.Rows Y
section
variable {X : Cx} {K : PySem.W.Frag} {Ew : Str → Hp → Prop} {pos : Pos} {ke ve : Expr} {fk fv : EF}
/-- {k: v} -/
theorem de_dct1 (hu : X.A.units + 80 < cLine) (hk : DE X K Ew ke fk) (hv : DE X K Ew ve fv) (hK : X.K = K := by rfl) : DE X K Ew (.Dict [some ke] [ve] pos) (eDct1 fk fv) := by
  subst hK
  intro pins s σ H Q I q
  obtain ⟨B, φ, Γ, r, q⟩ := q
  have hp : H s.heap.objs.size = none := I.fresh
  have hd0 : (s.heap.push { cls := .type "dict", data := .dict #[] }).DictOfH (nestKind X.prog X.w) s.heap.objs.size [] := Heap.DictOfH.new s.heap
  have hs0 : (s.heap.objs.size == sysModules) = false := beq_eq_false_iff_ne.mpr (Ne.symm (Nat.ne_of_lt I.big'))
  have I1 : Inv X pins σ (upd H s.heap.objs.size (.dct s.heap.objs.size [])) { s with heap := s.heap.push { cls := .type "dict", data := .dict #[] }, toks := s.toks } :=
    I.laid (fun _ _ e => Heap.get?_push_of_some _ e) (Nat.le_refl _) (dct_ok (dct_new (Nat.zero_le _) hs0 .nil hd0))
  generalize hP : s.heap.objs.size = P at *
  have s1 : Same H (upd H P (.dct P [])) := Same.upd hp
  have r1 := r.same s1
  have q : Runs X.K Ew B φ H (mbind (fk Γ) fun x => mbind (fv Γ) fun y => if keyT x.2 = true ∧ nol y.2 = true then mret (.fr [], .dict [(x.2, y.2)]) else none) Q := q
  have hroom : (nestKind X.prog X.w).room X.A := show X.A.units + 10 < cLine by omega
  match hm : fk Γ, q with
  | some (.ok (k, d)), q =>
    replace q : Runs X.K Ew B φ H (mbind (fv Γ) fun y => if keyT d = true ∧ nol y.2 = true then mret (.fr [], .dict [(d, y.2)]) else none) Q := q
    match hm2 : fv Γ, q with
    | some (.ok (k2, d2)), q =>
      replace q : Runs X.K Ew B φ H (if keyT d = true ∧ nol d2 = true then mret (.fr [], .dict [(d, d2)]) else none) Q := q
      by_cases hc : keyT d = true ∧ nol d2 = true
      · rw [if_pos hc] at q
        obtain ⟨c1, c2⟩ := hc
        rcases q with ⟨_, _, e, q⟩ | ⟨c, e, _⟩
        · cases e
          subst hP
          refine dispH (knd := nestKind X.prog X.w) hroom (thn (hk pins _ σ _ (fun v H2 => Same (upd H s.heap.objs.size (.dct s.heap.objs.size [])) H2 ∧ VR X.K B φ (upd H s.heap.objs.size (.dct s.heap.objs.size [])) H2 k d v) I1 ⟨B, φ, Γ, r1, .inl ⟨k, d, hm, fun v H2 s2 hv2 => ⟨s2, hv2⟩⟩⟩) fun u st1 ⟨x, H2, I2, rx, s12, vx⟩ => ?_)
          have r2 := r1.same s12
          refine thn (hv pins _ σ _ (fun v H3 => Same H2 H3 ∧ VR X.K B φ H2 H3 k2 d2 v) I2 ⟨B, φ, Γ, r2, .inl ⟨k2, d2, hm2, fun v H3 s3 hv3 => ⟨s3, hv3⟩⟩⟩) fun u2 st2 ⟨y, H3, I3, ry, s23, vy⟩ => ?_
          have r3 := r2.same s23
          obtain ⟨ds, rfl, hn⟩ := keyT_tup c1
          have hkd := IsD.same s23 _ _ (vx.toD r2.bs)
          have hvd := vy.toD r3.bs
          obtain ⟨b, vs, rfl, _, _⟩ := of_isD_tup hkd
          cases (show u = Value.ref b from rx)
          have hp3 : H3 s.heap.objs.size = some (.dct s.heap.objs.size []) := s23 _ _ (s12 _ _ upd_same)
          obtain ⟨xs, dd, p, hs, hl, _⟩ := dct_of I3 (.inl hp3) (show IsDk X.K H3 [] [] by simp only [IsDk])
          cases p
          obtain ⟨kk, hkk⟩ : ∃ kk : NK, kk.d = .tuple ds := ⟨⟨ds, hn⟩, rfl⟩
          refine ⟨b, kk, rfl, by show KAt _ kk.d _; rw [hkk]; exact IsD.kat I3 8 (.tuple ds) (.ref b) (.ref b) (by rw [Y.nest]; exact hn) hkd rfl, dd, fun h' t' dd' sb => ?_⟩
          have hpr : Paired Rk [(PyData.tuple ds, V.ref b, y)] [(kk, b, u2)] := .cons ⟨hkk.symm, rfl, ry⟩ .nil
          refine ⟨.ref s.heap.objs.size, _, I3.write (x := s.heap.objs.size) (e := s.heap.objs.size) (t' := t') (by rw [hp3]; trivial) (.inl rfl) (fun c w hc hw => (sb.2 c hc).trans hw) ?_ (dct_ok (dct_new (ks := [(PyData.tuple ds, V.ref b, y)]) (show 1 ≤ sizeLine by decide) hs0 hpr dd')), rfl, ?_⟩
          · obtain ⟨ob, _, _, ho, _⟩ := dd'; exact ⟨ob, ho⟩
          · have sA : Same H H3 := s1.trans (s12.trans s23)
            refine q _ _ (sA.upd' hp) (VR.fresh.mpr ⟨[s.heap.objs.size], isT_dct upd_same ?_, List.nodup_cons.mpr ⟨by simp, List.nodup_nil⟩, fun a ha => by rw [List.mem_singleton.mp ha]; exact hp⟩)
            have hdk : IsDk X.K H3 [(PyData.tuple ds, d2)] [(PyData.tuple ds, V.ref b, y)] := by simp only [IsDk]; exact ⟨_, _, _, rfl, hkd, hvd, rfl⟩
            have htk := isTk_of hdk (fun p hp => by rw [List.mem_singleton.mp hp]; exact keyT_nol c1) (show nolv [(PyData.tuple ds, d2)] = true by unfold nolv; rw [List.map_cons, List.map_nil, nols, nols, c2]; rfl)
            exact IsTk.upd hp3 trivial _ _ _ (show s.heap.objs.size ∉ [] by simp) htk
        · cases e
      · rw [if_neg hc] at q
        rcases q with ⟨_, _, e, _⟩ | ⟨_, e, _⟩ <;> cases e
    | some (.ex c), q =>
      rcases q with ⟨_, _, e, _⟩ | ⟨c', e, q⟩
      · cases e
      · cases e
        subst hP
        refine dispH (knd := nestKind X.prog X.w) hroom (thn (hk pins _ σ _ (fun v H2 => Same (upd H s.heap.objs.size (.dct s.heap.objs.size [])) H2) I1 ⟨B, φ, Γ, r1, .inl ⟨k, d, hm, fun v H2 s2 hv2 => s2⟩⟩) fun u st1 ⟨x, H2, I2, rx, s12⟩ => ?_)
        exact thn (hv pins _ σ _ (fun v H3 => False) I2 ⟨B, φ, Γ, r1.same s12, .inr ⟨c, hm2, q⟩⟩) fun u2 st2 ⟨_, _, _, _, z⟩ => False.elim z
    | none, q => rcases q with ⟨_, _, e, _⟩ | ⟨_, e, _⟩ <;> cases e
  | some (.ex c), q =>
    rcases q with ⟨_, _, e, _⟩ | ⟨c', e, q⟩
    · cases e
    · cases e
      subst hP
      exact dispH (knd := nestKind X.prog X.w) hroom (thn (hk pins _ σ _ (fun v H2 => False) I1 ⟨B, φ, Γ, r1, .inr ⟨c, hm, q⟩⟩) fun u st1 ⟨_, _, _, _, z⟩ => False.elim z)
  | none, q => rcases q with ⟨_, _, e, _⟩ | ⟨_, e, _⟩ <;> cases e
end
end L2
set_option Elab.async false
set_option linter.all false
set_option maxRecDepth 100000
namespace L2
open PySem PySem.Spec PyProof.Rows Y
section
variable {X : Cx} {pins : List (Addr × Obj)} {σ : St} {H : Hp} {s : Shared} {h' : Heap}
/-- the iterator's own records turn, a new object is laid -/
theorem Inv.turnNew {fp : List Addr} {a : Addr} {o : HO} {t' : Nat} (I : Inv X pins σ H s) (ha : s.heap.objs.size ≤ a) (k : ∀ b u, b ∉ fp → s.heap.get? b = some u → h'.get? b = some u) (hf : ∀ b ∈ fp, FpOk X pins H b)
    (new : ObjOk X.prog X.w (upd H a o) h' a o) : Inv X pins σ (upd H a o) { s with heap := h', toks := t' } := by
  have hn : H a = none := I.hok.fresh ha
  have nlt : ∀ b u, s.heap.get? b = some u → b ≠ a := fun b u e z => by rw [z] at e; exact absurd (Heap.lt_size e) (Nat.not_lt.mpr ha)
  have nfp : ∀ b u, H b = some u → b ∉ fp := fun b u e z => by rw [(hf b z).1] at e; cases e
  have hna : ∀ b u, H b = some u → b ≠ a := fun b u e z => by rw [z, hn] at e; cases e
  refine I.step (g' := s.gens) (d' := s.drawn) (ch := fp) (fun b hb => ?_) (fun b u _ _ hc e _ => k b u hc e) (fun b u _ _ hc e _ => ⟨u.slots, k b u hc e⟩) (fun b u _ e n => ?_)
    (fun b u hc e => ⟨u, k b u hc e⟩) (fun b xs e => ?_) (fun b ob u e => ?_) (fun b ps e => ⟨#[], ?_⟩) (fun m hm => ?_) (fun b u e => ?_) I.bare
  · obtain ⟨_, f1, _, f3, f4, f5⟩ := hf b hb
    exact ⟨f3, f1, f4, f5⟩
  · rw [upd_ne (nlt b u e)]; exact n
  · rw [upd_ne (hna b _ e)]; exact e
  · rw [upd_ne (hna b _ e)]; exact e
  · rw [upd_ne (hna b _ e), e]; simp
  · obtain ⟨ob, es, ep, ho, r⟩ := hm
    exact ⟨ob, es, ep, k _ ob (fun z => (hf _ z).2.1 rfl) ho, r⟩
  · by_cases hb : b = a
    · subst hb
      rw [upd_same] at e
      cases e
      exact new
    · rw [upd_ne hb] at e
      refine (I.hok b u e).stay (fun c v hc q => k c v ?_ q) (fun c q => ?_) fun c xs q => ?_
      · rcases hc with z | z
        · rw [z]; exact nfp b u e
        · exact nfp c _ z
      · rw [upd_ne (hna c _ q)]; exact q
      · rw [upd_ne (hna c _ q)]; exact q
end
/-- the turns of enumerate over the tuple at a, of n items -/
def Ite (K : PySem.W.Frag) (a : Addr) (n : Nat) : It :=
  ⟨fun i H => i < n ∧ ∃ xs, SqT K H a xs ∧ xs.length = n, fun i H x H' => ∃ t y, x = .ref t ∧ H t = none ∧ H' = upd H t (.tup [.int (i : Int), y]) ∧ ∀ xs, SqT K H a xs → xs[i]? = some y, fun i H => n ≤ i ∧ ∃ xs, SqT K H a xs ∧ xs.length = n⟩
theorem turn_enum {P : Program} {w : World} {K : PySem.W.Frag} {elts : List Expr} {x1 : Nat} {tp : Pos} (a e it : Addr) (n : Nat) (hei : e ≠ it) :
    Turn P w K (.Tuple elts x1 tp) (Ite K a n) [e, it] e (fun i h => i ≤ n ∧ (∃ old, IsEnum h e it (i : Int) old) ∧ IsTupIter h it a i) where
  mem := by simp
  obj := fun i h st b hb => by
    obtain ⟨_, ⟨old, h1⟩, o, h2, _, h3⟩ := st
    rcases List.mem_cons.mp hb with z | z
    · rw [z]; exact ⟨_, h1, fun v z => by cases z⟩
    · rw [List.mem_singleton.mp z]; exact ⟨_, h2, fun v z => by rw [h3] at z; cases z⟩
  keep := fun i h h' st k => by
    obtain ⟨h0, ⟨old, h1⟩, o, h2, h3⟩ := st
    exact ⟨h0, ⟨old, k e (by simp) _ h1⟩, o, k it (by simp) _ h2, h3⟩
  item := by
    intro X hP hw hK hc i pins s σ H E I hf st hg; subst hP hw hK
    obtain ⟨hi, xs, hq, hl⟩ := hg
    obtain ⟨its, rv, pt, hz⟩ := I.tuple hq
    obtain ⟨h0, ⟨old, he⟩, hit⟩ := st
    have hlen := rv.length
    obtain ⟨ot, hot, hct, _⟩ := id pt
    have hae : e ≠ a := fun z => by
      rw [z] at he
      have := Option.some.inj (he.symm.trans hot)
      rw [← this] at hct; simp at hct
    have hai : a ≠ it := fun z => by
      obtain ⟨oi, hoi, hci, _⟩ := hit
      rw [z] at hot
      have := Option.some.inj (hot.symm.trans hoi)
      rw [← this, hct] at hci; simp at hci
    have hsz : its.toArray.size = n := by rw [List.size_toArray]; omega
    have D := draws_tup (prog := X.prog) (w := X.w) (A := X.A.in1) (I.ok.hd hc) it a hai its.toArray
    rw [hsz] at D
    refine wpAny_pyNext_enum_itemD (fp := [it, a]) D he ⟨hit, pt⟩ hi hei (by simp [hei, hae]) fun x h1 tk hx heo hst ht hz1 hk => ?_
    refine ⟨_, rfl, wpAny_letOwnedTupleGo_enum heo fun h2 he2 hs2 => ?_⟩
    have hx' : its[i]? = some x := by simpa using hx
    obtain ⟨y, hy, ry⟩ : ∃ y, xs[i]? = some y ∧ RelV y x := by
      have hy : xs[i]? = some (xs[i]'(by omega)) := List.getElem?_eq_getElem _
      obtain ⟨u, hu, ru⟩ := rv.get hy
      rw [hx'] at hu; cases hu
      exact ⟨_, hy, ru⟩
    have hel : e < s.heap.objs.size := Heap.lt_size he
    have ht2 : h2.get? s.heap.objs.size = some { cls := .type "tuple", data := .seq #[.int (i : Int) tk, x] } := (hs2.2 _ (Nat.ne_of_gt hel)).trans ht
    have hk2 : ∀ b o, b ∉ [e, it] → s.heap.get? b = some o → h2.get? b = some o := fun b o hb hbo => by
      have hbe : b ≠ e := fun z => hb (by simp [z])
      have hbi : b ≠ it := fun z => hb (by simp [z])
      exact (hs2.2 b hbe).trans (hk b o hbe hbi hbo)
    refine ⟨.ref s.heap.objs.size, upd H s.heap.objs.size (.tup [.int (i : Int), y]), I.turnNew (fp := [e, it]) (t' := tk + 1) (Nat.le_refl _) hk2 hf ⟨show 2 ≤ sizeLine by decide, [.int (i : Int) tk, x], .cons ⟨tk, rfl⟩ (.cons ry .nil), _, ht2, rfl, _, rfl⟩, rfl,
      ⟨s.heap.objs.size, y, rfl, I.fresh, rfl, fun ys hy' => by rw [I.tuple_inj hy' hq]; exact hy⟩, ⟨by omega, ⟨x, by simpa using he2⟩, ?_⟩, fun b hb => ?_⟩
    · obtain ⟨oi, hoi, r⟩ := hst.1
      exact ⟨oi, (hs2.2 it (Ne.symm hei)).trans hoi, r⟩
    · have hb0 := (hf b hb).1
      have hbn : b ≠ s.heap.objs.size := fun z => by
        rcases List.mem_cons.mp hb with q | q
        · rw [← q, z] at hel; exact absurd hel (Nat.lt_irrefl _)
        · obtain ⟨oi, hoi, _⟩ := hit
          rw [← List.mem_singleton.mp q, z] at hoi
          exact absurd (Heap.lt_size hoi) (Nat.lt_irrefl _)
      rw [upd_ne hbn]; exact hb0
  done := by
    intro X hP hw hK hc i pins s σ H E I hf st hg; subst hP hw hK
    obtain ⟨h0, ⟨old, he⟩, hit⟩ := st
    obtain ⟨hg, xs, hq, hl⟩ := hg
    have hi : i = n := Nat.le_antisymm h0 hg
    subst hi
    obtain ⟨its, rv, pt, hz⟩ := I.tuple hq
    have hlen := rv.length
    obtain ⟨ot, hot, hct, _⟩ := id pt
    have hai : a ≠ it := fun z => by
      obtain ⟨oi, hoi, hci, _⟩ := hit
      rw [z] at hot
      have := Option.some.inj (hot.symm.trans hoi)
      rw [← this, hct] at hci; simp at hci
    have hsz : its.toArray.size = i := by rw [List.size_toArray]; omega
    have D := draws_tup (prog := X.prog) (w := X.w) (A := X.A.in1) (I.ok.hd hc) it a hai its.toArray
    rw [hsz] at D
    obtain ⟨f0, f1, f2, f3, f4, f5⟩ := hf it (by simp)
    exact wpAny_pyNext_enum_endD (fp := [it, a]) D he ⟨hit, pt⟩ fun h' eb => ⟨rfl, I.turned (t' := s.toks) (fun b o hb q => eb b o hb q) f0 f1 f3 f4 f5⟩
  self := fun A i s Q E st h => by
    obtain ⟨_, ⟨old, he⟩, _⟩ := st
    exact enum_self he h
section
variable {X : Cx} {K : PySem.W.Frag} {Ew : Str → Hp → Prop} {pos p tp : Pos} {elts : List Expr} {x1 : Nat} {a : Expr} {ta : TE} {fa : EF}
def iEnu (K : PySem.W.Frag) (ta : TE) : TI := fun σ H R => ta σ H fun x H1 => ∃ q xs, x = .ref q ∧ SqT K H1 q xs ∧ R (Ite K q xs.length) H1
theorem pi_enum (hg : Gl X "enumerate") (hm : X.mg "enumerate" = none) (ha : PE X a ta) (hs : starEach [a] X.env = [(false, eval a X.env)] := by rfl) : PI X (.Tuple elts x1 tp) (.Call (.Name "enumerate" p) [a] [] pos) (iEnu X.K ta) := by
  intro pins s σ H R I h
  refine Call_ (ld_blt I hg hm PyProof.Rows.boot_enumerate (PyProof.Rows.callWith_type1 (thn (pa_cons ha pa_nil hs pos pins s σ H (fun vs H1 => match vs with
    | [x] => ∃ q xs, x = .ref q ∧ SqT X.K H1 q xs ∧ R (Ite X.K q xs.length) H1
    | _ => False) I h) fun us s1 ⟨vs, H1, I1, r1, q1⟩ => ?_) hs rfl))
  match vs, r1, q1 with
  | [x], r1, q1 =>
    obtain ⟨q, xs, rfl, hq, fin⟩ := q1
    obtain ⟨u, rfl, ru⟩ := r1.one
    cases ru
    obtain ⟨its, rv, pl, hz⟩ := I1.tuple hq
    refine call_enum pl fun h' he hit hk => ?_
    have I2 : Inv X pins σ H1 { s1 with heap := h', toks := s1.toks } := I1.kept (t' := s1.toks) hk
    refine enum_self he ⟨s1.heap.objs.size + 1, [s1.heap.objs.size + 1, s1.heap.objs.size], _, _, H1, rfl, I2, turn_enum q (s1.heap.objs.size + 1) s1.heap.objs.size xs.length (Nat.ne_of_gt (Nat.lt_succ_self _)), ⟨Nat.zero_le _, ⟨.none, he⟩, hit⟩, fun b hb => ?_, fin⟩
    rcases List.mem_cons.mp hb with z | z
    · rw [z]; exact I1.fpOk (Nat.le_succ _) (I1.hok.fresh (Nat.le_succ _))
    · rw [List.mem_singleton.mp z]; exact I1.fpOk (Nat.le_refl _) I1.fresh
  | [], r1, q1 => exact False.elim q1
  | _ :: _ :: _, r1, q1 => exact False.elim q1
theorem enumI_get : ∀ (n : Nat) (ds : List PyData) (i : Nat), (enumI n ds)[i]? = (ds[i]?).map fun d => PyData.tuple [.int ((n + i : Nat) : Int), d]
  | n, [], i => by simp [enumI]
  | n, d :: ds, 0 => by simp [enumI]
  | n, d :: ds, i + 1 => by
    rw [enumI, List.getElem?_cons_succ, List.getElem?_cons_succ, enumI_get (n + 1) ds i]
    rw [show n + 1 + i = n + (i + 1) by omega]
theorem enumI_len : ∀ (n : Nat) (ds : List PyData), (enumI n ds).length = ds.length
  | n, [] => rfl
  | n, d :: ds => by rw [enumI, List.length_cons, enumI_len, List.length_cons]
theorem itOk_enum {B : Hp} {a : Addr} {vs : List V} {ds : List PyData} (h : SqT K B a vs) (t : IsDs K B ds vs) : ItOk K B (Ite K a vs.length) (enumI 0 ds) where
  go := fun i H hi s => by
    have hl := isDs_length t
    rw [enumI_len] at hi
    exact ⟨by omega, vs, s.seqT h, rfl⟩
  yl := fun i H x H' hi s y => by
    obtain ⟨tt, y, rfl, hn, rfl, hy⟩ := y
    have hl := isDs_length t
    rw [enumI_len] at hi
    obtain ⟨d, e, hd⟩ := isDs_get' t (hy vs (s.seqT h))
    refine ⟨Same.upd hn, .tuple [.int (i : Int), d], by rw [enumI_get, e, Nat.zero_add]; rfl, fun B2 s2 hb => ?_⟩
    exact isD_tup (SqT.of (hb tt _ hn upd_same)) (isDs_cons isD_int (isDs_cons (IsD.same s2 _ _ hd) isDs_nil))
  stop := fun H s => by
    refine ⟨?_, vs, s.seqT h, rfl⟩
    rw [enumI_len, isDs_length t]; exact Nat.le_refl _
theorem di_enum (hg : Gl X "enumerate") (hm : X.mg "enumerate" = none) (ha : DE X K Ew a fa) (hK : X.K = K := by rfl) (hs : starEach [a] X.env = [(false, eval a X.env)] := by rfl) : DI X K Ew (.Tuple elts x1 tp) (.Call (.Name "enumerate" p) [a] [] pos) (itEnum fa) :=
  (pi_enum hg hm ha hs).imp fun σ H R q => tI_head (g := fun x _ => enuI x.1 x.2) q fun B φ Γ k d v H1 r s av q => by
    replace q : RunI K Ew B H Γ σ R (enuI k d) := q
    cases d <;> try (exact False.elim q)
    rename_i ds
    obtain ⟨B1, ψ, s1, r1, hd⟩ := r.frzK av
    obtain ⟨a, vs, rfl, h1, h2⟩ := of_isD_tup hd
    rw [hK]
    exact ⟨a, vs, rfl, r1.bs.seqT h1, q _ H1 B1 ψ s s1 r1 (itOk_enum h1 h2)⟩
end
end L2
set_option Elab.async false
set_option linter.all false
set_option maxRecDepth 100000
/-! ### sets of 0, 1, 2, 3 (the hands): which, by a mask -/
namespace L2
open PySem PySem.Spec PyProof.Rows Y
def L4 (m : Nat) : List Nat := [0, 1, 2, 3].filter fun k => m.testBit k
def tab4 (led : Bool) (m : Nat) : SetTable := { mask := 7, place := (L4 m).toArray, dummies := #[], finger := 0, led := led, moves := 0, plain := true }
def el4 (f : Nat → Nat) (m : Nat) : List (Int × Value) := (L4 m).map fun (k : Nat) => ((k : Int), Value.int (k : Int) (f k))
def SetM (led : Bool) (h : Heap) (a : Addr) (m : Nat) : Prop := m < 16 ∧ ∃ o ep f, h.get? a = some o ∧ o.ExactSet ∧ o.data = .set (el4 f m).toArray ep (tab4 led m)
theorem tab4_free (led : Bool) : ∀ m < 16, ∀ (k : Nat), k < 4 → m.testBit k = false → (tab4 led m).freeSlot (k : Int) = some (k, false) := by cases led <;> decide +kernel
theorem tab4_put (led : Bool) : ∀ m < 16, ∀ k < 4, m.testBit k = false → (tab4 led m).put k = (tab4 led (m ||| 2 ^ k), ((L4 m).filter (· < k)).length) := by cases led <;> decide +kernel
theorem tab4_fits (led : Bool) : ∀ m < 16, (tab4 led m).fits (L4 m).length = true := by cases led <;> decide +kernel
theorem tab4_few (led : Bool) : ∀ m < 16, (tab4 led m).tooFull = false := by cases led <;> decide +kernel
theorem or4 : ∀ m < 16, ∀ k < 4, m ||| 2 ^ k < 16 := by decide +kernel
theorem or4_in : ∀ m < 16, ∀ k < 4, m.testBit k = true → m ||| 2 ^ k = m := by decide +kernel
theorem hash4 : ∀ (k : Nat), k < 4 → hashInt ((k : Nat) : Int) = (k : Int) := by decide +kernel
theorem L4_lt {m k : Nat} (h : k ∈ L4 m) : k < 4 := by
  have := (List.mem_filter.mp h).1
  simp only [List.mem_cons, List.not_mem_nil, or_false] at this
  omega
theorem ins4 (f : Nat → Nat) (m k t : Nat) (hm : m < 16) (hk : k < 4) (h : m.testBit k = false) :
    SetTable.insertAt (el4 f m).toArray ((L4 m).filter (· < k)).length ((k : Int), Value.int (k : Int) t) = (el4 (fun j => if j = k then t else f j) (m ||| 2 ^ k)).toArray := by
  have hm' : m = 0 ∨ m = 1 ∨ m = 2 ∨ m = 3 ∨ m = 4 ∨ m = 5 ∨ m = 6 ∨ m = 7 ∨ m = 8 ∨ m = 9 ∨ m = 10 ∨ m = 11 ∨ m = 12 ∨ m = 13 ∨ m = 14 ∨ m = 15 := by omega
  have hk' : k = 0 ∨ k = 1 ∨ k = 2 ∨ k = 3 := by omega
  rcases hk' with rfl | rfl | rfl | rfl <;> rcases hm' with rfl | rfl | rfl | rfl | rfl | rfl | rfl | rfl | rfl | rfl | rfl | rfl | rfl | rfl | rfl | rfl <;> first | exact absurd h (by decide) | rfl
section
variable {prog : Program} {w : World} {A : Around} {E : Value → Shared → Prop} {s : Shared} {led : Bool} {a : Addr} {m : Nat}
theorem el4_elems (f : Nat → Nat) (hm : m < 16) : ElemsOf (intKind prog w) (el4 f m) := fun e he => by
  obtain ⟨k, hk, rfl⟩ := List.mem_map.mp he
  exact ⟨⟨(k : Int), intKind_is _ _ _ _, (hash4 k (L4_lt hk)).symm⟩, rfl⟩
theorem add4 {k t : Nat} {Q : Bool → Shared → Prop} (hk : k < 4) (hS : SetM led s.heap a m)
    (h : ∀ h', Heap.SameBut a s.heap h' → SetM led h' a (m ||| 2 ^ k) → ∀ b, Q b { s with heap := h' }) : wpAny (model prog w) A (setAddHashed a (.int (k : Int) t) (hashInt (k : Int))) Q E s := by
  obtain ⟨hm, o, ep, f, ho, hex, hd⟩ := hS
  have hel : ElemsOf (intKind prog w) (el4 f m).toArray.toList := el4_elems f hm
  have hlen : (el4 f m).toArray.size = (L4 m).length := by simp [el4]
  have h4 : (L4 m).length ≤ 4 := List.length_filter_le _ _
  have hf : (tab4 led m).fits (el4 f m).toArray.size = true := by rw [hlen]; exact tab4_fits led m hm
  have hsc : (Value.int (k : Int) t).scannable = true := rfl
  have hb : (el4 f m).toArray.size < scanBound := by rw [hlen]; exact Nat.lt_of_le_of_lt h4 (by decide)
  unfold setAddHashed setAddHashedIn
  refine wpAny_holding (wpAny_bind (wpAny_setState_of ho hd hf ?_)); dsimp only
  rw [byScan_of (knd := intKind prog w) hsc hb hel, if_pos rfl]
  unfold setAddByScan
  refine wpAny_bind (wpAny_bind (wpAny_rule (wpAny_bind (wpAny_setScan_of (knd := intKind prog w) (k := (k : Int)) (intKind_is _ _ _ _) ho hd hf hel ?_))))
  have hfi : (el4 f m).toArray.toList.findIdx? (fun e => (intKind prog w).is (k : Int) e.2) = if m.testBit k = true then some ((L4 m).findIdx (· == k)) else none := by
    have hm' : m = 0 ∨ m = 1 ∨ m = 2 ∨ m = 3 ∨ m = 4 ∨ m = 5 ∨ m = 6 ∨ m = 7 ∨ m = 8 ∨ m = 9 ∨ m = 10 ∨ m = 11 ∨ m = 12 ∨ m = 13 ∨ m = 14 ∨ m = 15 := by omega
    have hk' : k = 0 ∨ k = 1 ∨ k = 2 ∨ k = 3 := by omega
    clear h hd hf hb hel hlen h4
    rcases hk' with rfl | rfl | rfl | rfl <;> rcases hm' with rfl | rfl | rfl | rfl | rfl | rfl | rfl | rfl | rfl | rfl | rfl | rfl | rfl | rfl | rfl | rfl <;> rfl
  rw [hfi]
  cases hb : m.testBit k with
  | true =>
    simp only [if_true]
    refine wpAny_pure (wpAny_pure ?_)
    have := h s.heap (Heap.SameBut.refl a s.heap) (by rw [or4_in m hm k hk hb]; exact ⟨hm, o, ep, f, ho, hex, hd⟩) false
    exact this
  | false =>
    simp only [Bool.false_eq_true, if_false]
    rw [hash4 k hk]
    have hlay : layNew (tab4 led m) (el4 f m).toArray (k : Int) (.int (k : Int) t) = ((el4 (fun j => if j = k then t else f j) (m ||| 2 ^ k)).toArray, tab4 led (m ||| 2 ^ k), false, false) := by
      have hfit := tab4_fits led (m ||| 2 ^ k) (or4 m hm k hk)
      have hl2 : (el4 (fun j => if j = k then t else f j) (m ||| 2 ^ k)).toArray.size = (L4 (m ||| 2 ^ k)).length := by simp [el4]
      unfold layNew
      rw [tab4_free led m hm k hk hb]
      dsimp only
      rw [tab4_put led m hm k hk hb]
      dsimp only
      rw [ins4 f m k t hm hk hb, SetTable.orStandIn, hl2, hfit]
      rfl
    rw [hlay]
    dsimp only
    have hm2 := or4 m hm k hk
    have hfew := tab4_few led (m ||| 2 ^ k) hm2
    have hl2 : (el4 (fun j => if j = k then t else f j) (m ||| 2 ^ k)).toArray.size ≤ sizeLine := by
      refine Nat.le_trans (show _ ≤ 4 from ?_) (by decide)
      simp only [el4, List.size_toArray, List.length_map]
      exact List.length_filter_le _ _
    have hpl : (tab4 led (m ||| 2 ^ k)).plain = true := rfl
    rw [if_pos hpl, hashByValue_scannable 8 hsc]
    refine wpAny_bind (wpAny_pure (wpAny_bind (wpAny_pure ?_)))
    show wpAny _ A (storeSet a _ (tab4 led (m ||| 2 ^ k)) >>= _) _ _ _
    refine wpAny_bind (wpAny_storeSet_of ho hd ?_ hl2)
    show wpAny _ A (if (!false && (tab4 led (m ||| 2 ^ k)).tooFull) = true then _ else _) _ _ _
    rw [hfew]
    refine wpAny_pure (wpAny_pure ?_)
    refine h _ (Heap.SameBut.update s.heap a _) ⟨hm2, { o with data := .set (el4 (fun j => if j = k then t else f j) (m ||| 2 ^ k)).toArray (ep + 1) (tab4 led (m ||| 2 ^ k)) }, ep + 1, fun j => if j = k then t else f j, ?_, hex, rfl⟩ true
    have hu := Heap.get?_update_self (Obj.putSet (el4 (fun j => if j = k then t else f j) (m ||| 2 ^ k)).toArray (tab4 led (m ||| 2 ^ k))) ho (by rw [putSet_of _ _ hd]; rfl)
    rw [putSet_of _ _ hd] at hu
    exact hu
end
end L2
set_option Elab.async false
set_option linter.all false
set_option maxRecDepth 100000
namespace L2
open PySem PySem.Spec PyProof.Rows Y
/-- the mask of what is met from the i-th on -/
def or4s (val : Nat → Nat) : Nat → Nat → Nat → Nat
  | 0, _, m => m
  | c + 1, i, m => or4s val c (i + 1) (m ||| 2 ^ val i)
section
variable {prog : Program} {w : World} {A : Around} {E : Value → Shared → Prop} {s : Shared} {R : Result → Shared → Prop} {I : Addr} {fp wr : List Addr} {G : Array GenState → Array GenState → Prop} {n : Nat} {P : Nat → Value → Prop} {St : Nat → Shared → Prop} {led : Bool}
theorem SetM.kept {h h' : Heap} {a : Addr} {m : Nat} (hS : SetM led h a m) (k : ∀ o, h.get? a = some o → h'.get? a = some o) : SetM led h' a m := by
  obtain ⟨hm, o, ep, f, ho, r⟩ := hS
  exact ⟨hm, o, ep, f, k o ho, r⟩
theorem loop4 (W : WalksS prog w A.in1 I fp wr G n P St) (S : Addr) (hSf : S ∉ fp) (val : Nat → Nat) (hval : ∀ i v, P i v → val i < 4 ∧ ∃ t, v = .int (val i : Int) t) :
    ∀ (c i m : Nat) (s : Shared), n - i = c → i ≤ n → St i s → SetM led s.heap S m → (∀ s', Moved (S :: wr) G s s' → SetM led s'.heap S (or4s val c i m) → R (.ok (.ret .none)) s') →
      codeAny (model prog w) A (.builtin "set.update.loop" ⟨[.ref S, .ref I], []⟩) R s := by
  have hSw : S ∉ wr := fun h => hSf (W.sub _ h)
  have up : ∀ b ∈ wr, b ∈ S :: wr := fun b hb => List.mem_cons_of_mem _ hb
  intro c; induction c with
  | zero =>
    intro i m s hc hi hst hS hR
    obtain rfl : i = n := by omega
    refine codeAny_builtin F.entry_set_update_loop ?_; rw [Around.under_plainId F.plain_set_update_loop _]
    refine wpAny_bind (m := pyNext (.ref I)) (W.done s _ _ hst fun s' hm => ?_)
    exact wpAny_pure (hR s' (hm.mono up) (hS.kept fun o e => hm.heap S o hSw e))
  | succ c ih =>
    intro i m s hc hi hst hS hR
    refine codeAny_builtin F.entry_set_update_loop ?_; rw [Around.under_plainId F.plain_set_update_loop _]
    refine wpAny_bind (m := pyNext (.ref I)) (W.item i s _ _ (by omega) hst fun v s' hP hst' hm => ?_)
    obtain ⟨hlt, t, rfl⟩ := hval i v hP
    have hS' := hS.kept (h' := s'.heap) fun o e => hm.heap S o hSw e
    refine wpAny_bind (m := holding [Value.int (val i : Int) t] (setAdd S (.int (val i : Int) t))) (wpAny_holding ?_)
    unfold setAdd
    refine wpAny_holding (wpAny_bind ((intKind prog w).pyHash (k := (val i : Int)) (intKind_is _ _ _ _) ?_))
    refine add4 (s := { s' with toks := s'.toks + 1 }) hlt hS' fun h' sb hS2 b => ?_
    refine wpAny_pure ⟨plainId_quiet F.plain_set_update_loop _, ih (i + 1) _ _ (by omega) (by omega) (W.frame _ s' _ _ hst' (Nat.le_succ _) fun b hb o e => ?_) hS2 fun s'' hm'' hS'' => ?_⟩
    · rw [sb.2 b (fun z : b = S => hSf (z ▸ hb))]; exact e
    · refine hR s'' (Moved.trans W.gtrans ((hm.mono up).then_heap (Nat.le_succ _) fun b o hb e => ?_) hm'') hS''
      rw [sb.2 b (fun z : b = S => hb (z ▸ List.mem_cons_self))]; exact e
def ledW (w : World) : Bool := !w.params.followText "set-order"
def set0 (w : World) : Obj := { cls := .type "set", dict := none, data := .set #[] 0 (.fresh 0 0 (ledW w)) }
theorem set0_M {h : Heap} {a : Addr} (e : h.get? a = some (set0 w)) : SetM (ledW w) h a 0 := ⟨by decide, set0 w, 0, fun _ => 0, e, ⟨rfl, rfl, rfl⟩, rfl⟩
theorem new4 (a : Value) {Q₁ : Value → Shared → Prop} (h : Q₁ (.ref s.heap.objs.size) { s with heap := s.heap.push (set0 w) }) :
    codeAny (model prog w) A (.call (.builtin "set.__new__") ⟨[.type "set", a], []⟩) (wants Q₁ E) s := by
  refine codeAny_of_tree ?_
  show wpAny _ A.in1 (checkBuiltinCall "set.__new__" ⟨[.type "set", a], []⟩ >>= fun _ => again (.builtin "set.__new__" ⟨[.type "set", a], []⟩)) _ _ s
  refine wpAny_bind (wpAny_of_eq (PySem.F.newCall_set_1 a) (wpAny_pure ⟨plainId_quiet PySem.F.plain_set_new _, codeAny_builtin PySem.F.entry_set_new ?_⟩)); rw [Around.under_plainId PySem.F.plain_set_new _]
  unfold Builtin.«set.__new__» Builtin.Frozenset.newClass
  have hsub := sub_set_self
  obtain ⟨hp, g, d, tk, os⟩ := s; dsimp only at h ⊢; wp_walk
  refine wpAny_askSetting (wpAny_pure ?_); dsimp only; simp only [newObj]
  exact wpAny_bind (wpAny_alloc (wpAny_pure (wpAny_pure h)))
set_option maxHeartbeats 4000000 in
theorem call_set4 {l : Addr} {items : Array Value} {val : Nat → Nat} {Q : Value → Shared → Prop} (hh : A.handled = none) (hl : s.heap.IsList l items) (hval : ∀ i v, items[i]? = some v → val i < 4 ∧ ∃ t, v = .int (val i : Int) t)
    (h : ∀ (h' : Heap) (tk : Nat), SetM (ledW w) h' s.heap.objs.size (or4s val items.size 0 0) → (∀ b o, b < s.heap.objs.size → s.heap.get? b = some o → h'.get? b = some o) → Q (.ref s.heap.objs.size) { s with heap := h', toks := tk }) :
    wpAny (model prog w) A (call (.type "set") [.ref l]) Q E s := by
  obtain ⟨c, tl, hmro⟩ := PySem.F.called_set.mro; have hmade := PySem.F.called_set.made; have hsub := PySem.F.called_set.sub
  refine wpAny_call (codeAny_of_tree ?_)
  show wpAny _ _ (callAny (.type "set") _) _ _ _
  refine wpAny_pure ⟨Code.quiet_builtin _ (by decide +kernel), codeAny_builtin F.entry_type_call ?_⟩; rw [Around.under_plain (weight_type_call_type "set" [.ref l] []) rfl]
  have h1 := PySem.F.called_set.notType; have h2 := PySem.F.called_set.canCreate; have hct := PySem.F.typeCall_set_1 (.ref l)
  (repeat (any_goals (first | assumption | wp_step)))
  refine codeAny_mono (new4 (.ref l) (E := E) (Q₁ := fun obj s₁ => obj = .ref s.heap.objs.size ∧ s₁ = { s with heap := s.heap.push (set0 w) }) ⟨rfl, rfl⟩) fun r s₁ hr => ?_
  cases r with
  | error e => exact hr
  | ok fl =>
    cases fl with
    | ret obj =>
      obtain ⟨rfl, rfl⟩ := hr
      have hS : (s.heap.push (set0 w)).get? s.heap.objs.size = some (set0 w) := Heap.get?_push_size _ rfl
      have hT : Shared.TypeIs { s with heap := s.heap.push (set0 w) } (.ref s.heap.objs.size) "set" := ⟨_, hS, rfl⟩
      have hli := PySem.F.called_set.init.lookup; have hbi := PySem.F.called_set.init.bind (.ref s.heap.objs.size)
      (repeat (any_goals (first | assumption | wp_step)))
      refine codeAny_mono (codeAny_call_builtin (R := wants (fun r s₂ => r = .none ∧ ∃ h' tk, s₂ = { s with heap := h', toks := tk } ∧ SetM (ledW w) h' s.heap.objs.size (or4s val items.size 0 0) ∧ (∀ b o, b < s.heap.objs.size → s.heap.get? b = some o → h'.get? b = some o)) E) PySem.F.called_set.init.plain PySem.F.entry_set_init (check_set_init_1 hT ?_)) fun r₂ s₂ hr₂ => ?_
      · have hl1 : (s.heap.push (set0 w)).IsList l items := hl.push _
        obtain ⟨ol, hol, hcl, nl, hdl⟩ := hl
        obtain ⟨ocls, odict, odata, oslots⟩ := ol
        simp only at hcl hdl; subst hcl hdl
        have hol' : (s.heap.push (set0 w)).get? l = some { cls := .type "list", dict := odict, data := .seq items nl, slots := oslots } := Heap.get?_push_of_some _ hol
        have hsls := PySem.F.sub_list_set; have hslf := PySem.F.sub_list_frozenset
        have hne : (Value.type "list" == Value.type "dict") = false := by decide
        unfold Builtin.«set.__init__» noKeywords Builtin.Frozenset.updateFrom
        generalize hPI : pyIter = PI; wp_walk; subst hPI
        refine wpAny_pyIter_list hl1 (wpAny_bind (wpAny_runValue ?_))
        have hlS : l < s.heap.objs.size := Heap.lt_size hol
        have hh3 : A.in1.in1.in1.handled = none := by simp [hh]
        have hneI : l ≠ (s.heap.push (set0 w)).objs.size := by rw [Heap.size_push]; exact Nat.ne_of_lt (Nat.lt_succ_of_lt hlS)
        have hSf : s.heap.objs.size ∉ [(s.heap.push (set0 w)).objs.size, l] := by
          rw [Heap.size_push]; intro z; rcases List.mem_cons.mp z with z | z
          · exact Nat.ne_of_lt (Nat.lt_succ_self _) z
          · exact Nat.ne_of_gt hlS (List.mem_singleton.mp z)
        refine loop4 ((Walks.list hh3 _ l hneI items).toS) s.heap.objs.size hSf val hval items.size 0 0 _ rfl (Nat.zero_le _) ⟨⟨_, Heap.get?_push_size _ rfl, rfl, rfl⟩, (hl1.push _)⟩ (set0_M (Heap.get?_push_of_some _ hS)) fun s' hm hS' => ?_
        obtain ⟨h', g', d', tk', os'⟩ := s'
        obtain rfl : g' = s.gens := hm.gens
        obtain rfl : d' = s.drawn := hm.drawn
        obtain rfl : os' = s.os := hm.os
        refine wpAny_pure (wpAny_pure ⟨rfl, h', tk', rfl, hS', fun b o hb e => ?_⟩)
        refine hm.heap b o (fun z => ?_) (Heap.get?_push_of_some _ (Heap.get?_push_of_some _ e))
        rcases List.mem_cons.mp z with z | z
        · exact Nat.ne_of_lt hb z
        · rw [Heap.size_push] at z; exact Nat.ne_of_lt (Nat.lt_succ_of_lt hb) (List.mem_singleton.mp z)
      · cases r₂ with
        | error e => exact hr₂
        | ok fl₂ =>
          cases fl₂ with
          | ret r =>
            obtain ⟨rfl, h', tk, rfl, hS', hk'⟩ := hr₂
            (repeat (any_goals (first | assumption | wp_step)))
            exact h _ _ hS' hk'
          | _ => exact hr₂.elim
    | _ => exact hr.elim
end
end L2
set_option Elab.async false
set_option linter.all false
set_option maxRecDepth 100000
namespace L2
open PySem PySem.Spec PyProof.Rows Y
theorem slot_sit_next : Slot "set_iterator" "__next__" "set_iterator.__next__" :=
  .of (owner := "set_iterator") (n := "__next__") (by (rw [typeLookup_type, builtinLookup_eq_fast]); kernel_rfl) (by decide +kernel) (by decide +kernel) (by decide +kernel) (by first | exact .inl (by decide +kernel) | exact .inr (by decide +kernel)) (by (rw [isSubtype_type]); kernel_rfl)
theorem ent_sit_next : entryFor table "set_iterator.__next__" = some Builtin.«set_iterator.__next__» := entryFor_of_tree (by (kernel_rfl))
theorem own_sit : Manifest.owners.lookup (String.ofList ['r', 'o', 't', 'a', 'r', 'e', 't', 'i', '_', 't', 'e', 's'].reverse) = some Manifest.sig_set_iterator := by (kernel_rfl)
theorem arg_sit_next (a : Value) : argsOk "set_iterator.__next__" ⟨[a], []⟩ := by
  unfold argsOk; rw [signature?_of (id := "set_iterator.__next__") (n := ['_', '_', 't', 'x', 'e', 'n', '_', '_']) (o := ['r', 'o', 't', 'a', 'r', 'e', 't', 'i', '_', 't', 'e', 's']) (by (kernel_rfl)) own_sit]; (kernel_rfl)
theorem slot_sit_iter : Slot "set_iterator" "__iter__" "set_iterator.__iter__" :=
  .of (owner := "set_iterator") (n := "__iter__") (by (rw [typeLookup_type, builtinLookup_eq_fast]); kernel_rfl) (by decide +kernel) (by decide +kernel) (by decide +kernel) (by first | exact .inl (by decide +kernel) | exact .inr (by decide +kernel)) (by (rw [isSubtype_type]); kernel_rfl)
theorem arg_sit_iter (a : Value) : argsOk "set_iterator.__iter__" ⟨[a], []⟩ := by
  unfold argsOk; rw [signature?_of (id := "set_iterator.__iter__") (n := ['_', '_', 'r', 'e', 't', 'i', '_', '_']) (o := ['r', 'o', 't', 'a', 'r', 'e', 't', 'i', '_', 't', 'e', 's']) (by (kernel_rfl)) own_sit]; (kernel_rfl)
theorem ent_sit_iter : entryFor table "set_iterator.__iter__" = some Builtin.«dict_keyiterator.__iter__» :=
  entryFor_alias (id' := "dict_keyiterator.__iter__") (by (kernel_rfl)) (by first | rfl | decide +kernel | (unfold String.splitOn; simp +decide [String.splitOnAux])) (by decide +kernel) (by (kernel_rfl))
theorem slot_set_iter : Slot "set" "__iter__" "set.__iter__" :=
  .of (owner := "set") (n := "__iter__") (by (rw [typeLookup_type, builtinLookup_eq_fast]); kernel_rfl) (by decide +kernel) (by decide +kernel) (by decide +kernel) (by first | exact .inl (by decide +kernel) | exact .inr (by decide +kernel)) (by (rw [isSubtype_type]); kernel_rfl)
theorem own_set : Manifest.owners.lookup (String.ofList ['t', 'e', 's'].reverse) = some Manifest.sig_set := by (kernel_rfl)
theorem arg_set_iter (a : Value) : argsOk "set.__iter__" ⟨[a], []⟩ := by
  unfold argsOk; rw [signature?_of (id := "set.__iter__") (n := ['_', '_', 'r', 'e', 't', 'i', '_', '_']) (o := ['t', 'e', 's']) (by (kernel_rfl)) own_set]; (kernel_rfl)
theorem ent_set_iter : entryFor table "set.__iter__" = some Builtin.«frozenset.__iter__» :=
  entryFor_alias (id' := "frozenset.__iter__") (by (kernel_rfl)) (by first | rfl | decide +kernel | (unfold String.splitOn; simp +decide [String.splitOnAux])) (by decide +kernel) (by (kernel_rfl))
theorem set_len_look : typeLookup (.type "set") "__len__" = pure (some (.builtin "set.__len__")) := by (rw [typeLookup_type, builtinLookup_eq_fast]); (kernel_rfl)
end L2
set_option Elab.async false
set_option linter.all false
set_option maxRecDepth 100000
namespace L2
open PySem PySem.Spec PyProof.Rows Y
/-- a set's object, its walker's object -/
def setO (w : World) (f : Nat → Nat) (m ep : Nat) : Obj := { cls := .type "set", dict := none, data := .set (el4 f m).toArray ep (tab4 (ledW w) m) }
def sitO (S : Addr) (slot i n ep : Nat) : Obj := { cls := .type "set_iterator", data := .fields #[rawInt (slot : Int), rawInt (i : Int), .ref S, rawInt (n : Int), rawInt (ep : Int)] }
/-- the order in which they come -/
def ord4 (w : World) (S : Addr) (f : Nat → Nat) (m ep : Nat) : List (Int × Value) := if w.params.followText "set-order" = true then (pickOrder (w.params.setOrder S ep) (el4 f m).toArray).toList else el4 f m
def slotAt (m : Nat) : Nat → Nat
  | 0 => 0
  | i + 1 => (L4 m).getD i 0 + 1
def slotW (w : World) (m i : Nat) : Nat := if w.params.followText "set-order" = true then 0 else slotAt m i
theorem below4 : ∀ m < 16, ∀ i < 5, i ≤ (L4 m).length → SetTable.below (L4 m).toArray (slotAt m i) = i := by decide +kernel
theorem cons_erase {α : Type} : ∀ {l : List α} {i : Nat} (h : i < l.length), List.Perm (l[i] :: l.eraseIdx i) l
  | a :: l, 0, _ => List.Perm.refl _
  | a :: l, i + 1, h => by
    rw [List.getElem_cons_succ, List.eraseIdx_cons_succ]
    exact (List.Perm.swap _ _ _).trans ((cons_erase (by simpa using h)).cons a)
theorem pick_go {α : Type} (next : Nat → Nat) : ∀ (fuel k : Nat) (left : List α) (out : Array α), left.length = fuel → List.Perm (pickOrder.go next fuel k left out).toList (out.toList ++ left)
  | 0, k, left, out, h => by
    have : left = [] := List.length_eq_zero_iff.mp h
    subst this; simp [pickOrder.go]
  | fuel + 1, k, left, out, h => by
    have hlt : next k % left.length < left.length := Nat.mod_lt _ (by omega)
    have e : left[next k % left.length]? = some (left[next k % left.length]) := List.getElem?_eq_getElem hlt
    simp only [pickOrder.go, e]
    refine (pick_go next fuel (k + 1) _ _ (by rw [List.length_eraseIdx]; simp [hlt]; omega)).trans ?_
    rw [Array.toList_push, List.append_assoc]
    refine List.Perm.append_left _ ?_
    exact cons_erase hlt
theorem ord4_perm (w : World) (S : Addr) (f : Nat → Nat) (m ep : Nat) : List.Perm (ord4 w S f m ep) (el4 f m) := by
  unfold ord4; split
  · have := pick_go (w.params.setOrder S ep) (el4 f m).toArray.size 0 (el4 f m).toArray.toList #[] (by simp)
    simpa [pickOrder] using this
  · exact List.Perm.refl _
section
variable {prog : Program} {w : World} {A : Around} {E : Value → Shared → Prop} {s : Shared} {S it : Addr} {f : Nat → Nat} {m ep i : Nat}
theorem set4_type (hS : s.heap.get? S = some (setO w f m ep)) : s.TypeIs (.ref S) "set" := ⟨_, hS, rfl⟩
theorem sit_type {slot n : Nat} (h : s.heap.get? it = some (sitO S slot i n ep)) : s.TypeIs (.ref it) "set_iterator" := ⟨_, h, rfl⟩
theorem el4_fits (hm : m < 16) : (tab4 (ledW w) m).fits (el4 f m).toArray.size = true := by
  have : (el4 f m).toArray.size = (L4 m).length := by simp [el4]
  rw [this]; exact tab4_fits _ m hm
theorem iter4 {Q : Value → Shared → Prop} (hm : m < 16) (hS : s.heap.get? S = some (setO w f m ep)) (h : Q (.ref s.heap.objs.size) { s with heap := s.heap.push (sitO S 0 0 (L4 m).length ep) }) :
    wpAny (model prog w) A (pyIter (.ref S)) Q E s := by
  refine wpAny_pyIter_slot (set4_type hS) slot_set_iter (wpAny_call_entry slot_set_iter (set4_type hS) ent_set_iter ?_ (arg_set_iter _))
  unfold Builtin.«frozenset.__iter__»
  refine wpAny_bind (wpAny_of_eq (a := S) rfl ?_)
  unfold Builtin.Frozenset.sizeOf setEntries
  refine wpAny_bind (wpAny_bind (wpAny_bind (wpAny_setState_of hS rfl (el4_fits hm) (wpAny_pure (wpAny_pure ?_)))))
  unfold setDrawn setsByText
  refine wpAny_bind (wpAny_bind (wpAny_setState_of hS rfl (el4_fits hm) ?_)); dsimp only
  refine wpAny_bind (wpAny_bind (wpAny_askSetting (wpAny_pure (wpAny_pure ?_))))
  split
  · rename_i hc; exact (Bool.false_ne_true ((Bool.and_false (!w.params.followText "set-order")).symm.trans hc)).elim
  refine wpAny_bind (wpAny_pure (wpAny_bind (wpAny_setEpoch_of hS rfl (el4_fits hm) ?_)))
  have hsz : (el4 f m).toArray.size = (L4 m).length := by simp [el4]
  rw [hsz]
  exact wpAny_bind (wpAny_newObj_type (wpAny_pure ⟨_, rfl, "set_iterator", _, ⟨_, Heap.get?_push_size _ rfl, rfl⟩, slot_sit_next.lookup, h⟩))
theorem sit_self {slot n : Nat} {Q : Value → Shared → Prop} (hit : s.heap.get? it = some (sitO S slot i n ep)) (h : Q (.ref it) s) : wpAny (model prog w) A (pyIter (.ref it)) Q E s := by
  refine wpAny_pyIter_slot (sit_type hit) slot_sit_iter (wpAny_call_entry slot_sit_iter (sit_type hit) ent_sit_iter ?_ (arg_sit_iter _))
  show wpAny _ _ (ret (.ref it)) _ _ s; exact wpAny_pure ⟨_, rfl, "set_iterator", _, sit_type hit, slot_sit_next.lookup, h⟩
theorem next4 {Q : Option (Value × Nat) → Shared → Prop} (hm : m < 16) (hS : s.heap.get? S = some (setO w f m ep)) (hi : i ≤ (L4 m).length)
    (h : Q (((ord4 w S f m ep)[i]?).map fun e => (e.2, slotW w m (i + 1))) s) : wpAny (model prog w) A (setNext S (slotW w m i) i ep) Q E s := by
  unfold setNext
  refine wpAny_bind (wpAny_setState_of hS rfl (el4_fits hm) ?_); dsimp only
  unfold setsByText
  refine wpAny_bind (wpAny_bind (wpAny_askSetting (wpAny_pure ?_)))
  cases hw : w.params.followText "set-order" with
  | true =>
    split
    · split
      · rename_i hc; exact absurd hc (by simp)
      · unfold setWalk setsByText
        refine wpAny_bind (wpAny_bind (wpAny_setState_of hS rfl (el4_fits hm) ?_)); dsimp only
        refine wpAny_bind (wpAny_bind (wpAny_askSetting (wpAny_pure ?_)))
        split
        · refine wpAny_bind (wpAny_askSetting (wpAny_pure (wpAny_pure ?_)))
          have e1 : slotW w m (i + 1) = slotW w m i := by unfold slotW; rw [if_pos hw, if_pos hw]
          rw [e1] at h; unfold ord4 at h; rw [if_pos hw, Array.getElem?_toList] at h
          exact h
        · rename_i hc; exact absurd hw hc
    · rename_i hc; exact absurd hw hc
  | false =>
    split
    · rename_i hc; exact absurd (hw.symm.trans hc) Bool.false_ne_true
    · split
      · rename_i hc; exact (Bool.false_ne_true hc).elim
      · refine wpAny_bind ?_
        show wpAny _ _ (if (!(ledW w) && _) = true then _ else _) _ _ _
        have hl : ledW w = true := by unfold ledW; rw [hw]; rfl
        split
        · rename_i hc; rw [hl] at hc; exact (Bool.false_ne_true hc).elim
        · refine wpAny_pure (wpAny_pure ?_)
          have e0 : slotW w m i = slotAt m i := by unfold slotW; rw [if_neg (by rw [hw]; exact Bool.false_ne_true)]
          have e1 : slotW w m (i + 1) = slotAt m (i + 1) := by unfold slotW; rw [if_neg (by rw [hw]; exact Bool.false_ne_true)]
          have h4 : (L4 m).length ≤ 4 := List.length_filter_le _ _
          have eb : SetTable.below (tab4 (ledW w) m).place (slotAt m i) = i := below4 m hm i (by omega) hi
          unfold ord4 at h; rw [if_neg (by rw [hw]; exact Bool.false_ne_true), e1] at h
          rw [e0, eb]
          show Q (match (el4 f m).toArray[i]?, (L4 m).toArray[i]? with
            | some (_, x), some j => some (x, j + 1)
            | _, _ => none) s
          rw [List.getElem?_toArray, List.getElem?_toArray]
          by_cases hlt : i < (L4 m).length
          · have g1 : (el4 f m)[i]? = some (((L4 m)[i] : Int), Value.int ((L4 m)[i] : Int) (f (L4 m)[i])) := by
              unfold el4; rw [List.getElem?_map, List.getElem?_eq_getElem hlt]; rfl
            rw [g1] at h ⊢
            rw [List.getElem?_eq_getElem hlt]
            have g2 : slotAt m (i + 1) = (L4 m)[i] + 1 := by show (L4 m).getD i 0 + 1 = _; rw [List.getD_eq_getElem?_getD, List.getElem?_eq_getElem hlt]; rfl
            rw [g2] at h
            exact h
          · have g1 : (el4 f m)[i]? = none := List.getElem?_eq_none (by unfold el4; rw [List.length_map]; omega)
            rw [g1] at h ⊢
            exact h
theorem sit_item {n : Nat} {e : Int × Value} {Q : Option Value → Shared → Prop} (hm : m < 16) (hn : n = (L4 m).length) (hne : it ≠ S) (hit : s.heap.get? it = some (sitO S (slotW w m i) i n ep)) (hS : s.heap.get? S = some (setO w f m ep)) (he : (ord4 w S f m ep)[i]? = some e) (hi : i ≤ n)
    (hQ : ∀ h', h'.get? it = some (sitO S (slotW w m (i + 1)) (i + 1) n ep) → Heap.SameBut it s.heap h' → Q (some e.2) { s with heap := h' }) : wpAny (model prog w) A (pyNext (.ref it)) Q E s := by
  unfold pyNext
  refine wpAny_bind (wpAny_attempt (wpAny_callSpecial?_slot (name := Str.ofString "__next__") (sit_type hit) slot_sit_next (wpAny_call_entry slot_sit_next (sit_type hit) ent_sit_next ?_ (arg_sit_next _))))
  unfold Builtin.«set_iterator.__next__»
  refine wpAny_bind (wpAny_of_eq (a := (Value.ref it, [])) rfl ?_); dsimp only
  refine wpAny_bind (wpAny_fieldsOf hit rfl ?_)
  unfold setEntries
  refine wpAny_bind (wpAny_bind (wpAny_setState_of hS rfl (el4_fits hm) (wpAny_pure ?_)))
  have hsz : (el4 f m).toArray.size = n := by rw [hn]; simp [el4]
  split
  · rename_i hc; exact absurd hc (by simp [hsz])
  show wpAny _ _ (setNext S ((slotW w m i : Nat) : Int).toNat ((i : Nat) : Int).toNat ((ep : Nat) : Int).toNat >>= _) _ _ _
  rw [Int.toNat_natCast, Int.toNat_natCast, Int.toNat_natCast]
  refine wpAny_bind (next4 hm hS (hn ▸ hi) ?_); rw [he]
  refine wpAny_bind (wpAny_setField hit rfl (by simp) ?_)
  have hit1 := Heap.get?_update_self (Obj.mapFields (·.setIfInBounds 0 (rawInt ((slotW w m (i + 1) : Nat) : Int)))) hit rfl
  refine wpAny_bind (wpAny_setField hit1 rfl (by simp) ?_)
  refine wpAny_pure ⟨_, rfl, wpAny_pure (hQ _ ?_ ((Heap.SameBut.update ..).trans (Heap.SameBut.update ..)))⟩
  exact Heap.get?_update_self (Obj.mapFields (·.setIfInBounds 1 (rawInt ((i : Int) + 1)))) hit1 rfl
theorem sit_end {n : Nat} {Q : Option Value → Shared → Prop} (hh : A.handled = none) (hm : m < 16) (hn : n = (L4 m).length) (hit : s.heap.get? it = some (sitO S (slotW w m n) n n ep)) (hS : s.heap.get? S = some (setO w f m ep))
    (hQ : ∀ h' tk, Heap.ExtBut it s.heap h' → Q none { s with heap := h', toks := tk }) : wpAny (model prog w) A (pyNext (.ref it)) Q E s := by
  unfold pyNext
  refine wpAny_bind (wpAny_attempt (wpAny_callSpecial?_slot (name := Str.ofString "__next__") (sit_type hit) slot_sit_next (wpAny_call_entry slot_sit_next (sit_type hit) ent_sit_next ?_ (arg_sit_next _))))
  unfold Builtin.«set_iterator.__next__»
  refine wpAny_bind (wpAny_of_eq (a := (Value.ref it, [])) rfl ?_); dsimp only
  refine wpAny_bind (wpAny_fieldsOf hit rfl ?_)
  unfold setEntries
  refine wpAny_bind (wpAny_bind (wpAny_setState_of hS rfl (el4_fits hm) (wpAny_pure ?_)))
  have hsz : (el4 f m).toArray.size = n := by rw [hn]; simp [el4]
  split
  · rename_i hc; exact absurd hc (by simp [hsz])
  show wpAny _ _ (setNext S ((slotW w m n : Nat) : Int).toNat ((n : Nat) : Int).toNat ((ep : Nat) : Int).toNat >>= _) _ _ _
  rw [Int.toNat_natCast, Int.toNat_natCast, Int.toNat_natCast]
  have he : (ord4 w S f m ep)[n]? = none := List.getElem?_eq_none (by rw [(ord4_perm w S f m ep).length_eq, hn]; simp [el4])
  refine wpAny_bind (next4 hm hS (Nat.le_of_eq hn) ?_); rw [he]
  refine wpAny_bind (wpAny_setField hit rfl (by simp) ?_)
  (first | show wpAny _ _ (newExc (.type "StopIteration") [] >>= _) _ _ _ | (wp_delta; show wpAny _ _ (newExc (.type "StopIteration") [] >>= _) _ _ _))
  refine wpAny_bind ?_; simp only [newExc, newTuple]; refine wpAny_bind (wpAny_newObj_type ?_ (by size_fits)); refine wpAny_bind (m := firstArgMember _ _) (wpAny_of_eq (a := Value.none) (by first | rfl | (simp only [firstArgMember]; rfl)) ?_); refine wpAny_newObj_type ?_ (by size_fits)
  simp only [raiseNew]; refine wpAny_bind (wpAny_handled ?_); (first | rw [show A.in1.handled = none from hh] | rw [hh])
  refine wpAny_bind (wpAny_pure (wpAny_throw ?_)); refine wpAny_bind (wpAny_isInstance (T := "StopIteration") (b := true) ⟨_, Heap.get?_push_size _ rfl, rfl⟩ isSubtype_stop ?_)
  exact wpAny_pure (hQ _ _ (((Heap.SameBut.update ..).extBut.push _).push _))
theorem walk4 (hh : A.handled = none) (hm : m < 16) (hne : it ≠ S) : Walks prog w A it [it, S] [it] (L4 m).length (fun i v => ∃ e, (ord4 w S f m ep)[i]? = some e ∧ v = e.2)
    (fun i h => i ≤ (L4 m).length ∧ h.get? it = some (sitO S (slotW w m i) i (L4 m).length ep) ∧ h.get? S = some (setO w f m ep)) where
  sub := fun b hb => by simp at hb; simp [hb]
  frame := fun _ _ _ st hk => ⟨st.1, hk it (by simp) _ st.2.1, hk S (by simp) _ st.2.2⟩
  item := fun i s Q E hi st hQ => by
    have hlt : i < (ord4 w S f m ep).length := by rw [(ord4_perm w S f m ep).length_eq]; simpa [el4] using hi
    have he : (ord4 w S f m ep)[i]? = some (ord4 w S f m ep)[i] := List.getElem?_eq_getElem hlt
    refine sit_item hm rfl hne st.2.1 st.2.2 he st.1 fun h' hit' hs' => ?_
    exact hQ _ h' s.toks ⟨_, he, rfl⟩ ⟨hi, hit', by rw [hs'.2 S (Ne.symm hne)]; exact st.2.2⟩ fun b o hb e => hs'.extBut b o (fun h => hb (by simp [h])) e
  done := fun s Q E st hQ => sit_end hh hm rfl st.2.1 st.2.2 fun h' tk he' => hQ h' tk fun b o hb e => he' b o (fun h => hb (by simp [h])) e
  self := fun _ _ _ _ st hQ => sit_self st.2.1 hQ
end
end L2
set_option Elab.async false
set_option linter.all false
set_option maxRecDepth 100000
namespace L2
open PySem PySem.Spec PyProof.Rows Y
section
variable {prog : Program} {w : World} {A : Around} {E : Value → Shared → Prop} {s : Shared} {S : Addr} {f : Nat → Nat} {m ep : Nat}
def lst0 : Obj := { cls := .type "list", data := .seq ([] : List Value).toArray }
theorem collectSet {Q : List Value → Shared → Prop} (hh : A.handled = none) (hm : m < 16) (hS : s.heap.get? S = some (setO w f m ep))
    (hQ : ∀ h' tk, s.heap.objs.size < h'.objs.size → (∀ b o, b < s.heap.objs.size → s.heap.get? b = some o → h'.get? b = some o) → Q ((ord4 w S f m ep).map Prod.snd) { s with heap := h', toks := tk }) : wpAny (model prog w) A (collect (.ref S)) Q E s := by
  have hSlt : S < s.heap.objs.size := Heap.lt_size hS
  have nI : s.heap.objs.size ≠ S := Nat.ne_of_gt hSlt
  unfold collect
  refine wpAny_bind (wpAny_runValue (codeAny_builtin F.entry_proto_collect ?_)); rw [Around.under_plainId F.plain_proto_collect _]
  show wpAny _ A.in1 (newList [] >>= fun l => again (.builtin "list.__iadd__" ⟨[l, .ref S], []⟩)) _ _ s
  refine wpAny_bind (wpAny_newObj_type ?_); refine wpAny_pure ⟨plainId_quiet F.plain_list_iadd _, codeAny_builtin F.entry_list_iadd ?_⟩; rw [Around.under_plainId F.plain_list_iadd _]
  have new1 : (s.heap.push lst0).get? s.heap.objs.size = some lst0 := (Heap.get?_push_size _ rfl)
  have hS1 : (s.heap.push lst0).get? S = some (setO w f m ep) := Heap.get?_push_of_some _ hS
  have h1 : Builtin.List.listSameRef (.ref s.heap.objs.size) (.ref S) = false := by (simp [Builtin.List.listSameRef, nI])
  show wpAny _ A.in1 (Builtin.List.listExtendWith (.ref s.heap.objs.size) (.ref S) (.ref s.heap.objs.size)) _ _ { s with heap := s.heap.push lst0 }; unfold Builtin.List.listExtendWith
  have hT : Shared.TypeIs { s with heap := s.heap.push lst0 } (.ref S) "set" := set4_type (w := w) (f := f) (m := m) (ep := ep) (s := { s with heap := s.heap.push lst0 }) hS1
  refine wpAny_bind (wpAny_typeOf hT ?_)
  rw [if_neg (by rw [h1]; decide)]
  refine wpAny_bind (iter4 (s := { s with heap := s.heap.push lst0 }) hm hS1 ?_)
  have hS2 : ((s.heap.push lst0).push (sitO S 0 0 (L4 m).length ep)).get? S = some (setO w f m ep) := Heap.get?_push_of_some _ hS1
  have hT2 : Shared.TypeIs { s with heap := (s.heap.push lst0).push (sitO S 0 0 (L4 m).length ep) } (.ref S) "set" := set4_type (w := w) (f := f) (m := m) (ep := ep) (s := { s with heap := (s.heap.push lst0).push (sitO S 0 0 (L4 m).length ep) }) hS2
  refine wpAny_bind (wpAny_holding ?_)
  unfold Builtin.List.listLengthHint
  refine wpAny_bind (wpAny_specialOf hT2 set_len_look ?_)
  generalize hid : ("set.__len__" : String) = id0
  wp_delta
  rw [show splitId id0 = some ("set", "__len__") from by subst hid; decide +kernel]
  subst hid
  refine wpAny_bind (wpAny_isInstance (b := true) hT2 (by rw [isSubtype_type]; kernel_rfl) ?_)
  rw [if_neg (by decide), if_pos (by decide +kernel)]
  refine wpAny_bind (wpAny_typeOf hT2 (wpAny_pure ?_))
  rw [if_pos (by decide +kernel)]
  refine wpAny_bind (wpAny_rule (wpAny_bind ?_))
  have new2 : ((s.heap.push lst0).push (sitO S 0 0 (L4 m).length ep)).get? s.heap.objs.size = some lst0 := Heap.get?_push_of_some _ new1
  show wpAny _ A.in1 (updateSeq s.heap.objs.size (·.push .none) >>= fun _ => updateSeq s.heap.objs.size (·.pop)) _ _ _
  refine wpAny_bind (wpAny_updateSeq new2 rfl ?_)
  have new3 := Heap.get?_update_self (Obj.mapSeq (·.push Value.none)) new2 rfl
  refine wpAny_updateSeq new3 rfl ?_
  have new4 := Heap.get?_update_self (Obj.mapSeq (·.pop)) new3 rfl
  have itl : s.heap.objs.size ≠ (s.heap.push lst0).objs.size := by rw [Heap.size_push]; exact Nat.ne_of_lt (Nat.lt_succ_self _)
  have neS : (s.heap.push lst0).objs.size ≠ S := by rw [Heap.size_push]; exact Nat.ne_of_gt (Nat.lt_succ_of_lt hSlt)
  have it2 : ((s.heap.push lst0).push (sitO S 0 0 (L4 m).length ep)).get? (s.heap.push lst0).objs.size = some (sitO S 0 0 (L4 m).length ep) := Heap.get?_push_size _ rfl
  have oth : ∀ b o, b ≠ s.heap.objs.size → ((s.heap.push lst0).push (sitO S 0 0 (L4 m).length ep)).get? b = some o → ((((s.heap.push lst0).push (sitO S 0 0 (L4 m).length ep)).update s.heap.objs.size (Obj.mapSeq (·.push Value.none))).update s.heap.objs.size (Obj.mapSeq (·.pop))).get? b = some o :=
    fun b o hb e => (Heap.get?_update_other _ _ (Ne.symm hb)).trans ((Heap.get?_update_other _ _ (Ne.symm hb)).trans e)
  have s0 : slotW w m 0 = 0 := by unfold slotW slotAt; split <;> rfl
  have hn4 : (L4 m).length ≤ sizeLine := Nat.le_trans (List.length_filter_le _ _) (by decide)
  have nS : s.heap.objs.size ∉ [(s.heap.push lst0).objs.size, S] := fun z => by
    rcases List.mem_cons.mp z with z | z
    · exact itl z
    · exact nI (List.mem_singleton.mp z)
  refine wpAny_pure ⟨plainId_quiet F.plain_extend_loop _, codeAny_extend_loopS ((walk4 (f := f) (ep := ep) (show A.in1.handled = none by simp [hh]) hm neS).toS) hn4 _ nS _ (L4 m).length 0 _ _ _ rfl (Nat.zero_le _) ⟨Nat.zero_le _, by rw [s0]; exact oth _ _ (Ne.symm itl) it2, oth _ _ (Ne.symm nI) hS2⟩ new4 (ItemsOf.nil _) fun s' acc' c' hmv hS' hacc => ?_⟩
  show wpAny _ A (load s.heap.objs.size >>= _) _ _ s'; refine wpAny_bind (wpAny_load hS' ?_)
  obtain ⟨h', g', d', tk', os'⟩ := s'
  obtain rfl : g' = s.gens := hmv.gens
  obtain rfl : d' = s.drawn := hmv.drawn
  obtain rfl : os' = s.os := hmv.os
  have eacc : acc'.toList = (ord4 w S f m ep).map Prod.snd := by
    have hlo : (ord4 w S f m ep).length = (L4 m).length := by rw [(ord4_perm w S f m ep).length_eq]; simp [el4]
    refine List.ext_getElem? fun j => ?_
    rw [Array.getElem?_toList, List.getElem?_map]
    by_cases hj : j < (L4 m).length
    · have e1 : acc'[j]? = some (acc'[j]'(by rw [hacc.1]; exact hj)) := Array.getElem?_eq_getElem _
      obtain ⟨e, he, hv⟩ := hacc.2 j _ e1
      rw [e1, he, hv]; rfl
    · rw [Array.getElem?_eq_none (by rw [hacc.1]; omega), List.getElem?_eq_none (by omega)]; rfl
  refine wpAny_pure ?_
  rw [eacc]
  refine hQ h' tk' (Heap.lt_size hS') fun b o hb e => ?_
  have hb1 : b ≠ s.heap.objs.size := Nat.ne_of_lt hb
  refine hmv.heap b o (fun z => ?_) (oth b o hb1 (Heap.get?_push_of_some _ (Heap.get?_push_of_some _ e)))
  rcases List.mem_cons.mp z with z | z
  · exact hb1 z
  · have z' := List.mem_singleton.mp z
    rw [Heap.size_push] at z'; exact Nat.ne_of_lt (Nat.lt_succ_of_lt hb) z'
end
end L2
set_option Elab.async false
set_option linter.all false
set_option maxRecDepth 100000
namespace L2
open PySem PySem.Spec PyProof.Rows Y
theorem L4_sorted (m : Nat) : ((L4 m).map fun (k : Nat) => (k : Int)).Pairwise (· ≤ ·) := by
  refine List.pairwise_map.mpr ?_
  have : ([0, 1, 2, 3] : List Nat).Pairwise (fun (a b : Nat) => (a : Int) ≤ (b : Int)) := by decide
  exact this.sublist (List.filter_sublist)
theorem ints_el4 : ∀ (l : List (Int × Value)), (∀ e ∈ l, ∃ t, e.2 = .int e.1 t) → IntsAre (l.map Prod.snd) (l.map Prod.fst)
  | [], _ => .nil
  | (i, v) :: l, h => by
    obtain ⟨t, e⟩ := h (i, v) List.mem_cons_self
    have e' : v = .int i t := e
    subst e'
    exact .cons i t (ints_el4 l fun e he => h e (List.mem_cons_of_mem _ he))
section
variable {prog : Program} {w : World} {A : Around} {E : Value → Shared → Prop} {s : Shared} {S : Addr} {m : Nat}
theorem sortedSet {Q : Value → Shared → Prop} (hh : A.handled = none) (hS : SetM (ledW w) s.heap S m)
    (hQ : ∀ h' tk a (out : List Value) c, s.heap.objs.size ≤ a → h'.get? a = some { cls := .type "list", data := .seq out.toArray c } → IntsAre out ((L4 m).map fun (k : Nat) => (k : Int)) → (∀ b o, b < s.heap.objs.size → s.heap.get? b = some o → h'.get? b = some o) → Q (.ref a) { s with heap := h', toks := tk }) :
    wpAny (model prog w) A (call (.builtin "sorted") [.ref S]) Q E s := by
  obtain ⟨hm, o, ep, f, ho, hex, hd⟩ := hS
  have hS : s.heap.get? S = some (setO w f m ep) := by
    rw [ho]; obtain ⟨h1, h2, h3⟩ := hex; cases o; simp only at h1 h2 h3 hd; subst h1 h2 h3 hd; rfl
  refine Calls.call_function_entry kind_sorted plain_sorted entry_sorted (args_sorted1 _) ?_
  unfold Builtin.«sorted»
  refine wpAny_bind (m := checkCount "sorted" 1 1 _) (wpAny_pure ?_); refine wpAny_bind (collectSet (show A.in1.handled = none by simp [hh]) hm hS fun h1 tk hlt1 hk => ?_)
  have hp := ord4_perm w S f m ep
  have hl4 : (ord4 w S f m ep).length ≤ 4 := by rw [hp.length_eq]; simp only [el4, List.length_map]; exact List.length_filter_le _ _
  refine wpAny_bind (wpAny_newList ?_ (Nat.le_trans (by rw [List.length_map]; exact hl4) (by decide)))
  have hI : IntsAre ((ord4 w S f m ep).map Prod.snd) ((ord4 w S f m ep).map Prod.fst) := ints_el4 _ fun e he => by
    obtain ⟨k, _, rfl⟩ := List.mem_map.mp (hp.mem_iff.mp he)
    exact ⟨_, rfl⟩
  have hoL : (h1.push { cls := .type "list", data := .seq ((ord4 w S f m ep).map Prod.snd).toArray }).get? h1.objs.size = some (seqObj "list" ((ord4 w S f m ep).map Prod.snd).toArray 0) := Heap.get?_push_size _ rfl
  refine wpAny_bind (wpAny_holding (wpAny_call_entry slot_list_sort ⟨_, hoL, rfl⟩ entry_list_sort (list_sort_tree (s := { s with heap := h1.push { cls := .type "list", data := .seq ((ord4 w S f m ep).map Prod.snd).toArray }, toks := tk }) hoL hI (by rw [List.length_map]; omega) fun out ns' a1 a2 a3 => ⟨_, rfl, ?_⟩) (args_list_sort _)))
  obtain ⟨c, hc⟩ := sortedHeap_at (out := out) hoL
  have hge : s.heap.objs.size ≤ h1.objs.size := Nat.le_of_lt hlt1
  have hns : ns' = (L4 m).map fun (k : Nat) => (k : Int) := by
    refine PySem.W.ksm_same (a2.trans ((hp.map Prod.fst).trans ?_)) a3 (L4_sorted m)
    unfold el4; rw [List.map_map]; exact List.Perm.refl _
  subst hns
  refine wpAny_pure ⟨_, rfl, hQ _ tk _ out.toList c hge (by simpa using hc) a1 fun b o hb e => ?_⟩
  have hb1 := hk b o hb e
  have hlt := Heap.lt_size hb1
  rw [sortedHeap_old (Nat.ne_of_lt hlt) (by rw [Heap.size_push]; exact Nat.lt_succ_of_lt hlt)]
  exact Heap.get?_push_of_some _ hb1
end
end L2
set_option Elab.async false
set_option linter.all false
set_option maxRecDepth 100000
namespace L2
open PySem PySem.Spec PyProof.Rows Y
theorem or4s_bit (val : Nat → Nat) (k : Nat) : ∀ (c i m : Nat), (or4s val c i m).testBit k = (m.testBit k || (List.range c).any fun j => val (i + j) == k)
  | 0, i, m => by simp [or4s]
  | c + 1, i, m => by
    rw [or4s, or4s_bit val k c (i + 1), Nat.testBit_or, Nat.testBit_two_pow, List.range_succ_eq_map, List.any_cons, List.any_map, Bool.or_assoc]
    congr 1
    have e : (decide (val i = k)) = (val (i + 0) == k) := by rw [Nat.add_zero]; rfl
    rw [e]
    congr 1
    congr 1
    funext j
    show (val (i + 1 + j) == k) = (val (i + (j + 1)) == k)
    rw [show i + 1 + j = i + (j + 1) by omega]
theorem ints_vals {vs : List Value} {ns : List Int} (h : IntsAre vs ns) : Vals (ns.map V.int) vs := by
  induction h with
  | nil => exact .nil
  | cons n t _ ih => exact .cons ⟨t, rfl⟩ ih
theorem of_in4 : ∀ {xs : List PyData}, xs.all in4 = true → ∃ ys : List Nat, xs = ys.map (fun (k : Nat) => PyData.int (k : Int)) ∧ ∀ k ∈ ys, k < 4
  | [], _ => ⟨[], rfl, fun k hk => by cases hk⟩
  | x :: xs, h => by
    rw [List.all_cons, Bool.and_eq_true] at h
    obtain ⟨ys, rfl, h2⟩ := of_in4 h.2
    obtain ⟨i, rfl, h0, h4⟩ : ∃ i : Int, x = .int i ∧ 0 ≤ i ∧ i < 4 := by
      cases x <;> first | (rename_i i; exact ⟨i, rfl, by simpa [in4] using h.1⟩) | (exact absurd h.1 (by simp [in4]))
    obtain ⟨k, rfl⟩ := Int.eq_ofNat_of_zero_le h0
    exact ⟨k :: ys, rfl, fun j hj => by
      rcases List.mem_cons.mp hj with z | z
      · rw [z]; omega
      · exact h2 j z⟩
theorem isDs_nats {K : PySem.W.Frag} {H : Hp} : ∀ {ys : List Nat} {vs : List V}, IsDs K H (ys.map fun (k : Nat) => PyData.int (k : Int)) vs → vs = ys.map fun (k : Nat) => V.int (k : Int)
  | [], vs, h => by simpa [IsDs] using h
  | y :: ys, vs, h => by
    simp only [List.map_cons, IsDs, IsD] at h
    obtain ⟨v, r, rfl, rfl, h2⟩ := h
    rw [isDs_nats h2]; rfl
theorem nats_isDs {K : PySem.W.Frag} {H : Hp} : ∀ (ys : List Nat), IsDs K H (ys.map fun (k : Nat) => PyData.int (k : Int)) (ys.map fun (k : Nat) => V.int (k : Int))
  | [] => isDs_nil
  | y :: ys => by
    simp only [List.map_cons, IsDs]
    exact ⟨_, _, rfl, isD_int, nats_isDs ys⟩
theorem sort4_eq (ys : List Nat) : sort4 (ys.map fun (k : Nat) => PyData.int (k : Int)) = (L4 (or4s (fun i => ys.getD i 0) ys.length 0 0)).map fun (k : Nat) => PyData.int (k : Int) := by
  unfold sort4 L4
  congr 1
  refine List.filter_congr fun k _ => ?_
  rw [or4s_bit, Nat.zero_testBit, Bool.false_or, List.any_map]
  rw [Bool.eq_iff_iff, List.any_eq_true, List.any_eq_true]
  constructor
  · rintro ⟨y, hy, hk⟩
    obtain ⟨i, hi, rfl⟩ := List.getElem_of_mem hy
    have hk2 : ((ys[i] : Nat) : Int) = (k : Int) := by simpa [isK] using hk
    have hk' : ys[i] = k := by omega
    exact ⟨i, List.mem_range.mpr hi, by simp [List.getD_eq_getElem?_getD, List.getElem?_eq_getElem hi, hk']⟩
  · rintro ⟨i, hi, hk⟩
    have hi' := List.mem_range.mp hi
    refine ⟨ys[i], List.getElem_mem hi', ?_⟩
    have hk' : ys[i] = k := by simpa [List.getD_eq_getElem?_getD, List.getElem?_eq_getElem hi'] using hk
    simp [isK, hk']
section
variable {X : Cx} {K : PySem.W.Frag} {Ew : Str → Hp → Prop} {pos pos2 p p2 : Pos} {a : Expr} {ta : TE} {fa : EF}
def tSortSet (K : PySem.W.Frag) (ta : TE) : TE := fun σ H Q => ta σ H fun x H1 => ∃ q, ∃ ys : List Nat, x = .ref q ∧ SqL K H1 q (ys.map fun (k : Nat) => V.int (k : Int)) ∧ (∀ k ∈ ys, k < 4) ∧ ∀ t, H1 t = none → Q (.ref t) (upd H1 t (.lst ((L4 (or4s (fun i => ys.getD i 0) ys.length 0 0)).map fun (k : Nat) => V.int (k : Int))))
theorem pe_sortSet (hc : X.calm = true) (hg : Gl X "sorted") (hm : X.mg "sorted" = none) (hg2 : Gl X "set") (hm2 : X.mg "set" = none) (ha : PE X a ta)
    (hs : starEach [a] X.env = (false, eval a X.env) :: starEach [] X.env := by rfl) (hpl : (backTo pos2 (starEach [] X.env)).any (·.1) = false := by rfl)
    (hs2 : starEach [.Call (.Name "set" p2) [a] [] pos2] X.env = (false, eval (.Call (.Name "set" p2) [a] [] pos2) X.env) :: starEach [] X.env := by rfl) (hpl2 : (backTo pos (starEach [] X.env)).any (·.1) = false := by rfl)
    (hnil : backTo pos (starEach [] X.env) = [] := by rfl) :
    PE X (.Call (.Name "sorted" p) [.Call (.Name "set" p2) [a] [] pos2] [] pos) (tSortSet X.K ta) := by
  intro pins s σ H Q I h
  refine wpAny_Call_Name_kw (ld_blt I hg hm PyProof.Rows.boot_sorted ?_)
  refine PyProof.Rows.callWith_builtin1 ?_ hs2 hpl2
  rw [hs2]
  show wpAny _ _ (spliced ((false, eval (.Call (.Name "set" p2) [a] [] pos2) X.env) :: backTo pos (starEach [] X.env))) _ _ s
  refine Calls.spliced_cons (wpAny_Call_Name_kw (ld_blt I hg2 hm2 PyProof.Rows.boot_set ?_))
  refine PyProof.Rows.callWith_type1 (thn (pa_cons ha pa_nil hs pos2 pins s σ H (fun vs H1 => match vs with
    | [x] => ∃ q, ∃ ys : List Nat, x = .ref q ∧ SqL X.K H1 q (ys.map fun (k : Nat) => V.int (k : Int)) ∧ (∀ k ∈ ys, k < 4) ∧ ∀ t, H1 t = none → Q (.ref t) (upd H1 t (.lst ((L4 (or4s (fun i => ys.getD i 0) ys.length 0 0)).map fun (k : Nat) => V.int (k : Int))))
    | _ => False) I h) fun us s1 ⟨vs, H1, I1, r1, q1⟩ => ?_) hs hpl
  match vs, r1, q1 with
  | [x], r1, q1 =>
    obtain ⟨q, ys, rfl, hq, h4, fin⟩ := q1
    obtain ⟨u, rfl, ru⟩ := r1.one
    cases ru
    obtain ⟨its, rv, pl, hz⟩ := I1.list hq
    have hh : X.A.handled = none := I1.ok.hd hc
    have hl := rv.length
    rw [List.length_map] at hl
    refine call_set4 (w := X.w) hh pl.isList (val := fun i => ys.getD i 0) (fun i v e => ?_) fun h' tk hM hk => ?_
    · rw [List.getElem?_toArray] at e
      have hi : i < ys.length := by have := (List.getElem?_eq_some_iff.mp e).1; omega
      have e1 : (ys.map fun (k : Nat) => V.int (k : Int))[i]? = some (.int ((ys.getD i 0 : Nat) : Int)) := by
        rw [List.getElem?_map, List.getD_eq_getElem?_getD, List.getElem?_eq_getElem hi]; rfl
      obtain ⟨u, hu, ru⟩ := rv.get e1
      rw [hu] at e; cases e
      exact ⟨h4 _ (by rw [List.getD_eq_getElem?_getD, List.getElem?_eq_getElem hi]; exact List.getElem_mem hi), ru⟩
    · rw [hnil]
      refine Calls.spliced_nil ?_
      have esz : its.toArray.size = ys.length := by rw [List.size_toArray]; exact hl.symm
      rw [esz] at hM
      have hfr := I1.fresh
      have I2 : Inv X pins σ H1 { s1 with heap := h', toks := tk } := I1.kept (t' := tk) fun b u e => hk b u (Heap.lt_size e) e
      refine sortedSet hh hM fun h2 tk2 a out c hge hat hints hk2 => ?_
      refine ⟨.ref a, _, I2.laid (t' := tk2) (a := a) (o := .lst ((L4 (or4s (fun i => ys.getD i 0) ys.length 0 0)).map fun (k : Nat) => V.int (k : Int))) (fun b u e => hk2 b u (Heap.lt_size e) e) hge ⟨?_, out, c, ?_, hat⟩, rfl, fin _ (I2.hok.fresh hge)⟩
      · rw [List.length_map]; exact Nat.le_trans (List.length_filter_le _ _) (by decide)
      · have := ints_vals hints; rw [List.map_map] at this; exact this
  | [], r1, q1 => exact False.elim q1
  | _ :: _ :: _, r1, q1 => exact False.elim q1
theorem de_sortSet (hc : X.calm = true) (hg : Gl X "sorted") (hm : X.mg "sorted" = none) (hg2 : Gl X "set") (hm2 : X.mg "set" = none) (ha : DE X K Ew a fa) (hK : X.K = K := by rfl)
    (hs : starEach [a] X.env = (false, eval a X.env) :: starEach [] X.env := by rfl) (hpl : (backTo pos2 (starEach [] X.env)).any (·.1) = false := by rfl)
    (hs2 : starEach [.Call (.Name "set" p2) [a] [] pos2] X.env = (false, eval (.Call (.Name "set" p2) [a] [] pos2) X.env) :: starEach [] X.env := by rfl) (hpl2 : (backTo pos (starEach [] X.env)).any (·.1) = false := by rfl)
    (hnil : backTo pos (starEach [] X.env) = [] := by rfl) :
    DE X K Ew (.Call (.Name "sorted" p) [.Call (.Name "set" p2) [a] [] pos2] [] pos) (eUn gSortSet fa) := (pe_sortSet hc hg hm hg2 hm2 ha hs hpl hs2 hpl2 hnil).imp fun σ H Q q => by
  obtain ⟨B, φ, Γ, r0, q⟩ := q
  refine ⟨B, φ, Γ, r0, (q.bind r0).mono fun u H1 s1 ⟨k, x, e1, v1, r1, _, q1⟩ => ?_⟩
  obtain ⟨z, e, q⟩ := runs_mo (kf := fun _ => .fr []) q1
  cases x <;> simp only [gSortSet] at e <;> try (cases e; done)
  split at e
  · rename_i xs hn
    cases e
    obtain ⟨ys, rfl, h4⟩ := of_in4 hn
    obtain ⟨p, vs, rfl, h1, h2⟩ := of_isD_lst (v1.toD r1.bs)
    have e2 := isDs_nats h2
    subst e2
    rw [hK]
    refine ⟨p, ys, rfl, h1, h4, fun t ht => q _ _ (s1.trans (Same.upd ht)) (VR.fresh.mpr ?_)⟩
    rw [sort4_eq]
    refine Fresh.lst (nols_map _ (fun _ => rfl) _) upd_same ?_ (s1.free ht)
    generalize L4 (or4s (fun i => ys.getD i 0) ys.length 0 0) = l
    exact nats_isDs l
  · cases e
end
end L2
set_option Elab.async false
set_option linter.all false
set_option maxRecDepth 100000
namespace L2
open PySem PySem.Spec PyProof.Rows Y
section
variable {X : Cx}
theorem opd_ge : OpD X (compareOp .GtE) gGe := OpD.ints0 op_ge fun x y z e => by
  cases x <;> cases y <;> simp only [gGe] at e <;> cases e
  exact ⟨_, _, rfl, rfl, rfl, fun _ _ => isD_bl⟩
end
end L2
set_option Elab.async false
set_option linter.all false
set_option maxRecDepth 100000
/-! ### a sort as a tree of questions: which are asked, what comes of it -/
namespace L2
open PySem PySem.Spec PyProof.Rows PySem.W Y
def Prm (N : Nat) (p : Array Nat) : Prop := p.toList.Perm (List.range N)
section
variable {N : Nat}
theorem Prm.getD {p : Array Nat} (h : Prm N p) (h0 : 0 < N) (i : Nat) : p.getD i 0 < N := by
  by_cases hi : i < p.size
  · have e : p.getD i 0 = p[i] := by simp [Array.getD, hi]
    rw [e]; exact List.mem_range.mp (h.mem_iff.mp (by simp))
  · have e : p.getD i 0 = 0 := by simp [Array.getD, hi]
    rw [e]; exact h0
theorem Prm.of {p q : Array Nat} (h : Prm N p) (e : q.Perm p) : Prm N q := (Array.Perm.toList e).trans h
variable (h0 : 0 < N)
include h0
end
end L2
set_option Elab.async false
set_option linter.all false
set_option maxRecDepth 100000
namespace L2
open PySem PySem.Spec PyProof.Rows PySem.W Y
def PairAt (h : Heap) (p : Int × Int) (v : Value) : Prop := ∃ a o t u n, v = .ref a ∧ h.get? a = some o ∧ o.cls = .type "tuple" ∧ o.data = .seq #[.int p.1 t, .int p.2 u] n
theorem PairAt.kept {h h' : Heap} {p : Int × Int} {v : Value} (k : ∀ b o, h.get? b = some o → o.cls = .type "tuple" → h'.get? b = some o) (q : PairAt h p v) : PairAt h' p v := by
  obtain ⟨a, o, t, u, n, h1, h2, h3, h4⟩ := q
  exact ⟨a, o, t, u, n, h1, k _ _ h2 h3, h3, h4⟩
end L2
set_option Elab.async false
set_option linter.all false
set_option maxRecDepth 100000
namespace L2
open PySem PySem.Spec PyProof.Rows PySem.W Y
/-! ### by data -/
end L2
set_option Elab.async false
set_option linter.all false
set_option maxRecDepth 100000
namespace Y
open PySem
theorem nol_int (i : Int) : nol (.int i) = true := rfl
theorem nol_non : nol .none = true := rfl
theorem nol_bl (b : Bool) : nol (.bool b) = true := rfl
theorem nol_str (b : Str) : nol (.str b) = true := rfl
theorem nol_lst (xs : List PyData) : nol (.list xs) = false := rfl
theorem nol_tup (xs : List PyData) : nol (.tuple xs) = nols xs := rfl
theorem nrm_t {k : Kd} {d : PyData} (h : nol d = true) : nrm k d = .fr [] := by unfold nrm; rw [if_pos h]
theorem nrm_int (k : Kd) (i : Int) : nrm k (.int i) = .fr [] := rfl
theorem nrm_bl (k : Kd) (i : Bool) : nrm k (.bool i) = .fr [] := rfl
theorem nrm_str (k : Kd) (i : Str) : nrm k (.str i) = .fr [] := rfl
theorem nrm_non (k : Kd) : nrm k .none = .fr [] := rfl
theorem nrm_lst (k : Kd) (xs : List PyData) : nrm k (.list xs) = k := rfl
theorem nrm_dct (k : Kd) (xs : List (PyData × PyData)) : nrm k (.dict xs) = k := rfl
theorem nrm_tup {k : Kd} {xs : List PyData} (h : nols xs = true) : nrm k (.tuple xs) = .fr [] := nrm_t h
theorem nols_ints (l : List Int) : nols (l.map PyData.int) = true := nols_map _ (fun _ => rfl) l
theorem gAdd_int (i j : Int) : gAdd (.int i) (.int j) = some (.int (i + j)) := rfl
theorem gSub_int (i j : Int) : gSub (.int i) (.int j) = some (.int (i - j)) := rfl
theorem gMul_int {i j : Int} (h : (-(2 ^ 64) < i ∧ i < 2 ^ 64) ∨ (-(2 ^ 64) < j ∧ j < 2 ^ 64)) : gMul (.int i) (.int j) = some (.int (i * j)) := if_pos h
theorem gFdiv_int {i j : Int} (h : 0 < j ∧ j < 2 ^ 64) : gFdiv (.int i) (.int j) = some (.int (i / j)) := if_pos h
theorem gMod_int {i j : Int} (h : 0 < j) : gMod (.int i) (.int j) = some (.int (i % j)) := if_pos h
theorem gPow_int {i j : Int} (h : 0 ≤ j ∧ j ≤ 1000000 ∧ i.natAbs < 2 ^ 64) : gPow (.int i) (.int j) = some (.int (i ^ j.toNat)) := if_pos h
theorem gLt_int (i j : Int) : gLt (.int i) (.int j) = some (.bool (decide (i < j))) := rfl
theorem gLe_int (i j : Int) : gLe (.int i) (.int j) = some (.bool (decide (i ≤ j))) := rfl
theorem gGt_int (i j : Int) : gGt (.int i) (.int j) = some (.bool (decide (j < i))) := rfl
theorem gNeg_int (i : Int) : gNeg (.int i) = some (.int (-i)) := rfl
theorem gEq_int (i j : Int) : gEq (.int i) (.int j) = some (.bool (i == j)) := rfl
theorem gNe_int (i j : Int) : gNe (.int i) (.int j) = some (.bool (!(i == j))) := rfl
theorem gIs_non (x : PyData) : gIs x .none = some (.bool (isNon x)) := rfl
theorem gIsNot_non (x : PyData) : gIsNot x .none = some (.bool (!isNon x)) := rfl
theorem gLen_list (xs : List PyData) : gLen [.list xs] = some (.int xs.length) := rfl
theorem gLen_tup (xs : List PyData) : gLen [.tuple xs] = some (.int xs.length) := rfl
theorem gIx_list (xs : List PyData) (i : Int) : gIx (.list xs) (.int i) = atD xs i := rfl
theorem gIx_tup (xs : List PyData) (i : Int) : gIx (.tuple xs) (.int i) = atD xs i := rfl
theorem atD_nat {α : Type} {xs : List α} {j : Nat} {v : α} (h : xs[j]? = some v) : atD xs (j : Int) = some v := by
  have hj : j < xs.length := (List.getElem?_eq_some_iff.mp h).1
  have e : ixN xs.length (j : Int) = some j := by
    unfold ixN
    rw [if_pos (by omega), if_pos (by omega)]; simp
  unfold atD; rw [e]; exact h
theorem atD_int {α : Type} {xs : List α} {i : Int} {v : α} (h0 : 0 ≤ i) (h : xs[i.toNat]? = some v) : atD xs i = some v := by
  obtain ⟨j, rfl⟩ := Int.eq_ofNat_of_zero_le h0
  exact atD_nat (by simpa using h)
theorem gNe_d {x y : PyData} (hx : lay 60 x = true) (hy : lay 60 y = true) : gNe x y = some (.bool (!PyData.eqv x y)) := by unfold gNe; rw [hx, hy]; rfl
theorem gIn_list {x : PyData} {ys : List PyData} (hx : lay 60 x = true) (hy : lays 60 ys = true) : gIn x (.list ys) = some (.bool (inAny ys x)) := by simp only [gIn, hx, hy, Bool.and_self, if_true]
theorem gNotIn_tup {x : PyData} {ys : List PyData} (hx : lay 60 x = true) (hy : lays 60 ys = true) : gNotIn x (.tuple ys) = some (.bool (!inAny ys x)) := by simp only [gNotIn, hx, hy, Bool.and_self, if_true]
theorem gList_list {xs : List PyData} (h : nols xs = true) : gList [.list xs] = some (.list xs) := if_pos h
theorem gTuple_list {xs : List PyData} (h : nols xs = true) : gTuple [.list xs] = some (.tuple xs) := if_pos h
theorem gRevT_list {xs : List PyData} (h : nols xs = true) : gRevT (.list xs) = some (.tuple xs.reverse) := if_pos h
theorem rng1_int {n : Int} (h : -(2 ^ 62) ≤ n ∧ n < 2 ^ 62) : rng1 (.int n) = mret (.fr [], (List.range n.toNat).map fun (i : Nat) => PyData.int (i : Int)) := if_pos h
theorem inAny_ints (l : List Int) (x : Int) : inAny (l.map PyData.int) (.int x) = decide (x ∈ l) := by
  unfold inAny
  induction l with
  | nil => rfl
  | cons y l ih =>
    rw [List.map_cons, List.any_cons, ih]
    have e : PyData.eqv (.int y) (.int x) = (y == x) := by simp [PyData.eqv]
    rw [e]
    by_cases h : y = x
    · subst h; simp
    · have h' : ¬ x = y := fun z => h z.symm
      simp [h, h']
/-- a for whose turns go on, by an invariant -/
theorem forD_inv {g : GF} {b : SF} {ds : List PyData} {Γ : DEnv} (P : Nat → DEnv → Prop) (h0 : P 0 Γ)
    (hs : ∀ (i : Nat) (d : PyData) (Γ : DEnv), ds[i]? = some d → P i Γ → ∃ Γ1 Γ2, g (nrm .base d) d Γ = some Γ1 ∧ (b Γ1 = mret (.nx Γ2) ∨ b Γ1 = mret (.ct Γ2)) ∧ P (i + 1) Γ2) :
    ∃ Γ', forD g b ds Γ = mret (.nx Γ') ∧ P ds.length Γ' := by
  induction ds generalizing Γ P with
  | nil => exact ⟨Γ, rfl, h0⟩
  | cons d ds ih =>
    obtain ⟨Γ1, Γ2, h1, h2, h3⟩ := hs 0 d Γ rfl h0
    obtain ⟨Γ', h4, h5⟩ := ih (Γ := Γ2) (fun i => P (i + 1)) h3 fun i d' Γ' hd hp => hs (i + 1) d' Γ' (by simpa using hd) hp
    refine ⟨Γ', ?_, by simpa using h5⟩
    simp only [forD, h1, mo_some, mbind_ret]
    rcases h2 with h2 | h2 <;> (rw [h2]; exact h4)
end Y
namespace Y
open PySem
theorem range_get {n i : Nat} {d : PyData} (h : ((List.range n).map fun (i : Nat) => PyData.int (i : Int))[i]? = some d) : d = .int (i : Int) ∧ i < n := by
  rw [List.getElem?_map] at h
  by_cases hi : i < n
  · rw [List.getElem?_range hi] at h
    exact ⟨(Option.some.inj h).symm, hi⟩
  · rw [List.getElem?_eq_none (by simpa using hi)] at h
    cases h
theorem ints_get {l : List Int} {i : Nat} {d : PyData} (h : (l.map PyData.int)[i]? = some d) : ∃ z, d = .int z ∧ l[i]? = some z := by
  rw [List.getElem?_map] at h
  cases e : l[i]? with
  | none => rw [e] at h; cases h
  | some z => rw [e] at h; exact ⟨z, (Option.some.inj h).symm, rfl⟩
/-- a comprehension whose elements are known -/
theorem compD_map {fe : EF} {cap : DEnv} (ds : List PyData) (f : PyData → Kd × PyData) (h : ∀ d ∈ ds, fe (some (false, d) :: cap) = mret (f d)) : compD tYesF fe cap ds = some (ds.map f) := by
  induction ds with
  | nil => rfl
  | cons d ds ih =>
    have h1 := h d List.mem_cons_self
    simp only [compD, tYesF, mret] at h1 ⊢
    rw [h1, ih fun x hx => h x (List.mem_cons_of_mem _ hx)]
    rfl
theorem compD_filter {ft : TF} {fe : EF} {cap : DEnv} (ds : List PyData) (p : PyData → Bool) (f : PyData → Kd × PyData) (ht : ∀ d ∈ ds, ft (some (false, d) :: cap) = mret (p d)) (h : ∀ d ∈ ds, p d = true → fe (some (false, d) :: cap) = mret (f d)) : compD ft fe cap ds = some ((ds.filter p).map f) := by
  induction ds with
  | nil => rfl
  | cons d ds ih =>
    have h0 := ht d List.mem_cons_self
    have ih' := ih (fun x hx => ht x (List.mem_cons_of_mem _ hx)) fun x hx => h x (List.mem_cons_of_mem _ hx)
    simp only [compD, mret] at h0 ⊢
    rw [h0]
    cases hp : p d with
    | false => simp only [ih', List.filter_cons, hp, Bool.false_eq_true, if_false]
    | true =>
      have h1 := h d List.mem_cons_self hp
      simp only [mret] at h1
      simp only [h1, ih', List.filter_cons, hp, if_true, List.map_cons, Option.map_some]
theorem kdEl_fr {α : Type} (l : List α) (f : α → PyData) : kdEl (l.map fun a => (Kd.fr [], f a)) = some (.fr []) := by
  induction l with
  | nil => rfl
  | cons a l ih => simp only [List.map_cons, kdEl, ih]
end Y
set_option Elab.async false
set_option linter.all false
set_option maxRecDepth 100000
namespace K12
open PySem Y
def S__law_cell_at : SF :=
 (sSeq (sIf (tE (eOp gLt (eV 1) (eCB gLen [(eV 0)])))
 (sRet (eIx gIx (eV 0) (eV 1)))
 sNil)
 (sRet (eC (.int 0))))
def F__law_cell_at : FF := runF 2 S__law_cell_at
def S__law_values : SF :=
 (sSeq (sSet 1 (eOp gMod (eCall F__law_cell_at [(eV 0), (eC (.int 5))]) (eOp gPow (eC (.int 10)) (eC (.int 60)))))
 (sSeq (sSet 2 (eOp gAdd (eOp gAdd (eV 1) (eC (.int 1))) (eOp gMod (eCall F__law_cell_at [(eV 0), (eC (.int 6))]) (eC (.int 5)))))
 (sSeq (sIf (tE (eOp gEq (eOp gMod (eCall F__law_cell_at [(eV 0), (eC (.int 7))]) (eC (.int 2))) (eC (.int 1))))
 (sSet 2 (eOp gSub (eUn gNeg (eC (.int 1))) (eOp gMod (eCall F__law_cell_at [(eV 0), (eC (.int 6))]) (eOp gPow (eC (.int 10)) (eC (.int 59))))))
 sNil)
 (sRet (eLst [(eOp gFdiv (eV 1) (eC (.int 10))), (eOp gSub (eOp gFdiv (eV 2) (eC (.int 10))) (eC (.int 1))), (eOp gAdd (eC (.int 7)) (eOp gFdiv (eV 1) (eC (.int 10))))])))))
def F__law_values : FF := runF 3 S__law_values
def B__law_pairs_1 : SF :=
 (sIf (tE (eOp gNe (eV 2) (eV 3)))
 (sApp 1 (eTup [(eV 2), (eV 3)]))
 sNil)
def B__law_pairs_2 : SF :=
 (sFor (itR1 (eV 0)) (gNm 3)
 B__law_pairs_1)
def S__law_pairs : SF :=
 (sSeq (sSet 1 (eLst []))
 (sSeq (sFor (itR1 (eV 0)) (gNm 2)
 B__law_pairs_2)
 (sRet (eV 1))))
def F__law_pairs : FF := runF 4 S__law_pairs
def B__law_weather_1 : SF :=
 (sSeq (sIf (tE (eOp gEq (eOp gMod (eV 0) (eC (.int 3))) (eC (.int 0))))
 (sApp 2 (eV 3))
 sNil)
 (sSet 0 (eOp gFdiv (eV 0) (eC (.int 3)))))
def S__law_weather : SF :=
 (sSeq (sSet 2 (eLst []))
 (sSeq (sFor (itE (eCall F__law_pairs [(eV 1)])) (gNm 3)
 B__law_weather_1)
 (sRet (eCB gTuple [(eV 2)]))))
def F__law_weather : FF := runF 4 S__law_weather
def B__law_mix_1 : SF :=
 (sSet 0 (eOp gFdiv (eV 0) (eC (.int 2147483648))))
def S__law_mix : SF :=
 (sSeq (sIf (tE (eOp gGe (eV 0) (eOp gPow (eC (.int 10)) (eC (.int 12)))))
 (sSeq (sSet 0 (eOp gSub (eOp gFdiv (eV 0) (eOp gPow (eC (.int 10)) (eC (.int 12)))) (eC (.int 1))))
 (sSeq (sFor (itR1 (eOp gMod (eV 1) (eC (.int 61)))) (gNm 2)
 B__law_mix_1)
 (sRet (eOp gMod (eV 0) (eC (.int 2147483648))))))
 sNil)
 (sSeq (sSet 3 (eOp gMod (eOp gMul (eOp gAdd (eOp gAdd (eOp gMod (eV 0) (eC (.int 1000003))) (eOp gMul (eOp gMul (eV 1) (eV 1)) (eC (.int 7919)))) (eV 1)) (eC (.int 48271))) (eC (.int 2147483629))))
 (sSeq (sSet 3 (eOp gMod (eOp gMul (eV 3) (eV 3)) (eC (.int 2147483587))))
 (sRet (eOp gFdiv (eOp gMod (eOp gMul (eV 3) (eOp gAdd (eV 3) (eC (.int 2)))) (eC (.int 2147483579))) (eC (.int 7)))))))
def F__law_mix : FF := runF 4 S__law_mix
def E__law_long_run_1 : EF :=
 (eIx gIx (eV 1) (eOp gMod (eCall F__law_mix [(eCall F__law_cell_at [(eV 2), (eOp gAdd (eC (.int 8)) (eV 0))]), (eV 0)]) (eC (.int 3))))
def B__law_long_run_2 : SF :=
 (sSet 7 (eOp gMod (eOp gAdd (eOp gMul (eV 7) (eC (.int 31))) (eCall F__law_mix [(eV 8), (eV 6)])) (eC (.int 2147483629))))
def B__law_long_run_3 : SF :=
 (sSeq (sSet 7 (eC (.int 0)))
 (sSeq (sFor (itE (eSl3 (eSl (eV 0) none (some (eC (.int 63)))) (some (eV 6)) none (some (eV 5)))) (gNm 8)
 B__law_long_run_2)
 (sApp 4 (eCall F__law_weather [(eV 7), (eV 1)]))))
def S__law_long_run : SF :=
 (sSeq (sSet 2 (eCall F__law_values [(eV 0)]))
 (sSeq (sSet 3 (eCB gTuple [(eComp (itR1 (eV 1)) [2, 0] tYesF E__law_long_run_1)]))
 (sSeq (sSet 4 (eLst []))
 (sSeq (sSet 5 (eOp gMod (eOp gFdiv (eCall F__law_cell_at [(eV 0), (eC (.int 0))]) (eC (.int 3))) (eC (.int 6))))
 (sSeq (sFor (itR1 (eV 5)) (gNm 6)
 B__law_long_run_3)
 (sRet (eTup [(eV 3), (eCB gTuple [(eV 4)])])))))))
def F__law_long_run : FF := runF 9 S__law_long_run
def C_came_to_1 : TF :=
 (tAndF (tE (eOp gNe (eV 0) (eV 1))) (tE (eOp gNotIn (eTup [(eV 0), (eV 1)]) (eV 2))))
def E_came_to_2 : EF :=
 (eV 0)
def S_came_to : SF :=
 (sRet (eCB gTuple [(eComp (itR1 (eV 0)) [2, 1] C_came_to_1 E_came_to_2)]))
def F_came_to : FF := runF 3 S_came_to
def E_came_to_heard_1 : EF :=
 (eIf (tE (eOp gIn (eV 0) (eV 1))) (eCall F_came_to [(eV 2), (eV 3), (eV 0)]) (eC .none))
def S_came_to_heard : SF :=
 (sRet (eCB gTuple [(eComp (itR1 (eV 0)) [2, 0, 1] tYesF E_came_to_heard_1)]))
def F_came_to_heard : FF := runF 3 S_came_to_heard
def B_heard_earlier_1 : SF :=
 (sIf (tE (eOp gIsNot (eV 3) (eC .none)))
 (sExt 2 (eV 3))
 sNil)
def S_heard_earlier : SF :=
 (sSeq (sSet 2 (eCB gList [(eV 0)]))
 (sSeq (sFor (itE (eV 1)) (gNm 3)
 B_heard_earlier_1)
 (sRet (eUn gSortSet (eV 2)))))
def F_heard_earlier : FF := runF 4 S_heard_earlier
def B_view_1 : SF :=
 (sSeq (sSet 7 (eCall F_came_to_heard [(eV 3), (eV 6), (eV 4)]))
 (sSeq (sApp 5 (eV 7))
 (sSet 4 (eCall F_heard_earlier [(eV 4), (eV 7)]))))
def E_view_2 : EF :=
 (eIf (tE (eOp gIn (eV 0) (eV 1))) (eIx gIx (eV 2) (eV 0)) (eC .none))
def S_view : SF :=
 (sSeq (sSet 2 (eIx gIx (eV 0) (eC (.int 0))))
 (sSeq (sSet 3 (eCB gLen [(eV 2)]))
 (sSeq (sSet 4 (eLst [(eV 1)]))
 (sSeq (sSet 5 (eLst []))
 (sSeq (sFor (itRev (eIx gIx (eV 0) (eC (.int 1)))) (gNm 6)
 B_view_1)
 (sSeq (sSet 8 (eComp (itR1 (eV 3)) [4, 2] tYesF E_view_2))
 (sRet (eTup [(eV 1), (eCB gTuple [(eV 8)]), (eUn gRevT (eV 5))]))))))))
def F_view : FF := runF 9 S_view
def S__law_whole : SF :=
 (sRet (eAnd (eIsi "int" (eV 0)) (eNotV (eIsi "bool" (eV 0)))))
def F__law_whole : FF := runF 1 S__law_whole
def B__law_kinds_1 : SF :=
 (sIf (tAndF (tE (eOp gIsNot (eV 3) (eC .none))) (tNotF (tE (eCall F__law_whole [(eV 3)]))))
 (sRet (eC (.bool false)))
 sNil)
def B__law_kinds_2 : SF :=
 (sIf (tAndF (tE (eOp gIsNot (eV 5) (eC .none))) (tNotF (tE (eIsi "tuple" (eV 5)))))
 (sRet (eC (.bool false)))
 sNil)
def B__law_kinds_3 : SF :=
 (sSeq (sIf (tOrF (tNotF (tE (eIsi "tuple" (eV 4)))) (tE (eOp gNe (eCB gLen [(eV 4)]) (eV 1))))
 (sRet (eC (.bool false)))
 sNil)
 (sFor (itE (eV 4)) (gNm 5)
 B__law_kinds_2))
def S__law_kinds : SF :=
 (sSeq (sIf (tOrF (tNotF (tE (eIsi "tuple" (eV 0)))) (tOrF (tE (eOp gNe (eCB gLen [(eV 0)]) (eC (.int 3)))) (tNotF (tE (eCall F__law_whole [(eIx gIx (eV 0) (eC (.int 0)))])))))
 (sRet (eC (.bool false)))
 sNil)
 (sSeq (sIf (tOrF (tNotF (tE (eIsi "tuple" (eIx gIx (eV 0) (eC (.int 1)))))) (tOrF (tNotF (tE (eIsi "tuple" (eIx gIx (eV 0) (eC (.int 2)))))) (tE (eOp gNe (eCB gLen [(eIx gIx (eV 0) (eC (.int 2)))]) (eV 2)))))
 (sRet (eC (.bool false)))
 sNil)
 (sSeq (sFor (itE (eIx gIx (eV 0) (eC (.int 1)))) (gNm 3)
 B__law_kinds_1)
 (sSeq (sFor (itE (eIx gIx (eV 0) (eC (.int 2)))) (gNm 4)
 B__law_kinds_3)
 (sRet (eC (.bool true)))))))
def F__law_kinds : FF := runF 6 S__law_kinds
def B__law_senders_1 : SF :=
 (sIf (tAndF (tE (eOp gNe (eV 4) (eV 2))) (tE (eOp gNotIn (eTup [(eV 4), (eV 2)]) (eV 1))))
 (sApp 3 (eV 4))
 sNil)
def S__law_senders : SF :=
 (sSeq (sSet 3 (eLst []))
 (sSeq (sFor (itR1 (eV 0)) (gNm 4)
 B__law_senders_1)
 (sRet (eCB gTuple [(eV 3)]))))
def F__law_senders : FF := runF 5 S__law_senders
def E__law_view_1 : EF :=
 (eDct1 (eTup [(eV 0), (eC (.int 0))]) (eC (.bool true)))
def B__law_view_2 : SF :=
 (sUpdJ 8 (eIx gIx (eV 3) (eV 9)))
def B__law_view_3 : SF :=
 (sSeq (sSet 8 (eCB gDictOf [(eIx gIx (eV 3) (eV 7))]))
 (sSeq (sFor (itE (eCall F__law_senders [(eV 2), (eV 5), (eV 7)])) (gNm 9)
 B__law_view_2)
 (sSeq (sPutA 8 (eTup [(eV 7), (eOp gAdd (eV 4) (eC (.int 1)))]) (eC (.bool true)))
 (sApp 6 (eV 8)))))
def B__law_view_4 : SF :=
 (sSeq (sSet 6 (eLst []))
 (sSeq (sFor (itR1 (eV 2)) (gNm 7)
 B__law_view_3)
 (sMov 3 6)))
def B__law_view_5 : SF :=
 (sIf (tE (eOp gInA (eTup [(eV 7), (eC (.int 0))]) (eIx gIx (eV 3) (eV 1))))
 (sPut 10 (eV 7) (eIx gIx (eIx gIx (eV 0) (eC (.int 0))) (eV 7)))
 sNil)
def B__law_view_6 : SF :=
 (sIf (tE (eOp gInA (eTup [(eV 7), (eOp gAdd (eV 4) (eC (.int 1)))]) (eIx gIx (eV 3) (eV 1))))
 (sPut 12 (eV 7) (eCall F__law_senders [(eV 2), (eV 5), (eV 7)]))
 sNil)
def B__law_view_7 : SF :=
 (sSeq (sSet 12 (eRep (eLst [(eC .none)]) (eV 2)))
 (sSeq (sFor (itR1 (eV 2)) (gNm 7)
 B__law_view_6)
 (sApp 11 (eCB gTuple [(eV 12)]))))
def S__law_view : SF :=
 (sSeq (sSet 2 (eCB gLen [(eIx gIx (eV 0) (eC (.int 0)))]))
 (sSeq (sSet 3 (eComp (itR1 (eV 2)) [] tYesF E__law_view_1))
 (sSeq (sFor (itEnum (eIx gIx (eV 0) (eC (.int 1)))) (gTp [4, 5])
 B__law_view_4)
 (sSeq (sSet 10 (eRep (eLst [(eC .none)]) (eV 2)))
 (sSeq (sSet 11 (eLst []))
 (sSeq (sFor (itR1 (eV 2)) (gNm 7)
 B__law_view_5)
 (sSeq (sFor (itEnum (eIx gIx (eV 0) (eC (.int 1)))) (gTp [4, 5])
 B__law_view_7)
 (sRet (eTup [(eV 1), (eCB gTuple [(eV 10)]), (eCB gTuple [(eV 11)])])))))))))
def F__law_view : FF := runF 13 S__law_view
def B_law_1 : SF :=
 (sSeq (sSet 6 (eCall F_view [(eV 4), (eV 5)]))
 (sIf (tOrF (tNotF (tE (eCall F__law_kinds [(eV 6), (eV 1), (eV 3)]))) (tE (eOp gNe (eV 6) (eCall F__law_view [(eV 4), (eV 5)]))))
 (sRet (eC (.bool false)))
 sNil))
def B_law_2 : SF :=
 (sSeq (sSet 4 (eTup [(eIx gIx (eV 2) (eC (.int 0))), (eSl (eIx gIx (eV 2) (eC (.int 1))) none (some (eV 3)))]))
 (sFor (itR1 (eV 1)) (gNm 5)
 B_law_1))
def S_law : SF :=
 (sSeq (sSet 1 (eOp gAdd (eC (.int 2)) (eOp gMod (eCall F__law_cell_at [(eV 0), (eC (.int 0))]) (eC (.int 3)))))
 (sSeq (sSet 2 (eCall F__law_long_run [(eV 0), (eV 1)]))
 (sSeq (sFor (itE (eLst [(eCB gLen [(eIx gIx (eV 2) (eC (.int 1)))]), (eOp gFdiv (eCB gLen [(eIx gIx (eV 2) (eC (.int 1)))]) (eC (.int 2)))])) (gNm 3)
 B_law_2)
 (sRet (eC (.bool true))))))
def F_law : FF := runF 7 S_law
end K12
set_option Elab.async false
set_option linter.all false
set_option maxRecDepth 100000
namespace K12
open PySem L2 Y
def top (i : Nat) : Stmt := PySem.Challenge.pw_losspact_k12_views.main.body.getD i (.Pass ⟨0, 0, 0, 0⟩)
abbrev s_came_to : Stmt := top 1
theorem sc_came_to : FnScope ["hands", "weather", "hand"] ["hands", "weather", "hand"] (defScope s_came_to) := ⟨rfl, rfl, rfl, by decide +kernel, rfl, by decide +kernel, by decide +kernel⟩
abbrev s_view : Stmt := top 2
theorem sc_view : FnScope ["run", "hand", "values", "hands", "heard", "came", "weather", "came_here", "seen_values"] ["run", "hand"] (defScope s_view) := ⟨rfl, rfl, rfl, by decide +kernel, rfl, by decide +kernel, by decide +kernel⟩
abbrev s_came_to_heard : Stmt := top 3
theorem sc_came_to_heard : FnScope ["hands", "weather", "heard"] ["hands", "weather", "heard"] (defScope s_came_to_heard) := ⟨rfl, rfl, rfl, by decide +kernel, rfl, by decide +kernel, by decide +kernel⟩
abbrev s_heard_earlier : Stmt := top 4
theorem sc_heard_earlier : FnScope ["heard", "came_here", "earlier", "starts"] ["heard", "came_here"] (defScope s_heard_earlier) := ⟨rfl, rfl, rfl, by decide +kernel, rfl, by decide +kernel, by decide +kernel⟩
abbrev s__law_cell_at : Stmt := top 6
theorem sc__law_cell_at : FnScope ["_law_script", "_law_k"] ["_law_script", "_law_k"] (defScope s__law_cell_at) := ⟨rfl, rfl, rfl, by decide +kernel, rfl, by decide +kernel, by decide +kernel⟩
abbrev s__law_mix : Stmt := top 7
theorem sc__law_mix : FnScope ["_law_cell", "_law_k", "_law_turn", "_law_number"] ["_law_cell", "_law_k"] (defScope s__law_mix) := ⟨rfl, rfl, rfl, by decide +kernel, rfl, by decide +kernel, by decide +kernel⟩
abbrev s__law_whole : Stmt := top 8
theorem sc__law_whole : FnScope ["_law_found"] ["_law_found"] (defScope s__law_whole) := ⟨rfl, rfl, rfl, by decide +kernel, rfl, by decide +kernel, by decide +kernel⟩
abbrev s__law_pairs : Stmt := top 9
theorem sc__law_pairs : FnScope ["_law_hands", "_law_found", "_law_start", "_law_goal"] ["_law_hands"] (defScope s__law_pairs) := ⟨rfl, rfl, rfl, by decide +kernel, rfl, by decide +kernel, by decide +kernel⟩
abbrev s__law_weather : Stmt := top 10
theorem sc__law_weather : FnScope ["_law_number", "_law_hands", "_law_lost", "_law_pair"] ["_law_number", "_law_hands"] (defScope s__law_weather) := ⟨rfl, rfl, rfl, by decide +kernel, rfl, by decide +kernel, by decide +kernel⟩
abbrev s__law_values : Stmt := top 11
theorem sc__law_values : FnScope ["_law_script", "_law_one", "_law_other"] ["_law_script"] (defScope s__law_values) := ⟨rfl, rfl, rfl, by decide +kernel, rfl, by decide +kernel, by decide +kernel⟩
abbrev s__law_long_run : Stmt := top 12
theorem sc__law_long_run : FnScope ["_law_script", "_law_hands", "_law_values_here", "_law_start", "_law_weathers", "_law_rounds", "_law_k", "_law_number", "_law_cell"] ["_law_script", "_law_hands"] (defScope s__law_long_run) := ⟨rfl, rfl, rfl, by decide +kernel, rfl, by decide +kernel, by decide +kernel⟩
abbrev s__law_senders : Stmt := top 13
theorem sc__law_senders : FnScope ["_law_hands", "_law_weather_here", "_law_hand", "_law_found", "_law_other"] ["_law_hands", "_law_weather_here", "_law_hand"] (defScope s__law_senders) := ⟨rfl, rfl, rfl, by decide +kernel, rfl, by decide +kernel, by decide +kernel⟩
abbrev s__law_view : Stmt := top 14
theorem sc__law_view : FnScope ["_law_run", "_law_hand", "_law_hands", "_law_known", "_law_k", "_law_weather_here", "_law_after", "_law_other", "_law_some", "_law_start", "_law_values_here", "_law_came", "_law_row"] ["_law_run", "_law_hand"] (defScope s__law_view) := ⟨rfl, rfl, rfl, by decide +kernel, rfl, by decide +kernel, by decide +kernel⟩
abbrev s__law_kinds : Stmt := top 15
theorem sc__law_kinds : FnScope ["_law_found", "_law_hands", "_law_rounds", "_law_value", "_law_row", "_law_some"] ["_law_found", "_law_hands", "_law_rounds"] (defScope s__law_kinds) := ⟨rfl, rfl, rfl, by decide +kernel, rfl, by decide +kernel, by decide +kernel⟩
abbrev s_law : Stmt := top 16
theorem sc_law : FnScope ["_law_script", "_law_hands", "_law_whole_here", "_law_rounds", "_law_run", "_law_hand", "_law_found"] ["_law_script"] (defScope s_law) := ⟨rfl, rfl, rfl, by decide +kernel, rfl, by decide +kernel, by decide +kernel⟩
structure Ads where
  f_came_to : Addr
  d_came_to : FuncData
  f_view : Addr
  d_view : FuncData
  f_came_to_heard : Addr
  d_came_to_heard : FuncData
  f_heard_earlier : Addr
  d_heard_earlier : FuncData
  f__law_cell_at : Addr
  d__law_cell_at : FuncData
  f__law_mix : Addr
  d__law_mix : FuncData
  f__law_whole : Addr
  d__law_whole : FuncData
  f__law_pairs : Addr
  d__law_pairs : FuncData
  f__law_weather : Addr
  d__law_weather : FuncData
  f__law_values : Addr
  d__law_values : FuncData
  f__law_long_run : Addr
  d__law_long_run : FuncData
  f__law_senders : Addr
  d__law_senders : FuncData
  f__law_view : Addr
  d__law_view : FuncData
  f__law_kinds : Addr
  d__law_kinds : FuncData
  f_law : Addr
  d_law : FuncData
structure Tx (K : PySem.W.Frag) (mg : Str → Option Value) (a : Ads) : Prop where
  F_came_to : Fun K "came_to" "came_to" s_came_to a.f_came_to a.d_came_to
  m_came_to : mg "came_to" = some (.ref a.f_came_to)
  k_came_to : PySem.W.keepIn K (.ref a.f_came_to) = true
  b_came_to : Binds K a.d_came_to ["hands", "weather", "hand"] []
  F_view : Fun K "view" "view" s_view a.f_view a.d_view
  m_view : mg "view" = some (.ref a.f_view)
  k_view : PySem.W.keepIn K (.ref a.f_view) = true
  b_view : Binds K a.d_view ["run", "hand"] []
  F_came_to_heard : Fun K "came_to_heard" "came_to_heard" s_came_to_heard a.f_came_to_heard a.d_came_to_heard
  m_came_to_heard : mg "came_to_heard" = some (.ref a.f_came_to_heard)
  k_came_to_heard : PySem.W.keepIn K (.ref a.f_came_to_heard) = true
  b_came_to_heard : Binds K a.d_came_to_heard ["hands", "weather", "heard"] []
  F_heard_earlier : Fun K "heard_earlier" "heard_earlier" s_heard_earlier a.f_heard_earlier a.d_heard_earlier
  m_heard_earlier : mg "heard_earlier" = some (.ref a.f_heard_earlier)
  k_heard_earlier : PySem.W.keepIn K (.ref a.f_heard_earlier) = true
  b_heard_earlier : Binds K a.d_heard_earlier ["heard", "came_here"] []
  F__law_cell_at : Fun K "_law_cell_at" "_law_cell_at" s__law_cell_at a.f__law_cell_at a.d__law_cell_at
  m__law_cell_at : mg "_law_cell_at" = some (.ref a.f__law_cell_at)
  k__law_cell_at : PySem.W.keepIn K (.ref a.f__law_cell_at) = true
  b__law_cell_at : Binds K a.d__law_cell_at ["_law_script", "_law_k"] []
  F__law_mix : Fun K "_law_mix" "_law_mix" s__law_mix a.f__law_mix a.d__law_mix
  m__law_mix : mg "_law_mix" = some (.ref a.f__law_mix)
  k__law_mix : PySem.W.keepIn K (.ref a.f__law_mix) = true
  b__law_mix : Binds K a.d__law_mix ["_law_cell", "_law_k"] []
  F__law_whole : Fun K "_law_whole" "_law_whole" s__law_whole a.f__law_whole a.d__law_whole
  m__law_whole : mg "_law_whole" = some (.ref a.f__law_whole)
  k__law_whole : PySem.W.keepIn K (.ref a.f__law_whole) = true
  b__law_whole : Binds K a.d__law_whole ["_law_found"] []
  F__law_pairs : Fun K "_law_pairs" "_law_pairs" s__law_pairs a.f__law_pairs a.d__law_pairs
  m__law_pairs : mg "_law_pairs" = some (.ref a.f__law_pairs)
  k__law_pairs : PySem.W.keepIn K (.ref a.f__law_pairs) = true
  b__law_pairs : Binds K a.d__law_pairs ["_law_hands"] []
  F__law_weather : Fun K "_law_weather" "_law_weather" s__law_weather a.f__law_weather a.d__law_weather
  m__law_weather : mg "_law_weather" = some (.ref a.f__law_weather)
  k__law_weather : PySem.W.keepIn K (.ref a.f__law_weather) = true
  b__law_weather : Binds K a.d__law_weather ["_law_number", "_law_hands"] []
  F__law_values : Fun K "_law_values" "_law_values" s__law_values a.f__law_values a.d__law_values
  m__law_values : mg "_law_values" = some (.ref a.f__law_values)
  k__law_values : PySem.W.keepIn K (.ref a.f__law_values) = true
  b__law_values : Binds K a.d__law_values ["_law_script"] []
  F__law_long_run : Fun K "_law_long_run" "_law_long_run" s__law_long_run a.f__law_long_run a.d__law_long_run
  m__law_long_run : mg "_law_long_run" = some (.ref a.f__law_long_run)
  k__law_long_run : PySem.W.keepIn K (.ref a.f__law_long_run) = true
  b__law_long_run : Binds K a.d__law_long_run ["_law_script", "_law_hands"] []
  F__law_senders : Fun K "_law_senders" "_law_senders" s__law_senders a.f__law_senders a.d__law_senders
  m__law_senders : mg "_law_senders" = some (.ref a.f__law_senders)
  k__law_senders : PySem.W.keepIn K (.ref a.f__law_senders) = true
  b__law_senders : Binds K a.d__law_senders ["_law_hands", "_law_weather_here", "_law_hand"] []
  F__law_view : Fun K "_law_view" "_law_view" s__law_view a.f__law_view a.d__law_view
  m__law_view : mg "_law_view" = some (.ref a.f__law_view)
  k__law_view : PySem.W.keepIn K (.ref a.f__law_view) = true
  b__law_view : Binds K a.d__law_view ["_law_run", "_law_hand"] []
  F__law_kinds : Fun K "_law_kinds" "_law_kinds" s__law_kinds a.f__law_kinds a.d__law_kinds
  m__law_kinds : mg "_law_kinds" = some (.ref a.f__law_kinds)
  k__law_kinds : PySem.W.keepIn K (.ref a.f__law_kinds) = true
  b__law_kinds : Binds K a.d__law_kinds ["_law_found", "_law_hands", "_law_rounds"] []
  F_law : Fun K "law" "law" s_law a.f_law a.d_law
  m_law : mg "law" = some (.ref a.f_law)
  k_law : PySem.W.keepIn K (.ref a.f_law) = true
  b_law : Binds K a.d_law ["_law_script"] []
  bool : mg "bool" = none
  dict : mg "dict" = none
  enumerate : mg "enumerate" = none
  int : mg "int" = none
  isinstance : mg "isinstance" = none
  len : mg "len" = none
  list : mg "list" = none
  range : mg "range" = none
  reversed : mg "reversed" = none
  set : mg "set" = none
  sorted : mg "sorted" = none
  tuple : mg "tuple" = none
section
variable {P : Program} {w : World} {K : PySem.W.Frag} {mg : Str → Option Value} {base : Heap} {a : Ads}
set_option maxHeartbeats 4000000 in
theorem ok__law_cell_at (T : Tx K mg a) : FnOk P w K mg base CX0 1 a.f__law_cell_at a.d__law_cell_at ["_law_script", "_law_k"] (spD K 2 F__law_cell_at) := by
  refine okDn (fb := S__law_cell_at) 0 2 2 rfl rfl T.F__law_cell_at sc__law_cell_at fun cdv A outer s H E hr => ?_
  have hu80 := hr.units80
  exact (dss_cons (ds_if (dt_cmp (opd_lt) (de_v 1) (de_callB calld_len (by rfl) T.len PySem.boot_len (da_cons (de_v 0) da_nil)) (nomark _))
 (dss_one (ds_ret (de_ix ixd (de_v 0) (de_v 1) (fun _ _ => rfl))))
 dss_nil)
 (dss_one (ds_ret de_int)))
set_option maxHeartbeats 4000000 in
theorem ok__law_values (T : Tx K mg a) : FnOk P w K mg base CX0 2 a.f__law_values a.d__law_values ["_law_script"] (spD K 1 F__law_values) := by
  have G__law_cell_at := ok__law_cell_at (P := P) (w := w) (base := base) T
  refine okDn (fb := S__law_values) 1 3 1 rfl rfl T.F__law_values sc__law_values fun cdv A outer s H E hr => ?_
  have hu80 := hr.units80
  exact (dss_cons (ds_set (i := 1) sc__law_values.nd rfl (Or.inl rfl) (de_op (opd_mod) (de_call G__law_cell_at (hr.mono (by decide)) (by rfl) T.m__law_cell_at T.k__law_cell_at T.b__law_cell_at (E := E0) pass0 (da_cons (de_v 0) (da_cons de_int da_nil))) (de_op (opd_pow) de_int de_int)))
 (dss_cons (ds_set (i := 2) sc__law_values.nd rfl (Or.inl rfl) (de_op (opd_add) (de_op (opd_add) (de_v 1) de_int) (de_op (opd_mod) (de_call G__law_cell_at (hr.mono (by decide)) (by rfl) T.m__law_cell_at T.k__law_cell_at T.b__law_cell_at (E := E0) pass0 (da_cons (de_v 0) (da_cons de_int da_nil))) de_int)))
 (dss_cons (ds_if (dt_cmp (opd_eq hu80) (de_op (opd_mod) (de_call G__law_cell_at (hr.mono (by decide)) (by rfl) T.m__law_cell_at T.k__law_cell_at T.b__law_cell_at (E := E0) pass0 (da_cons (de_v 0) (da_cons de_int da_nil))) de_int) de_int (nomark _))
 (dss_one (ds_set (i := 2) sc__law_values.nd rfl (Or.inl rfl) (de_op (opd_sub) (de_un und_neg de_int) (de_op (opd_mod) (de_call G__law_cell_at (hr.mono (by decide)) (by rfl) T.m__law_cell_at T.k__law_cell_at T.b__law_cell_at (E := E0) pass0 (da_cons (de_v 0) (da_cons de_int da_nil))) (de_op (opd_pow) de_int de_int)))))
 dss_nil)
 (dss_one (ds_ret (de_lst (da_cons (de_op (opd_fdiv) (de_v 1) de_int) (da_cons (de_op (opd_sub) (de_op (opd_fdiv) (de_v 2) de_int) de_int) (da_cons (de_op (opd_add) de_int (de_op (opd_fdiv) (de_v 1) de_int)) da_nil)))))))))
set_option maxHeartbeats 4000000 in
theorem ok__law_pairs (T : Tx K mg a) : FnOk P w K mg base CX0 1 a.f__law_pairs a.d__law_pairs ["_law_hands"] (spD K 1 F__law_pairs) := by
  refine okDn (fb := S__law_pairs) 0 4 1 rfl rfl T.F__law_pairs sc__law_pairs fun cdv A outer s H E hr => ?_
  have hu80 := hr.units80
  exact (dss_cons (ds_set (i := 1) sc__law_pairs.nd rfl (Or.inl rfl) (de_lst da_nil))
 (dss_cons (ds_for PassesOwn.never rfl (di_r1 (by rfl) T.range (de_v 0)) (dg_nm (i := 2) sc__law_pairs.nd rfl (Or.inl rfl))
 (dss_one (ds_for PassesOwn.never rfl (di_r1 (by rfl) T.range (de_v 0)) (dg_nm (i := 3) sc__law_pairs.nd rfl (Or.inl rfl))
 (dss_one (ds_if (dt_cmp (opd_ne hu80) (de_v 2) (de_v 3) (nomark _))
 (dss_one (ds_app (i := 1) (pv 1) (de_tup (da_cons (de_v 2) (da_cons (de_v 3) da_nil)))))
 dss_nil)))))
 (dss_one (ds_ret (de_v 1)))))
set_option maxHeartbeats 4000000 in
theorem ok__law_weather (T : Tx K mg a) : FnOk P w K mg base CX0 2 a.f__law_weather a.d__law_weather ["_law_number", "_law_hands"] (spD K 2 F__law_weather) := by
  have G__law_pairs := ok__law_pairs (P := P) (w := w) (base := base) T
  refine okDn (fb := S__law_weather) 1 4 2 rfl rfl T.F__law_weather sc__law_weather fun cdv A outer s H E hr => ?_
  have hu80 := hr.units80
  exact (dss_cons (ds_set (i := 2) sc__law_weather.nd rfl (Or.inl rfl) (de_lst da_nil))
 (dss_cons (ds_for PassesOwn.never rfl (di_e (de_call G__law_pairs (hr.mono (by decide)) (by rfl) T.m__law_pairs T.k__law_pairs T.b__law_pairs (E := E0) pass0 (da_cons (de_v 1) da_nil))) (dg_nm (i := 3) sc__law_weather.nd rfl (Or.inl rfl))
 (dss_cons (ds_if (dt_cmp (opd_eq hu80) (de_op (opd_mod) (de_v 0) de_int) de_int (nomark _))
 (dss_one (ds_app (i := 2) (pv 2) (de_v 3)))
 dss_nil)
 (dss_one (ds_set (i := 0) sc__law_weather.nd rfl (Or.inl rfl) (de_op (opd_fdiv) (de_v 0) de_int)))))
 (dss_one (ds_ret (de_callTy calld_tuple (by rfl) T.tuple PyProof.Rows.boot_tuple (da_cons (de_v 2) da_nil))))))
set_option maxHeartbeats 4000000 in
theorem ok__law_mix (T : Tx K mg a) : FnOk P w K mg base CX0 1 a.f__law_mix a.d__law_mix ["_law_cell", "_law_k"] (spD K 2 F__law_mix) := by
  refine okDn (fb := S__law_mix) 0 4 2 rfl rfl T.F__law_mix sc__law_mix fun cdv A outer s H E hr => ?_
  have hu80 := hr.units80
  exact (dss_cons (ds_if (dt_cmp (opd_ge) (de_v 0) (de_op (opd_pow) de_int de_int) (nomark _))
 (dss_cons (ds_set (i := 0) sc__law_mix.nd rfl (Or.inl rfl) (de_op (opd_sub) (de_op (opd_fdiv) (de_v 0) (de_op (opd_pow) de_int de_int)) de_int))
 (dss_cons (ds_for PassesOwn.never rfl (di_r1 (by rfl) T.range (de_op (opd_mod) (de_v 1) de_int)) (dg_nm (i := 2) sc__law_mix.nd rfl (Or.inl rfl))
 (dss_one (ds_set (i := 0) sc__law_mix.nd rfl (Or.inl rfl) (de_op (opd_fdiv) (de_v 0) de_int))))
 (dss_one (ds_ret (de_op (opd_mod) (de_v 0) de_int)))))
 dss_nil)
 (dss_cons (ds_set (i := 3) sc__law_mix.nd rfl (Or.inl rfl) (de_op (opd_mod) (de_op (opd_mul) (de_op (opd_add) (de_op (opd_add) (de_op (opd_mod) (de_v 0) de_int) (de_op (opd_mul) (de_op (opd_mul) (de_v 1) (de_v 1)) de_int)) (de_v 1)) de_int) de_int))
 (dss_cons (ds_set (i := 3) sc__law_mix.nd rfl (Or.inl rfl) (de_op (opd_mod) (de_op (opd_mul) (de_v 3) (de_v 3)) de_int))
 (dss_one (ds_ret (de_op (opd_fdiv) (de_op (opd_mod) (de_op (opd_mul) (de_v 3) (de_op (opd_add) (de_v 3) de_int)) de_int) de_int))))))
set_option maxHeartbeats 4000000 in
theorem ok__law_long_run (T : Tx K mg a) : FnOk P w K mg base CX0 3 a.f__law_long_run a.d__law_long_run ["_law_script", "_law_hands"] (spD K 2 F__law_long_run) := by
  have G__law_values := ok__law_values (P := P) (w := w) (base := base) T
  have G__law_cell_at := ok__law_cell_at (P := P) (w := w) (base := base) T
  have G__law_weather := ok__law_weather (P := P) (w := w) (base := base) T
  have G__law_mix := ok__law_mix (P := P) (w := w) (base := base) T
  refine okDn (fb := S__law_long_run) 2 9 2 rfl rfl T.F__law_long_run sc__law_long_run fun cdv A outer s H E hr => ?_
  have hu80 := hr.units80
  exact (dss_cons (ds_set (i := 2) sc__law_long_run.nd rfl (Or.inr rfl) (de_call G__law_values (hr.mono (by decide)) (by rfl) T.m__law_values T.k__law_values T.b__law_values (E := E0) pass0 (da_cons (de_v 0) da_nil)))
 (dss_cons (ds_set (i := 3) sc__law_long_run.nd rfl (Or.inl rfl) (de_callTy calld_tuple (by rfl) T.tuple PyProof.Rows.boot_tuple (da_cons (de_comp rfl (F := ["_law_values_here", "_law_script"]) (ix := [2, 0]) ⟨rfl, rfl, by decide +kernel, by decide +kernel, by (change ∀ y ∈ (_ : List (Str × NameKind)), y.2 = NameKind.free → (defScope s__law_long_run).names.lookup y.1 = some .cell ∨ (defScope s__law_long_run).names.lookup y.1 = some .free); decide +kernel, by decide +kernel, by decide +kernel, rfl⟩ (di_r1 (by rfl) T.range (de_v 1)) (fun _ _ _ _ _ => dts_nil) (fun _ _ _ _ _ => (de_ix ixd (de_v 1) (de_op (opd_mod) (de_call G__law_mix (hr.mono (by decide)) (by rfl) T.m__law_mix T.k__law_mix T.b__law_mix (E := E0) pass0 (da_cons (de_call G__law_cell_at (hr.mono (by decide)) (by rfl) T.m__law_cell_at T.k__law_cell_at T.b__law_cell_at (E := E0) pass0 (da_cons (de_v 2) (da_cons (de_op (opd_add) de_int (de_v 0)) da_nil))) (da_cons (de_v 0) da_nil))) de_int) (fun _ _ => rfl)))) da_nil)))
 (dss_cons (ds_set (i := 4) sc__law_long_run.nd rfl (Or.inl rfl) (de_lst da_nil))
 (dss_cons (ds_set (i := 5) sc__law_long_run.nd rfl (Or.inl rfl) (de_op (opd_mod) (de_op (opd_fdiv) (de_call G__law_cell_at (hr.mono (by decide)) (by rfl) T.m__law_cell_at T.k__law_cell_at T.b__law_cell_at (E := E0) pass0 (da_cons (de_v 0) (da_cons de_int da_nil))) de_int) de_int))
 (dss_cons (ds_for PassesOwn.never rfl (di_r1 (by rfl) T.range (de_v 5)) (dg_nm (i := 6) sc__law_long_run.nd rfl (Or.inl rfl))
 (dss_cons (ds_set (i := 7) sc__law_long_run.nd rfl (Or.inl rfl) de_int)
 (dss_cons (ds_for PassesOwn.never rfl (di_e (de_sl3 (de_sl (de_v 0) dpo_none (dpo_some de_int)) (dpo_some (de_v 6)) dpo_none (dpo_some (de_v 5)))) (dg_nm (i := 8) sc__law_long_run.nd rfl (Or.inl rfl))
 (dss_one (ds_set (i := 7) sc__law_long_run.nd rfl (Or.inl rfl) (de_op (opd_mod) (de_op (opd_add) (de_op (opd_mul) (de_v 7) de_int) (de_call G__law_mix (hr.mono (by decide)) (by rfl) T.m__law_mix T.k__law_mix T.b__law_mix (E := E0) pass0 (da_cons (de_v 8) (da_cons (de_v 6) da_nil)))) de_int))))
 (dss_one (ds_app (i := 4) (pv 4) (de_call G__law_weather (hr.mono (by decide)) (by rfl) T.m__law_weather T.k__law_weather T.b__law_weather (E := E0) pass0 (da_cons (de_v 7) (da_cons (de_v 1) da_nil))))))))
 (dss_one (ds_ret (de_tup (da_cons (de_v 3) (da_cons (de_callTy calld_tuple (by rfl) T.tuple PyProof.Rows.boot_tuple (da_cons (de_v 4) da_nil)) da_nil))))))))))
set_option maxHeartbeats 4000000 in
theorem ok_came_to (T : Tx K mg a) : FnOk P w K mg base CX0 1 a.f_came_to a.d_came_to ["hands", "weather", "hand"] (spD K 3 F_came_to) := by
  refine okDn (fb := S_came_to) 0 3 3 rfl rfl T.F_came_to sc_came_to fun cdv A outer s H E hr => ?_
  have hu80 := hr.units80
  exact (dss_one (ds_ret (de_callTy calld_tuple (by rfl) T.tuple PyProof.Rows.boot_tuple (da_cons (de_comp rfl (F := ["hand", "weather"]) (ix := [2, 1]) ⟨rfl, rfl, by decide +kernel, by decide +kernel, by (change ∀ y ∈ (_ : List (Str × NameKind)), y.2 = NameKind.free → (defScope s_came_to).names.lookup y.1 = some .cell ∨ (defScope s_came_to).names.lookup y.1 = some .free); decide +kernel, by decide +kernel, by decide +kernel, rfl⟩ (di_r1 (by rfl) T.range (de_v 0)) (fun _ _ _ _ _ => (dts_one (DW.dt (dw_and (dt_cmp (opd_ne hu80) (de_v 0) (de_v 1) (nomark _)) (dw_and1 (dt_cmp (opd_notIn hu80) (de_tup (da_cons (de_v 0) (da_cons (de_v 1) da_nil))) (de_v 2) (by rfl))))))) (fun _ _ _ _ _ => (de_v 0))) da_nil))))
set_option maxHeartbeats 4000000 in
theorem ok_came_to_heard (T : Tx K mg a) : FnOk P w K mg base CX0 2 a.f_came_to_heard a.d_came_to_heard ["hands", "weather", "heard"] (spD K 3 F_came_to_heard) := by
  have G_came_to := ok_came_to (P := P) (w := w) (base := base) T
  refine okDn (fb := S_came_to_heard) 1 3 3 rfl rfl T.F_came_to_heard sc_came_to_heard fun cdv A outer s H E hr => ?_
  have hu80 := hr.units80
  exact (dss_one (ds_ret (de_callTy calld_tuple (by rfl) T.tuple PyProof.Rows.boot_tuple (da_cons (de_comp rfl (F := ["heard", "hands", "weather"]) (ix := [2, 0, 1]) ⟨rfl, rfl, by decide +kernel, by decide +kernel, by (change ∀ y ∈ (_ : List (Str × NameKind)), y.2 = NameKind.free → (defScope s_came_to_heard).names.lookup y.1 = some .cell ∨ (defScope s_came_to_heard).names.lookup y.1 = some .free); decide +kernel, by decide +kernel, by decide +kernel, rfl⟩ (di_r1 (by rfl) T.range (de_v 0)) (fun _ _ _ _ _ => dts_nil) (fun _ _ _ _ _ => (de_if (dt_cmp (opd_in hu80) (de_v 0) (de_v 1) (by rfl)) (de_call G_came_to (hr.mono (by decide)) (by rfl) T.m_came_to T.k_came_to T.b_came_to (E := E0) pass0 (da_cons (de_v 2) (da_cons (de_v 3) (da_cons (de_v 0) da_nil)))) de_non))) da_nil))))
set_option maxHeartbeats 4000000 in
theorem ok_heard_earlier (T : Tx K mg a) : FnOk P w K mg base CX0 1 a.f_heard_earlier a.d_heard_earlier ["heard", "came_here"] (spD K 2 F_heard_earlier) := by
  refine okDn (fb := S_heard_earlier) 0 4 2 rfl rfl T.F_heard_earlier sc_heard_earlier fun cdv A outer s H E hr => ?_
  have hu80 := hr.units80
  exact (dss_cons (ds_set (i := 2) sc_heard_earlier.nd rfl (Or.inl rfl) (de_callTy calld_list (by rfl) T.list PyProof.Rows.boot_list (da_cons (de_v 0) da_nil)))
 (dss_cons (ds_for PassesOwn.never rfl (di_e (de_v 1)) (dg_nm (i := 3) sc_heard_earlier.nd rfl (Or.inl rfl))
 (dss_one (ds_if (dt_cmp (opd_isNot) (de_v 3) de_non (nomark _))
 (dss_one (ds_ext (i := 2) (pv 2) (de_v 3)))
 dss_nil)))
 (dss_one (ds_ret (de_sortSet rfl (by rfl) T.sorted (by rfl) T.set (de_v 2))))))
set_option maxHeartbeats 4000000 in
theorem ok_view (T : Tx K mg a) : FnOk P w K mg base CX0 3 a.f_view a.d_view ["run", "hand"] (spD K 2 F_view) := by
  have G_came_to_heard := ok_came_to_heard (P := P) (w := w) (base := base) T
  have G_heard_earlier := ok_heard_earlier (P := P) (w := w) (base := base) T
  refine okDn (fb := S_view) 2 9 2 rfl rfl T.F_view sc_view fun cdv A outer s H E hr => ?_
  have hu80 := hr.units80
  exact (dss_cons (ds_set (i := 2) sc_view.nd rfl (Or.inr rfl) (de_ix ixd (de_v 0) de_int (fun _ _ => rfl)))
 (dss_cons (ds_set (i := 3) sc_view.nd rfl (Or.inl rfl) (de_callB calld_len (by rfl) T.len PySem.boot_len (da_cons (de_v 2) da_nil)))
 (dss_cons (ds_set (i := 4) sc_view.nd rfl (Or.inr rfl) (de_lst (da_cons (de_v 1) da_nil)))
 (dss_cons (ds_set (i := 5) sc_view.nd rfl (Or.inl rfl) (de_lst da_nil))
 (dss_cons (ds_for PassesOwn.never rfl (di_rev rfl (by rfl) T.reversed (de_ix ixd (de_v 0) de_int (fun _ _ => rfl))) (dg_nm (i := 6) sc_view.nd rfl (Or.inl rfl))
 (dss_cons (ds_set (i := 7) sc_view.nd rfl (Or.inl rfl) (de_call G_came_to_heard (hr.mono (by decide)) (by rfl) T.m_came_to_heard T.k_came_to_heard T.b_came_to_heard (E := E0) pass0 (da_cons (de_v 3) (da_cons (de_v 6) (da_cons (de_v 4) da_nil)))))
 (dss_cons (ds_app (i := 5) (pv 5) (de_v 7))
 (dss_one (ds_set (i := 4) sc_view.nd rfl (Or.inr rfl) (de_call G_heard_earlier (hr.mono (by decide)) (by rfl) T.m_heard_earlier T.k_heard_earlier T.b_heard_earlier (E := E0) pass0 (da_cons (de_v 4) (da_cons (de_v 7) da_nil))))))))
 (dss_cons (ds_setComp (i := 8) sc_view.nd rfl (Or.inl rfl) rfl (F := ["heard", "values"]) (ix := [4, 2]) ⟨rfl, rfl, by decide +kernel, by decide +kernel, by (change ∀ y ∈ (_ : List (Str × NameKind)), y.2 = NameKind.free → (defScope s_view).names.lookup y.1 = some .cell ∨ (defScope s_view).names.lookup y.1 = some .free); decide +kernel, by decide +kernel, by decide +kernel, rfl⟩ (di_r1 (by rfl) T.range (de_v 3)) (fun _ _ _ _ _ => dts_nil) (fun _ _ _ _ _ => (de_if (dt_cmp (opd_in hu80) (de_v 0) (de_v 1) (by rfl)) (de_ix ixd (de_v 2) (de_v 0) (fun _ _ => rfl)) de_non)) (by rfl))
 (dss_one (ds_ret (de_tup (da_cons (de_v 1) (da_cons (de_callTy calld_tuple (by rfl) T.tuple PyProof.Rows.boot_tuple (da_cons (de_v 8) da_nil)) (da_cons (de_tupRev rfl (by rfl) T.tuple (by rfl) T.reversed (de_v 5)) da_nil))))))))))))
set_option maxHeartbeats 4000000 in
theorem ok__law_whole (T : Tx K mg a) : FnOk P w K mg base CX0 1 a.f__law_whole a.d__law_whole ["_law_found"] (spD K 1 F__law_whole) := by
  refine okDn (fb := S__law_whole) 0 1 1 rfl rfl T.F__law_whole sc__law_whole fun cdv A outer s H E hr => ?_
  have hu80 := hr.units80
  exact (dss_one (ds_ret (de_and (de_isi (by decide) (by rfl) T.isinstance (de_v 0) (pe_bltn (v := .ty "int") (by rfl) T.int PyProof.Rows.boot_int rfl)) (de_one (de_not (de_isi (by decide) (by rfl) T.isinstance (de_v 0) (pe_bltn (v := .ty "bool") (by rfl) T.bool PyProof.Rows.boot_bool rfl)))))))
set_option maxHeartbeats 4000000 in
theorem ok__law_kinds (T : Tx K mg a) : FnOk P w K mg base CX0 2 a.f__law_kinds a.d__law_kinds ["_law_found", "_law_hands", "_law_rounds"] (spD K 3 F__law_kinds) := by
  have G__law_whole := ok__law_whole (P := P) (w := w) (base := base) T
  refine okDn (fb := S__law_kinds) 1 6 3 rfl rfl T.F__law_kinds sc__law_kinds fun cdv A outer s H E hr => ?_
  have hu80 := hr.units80
  exact (dss_cons (ds_if (DW.dt (dw_or (dt_not (dt_val (de_isi (by decide) (by rfl) T.isinstance (de_v 0) (pe_bltn (v := .ty "tuple") (by rfl) T.tuple PyProof.Rows.boot_tuple rfl)))) (dw_or (dt_cmp (opd_ne hu80) (de_callB calld_len (by rfl) T.len PySem.boot_len (da_cons (de_v 0) da_nil)) de_int (nomark _)) (dw_or1 (dt_not (dt_val (de_call G__law_whole (hr.mono (by decide)) (by rfl) T.m__law_whole T.k__law_whole T.b__law_whole (E := E0) pass0 (da_cons (de_ix ixd (de_v 0) de_int (fun _ _ => rfl)) da_nil))))))))
 (dss_one (ds_ret de_bl))
 dss_nil)
 (dss_cons (ds_if (DW.dt (dw_or (dt_not (dt_val (de_isi (by decide) (by rfl) T.isinstance (de_ix ixd (de_v 0) de_int (fun _ _ => rfl)) (pe_bltn (v := .ty "tuple") (by rfl) T.tuple PyProof.Rows.boot_tuple rfl)))) (dw_or (dt_not (dt_val (de_isi (by decide) (by rfl) T.isinstance (de_ix ixd (de_v 0) de_int (fun _ _ => rfl)) (pe_bltn (v := .ty "tuple") (by rfl) T.tuple PyProof.Rows.boot_tuple rfl)))) (dw_or1 (dt_cmp (opd_ne hu80) (de_callB calld_len (by rfl) T.len PySem.boot_len (da_cons (de_ix ixd (de_v 0) de_int (fun _ _ => rfl)) da_nil)) (de_v 2) (nomark _))))))
 (dss_one (ds_ret de_bl))
 dss_nil)
 (dss_cons (ds_for PassesOwn.never rfl (di_e (de_ix ixd (de_v 0) de_int (fun _ _ => rfl))) (dg_nm (i := 3) sc__law_kinds.nd rfl (Or.inl rfl))
 (dss_one (ds_if (DW.dt (dw_and (dt_cmp (opd_isNot) (de_v 3) de_non (nomark _)) (dw_and1 (dt_not (dt_val (de_call G__law_whole (hr.mono (by decide)) (by rfl) T.m__law_whole T.k__law_whole T.b__law_whole (E := E0) pass0 (da_cons (de_v 3) da_nil)))))))
 (dss_one (ds_ret de_bl))
 dss_nil)))
 (dss_cons (ds_for PassesOwn.never rfl (di_e (de_ix ixd (de_v 0) de_int (fun _ _ => rfl))) (dg_nm (i := 4) sc__law_kinds.nd rfl (Or.inl rfl))
 (dss_cons (ds_if (DW.dt (dw_or (dt_not (dt_val (de_isi (by decide) (by rfl) T.isinstance (de_v 4) (pe_bltn (v := .ty "tuple") (by rfl) T.tuple PyProof.Rows.boot_tuple rfl)))) (dw_or1 (dt_cmp (opd_ne hu80) (de_callB calld_len (by rfl) T.len PySem.boot_len (da_cons (de_v 4) da_nil)) (de_v 1) (nomark _)))))
 (dss_one (ds_ret de_bl))
 dss_nil)
 (dss_one (ds_for PassesOwn.never rfl (di_e (de_v 4)) (dg_nm (i := 5) sc__law_kinds.nd rfl (Or.inl rfl))
 (dss_one (ds_if (DW.dt (dw_and (dt_cmp (opd_isNot) (de_v 5) de_non (nomark _)) (dw_and1 (dt_not (dt_val (de_isi (by decide) (by rfl) T.isinstance (de_v 5) (pe_bltn (v := .ty "tuple") (by rfl) T.tuple PyProof.Rows.boot_tuple rfl)))))))
 (dss_one (ds_ret de_bl))
 dss_nil))))))
 (dss_one (ds_ret de_bl))))))
set_option maxHeartbeats 4000000 in
theorem ok__law_senders (T : Tx K mg a) : FnOk P w K mg base CX0 1 a.f__law_senders a.d__law_senders ["_law_hands", "_law_weather_here", "_law_hand"] (spD K 3 F__law_senders) := by
  refine okDn (fb := S__law_senders) 0 5 3 rfl rfl T.F__law_senders sc__law_senders fun cdv A outer s H E hr => ?_
  have hu80 := hr.units80
  exact (dss_cons (ds_set (i := 3) sc__law_senders.nd rfl (Or.inl rfl) (de_lst da_nil))
 (dss_cons (ds_for PassesOwn.never rfl (di_r1 (by rfl) T.range (de_v 0)) (dg_nm (i := 4) sc__law_senders.nd rfl (Or.inl rfl))
 (dss_one (ds_if (DW.dt (dw_and (dt_cmp (opd_ne hu80) (de_v 4) (de_v 2) (nomark _)) (dw_and1 (dt_cmp (opd_notIn hu80) (de_tup (da_cons (de_v 4) (da_cons (de_v 2) da_nil))) (de_v 1) (by rfl)))))
 (dss_one (ds_app (i := 3) (pv 3) (de_v 4)))
 dss_nil)))
 (dss_one (ds_ret (de_callTy calld_tuple (by rfl) T.tuple PyProof.Rows.boot_tuple (da_cons (de_v 3) da_nil))))))
set_option maxHeartbeats 4000000 in
theorem ok__law_view (T : Tx K mg a) : FnOk P w K mg base CX0 2 a.f__law_view a.d__law_view ["_law_run", "_law_hand"] (spD K 2 F__law_view) := by
  have G__law_senders := ok__law_senders (P := P) (w := w) (base := base) T
  refine okDn (fb := S__law_view) 1 13 2 rfl rfl T.F__law_view sc__law_view fun cdv A outer s H E hr => ?_
  have hu80 := hr.units80
  exact (dss_cons (ds_set (i := 2) sc__law_view.nd rfl (Or.inl rfl) (de_callB calld_len (by rfl) T.len PySem.boot_len (da_cons (de_ix ixd (de_v 0) de_int (fun _ _ => rfl)) da_nil)))
 (dss_cons (ds_setComp (i := 3) sc__law_view.nd rfl (Or.inl rfl) rfl (F := []) (ix := []) ⟨rfl, rfl, by decide +kernel, by decide +kernel, by (change ∀ y ∈ (_ : List (Str × NameKind)), y.2 = NameKind.free → (defScope s__law_view).names.lookup y.1 = some .cell ∨ (defScope s__law_view).names.lookup y.1 = some .free); decide +kernel, by decide +kernel, by decide +kernel, rfl⟩ (di_r1 (by rfl) T.range (de_v 2)) (fun _ _ _ _ _ => dts_nil) (fun _ _ _ _ _ => (de_dct1 hu80 (de_tup (da_cons (de_v 0) (da_cons de_int da_nil))) de_bl)) (by rfl))
 (dss_cons (ds_for PassesOwn.never rfl (di_enum (by rfl) T.enumerate (de_ix ixd (de_v 0) de_int (fun _ _ => rfl))) (dg_tp (is := [4, 5]) rfl (pgs_cons (pg_name (i := 4) sc__law_view.nd rfl (Or.inl rfl)) (pgs_cons (pg_name (i := 5) sc__law_view.nd rfl (Or.inl rfl)) pgs_nil)))
 (dss_cons (ds_set (i := 6) sc__law_view.nd rfl (Or.inl rfl) (de_lst da_nil))
 (dss_cons (ds_for PassesOwn.never rfl (di_r1 (by rfl) T.range (de_v 2)) (dg_nm (i := 7) sc__law_view.nd rfl (Or.inl rfl))
 (dss_cons (ds_set (i := 8) sc__law_view.nd rfl (Or.inl rfl) (de_callTy calld_dict (by rfl) T.dict PyProof.Rows.boot_dict (da_cons (de_ix ixd (de_v 3) (de_v 7) (fun _ _ => rfl)) da_nil)))
 (dss_cons (ds_for PassesOwn.never rfl (di_e (de_call G__law_senders (hr.mono (by decide)) (by rfl) T.m__law_senders T.k__law_senders T.b__law_senders (E := E0) pass0 (da_cons (de_v 2) (da_cons (de_v 5) (da_cons (de_v 7) da_nil))))) (dg_nm (i := 9) sc__law_view.nd rfl (Or.inl rfl))
 (dss_one (ds_upd hu80 (i := 8) (pv 8) (de_ix ixd (de_v 3) (de_v 9) (fun _ _ => rfl)))))
 (dss_cons (ds_putA hu80 (i := 8) (pv 8) (de_tup (da_cons (de_v 7) (da_cons (de_op (opd_add) (de_v 4) de_int) da_nil))) de_bl)
 (dss_one (ds_app (i := 6) (pv 6) (de_v 8)))))))
 (dss_one (ds_mov (i := 3) (j := 6) sc__law_view.nd rfl (Or.inl rfl) (pv 6))))))
 (dss_cons (ds_set (i := 10) sc__law_view.nd rfl (Or.inl rfl) (de_rep (de_lst (da_cons de_non da_nil)) (de_v 2)))
 (dss_cons (ds_set (i := 11) sc__law_view.nd rfl (Or.inl rfl) (de_lst da_nil))
 (dss_cons (ds_for PassesOwn.never rfl (di_r1 (by rfl) T.range (de_v 2)) (dg_nm (i := 7) sc__law_view.nd rfl (Or.inl rfl))
 (dss_one (ds_if (dt_cmp (opd_inA hu80) (de_tup (da_cons (de_v 7) (da_cons de_int da_nil))) (de_ix ixd (de_v 3) (de_v 1) (fun _ _ => rfl)) (by rfl))
 (dss_one (ds_put (i := 10) (pv 10) (de_v 7) (de_ix ixd (de_ix ixd (de_v 0) de_int (fun _ _ => rfl)) (de_v 7) (fun _ _ => rfl))))
 dss_nil)))
 (dss_cons (ds_for PassesOwn.never rfl (di_enum (by rfl) T.enumerate (de_ix ixd (de_v 0) de_int (fun _ _ => rfl))) (dg_tp (is := [4, 5]) rfl (pgs_cons (pg_name (i := 4) sc__law_view.nd rfl (Or.inl rfl)) (pgs_cons (pg_name (i := 5) sc__law_view.nd rfl (Or.inl rfl)) pgs_nil)))
 (dss_cons (ds_set (i := 12) sc__law_view.nd rfl (Or.inl rfl) (de_rep (de_lst (da_cons de_non da_nil)) (de_v 2)))
 (dss_cons (ds_for PassesOwn.never rfl (di_r1 (by rfl) T.range (de_v 2)) (dg_nm (i := 7) sc__law_view.nd rfl (Or.inl rfl))
 (dss_one (ds_if (dt_cmp (opd_inA hu80) (de_tup (da_cons (de_v 7) (da_cons (de_op (opd_add) (de_v 4) de_int) da_nil))) (de_ix ixd (de_v 3) (de_v 1) (fun _ _ => rfl)) (by rfl))
 (dss_one (ds_put (i := 12) (pv 12) (de_v 7) (de_call G__law_senders (hr.mono (by decide)) (by rfl) T.m__law_senders T.k__law_senders T.b__law_senders (E := E0) pass0 (da_cons (de_v 2) (da_cons (de_v 5) (da_cons (de_v 7) da_nil))))))
 dss_nil)))
 (dss_one (ds_app (i := 11) (pv 11) (de_callTy calld_tuple (by rfl) T.tuple PyProof.Rows.boot_tuple (da_cons (de_v 12) da_nil)))))))
 (dss_one (ds_ret (de_tup (da_cons (de_v 1) (da_cons (de_callTy calld_tuple (by rfl) T.tuple PyProof.Rows.boot_tuple (da_cons (de_v 10) da_nil)) (da_cons (de_callTy calld_tuple (by rfl) T.tuple PyProof.Rows.boot_tuple (da_cons (de_v 11) da_nil)) da_nil)))))))))))))
set_option maxHeartbeats 4000000 in
theorem ok_law (T : Tx K mg a) : FnOk P w K mg base CX0 4 a.f_law a.d_law ["_law_script"] (spD K 1 F_law) := by
  have G__law_long_run := ok__law_long_run (P := P) (w := w) (base := base) T
  have G__law_cell_at := ok__law_cell_at (P := P) (w := w) (base := base) T
  have G_view := ok_view (P := P) (w := w) (base := base) T
  have G__law_kinds := ok__law_kinds (P := P) (w := w) (base := base) T
  have G__law_view := ok__law_view (P := P) (w := w) (base := base) T
  refine okDn (fb := S_law) 3 7 1 rfl rfl T.F_law sc_law fun cdv A outer s H E hr => ?_
  have hu80 := hr.units80
  exact (dss_cons (ds_set (i := 1) sc_law.nd rfl (Or.inl rfl) (de_op (opd_add) de_int (de_op (opd_mod) (de_call G__law_cell_at (hr.mono (by decide)) (by rfl) T.m__law_cell_at T.k__law_cell_at T.b__law_cell_at (E := E0) pass0 (da_cons (de_v 0) (da_cons de_int da_nil))) de_int)))
 (dss_cons (ds_set (i := 2) sc_law.nd rfl (Or.inl rfl) (de_call G__law_long_run (hr.mono (by decide)) (by rfl) T.m__law_long_run T.k__law_long_run T.b__law_long_run (E := E0) pass0 (da_cons (de_v 0) (da_cons (de_v 1) da_nil))))
 (dss_cons (ds_for PassesOwn.never rfl (di_e (de_lst (da_cons (de_callB calld_len (by rfl) T.len PySem.boot_len (da_cons (de_ix ixd (de_v 2) de_int (fun _ _ => rfl)) da_nil)) (da_cons (de_op (opd_fdiv) (de_callB calld_len (by rfl) T.len PySem.boot_len (da_cons (de_ix ixd (de_v 2) de_int (fun _ _ => rfl)) da_nil)) de_int) da_nil)))) (dg_nm (i := 3) sc_law.nd rfl (Or.inl rfl))
 (dss_cons (ds_set (i := 4) sc_law.nd rfl (Or.inl rfl) (de_tup (da_cons (de_ix ixd (de_v 2) de_int (fun _ _ => rfl)) (da_cons (de_sl (de_ix ixd (de_v 2) de_int (fun _ _ => rfl)) dpo_none (dpo_some (de_v 3))) da_nil))))
 (dss_one (ds_for PassesOwn.never rfl (di_r1 (by rfl) T.range (de_v 1)) (dg_nm (i := 5) sc_law.nd rfl (Or.inl rfl))
 (dss_cons (ds_set (i := 6) sc_law.nd rfl (Or.inl rfl) (de_call G_view (hr.mono (by decide)) (by rfl) T.m_view T.k_view T.b_view (E := E0) pass0 (da_cons (de_v 4) (da_cons (de_v 5) da_nil))))
 (dss_one (ds_if (DW.dt (dw_or (dt_not (dt_val (de_call G__law_kinds (hr.mono (by decide)) (by rfl) T.m__law_kinds T.k__law_kinds T.b__law_kinds (E := E0) pass0 (da_cons (de_v 6) (da_cons (de_v 1) (da_cons (de_v 3) da_nil)))))) (dw_or1 (dt_cmp (opd_ne hu80) (de_v 6) (de_call G__law_view (hr.mono (by decide)) (by rfl) T.m__law_view T.k__law_view T.b__law_view (E := E0) pass0 (da_cons (de_v 4) (da_cons (de_v 5) da_nil))) (nomark _)))))
 (dss_one (ds_ret de_bl))
 dss_nil)))))))
 (dss_one (ds_ret de_bl)))))
end
theorem all_mk {l : PySem.W.OpenLaw} {w : World} {K : PySem.W.Frag} {h : Heap} {mg : Str → Option Value} {fa f_came_to f_view f_came_to_heard f_heard_earlier f__law_cell_at f__law_mix f__law_whole f__law_pairs f__law_weather f__law_values f__law_long_run f__law_senders f__law_view f__law_kinds f_law : Addr}  (X : K.In h) (G : h.Ns mainGlobals mg) (hfa : mg "law" = some (.ref fa))
    {od_came_to an_came_to od_view an_view od_came_to_heard an_came_to_heard od_heard_earlier an_heard_earlier od__law_cell_at an__law_cell_at od__law_mix an__law_mix od__law_whole an__law_whole od__law_pairs an__law_pairs od__law_weather an__law_weather od__law_values an__law_values od__law_long_run an__law_long_run od__law_senders an__law_senders od__law_view an__law_view od__law_kinds an__law_kinds od_law an_law : Option Addr} {sl_came_to sl_view sl_came_to_heard sl_heard_earlier sl__law_cell_at sl__law_mix sl__law_whole sl__law_pairs sl__law_weather sl__law_values sl__law_long_run sl__law_senders sl__law_view sl__law_kinds sl_law : Array (Option Value)} {oc_came_to kV_came_to dc_came_to pm_came_to cd_came_to ct_came_to oc_view kV_view dc_view pm_view cd_view ct_view oc_came_to_heard kV_came_to_heard dc_came_to_heard pm_came_to_heard cd_came_to_heard ct_came_to_heard oc_heard_earlier kV_heard_earlier dc_heard_earlier pm_heard_earlier cd_heard_earlier ct_heard_earlier oc__law_cell_at kV__law_cell_at dc__law_cell_at pm__law_cell_at cd__law_cell_at ct__law_cell_at oc__law_mix kV__law_mix dc__law_mix pm__law_mix cd__law_mix ct__law_mix oc__law_whole kV__law_whole dc__law_whole pm__law_whole cd__law_whole ct__law_whole oc__law_pairs kV__law_pairs dc__law_pairs pm__law_pairs cd__law_pairs ct__law_pairs oc__law_weather kV__law_weather dc__law_weather pm__law_weather cd__law_weather ct__law_weather oc__law_values kV__law_values dc__law_values pm__law_values cd__law_values ct__law_values oc__law_long_run kV__law_long_run dc__law_long_run pm__law_long_run cd__law_long_run ct__law_long_run oc__law_senders kV__law_senders dc__law_senders pm__law_senders cd__law_senders ct__law_senders oc__law_view kV__law_view dc__law_view pm__law_view cd__law_view ct__law_view oc__law_kinds kV__law_kinds dc__law_kinds pm__law_kinds cd__law_kinds ct__law_kinds oc_law kV_law dc_law pm_law cd_law ct_law : Value}
    (a_came_to : PySem.W.nsIn K mainGlobals "came_to" = some (some (.ref f_came_to))) (l_came_to : K.lookup f_came_to = some ⟨oc_came_to, od_came_to, .func (PySem.W.fnOf "came_to" "came_to" (defArgs s_came_to) (defBody s_came_to) (defScope s_came_to) .none kV_came_to dc_came_to pm_came_to an_came_to cd_came_to ct_came_to), sl_came_to⟩) (c_came_to : PySem.W.codeIn K cd_came_to "came_to" = true) (k_came_to : PySem.W.keepIn K (.ref f_came_to) = true)
    (a_view : PySem.W.nsIn K mainGlobals "view" = some (some (.ref f_view))) (l_view : K.lookup f_view = some ⟨oc_view, od_view, .func (PySem.W.fnOf "view" "view" (defArgs s_view) (defBody s_view) (defScope s_view) .none kV_view dc_view pm_view an_view cd_view ct_view), sl_view⟩) (c_view : PySem.W.codeIn K cd_view "view" = true) (k_view : PySem.W.keepIn K (.ref f_view) = true)
    (a_came_to_heard : PySem.W.nsIn K mainGlobals "came_to_heard" = some (some (.ref f_came_to_heard))) (l_came_to_heard : K.lookup f_came_to_heard = some ⟨oc_came_to_heard, od_came_to_heard, .func (PySem.W.fnOf "came_to_heard" "came_to_heard" (defArgs s_came_to_heard) (defBody s_came_to_heard) (defScope s_came_to_heard) .none kV_came_to_heard dc_came_to_heard pm_came_to_heard an_came_to_heard cd_came_to_heard ct_came_to_heard), sl_came_to_heard⟩) (c_came_to_heard : PySem.W.codeIn K cd_came_to_heard "came_to_heard" = true) (k_came_to_heard : PySem.W.keepIn K (.ref f_came_to_heard) = true)
    (a_heard_earlier : PySem.W.nsIn K mainGlobals "heard_earlier" = some (some (.ref f_heard_earlier))) (l_heard_earlier : K.lookup f_heard_earlier = some ⟨oc_heard_earlier, od_heard_earlier, .func (PySem.W.fnOf "heard_earlier" "heard_earlier" (defArgs s_heard_earlier) (defBody s_heard_earlier) (defScope s_heard_earlier) .none kV_heard_earlier dc_heard_earlier pm_heard_earlier an_heard_earlier cd_heard_earlier ct_heard_earlier), sl_heard_earlier⟩) (c_heard_earlier : PySem.W.codeIn K cd_heard_earlier "heard_earlier" = true) (k_heard_earlier : PySem.W.keepIn K (.ref f_heard_earlier) = true)
    (a__law_cell_at : PySem.W.nsIn K mainGlobals "_law_cell_at" = some (some (.ref f__law_cell_at))) (l__law_cell_at : K.lookup f__law_cell_at = some ⟨oc__law_cell_at, od__law_cell_at, .func (PySem.W.fnOf "_law_cell_at" "_law_cell_at" (defArgs s__law_cell_at) (defBody s__law_cell_at) (defScope s__law_cell_at) .none kV__law_cell_at dc__law_cell_at pm__law_cell_at an__law_cell_at cd__law_cell_at ct__law_cell_at), sl__law_cell_at⟩) (c__law_cell_at : PySem.W.codeIn K cd__law_cell_at "_law_cell_at" = true) (k__law_cell_at : PySem.W.keepIn K (.ref f__law_cell_at) = true)
    (a__law_mix : PySem.W.nsIn K mainGlobals "_law_mix" = some (some (.ref f__law_mix))) (l__law_mix : K.lookup f__law_mix = some ⟨oc__law_mix, od__law_mix, .func (PySem.W.fnOf "_law_mix" "_law_mix" (defArgs s__law_mix) (defBody s__law_mix) (defScope s__law_mix) .none kV__law_mix dc__law_mix pm__law_mix an__law_mix cd__law_mix ct__law_mix), sl__law_mix⟩) (c__law_mix : PySem.W.codeIn K cd__law_mix "_law_mix" = true) (k__law_mix : PySem.W.keepIn K (.ref f__law_mix) = true)
    (a__law_whole : PySem.W.nsIn K mainGlobals "_law_whole" = some (some (.ref f__law_whole))) (l__law_whole : K.lookup f__law_whole = some ⟨oc__law_whole, od__law_whole, .func (PySem.W.fnOf "_law_whole" "_law_whole" (defArgs s__law_whole) (defBody s__law_whole) (defScope s__law_whole) .none kV__law_whole dc__law_whole pm__law_whole an__law_whole cd__law_whole ct__law_whole), sl__law_whole⟩) (c__law_whole : PySem.W.codeIn K cd__law_whole "_law_whole" = true) (k__law_whole : PySem.W.keepIn K (.ref f__law_whole) = true)
    (a__law_pairs : PySem.W.nsIn K mainGlobals "_law_pairs" = some (some (.ref f__law_pairs))) (l__law_pairs : K.lookup f__law_pairs = some ⟨oc__law_pairs, od__law_pairs, .func (PySem.W.fnOf "_law_pairs" "_law_pairs" (defArgs s__law_pairs) (defBody s__law_pairs) (defScope s__law_pairs) .none kV__law_pairs dc__law_pairs pm__law_pairs an__law_pairs cd__law_pairs ct__law_pairs), sl__law_pairs⟩) (c__law_pairs : PySem.W.codeIn K cd__law_pairs "_law_pairs" = true) (k__law_pairs : PySem.W.keepIn K (.ref f__law_pairs) = true)
    (a__law_weather : PySem.W.nsIn K mainGlobals "_law_weather" = some (some (.ref f__law_weather))) (l__law_weather : K.lookup f__law_weather = some ⟨oc__law_weather, od__law_weather, .func (PySem.W.fnOf "_law_weather" "_law_weather" (defArgs s__law_weather) (defBody s__law_weather) (defScope s__law_weather) .none kV__law_weather dc__law_weather pm__law_weather an__law_weather cd__law_weather ct__law_weather), sl__law_weather⟩) (c__law_weather : PySem.W.codeIn K cd__law_weather "_law_weather" = true) (k__law_weather : PySem.W.keepIn K (.ref f__law_weather) = true)
    (a__law_values : PySem.W.nsIn K mainGlobals "_law_values" = some (some (.ref f__law_values))) (l__law_values : K.lookup f__law_values = some ⟨oc__law_values, od__law_values, .func (PySem.W.fnOf "_law_values" "_law_values" (defArgs s__law_values) (defBody s__law_values) (defScope s__law_values) .none kV__law_values dc__law_values pm__law_values an__law_values cd__law_values ct__law_values), sl__law_values⟩) (c__law_values : PySem.W.codeIn K cd__law_values "_law_values" = true) (k__law_values : PySem.W.keepIn K (.ref f__law_values) = true)
    (a__law_long_run : PySem.W.nsIn K mainGlobals "_law_long_run" = some (some (.ref f__law_long_run))) (l__law_long_run : K.lookup f__law_long_run = some ⟨oc__law_long_run, od__law_long_run, .func (PySem.W.fnOf "_law_long_run" "_law_long_run" (defArgs s__law_long_run) (defBody s__law_long_run) (defScope s__law_long_run) .none kV__law_long_run dc__law_long_run pm__law_long_run an__law_long_run cd__law_long_run ct__law_long_run), sl__law_long_run⟩) (c__law_long_run : PySem.W.codeIn K cd__law_long_run "_law_long_run" = true) (k__law_long_run : PySem.W.keepIn K (.ref f__law_long_run) = true)
    (a__law_senders : PySem.W.nsIn K mainGlobals "_law_senders" = some (some (.ref f__law_senders))) (l__law_senders : K.lookup f__law_senders = some ⟨oc__law_senders, od__law_senders, .func (PySem.W.fnOf "_law_senders" "_law_senders" (defArgs s__law_senders) (defBody s__law_senders) (defScope s__law_senders) .none kV__law_senders dc__law_senders pm__law_senders an__law_senders cd__law_senders ct__law_senders), sl__law_senders⟩) (c__law_senders : PySem.W.codeIn K cd__law_senders "_law_senders" = true) (k__law_senders : PySem.W.keepIn K (.ref f__law_senders) = true)
    (a__law_view : PySem.W.nsIn K mainGlobals "_law_view" = some (some (.ref f__law_view))) (l__law_view : K.lookup f__law_view = some ⟨oc__law_view, od__law_view, .func (PySem.W.fnOf "_law_view" "_law_view" (defArgs s__law_view) (defBody s__law_view) (defScope s__law_view) .none kV__law_view dc__law_view pm__law_view an__law_view cd__law_view ct__law_view), sl__law_view⟩) (c__law_view : PySem.W.codeIn K cd__law_view "_law_view" = true) (k__law_view : PySem.W.keepIn K (.ref f__law_view) = true)
    (a__law_kinds : PySem.W.nsIn K mainGlobals "_law_kinds" = some (some (.ref f__law_kinds))) (l__law_kinds : K.lookup f__law_kinds = some ⟨oc__law_kinds, od__law_kinds, .func (PySem.W.fnOf "_law_kinds" "_law_kinds" (defArgs s__law_kinds) (defBody s__law_kinds) (defScope s__law_kinds) .none kV__law_kinds dc__law_kinds pm__law_kinds an__law_kinds cd__law_kinds ct__law_kinds), sl__law_kinds⟩) (c__law_kinds : PySem.W.codeIn K cd__law_kinds "_law_kinds" = true) (k__law_kinds : PySem.W.keepIn K (.ref f__law_kinds) = true)
    (a_law : PySem.W.nsIn K mainGlobals "law" = some (some (.ref f_law))) (l_law : K.lookup f_law = some ⟨oc_law, od_law, .func (PySem.W.fnOf "law" "law" (defArgs s_law) (defBody s_law) (defScope s_law) .none kV_law dc_law pm_law an_law cd_law ct_law), sl_law⟩) (c_law : PySem.W.codeIn K cd_law "law" = true) (k_law : PySem.W.keepIn K (.ref f_law) = true)
    (z_bool : PySem.W.nsIn K mainGlobals "bool" = some none)
    (z_dict : PySem.W.nsIn K mainGlobals "dict" = some none)
    (z_enumerate : PySem.W.nsIn K mainGlobals "enumerate" = some none)
    (z_int : PySem.W.nsIn K mainGlobals "int" = some none)
    (z_isinstance : PySem.W.nsIn K mainGlobals "isinstance" = some none)
    (z_len : PySem.W.nsIn K mainGlobals "len" = some none)
    (z_list : PySem.W.nsIn K mainGlobals "list" = some none)
    (z_range : PySem.W.nsIn K mainGlobals "range" = some none)
    (z_reversed : PySem.W.nsIn K mainGlobals "reversed" = some none)
    (z_set : PySem.W.nsIn K mainGlobals "set" = some none)
    (z_sorted : PySem.W.nsIn K mainGlobals "sorted" = some none)
    (z_tuple : PySem.W.nsIn K mainGlobals "tuple" = some none)
    : ∃ fd : FuncData, (∀ (s : Shared) (v : Value), BindsTo s fd ⟨[v], []⟩ [("_law_script", v)]) ∧ ∀ base : Heap, K.In base → base.Ns mainGlobals mg → FnOk l.prog w K mg base CX0 4 fa fd ["_law_script"] (spD K 1 F_law) := by
  have e := hfa.symm.trans (PySem.W.mg_of X G a_law)
  cases e
  have F_came_to := fun_mk (st := s_came_to) l_came_to c_came_to k_came_to
  have F_view := fun_mk (st := s_view) l_view c_view k_view
  have F_came_to_heard := fun_mk (st := s_came_to_heard) l_came_to_heard c_came_to_heard k_came_to_heard
  have F_heard_earlier := fun_mk (st := s_heard_earlier) l_heard_earlier c_heard_earlier k_heard_earlier
  have F__law_cell_at := fun_mk (st := s__law_cell_at) l__law_cell_at c__law_cell_at k__law_cell_at
  have F__law_mix := fun_mk (st := s__law_mix) l__law_mix c__law_mix k__law_mix
  have F__law_whole := fun_mk (st := s__law_whole) l__law_whole c__law_whole k__law_whole
  have F__law_pairs := fun_mk (st := s__law_pairs) l__law_pairs c__law_pairs k__law_pairs
  have F__law_weather := fun_mk (st := s__law_weather) l__law_weather c__law_weather k__law_weather
  have F__law_values := fun_mk (st := s__law_values) l__law_values c__law_values k__law_values
  have F__law_long_run := fun_mk (st := s__law_long_run) l__law_long_run c__law_long_run k__law_long_run
  have F__law_senders := fun_mk (st := s__law_senders) l__law_senders c__law_senders k__law_senders
  have F__law_view := fun_mk (st := s__law_view) l__law_view c__law_view k__law_view
  have F__law_kinds := fun_mk (st := s__law_kinds) l__law_kinds c__law_kinds k__law_kinds
  have F_law := fun_mk (st := s_law) l_law c_law k_law
  have b_came_to := F_came_to.binds (ps := ["hands", "weather", "hand"]) fun _ _ _ _ _ _ us hl => match us, hl with | [_, _, _], _ => rfl
  have b_view := F_view.binds (ps := ["run", "hand"]) fun _ _ _ _ _ _ us hl => match us, hl with | [_, _], _ => rfl
  have b_came_to_heard := F_came_to_heard.binds (ps := ["hands", "weather", "heard"]) fun _ _ _ _ _ _ us hl => match us, hl with | [_, _, _], _ => rfl
  have b_heard_earlier := F_heard_earlier.binds (ps := ["heard", "came_here"]) fun _ _ _ _ _ _ us hl => match us, hl with | [_, _], _ => rfl
  have b__law_cell_at := F__law_cell_at.binds (ps := ["_law_script", "_law_k"]) fun _ _ _ _ _ _ us hl => match us, hl with | [_, _], _ => rfl
  have b__law_mix := F__law_mix.binds (ps := ["_law_cell", "_law_k"]) fun _ _ _ _ _ _ us hl => match us, hl with | [_, _], _ => rfl
  have b__law_whole := F__law_whole.binds (ps := ["_law_found"]) fun _ _ _ _ _ _ us hl => match us, hl with | [_], _ => rfl
  have b__law_pairs := F__law_pairs.binds (ps := ["_law_hands"]) fun _ _ _ _ _ _ us hl => match us, hl with | [_], _ => rfl
  have b__law_weather := F__law_weather.binds (ps := ["_law_number", "_law_hands"]) fun _ _ _ _ _ _ us hl => match us, hl with | [_, _], _ => rfl
  have b__law_values := F__law_values.binds (ps := ["_law_script"]) fun _ _ _ _ _ _ us hl => match us, hl with | [_], _ => rfl
  have b__law_long_run := F__law_long_run.binds (ps := ["_law_script", "_law_hands"]) fun _ _ _ _ _ _ us hl => match us, hl with | [_, _], _ => rfl
  have b__law_senders := F__law_senders.binds (ps := ["_law_hands", "_law_weather_here", "_law_hand"]) fun _ _ _ _ _ _ us hl => match us, hl with | [_, _, _], _ => rfl
  have b__law_view := F__law_view.binds (ps := ["_law_run", "_law_hand"]) fun _ _ _ _ _ _ us hl => match us, hl with | [_, _], _ => rfl
  have b__law_kinds := F__law_kinds.binds (ps := ["_law_found", "_law_hands", "_law_rounds"]) fun _ _ _ _ _ _ us hl => match us, hl with | [_, _, _], _ => rfl
  have b_law := F_law.binds (ps := ["_law_script"]) fun _ _ _ _ _ _ us hl => match us, hl with | [_], _ => rfl
  have T : Tx K mg ⟨f_came_to, _, f_view, _, f_came_to_heard, _, f_heard_earlier, _, f__law_cell_at, _, f__law_mix, _, f__law_whole, _, f__law_pairs, _, f__law_weather, _, f__law_values, _, f__law_long_run, _, f__law_senders, _, f__law_view, _, f__law_kinds, _, fa, _⟩ := ⟨F_came_to, PySem.W.mg_of X G a_came_to, k_came_to, b_came_to, F_view, PySem.W.mg_of X G a_view, k_view, b_view, F_came_to_heard, PySem.W.mg_of X G a_came_to_heard, k_came_to_heard, b_came_to_heard, F_heard_earlier, PySem.W.mg_of X G a_heard_earlier, k_heard_earlier, b_heard_earlier, F__law_cell_at, PySem.W.mg_of X G a__law_cell_at, k__law_cell_at, b__law_cell_at, F__law_mix, PySem.W.mg_of X G a__law_mix, k__law_mix, b__law_mix, F__law_whole, PySem.W.mg_of X G a__law_whole, k__law_whole, b__law_whole, F__law_pairs, PySem.W.mg_of X G a__law_pairs, k__law_pairs, b__law_pairs, F__law_weather, PySem.W.mg_of X G a__law_weather, k__law_weather, b__law_weather, F__law_values, PySem.W.mg_of X G a__law_values, k__law_values, b__law_values, F__law_long_run, PySem.W.mg_of X G a__law_long_run, k__law_long_run, b__law_long_run, F__law_senders, PySem.W.mg_of X G a__law_senders, k__law_senders, b__law_senders, F__law_view, PySem.W.mg_of X G a__law_view, k__law_view, b__law_view, F__law_kinds, PySem.W.mg_of X G a__law_kinds, k__law_kinds, b__law_kinds, F_law, PySem.W.mg_of X G a_law, k_law, b_law, PySem.W.mg_none_of X G z_bool, PySem.W.mg_none_of X G z_dict, PySem.W.mg_none_of X G z_enumerate, PySem.W.mg_none_of X G z_int, PySem.W.mg_none_of X G z_isinstance, PySem.W.mg_none_of X G z_len, PySem.W.mg_none_of X G z_list, PySem.W.mg_none_of X G z_range, PySem.W.mg_none_of X G z_reversed, PySem.W.mg_none_of X G z_set, PySem.W.mg_none_of X G z_sorted, PySem.W.mg_none_of X G z_tuple⟩
  exact ⟨PySem.W.fnOf "law" "law" (defArgs s_law) (defBody s_law) (defScope s_law) .none kV_law dc_law pm_law an_law cd_law ct_law, fun s v => .of_eq rfl, fun base _ _ => ok_law T⟩
/-- what is left: the law as a function of data tells True -/
theorem walk (hmain : ∀ ns : List Int, ns.length ≤ 63 → ∃ o, F_law [.list (ns.map PyData.int)] = some (.ok (o, .bool true))) {l : PySem.W.OpenLaw} {q : Program} {loose : List Str} {XP : (Str → Option Value) → Heap → Prop} {YP : World → Heap → Prop} {d : DefRec} {K : Params → PySem.W.Frag} (hn : l.most = some 63) (hdf : d.params.defaults = [])
    (hY : ∀ (w : World) (h : Heap), YP w h → (K w.params).In h)
    (F : ∀ (w : World) (mg : Str → Option Value) (fa : Addr) (h : Heap), (K w.params).In h → h.Ns mainGlobals mg → mg d.name = some (.ref fa) →
      ∃ fd : FuncData, (∀ (s : Shared) (u : Value), BindsTo s fd ⟨[u], []⟩ [("_law_script", u)]) ∧ ∀ base : Heap, (K w.params).In base → base.Ns mainGlobals mg → FnOk l.prog w (K w.params) mg base CX0 4 fa fd ["_law_script"] (spD (K w.params) 1 F_law)) :
    PySem.W.WalkO q loose XP YP l.row.toRowW d [] (fun f vs => PySem.call f vs) :=
  L2.walk_of (n := 63) (k := 4) (x := "_law_script") (CX := fun _ => CX0) (sp := fun w => spD (K w.params) 1 F_law) hn (by decide) hdf ⟨rfl, by decide, by decide⟩ hY F (fun _ _ a ns hl _ hS => spD_true hS (hmain ns hl)) fun _ _ _ _ _ z => z
end K12
set_option Elab.async false
set_option linter.all false
set_option maxRecDepth 100000
namespace K12
open PySem Y
def nat (o : Nat) : PyData := .int (o : Int)
/-- whose letters come to k -/
def sndD (h : Nat) (W : List PyData) (k : Nat) : List Nat := (List.range h).filter fun o => !((o : Int) == (k : Int)) && !inAny W (.tuple [.int (o : Int), .int (k : Int)])
theorem came_ok (h k : Nat) (W : List PyData) (hh : h ≤ 4) (hW : lays 60 W = true) : F_came_to [.int (h : Int), .tuple W, .int (k : Int)] = mret (true, .tuple ((sndD h W k).map nat)) := by
  have hp : ∀ o : Nat, lay 60 (.tuple [.int (o : Int), .int (k : Int)]) = true := fun _ => rfl
  have hc := compD_filter (ft := C_came_to_1) (fe := E_came_to_2) (cap := [some (false, .int (k : Int)), some (false, .tuple W)]) ((List.range h).map fun (i : Nat) => PyData.int (i : Int))
    (fun d => match d with | .int o => !(o == (k : Int)) && !inAny W (.tuple [.int o, .int (k : Int)]) | _ => false) (fun d => (Kd.fr [], d)) (fun d hd => by
      obtain ⟨o, _, rfl⟩ := List.mem_map.mp hd
      have e := gNotIn_tup (hp o) hW
      have n2 : nols [PyData.int (o : Int), .int (k : Int)] = true := rfl
      cases hb : (((o : Nat) : Int) == (k : Int)) with
      | true => simp -implicitDefEqProofs (disch := omega) only [C_came_to_1, runF, startD, sSeq, sIf, sRet, sRetN, sNil, sCnt, sBrk, sSet, sExp, sAsg, sMov, sFor, sApp, sExt, sClr, sPut, eOp, eUn, eV, eC, eIx, eIf, eChain, eAnd, eOr, eNotV, eArgs, eTup, eLst, eCB, eCall, eIsi, isTy, eIdx, eRep, tE, tAndF, tOrF, tNotF, tYesF, isFr, kdDisp, stor, frzK, gNm, itE, itR1, itemsOf, capD, mbind_ret, mo_some, gLt_int, gLe_int, gGt_int, gLen_list, gLen_tup, gIx_list, gIx_tup, gAdd_int, gSub_int, gMul_int, gFdiv_int, gMod_int, gPow_int, gNeg_int, gEq_int, gNe_int, gIs_non, gIsNot_non, isNon, rng1_int, nrm_int, nrm_bl, nrm_str, nrm_non, nrm_lst, nrm_dct, nol_int, nol_bl, nol_str, nol_non, nol_lst, nol_tup, List.map_cons, List.map_nil, List.cons_append, List.nil_append, List.getElem?_cons_zero, List.getElem?_cons_succ, List.length_cons, List.length_nil, List.length_map, List.length_range, List.set_cons_zero, List.set_cons_succ, List.replicate_succ, List.replicate_zero, if_true, if_false, Bool.false_eq_true, Bool.not_true, Bool.not_false, decide_true, decide_false, ite_true, ite_false, Option.map_some, Option.join_some, beq_self_eq_true, eq_self, String.reduceBEq, Bool.or_false, Bool.false_or, Bool.or_true, Bool.true_or, reduceCtorEq, reduceIte, hb, Bool.false_and]
      | false => simp -implicitDefEqProofs (disch := omega) only [C_came_to_1, runF, startD, sSeq, sIf, sRet, sRetN, sNil, sCnt, sBrk, sSet, sExp, sAsg, sMov, sFor, sApp, sExt, sClr, sPut, eOp, eUn, eV, eC, eIx, eIf, eChain, eAnd, eOr, eNotV, eArgs, eTup, eLst, eCB, eCall, eIsi, isTy, eIdx, eRep, tE, tAndF, tOrF, tNotF, tYesF, isFr, kdDisp, stor, frzK, gNm, itE, itR1, itemsOf, capD, mbind_ret, mo_some, gLt_int, gLe_int, gGt_int, gLen_list, gLen_tup, gIx_list, gIx_tup, gAdd_int, gSub_int, gMul_int, gFdiv_int, gMod_int, gPow_int, gNeg_int, gEq_int, gNe_int, gIs_non, gIsNot_non, isNon, rng1_int, nrm_int, nrm_bl, nrm_str, nrm_non, nrm_lst, nrm_dct, nol_int, nol_bl, nol_str, nol_non, nol_lst, nol_tup, List.map_cons, List.map_nil, List.cons_append, List.nil_append, List.getElem?_cons_zero, List.getElem?_cons_succ, List.length_cons, List.length_nil, List.length_map, List.length_range, List.set_cons_zero, List.set_cons_succ, List.replicate_succ, List.replicate_zero, if_true, if_false, Bool.false_eq_true, Bool.not_true, Bool.not_false, decide_true, decide_false, ite_true, ite_false, Option.map_some, Option.join_some, beq_self_eq_true, eq_self, String.reduceBEq, Bool.or_false, Bool.false_or, Bool.or_true, Bool.true_or, reduceCtorEq, reduceIte, hb, e, nrm_tup n2, Bool.true_and]) (fun d hd _ => by
      obtain ⟨o, _, rfl⟩ := List.mem_map.mp hd
      simp -implicitDefEqProofs (disch := omega) only [E_came_to_2, runF, startD, sSeq, sIf, sRet, sRetN, sNil, sCnt, sBrk, sSet, sExp, sAsg, sMov, sFor, sApp, sExt, sClr, sPut, eOp, eUn, eV, eC, eIx, eIf, eChain, eAnd, eOr, eNotV, eArgs, eTup, eLst, eCB, eCall, eIsi, isTy, eIdx, eRep, tE, tAndF, tOrF, tNotF, tYesF, isFr, kdDisp, stor, frzK, gNm, itE, itR1, itemsOf, capD, mbind_ret, mo_some, gLt_int, gLe_int, gGt_int, gLen_list, gLen_tup, gIx_list, gIx_tup, gAdd_int, gSub_int, gMul_int, gFdiv_int, gMod_int, gPow_int, gNeg_int, gEq_int, gNe_int, gIs_non, gIsNot_non, isNon, rng1_int, nrm_int, nrm_bl, nrm_str, nrm_non, nrm_lst, nrm_dct, nol_int, nol_bl, nol_str, nol_non, nol_lst, nol_tup, List.map_cons, List.map_nil, List.cons_append, List.nil_append, List.getElem?_cons_zero, List.getElem?_cons_succ, List.length_cons, List.length_nil, List.length_map, List.length_range, List.set_cons_zero, List.set_cons_succ, List.replicate_succ, List.replicate_zero, if_true, if_false, Bool.false_eq_true, Bool.not_true, Bool.not_false, decide_true, decide_false, ite_true, ite_false, Option.map_some, Option.join_some, beq_self_eq_true, eq_self, String.reduceBEq, Bool.or_false, Bool.false_or, Bool.or_true, Bool.true_or, reduceCtorEq, reduceIte])
  have e1 : ((((List.range h).map fun (i : Nat) => PyData.int (i : Int)).filter fun d => match d with | .int o => !(o == (k : Int)) && !inAny W (.tuple [.int o, .int (k : Int)]) | _ => false)) = (sndD h W k).map nat := by
    rw [List.filter_map]; rfl
  rw [e1] at hc
  have k1 := kdEl_fr ((sndD h W k).map nat) id
  simp only [id] at k1
  have m1 : (((sndD h W k).map nat).map fun d => (Kd.fr [], d)).map Prod.snd = (sndD h W k).map nat := by rw [List.map_map]; exact List.map_id _
  have hl : h ≤ 100000 := by omega
  have nW : nols ((sndD h W k).map nat) = true := nols_map _ (fun _ => rfl) _
  generalize (sndD h W k).map nat = L at *
  simp -implicitDefEqProofs (disch := omega) only [F_came_to, S_came_to, eComp, runF, startD, sSeq, sIf, sRet, sRetN, sNil, sCnt, sBrk, sSet, sExp, sAsg, sMov, sFor, sApp, sExt, sClr, sPut, eOp, eUn, eV, eC, eIx, eIf, eChain, eAnd, eOr, eNotV, eArgs, eTup, eLst, eCB, eCall, eIsi, isTy, eIdx, eRep, tE, tAndF, tOrF, tNotF, tYesF, isFr, kdDisp, stor, frzK, gNm, itE, itR1, itemsOf, capD, mbind_ret, mo_some, gLt_int, gLe_int, gGt_int, gLen_list, gLen_tup, gIx_list, gIx_tup, gAdd_int, gSub_int, gMul_int, gFdiv_int, gMod_int, gPow_int, gNeg_int, gEq_int, gNe_int, gIs_non, gIsNot_non, isNon, rng1_int, nrm_int, nrm_bl, nrm_str, nrm_non, nrm_lst, nrm_dct, nol_int, nol_bl, nol_str, nol_non, nol_lst, nol_tup, List.map_cons, List.map_nil, List.cons_append, List.nil_append, List.getElem?_cons_zero, List.getElem?_cons_succ, List.length_cons, List.length_nil, List.length_map, List.length_range, List.set_cons_zero, List.set_cons_succ, List.replicate_succ, List.replicate_zero, if_true, if_false, Bool.false_eq_true, Bool.not_true, Bool.not_false, decide_true, decide_false, ite_true, ite_false, Option.map_some, Option.join_some, beq_self_eq_true, eq_self, String.reduceBEq, Bool.or_false, Bool.false_or, Bool.or_true, Bool.true_or, reduceCtorEq, reduceIte, Int.toNat_natCast, hc, k1, m1, hl, gTuple_list nW, nrm_tup nW]
theorem senders_ok (h k : Nat) (W : List PyData) (hh : h ≤ 4) (hW : lays 60 W = true) : F__law_senders [.int (h : Int), .tuple W, .int (k : Int)] = mret (true, .tuple ((sndD h W k).map nat)) := by
  have hp : ∀ o : Nat, lay 60 (.tuple [.int (o : Int), .int (k : Int)]) = true := fun _ => rfl
  obtain ⟨Γ', h1, c4, h2⟩ := forD_inv (g := gNm 4) (b := B__law_senders_1) (ds := (List.range h).map fun (i : Nat) => PyData.int (i : Int)) (Γ := [some (false, .int (h : Int)), some (false, .tuple W), some (false, .int (k : Int)), some (true, .list []), none])
    (fun i Γ => ∃ c4 : Option (Bool × PyData), Γ = [some (false, .int (h : Int)), some (false, .tuple W), some (false, .int (k : Int)), some (true, .list ((sndD i W k).map nat)), c4]) ⟨none, rfl⟩ (by
    rintro i d Γ hd ⟨c4, rfl⟩
    obtain ⟨rfl, hi⟩ := range_get hd
    refine ⟨_, [some (false, .int (h : Int)), some (false, .tuple W), some (false, .int (k : Int)), some (true, .list ((sndD (i + 1) W k).map nat)), some (true, .int (i : Int))], rfl, .inl ?_, _, rfl⟩
    have e := gNotIn_tup (hp i) hW
    have n2 : nols [PyData.int (i : Int), .int (k : Int)] = true := rfl
    have hsz : (sndD i W k).length < sizeLine := Nat.lt_of_le_of_lt (Nat.le_trans (List.length_filter_le _ _) (by rw [List.length_range]; omega : _ ≤ 4)) (by decide)
    have es : sndD (i + 1) W k = sndD i W k ++ (if (!((i : Int) == (k : Int)) && !inAny W (.tuple [.int (i : Int), .int (k : Int)])) = true then [i] else []) := by
      unfold sndD; rw [List.range_succ, List.filter_append, List.filter_cons, List.filter_nil]
    rw [es]
    cases hb : (((i : Nat) : Int) == (k : Int)) with
    | true => simp -implicitDefEqProofs (disch := omega) only [B__law_senders_1, runF, startD, sSeq, sIf, sRet, sRetN, sNil, sCnt, sBrk, sSet, sExp, sAsg, sMov, sFor, sApp, sExt, sClr, sPut, eOp, eUn, eV, eC, eIx, eIf, eChain, eAnd, eOr, eNotV, eArgs, eTup, eLst, eCB, eCall, eIsi, isTy, eIdx, eRep, tE, tAndF, tOrF, tNotF, tYesF, isFr, kdDisp, stor, frzK, gNm, itE, itR1, itemsOf, capD, mbind_ret, mo_some, gLt_int, gLe_int, gGt_int, gLen_list, gLen_tup, gIx_list, gIx_tup, gAdd_int, gSub_int, gMul_int, gFdiv_int, gMod_int, gPow_int, gNeg_int, gEq_int, gNe_int, gIs_non, gIsNot_non, isNon, rng1_int, nrm_int, nrm_bl, nrm_str, nrm_non, nrm_lst, nrm_dct, nol_int, nol_bl, nol_str, nol_non, nol_lst, nol_tup, List.map_cons, List.map_nil, List.cons_append, List.nil_append, List.getElem?_cons_zero, List.getElem?_cons_succ, List.length_cons, List.length_nil, List.length_map, List.length_range, List.set_cons_zero, List.set_cons_succ, List.replicate_succ, List.replicate_zero, if_true, if_false, Bool.false_eq_true, Bool.not_true, Bool.not_false, decide_true, decide_false, ite_true, ite_false, Option.map_some, Option.join_some, beq_self_eq_true, eq_self, String.reduceBEq, Bool.or_false, Bool.false_or, Bool.or_true, Bool.true_or, reduceCtorEq, reduceIte, hb, Bool.false_and, List.append_nil]
    | false =>
      cases ha : inAny W (.tuple [.int (i : Int), .int (k : Int)]) with
      | true => simp -implicitDefEqProofs (disch := omega) only [B__law_senders_1, runF, startD, sSeq, sIf, sRet, sRetN, sNil, sCnt, sBrk, sSet, sExp, sAsg, sMov, sFor, sApp, sExt, sClr, sPut, eOp, eUn, eV, eC, eIx, eIf, eChain, eAnd, eOr, eNotV, eArgs, eTup, eLst, eCB, eCall, eIsi, isTy, eIdx, eRep, tE, tAndF, tOrF, tNotF, tYesF, isFr, kdDisp, stor, frzK, gNm, itE, itR1, itemsOf, capD, mbind_ret, mo_some, gLt_int, gLe_int, gGt_int, gLen_list, gLen_tup, gIx_list, gIx_tup, gAdd_int, gSub_int, gMul_int, gFdiv_int, gMod_int, gPow_int, gNeg_int, gEq_int, gNe_int, gIs_non, gIsNot_non, isNon, rng1_int, nrm_int, nrm_bl, nrm_str, nrm_non, nrm_lst, nrm_dct, nol_int, nol_bl, nol_str, nol_non, nol_lst, nol_tup, List.map_cons, List.map_nil, List.cons_append, List.nil_append, List.getElem?_cons_zero, List.getElem?_cons_succ, List.length_cons, List.length_nil, List.length_map, List.length_range, List.set_cons_zero, List.set_cons_succ, List.replicate_succ, List.replicate_zero, if_true, if_false, Bool.false_eq_true, Bool.not_true, Bool.not_false, decide_true, decide_false, ite_true, ite_false, Option.map_some, Option.join_some, beq_self_eq_true, eq_self, String.reduceBEq, Bool.or_false, Bool.false_or, Bool.or_true, Bool.true_or, reduceCtorEq, reduceIte, hb, e, ha, nrm_tup n2, Bool.true_and, List.append_nil]
      | false => simp -implicitDefEqProofs (disch := omega) only [B__law_senders_1, runF, startD, sSeq, sIf, sRet, sRetN, sNil, sCnt, sBrk, sSet, sExp, sAsg, sMov, sFor, sApp, sExt, sClr, sPut, eOp, eUn, eV, eC, eIx, eIf, eChain, eAnd, eOr, eNotV, eArgs, eTup, eLst, eCB, eCall, eIsi, isTy, eIdx, eRep, tE, tAndF, tOrF, tNotF, tYesF, isFr, kdDisp, stor, frzK, gNm, itE, itR1, itemsOf, capD, mbind_ret, mo_some, gLt_int, gLe_int, gGt_int, gLen_list, gLen_tup, gIx_list, gIx_tup, gAdd_int, gSub_int, gMul_int, gFdiv_int, gMod_int, gPow_int, gNeg_int, gEq_int, gNe_int, gIs_non, gIsNot_non, isNon, rng1_int, nrm_int, nrm_bl, nrm_str, nrm_non, nrm_lst, nrm_dct, nol_int, nol_bl, nol_str, nol_non, nol_lst, nol_tup, List.map_cons, List.map_nil, List.cons_append, List.nil_append, List.getElem?_cons_zero, List.getElem?_cons_succ, List.length_cons, List.length_nil, List.length_map, List.length_range, List.set_cons_zero, List.set_cons_succ, List.replicate_succ, List.replicate_zero, if_true, if_false, Bool.false_eq_true, Bool.not_true, Bool.not_false, decide_true, decide_false, ite_true, ite_false, Option.map_some, Option.join_some, beq_self_eq_true, eq_self, String.reduceBEq, Bool.or_false, Bool.false_or, Bool.or_true, Bool.true_or, reduceCtorEq, reduceIte, hb, e, ha, nrm_tup n2, Bool.true_and, hsz, List.map_append, nat])
  rw [List.length_map, List.length_range] at h2
  have nW : nols ((sndD h W k).map nat) = true := nols_map _ (fun _ => rfl) _
  simp -implicitDefEqProofs (disch := omega) only [F__law_senders, S__law_senders, runF, startD, sSeq, sIf, sRet, sRetN, sNil, sCnt, sBrk, sSet, sExp, sAsg, sMov, sFor, sApp, sExt, sClr, sPut, eOp, eUn, eV, eC, eIx, eIf, eChain, eAnd, eOr, eNotV, eArgs, eTup, eLst, eCB, eCall, eIsi, isTy, eIdx, eRep, tE, tAndF, tOrF, tNotF, tYesF, isFr, kdDisp, stor, frzK, gNm, itE, itR1, itemsOf, capD, mbind_ret, mo_some, gLt_int, gLe_int, gGt_int, gLen_list, gLen_tup, gIx_list, gIx_tup, gAdd_int, gSub_int, gMul_int, gFdiv_int, gMod_int, gPow_int, gNeg_int, gEq_int, gNe_int, gIs_non, gIsNot_non, isNon, rng1_int, nrm_int, nrm_bl, nrm_str, nrm_non, nrm_lst, nrm_dct, nol_int, nol_bl, nol_str, nol_non, nol_lst, nol_tup, List.map_cons, List.map_nil, List.cons_append, List.nil_append, List.getElem?_cons_zero, List.getElem?_cons_succ, List.length_cons, List.length_nil, List.length_map, List.length_range, List.set_cons_zero, List.set_cons_succ, List.replicate_succ, List.replicate_zero, if_true, if_false, Bool.false_eq_true, Bool.not_true, Bool.not_false, decide_true, decide_false, ite_true, ite_false, Option.map_some, Option.join_some, beq_self_eq_true, eq_self, String.reduceBEq, Bool.or_false, Bool.false_or, Bool.or_true, Bool.true_or, reduceCtorEq, reduceIte, Int.toNat_natCast, h1, h2, gTuple_list nW, nrm_tup nW]
theorem inAny_nats (H : List Nat) (k : Nat) : inAny (H.map nat) (.int (k : Int)) = decide (k ∈ H) := by
  have e : H.map nat = (H.map fun (o : Nat) => (o : Int)).map PyData.int := by rw [List.map_map]; rfl
  rw [e, inAny_ints]
  congr 1
  rw [List.mem_map, eq_iff_iff]
  exact ⟨fun ⟨o, ho, h⟩ => by have : o = k := by omega
                              exact this ▸ ho, fun h => ⟨k, h, rfl⟩⟩
def rowH (h : Nat) (W : List PyData) (H : List Nat) (k : Nat) : PyData := if k ∈ H then .tuple ((sndD h W k).map nat) else .none
theorem nol_row (h : Nat) (W : List PyData) (H : List Nat) (k : Nat) : nol (rowH h W H k) = true := by
  unfold rowH; split
  · exact nols_map _ (fun _ => rfl) _
  · rfl
theorem heard_ok (h : Nat) (W : List PyData) (H : List Nat) (hh : h ≤ 4) (hW : lays 60 W = true) :
    F_came_to_heard [.int (h : Int), .tuple W, .list (H.map nat)] = mret (true, .tuple ((List.range h).map (rowH h W H))) := by
  have hc := compD_map (fe := E_came_to_heard_1) (cap := [some (false, .list (H.map nat)), some (false, .int (h : Int)), some (false, .tuple W)]) ((List.range h).map fun (i : Nat) => PyData.int (i : Int))
    (fun d => match d with | .int k => (.fr [], rowH h W H k.toNat) | _ => (.fr [], .none)) (fun d hd => by
      obtain ⟨k, _, rfl⟩ := List.mem_map.mp hd
      have e := gIn_list (x := .int (k : Int)) (ys := H.map nat) rfl (lays_map _ (fun _ => rfl) _)
      rw [inAny_nats] at e
      have c := came_ok h k W hh hW
      have nW : nols ((sndD h W k).map nat) = true := nols_map _ (fun _ => rfl) _
      by_cases hb : k ∈ H
      · simp -implicitDefEqProofs (disch := omega) only [E_came_to_heard_1, runF, startD, sSeq, sIf, sRet, sRetN, sNil, sCnt, sBrk, sSet, sExp, sAsg, sMov, sFor, sApp, sExt, sClr, sPut, eOp, eUn, eV, eC, eIx, eIf, eChain, eAnd, eOr, eNotV, eArgs, eTup, eLst, eCB, eCall, eIsi, isTy, eIdx, eRep, tE, tAndF, tOrF, tNotF, tYesF, isFr, kdDisp, stor, frzK, gNm, itE, itR1, itemsOf, capD, mbind_ret, mo_some, gLt_int, gLe_int, gGt_int, gLen_list, gLen_tup, gIx_list, gIx_tup, gAdd_int, gSub_int, gMul_int, gFdiv_int, gMod_int, gPow_int, gNeg_int, gEq_int, gNe_int, gIs_non, gIsNot_non, isNon, rng1_int, nrm_int, nrm_bl, nrm_str, nrm_non, nrm_lst, nrm_dct, nol_int, nol_bl, nol_str, nol_non, nol_lst, nol_tup, List.map_cons, List.map_nil, List.cons_append, List.nil_append, List.getElem?_cons_zero, List.getElem?_cons_succ, List.length_cons, List.length_nil, List.length_map, List.length_range, List.set_cons_zero, List.set_cons_succ, List.replicate_succ, List.replicate_zero, if_true, if_false, Bool.false_eq_true, Bool.not_true, Bool.not_false, decide_true, decide_false, ite_true, ite_false, Option.map_some, Option.join_some, beq_self_eq_true, eq_self, String.reduceBEq, Bool.or_false, Bool.false_or, Bool.or_true, Bool.true_or, reduceCtorEq, reduceIte, e, hb, c, nrm_tup nW, Int.toNat_natCast, rowH]
      · simp -implicitDefEqProofs (disch := omega) only [E_came_to_heard_1, runF, startD, sSeq, sIf, sRet, sRetN, sNil, sCnt, sBrk, sSet, sExp, sAsg, sMov, sFor, sApp, sExt, sClr, sPut, eOp, eUn, eV, eC, eIx, eIf, eChain, eAnd, eOr, eNotV, eArgs, eTup, eLst, eCB, eCall, eIsi, isTy, eIdx, eRep, tE, tAndF, tOrF, tNotF, tYesF, isFr, kdDisp, stor, frzK, gNm, itE, itR1, itemsOf, capD, mbind_ret, mo_some, gLt_int, gLe_int, gGt_int, gLen_list, gLen_tup, gIx_list, gIx_tup, gAdd_int, gSub_int, gMul_int, gFdiv_int, gMod_int, gPow_int, gNeg_int, gEq_int, gNe_int, gIs_non, gIsNot_non, isNon, rng1_int, nrm_int, nrm_bl, nrm_str, nrm_non, nrm_lst, nrm_dct, nol_int, nol_bl, nol_str, nol_non, nol_lst, nol_tup, List.map_cons, List.map_nil, List.cons_append, List.nil_append, List.getElem?_cons_zero, List.getElem?_cons_succ, List.length_cons, List.length_nil, List.length_map, List.length_range, List.set_cons_zero, List.set_cons_succ, List.replicate_succ, List.replicate_zero, if_true, if_false, Bool.false_eq_true, Bool.not_true, Bool.not_false, decide_true, decide_false, ite_true, ite_false, Option.map_some, Option.join_some, beq_self_eq_true, eq_self, String.reduceBEq, Bool.or_false, Bool.false_or, Bool.or_true, Bool.true_or, reduceCtorEq, reduceIte, e, hb, Int.toNat_natCast, rowH])
  rw [List.map_map] at hc
  have e1 : (((List.range h).map fun (i : Nat) => PyData.int (i : Int)).map fun d => match d with | .int k => (Kd.fr [], rowH h W H k.toNat) | _ => (Kd.fr [], PyData.none)) = (List.range h).map fun k => (Kd.fr [], rowH h W H k) := by
    rw [List.map_map]; refine List.map_congr_left fun k _ => ?_; simp only [Function.comp, Int.toNat_natCast]
  rw [List.map_map] at e1
  rw [e1] at hc
  have k1 := kdEl_fr (List.range h) (rowH h W H)
  have m1 : ((List.range h).map fun k => (Kd.fr [], rowH h W H k)).map Prod.snd = (List.range h).map (rowH h W H) := by rw [List.map_map]; rfl
  have hl : h ≤ 100000 := by omega
  have nW : nols ((List.range h).map (rowH h W H)) = true := nols_map _ (nol_row h W H) _
  simp -implicitDefEqProofs (disch := omega) only [F_came_to_heard, S_came_to_heard, eComp, runF, startD, sSeq, sIf, sRet, sRetN, sNil, sCnt, sBrk, sSet, sExp, sAsg, sMov, sFor, sApp, sExt, sClr, sPut, eOp, eUn, eV, eC, eIx, eIf, eChain, eAnd, eOr, eNotV, eArgs, eTup, eLst, eCB, eCall, eIsi, isTy, eIdx, eRep, tE, tAndF, tOrF, tNotF, tYesF, isFr, kdDisp, stor, frzK, gNm, itE, itR1, itemsOf, capD, mbind_ret, mo_some, gLt_int, gLe_int, gGt_int, gLen_list, gLen_tup, gIx_list, gIx_tup, gAdd_int, gSub_int, gMul_int, gFdiv_int, gMod_int, gPow_int, gNeg_int, gEq_int, gNe_int, gIs_non, gIsNot_non, isNon, rng1_int, nrm_int, nrm_bl, nrm_str, nrm_non, nrm_lst, nrm_dct, nol_int, nol_bl, nol_str, nol_non, nol_lst, nol_tup, List.map_cons, List.map_nil, List.cons_append, List.nil_append, List.getElem?_cons_zero, List.getElem?_cons_succ, List.length_cons, List.length_nil, List.length_map, List.length_range, List.set_cons_zero, List.set_cons_succ, List.replicate_succ, List.replicate_zero, if_true, if_false, Bool.false_eq_true, Bool.not_true, Bool.not_false, decide_true, decide_false, ite_true, ite_false, Option.map_some, Option.join_some, beq_self_eq_true, eq_self, String.reduceBEq, Bool.or_false, Bool.false_or, Bool.or_true, Bool.true_or, reduceCtorEq, reduceIte, Int.toNat_natCast, hc, k1, m1, hl, gTuple_list nW, nrm_tup nW]
/-- who is heard one round earlier -/
def earl (h : Nat) (W : List PyData) (H : List Nat) (i : Nat) : List Nat := H ++ ((List.range i).filter fun k => decide (k ∈ H)).flatMap (sndD h W)
def nextH (h : Nat) (W : List PyData) (H : List Nat) : List Nat := [0, 1, 2, 3].filter fun k => decide (k ∈ earl h W H h)
theorem sort4_nats (E : List Nat) : sort4 (E.map nat) = ([0, 1, 2, 3].filter fun k => decide (k ∈ E)).map nat := by
  unfold sort4
  show List.map nat _ = _
  congr 1
  refine List.filter_congr fun k _ => ?_
  rw [List.any_map, Bool.eq_iff_iff, List.any_eq_true, decide_eq_true_eq]
  constructor
  · rintro ⟨y, hy, hk⟩
    have hk2 : ((y : Nat) : Int) = (k : Int) := by simpa [isK, nat] using hk
    have : y = k := by omega
    exact this ▸ hy
  · intro h; exact ⟨k, h, by simp [isK, nat]⟩
theorem sndD_lt {h : Nat} {W : List PyData} {k o : Nat} (ho : o ∈ sndD h W k) : o < h := List.mem_range.mp (List.mem_filter.mp ho).1
theorem earlier_ok (h : Nat) (W : List PyData) (H : List Nat) (hh : h ≤ 4) (hH : ∀ k ∈ H, k < h) (hl : H.length ≤ 4) :
    F_heard_earlier [.list (H.map nat), .tuple ((List.range h).map (rowH h W H))] = mret (true, .list ((nextH h W H).map nat)) := by
  have slen : ∀ k, (sndD h W k).length ≤ 4 := fun k => Nat.le_trans (List.length_filter_le _ _) (by rw [List.length_range]; exact hh)
  have flen : ∀ i, i ≤ h → (earl h W H i).length ≤ 4 + 4 * i := by
    intro i
    induction i with
    | zero => intro _; simp [earl]; omega
    | succ i ih =>
      intro hi
      have := ih (by omega)
      have s := slen i
      unfold earl at this ⊢
      rw [List.range_succ, List.filter_append, List.flatMap_append, ← List.append_assoc, List.length_append]
      by_cases hm : i ∈ H
      · simp only [List.filter_cons, hm, decide_true, if_true, List.filter_nil, List.flatMap_cons, List.flatMap_nil, List.append_nil]; omega
      · simp only [List.filter_cons, hm, decide_false, Bool.false_eq_true, if_false, List.filter_nil, List.flatMap_nil, List.length_nil]; omega
  obtain ⟨Γ', h1, c3, h2⟩ := forD_inv (g := gNm 3) (b := B_heard_earlier_1) (ds := (List.range h).map (rowH h W H)) (Γ := [some (false, .list (H.map nat)), some (false, .tuple ((List.range h).map (rowH h W H))), some (true, .list (H.map nat)), none])
    (fun i Γ => ∃ c3 : Option (Bool × PyData), Γ = [some (false, .list (H.map nat)), some (false, .tuple ((List.range h).map (rowH h W H))), some (true, .list ((earl h W H i).map nat)), c3]) ⟨none, by simp [earl]⟩ (by
    rintro i d Γ hd ⟨c3, rfl⟩
    have hi : i < h := by have := (List.getElem?_eq_some_iff.mp hd).1; simpa using this
    rw [List.getElem?_map, List.getElem?_range hi] at hd
    have hd' : rowH h W H i = d := Option.some.inj hd
    subst hd'
    refine ⟨_, [some (false, .list (H.map nat)), some (false, .tuple ((List.range h).map (rowH h W H))), some (true, .list ((earl h W H (i + 1)).map nat)), some (true, rowH h W H i)], by rw [nrm_t (nol_row h W H i)]; rfl, .inl ?_, _, rfl⟩
    have f1 := flen i (by omega)
    have s1 := slen i
    have nW : nols ((sndD h W i).map nat) = true := nols_map _ (fun _ => rfl) _
    have hsz : (earl h W H i).length + (sndD h W i).length ≤ sizeLine := Nat.le_trans (show _ ≤ 100 by omega) (by decide)
    have es : earl h W H (i + 1) = earl h W H i ++ (if i ∈ H then sndD h W i else []) := by
      unfold earl
      rw [List.range_succ, List.filter_append, List.flatMap_append, ← List.append_assoc]
      by_cases hm : i ∈ H
      · simp only [List.filter_cons, hm, decide_true, if_true, List.filter_nil, List.flatMap_cons, List.flatMap_nil, List.append_nil]
      · simp only [List.filter_cons, hm, decide_false, Bool.false_eq_true, if_false, List.filter_nil, List.flatMap_nil]
    rw [es]
    by_cases hm : i ∈ H
    · simp -implicitDefEqProofs (disch := omega) only [B_heard_earlier_1, runF, startD, sSeq, sIf, sRet, sRetN, sNil, sCnt, sBrk, sSet, sExp, sAsg, sMov, sFor, sApp, sExt, sClr, sPut, eOp, eUn, eV, eC, eIx, eIf, eChain, eAnd, eOr, eNotV, eArgs, eTup, eLst, eCB, eCall, eIsi, isTy, eIdx, eRep, tE, tAndF, tOrF, tNotF, tYesF, isFr, kdDisp, stor, frzK, gNm, itE, itR1, itemsOf, capD, mbind_ret, mo_some, gLt_int, gLe_int, gGt_int, gLen_list, gLen_tup, gIx_list, gIx_tup, gAdd_int, gSub_int, gMul_int, gFdiv_int, gMod_int, gPow_int, gNeg_int, gEq_int, gNe_int, gIs_non, gIsNot_non, isNon, rng1_int, nrm_int, nrm_bl, nrm_str, nrm_non, nrm_lst, nrm_dct, nol_int, nol_bl, nol_str, nol_non, nol_lst, nol_tup, List.map_cons, List.map_nil, List.cons_append, List.nil_append, List.getElem?_cons_zero, List.getElem?_cons_succ, List.length_cons, List.length_nil, List.length_map, List.length_range, List.set_cons_zero, List.set_cons_succ, List.replicate_succ, List.replicate_zero, if_true, if_false, Bool.false_eq_true, Bool.not_true, Bool.not_false, decide_true, decide_false, ite_true, ite_false, Option.map_some, Option.join_some, beq_self_eq_true, eq_self, String.reduceBEq, Bool.or_false, Bool.false_or, Bool.or_true, Bool.true_or, reduceCtorEq, reduceIte, rowH, hm, nrm_tup nW, extI, nW, hsz, List.map_append, and_self]
    · simp -implicitDefEqProofs (disch := omega) only [B_heard_earlier_1, runF, startD, sSeq, sIf, sRet, sRetN, sNil, sCnt, sBrk, sSet, sExp, sAsg, sMov, sFor, sApp, sExt, sClr, sPut, eOp, eUn, eV, eC, eIx, eIf, eChain, eAnd, eOr, eNotV, eArgs, eTup, eLst, eCB, eCall, eIsi, isTy, eIdx, eRep, tE, tAndF, tOrF, tNotF, tYesF, isFr, kdDisp, stor, frzK, gNm, itE, itR1, itemsOf, capD, mbind_ret, mo_some, gLt_int, gLe_int, gGt_int, gLen_list, gLen_tup, gIx_list, gIx_tup, gAdd_int, gSub_int, gMul_int, gFdiv_int, gMod_int, gPow_int, gNeg_int, gEq_int, gNe_int, gIs_non, gIsNot_non, isNon, rng1_int, nrm_int, nrm_bl, nrm_str, nrm_non, nrm_lst, nrm_dct, nol_int, nol_bl, nol_str, nol_non, nol_lst, nol_tup, List.map_cons, List.map_nil, List.cons_append, List.nil_append, List.getElem?_cons_zero, List.getElem?_cons_succ, List.length_cons, List.length_nil, List.length_map, List.length_range, List.set_cons_zero, List.set_cons_succ, List.replicate_succ, List.replicate_zero, if_true, if_false, Bool.false_eq_true, Bool.not_true, Bool.not_false, decide_true, decide_false, ite_true, ite_false, Option.map_some, Option.join_some, beq_self_eq_true, eq_self, String.reduceBEq, Bool.or_false, Bool.false_or, Bool.or_true, Bool.true_or, reduceCtorEq, reduceIte, rowH, hm, List.append_nil])
  rw [List.length_map, List.length_range] at h2
  have hlt : ∀ k ∈ earl h W H h, k < 4 := fun k hk => by
    unfold earl at hk
    rcases List.mem_append.mp hk with hk | hk
    · have := hH k hk; omega
    · obtain ⟨j, _, hj⟩ := List.mem_flatMap.mp hk
      have := sndD_lt hj; omega
  have hin : ((earl h W H h).map nat).all in4 = true := by
    rw [List.all_map, List.all_eq_true]
    intro k hk
    have := hlt k hk
    simp only [Function.comp, nat, in4, Bool.and_eq_true, decide_eq_true_eq]
    omega
  have hs : gSortSet (.list ((earl h W H h).map nat)) = some (.list ((nextH h W H).map nat)) := by
    simp only [gSortSet, hin, if_true, sort4_nats, nextH]
  have n1 : nols (H.map nat) = true := nols_map _ (fun _ => rfl) _
  have n2 : nols ((List.range h).map (rowH h W H)) = true := nols_map _ (nol_row h W H) _
  simp -implicitDefEqProofs (disch := omega) only [F_heard_earlier, S_heard_earlier, runF, startD, sSeq, sIf, sRet, sRetN, sNil, sCnt, sBrk, sSet, sExp, sAsg, sMov, sFor, sApp, sExt, sClr, sPut, eOp, eUn, eV, eC, eIx, eIf, eChain, eAnd, eOr, eNotV, eArgs, eTup, eLst, eCB, eCall, eIsi, isTy, eIdx, eRep, tE, tAndF, tOrF, tNotF, tYesF, isFr, kdDisp, stor, frzK, gNm, itE, itR1, itemsOf, capD, mbind_ret, mo_some, gLt_int, gLe_int, gGt_int, gLen_list, gLen_tup, gIx_list, gIx_tup, gAdd_int, gSub_int, gMul_int, gFdiv_int, gMod_int, gPow_int, gNeg_int, gEq_int, gNe_int, gIs_non, gIsNot_non, isNon, rng1_int, nrm_int, nrm_bl, nrm_str, nrm_non, nrm_lst, nrm_dct, nol_int, nol_bl, nol_str, nol_non, nol_lst, nol_tup, List.map_cons, List.map_nil, List.cons_append, List.nil_append, List.getElem?_cons_zero, List.getElem?_cons_succ, List.length_cons, List.length_nil, List.length_map, List.length_range, List.set_cons_zero, List.set_cons_succ, List.replicate_succ, List.replicate_zero, if_true, if_false, Bool.false_eq_true, Bool.not_true, Bool.not_false, decide_true, decide_false, ite_true, ite_false, Option.map_some, Option.join_some, beq_self_eq_true, eq_self, String.reduceBEq, Bool.or_false, Bool.false_or, Bool.or_true, Bool.true_or, reduceCtorEq, reduceIte, gList_list n1, nrm_tup n2, h1, h2, hs]
def hs (h : Nat) : List (List PyData) → List Nat → List Nat
  | [], H => H
  | W :: R, H => hs h R (nextH h W H)
def rows (h : Nat) : List (List PyData) → List Nat → List PyData
  | [], _ => []
  | W :: R, H => .tuple ((List.range h).map (rowH h W H)) :: rows h R (nextH h W H)
theorem hs_snoc (h : Nat) (W : List PyData) : ∀ (R : List (List PyData)) (H : List Nat), hs h (R ++ [W]) H = nextH h W (hs h R H)
  | [], H => rfl
  | V :: R, H => by rw [List.cons_append, hs, hs, hs_snoc h W R]
theorem rows_snoc (h : Nat) (W : List PyData) : ∀ (R : List (List PyData)) (H : List Nat), rows h (R ++ [W]) H = rows h R H ++ [.tuple ((List.range h).map (rowH h W (hs h R H)))]
  | [], H => rfl
  | V :: R, H => by rw [List.cons_append, rows, rows, rows_snoc h W R, hs, List.cons_append]
theorem nextH_lt {h : Nat} {W : List PyData} {H : List Nat} (hH : ∀ k ∈ H, k < h) : ∀ k ∈ nextH h W H, k < h := fun k hk => by
  have hk' : k ∈ earl h W H h := by simpa using (List.mem_filter.mp hk).2
  unfold earl at hk'
  rcases List.mem_append.mp hk' with z | z
  · exact hH k z
  · obtain ⟨j, _, hj⟩ := List.mem_flatMap.mp z; exact sndD_lt hj
theorem nextH_len (h : Nat) (W : List PyData) (H : List Nat) : (nextH h W H).length ≤ 4 := List.length_filter_le _ _
theorem hs_ok {h : Nat} : ∀ {R : List (List PyData)} {H : List Nat}, (∀ k ∈ H, k < h) → H.length ≤ 4 → (∀ k ∈ hs h R H, k < h) ∧ (hs h R H).length ≤ 4
  | [], H, h1, h2 => ⟨h1, h2⟩
  | W :: R, H, h1, h2 => hs_ok (R := R) (H := nextH h W H) (nextH_lt h1) (nextH_len h W H)
theorem rows_nol {h : Nat} : ∀ {R : List (List PyData)} {H : List Nat}, nols (rows h R H) = true
  | [], H => rfl
  | W :: R, H => by rw [rows, nols, rows_nol, nol_tup, nols_map _ (nol_row h W H)]; rfl
theorem rows_len {h : Nat} : ∀ {R : List (List PyData)} {H : List Nat}, (rows h R H).length = R.length
  | [], H => rfl
  | W :: R, H => by rw [rows, List.length_cons, rows_len, List.length_cons]
def seenV (vs : List Int) (H : List Nat) (k : Nat) : PyData := if k ∈ H then .int (vs.getD k 0) else .none
theorem nol_seen (vs : List Int) (H : List Nat) (k : Nat) : nol (seenV vs H k) = true := by unfold seenV; split <;> rfl
def viewD (vs : List Int) (Ws : List (List PyData)) (hand : Nat) : PyData :=
  .tuple [.int (hand : Int), .tuple ((List.range vs.length).map (seenV vs (hs vs.length Ws.reverse [hand]))), .tuple (rows vs.length Ws.reverse [hand]).reverse]
def runD (vs : List Int) (Ws : List (List PyData)) : PyData := .tuple [.tuple (vs.map PyData.int), .tuple (Ws.map PyData.tuple)]
theorem nol_run {vs : List Int} {Ws : List (List PyData)} (hn : ∀ W ∈ Ws, nols W = true) : nols [PyData.tuple (vs.map PyData.int), .tuple (Ws.map PyData.tuple)] = true := by
  have : nols (Ws.map PyData.tuple) = true := nols_iff.mpr fun x hx => by
    obtain ⟨W, hW, rfl⟩ := List.mem_map.mp hx; exact hn W hW
  simp only [nols, nol_tup, nols_ints, this, Bool.and_self]
theorem view_ok (vs : List Int) (Ws : List (List PyData)) (hand : Nat) (hh : vs.length ≤ 4) (hd : hand < vs.length) (hr : Ws.length ≤ 5) (hn : ∀ W ∈ Ws, nols W = true) (hW : ∀ W ∈ Ws, lays 60 W = true) :
    F_view [runD vs Ws, .int (hand : Int)] = mret (true, viewD vs Ws hand) := by
  have nr := nol_run (vs := vs) hn
  have nw : nols (Ws.map PyData.tuple) = true := by simp only [nols, nol_tup, nols_ints, Bool.true_and, Bool.and_true] at nr; exact nr
  generalize hh' : vs.length = h at *
  have a0 : atD [PyData.tuple (vs.map PyData.int), .tuple (Ws.map PyData.tuple)] 0 = some (.tuple (vs.map PyData.int)) := rfl
  have a1 : atD [PyData.tuple (vs.map PyData.int), .tuple (Ws.map PyData.tuple)] 1 = some (.tuple (Ws.map PyData.tuple)) := rfl
  have hml : (vs.map PyData.int).length = h := by rw [List.length_map]; exact hh'
  obtain ⟨Γ', h1, c6, c7, h2⟩ := forD_inv (g := gNm 6) (b := B_view_1) (ds := Ws.reverse.map PyData.tuple) (Γ := [some (false, runD vs Ws), some (false, .int (hand : Int)), some (true, .tuple (vs.map PyData.int)), some (true, .int (h : Int)), some (true, .list [.int (hand : Int)]), some (true, .list []), none, none, none])
    (fun i Γ => ∃ c6 c7 : Option (Bool × PyData), Γ = [some (false, runD vs Ws), some (false, .int (hand : Int)), some (true, .tuple (vs.map PyData.int)), some (true, .int (h : Int)), some (true, .list ((hs h (Ws.reverse.take i) [hand]).map nat)), some (true, .list (rows h (Ws.reverse.take i) [hand])), c6, c7, none]) ⟨none, none, rfl⟩ (by
    rintro i d Γ hd2 ⟨c6, c7, rfl⟩
    have hi : i < Ws.reverse.length := by have := (List.getElem?_eq_some_iff.mp hd2).1; simpa using this
    rw [List.getElem?_map, List.getElem?_eq_getElem hi] at hd2
    have hd' : PyData.tuple Ws.reverse[i] = d := Option.some.inj hd2
    subst hd'
    have hm : Ws.reverse[i] ∈ Ws := List.mem_reverse.mp (List.getElem_mem hi)
    have et : Ws.reverse.take (i + 1) = Ws.reverse.take i ++ [Ws.reverse[i]] := by rw [List.take_add_one, List.getElem?_eq_getElem hi]; rfl
    obtain ⟨o1, o2⟩ := hs_ok (R := Ws.reverse.take i) (H := [hand]) (h := h) (fun k hk => by rw [List.mem_singleton.mp hk]; exact hd) (by simp)
    have n1 := hn _ hm
    have c1 := heard_ok h Ws.reverse[i] (hs h (Ws.reverse.take i) [hand]) hh (hW _ hm)
    have c2 := earlier_ok h Ws.reverse[i] (hs h (Ws.reverse.take i) [hand]) hh o1 o2
    have nR : nols ((List.range h).map (rowH h Ws.reverse[i] (hs h (Ws.reverse.take i) [hand]))) = true := nols_map _ (nol_row _ _ _) _
    have hsz : (rows h (Ws.reverse.take i) [hand]).length < sizeLine := Nat.lt_of_le_of_lt (show _ ≤ 5 by rw [rows_len]; simp at hi ⊢; omega) (by decide)
    refine ⟨_, [some (false, runD vs Ws), some (false, .int (hand : Int)), some (true, .tuple (vs.map PyData.int)), some (true, .int (h : Int)), some (true, .list ((hs h (Ws.reverse.take (i + 1)) [hand]).map nat)), some (true, .list (rows h (Ws.reverse.take (i + 1)) [hand])), some (true, .tuple Ws.reverse[i]), some (true, .tuple ((List.range h).map (rowH h Ws.reverse[i] (hs h (Ws.reverse.take i) [hand])))), none], by rw [nrm_tup n1]; rfl, .inl ?_, _, _, rfl⟩
    rw [et, hs_snoc, rows_snoc]
    generalize Ws.reverse[i] = W at *
    simp -implicitDefEqProofs (disch := omega) only [B_view_1, runF, startD, sSeq, sIf, sRet, sRetN, sNil, sCnt, sBrk, sSet, sExp, sAsg, sMov, sFor, sApp, sExt, sClr, sPut, eOp, eUn, eV, eC, eIx, eIf, eChain, eAnd, eOr, eNotV, eArgs, eTup, eLst, eCB, eCall, eIsi, isTy, eIdx, eRep, tE, tAndF, tOrF, tNotF, tYesF, isFr, kdDisp, stor, frzK, gNm, itE, itR1, itemsOf, capD, mbind_ret, mo_some, gLt_int, gLe_int, gGt_int, gLen_list, gLen_tup, gIx_list, gIx_tup, gAdd_int, gSub_int, gMul_int, gFdiv_int, gMod_int, gPow_int, gNeg_int, gEq_int, gNe_int, gIs_non, gIsNot_non, isNon, rng1_int, nrm_int, nrm_bl, nrm_str, nrm_non, nrm_lst, nrm_dct, nol_int, nol_bl, nol_str, nol_non, nol_lst, nol_tup, List.map_cons, List.map_nil, List.cons_append, List.nil_append, List.getElem?_cons_zero, List.getElem?_cons_succ, List.length_cons, List.length_nil, List.length_map, List.length_range, List.set_cons_zero, List.set_cons_succ, List.replicate_succ, List.replicate_zero, if_true, if_false, Bool.false_eq_true, Bool.not_true, Bool.not_false, decide_true, decide_false, ite_true, ite_false, Option.map_some, Option.join_some, beq_self_eq_true, eq_self, String.reduceBEq, Bool.or_false, Bool.false_or, Bool.or_true, Bool.true_or, reduceCtorEq, reduceIte, nrm_tup n1, c1, nrm_tup nR, hsz, c2])
  rw [List.length_map, List.take_length] at h2
  simp only [runD] at h1 h2
  have hc := compD_map (fe := E_view_2) (cap := [some (false, .list ((hs h Ws.reverse [hand]).map nat)), some (false, .tuple (vs.map PyData.int))]) ((List.range h).map fun (i : Nat) => PyData.int (i : Int))
    (fun d => match d with | .int k => (.fr [], seenV vs (hs h Ws.reverse [hand]) k.toNat) | _ => (.fr [], .none)) (fun d hd => by
      obtain ⟨k, hk, rfl⟩ := List.mem_map.mp hd
      have e := gIn_list (x := .int (k : Int)) (ys := (hs h Ws.reverse [hand]).map nat) rfl (lays_map _ (fun _ => rfl) _)
      rw [inAny_nats] at e
      have hk' : k < vs.length := by rw [hh']; exact List.mem_range.mp hk
      have ea : atD (vs.map PyData.int) (k : Int) = some (.int (vs.getD k 0)) := atD_nat (by rw [List.getElem?_map, List.getD_eq_getElem?_getD, List.getElem?_eq_getElem hk']; rfl)
      by_cases hb : k ∈ hs h Ws.reverse [hand]
      · simp -implicitDefEqProofs (disch := omega) only [E_view_2, runF, startD, sSeq, sIf, sRet, sRetN, sNil, sCnt, sBrk, sSet, sExp, sAsg, sMov, sFor, sApp, sExt, sClr, sPut, eOp, eUn, eV, eC, eIx, eIf, eChain, eAnd, eOr, eNotV, eArgs, eTup, eLst, eCB, eCall, eIsi, isTy, eIdx, eRep, tE, tAndF, tOrF, tNotF, tYesF, isFr, kdDisp, stor, frzK, gNm, itE, itR1, itemsOf, capD, mbind_ret, mo_some, gLt_int, gLe_int, gGt_int, gLen_list, gLen_tup, gIx_list, gIx_tup, gAdd_int, gSub_int, gMul_int, gFdiv_int, gMod_int, gPow_int, gNeg_int, gEq_int, gNe_int, gIs_non, gIsNot_non, isNon, rng1_int, nrm_int, nrm_bl, nrm_str, nrm_non, nrm_lst, nrm_dct, nol_int, nol_bl, nol_str, nol_non, nol_lst, nol_tup, List.map_cons, List.map_nil, List.cons_append, List.nil_append, List.getElem?_cons_zero, List.getElem?_cons_succ, List.length_cons, List.length_nil, List.length_map, List.length_range, List.set_cons_zero, List.set_cons_succ, List.replicate_succ, List.replicate_zero, if_true, if_false, Bool.false_eq_true, Bool.not_true, Bool.not_false, decide_true, decide_false, ite_true, ite_false, Option.map_some, Option.join_some, beq_self_eq_true, eq_self, String.reduceBEq, Bool.or_false, Bool.false_or, Bool.or_true, Bool.true_or, reduceCtorEq, reduceIte, e, hb, ea, nrm_tup (nols_ints vs), Int.toNat_natCast, seenV]
      · simp -implicitDefEqProofs (disch := omega) only [E_view_2, runF, startD, sSeq, sIf, sRet, sRetN, sNil, sCnt, sBrk, sSet, sExp, sAsg, sMov, sFor, sApp, sExt, sClr, sPut, eOp, eUn, eV, eC, eIx, eIf, eChain, eAnd, eOr, eNotV, eArgs, eTup, eLst, eCB, eCall, eIsi, isTy, eIdx, eRep, tE, tAndF, tOrF, tNotF, tYesF, isFr, kdDisp, stor, frzK, gNm, itE, itR1, itemsOf, capD, mbind_ret, mo_some, gLt_int, gLe_int, gGt_int, gLen_list, gLen_tup, gIx_list, gIx_tup, gAdd_int, gSub_int, gMul_int, gFdiv_int, gMod_int, gPow_int, gNeg_int, gEq_int, gNe_int, gIs_non, gIsNot_non, isNon, rng1_int, nrm_int, nrm_bl, nrm_str, nrm_non, nrm_lst, nrm_dct, nol_int, nol_bl, nol_str, nol_non, nol_lst, nol_tup, List.map_cons, List.map_nil, List.cons_append, List.nil_append, List.getElem?_cons_zero, List.getElem?_cons_succ, List.length_cons, List.length_nil, List.length_map, List.length_range, List.set_cons_zero, List.set_cons_succ, List.replicate_succ, List.replicate_zero, if_true, if_false, Bool.false_eq_true, Bool.not_true, Bool.not_false, decide_true, decide_false, ite_true, ite_false, Option.map_some, Option.join_some, beq_self_eq_true, eq_self, String.reduceBEq, Bool.or_false, Bool.false_or, Bool.or_true, Bool.true_or, reduceCtorEq, reduceIte, e, hb, Int.toNat_natCast, seenV])
  have e1 : (((List.range h).map fun (i : Nat) => PyData.int (i : Int)).map fun d => match d with | .int k => (Kd.fr [], seenV vs (hs h Ws.reverse [hand]) k.toNat) | _ => (Kd.fr [], PyData.none)) = (List.range h).map fun k => (Kd.fr [], seenV vs (hs h Ws.reverse [hand]) k) := by
    rw [List.map_map]; refine List.map_congr_left fun k _ => ?_; simp only [Function.comp, Int.toNat_natCast]
  rw [e1] at hc
  have k1 := kdEl_fr (List.range h) (seenV vs (hs h Ws.reverse [hand]))
  have m1 : ((List.range h).map fun k => (Kd.fr [], seenV vs (hs h Ws.reverse [hand]) k)).map Prod.snd = (List.range h).map (seenV vs (hs h Ws.reverse [hand])) := by rw [List.map_map]; rfl
  have hl : h ≤ 100000 := by omega
  have n1 : nols ((List.range h).map (seenV vs (hs h Ws.reverse [hand]))) = true := nols_map _ (nol_seen _ _) _
  have n2 : nols (rows h Ws.reverse [hand]) = true := rows_nol
  have n3 : nols (rows h Ws.reverse [hand]).reverse = true := nols_iff.mpr fun x hx => nols_iff.mp n2 x (List.mem_reverse.mp hx)
  have n4 : nols [PyData.int (hand : Int), .tuple ((List.range h).map (seenV vs (hs h Ws.reverse [hand]))), .tuple (rows h Ws.reverse [hand]).reverse] = true := by simp only [nols, nol_int, nol_tup, n1, n3, Bool.and_self]
  simp -implicitDefEqProofs (disch := omega) only [F_view, S_view, eComp, itRev, revI, runF, startD, sSeq, sIf, sRet, sRetN, sNil, sCnt, sBrk, sSet, sExp, sAsg, sMov, sFor, sApp, sExt, sClr, sPut, eOp, eUn, eV, eC, eIx, eIf, eChain, eAnd, eOr, eNotV, eArgs, eTup, eLst, eCB, eCall, eIsi, isTy, eIdx, eRep, tE, tAndF, tOrF, tNotF, tYesF, isFr, kdDisp, stor, frzK, gNm, itE, itR1, itemsOf, capD, mbind_ret, mo_some, gLt_int, gLe_int, gGt_int, gLen_list, gLen_tup, gIx_list, gIx_tup, gAdd_int, gSub_int, gMul_int, gFdiv_int, gMod_int, gPow_int, gNeg_int, gEq_int, gNe_int, gIs_non, gIsNot_non, isNon, rng1_int, nrm_int, nrm_bl, nrm_str, nrm_non, nrm_lst, nrm_dct, nol_int, nol_bl, nol_str, nol_non, nol_lst, nol_tup, List.map_cons, List.map_nil, List.cons_append, List.nil_append, List.getElem?_cons_zero, List.getElem?_cons_succ, List.length_cons, List.length_nil, List.length_map, List.length_range, List.set_cons_zero, List.set_cons_succ, List.replicate_succ, List.replicate_zero, if_true, if_false, Bool.false_eq_true, Bool.not_true, Bool.not_false, decide_true, decide_false, ite_true, ite_false, Option.map_some, Option.join_some, beq_self_eq_true, eq_self, String.reduceBEq, Bool.or_false, Bool.false_or, Bool.or_true, Bool.true_or, reduceCtorEq, reduceIte, runD, a0, a1, nrm_tup nr, nrm_tup (nols_ints vs), nrm_tup nw, hml, hh', ← List.map_reverse, h1, h2, Int.toNat_natCast, hc, k1, m1, hl, gTuple_list n1, gRevT_list n2, nrm_tup n1, nrm_tup n3, nrm_tup n4, viewD]
/-! equality of plain data -/
mutual
def pl : PyData → Bool
  | .none => true
  | .int _ => true
  | .tuple xs => pls xs
  | _ => false
def pls : List PyData → Bool
  | [] => true
  | d :: ds => pl d && pls ds
end
theorem pls_iff : ∀ {xs : List PyData}, pls xs = true ↔ ∀ x ∈ xs, pl x = true
  | [] => by simp [pls]
  | x :: xs => by rw [pls, Bool.and_eq_true, pls_iff (xs := xs)]; simp
theorem pl_row (h : Nat) (W : List PyData) (H : List Nat) (k : Nat) : pl (rowH h W H k) = true := by
  unfold rowH; split
  · rw [pl]; exact pls_iff.mpr fun x hx => by
      obtain ⟨o, _, rfl⟩ := List.mem_map.mp hx; rfl
  · rfl
theorem pl_rows {h : Nat} : ∀ {R : List (List PyData)} {H : List Nat}, ∀ x ∈ rows h R H, pl x = true
  | [], H, x, hx => by cases hx
  | W :: R, H, x, hx => by
    rw [rows] at hx
    rcases List.mem_cons.mp hx with rfl | hx
    · rw [pl]; exact pls_iff.mpr fun y hy => by
        obtain ⟨k, _, rfl⟩ := List.mem_map.mp hy; exact pl_row h W H k
    · exact pl_rows x hx
theorem pl_view (vs : List Int) (Ws : List (List PyData)) (hand : Nat) : pl (viewD vs Ws hand) = true := by
  unfold viewD
  rw [pl]
  refine pls_iff.mpr fun x hx => ?_
  simp only [List.mem_cons, List.not_mem_nil, or_false] at hx
  rcases hx with rfl | rfl | rfl
  · rfl
  · rw [pl]; exact pls_iff.mpr fun y hy => by
      obtain ⟨k, _, rfl⟩ := List.mem_map.mp hy; unfold seenV; split <;> rfl
  · rw [pl]; exact pls_iff.mpr fun y hy => pl_rows y (List.mem_reverse.mp hy)
theorem mem_next {h : Nat} {W : List PyData} {H : List Nat} (hh : h ≤ 4) (hH : ∀ k ∈ H, k < h) (k : Nat) : k ∈ nextH h W H ↔ k ∈ H ++ H.flatMap (sndD h W) := by
  have e : ∀ k, k ∈ earl h W H h ↔ k ∈ H ++ H.flatMap (sndD h W) := fun k => by
    unfold earl
    simp only [List.mem_append, List.mem_flatMap, List.mem_filter, List.mem_range, decide_eq_true_eq]
    exact ⟨fun z => z.imp id fun ⟨j, ⟨_, hj⟩, r⟩ => ⟨j, hj, r⟩, fun z => z.imp id fun ⟨j, hj, r⟩ => ⟨j, ⟨hH j hj, hj⟩, r⟩⟩
  rw [← e k]
  unfold nextH
  rw [List.mem_filter, decide_eq_true_eq]
  refine ⟨fun z => z.2, fun z => ⟨?_, z⟩⟩
  have hk : k < h := by
    rcases List.mem_append.mp ((e k).mp z) with y | y
    · exact hH k y
    · obtain ⟨j, _, hj⟩ := List.mem_flatMap.mp y; exact sndD_lt hj
  simp only [List.mem_cons, List.not_mem_nil, or_false]; omega
/-! ### equality -/
mutual
theorem pl_refl : ∀ (x : PyData), pl x = true → PyData.eqv x x = true
  | .none, _ => by simp [PyData.eqv]
  | .int _, _ => by simp [PyData.eqv]
  | .tuple xs, h => by rw [pl] at h; simp only [PyData.eqv]; exact pls_refl xs h
  | .bool _, h => by simp [pl] at h
  | .str _, h => by simp [pl] at h
  | .list _, h => by simp [pl] at h
  | .dict _, h => by simp [pl] at h
theorem pls_refl : ∀ (xs : List PyData), pls xs = true → PyData.eqvAll xs xs = true
  | [], _ => by simp [PyData.eqvAll]
  | x :: xs, h => by
    rw [pls, Bool.and_eq_true] at h
    simp only [PyData.eqvAll, pl_refl x h.1, pls_refl xs h.2, Bool.and_self]
end
theorem lay_row (h : Nat) (W : List PyData) (H : List Nat) (k n : Nat) : lay (n + 2) (rowH h W H k) = true := by
  unfold rowH; split
  · rw [lay]; exact lays_map _ (fun _ => by cases n <;> rfl) _
  · rfl
theorem lay_rows {h n : Nat} : ∀ {R : List (List PyData)} {H : List Nat}, ∀ x ∈ rows h R H, lay (n + 3) x = true
  | [], H, x, hx => by cases hx
  | W :: R, H, x, hx => by
    rw [rows] at hx
    rcases List.mem_cons.mp hx with rfl | hx
    · rw [lay]; exact lays_map _ (fun k => lay_row h W H k n) _
    · exact lay_rows x hx
theorem lay_view (vs : List Int) (Ws : List (List PyData)) (hand : Nat) : lay 60 (viewD vs Ws hand) = true := by
  unfold viewD
  rw [lay]
  refine lays_iff.mpr fun x hx => ?_
  simp only [List.mem_cons, List.not_mem_nil, or_false] at hx
  rcases hx with rfl | rfl | rfl
  · rfl
  · rw [lay]; exact lays_map _ (fun k => by unfold seenV; split <;> rfl) _
  · rw [lay]; exact lays_iff.mpr fun y hy => lay_rows (n := 55) y (List.mem_reverse.mp hy)
theorem nol_view (vs : List Int) (Ws : List (List PyData)) (hand : Nat) : nol (viewD vs Ws hand) = true := by
  have n1 : nols ((List.range vs.length).map (seenV vs (hs vs.length Ws.reverse [hand]))) = true := nols_map _ (nol_seen _ _) _
  have n2 : nols (rows vs.length Ws.reverse [hand]) = true := rows_nol
  have n3 : nols (rows vs.length Ws.reverse [hand]).reverse = true := nols_iff.mpr fun x hx => nols_iff.mp n2 x (List.mem_reverse.mp hx)
  unfold viewD
  rw [nol_tup]
  simp only [nols, nol_int, nol_tup, n1, n3, Bool.and_self]
/-- weathers as told -/
structure Wok (h : Nat) (b : Nat) (vs : List Int) (Ws : List (List PyData)) : Prop where
  hv : vs.length = h
  hr : Ws.length ≤ 5
  hp : ∀ W ∈ Ws, (∀ x ∈ W, ∃ i j : Int, x = .tuple [.int i, .int j]) ∧ W.length ≤ b
theorem Wok.n {h b : Nat} {vs : List Int} {Ws : List (List PyData)} (w : Wok h b vs Ws) : ∀ W ∈ Ws, nols W = true := fun W hW => nols_iff.mpr fun x hx => by
  obtain ⟨i, j, rfl⟩ := (w.hp W hW).1 x hx; rfl
theorem Wok.l {h b : Nat} {vs : List Int} {Ws : List (List PyData)} (w : Wok h b vs Ws) : ∀ W ∈ Ws, lays 60 W = true := fun W hW => lays_iff.mpr fun x hx => by
  obtain ⟨i, j, rfl⟩ := (w.hp W hW).1 x hx; rfl
theorem Wok.take {h b : Nat} {vs : List Int} {Ws : List (List PyData)} (w : Wok h b vs Ws) (r : Nat) : Wok h b vs (Ws.take r) :=
  ⟨w.hv, by rw [List.length_take]; have := w.hr; omega, fun W hW => w.hp W (List.mem_of_mem_take hW)⟩
theorem Wok.view {h b : Nat} {vs : List Int} {Ws : List (List PyData)} (w : Wok h b vs Ws) (hh : h ≤ 4) {k : Nat} (hk : k < h) : F_view [runD vs Ws, .int (k : Int)] = mret (true, viewD vs Ws k) :=
  view_ok vs Ws k (w.hv ▸ hh) (w.hv ▸ hk) w.hr w.n w.l
theorem nol_runD {h b : Nat} {vs : List Int} {Ws : List (List PyData)} (w : Wok h b vs Ws) : nol (runD vs Ws) = true := nol_run w.n
theorem gSl_tup {xs : List PyData} {lo hi : Option Int} (h : nols xs = true) : gSl (.tuple xs) lo hi = some (.tuple (cutD xs lo hi)) := if_pos h
theorem gSl_list {xs : List PyData} {lo hi : Option Int} (h : nols xs = true) : gSl (.list xs) lo hi = some (.list (cutD xs lo hi)) := if_pos h
theorem cutD_take {xs : List PyData} {r : Nat} (h : r ≤ xs.length) : cutD xs none (some (r : Int)) = xs.take r := by
  have : ¬ ((r : Int) < 0) := by omega
  simp only [cutD, sIxD, List.drop_zero, this, if_false, Int.toNat_natCast, Nat.min_eq_left h, Nat.sub_zero]
theorem nols_ws {h b : Nat} {vs : List Int} {Ws : List (List PyData)} (w : Wok h b vs Ws) : nols (Ws.map PyData.tuple) = true := nols_iff.mpr fun x hx => by
  obtain ⟨W, hW, rfl⟩ := List.mem_map.mp hx; exact w.n W hW
/-! ### the script's cells -/
def cellZ (ns : List Int) (k : Int) : Int := if k < ns.length then (ns[k.toNat]?).getD 0 else 0
theorem cell_ok (ns : List Int) (k : Int) (hk : 0 ≤ k) : F__law_cell_at [.list (ns.map PyData.int), .int k] = mret (true, .int (cellZ ns k)) := by
  by_cases h : k < ns.length
  · have e : (ns.map PyData.int)[k.toNat]? = some (.int (cellZ ns k)) := by
      rw [List.getElem?_map, List.getElem?_eq_getElem (by omega), cellZ, if_pos h, List.getElem?_eq_getElem (by omega)]; rfl
    simp -implicitDefEqProofs (disch := omega) only [F__law_cell_at, S__law_cell_at, runF, startD, sSeq, sIf, sRet, sRetN, sNil, sCnt, sBrk, sSet, sExp, sAsg, sMov, sFor, sApp, sExt, sClr, sPut, eOp, eUn, eV, eC, eIx, eIf, eChain, eAnd, eOr, eNotV, eArgs, eTup, eLst, eCB, eCall, eIsi, isTy, eIdx, eRep, tE, tAndF, tOrF, tNotF, tYesF, isFr, kdDisp, stor, frzK, gNm, itE, itR1, itemsOf, capD, mbind_ret, mo_some, gLt_int, gLe_int, gGt_int, gLen_list, gLen_tup, gIx_list, gIx_tup, gAdd_int, gSub_int, gMul_int, gFdiv_int, gMod_int, gPow_int, gNeg_int, gEq_int, gNe_int, gIs_non, gIsNot_non, isNon, rng1_int, nrm_int, nrm_bl, nrm_str, nrm_non, nrm_lst, nrm_dct, nol_int, nol_bl, nol_str, nol_non, nol_lst, nol_tup, List.map_cons, List.map_nil, List.cons_append, List.nil_append, List.getElem?_cons_zero, List.getElem?_cons_succ, List.length_cons, List.length_nil, List.length_map, List.length_range, List.set_cons_zero, List.set_cons_succ, List.replicate_succ, List.replicate_zero, if_true, if_false, Bool.false_eq_true, Bool.not_true, Bool.not_false, decide_true, decide_false, ite_true, ite_false, Option.map_some, Option.join_some, beq_self_eq_true, eq_self, String.reduceBEq, Bool.or_false, Bool.false_or, Bool.or_true, Bool.true_or, reduceCtorEq, reduceIte, h, atD_int hk e]
  · have e : cellZ ns k = 0 := if_neg h
    simp -implicitDefEqProofs (disch := omega) only [F__law_cell_at, S__law_cell_at, runF, startD, sSeq, sIf, sRet, sRetN, sNil, sCnt, sBrk, sSet, sExp, sAsg, sMov, sFor, sApp, sExt, sClr, sPut, eOp, eUn, eV, eC, eIx, eIf, eChain, eAnd, eOr, eNotV, eArgs, eTup, eLst, eCB, eCall, eIsi, isTy, eIdx, eRep, tE, tAndF, tOrF, tNotF, tYesF, isFr, kdDisp, stor, frzK, gNm, itE, itR1, itemsOf, capD, mbind_ret, mo_some, gLt_int, gLe_int, gGt_int, gLen_list, gLen_tup, gIx_list, gIx_tup, gAdd_int, gSub_int, gMul_int, gFdiv_int, gMod_int, gPow_int, gNeg_int, gEq_int, gNe_int, gIs_non, gIsNot_non, isNon, rng1_int, nrm_int, nrm_bl, nrm_str, nrm_non, nrm_lst, nrm_dct, nol_int, nol_bl, nol_str, nol_non, nol_lst, nol_tup, List.map_cons, List.map_nil, List.cons_append, List.nil_append, List.getElem?_cons_zero, List.getElem?_cons_succ, List.length_cons, List.length_nil, List.length_map, List.length_range, List.set_cons_zero, List.set_cons_succ, List.replicate_succ, List.replicate_zero, if_true, if_false, Bool.false_eq_true, Bool.not_true, Bool.not_false, decide_true, decide_false, ite_true, ite_false, Option.map_some, Option.join_some, beq_self_eq_true, eq_self, String.reduceBEq, Bool.or_false, Bool.false_or, Bool.or_true, Bool.true_or, reduceCtorEq, reduceIte, h, e]
theorem mix_ok (n k : Int) (h0 : 0 ≤ k) (h1 : k < 1000) : ∃ z : Nat, z < 2147483648 ∧ F__law_mix [.int n, .int k] = mret (true, .int (z : Int)) := by
  by_cases hn : 1000000000000 ≤ n
  · have b1 := Int.emod_nonneg k (show (61 : Int) ≠ 0 by decide)
    have b2 := Int.emod_lt_of_pos k (show (0 : Int) < 61 by decide)
    obtain ⟨Γ', g1, z, c2, g2⟩ := forD_inv (g := gNm 2) (b := B__law_mix_1) (ds := (List.range (k % 61).toNat).map fun (i : Nat) => PyData.int (i : Int)) (Γ := [some (true, .int (n / 1000000000000 - 1)), some (false, .int k), none, none])
      (fun i Γ => ∃ (z : Int) (c2 : Option (Bool × PyData)), Γ = [some (true, .int z), some (false, .int k), c2, none]) ⟨_, none, rfl⟩ (by
      rintro i d Γ hd ⟨z, c2, rfl⟩
      obtain ⟨rfl, hi⟩ := range_get hd
      refine ⟨_, [some (true, .int (z / 2147483648)), some (false, .int k), some (true, .int (i : Int)), none], rfl, .inl ?_, _, _, rfl⟩
      simp -implicitDefEqProofs (disch := omega) only [B__law_mix_1, runF, startD, sSeq, sIf, sRet, sRetN, sNil, sCnt, sBrk, sSet, sExp, sAsg, sMov, sFor, sApp, sExt, sClr, sPut, eOp, eUn, eV, eC, eIx, eIf, eChain, eAnd, eOr, eNotV, eArgs, eTup, eLst, eCB, eCall, eIsi, isTy, eIdx, eRep, tE, tAndF, tOrF, tNotF, tYesF, isFr, kdDisp, stor, frzK, gNm, itE, itR1, itemsOf, capD, mbind_ret, mo_some, gLt_int, gLe_int, gGt_int, gLen_list, gLen_tup, gIx_list, gIx_tup, gAdd_int, gSub_int, gMul_int, gFdiv_int, gMod_int, gPow_int, gNeg_int, gEq_int, gNe_int, gIs_non, gIsNot_non, isNon, rng1_int, nrm_int, nrm_bl, nrm_str, nrm_non, nrm_lst, nrm_dct, nol_int, nol_bl, nol_str, nol_non, nol_lst, nol_tup, List.map_cons, List.map_nil, List.cons_append, List.nil_append, List.getElem?_cons_zero, List.getElem?_cons_succ, List.length_cons, List.length_nil, List.length_map, List.length_range, List.set_cons_zero, List.set_cons_succ, List.replicate_succ, List.replicate_zero, if_true, if_false, Bool.false_eq_true, Bool.not_true, Bool.not_false, decide_true, decide_false, ite_true, ite_false, Option.map_some, Option.join_some, beq_self_eq_true, eq_self, String.reduceBEq, Bool.or_false, Bool.false_or, Bool.or_true, Bool.true_or, reduceCtorEq, reduceIte])
    refine ⟨(z % 2147483648).toNat, by omega, ?_⟩
    have ez : ((z % 2147483648).toNat : Int) = z % 2147483648 := by omega
    rw [ez]
    simp -implicitDefEqProofs (disch := omega) only [F__law_mix, S__law_mix, runF, startD, sSeq, sIf, sRet, sRetN, sNil, sCnt, sBrk, sSet, sExp, sAsg, sMov, sFor, sApp, sExt, sClr, sPut, eOp, eUn, eV, eC, eIx, eIf, eChain, eAnd, eOr, eNotV, eArgs, eTup, eLst, eCB, eCall, eIsi, isTy, eIdx, eRep, tE, tAndF, tOrF, tNotF, tYesF, isFr, kdDisp, stor, frzK, gNm, itE, itR1, itemsOf, capD, mbind_ret, mo_some, gLt_int, gLe_int, gGt_int, gLen_list, gLen_tup, gIx_list, gIx_tup, gAdd_int, gSub_int, gMul_int, gFdiv_int, gMod_int, gPow_int, gNeg_int, gEq_int, gNe_int, gIs_non, gIsNot_non, isNon, rng1_int, nrm_int, nrm_bl, nrm_str, nrm_non, nrm_lst, nrm_dct, nol_int, nol_bl, nol_str, nol_non, nol_lst, nol_tup, List.map_cons, List.map_nil, List.cons_append, List.nil_append, List.getElem?_cons_zero, List.getElem?_cons_succ, List.length_cons, List.length_nil, List.length_map, List.length_range, List.set_cons_zero, List.set_cons_succ, List.replicate_succ, List.replicate_zero, if_true, if_false, Bool.false_eq_true, Bool.not_true, Bool.not_false, decide_true, decide_false, ite_true, ite_false, Option.map_some, Option.join_some, beq_self_eq_true, eq_self, String.reduceBEq, Bool.or_false, Bool.false_or, Bool.or_true, Bool.true_or, reduceCtorEq, reduceIte, gGe_int, Int.reduceToNat, Int.reducePow, hn, g1, g2]
  · have b1 := Int.emod_nonneg n (show (1000003 : Int) ≠ 0 by decide)
    have b2 := Int.emod_lt_of_pos n (show (0 : Int) < 1000003 by decide)
    have b3 := Int.emod_nonneg ((n % 1000003 + k * k * 7919 + k) * 48271) (show (2147483629 : Int) ≠ 0 by decide)
    have b4 := Int.emod_lt_of_pos ((n % 1000003 + k * k * 7919 + k) * 48271) (show (0 : Int) < 2147483629 by decide)
    generalize ha : (n % 1000003 + k * k * 7919 + k) * 48271 % 2147483629 = a at b3 b4
    have b5 := Int.emod_nonneg (a * a) (show (2147483587 : Int) ≠ 0 by decide)
    have b6 := Int.emod_lt_of_pos (a * a) (show (0 : Int) < 2147483587 by decide)
    generalize hb : a * a % 2147483587 = b at b5 b6
    have b7 := Int.emod_nonneg (b * (b + 2)) (show (2147483579 : Int) ≠ 0 by decide)
    have b8 := Int.emod_lt_of_pos (b * (b + 2)) (show (0 : Int) < 2147483579 by decide)
    generalize hc : b * (b + 2) % 2147483579 = c at b7 b8
    refine ⟨(c / 7).toNat, by omega, ?_⟩
    have ez : ((c / 7).toNat : Int) = c / 7 := by omega
    rw [ez]
    simp -implicitDefEqProofs (disch := omega) only [F__law_mix, S__law_mix, runF, startD, sSeq, sIf, sRet, sRetN, sNil, sCnt, sBrk, sSet, sExp, sAsg, sMov, sFor, sApp, sExt, sClr, sPut, eOp, eUn, eV, eC, eIx, eIf, eChain, eAnd, eOr, eNotV, eArgs, eTup, eLst, eCB, eCall, eIsi, isTy, eIdx, eRep, tE, tAndF, tOrF, tNotF, tYesF, isFr, kdDisp, stor, frzK, gNm, itE, itR1, itemsOf, capD, mbind_ret, mo_some, gLt_int, gLe_int, gGt_int, gLen_list, gLen_tup, gIx_list, gIx_tup, gAdd_int, gSub_int, gMul_int, gFdiv_int, gMod_int, gPow_int, gNeg_int, gEq_int, gNe_int, gIs_non, gIsNot_non, isNon, rng1_int, nrm_int, nrm_bl, nrm_str, nrm_non, nrm_lst, nrm_dct, nol_int, nol_bl, nol_str, nol_non, nol_lst, nol_tup, List.map_cons, List.map_nil, List.cons_append, List.nil_append, List.getElem?_cons_zero, List.getElem?_cons_succ, List.length_cons, List.length_nil, List.length_map, List.length_range, List.set_cons_zero, List.set_cons_succ, List.replicate_succ, List.replicate_zero, if_true, if_false, Bool.false_eq_true, Bool.not_true, Bool.not_false, decide_true, decide_false, ite_true, ite_false, Option.map_some, Option.join_some, beq_self_eq_true, eq_self, String.reduceBEq, Bool.or_false, Bool.false_or, Bool.or_true, Bool.true_or, reduceCtorEq, reduceIte, gGe_int, Int.reduceToNat, Int.reducePow, hn, ha, hb, hc]
theorem values_ok (ns : List Int) : ∃ a b c : Int, F__law_values [.list (ns.map PyData.int)] = mret (true, .list [.int a, .int b, .int c]) := by
  by_cases h : cellZ ns 7 % 2 = 1
  · have hb : (cellZ ns 7 % 2 == 1) = true := by rw [h]; rfl
    refine ⟨cellZ ns 5 % 10 ^ 60 / 10, (-1 - cellZ ns 6 % 10 ^ 59) / 10 - 1, 7 + cellZ ns 5 % 10 ^ 60 / 10, ?_⟩
    simp -implicitDefEqProofs (disch := omega) only [F__law_values, S__law_values, runF, startD, sSeq, sIf, sRet, sRetN, sNil, sCnt, sBrk, sSet, sExp, sAsg, sMov, sFor, sApp, sExt, sClr, sPut, eOp, eUn, eV, eC, eIx, eIf, eChain, eAnd, eOr, eNotV, eArgs, eTup, eLst, eCB, eCall, eIsi, isTy, eIdx, eRep, tE, tAndF, tOrF, tNotF, tYesF, isFr, kdDisp, stor, frzK, gNm, itE, itR1, itemsOf, capD, mbind_ret, mo_some, gLt_int, gLe_int, gGt_int, gLen_list, gLen_tup, gIx_list, gIx_tup, gAdd_int, gSub_int, gMul_int, gFdiv_int, gMod_int, gPow_int, gNeg_int, gEq_int, gNe_int, gIs_non, gIsNot_non, isNon, rng1_int, nrm_int, nrm_bl, nrm_str, nrm_non, nrm_lst, nrm_dct, nol_int, nol_bl, nol_str, nol_non, nol_lst, nol_tup, List.map_cons, List.map_nil, List.cons_append, List.nil_append, List.getElem?_cons_zero, List.getElem?_cons_succ, List.length_cons, List.length_nil, List.length_map, List.length_range, List.set_cons_zero, List.set_cons_succ, List.replicate_succ, List.replicate_zero, if_true, if_false, Bool.false_eq_true, Bool.not_true, Bool.not_false, decide_true, decide_false, ite_true, ite_false, Option.map_some, Option.join_some, beq_self_eq_true, eq_self, String.reduceBEq, Bool.or_false, Bool.false_or, Bool.or_true, Bool.true_or, reduceCtorEq, reduceIte, Int.reduceToNat, Int.reducePow, cell_ok, hb]
  · have hb : (cellZ ns 7 % 2 == 1) = false := by simpa using h
    refine ⟨cellZ ns 5 % 10 ^ 60 / 10, (cellZ ns 5 % 10 ^ 60 + 1 + cellZ ns 6 % 5) / 10 - 1, 7 + cellZ ns 5 % 10 ^ 60 / 10, ?_⟩
    simp -implicitDefEqProofs (disch := omega) only [F__law_values, S__law_values, runF, startD, sSeq, sIf, sRet, sRetN, sNil, sCnt, sBrk, sSet, sExp, sAsg, sMov, sFor, sApp, sExt, sClr, sPut, eOp, eUn, eV, eC, eIx, eIf, eChain, eAnd, eOr, eNotV, eArgs, eTup, eLst, eCB, eCall, eIsi, isTy, eIdx, eRep, tE, tAndF, tOrF, tNotF, tYesF, isFr, kdDisp, stor, frzK, gNm, itE, itR1, itemsOf, capD, mbind_ret, mo_some, gLt_int, gLe_int, gGt_int, gLen_list, gLen_tup, gIx_list, gIx_tup, gAdd_int, gSub_int, gMul_int, gFdiv_int, gMod_int, gPow_int, gNeg_int, gEq_int, gNe_int, gIs_non, gIsNot_non, isNon, rng1_int, nrm_int, nrm_bl, nrm_str, nrm_non, nrm_lst, nrm_dct, nol_int, nol_bl, nol_str, nol_non, nol_lst, nol_tup, List.map_cons, List.map_nil, List.cons_append, List.nil_append, List.getElem?_cons_zero, List.getElem?_cons_succ, List.length_cons, List.length_nil, List.length_map, List.length_range, List.set_cons_zero, List.set_cons_succ, List.replicate_succ, List.replicate_zero, if_true, if_false, Bool.false_eq_true, Bool.not_true, Bool.not_false, decide_true, decide_false, ite_true, ite_false, Option.map_some, Option.join_some, beq_self_eq_true, eq_self, String.reduceBEq, Bool.or_false, Bool.false_or, Bool.or_true, Bool.true_or, reduceCtorEq, reduceIte, Int.reduceToNat, Int.reducePow, cell_ok, hb]
theorem compD_ex {fe : EF} {cap : DEnv} : ∀ (ds : List PyData), (∀ d ∈ ds, ∃ z : Int, fe (some (false, d) :: cap) = mret (.fr [], .int z)) → ∃ zs : List Int, zs.length = ds.length ∧ compD tYesF fe cap ds = some (zs.map fun z => (Kd.fr [], PyData.int z))
  | [], _ => ⟨[], rfl, rfl⟩
  | d :: ds, h => by
    obtain ⟨z, hz⟩ := h d List.mem_cons_self
    obtain ⟨zs, hl, hc⟩ := compD_ex ds fun x hx => h x (List.mem_cons_of_mem _ hx)
    refine ⟨z :: zs, by simp [hl], ?_⟩
    simp only [compD, tYesF, mret] at hz ⊢
    rw [hz, hc]; rfl
theorem ints_of : ∀ (xs : List PyData), (∀ x ∈ xs, ∃ z : Int, x = .int z) → ∃ l : List Int, xs = l.map PyData.int
  | [], _ => ⟨[], rfl⟩
  | x :: xs, h => by
    obtain ⟨z, rfl⟩ := h x List.mem_cons_self
    obtain ⟨l, rfl⟩ := ints_of xs fun y hy => h y (List.mem_cons_of_mem _ hy)
    exact ⟨z :: l, rfl⟩
theorem cutD_ints (l : List Int) (lo hi : Option Int) : ∃ l' : List Int, cutD (l.map PyData.int) lo hi = l'.map PyData.int := by
  unfold cutD
  rw [← List.map_drop, ← List.map_take]
  exact ⟨_, rfl⟩
theorem pickD_ints (l : List Int) (lo hi st : Option Int) : ∃ l' : List Int, pickD (l.map PyData.int) lo hi st = l'.map PyData.int := by
  refine ints_of _ fun x hx => ?_
  unfold pickD at hx
  obtain ⟨i, _, hi⟩ := List.mem_filterMap.mp hx
  obtain ⟨z, _, rfl⟩ := List.mem_map.mp (List.mem_of_getElem? hi)
  exact ⟨z, rfl⟩
/-! ### weathers -/
def prs (ls : List (Int × Int)) : List PyData := ls.map fun p => .tuple [.int p.1, .int p.2]
theorem pairs_ok (h : Nat) (h2 : 2 ≤ h) (h4 : h ≤ 4) : ∃ ls : List (Int × Int), F__law_pairs [.int (h : Int)] = mret (true, .list (prs ls)) ∧ 2 ≤ ls.length ∧ ls.length ≤ 12 := by
  have hc : h = 2 ∨ h = 3 ∨ h = 4 := by omega
  rcases hc with rfl | rfl | rfl
  · exact ⟨[(0, 1), (1, 0)], by rfl, by decide, by decide⟩
  · exact ⟨[(0, 1), (0, 2), (1, 0), (1, 2), (2, 0), (2, 1)], by rfl, by decide, by decide⟩
  · exact ⟨[(0, 1), (0, 2), (0, 3), (1, 0), (1, 2), (1, 3), (2, 0), (2, 1), (2, 3), (3, 0), (3, 1), (3, 2)], by rfl, by decide, by decide⟩
def Prd (W : List PyData) : Prop := ∀ x ∈ W, ∃ i j : Int, x = .tuple [.int i, .int j]
theorem Prd.n {W : List PyData} (h : Prd W) : nols W = true := nols_iff.mpr fun x hx => by
  obtain ⟨i, j, rfl⟩ := h x hx; rfl
theorem Prd.l {W : List PyData} (h : Prd W) (n : Nat) : lays (n + 2) W = true := lays_iff.mpr fun x hx => by
  obtain ⟨i, j, rfl⟩ := h x hx; rfl
theorem Prd.snoc {W : List PyData} {x : PyData} (h : Prd W) (hx : ∃ i j : Int, x = .tuple [.int i, .int j]) : Prd (W ++ [x]) := fun y hy => by
  rcases List.mem_append.mp hy with hy | hy
  · exact h y hy
  · rw [List.mem_singleton.mp hy]; exact hx
theorem prd_prs (ls : List (Int × Int)) : Prd (prs ls) := fun x hx => by
  obtain ⟨p, _, rfl⟩ := List.mem_map.mp hx; exact ⟨_, _, rfl⟩
theorem weather_ok (z : Int) (h : Nat) (h2 : 2 ≤ h) (h4 : h ≤ 4) : ∃ W : List PyData, Prd W ∧ W.length ≤ 12 ∧ F__law_weather [.int z, .int (h : Int)] = mret (true, .tuple W) := by
  obtain ⟨ls, hp, l1, l2⟩ := pairs_ok h h2 h4
  obtain ⟨Γ', g1, W, y, o, c3, g2, g3, g4⟩ := forD_inv (g := gNm 3) (b := B__law_weather_1) (ds := prs ls) (Γ := [some (false, .int z), some (false, .int (h : Int)), some (true, .list []), none])
    (fun i Γ => ∃ (W : List PyData) (y : Int) (o : Bool) (c3 : Option (Bool × PyData)), Γ = [some (o, .int y), some (false, .int (h : Int)), some (true, .list W), c3] ∧ Prd W ∧ W.length ≤ i) ⟨[], z, false, none, rfl, (fun x hx => by cases hx), Nat.le_refl _⟩ (by
    rintro i d Γ hd ⟨W, y, o, c3, rfl, hW, hl⟩
    have hi : i < ls.length := by have := (List.getElem?_eq_some_iff.mp hd).1; simpa [prs] using this
    obtain ⟨a, b, rfl⟩ := prd_prs ls d (List.mem_of_getElem? hd)
    have hsz : W.length < sizeLine := Nat.lt_of_le_of_lt (show _ ≤ 12 by omega) (by decide)
    have nT : nols [PyData.int a, .int b] = true := rfl
    cases hb : (y % 3 == 0) with
    | true =>
      refine ⟨_, [some (true, .int (y / 3)), some (false, .int (h : Int)), some (true, .list (W ++ [.tuple [.int a, .int b]])), some (true, .tuple [.int a, .int b])], by rw [nrm_tup nT]; rfl, .inl ?_, _, _, _, _, rfl, hW.snoc ⟨a, b, rfl⟩, by rw [List.length_append, List.length_singleton]; omega⟩
      simp -implicitDefEqProofs (disch := omega) only [B__law_weather_1, runF, startD, sSeq, sIf, sRet, sRetN, sNil, sCnt, sBrk, sSet, sExp, sAsg, sMov, sFor, sApp, sExt, sClr, sPut, eOp, eUn, eV, eC, eIx, eIf, eChain, eAnd, eOr, eNotV, eArgs, eTup, eLst, eCB, eCall, eIsi, isTy, eIdx, eRep, tE, tAndF, tOrF, tNotF, tYesF, isFr, kdDisp, stor, frzK, gNm, itE, itR1, itemsOf, capD, mbind_ret, mo_some, gLt_int, gLe_int, gGt_int, gLen_list, gLen_tup, gIx_list, gIx_tup, gAdd_int, gSub_int, gMul_int, gFdiv_int, gMod_int, gPow_int, gNeg_int, gEq_int, gNe_int, gIs_non, gIsNot_non, isNon, rng1_int, nrm_int, nrm_bl, nrm_str, nrm_non, nrm_lst, nrm_dct, nol_int, nol_bl, nol_str, nol_non, nol_lst, nol_tup, List.map_cons, List.map_nil, List.cons_append, List.nil_append, List.getElem?_cons_zero, List.getElem?_cons_succ, List.length_cons, List.length_nil, List.length_map, List.length_range, List.set_cons_zero, List.set_cons_succ, List.replicate_succ, List.replicate_zero, if_true, if_false, Bool.false_eq_true, Bool.not_true, Bool.not_false, decide_true, decide_false, ite_true, ite_false, Option.map_some, Option.join_some, beq_self_eq_true, eq_self, String.reduceBEq, Bool.or_false, Bool.false_or, Bool.or_true, Bool.true_or, reduceCtorEq, reduceIte, hb, nrm_tup nT, hsz]
    | false =>
      refine ⟨_, [some (true, .int (y / 3)), some (false, .int (h : Int)), some (true, .list W), some (true, .tuple [.int a, .int b])], by rw [nrm_tup nT]; rfl, .inl ?_, _, _, _, _, rfl, hW, by omega⟩
      simp -implicitDefEqProofs (disch := omega) only [B__law_weather_1, runF, startD, sSeq, sIf, sRet, sRetN, sNil, sCnt, sBrk, sSet, sExp, sAsg, sMov, sFor, sApp, sExt, sClr, sPut, eOp, eUn, eV, eC, eIx, eIf, eChain, eAnd, eOr, eNotV, eArgs, eTup, eLst, eCB, eCall, eIsi, isTy, eIdx, eRep, tE, tAndF, tOrF, tNotF, tYesF, isFr, kdDisp, stor, frzK, gNm, itE, itR1, itemsOf, capD, mbind_ret, mo_some, gLt_int, gLe_int, gGt_int, gLen_list, gLen_tup, gIx_list, gIx_tup, gAdd_int, gSub_int, gMul_int, gFdiv_int, gMod_int, gPow_int, gNeg_int, gEq_int, gNe_int, gIs_non, gIsNot_non, isNon, rng1_int, nrm_int, nrm_bl, nrm_str, nrm_non, nrm_lst, nrm_dct, nol_int, nol_bl, nol_str, nol_non, nol_lst, nol_tup, List.map_cons, List.map_nil, List.cons_append, List.nil_append, List.getElem?_cons_zero, List.getElem?_cons_succ, List.length_cons, List.length_nil, List.length_map, List.length_range, List.set_cons_zero, List.set_cons_succ, List.replicate_succ, List.replicate_zero, if_true, if_false, Bool.false_eq_true, Bool.not_true, Bool.not_false, decide_true, decide_false, ite_true, ite_false, Option.map_some, Option.join_some, beq_self_eq_true, eq_self, String.reduceBEq, Bool.or_false, Bool.false_or, Bool.or_true, Bool.true_or, reduceCtorEq, reduceIte, hb, nrm_tup nT, hsz])
  have gl : (prs ls).length = ls.length := List.length_map _
  refine ⟨W, g3, by omega, ?_⟩
  simp -implicitDefEqProofs (disch := omega) only [F__law_weather, S__law_weather, runF, startD, sSeq, sIf, sRet, sRetN, sNil, sCnt, sBrk, sSet, sExp, sAsg, sMov, sFor, sApp, sExt, sClr, sPut, eOp, eUn, eV, eC, eIx, eIf, eChain, eAnd, eOr, eNotV, eArgs, eTup, eLst, eCB, eCall, eIsi, isTy, eIdx, eRep, tE, tAndF, tOrF, tNotF, tYesF, isFr, kdDisp, stor, frzK, gNm, itE, itR1, itemsOf, capD, mbind_ret, mo_some, gLt_int, gLe_int, gGt_int, gLen_list, gLen_tup, gIx_list, gIx_tup, gAdd_int, gSub_int, gMul_int, gFdiv_int, gMod_int, gPow_int, gNeg_int, gEq_int, gNe_int, gIs_non, gIsNot_non, isNon, rng1_int, nrm_int, nrm_bl, nrm_str, nrm_non, nrm_lst, nrm_dct, nol_int, nol_bl, nol_str, nol_non, nol_lst, nol_tup, List.map_cons, List.map_nil, List.cons_append, List.nil_append, List.getElem?_cons_zero, List.getElem?_cons_succ, List.length_cons, List.length_nil, List.length_map, List.length_range, List.set_cons_zero, List.set_cons_succ, List.replicate_succ, List.replicate_zero, if_true, if_false, Bool.false_eq_true, Bool.not_true, Bool.not_false, decide_true, decide_false, ite_true, ite_false, Option.map_some, Option.join_some, beq_self_eq_true, eq_self, String.reduceBEq, Bool.or_false, Bool.false_or, Bool.or_true, Bool.true_or, reduceCtorEq, reduceIte, hp, g1, g2, gTuple_list g3.n, nrm_tup g3.n]
theorem nols_Ws {Ws : List (List PyData)} (h : ∀ W ∈ Ws, Prd W ∧ W.length ≤ 12) : nols (Ws.map PyData.tuple) = true := nols_iff.mpr fun x hx => by
  obtain ⟨W, hW, rfl⟩ := List.mem_map.mp hx; exact (h W hW).1.n
theorem gSl3_list {xs : List PyData} {lo hi st : Option Int} (h : nols xs = true) (h0 : st ≠ some 0) : gSl3 (.list xs) lo hi st = some (.list (pickD xs lo hi st)) := if_pos ⟨h, h0⟩
theorem number_ok (c0 c1 c2 c3 c4 c5 c8 : Option (Bool × PyData)) (k : Nat) (hk : k < 6) (l : List Int) (z0 : Int) : ∃ (z : Int) (c8' : Option (Bool × PyData)), forD (gNm 8) B__law_long_run_2 (l.map PyData.int) [c0, c1, c2, c3, c4, c5, some (true, .int (k : Int)), some (true, .int z0), c8] = mret (.nx [c0, c1, c2, c3, c4, c5, some (true, .int (k : Int)), some (true, .int z), c8']) := by
  obtain ⟨Γ', g1, z, c8', g2⟩ := forD_inv (g := gNm 8) (b := B__law_long_run_2) (ds := l.map PyData.int) (Γ := [c0, c1, c2, c3, c4, c5, some (true, .int (k : Int)), some (true, .int z0), c8])
    (fun i Γ => ∃ (z : Int) (c8' : Option (Bool × PyData)), Γ = [c0, c1, c2, c3, c4, c5, some (true, .int (k : Int)), some (true, .int z), c8']) ⟨_, _, rfl⟩ (by
    rintro i d Γ hd ⟨z, c8', rfl⟩
    obtain ⟨x, rfl, _⟩ := ints_get hd
    obtain ⟨m, _, hm⟩ := mix_ok x (k : Int) (by omega) (by omega)
    refine ⟨_, [c0, c1, c2, c3, c4, c5, some (true, .int (k : Int)), some (true, .int ((z * 31 + m) % 2147483629)), some (true, .int x)], rfl, .inl ?_, _, _, rfl⟩
    simp -implicitDefEqProofs (disch := omega) only [B__law_long_run_2, runF, startD, sSeq, sIf, sRet, sRetN, sNil, sCnt, sBrk, sSet, sExp, sAsg, sMov, sFor, sApp, sExt, sClr, sPut, eOp, eUn, eV, eC, eIx, eIf, eChain, eAnd, eOr, eNotV, eArgs, eTup, eLst, eCB, eCall, eIsi, isTy, eIdx, eRep, tE, tAndF, tOrF, tNotF, tYesF, isFr, kdDisp, stor, frzK, gNm, itE, itR1, itemsOf, capD, mbind_ret, mo_some, gLt_int, gLe_int, gGt_int, gLen_list, gLen_tup, gIx_list, gIx_tup, gAdd_int, gSub_int, gMul_int, gFdiv_int, gMod_int, gPow_int, gNeg_int, gEq_int, gNe_int, gIs_non, gIsNot_non, isNon, rng1_int, nrm_int, nrm_bl, nrm_str, nrm_non, nrm_lst, nrm_dct, nol_int, nol_bl, nol_str, nol_non, nol_lst, nol_tup, List.map_cons, List.map_nil, List.cons_append, List.nil_append, List.getElem?_cons_zero, List.getElem?_cons_succ, List.length_cons, List.length_nil, List.length_map, List.length_range, List.set_cons_zero, List.set_cons_succ, List.replicate_succ, List.replicate_zero, if_true, if_false, Bool.false_eq_true, Bool.not_true, Bool.not_false, decide_true, decide_false, ite_true, ite_false, Option.map_some, Option.join_some, beq_self_eq_true, eq_self, String.reduceBEq, Bool.or_false, Bool.false_or, Bool.or_true, Bool.true_or, reduceCtorEq, reduceIte, hm])
  exact ⟨z, c8', by rw [g1, g2]⟩
theorem long_ok (ns : List Int) (h : Nat) (h2 : 2 ≤ h) (h4 : h ≤ 4) : ∃ (vs : List Int) (Ws : List (List PyData)), Wok h 12 vs Ws ∧ F__law_long_run [.list (ns.map PyData.int), .int (h : Int)] = mret (true, runD vs Ws) := by
  obtain ⟨a, b, c, hval⟩ := values_ok ns
  obtain ⟨vs, hvl, hvc⟩ := compD_ex (fe := E__law_long_run_1) (cap := [some (false, .list [.int a, .int b, .int c]), some (false, .list (ns.map PyData.int))]) ((List.range h).map fun (i : Nat) => PyData.int (i : Int)) (fun d hd => by
    obtain ⟨k, hk, rfl⟩ := List.mem_map.mp hd
    have hk := List.mem_range.mp hk
    obtain ⟨m, _, hm⟩ := mix_ok (cellZ ns (8 + (k : Int))) (k : Int) (by omega) (by omega)
    obtain ⟨v, hv⟩ : ∃ v : Int, atD [PyData.int a, .int b, .int c] ((m : Int) % 3) = some (.int v) := by
      have hx : ((m : Int) % 3) = 0 ∨ ((m : Int) % 3) = 1 ∨ ((m : Int) % 3) = 2 := by omega
      rcases hx with hx | hx | hx <;> rw [hx]
      · exact ⟨a, rfl⟩
      · exact ⟨b, rfl⟩
      · exact ⟨c, rfl⟩
    refine ⟨v, ?_⟩
    simp -implicitDefEqProofs (disch := omega) only [E__law_long_run_1, runF, startD, sSeq, sIf, sRet, sRetN, sNil, sCnt, sBrk, sSet, sExp, sAsg, sMov, sFor, sApp, sExt, sClr, sPut, eOp, eUn, eV, eC, eIx, eIf, eChain, eAnd, eOr, eNotV, eArgs, eTup, eLst, eCB, eCall, eIsi, isTy, eIdx, eRep, tE, tAndF, tOrF, tNotF, tYesF, isFr, kdDisp, stor, frzK, gNm, itE, itR1, itemsOf, capD, mbind_ret, mo_some, gLt_int, gLe_int, gGt_int, gLen_list, gLen_tup, gIx_list, gIx_tup, gAdd_int, gSub_int, gMul_int, gFdiv_int, gMod_int, gPow_int, gNeg_int, gEq_int, gNe_int, gIs_non, gIsNot_non, isNon, rng1_int, nrm_int, nrm_bl, nrm_str, nrm_non, nrm_lst, nrm_dct, nol_int, nol_bl, nol_str, nol_non, nol_lst, nol_tup, List.map_cons, List.map_nil, List.cons_append, List.nil_append, List.getElem?_cons_zero, List.getElem?_cons_succ, List.length_cons, List.length_nil, List.length_map, List.length_range, List.set_cons_zero, List.set_cons_succ, List.replicate_succ, List.replicate_zero, if_true, if_false, Bool.false_eq_true, Bool.not_true, Bool.not_false, decide_true, decide_false, ite_true, ite_false, Option.map_some, Option.join_some, beq_self_eq_true, eq_self, String.reduceBEq, Bool.or_false, Bool.false_or, Bool.or_true, Bool.true_or, reduceCtorEq, reduceIte, cell_ok, hm, hv])
  rw [List.length_map, List.length_range] at hvl
  have k1 := kdEl_fr vs PyData.int
  have m1 : (vs.map fun z => (Kd.fr [], PyData.int z)).map Prod.snd = vs.map PyData.int := by rw [List.map_map]; rfl
  have b1 := Int.emod_nonneg (cellZ ns 0 / 3) (show (6 : Int) ≠ 0 by decide)
  have b2 := Int.emod_lt_of_pos (cellZ ns 0 / 3) (show (0 : Int) < 6 by decide)
  obtain ⟨r, hr⟩ := Int.eq_ofNat_of_zero_le b1
  have hr' : cellZ ns 0 / 3 % 6 = (r : Int) := hr
  obtain ⟨Γ', g1, Ws, c6, c7, c8, g2, g3, g4⟩ := forD_inv (g := gNm 6) (b := B__law_long_run_3) (ds := (List.range r).map fun (i : Nat) => PyData.int (i : Int)) (Γ := [some (false, .list (ns.map PyData.int)), some (false, .int (h : Int)), some (true, .list [.int a, .int b, .int c]), some (true, .tuple (vs.map PyData.int)), some (true, .list []), some (true, .int (r : Int)), none, none, none])
    (fun i Γ => ∃ (Ws : List (List PyData)) (c6 c7 c8 : Option (Bool × PyData)), Γ = [some (false, .list (ns.map PyData.int)), some (false, .int (h : Int)), some (true, .list [.int a, .int b, .int c]), some (true, .tuple (vs.map PyData.int)), some (true, .list (Ws.map PyData.tuple)), some (true, .int (r : Int)), c6, c7, c8] ∧ (∀ W ∈ Ws, Prd W ∧ W.length ≤ 12) ∧ Ws.length = i) ⟨[], none, none, none, rfl, (fun W hW => by cases hW), rfl⟩ (by
    rintro i d Γ hd ⟨Ws, c6, c7, c8, rfl, hW, hl⟩
    obtain ⟨rfl, hi⟩ := range_get hd
    obtain ⟨l1, hl1⟩ := cutD_ints ns none (some 63)
    obtain ⟨l2, hl2⟩ := pickD_ints l1 (some (i : Int)) none (some (r : Int))
    have s1 := gSl_list (lo := none) (hi := some 63) (nols_ints ns)
    rw [hl1] at s1
    have s2 := gSl3_list (lo := some (i : Int)) (hi := none) (st := some (r : Int)) (nols_ints l1) (by intro z; have := Option.some.inj z; omega)
    rw [hl2] at s2
    obtain ⟨z, c8', hz⟩ := number_ok (some (false, .list (ns.map PyData.int))) (some (false, .int (h : Int))) (some (true, .list [.int a, .int b, .int c])) (some (true, .tuple (vs.map PyData.int))) (some (true, .list (Ws.map PyData.tuple))) (some (true, .int (r : Int))) c8 i (by omega) l2 0
    obtain ⟨W, w1, w2, w3⟩ := weather_ok z h h2 h4
    have hsz : Ws.length < sizeLine := Nat.lt_of_le_of_lt (show _ ≤ 12 by omega) (by decide)
    refine ⟨_, [some (false, .list (ns.map PyData.int)), some (false, .int (h : Int)), some (true, .list [.int a, .int b, .int c]), some (true, .tuple (vs.map PyData.int)), some (true, .list ((Ws ++ [W]).map PyData.tuple)), some (true, .int (r : Int)), some (true, .int (i : Int)), some (true, .int z), c8'], rfl, .inl ?_, _, _, _, _, rfl, ?_, ?_⟩
    · simp -implicitDefEqProofs (disch := omega) only [B__law_long_run_3, eSl, eSl3, oE, oI, runF, startD, sSeq, sIf, sRet, sRetN, sNil, sCnt, sBrk, sSet, sExp, sAsg, sMov, sFor, sApp, sExt, sClr, sPut, eOp, eUn, eV, eC, eIx, eIf, eChain, eAnd, eOr, eNotV, eArgs, eTup, eLst, eCB, eCall, eIsi, isTy, eIdx, eRep, tE, tAndF, tOrF, tNotF, tYesF, isFr, kdDisp, stor, frzK, gNm, itE, itR1, itemsOf, capD, mbind_ret, mo_some, gLt_int, gLe_int, gGt_int, gLen_list, gLen_tup, gIx_list, gIx_tup, gAdd_int, gSub_int, gMul_int, gFdiv_int, gMod_int, gPow_int, gNeg_int, gEq_int, gNe_int, gIs_non, gIsNot_non, isNon, rng1_int, nrm_int, nrm_bl, nrm_str, nrm_non, nrm_lst, nrm_dct, nol_int, nol_bl, nol_str, nol_non, nol_lst, nol_tup, List.map_cons, List.map_nil, List.cons_append, List.nil_append, List.getElem?_cons_zero, List.getElem?_cons_succ, List.length_cons, List.length_nil, List.length_map, List.length_range, List.set_cons_zero, List.set_cons_succ, List.replicate_succ, List.replicate_zero, if_true, if_false, Bool.false_eq_true, Bool.not_true, Bool.not_false, decide_true, decide_false, ite_true, ite_false, Option.map_some, Option.join_some, beq_self_eq_true, eq_self, String.reduceBEq, Bool.or_false, Bool.false_or, Bool.or_true, Bool.true_or, reduceCtorEq, reduceIte, s1, s2, hz, w3, nrm_tup w1.n, hsz, List.map_append]
    · intro V hV
      rcases List.mem_append.mp hV with hV | hV
      · exact hW V hV
      · rw [List.mem_singleton.mp hV]; exact ⟨w1, w2⟩
    · rw [List.length_append, List.length_singleton, hl])
  rw [List.length_map, List.length_range] at g4
  refine ⟨vs, Ws, ⟨hvl, by omega, fun W hW => g3 W hW⟩, ?_⟩
  have hle : h ≤ 100000 := by omega
  have nW := nols_Ws g3
  have nT : nols [PyData.tuple (vs.map PyData.int), .tuple (Ws.map PyData.tuple)] = true := nol_run fun W hW => (g3 W hW).1.n
  simp -implicitDefEqProofs (disch := omega) only [F__law_long_run, S__law_long_run, eComp, runF, startD, sSeq, sIf, sRet, sRetN, sNil, sCnt, sBrk, sSet, sExp, sAsg, sMov, sFor, sApp, sExt, sClr, sPut, eOp, eUn, eV, eC, eIx, eIf, eChain, eAnd, eOr, eNotV, eArgs, eTup, eLst, eCB, eCall, eIsi, isTy, eIdx, eRep, tE, tAndF, tOrF, tNotF, tYesF, isFr, kdDisp, stor, frzK, gNm, itE, itR1, itemsOf, capD, mbind_ret, mo_some, gLt_int, gLe_int, gGt_int, gLen_list, gLen_tup, gIx_list, gIx_tup, gAdd_int, gSub_int, gMul_int, gFdiv_int, gMod_int, gPow_int, gNeg_int, gEq_int, gNe_int, gIs_non, gIsNot_non, isNon, rng1_int, nrm_int, nrm_bl, nrm_str, nrm_non, nrm_lst, nrm_dct, nol_int, nol_bl, nol_str, nol_non, nol_lst, nol_tup, List.map_cons, List.map_nil, List.cons_append, List.nil_append, List.getElem?_cons_zero, List.getElem?_cons_succ, List.length_cons, List.length_nil, List.length_map, List.length_range, List.set_cons_zero, List.set_cons_succ, List.replicate_succ, List.replicate_zero, if_true, if_false, Bool.false_eq_true, Bool.not_true, Bool.not_false, decide_true, decide_false, ite_true, ite_false, Option.map_some, Option.join_some, beq_self_eq_true, eq_self, String.reduceBEq, Bool.or_false, Bool.false_or, Bool.or_true, Bool.true_or, reduceCtorEq, reduceIte, hval, hvc, k1, m1, hle, gTuple_list (nols_ints vs), cell_ok, hr', Int.toNat_natCast, nrm_tup (nols_ints vs), g1, g2, gTuple_list nW, nrm_tup nW, nrm_tup nT, runD]
theorem ix0 (vs : List Int) (Ws : List (List PyData)) : gIx (runD vs Ws) (.int 0) = some (.tuple (vs.map PyData.int)) := rfl
theorem ix1 (vs : List Int) (Ws : List (List PyData)) : gIx (runD vs Ws) (.int 1) = some (.tuple (Ws.map PyData.tuple)) := rfl
end K12
set_option Elab.async false
set_option linter.all false
set_option maxRecDepth 100000
namespace K12
open PySem Y
/-! ### spots -/
def sp (p : Nat × Nat) : PyData := .tuple [.int (p.1 : Int), .int (p.2 : Int)]
def enc (l : List (Nat × Nat)) : List (PyData × PyData) := l.map fun p => (sp p, .bool true)
def ins (l : List (Nat × Nat)) (p : Nat × Nat) : List (Nat × Nat) := if p ∈ l then l else l ++ [p]
theorem sp_eqv (p q : Nat × Nat) : PyData.eqv (sp p) (sp q) = decide (p = q) := by
  obtain ⟨a, b⟩ := p
  obtain ⟨c, d⟩ := q
  have e : PyData.eqv (sp (a, b)) (sp (c, d)) = ((a : Int) == (c : Int) && ((b : Int) == (d : Int) && true)) := by simp [sp, PyData.eqv, PyData.eqvAll]
  rw [e, Bool.eq_iff_iff, decide_eq_true_eq, Prod.mk.injEq]
  simp only [Bool.and_true, Bool.and_eq_true, beq_iff_eq]
  omega
theorem hasK_enc (l : List (Nat × Nat)) (p : Nat × Nat) : hasK (enc l) (sp p) = decide (p ∈ l) := by
  unfold hasK enc
  rw [List.any_map]
  induction l with
  | nil => rfl
  | cons q l ih =>
    rw [List.any_cons, ih]
    simp only [Function.comp, sp_eqv]
    by_cases h : q = p
    · simp [h]
    · have h' : ¬ p = q := fun z => h z.symm
      simp [h, h']
theorem putK_enc (l : List (Nat × Nat)) (p : Nat × Nat) : putK (enc l) (sp p) (.bool true) = enc (ins l p) := by
  unfold putK ins
  rw [hasK_enc]
  by_cases h : p ∈ l
  · rw [if_pos (decide_eq_true h), if_pos h]
    unfold enc
    rw [List.map_map]
    refine List.map_congr_left fun q _ => ?_
    simp only [Function.comp]
    split <;> rfl
  · rw [if_neg (by rw [decide_eq_false h]; exact Bool.false_ne_true), if_neg h]
    unfold enc
    rw [List.map_append]; rfl
theorem mergK_enc : ∀ (m l : List (Nat × Nat)), mergK (enc l) (enc m) = enc (m.foldl ins l)
  | [], l => rfl
  | p :: m, l => by
    show mergK (putK (enc l) (sp p) (.bool true)) (enc m) = _
    rw [putK_enc, mergK_enc m]; rfl
theorem mem_ins {l : List (Nat × Nat)} {p q : Nat × Nat} : q ∈ ins l p ↔ q ∈ l ∨ q = p := by
  unfold ins
  split
  · rename_i h
    exact ⟨.inl, fun z => z.elim id fun e => e ▸ h⟩
  · simp
theorem mem_foldl : ∀ {m l : List (Nat × Nat)} {q : Nat × Nat}, q ∈ m.foldl ins l ↔ q ∈ l ∨ q ∈ m
  | [], l, q => by simp
  | p :: m, l, q => by
    rw [List.foldl_cons, mem_foldl (m := m), mem_ins, List.mem_cons]
    exact ⟨fun z => z.elim (fun y => y.elim .inl fun e => .inr (.inl e)) fun y => .inr (.inr y), fun z => z.elim (fun y => .inl (.inl y)) fun y => y.elim (fun e => .inl (.inr e)) .inr⟩
theorem nodup_ins {l : List (Nat × Nat)} {p : Nat × Nat} (h : l.Nodup) : (ins l p).Nodup := by
  unfold ins
  split
  · exact h
  · rename_i hp
    refine List.nodup_append.mpr ⟨h, List.nodup_cons.mpr ⟨by simp, List.nodup_nil⟩, fun a ha b hb e => hp ?_⟩
    rw [← List.mem_singleton.mp hb, ← e]; exact ha
theorem nodup_foldl : ∀ {m l : List (Nat × Nat)}, l.Nodup → (m.foldl ins l).Nodup
  | [], l, h => h
  | p :: m, l, h => nodup_foldl (m := m) (nodup_ins h)
theorem len_ins (l : List (Nat × Nat)) (p : Nat × Nat) : (ins l p).length ≤ l.length + 1 := by
  unfold ins; split
  · omega
  · rw [List.length_append, List.length_singleton]; omega
theorem len_foldl : ∀ (m l : List (Nat × Nat)), (m.foldl ins l).length ≤ l.length + m.length
  | [], l => Nat.le_refl _
  | p :: m, l => by
    have h1 := len_foldl m (ins l p)
    have h2 := len_ins l p
    rw [List.foldl_cons, List.length_cons]; omega
theorem ins_ne (l : List (Nat × Nat)) (p : Nat × Nat) : ins l p ≠ [] := fun z => by
  have : p ∈ ins l p := mem_ins.mpr (.inr rfl)
  rw [z] at this; cases this
theorem foldl_ne : ∀ {m l : List (Nat × Nat)}, l ≠ [] → m.foldl ins l ≠ []
  | [], l, h => h
  | p :: m, l, h => foldl_ne (m := m) (ins_ne l p)
def grid : List (Nat × Nat) := (List.range 4).flatMap fun a => (List.range 6).map fun b => (a, b)
theorem hash_grid : (grid.map fun p => hashK (sp p)) = [-8458139203682520985, -1950498447580522560, 7204814214171964562, -4734289103435588629, 1773351652666409796,
    -3119722376306286570, -5164621852614943976, 8389048192121911274, -3550055125485641917, -1440771752368011620,
    -6333845781340707986, 173794974761290439, 4685526799349444076, 6794810172467074373, 1901736143494378007,
    8409376899596376432, 3516302870623680066, -8422800446983873125, 2248468952609198383, 8756109708711196808,
    3863035679738500442, 5972319052856130739, 1079245023883434373, 7586885779985432798] := by decide +kernel
theorem hash_nodup : (grid.map fun p => hashK (sp p)).Nodup := by rw [hash_grid]; decide +kernel
theorem inj_of {α : Type} (f : α → Int) : ∀ {l : List α}, (l.map f).Nodup → ∀ {p q : α}, p ∈ l → q ∈ l → f p = f q → p = q
  | x :: l, h, p, q, hp, hq, e => by
    rw [List.map_cons, List.nodup_cons] at h
    rcases List.mem_cons.mp hp with z1 | z1
    · rcases List.mem_cons.mp hq with z2 | z2
      · rw [z1, z2]
      · refine absurd ?_ h.1
        rw [← z1, e]; exact List.mem_map_of_mem z2
    · rcases List.mem_cons.mp hq with z2 | z2
      · refine absurd ?_ h.1
        rw [← z2, ← e]; exact List.mem_map_of_mem z1
      · exact inj_of f h.2 z1 z2 e
theorem nodup_of {α : Type} (f : α → Int) : ∀ {l : List α}, l.Nodup → (∀ p ∈ l, ∀ q ∈ l, f p = f q → p = q) → (l.map f).Nodup
  | [], _, _ => List.nodup_nil
  | x :: l, h, hf => by
    rw [List.nodup_cons] at h
    rw [List.map_cons, List.nodup_cons]
    refine ⟨fun z => ?_, nodup_of f h.2 fun p hp q hq => hf p (List.mem_cons_of_mem _ hp) q (List.mem_cons_of_mem _ hq)⟩
    obtain ⟨y, hy, e⟩ := List.mem_map.mp z
    exact h.1 (hf y (List.mem_cons_of_mem _ hy) x List.mem_cons_self e ▸ hy)
theorem mem_grid {p : Nat × Nat} (h : p.1 < 4 ∧ p.2 < 6) : p ∈ grid := by
  unfold grid
  exact List.mem_flatMap.mpr ⟨p.1, List.mem_range.mpr h.1, List.mem_map.mpr ⟨p.2, List.mem_range.mpr h.2, rfl⟩⟩
theorem enc_hash (f : PyData → Int) (l : List (Nat × Nat)) : ((enc l).map fun p => f p.1) = l.map fun p => f (sp p) := by unfold enc; rw [List.map_map]; rfl
theorem nodup_hash {l : List (Nat × Nat)} (h : l.Nodup) (hb : ∀ p ∈ l, p.1 < 4 ∧ p.2 < 6) : ((enc l).map fun p => hashK p.1).Nodup := by
  rw [enc_hash hashK]
  exact nodup_of _ h fun p hp q hq e => inj_of _ hash_nodup (mem_grid (hb p hp)) (mem_grid (hb q hq)) e
theorem nolv_enc (l : List (Nat × Nat)) : nolv (enc l) = true := by
  unfold nolv enc
  rw [List.map_map]; exact nols_map _ (fun _ => rfl) l
theorem keyT_sp (p : Nat × Nat) : keyT (sp p) = true := rfl
theorem keyT_enc (l : List (Nat × Nat)) : ((enc l).all fun p => keyT p.1) = true := by
  unfold enc; rw [List.all_map, List.all_eq_true]; intro p _; rfl
theorem enc_empty {l : List (Nat × Nat)} (h : l ≠ []) : (enc l).isEmpty = false := by
  cases l with
  | nil => exact absurd rfl h
  | cons p l => rfl
theorem enc_len (l : List (Nat × Nat)) : (enc l).length = l.length := List.length_map _
theorem gDictOf_enc {l : List (Nat × Nat)} (h0 : l ≠ []) (hn : l.Nodup) (hb : ∀ p ∈ l, p.1 < 4 ∧ p.2 < 6) : gDictOf [.dict (enc l)] = some (.dict (enc l)) := if_pos ⟨enc_empty h0, nolv_enc l, nodup_hash hn hb⟩
theorem updJ_enc {l m : List (Nat × Nat)} (h0 : l ≠ []) (hz : l.length + m.length ≤ sizeLine) : updJ 8 (.fr [3]) (enc l) (.dict (enc m)) = some (enc (m.foldl ins l)) := by
  simp only [updJ]
  rw [if_pos ⟨rfl, enc_empty h0, nolv_enc l, nolv_enc m, keyT_enc m, by rw [enc_len, enc_len]; exact hz⟩, mergK_enc]
theorem gInA_enc (l : List (Nat × Nat)) (p : Nat × Nat) : gInA (sp p) (.dict (enc l)) = some (.bool (decide (p ∈ l))) := by
  simp only [gInA]
  rw [if_pos (keyT_sp p), hasK_enc]
/-! ### what is known, forwards -/
def gath (h : Nat) (W : List PyData) (f : Nat → List (Nat × Nat)) (k : Nat) (S : List Nat) : List (Nat × Nat) := S.foldl (fun acc s => (f s).foldl ins acc) (f k)
def Lk (h : Nat) (Ws : List (List PyData)) : Nat → Nat → List (Nat × Nat)
  | 0, k => [(k, 0)]
  | i + 1, k => ins (gath h (Ws.getD i []) (Lk h Ws i) k (sndD h (Ws.getD i []) k)) (k, i + 1)
theorem mem_gath {h : Nat} {W : List PyData} {f : Nat → List (Nat × Nat)} {q : Nat × Nat} : ∀ {S : List Nat} {l : List (Nat × Nat)}, q ∈ S.foldl (fun acc s => (f s).foldl ins acc) l ↔ q ∈ l ∨ ∃ s ∈ S, q ∈ f s
  | [], l => by simp
  | s :: S, l => by
    rw [List.foldl_cons, mem_gath (h := h) (W := W) (S := S), mem_foldl]
    simp only [List.mem_cons, exists_eq_or_imp]
    exact or_assoc
theorem mem_Lk {h : Nat} {Ws : List (List PyData)} {i k : Nat} {q : Nat × Nat} : q ∈ Lk h Ws (i + 1) k ↔ (q ∈ Lk h Ws i k ∨ ∃ s ∈ sndD h (Ws.getD i []) k, q ∈ Lk h Ws i s) ∨ q = (k, i + 1) := by
  rw [Lk, mem_ins, gath, mem_gath (h := h) (W := Ws.getD i [])]
theorem gath_ok {h : Nat} {W : List PyData} {f : Nat → List (Nat × Nat)} {k c : Nat} (h0 : f k ≠ []) (hn : (f k).Nodup) (hl : ∀ s, (f s).length ≤ c) : ∀ {S : List Nat}, gath h W f k S ≠ [] ∧ (gath h W f k S).Nodup ∧ (gath h W f k S).length ≤ c + S.length * c := by
  intro S
  have : ∀ (S : List Nat) (l : List (Nat × Nat)), l ≠ [] → l.Nodup → S.foldl (fun acc s => (f s).foldl ins acc) l ≠ [] ∧ (S.foldl (fun acc s => (f s).foldl ins acc) l).Nodup ∧ (S.foldl (fun acc s => (f s).foldl ins acc) l).length ≤ l.length + S.length * c := by
    intro S
    induction S with
    | nil => intro l a b; exact ⟨a, b, by simp⟩
    | cons s S ih =>
      intro l a b
      obtain ⟨x, y, z⟩ := ih _ (foldl_ne (m := f s) a) (nodup_foldl (m := f s) b)
      have := len_foldl (f s) l
      have := hl s
      refine ⟨x, y, ?_⟩
      rw [List.foldl_cons, List.length_cons, Nat.succ_mul]; omega
  obtain ⟨x, y, z⟩ := this S (f k) h0 hn
  have := hl k
  exact ⟨x, y, by unfold gath; omega⟩
theorem sndD_len (h : Nat) (W : List PyData) (k : Nat) (hh : h ≤ 4) : (sndD h W k).length ≤ 4 := Nat.le_trans (List.length_filter_le _ _) (by rw [List.length_range]; exact hh)
theorem Lk_ok {h : Nat} {Ws : List (List PyData)} (hh : h ≤ 4) : ∀ (i k : Nat), Lk h Ws i k ≠ [] ∧ (Lk h Ws i k).Nodup ∧ (Lk h Ws i k).length ≤ 6 ^ i
  | 0, k => ⟨by simp [Lk], by simp [Lk], by simp [Lk]⟩
  | i + 1, k => by
    have ih := Lk_ok (Ws := Ws) hh i
    obtain ⟨x, y, z⟩ := gath_ok (h := h) (W := Ws.getD i []) (f := Lk h Ws i) (k := k) (c := 6 ^ i) (ih k).1 (ih k).2.1 (fun s => (ih s).2.2) (S := sndD h (Ws.getD i []) k)
    refine ⟨ins_ne _ _, nodup_ins y, ?_⟩
    have h1 := len_ins (gath h (Ws.getD i []) (Lk h Ws i) k (sndD h (Ws.getD i []) k)) (k, i + 1)
    have h2 := sndD_len h (Ws.getD i []) k hh
    have h3 : (sndD h (Ws.getD i []) k).length * 6 ^ i ≤ 4 * 6 ^ i := Nat.mul_le_mul_right _ h2
    have h4 : 0 < 6 ^ i := Nat.pow_pos (by decide)
    rw [Lk, Nat.pow_succ]; omega
theorem Lk_lt {h : Nat} {Ws : List (List PyData)} : ∀ (i k : Nat), k < h → ∀ q ∈ Lk h Ws i k, q.1 < h ∧ q.2 ≤ i
  | 0, k, hk, q, hq => by
    rw [Lk, List.mem_singleton] at hq; subst hq; exact ⟨hk, Nat.le_refl _⟩
  | i + 1, k, hk, q, hq => by
    rcases mem_Lk.mp hq with (hq | ⟨s, hs, hq⟩) | hq
    · have := Lk_lt i k hk q hq; exact ⟨this.1, Nat.le_succ_of_le this.2⟩
    · have := Lk_lt i s (sndD_lt hs) q hq; exact ⟨this.1, Nat.le_succ_of_le this.2⟩
    · subst hq; exact ⟨hk, Nat.le_refl _⟩
/-- forwards and backwards -/
theorem Lk_back {h : Nat} {Ws : List (List PyData)} (hh : h ≤ 4) : ∀ (i : Nat), i ≤ Ws.length → ∀ (H : List Nat), (∀ k ∈ H, k < h) → ∀ (o j : Nat), (∃ k ∈ H, (o, j) ∈ Lk h Ws i k) ↔ j ≤ i ∧ o ∈ hs h ((Ws.take i).drop j).reverse H
  | 0, _, H, hH, o, j => by
    simp only [Lk, List.mem_singleton, Prod.mk.injEq, List.take_zero, List.drop_nil, List.reverse_nil, hs]
    constructor
    · rintro ⟨k, hk, rfl, rfl⟩; exact ⟨Nat.le_refl _, hk⟩
    · rintro ⟨hj, ho⟩; exact ⟨o, ho, rfl, by omega⟩
  | i + 1, hi, H, hH, o, j => by
    have hi' : i < Ws.length := by omega
    have eW : Ws.getD i [] = Ws[i] := by rw [List.getD_eq_getElem?_getD, List.getElem?_eq_getElem hi']; rfl
    have ih := Lk_back (Ws := Ws) hh i (by omega) (nextH h Ws[i] H) (nextH_lt hH) o j
    have key : (∃ k ∈ H, (o, j) ∈ Lk h Ws (i + 1) k) ↔ (∃ k ∈ nextH h Ws[i] H, (o, j) ∈ Lk h Ws i k) ∨ (j = i + 1 ∧ o ∈ H) := by
      constructor
      · rintro ⟨k, hk, hq⟩
        rcases mem_Lk.mp hq with (hq | ⟨s, hs', hq⟩) | hq
        · exact .inl ⟨k, (mem_next hh hH k).mpr (List.mem_append_left _ hk), hq⟩
        · rw [eW] at hs'
          exact .inl ⟨s, (mem_next hh hH s).mpr (List.mem_append_right _ (List.mem_flatMap.mpr ⟨k, hk, hs'⟩)), hq⟩
        · obtain ⟨rfl, rfl⟩ := Prod.mk.inj hq
          exact .inr ⟨rfl, hk⟩
      · rintro (⟨k, hk, hq⟩ | ⟨rfl, ho⟩)
        · rcases List.mem_append.mp ((mem_next hh hH k).mp hk) with hk | hk
          · exact ⟨k, hk, mem_Lk.mpr (.inl (.inl hq))⟩
          · obtain ⟨k', hk', hs'⟩ := List.mem_flatMap.mp hk
            exact ⟨k', hk', mem_Lk.mpr (.inl (.inr ⟨k, by rw [eW]; exact hs', hq⟩))⟩
        · exact ⟨o, ho, mem_Lk.mpr (.inr rfl)⟩
    rw [key, ih]
    have et : Ws.take (i + 1) = Ws.take i ++ [Ws[i]] := by rw [List.take_add_one, List.getElem?_eq_getElem hi']; rfl
    have el : (Ws.take i).length = i := by rw [List.length_take]; omega
    by_cases hj : j ≤ i
    · have ed : ((Ws.take (i + 1)).drop j).reverse = Ws[i] :: ((Ws.take i).drop j).reverse := by
        rw [et, List.drop_append_of_le_length (by rw [el]; exact hj), List.reverse_append]; rfl
      rw [ed, hs]
      exact ⟨fun z => z.elim (fun y => ⟨by omega, y.2⟩) fun y => by omega, fun z => .inl ⟨hj, z.2⟩⟩
    · have ed : ((Ws.take (i + 1)).drop (i + 1)).reverse = [] := by
        have z : (Ws.take (i + 1)).drop (i + 1) = [] := List.drop_eq_nil_of_le (by rw [List.length_take]; omega)
        rw [z]; rfl
      constructor
      · rintro (y | ⟨rfl, ho⟩)
        · omega
        · refine ⟨Nat.le_refl _, ?_⟩
          rw [ed]; exact ho
      · rintro ⟨hj', ho⟩
        have : j = i + 1 := by omega
        subst this
        rw [ed] at ho
        exact .inr ⟨rfl, ho⟩
theorem Lk_hand {h : Nat} {Ws : List (List PyData)} {hand : Nat} (hh : h ≤ 4) (hd : hand < h) (o j : Nat) : (o, j) ∈ Lk h Ws Ws.length hand ↔ j ≤ Ws.length ∧ o ∈ hs h (Ws.drop j).reverse [hand] := by
  have := Lk_back (Ws := Ws) hh Ws.length (Nat.le_refl _) [hand] (fun k hk => by rw [List.mem_singleton.mp hk]; exact hd) o j
  rw [List.take_length] at this
  rw [← this]; simp
theorem rows_get {h : Nat} : ∀ (R : List (List PyData)) (H : List Nat) (m : Nat) (hm : m < R.length), (rows h R H)[m]? = some (.tuple ((List.range h).map (rowH h R[m] (hs h (R.take m) H))))
  | W :: R, H, 0, _ => by rw [rows, List.getElem?_cons_zero, List.take_zero, hs]; rfl
  | W :: R, H, m + 1, hm => by
    rw [rows, List.getElem?_cons_succ, rows_get R (nextH h W H) m (by simpa using hm)]
    simp only [List.getElem_cons_succ, List.take_succ_cons, hs]
theorem rows_rev {h : Nat} {Ws : List (List PyData)} {hand m : Nat} (hm : m < Ws.length) : (rows h Ws.reverse [hand]).reverse[m]? = some (.tuple ((List.range h).map (rowH h Ws[m] (hs h (Ws.drop (m + 1)).reverse [hand])))) := by
  have hl : (rows h Ws.reverse [hand]).length = Ws.length := by rw [rows_len, List.length_reverse]
  rw [List.getElem?_reverse (by omega), hl, rows_get _ _ _ (by rw [List.length_reverse]; omega)]
  have e1 : Ws.reverse[Ws.length - 1 - m]'(by rw [List.length_reverse]; omega) = Ws[m] := by rw [List.getElem_reverse]; congr 1; omega
  have e2 : Ws.reverse.take (Ws.length - 1 - m) = (Ws.drop (m + 1)).reverse := by
    rw [List.take_reverse]; congr 2; omega
  rw [e1, e2]
end K12
set_option Elab.async false
set_option linter.all false
set_option maxRecDepth 100000
namespace K12
open PySem Y
abbrev Slot := Option (Bool × PyData)
def knF (h : Nat) (f : Nat → List (Nat × Nat)) : List PyData := (List.range h).map fun k => .dict (enc (f k))
theorem knF_at {h k : Nat} {f : Nat → List (Nat × Nat)} (hk : k < h) : atD (knF h f) (k : Int) = some (.dict (enc (f k))) := atD_nat (by unfold knF; rw [List.getElem?_map, List.getElem?_range hk]; rfl)
theorem first_ok (o : Nat) : E__law_view_1 [some (false, .int (o : Int))] = mret (.fr [], .dict (enc [(o, 0)])) := by
  have hk : keyT (.tuple [.int (o : Int), .int 0]) = true := rfl
  have n2 : nols [PyData.int (o : Int), .int 0] = true := rfl
  simp -implicitDefEqProofs (disch := omega) only [E__law_view_1, eDct1, runF, startD, sSeq, sIf, sRet, sRetN, sNil, sCnt, sBrk, sSet, sExp, sAsg, sMov, sFor, sApp, sExt, sClr, sPut, eOp, eUn, eV, eC, eIx, eIf, eChain, eAnd, eOr, eNotV, eArgs, eTup, eLst, eCB, eCall, eIsi, isTy, eIdx, eRep, tE, tAndF, tOrF, tNotF, tYesF, isFr, kdDisp, stor, frzK, gNm, itE, itR1, itemsOf, capD, mbind_ret, mo_some, gLt_int, gLe_int, gGt_int, gLen_list, gLen_tup, gIx_list, gIx_tup, gAdd_int, gSub_int, gMul_int, gFdiv_int, gMod_int, gPow_int, gNeg_int, gEq_int, gNe_int, gIs_non, gIsNot_non, isNon, rng1_int, nrm_int, nrm_bl, nrm_str, nrm_non, nrm_lst, nrm_dct, nol_int, nol_bl, nol_str, nol_non, nol_lst, nol_tup, List.map_cons, List.map_nil, List.cons_append, List.nil_append, List.getElem?_cons_zero, List.getElem?_cons_succ, List.length_cons, List.length_nil, List.length_map, List.length_range, List.set_cons_zero, List.set_cons_succ, List.replicate_succ, List.replicate_zero, if_true, if_false, Bool.false_eq_true, Bool.not_true, Bool.not_false, decide_true, decide_false, ite_true, ite_false, Option.map_some, Option.join_some, beq_self_eq_true, eq_self, String.reduceBEq, Bool.or_false, Bool.false_or, Bool.or_true, Bool.true_or, reduceCtorEq, reduceIte, hk, nrm_tup n2, and_self]
  rfl
theorem upd_loop (c0 c1 c2 c4 c5 c6 c7 c9 c10 c11 c12 : Slot) (h c : Nat) (f : Nat → List (Nat × Nat)) (hl : ∀ s, (f s).length ≤ c) (S : List Nat) (hS : ∀ s ∈ S, s < h) (l0 : List (Nat × Nat)) (h0 : l0 ≠ []) (hz : l0.length + S.length * c ≤ 100000) :
    ∃ c9' : Slot, forD (gNm 9) B__law_view_2 (S.map nat) [c0, c1, c2, some (true, .list (knF h f)), c4, c5, c6, c7, some (true, .dict (enc l0)), c9, c10, c11, c12] =
      mret (.nx [c0, c1, c2, some (true, .list (knF h f)), c4, c5, c6, c7, some (true, .dict (enc (S.foldl (fun acc s => (f s).foldl ins acc) l0))), c9', c10, c11, c12]) := by
  have len : ∀ (S : List Nat) (l : List (Nat × Nat)), (S.foldl (fun acc s => (f s).foldl ins acc) l).length ≤ l.length + S.length * c := by
    intro S
    induction S with
    | nil => intro l; simp
    | cons s S ih =>
      intro l
      have := ih ((f s).foldl ins l)
      have := len_foldl (f s) l
      have := hl s
      rw [List.foldl_cons, List.length_cons, Nat.succ_mul]; omega
  have ne : ∀ (S : List Nat) (l : List (Nat × Nat)), l ≠ [] → S.foldl (fun acc s => (f s).foldl ins acc) l ≠ [] := by
    intro S
    induction S with
    | nil => intro l a; exact a
    | cons s S ih => intro l a; exact ih _ (foldl_ne (m := f s) a)
  obtain ⟨Γ', g1, c9', g2⟩ := forD_inv (g := gNm 9) (b := B__law_view_2) (ds := S.map nat) (Γ := [c0, c1, c2, some (true, .list (knF h f)), c4, c5, c6, c7, some (true, .dict (enc l0)), c9, c10, c11, c12])
    (fun i Γ => ∃ c9' : Slot, Γ = [c0, c1, c2, some (true, .list (knF h f)), c4, c5, c6, c7, some (true, .dict (enc ((S.take i).foldl (fun acc s => (f s).foldl ins acc) l0))), c9', c10, c11, c12]) ⟨c9, by simp⟩ (by
    rintro i d Γ hd ⟨c9', rfl⟩
    have hi : i < S.length := by have := (List.getElem?_eq_some_iff.mp hd).1; simpa using this
    rw [List.getElem?_map, List.getElem?_eq_getElem hi] at hd
    have hd' : nat S[i] = d := Option.some.inj hd
    subst hd'
    have hs := hS _ (List.getElem_mem hi)
    have et : S.take (i + 1) = S.take i ++ [S[i]] := by rw [List.take_add_one, List.getElem?_eq_getElem hi]; rfl
    refine ⟨_, [c0, c1, c2, some (true, .list (knF h f)), c4, c5, c6, c7, some (true, .dict (enc ((S.take (i + 1)).foldl (fun acc s => (f s).foldl ins acc) l0))), some (true, nat S[i]), c10, c11, c12], rfl, .inl ?_, _, rfl⟩
    rw [et, List.foldl_append, List.foldl_cons, List.foldl_nil]
    have hlen := len (S.take i) l0
    have hmul : (S.take i).length * c + c ≤ S.length * c := by
      rw [← Nat.succ_mul]; exact Nat.mul_le_mul_right _ (by rw [List.length_take]; omega)
    have hne := ne (S.take i) l0 h0
    have hfs := hl S[i]
    generalize (S.take i).foldl (fun acc s => (f s).foldl ins acc) l0 = l at *
    generalize S[i] = s at *
    have ek := knF_at (f := f) hs
    have eu := updJ_enc (l := l) (m := f s) hne (Nat.le_trans (show _ ≤ 100000 by omega) (by decide))
    simp -implicitDefEqProofs (disch := omega) only [B__law_view_2, sUpdJ, runF, startD, sSeq, sIf, sRet, sRetN, sNil, sCnt, sBrk, sSet, sExp, sAsg, sMov, sFor, sApp, sExt, sClr, sPut, eOp, eUn, eV, eC, eIx, eIf, eChain, eAnd, eOr, eNotV, eArgs, eTup, eLst, eCB, eCall, eIsi, isTy, eIdx, eRep, tE, tAndF, tOrF, tNotF, tYesF, isFr, kdDisp, stor, frzK, gNm, itE, itR1, itemsOf, capD, mbind_ret, mo_some, gLt_int, gLe_int, gGt_int, gLen_list, gLen_tup, gIx_list, gIx_tup, gAdd_int, gSub_int, gMul_int, gFdiv_int, gMod_int, gPow_int, gNeg_int, gEq_int, gNe_int, gIs_non, gIsNot_non, isNon, rng1_int, nrm_int, nrm_bl, nrm_str, nrm_non, nrm_lst, nrm_dct, nol_int, nol_bl, nol_str, nol_non, nol_lst, nol_tup, List.map_cons, List.map_nil, List.cons_append, List.nil_append, List.getElem?_cons_zero, List.getElem?_cons_succ, List.length_cons, List.length_nil, List.length_map, List.length_range, List.set_cons_zero, List.set_cons_succ, List.replicate_succ, List.replicate_zero, if_true, if_false, Bool.false_eq_true, Bool.not_true, Bool.not_false, decide_true, decide_false, ite_true, ite_false, Option.map_some, Option.join_some, beq_self_eq_true, eq_self, String.reduceBEq, Bool.or_false, Bool.false_or, Bool.or_true, Bool.true_or, reduceCtorEq, reduceIte, nat, ek, eu])
  rw [List.length_map, List.take_length] at g2
  exact ⟨c9', by rw [g1, g2]⟩
theorem one_ok (c0 c1 c9 c10 c11 c12 : Slot) (h c i j : Nat) (hh : h ≤ 4) (hj : j < h) (hi : i < 5) (W : List PyData) (nW : nols W = true) (hW : lays 60 W = true) (f : Nat → List (Nat × Nat)) (hl : ∀ s, (f s).length ≤ c) (hc : c ≤ 10000) (h0 : ∀ s, f s ≠ []) (hn : ∀ s, (f s).Nodup) (hb : ∀ s, s < h → ∀ p ∈ f s, p.1 < h ∧ p.2 ≤ i) (aft : List PyData) (ha : aft.length < 10) :
    ∃ c9' : Slot, B__law_view_3 [c0, c1, some (true, .int (h : Int)), some (true, .list (knF h f)), some (true, .int (i : Int)), some (true, .tuple W), some (true, .list aft), some (true, .int (j : Int)), none, c9, c10, c11, c12] =
      mret (.nx [c0, c1, some (true, .int (h : Int)), some (true, .list (knF h f)), some (true, .int (i : Int)), some (true, .tuple W), some (true, .list (aft ++ [.dict (enc (ins (gath h W f j (sndD h W j)) (j, i + 1)))])), some (true, .int (j : Int)), none, c9', c10, c11, c12]) := by
  have ek := knF_at (f := f) hj
  have gd := gDictOf_enc (h0 j) (hn j) fun p hp => ⟨by have := (hb j hj p hp).1; omega, by have := (hb j hj p hp).2; omega⟩
  have sn := senders_ok h j W hh hW
  have nS : nols ((sndD h W j).map nat) = true := nols_map _ (fun _ => rfl) _
  have sl := sndD_len h W j hh
  have hlj := hl j
  have hm : (sndD h W j).length * c ≤ 4 * c := Nat.mul_le_mul_right _ sl
  obtain ⟨c9', hu⟩ := upd_loop c0 c1 (some (true, .int (h : Int))) (some (true, .int (i : Int))) (some (true, .tuple W)) (some (true, .list aft)) (some (true, .int (j : Int))) c9 c10 c11 c12 h c f hl (sndD h W j) (fun s hs => sndD_lt hs) (f j) (h0 j) (by omega)
  have e1 : ((i : Int) + 1) = ((i + 1 : Nat) : Int) := by omega
  obtain ⟨_, _, gl⟩ := gath_ok (h := h) (W := W) (f := f) (k := j) (c := c) (h0 j) (hn j) hl (S := sndD h W j)
  have eg : (sndD h W j).foldl (fun acc s => (f s).foldl ins acc) (f j) = gath h W f j (sndD h W j) := rfl
  rw [eg] at hu
  generalize gath h W f j (sndD h W j) = G at *
  have hk : keyT (.tuple [.int (j : Int), .int ((i + 1 : Nat) : Int)]) = true := rfl
  have n2 : nols [PyData.int (j : Int), .int ((i + 1 : Nat) : Int)] = true := rfl
  have hp : putK (enc G) (.tuple [.int (j : Int), .int ((i + 1 : Nat) : Int)]) (.bool true) = enc (ins G (j, i + 1)) := putK_enc G (j, i + 1)
  have hsz : (enc G).length < sizeLine := by rw [enc_len]; exact Nat.lt_of_le_of_lt (show _ ≤ 100000 by omega) (by decide)
  have hsz2 : aft.length < sizeLine := Nat.lt_of_lt_of_le ha (by decide)
  have nv := nolv_enc G
  refine ⟨c9', ?_⟩
  simp -implicitDefEqProofs (disch := omega) only [B__law_view_3, sPutA, runF, startD, sSeq, sIf, sRet, sRetN, sNil, sCnt, sBrk, sSet, sExp, sAsg, sMov, sFor, sApp, sExt, sClr, sPut, eOp, eUn, eV, eC, eIx, eIf, eChain, eAnd, eOr, eNotV, eArgs, eTup, eLst, eCB, eCall, eIsi, isTy, eIdx, eRep, tE, tAndF, tOrF, tNotF, tYesF, isFr, kdDisp, stor, frzK, gNm, itE, itR1, itemsOf, capD, mbind_ret, mo_some, gLt_int, gLe_int, gGt_int, gLen_list, gLen_tup, gIx_list, gIx_tup, gAdd_int, gSub_int, gMul_int, gFdiv_int, gMod_int, gPow_int, gNeg_int, gEq_int, gNe_int, gIs_non, gIsNot_non, isNon, rng1_int, nrm_int, nrm_bl, nrm_str, nrm_non, nrm_lst, nrm_dct, nol_int, nol_bl, nol_str, nol_non, nol_lst, nol_tup, List.map_cons, List.map_nil, List.cons_append, List.nil_append, List.getElem?_cons_zero, List.getElem?_cons_succ, List.length_cons, List.length_nil, List.length_map, List.length_range, List.set_cons_zero, List.set_cons_succ, List.replicate_succ, List.replicate_zero, if_true, if_false, Bool.false_eq_true, Bool.not_true, Bool.not_false, decide_true, decide_false, ite_true, ite_false, Option.map_some, Option.join_some, beq_self_eq_true, eq_self, String.reduceBEq, Bool.or_false, Bool.false_or, Bool.or_true, Bool.true_or, reduceCtorEq, reduceIte, ek, gd, sn, nrm_tup nW, nrm_tup nS, hu, e1, hk, nrm_tup n2, nv, hsz, hp, hsz2, and_self, ne_eq, Nat.reduceEqDiff, not_false_eq_true, and_true]
theorem enum_get {Ws : List (List PyData)} {i : Nat} {d : PyData} (h : (enumI 0 (Ws.map PyData.tuple))[i]? = some d) : ∃ hi : i < Ws.length, d = .tuple [.int (i : Int), .tuple Ws[i]] := by
  rw [L2.enumI_get, List.getElem?_map] at h
  by_cases hi : i < Ws.length
  · rw [List.getElem?_eq_getElem hi] at h
    exact ⟨hi, by have := Option.some.inj h; rw [← this, Nat.zero_add]⟩
  · rw [List.getElem?_eq_none (by omega)] at h; cases h
theorem tp_ok (c0 c1 c2 c3 c4 c5 c6 c7 c8 c9 c10 c11 c12 : Slot) (i : Nat) (W : List PyData) (nW : nols W = true) :
    gTp [4, 5] (nrm .base (.tuple [.int (i : Int), .tuple W])) (.tuple [.int (i : Int), .tuple W]) [c0, c1, c2, c3, c4, c5, c6, c7, c8, c9, c10, c11, c12] = some [c0, c1, c2, c3, some (true, .int (i : Int)), some (true, .tuple W), c6, c7, c8, c9, c10, c11, c12] := by
  have n2 : nols [PyData.int (i : Int), .tuple W] = true := by simp only [nols, nol_int, nol_tup, nW, Bool.and_self]
  rw [nrm_tup n2]
  simp only [gTp, List.length_cons, List.length_nil, if_true, stors, partK, nrm_int, nrm_tup nW, stor, List.set_cons_zero, List.set_cons_succ]
theorem known_ok {h b : Nat} {vs : List Int} {Ws : List (List PyData)} (w : Wok h b vs Ws) (hh : h ≤ 4) (c0 c1 : Slot) :
    ∃ c4 c5 c7 c9 : Slot, forD (gTp [4, 5]) B__law_view_4 (enumI 0 (Ws.map PyData.tuple)) [c0, c1, some (true, .int (h : Int)), some (true, .list (knF h (Lk h Ws 0))), none, none, none, none, none, none, none, none, none] =
      mret (.nx [c0, c1, some (true, .int (h : Int)), some (true, .list (knF h (Lk h Ws Ws.length))), c4, c5, none, c7, none, c9, none, none, none]) := by
  obtain ⟨Γ', g1, c4, c5, c7, c9, g2⟩ := forD_inv (g := gTp [4, 5]) (b := B__law_view_4) (ds := enumI 0 (Ws.map PyData.tuple)) (Γ := [c0, c1, some (true, .int (h : Int)), some (true, .list (knF h (Lk h Ws 0))), none, none, none, none, none, none, none, none, none])
    (fun i Γ => ∃ c4 c5 c7 c9 : Slot, Γ = [c0, c1, some (true, .int (h : Int)), some (true, .list (knF h (Lk h Ws i))), c4, c5, none, c7, none, c9, none, none, none]) ⟨_, _, _, _, rfl⟩ (by
    rintro i d Γ hd ⟨c4, c5, c7, c9, rfl⟩
    obtain ⟨hi, rfl⟩ := enum_get hd
    have hr := w.hr
    have nW := w.n _ (List.getElem_mem hi)
    have lW := w.l _ (List.getElem_mem hi)
    have eW : Ws.getD i [] = Ws[i] := by rw [List.getD_eq_getElem?_getD, List.getElem?_eq_getElem hi]; rfl
    have lok := Lk_ok (Ws := Ws) hh i
    have h6 : 6 ^ i ≤ 6 ^ 5 := Nat.pow_le_pow_right (by decide) (by omega)
    obtain ⟨Γ', k1, c7', c9', k2⟩ := forD_inv (g := gNm 7) (b := B__law_view_3) (ds := (List.range h).map fun (i : Nat) => PyData.int (i : Int)) (Γ := [c0, c1, some (true, .int (h : Int)), some (true, .list (knF h (Lk h Ws i))), some (true, .int (i : Int)), some (true, .tuple Ws[i]), some (true, .list []), c7, none, c9, none, none, none])
      (fun j Γ => ∃ c7 c9 : Slot, Γ = [c0, c1, some (true, .int (h : Int)), some (true, .list (knF h (Lk h Ws i))), some (true, .int (i : Int)), some (true, .tuple Ws[i]), some (true, .list (knF j (Lk h Ws (i + 1)))), c7, none, c9, none, none, none]) ⟨_, _, rfl⟩ (by
      rintro j d Γ hd ⟨c7, c9, rfl⟩
      obtain ⟨rfl, hj⟩ := range_get hd
      obtain ⟨c9', e⟩ := one_ok c0 c1 c9 none none none h (6 ^ i) i j hh hj (by omega) Ws[i] nW lW (Lk h Ws i) (fun s => (lok s).2.2) (Nat.le_trans h6 (by decide)) (fun s => (lok s).1) (fun s => (lok s).2.1) (fun s hs => Lk_lt i s hs) (knF j (Lk h Ws (i + 1))) (by unfold knF; rw [List.length_map, List.length_range]; omega)
      refine ⟨_, _, rfl, .inl e, some (true, .int (j : Int)), c9', ?_⟩
      have e2 : knF (j + 1) (Lk h Ws (i + 1)) = knF j (Lk h Ws (i + 1)) ++ [.dict (enc (ins (gath h Ws[i] (Lk h Ws i) j (sndD h Ws[i] j)) (j, i + 1)))] := by
        unfold knF; rw [List.range_succ, List.map_append]
        have : Lk h Ws (i + 1) j = ins (gath h Ws[i] (Lk h Ws i) j (sndD h Ws[i] j)) (j, i + 1) := by rw [Lk, eW]
        rw [List.map_cons, List.map_nil, this]
      rw [e2])
    rw [List.length_map, List.length_range] at k2
    refine ⟨_, [c0, c1, some (true, .int (h : Int)), some (true, .list (knF h (Lk h Ws (i + 1)))), some (true, .int (i : Int)), some (true, .tuple Ws[i]), none, c7', none, c9', none, none, none], tp_ok _ _ _ _ _ _ _ _ _ _ _ _ _ i Ws[i] nW, .inl ?_, _, _, _, _, rfl⟩
    simp -implicitDefEqProofs (disch := omega) only [B__law_view_4, runF, startD, sSeq, sIf, sRet, sRetN, sNil, sCnt, sBrk, sSet, sExp, sAsg, sMov, sFor, sApp, sExt, sClr, sPut, eOp, eUn, eV, eC, eIx, eIf, eChain, eAnd, eOr, eNotV, eArgs, eTup, eLst, eCB, eCall, eIsi, isTy, eIdx, eRep, tE, tAndF, tOrF, tNotF, tYesF, isFr, kdDisp, stor, frzK, gNm, itE, itR1, itemsOf, capD, mbind_ret, mo_some, gLt_int, gLe_int, gGt_int, gLen_list, gLen_tup, gIx_list, gIx_tup, gAdd_int, gSub_int, gMul_int, gFdiv_int, gMod_int, gPow_int, gNeg_int, gEq_int, gNe_int, gIs_non, gIsNot_non, isNon, rng1_int, nrm_int, nrm_bl, nrm_str, nrm_non, nrm_lst, nrm_dct, nol_int, nol_bl, nol_str, nol_non, nol_lst, nol_tup, List.map_cons, List.map_nil, List.cons_append, List.nil_append, List.getElem?_cons_zero, List.getElem?_cons_succ, List.length_cons, List.length_nil, List.length_map, List.length_range, List.set_cons_zero, List.set_cons_succ, List.replicate_succ, List.replicate_zero, if_true, if_false, Bool.false_eq_true, Bool.not_true, Bool.not_false, decide_true, decide_false, ite_true, ite_false, Option.map_some, Option.join_some, beq_self_eq_true, eq_self, String.reduceBEq, Bool.or_false, Bool.false_or, Bool.or_true, Bool.true_or, reduceCtorEq, reduceIte, Int.toNat_natCast, k1, k2, Nat.reduceEqDiff])
  rw [L2.enumI_len, List.length_map] at g2
  exact ⟨c4, c5, c7, c9, by rw [g1, g2]⟩
/-! ### filled -/
def pf (g : Nat → PyData) (i o : Nat) : PyData := if o < i then g o else .none
theorem pf_nol {g : Nat → PyData} (hg : ∀ o, nol (g o) = true) (i o : Nat) : nol (pf g i o) = true := by unfold pf; split; exact hg o; rfl
theorem fill_put (g : Nat → PyData) {i h : Nat} (hi : i < h) : ((List.range h).map (pf g i)).set i (g i) = (List.range h).map (pf g (i + 1)) := by
  refine List.ext_getElem (by simp) fun m h1 h2 => ?_
  rw [List.getElem_set, List.getElem_map, List.getElem_map, List.getElem_range]
  by_cases hm : i = m
  · subst hm; rw [if_pos rfl, pf, if_pos (by omega)]
  · rw [if_neg hm, pf, pf]
    by_cases hlt : m < i
    · rw [if_pos hlt, if_pos (by omega)]
    · rw [if_neg hlt, if_neg (by omega)]
theorem fill_skip (g : Nat → PyData) {i h : Nat} (hg : g i = .none) : (List.range h).map (pf g i) = (List.range h).map (pf g (i + 1)) := by
  refine List.map_congr_left fun m _ => ?_
  unfold pf
  by_cases hlt : m < i
  · rw [if_pos hlt, if_pos (by omega)]
  · rw [if_neg hlt]
    by_cases hm : m = i
    · subst hm; rw [if_pos (by omega), hg]
    · rw [if_neg (by omega)]
theorem fill_zero (g : Nat → PyData) (h : Nat) : (List.replicate h [PyData.none]).flatten = (List.range h).map (pf g 0) := by
  have : ∀ h : Nat, (List.replicate h [PyData.none]).flatten = List.replicate h PyData.none := fun h => by
    induction h with
    | zero => rfl
    | succ h ih => rw [List.replicate_succ, List.flatten_cons, ih, List.replicate_succ]; rfl
  rw [this]
  refine List.ext_getElem (by simp) fun m h1 h2 => ?_
  rw [List.getElem_replicate, List.getElem_map, pf, if_neg (by omega)]
theorem fill_all (g : Nat → PyData) (h : Nat) : (List.range h).map (pf g h) = (List.range h).map g := List.map_congr_left fun m hm => by
  unfold pf; rw [if_pos (List.mem_range.mp hm)]
theorem ixN_nat {n i : Nat} (h : i < n) : Y.ixN n (i : Int) = some i := by
  unfold Y.ixN; rw [if_pos (by omega), if_pos (by omega)]; simp
theorem repL_int {xs : List PyData} {k : Int} (h : nols xs = true ∧ -(2 ^ 63) ≤ k ∧ k < 2 ^ 63 ∧ xs.length * k.toNat ≤ sizeLine) : repL xs (.int k) = mret (.fr [], .list (List.replicate k.toNat xs).flatten) := if_pos h
theorem repL_none (h : Nat) (hh : h ≤ 4) (g : Nat → PyData) : repL [.none] (.int (h : Int)) = mret (Kd.fr [], .list ((List.range h).map (pf g 0))) := by
  rw [← fill_zero, repL_int ⟨rfl, by omega, by omega, Nat.le_trans (show _ ≤ 4 by rw [Int.toNat_natCast, List.length_singleton, Nat.one_mul]; exact hh) (by decide)⟩, Int.toNat_natCast]
end K12
set_option Elab.async false
set_option linter.all false
set_option maxRecDepth 100000
namespace K12
open PySem Y
theorem seen_loop {h b : Nat} {vs : List Int} {Ws : List (List PyData)} (w : Wok h b vs Ws) (hh : h ≤ 4) {hand : Nat} (hd : hand < h) (c4 c5 c7 c9 : Slot) :
    ∃ c7' : Slot, forD (gNm 7) B__law_view_5 ((List.range h).map fun (i : Nat) => PyData.int (i : Int)) [some (false, runD vs Ws), some (false, .int (hand : Int)), some (true, .int (h : Int)), some (true, .list (knF h (Lk h Ws Ws.length))), c4, c5, none, c7, none, c9, some (true, .list ((List.range h).map (pf (seenV vs (hs h Ws.reverse [hand])) 0))), some (true, .list []), none] =
      mret (.nx [some (false, runD vs Ws), some (false, .int (hand : Int)), some (true, .int (h : Int)), some (true, .list (knF h (Lk h Ws Ws.length))), c4, c5, none, c7', none, c9, some (true, .list ((List.range h).map (seenV vs (hs h Ws.reverse [hand])))), some (true, .list []), none]) := by
  have nr := nol_run (vs := vs) w.n
  have hv := w.hv
  have ek := knF_at (f := Lk h Ws Ws.length) hd
  obtain ⟨Γ', g1, c7', g2⟩ := forD_inv (g := gNm 7) (b := B__law_view_5) (ds := (List.range h).map fun (i : Nat) => PyData.int (i : Int)) (Γ := [some (false, runD vs Ws), some (false, .int (hand : Int)), some (true, .int (h : Int)), some (true, .list (knF h (Lk h Ws Ws.length))), c4, c5, none, c7, none, c9, some (true, .list ((List.range h).map (pf (seenV vs (hs h Ws.reverse [hand])) 0))), some (true, .list []), none])
    (fun i Γ => ∃ c7 : Slot, Γ = [some (false, runD vs Ws), some (false, .int (hand : Int)), some (true, .int (h : Int)), some (true, .list (knF h (Lk h Ws Ws.length))), c4, c5, none, c7, none, c9, some (true, .list ((List.range h).map (pf (seenV vs (hs h Ws.reverse [hand])) i))), some (true, .list []), none]) ⟨_, rfl⟩ (by
    rintro i d Γ hd' ⟨c7, rfl⟩
    obtain ⟨rfl, hi⟩ := range_get hd'
    refine ⟨_, [some (false, runD vs Ws), some (false, .int (hand : Int)), some (true, .int (h : Int)), some (true, .list (knF h (Lk h Ws Ws.length))), c4, c5, none, some (true, .int (i : Int)), none, c9, some (true, .list ((List.range h).map (pf (seenV vs (hs h Ws.reverse [hand])) (i + 1)))), some (true, .list []), none], rfl, .inl ?_, _, rfl⟩
    have gi : gInA (.tuple [.int (i : Int), .int 0]) (.dict (enc (Lk h Ws Ws.length hand))) = some (.bool (decide ((i, 0) ∈ Lk h Ws Ws.length hand))) := gInA_enc _ (i, 0)
    have n2 : nols [PyData.int (i : Int), .int 0] = true := rfl
    have hm : (i, 0) ∈ Lk h Ws Ws.length hand ↔ i ∈ hs h Ws.reverse [hand] := by rw [Lk_hand hh hd, List.drop_zero]; exact ⟨fun z => z.2, fun z => ⟨Nat.zero_le _, z⟩⟩
    have np := pf_nol (nol_seen vs (hs h Ws.reverse [hand])) i
    have nl : nols ((List.range h).map (pf (seenV vs (hs h Ws.reverse [hand])) i)) = true := nols_map _ np _
    have hix : Y.ixN ((List.range h).map (pf (seenV vs (hs h Ws.reverse [hand])) i)).length (i : Int) = some i := ixN_nat (by rw [List.length_map, List.length_range]; exact hi)
    rw [List.length_map, List.length_range] at hix
    have hk' : i < vs.length := by omega
    have ea : atD (vs.map PyData.int) (i : Int) = some (.int (vs.getD i 0)) := atD_nat (by rw [List.getElem?_map, List.getD_eq_getElem?_getD, List.getElem?_eq_getElem hk']; rfl)
    by_cases hb : i ∈ hs h Ws.reverse [hand]
    · have hb' := hm.mpr hb
      have hg : seenV vs (hs h Ws.reverse [hand]) i = .int (vs.getD i 0) := if_pos hb
      rw [← fill_put _ hi, hg]
      simp -implicitDefEqProofs (disch := omega) only [B__law_view_5, runF, startD, sSeq, sIf, sRet, sRetN, sNil, sCnt, sBrk, sSet, sExp, sAsg, sMov, sFor, sApp, sExt, sClr, sPut, eOp, eUn, eV, eC, eIx, eIf, eChain, eAnd, eOr, eNotV, eArgs, eTup, eLst, eCB, eCall, eIsi, isTy, eIdx, eRep, tE, tAndF, tOrF, tNotF, tYesF, isFr, kdDisp, stor, frzK, gNm, itE, itR1, itemsOf, capD, mbind_ret, mo_some, gLt_int, gLe_int, gGt_int, gLen_list, gLen_tup, gIx_list, gIx_tup, gAdd_int, gSub_int, gMul_int, gFdiv_int, gMod_int, gPow_int, gNeg_int, gEq_int, gNe_int, gIs_non, gIsNot_non, isNon, rng1_int, nrm_int, nrm_bl, nrm_str, nrm_non, nrm_lst, nrm_dct, nol_int, nol_bl, nol_str, nol_non, nol_lst, nol_tup, List.map_cons, List.map_nil, List.cons_append, List.nil_append, List.getElem?_cons_zero, List.getElem?_cons_succ, List.length_cons, List.length_nil, List.length_map, List.length_range, List.set_cons_zero, List.set_cons_succ, List.replicate_succ, List.replicate_zero, if_true, if_false, Bool.false_eq_true, Bool.not_true, Bool.not_false, decide_true, decide_false, ite_true, ite_false, Option.map_some, Option.join_some, beq_self_eq_true, eq_self, String.reduceBEq, Bool.or_false, Bool.false_or, Bool.or_true, Bool.true_or, reduceCtorEq, reduceIte, ek, gi, hb', nrm_tup n2, ix0, nrm_t (nol_runD w), nrm_tup (nols_ints vs), ea, hix, nl, Bool.and_self]
    · have hb' : ¬ (i, 0) ∈ Lk h Ws Ws.length hand := fun z => hb (hm.mp z)
      rw [← fill_skip _ (if_neg hb)]
      simp -implicitDefEqProofs (disch := omega) only [B__law_view_5, runF, startD, sSeq, sIf, sRet, sRetN, sNil, sCnt, sBrk, sSet, sExp, sAsg, sMov, sFor, sApp, sExt, sClr, sPut, eOp, eUn, eV, eC, eIx, eIf, eChain, eAnd, eOr, eNotV, eArgs, eTup, eLst, eCB, eCall, eIsi, isTy, eIdx, eRep, tE, tAndF, tOrF, tNotF, tYesF, isFr, kdDisp, stor, frzK, gNm, itE, itR1, itemsOf, capD, mbind_ret, mo_some, gLt_int, gLe_int, gGt_int, gLen_list, gLen_tup, gIx_list, gIx_tup, gAdd_int, gSub_int, gMul_int, gFdiv_int, gMod_int, gPow_int, gNeg_int, gEq_int, gNe_int, gIs_non, gIsNot_non, isNon, rng1_int, nrm_int, nrm_bl, nrm_str, nrm_non, nrm_lst, nrm_dct, nol_int, nol_bl, nol_str, nol_non, nol_lst, nol_tup, List.map_cons, List.map_nil, List.cons_append, List.nil_append, List.getElem?_cons_zero, List.getElem?_cons_succ, List.length_cons, List.length_nil, List.length_map, List.length_range, List.set_cons_zero, List.set_cons_succ, List.replicate_succ, List.replicate_zero, if_true, if_false, Bool.false_eq_true, Bool.not_true, Bool.not_false, decide_true, decide_false, ite_true, ite_false, Option.map_some, Option.join_some, beq_self_eq_true, eq_self, String.reduceBEq, Bool.or_false, Bool.false_or, Bool.or_true, Bool.true_or, reduceCtorEq, reduceIte, ek, gi, hb', nrm_tup n2])
  rw [List.length_map, List.length_range, fill_all] at g2
  exact ⟨c7', by rw [g1, g2]⟩
theorem row_loop {h b : Nat} {vs : List Int} {Ws : List (List PyData)} (w : Wok h b vs Ws) (hh : h ≤ 4) {hand m : Nat} (hd : hand < h) (hm : m < Ws.length) (c0 c7 c9 c10 c11 : Slot) :
    ∃ c7' : Slot, forD (gNm 7) B__law_view_6 ((List.range h).map fun (i : Nat) => PyData.int (i : Int)) [c0, some (false, .int (hand : Int)), some (true, .int (h : Int)), some (true, .list (knF h (Lk h Ws Ws.length))), some (true, .int (m : Int)), some (true, .tuple Ws[m]), none, c7, none, c9, c10, c11, some (true, .list ((List.range h).map (pf (rowH h Ws[m] (hs h (Ws.drop (m + 1)).reverse [hand])) 0)))] =
      mret (.nx [c0, some (false, .int (hand : Int)), some (true, .int (h : Int)), some (true, .list (knF h (Lk h Ws Ws.length))), some (true, .int (m : Int)), some (true, .tuple Ws[m]), none, c7', none, c9, c10, c11, some (true, .list ((List.range h).map (rowH h Ws[m] (hs h (Ws.drop (m + 1)).reverse [hand]))))]) := by
  have ek := knF_at (f := Lk h Ws Ws.length) hd
  have nW := w.n _ (List.getElem_mem hm)
  have lW := w.l _ (List.getElem_mem hm)
  have e1 : ((m : Int) + 1) = ((m + 1 : Nat) : Int) := by omega
  generalize hWm : Ws[m] = W at *
  obtain ⟨Γ', g1, c7', g2⟩ := forD_inv (g := gNm 7) (b := B__law_view_6) (ds := (List.range h).map fun (i : Nat) => PyData.int (i : Int)) (Γ := [c0, some (false, .int (hand : Int)), some (true, .int (h : Int)), some (true, .list (knF h (Lk h Ws Ws.length))), some (true, .int (m : Int)), some (true, .tuple W), none, c7, none, c9, c10, c11, some (true, .list ((List.range h).map (pf (rowH h W (hs h (Ws.drop (m + 1)).reverse [hand])) 0)))])
    (fun i Γ => ∃ c7 : Slot, Γ = [c0, some (false, .int (hand : Int)), some (true, .int (h : Int)), some (true, .list (knF h (Lk h Ws Ws.length))), some (true, .int (m : Int)), some (true, .tuple W), none, c7, none, c9, c10, c11, some (true, .list ((List.range h).map (pf (rowH h W (hs h (Ws.drop (m + 1)).reverse [hand])) i)))]) ⟨_, rfl⟩ (by
    rintro i d Γ hd' ⟨c7, rfl⟩
    obtain ⟨rfl, hi⟩ := range_get hd'
    refine ⟨_, [c0, some (false, .int (hand : Int)), some (true, .int (h : Int)), some (true, .list (knF h (Lk h Ws Ws.length))), some (true, .int (m : Int)), some (true, .tuple W), none, some (true, .int (i : Int)), none, c9, c10, c11, some (true, .list ((List.range h).map (pf (rowH h W (hs h (Ws.drop (m + 1)).reverse [hand])) (i + 1))))], rfl, .inl ?_, _, rfl⟩
    have gi : gInA (.tuple [.int (i : Int), .int ((m + 1 : Nat) : Int)]) (.dict (enc (Lk h Ws Ws.length hand))) = some (.bool (decide ((i, m + 1) ∈ Lk h Ws Ws.length hand))) := gInA_enc _ (i, m + 1)
    have n2 : nols [PyData.int (i : Int), .int ((m + 1 : Nat) : Int)] = true := rfl
    have hmm : (i, m + 1) ∈ Lk h Ws Ws.length hand ↔ i ∈ hs h (Ws.drop (m + 1)).reverse [hand] := by rw [Lk_hand hh hd]; exact ⟨fun z => z.2, fun z => ⟨by omega, z⟩⟩
    have nl : nols ((List.range h).map (pf (rowH h W (hs h (Ws.drop (m + 1)).reverse [hand])) i)) = true := nols_map _ (pf_nol (nol_row h W _) i) _
    have hix : Y.ixN h (i : Int) = some i := ixN_nat hi
    have sn := senders_ok h i W hh lW
    have nS : nols ((sndD h W i).map nat) = true := nols_map _ (fun _ => rfl) _
    by_cases hb : i ∈ hs h (Ws.drop (m + 1)).reverse [hand]
    · have hb' := hmm.mpr hb
      have hg : rowH h W (hs h (Ws.drop (m + 1)).reverse [hand]) i = .tuple ((sndD h W i).map nat) := if_pos hb
      rw [← fill_put _ hi, hg]
      simp -implicitDefEqProofs (disch := omega) only [B__law_view_6, runF, startD, sSeq, sIf, sRet, sRetN, sNil, sCnt, sBrk, sSet, sExp, sAsg, sMov, sFor, sApp, sExt, sClr, sPut, eOp, eUn, eV, eC, eIx, eIf, eChain, eAnd, eOr, eNotV, eArgs, eTup, eLst, eCB, eCall, eIsi, isTy, eIdx, eRep, tE, tAndF, tOrF, tNotF, tYesF, isFr, kdDisp, stor, frzK, gNm, itE, itR1, itemsOf, capD, mbind_ret, mo_some, gLt_int, gLe_int, gGt_int, gLen_list, gLen_tup, gIx_list, gIx_tup, gAdd_int, gSub_int, gMul_int, gFdiv_int, gMod_int, gPow_int, gNeg_int, gEq_int, gNe_int, gIs_non, gIsNot_non, isNon, rng1_int, nrm_int, nrm_bl, nrm_str, nrm_non, nrm_lst, nrm_dct, nol_int, nol_bl, nol_str, nol_non, nol_lst, nol_tup, List.map_cons, List.map_nil, List.cons_append, List.nil_append, List.getElem?_cons_zero, List.getElem?_cons_succ, List.length_cons, List.length_nil, List.length_map, List.length_range, List.set_cons_zero, List.set_cons_succ, List.replicate_succ, List.replicate_zero, if_true, if_false, Bool.false_eq_true, Bool.not_true, Bool.not_false, decide_true, decide_false, ite_true, ite_false, Option.map_some, Option.join_some, beq_self_eq_true, eq_self, String.reduceBEq, Bool.or_false, Bool.false_or, Bool.or_true, Bool.true_or, reduceCtorEq, reduceIte, e1, ek, gi, hb', nrm_tup n2, nrm_tup nW, sn, nrm_tup nS, nS, hix, nl, Bool.and_self]
    · have hb' : ¬ (i, m + 1) ∈ Lk h Ws Ws.length hand := fun z => hb (hmm.mp z)
      rw [← fill_skip _ (if_neg hb)]
      simp -implicitDefEqProofs (disch := omega) only [B__law_view_6, runF, startD, sSeq, sIf, sRet, sRetN, sNil, sCnt, sBrk, sSet, sExp, sAsg, sMov, sFor, sApp, sExt, sClr, sPut, eOp, eUn, eV, eC, eIx, eIf, eChain, eAnd, eOr, eNotV, eArgs, eTup, eLst, eCB, eCall, eIsi, isTy, eIdx, eRep, tE, tAndF, tOrF, tNotF, tYesF, isFr, kdDisp, stor, frzK, gNm, itE, itR1, itemsOf, capD, mbind_ret, mo_some, gLt_int, gLe_int, gGt_int, gLen_list, gLen_tup, gIx_list, gIx_tup, gAdd_int, gSub_int, gMul_int, gFdiv_int, gMod_int, gPow_int, gNeg_int, gEq_int, gNe_int, gIs_non, gIsNot_non, isNon, rng1_int, nrm_int, nrm_bl, nrm_str, nrm_non, nrm_lst, nrm_dct, nol_int, nol_bl, nol_str, nol_non, nol_lst, nol_tup, List.map_cons, List.map_nil, List.cons_append, List.nil_append, List.getElem?_cons_zero, List.getElem?_cons_succ, List.length_cons, List.length_nil, List.length_map, List.length_range, List.set_cons_zero, List.set_cons_succ, List.replicate_succ, List.replicate_zero, if_true, if_false, Bool.false_eq_true, Bool.not_true, Bool.not_false, decide_true, decide_false, ite_true, ite_false, Option.map_some, Option.join_some, beq_self_eq_true, eq_self, String.reduceBEq, Bool.or_false, Bool.false_or, Bool.or_true, Bool.true_or, reduceCtorEq, reduceIte, e1, ek, gi, hb', nrm_tup n2])
  rw [List.length_map, List.length_range, fill_all] at g2
  exact ⟨c7', by rw [g1, g2]⟩
theorem came_loop {h b : Nat} {vs : List Int} {Ws : List (List PyData)} (w : Wok h b vs Ws) (hh : h ≤ 4) {hand : Nat} (hd : hand < h) (c0 c4 c5 c7 c9 c10 : Slot) :
    ∃ c4' c5' c7' c12' : Slot, forD (gTp [4, 5]) B__law_view_7 (enumI 0 (Ws.map PyData.tuple)) [c0, some (false, .int (hand : Int)), some (true, .int (h : Int)), some (true, .list (knF h (Lk h Ws Ws.length))), c4, c5, none, c7, none, c9, c10, some (true, .list []), none] =
      mret (.nx [c0, some (false, .int (hand : Int)), some (true, .int (h : Int)), some (true, .list (knF h (Lk h Ws Ws.length))), c4', c5', none, c7', none, c9, c10, some (true, .list (rows h Ws.reverse [hand]).reverse), c12']) := by
  have hr := w.hr
  obtain ⟨Γ', g1, c4', c5', c7', c12', g2⟩ := forD_inv (g := gTp [4, 5]) (b := B__law_view_7) (ds := enumI 0 (Ws.map PyData.tuple)) (Γ := [c0, some (false, .int (hand : Int)), some (true, .int (h : Int)), some (true, .list (knF h (Lk h Ws Ws.length))), c4, c5, none, c7, none, c9, c10, some (true, .list []), none])
    (fun i Γ => ∃ c4 c5 c7 c12 : Slot, Γ = [c0, some (false, .int (hand : Int)), some (true, .int (h : Int)), some (true, .list (knF h (Lk h Ws Ws.length))), c4, c5, none, c7, none, c9, c10, some (true, .list ((rows h Ws.reverse [hand]).reverse.take i)), c12]) ⟨_, _, _, _, rfl⟩ (by
    rintro i d Γ hd' ⟨c4, c5, c7, c12, rfl⟩
    obtain ⟨hi, rfl⟩ := enum_get hd'
    have nW := w.n _ (List.getElem_mem hi)
    obtain ⟨c7', e⟩ := row_loop w hh hd hi c0 c7 c9 c10 (some (true, .list ((rows h Ws.reverse [hand]).reverse.take i)))
    have er := rows_rev (h := h) (hand := hand) hi
    have et : (rows h Ws.reverse [hand]).reverse.take (i + 1) = (rows h Ws.reverse [hand]).reverse.take i ++ [.tuple ((List.range h).map (rowH h Ws[i] (hs h (Ws.drop (i + 1)).reverse [hand])))] := by rw [List.take_add_one, er]; rfl
    refine ⟨_, [c0, some (false, .int (hand : Int)), some (true, .int (h : Int)), some (true, .list (knF h (Lk h Ws Ws.length))), some (true, .int (i : Int)), some (true, .tuple Ws[i]), none, c7', none, c9, c10, some (true, .list ((rows h Ws.reverse [hand]).reverse.take (i + 1))), some (true, .list ((List.range h).map (rowH h Ws[i] (hs h (Ws.drop (i + 1)).reverse [hand]))))], tp_ok _ _ _ _ _ _ _ _ _ _ _ _ _ i Ws[i] nW, .inl ?_, _, _, _, _, rfl⟩
    rw [et]
    have hsz : ((rows h Ws.reverse [hand]).reverse.take i).length < sizeLine := Nat.lt_of_le_of_lt (show _ ≤ 5 by rw [List.length_take]; omega) (by decide)
    generalize Ws[i] = W at *
    have rp := repL_none h hh (rowH h W (hs h (Ws.drop (i + 1)).reverse [hand]))
    have nR : nols ((List.range h).map (rowH h W (hs h (Ws.drop (i + 1)).reverse [hand]))) = true := nols_map _ (nol_row h W _) _
    simp -implicitDefEqProofs (disch := omega) only [B__law_view_7, runF, startD, sSeq, sIf, sRet, sRetN, sNil, sCnt, sBrk, sSet, sExp, sAsg, sMov, sFor, sApp, sExt, sClr, sPut, eOp, eUn, eV, eC, eIx, eIf, eChain, eAnd, eOr, eNotV, eArgs, eTup, eLst, eCB, eCall, eIsi, isTy, eIdx, eRep, tE, tAndF, tOrF, tNotF, tYesF, isFr, kdDisp, stor, frzK, gNm, itE, itR1, itemsOf, capD, mbind_ret, mo_some, gLt_int, gLe_int, gGt_int, gLen_list, gLen_tup, gIx_list, gIx_tup, gAdd_int, gSub_int, gMul_int, gFdiv_int, gMod_int, gPow_int, gNeg_int, gEq_int, gNe_int, gIs_non, gIsNot_non, isNon, rng1_int, nrm_int, nrm_bl, nrm_str, nrm_non, nrm_lst, nrm_dct, nol_int, nol_bl, nol_str, nol_non, nol_lst, nol_tup, List.map_cons, List.map_nil, List.cons_append, List.nil_append, List.getElem?_cons_zero, List.getElem?_cons_succ, List.length_cons, List.length_nil, List.length_map, List.length_range, List.set_cons_zero, List.set_cons_succ, List.replicate_succ, List.replicate_zero, if_true, if_false, Bool.false_eq_true, Bool.not_true, Bool.not_false, decide_true, decide_false, ite_true, ite_false, Option.map_some, Option.join_some, beq_self_eq_true, eq_self, String.reduceBEq, Bool.or_false, Bool.false_or, Bool.or_true, Bool.true_or, reduceCtorEq, reduceIte, repD, isNew, rp, Int.toNat_natCast, e, gTuple_list nR, nrm_tup nR, hsz])
  rw [L2.enumI_len, List.length_map, List.take_of_length_le (by rw [List.length_reverse, rows_len, List.length_reverse]; exact Nat.le_refl _)] at g2
  exact ⟨c4', c5', c7', c12', by rw [g1, g2]⟩
theorem lawview_ok {h b : Nat} {vs : List Int} {Ws : List (List PyData)} (w : Wok h b vs Ws) (hh : h ≤ 4) {hand : Nat} (hd : hand < h) : F__law_view [runD vs Ws, .int (hand : Int)] = mret (true, viewD vs Ws hand) := by
  have hv := w.hv
  have hr := w.hr
  have nr := nol_runD w
  have nw := nols_ws w
  have hml : (vs.map PyData.int).length = h := by rw [List.length_map]; exact hv
  have hc := compD_map (fe := E__law_view_1) (cap := []) ((List.range h).map fun (i : Nat) => PyData.int (i : Int))
    (fun d => match d with | .int k => (.fr [], .dict (enc [(k.toNat, 0)])) | _ => (.fr [], .none)) (fun d hd => by
      obtain ⟨k, hk, rfl⟩ := List.mem_map.mp hd
      rw [first_ok]; simp only [Int.toNat_natCast])
  have e1 : (((List.range h).map fun (i : Nat) => PyData.int (i : Int)).map fun d => match d with | .int k => (Kd.fr [], PyData.dict (enc [(k.toNat, 0)])) | _ => (Kd.fr [], PyData.none)) = (List.range h).map fun k => (Kd.fr [], PyData.dict (enc (Lk h Ws 0 k))) := by
    rw [List.map_map]; refine List.map_congr_left fun k _ => ?_; simp only [Function.comp, Int.toNat_natCast, Lk]
  rw [e1] at hc
  have k1 := kdEl_fr (List.range h) fun k => PyData.dict (enc (Lk h Ws 0 k))
  have e2 : ((List.range h).map fun k => (Kd.fr [], PyData.dict (enc (Lk h Ws 0 k)))).map Prod.snd = knF h (Lk h Ws 0) := by rw [List.map_map]; rfl
  have hle : h ≤ 100000 := by omega
  obtain ⟨c4, c5, c7, c9, l1⟩ := known_ok w hh (some (false, runD vs Ws)) (some (false, .int (hand : Int)))
  have rp := repL_none h hh (seenV vs (hs h Ws.reverse [hand]))
  obtain ⟨c7', l2⟩ := seen_loop w hh hd c4 c5 c7 c9
  obtain ⟨d4, d5, d7, d12, l3⟩ := came_loop w hh hd (some (false, runD vs Ws)) c4 c5 c7' c9 (some (true, .list ((List.range h).map (seenV vs (hs h Ws.reverse [hand])))))
  have n1 : nols ((List.range h).map (seenV vs (hs h Ws.reverse [hand]))) = true := nols_map _ (nol_seen _ _) _
  have n2 : nols (rows h Ws.reverse [hand]).reverse = true := nols_iff.mpr fun x hx => nols_iff.mp (rows_nol (h := h) (R := Ws.reverse) (H := [hand])) x (List.mem_reverse.mp hx)
  have n4 : nols [PyData.int (hand : Int), .tuple ((List.range h).map (seenV vs (hs h Ws.reverse [hand]))), .tuple (rows h Ws.reverse [hand]).reverse] = true := by simp only [nols, nol_int, nol_tup, n1, n2, Bool.and_self]
  simp -implicitDefEqProofs (disch := omega) only [F__law_view, S__law_view, eComp, itEnum, enuI, repD, isNew, runF, startD, sSeq, sIf, sRet, sRetN, sNil, sCnt, sBrk, sSet, sExp, sAsg, sMov, sFor, sApp, sExt, sClr, sPut, eOp, eUn, eV, eC, eIx, eIf, eChain, eAnd, eOr, eNotV, eArgs, eTup, eLst, eCB, eCall, eIsi, isTy, eIdx, eRep, tE, tAndF, tOrF, tNotF, tYesF, isFr, kdDisp, stor, frzK, gNm, itE, itR1, itemsOf, capD, mbind_ret, mo_some, gLt_int, gLe_int, gGt_int, gLen_list, gLen_tup, gIx_list, gIx_tup, gAdd_int, gSub_int, gMul_int, gFdiv_int, gMod_int, gPow_int, gNeg_int, gEq_int, gNe_int, gIs_non, gIsNot_non, isNon, rng1_int, nrm_int, nrm_bl, nrm_str, nrm_non, nrm_lst, nrm_dct, nol_int, nol_bl, nol_str, nol_non, nol_lst, nol_tup, List.map_cons, List.map_nil, List.cons_append, List.nil_append, List.getElem?_cons_zero, List.getElem?_cons_succ, List.length_cons, List.length_nil, List.length_map, List.length_range, List.set_cons_zero, List.set_cons_succ, List.replicate_succ, List.replicate_zero, if_true, if_false, Bool.false_eq_true, Bool.not_true, Bool.not_false, decide_true, decide_false, ite_true, ite_false, Option.map_some, Option.join_some, beq_self_eq_true, eq_self, String.reduceBEq, Bool.or_false, Bool.false_or, Bool.or_true, Bool.true_or, reduceCtorEq, reduceIte, ix0, ix1, nrm_t nr, nrm_tup nw, nrm_tup (nols_ints vs), hv, hml, Int.toNat_natCast, hc, k1, e2, hle, l1, rp, l2, l3, gTuple_list n1, gTuple_list n2, nrm_tup n1, nrm_tup n2, nrm_tup n4, viewD]
/-! ### kinds -/
theorem whole_int (i : Int) : F__law_whole [.int i] = mret (true, .bool true) := by
  simp -implicitDefEqProofs (disch := omega) only [F__law_whole, S__law_whole, runF, startD, sSeq, sIf, sRet, sRetN, sNil, sCnt, sBrk, sSet, sExp, sAsg, sMov, sFor, sApp, sExt, sClr, sPut, eOp, eUn, eV, eC, eIx, eIf, eChain, eAnd, eOr, eNotV, eArgs, eTup, eLst, eCB, eCall, eIsi, isTy, eIdx, eRep, tE, tAndF, tOrF, tNotF, tYesF, isFr, kdDisp, stor, frzK, gNm, itE, itR1, itemsOf, capD, mbind_ret, mo_some, gLt_int, gLe_int, gGt_int, gLen_list, gLen_tup, gIx_list, gIx_tup, gAdd_int, gSub_int, gMul_int, gFdiv_int, gMod_int, gPow_int, gNeg_int, gEq_int, gNe_int, gIs_non, gIsNot_non, isNon, rng1_int, nrm_int, nrm_bl, nrm_str, nrm_non, nrm_lst, nrm_dct, nol_int, nol_bl, nol_str, nol_non, nol_lst, nol_tup, List.map_cons, List.map_nil, List.cons_append, List.nil_append, List.getElem?_cons_zero, List.getElem?_cons_succ, List.length_cons, List.length_nil, List.length_map, List.length_range, List.set_cons_zero, List.set_cons_succ, List.replicate_succ, List.replicate_zero, if_true, if_false, Bool.false_eq_true, Bool.not_true, Bool.not_false, decide_true, decide_false, ite_true, ite_false, Option.map_some, Option.join_some, beq_self_eq_true, eq_self, String.reduceBEq, Bool.or_false, Bool.false_or, Bool.or_true, Bool.true_or, reduceCtorEq, reduceIte]
theorem vals_loop (c0 c1 c2 c3 c4 c5 : Slot) (l : List PyData) (hl : ∀ x ∈ l, x = .none ∨ ∃ i, x = .int i) : ∃ c3' : Slot, forD (gNm 3) B__law_kinds_1 l [c0, c1, c2, c3, c4, c5] = mret (.nx [c0, c1, c2, c3', c4, c5]) := by
  obtain ⟨Γ', g1, c3', g2⟩ := forD_inv (g := gNm 3) (b := B__law_kinds_1) (ds := l) (Γ := [c0, c1, c2, c3, c4, c5]) (fun i Γ => ∃ c3 : Slot, Γ = [c0, c1, c2, c3, c4, c5]) ⟨_, rfl⟩ (by
    rintro i d Γ hd ⟨c3, rfl⟩
    rcases hl d (List.mem_of_getElem? hd) with rfl | ⟨z, rfl⟩
    · refine ⟨_, [c0, c1, c2, some (true, .none), c4, c5], rfl, .inl ?_, _, rfl⟩
      simp -implicitDefEqProofs (disch := omega) only [B__law_kinds_1, runF, startD, sSeq, sIf, sRet, sRetN, sNil, sCnt, sBrk, sSet, sExp, sAsg, sMov, sFor, sApp, sExt, sClr, sPut, eOp, eUn, eV, eC, eIx, eIf, eChain, eAnd, eOr, eNotV, eArgs, eTup, eLst, eCB, eCall, eIsi, isTy, eIdx, eRep, tE, tAndF, tOrF, tNotF, tYesF, isFr, kdDisp, stor, frzK, gNm, itE, itR1, itemsOf, capD, mbind_ret, mo_some, gLt_int, gLe_int, gGt_int, gLen_list, gLen_tup, gIx_list, gIx_tup, gAdd_int, gSub_int, gMul_int, gFdiv_int, gMod_int, gPow_int, gNeg_int, gEq_int, gNe_int, gIs_non, gIsNot_non, isNon, rng1_int, nrm_int, nrm_bl, nrm_str, nrm_non, nrm_lst, nrm_dct, nol_int, nol_bl, nol_str, nol_non, nol_lst, nol_tup, List.map_cons, List.map_nil, List.cons_append, List.nil_append, List.getElem?_cons_zero, List.getElem?_cons_succ, List.length_cons, List.length_nil, List.length_map, List.length_range, List.set_cons_zero, List.set_cons_succ, List.replicate_succ, List.replicate_zero, if_true, if_false, Bool.false_eq_true, Bool.not_true, Bool.not_false, decide_true, decide_false, ite_true, ite_false, Option.map_some, Option.join_some, beq_self_eq_true, eq_self, String.reduceBEq, Bool.or_false, Bool.false_or, Bool.or_true, Bool.true_or, reduceCtorEq, reduceIte]
    · refine ⟨_, [c0, c1, c2, some (true, .int z), c4, c5], rfl, .inl ?_, _, rfl⟩
      simp -implicitDefEqProofs (disch := omega) only [B__law_kinds_1, runF, startD, sSeq, sIf, sRet, sRetN, sNil, sCnt, sBrk, sSet, sExp, sAsg, sMov, sFor, sApp, sExt, sClr, sPut, eOp, eUn, eV, eC, eIx, eIf, eChain, eAnd, eOr, eNotV, eArgs, eTup, eLst, eCB, eCall, eIsi, isTy, eIdx, eRep, tE, tAndF, tOrF, tNotF, tYesF, isFr, kdDisp, stor, frzK, gNm, itE, itR1, itemsOf, capD, mbind_ret, mo_some, gLt_int, gLe_int, gGt_int, gLen_list, gLen_tup, gIx_list, gIx_tup, gAdd_int, gSub_int, gMul_int, gFdiv_int, gMod_int, gPow_int, gNeg_int, gEq_int, gNe_int, gIs_non, gIsNot_non, isNon, rng1_int, nrm_int, nrm_bl, nrm_str, nrm_non, nrm_lst, nrm_dct, nol_int, nol_bl, nol_str, nol_non, nol_lst, nol_tup, List.map_cons, List.map_nil, List.cons_append, List.nil_append, List.getElem?_cons_zero, List.getElem?_cons_succ, List.length_cons, List.length_nil, List.length_map, List.length_range, List.set_cons_zero, List.set_cons_succ, List.replicate_succ, List.replicate_zero, if_true, if_false, Bool.false_eq_true, Bool.not_true, Bool.not_false, decide_true, decide_false, ite_true, ite_false, Option.map_some, Option.join_some, beq_self_eq_true, eq_self, String.reduceBEq, Bool.or_false, Bool.false_or, Bool.or_true, Bool.true_or, reduceCtorEq, reduceIte, whole_int])
  exact ⟨c3', by rw [g1, g2]⟩
theorem some_loop (c0 c1 c2 c3 c4 c5 : Slot) (l : List PyData) (hl : ∀ x ∈ l, x = .none ∨ ∃ ds, x = .tuple ds ∧ nols ds = true) : ∃ c5' : Slot, forD (gNm 5) B__law_kinds_2 l [c0, c1, c2, c3, c4, c5] = mret (.nx [c0, c1, c2, c3, c4, c5']) := by
  obtain ⟨Γ', g1, c5', g2⟩ := forD_inv (g := gNm 5) (b := B__law_kinds_2) (ds := l) (Γ := [c0, c1, c2, c3, c4, c5]) (fun i Γ => ∃ c5 : Slot, Γ = [c0, c1, c2, c3, c4, c5]) ⟨_, rfl⟩ (by
    rintro i d Γ hd ⟨c5, rfl⟩
    rcases hl d (List.mem_of_getElem? hd) with rfl | ⟨ds, rfl, hn⟩
    · refine ⟨_, [c0, c1, c2, c3, c4, some (true, .none)], rfl, .inl ?_, _, rfl⟩
      simp -implicitDefEqProofs (disch := omega) only [B__law_kinds_2, runF, startD, sSeq, sIf, sRet, sRetN, sNil, sCnt, sBrk, sSet, sExp, sAsg, sMov, sFor, sApp, sExt, sClr, sPut, eOp, eUn, eV, eC, eIx, eIf, eChain, eAnd, eOr, eNotV, eArgs, eTup, eLst, eCB, eCall, eIsi, isTy, eIdx, eRep, tE, tAndF, tOrF, tNotF, tYesF, isFr, kdDisp, stor, frzK, gNm, itE, itR1, itemsOf, capD, mbind_ret, mo_some, gLt_int, gLe_int, gGt_int, gLen_list, gLen_tup, gIx_list, gIx_tup, gAdd_int, gSub_int, gMul_int, gFdiv_int, gMod_int, gPow_int, gNeg_int, gEq_int, gNe_int, gIs_non, gIsNot_non, isNon, rng1_int, nrm_int, nrm_bl, nrm_str, nrm_non, nrm_lst, nrm_dct, nol_int, nol_bl, nol_str, nol_non, nol_lst, nol_tup, List.map_cons, List.map_nil, List.cons_append, List.nil_append, List.getElem?_cons_zero, List.getElem?_cons_succ, List.length_cons, List.length_nil, List.length_map, List.length_range, List.set_cons_zero, List.set_cons_succ, List.replicate_succ, List.replicate_zero, if_true, if_false, Bool.false_eq_true, Bool.not_true, Bool.not_false, decide_true, decide_false, ite_true, ite_false, Option.map_some, Option.join_some, beq_self_eq_true, eq_self, String.reduceBEq, Bool.or_false, Bool.false_or, Bool.or_true, Bool.true_or, reduceCtorEq, reduceIte]
    · refine ⟨_, [c0, c1, c2, c3, c4, some (true, .tuple ds)], by rw [nrm_tup hn]; rfl, .inl ?_, _, rfl⟩
      simp -implicitDefEqProofs (disch := omega) only [B__law_kinds_2, runF, startD, sSeq, sIf, sRet, sRetN, sNil, sCnt, sBrk, sSet, sExp, sAsg, sMov, sFor, sApp, sExt, sClr, sPut, eOp, eUn, eV, eC, eIx, eIf, eChain, eAnd, eOr, eNotV, eArgs, eTup, eLst, eCB, eCall, eIsi, isTy, eIdx, eRep, tE, tAndF, tOrF, tNotF, tYesF, isFr, kdDisp, stor, frzK, gNm, itE, itR1, itemsOf, capD, mbind_ret, mo_some, gLt_int, gLe_int, gGt_int, gLen_list, gLen_tup, gIx_list, gIx_tup, gAdd_int, gSub_int, gMul_int, gFdiv_int, gMod_int, gPow_int, gNeg_int, gEq_int, gNe_int, gIs_non, gIsNot_non, isNon, rng1_int, nrm_int, nrm_bl, nrm_str, nrm_non, nrm_lst, nrm_dct, nol_int, nol_bl, nol_str, nol_non, nol_lst, nol_tup, List.map_cons, List.map_nil, List.cons_append, List.nil_append, List.getElem?_cons_zero, List.getElem?_cons_succ, List.length_cons, List.length_nil, List.length_map, List.length_range, List.set_cons_zero, List.set_cons_succ, List.replicate_succ, List.replicate_zero, if_true, if_false, Bool.false_eq_true, Bool.not_true, Bool.not_false, decide_true, decide_false, ite_true, ite_false, Option.map_some, Option.join_some, beq_self_eq_true, eq_self, String.reduceBEq, Bool.or_false, Bool.false_or, Bool.or_true, Bool.true_or, reduceCtorEq, reduceIte, nrm_tup hn])
  exact ⟨c5', by rw [g1, g2]⟩
theorem kinds_ok (vs : List Int) (Ws : List (List PyData)) (hand h : Nat) (hv : vs.length = h) : F__law_kinds [viewD vs Ws hand, .int (h : Int), .int (Ws.length : Int)] = mret (true, .bool true) := by
  obtain ⟨A, hA⟩ : ∃ A, A = (List.range vs.length).map (seenV vs (hs vs.length Ws.reverse [hand])) := ⟨_, rfl⟩
  obtain ⟨R, hR⟩ : ∃ R, R = (rows vs.length Ws.reverse [hand]).reverse := ⟨_, rfl⟩
  have hAl : ∀ x ∈ A, x = .none ∨ ∃ i, x = .int i := fun x hx => by
    rw [hA] at hx
    obtain ⟨k, _, rfl⟩ := List.mem_map.mp hx
    unfold seenV; split
    · exact .inr ⟨_, rfl⟩
    · exact .inl rfl
  have hRl : R.length = Ws.length := by rw [hR, List.length_reverse, rows_len, List.length_reverse]
  have hRx : ∀ x ∈ R, ∃ ds, x = .tuple ds ∧ ds.length = h ∧ nols ds = true ∧ ∀ y ∈ ds, y = .none ∨ ∃ es, y = .tuple es ∧ nols es = true := fun x hx => by
    rw [hR] at hx
    obtain ⟨m, hm⟩ := List.mem_iff_getElem?.mp (List.mem_reverse.mp hx)
    have hlt : m < Ws.reverse.length := by have := (List.getElem?_eq_some_iff.mp hm).1; rw [rows_len] at this; exact this
    rw [rows_get _ _ _ hlt] at hm
    have := Option.some.inj hm
    refine ⟨_, this.symm, by rw [List.length_map, List.length_range, hv], nols_map _ (nol_row _ _ _) _, fun y hy => ?_⟩
    obtain ⟨k, _, rfl⟩ := List.mem_map.mp hy
    unfold rowH; split
    · exact .inr ⟨_, rfl, nols_map _ (fun _ => rfl) _⟩
    · exact .inl rfl
  have nA : nols A = true := by rw [hA]; exact nols_map _ (nol_seen _ _) _
  have nR : nols R = true := nols_iff.mpr fun x hx => by obtain ⟨ds, rfl, _, hn, _⟩ := hRx x hx; exact hn
  have n4 : nols [PyData.int (hand : Int), .tuple A, .tuple R] = true := by simp only [nols, nol_int, nol_tup, nA, nR, Bool.and_self]
  have a0 : atD [PyData.int (hand : Int), .tuple A, .tuple R] 0 = some (.int (hand : Int)) := rfl
  have a1 : atD [PyData.int (hand : Int), .tuple A, .tuple R] 1 = some (.tuple A) := rfl
  have a2 : atD [PyData.int (hand : Int), .tuple A, .tuple R] 2 = some (.tuple R) := rfl
  have ev : viewD vs Ws hand = .tuple [.int (hand : Int), .tuple A, .tuple R] := by rw [hA, hR]; rfl
  rw [ev]
  obtain ⟨c3, l1⟩ := vals_loop (some (false, .tuple [.int (hand : Int), .tuple A, .tuple R])) (some (false, .int (h : Int))) (some (false, .int (Ws.length : Int))) none none none A hAl
  obtain ⟨Γ', l2, c4, c5, l3⟩ := forD_inv (g := gNm 4) (b := B__law_kinds_3) (ds := R) (Γ := [some (false, .tuple [.int (hand : Int), .tuple A, .tuple R]), some (false, .int (h : Int)), some (false, .int (Ws.length : Int)), c3, none, none])
    (fun i Γ => ∃ c4 c5 : Slot, Γ = [some (false, .tuple [.int (hand : Int), .tuple A, .tuple R]), some (false, .int (h : Int)), some (false, .int (Ws.length : Int)), c3, c4, c5]) ⟨_, _, rfl⟩ (by
    rintro i d Γ hd ⟨c4, c5, rfl⟩
    obtain ⟨ds, rfl, hl, hn, hy⟩ := hRx d (List.mem_of_getElem? hd)
    obtain ⟨c5', e⟩ := some_loop (some (false, .tuple [.int (hand : Int), .tuple A, .tuple R])) (some (false, .int (h : Int))) (some (false, .int (Ws.length : Int))) c3 (some (true, .tuple ds)) c5 ds hy
    refine ⟨_, [some (false, .tuple [.int (hand : Int), .tuple A, .tuple R]), some (false, .int (h : Int)), some (false, .int (Ws.length : Int)), c3, some (true, .tuple ds), c5'], by rw [nrm_tup hn]; rfl, .inl ?_, _, _, rfl⟩
    simp -implicitDefEqProofs (disch := omega) only [B__law_kinds_3, runF, startD, sSeq, sIf, sRet, sRetN, sNil, sCnt, sBrk, sSet, sExp, sAsg, sMov, sFor, sApp, sExt, sClr, sPut, eOp, eUn, eV, eC, eIx, eIf, eChain, eAnd, eOr, eNotV, eArgs, eTup, eLst, eCB, eCall, eIsi, isTy, eIdx, eRep, tE, tAndF, tOrF, tNotF, tYesF, isFr, kdDisp, stor, frzK, gNm, itE, itR1, itemsOf, capD, mbind_ret, mo_some, gLt_int, gLe_int, gGt_int, gLen_list, gLen_tup, gIx_list, gIx_tup, gAdd_int, gSub_int, gMul_int, gFdiv_int, gMod_int, gPow_int, gNeg_int, gEq_int, gNe_int, gIs_non, gIsNot_non, isNon, rng1_int, nrm_int, nrm_bl, nrm_str, nrm_non, nrm_lst, nrm_dct, nol_int, nol_bl, nol_str, nol_non, nol_lst, nol_tup, List.map_cons, List.map_nil, List.cons_append, List.nil_append, List.getElem?_cons_zero, List.getElem?_cons_succ, List.length_cons, List.length_nil, List.length_map, List.length_range, List.set_cons_zero, List.set_cons_succ, List.replicate_succ, List.replicate_zero, if_true, if_false, Bool.false_eq_true, Bool.not_true, Bool.not_false, decide_true, decide_false, ite_true, ite_false, Option.map_some, Option.join_some, beq_self_eq_true, eq_self, String.reduceBEq, Bool.or_false, Bool.false_or, Bool.or_true, Bool.true_or, reduceCtorEq, reduceIte, nrm_tup hn, hl, e])
  have e3 : ((3 : Int) == 3) = true := rfl
  simp -implicitDefEqProofs (disch := omega) only [F__law_kinds, S__law_kinds, runF, startD, sSeq, sIf, sRet, sRetN, sNil, sCnt, sBrk, sSet, sExp, sAsg, sMov, sFor, sApp, sExt, sClr, sPut, eOp, eUn, eV, eC, eIx, eIf, eChain, eAnd, eOr, eNotV, eArgs, eTup, eLst, eCB, eCall, eIsi, isTy, eIdx, eRep, tE, tAndF, tOrF, tNotF, tYesF, isFr, kdDisp, stor, frzK, gNm, itE, itR1, itemsOf, capD, mbind_ret, mo_some, gLt_int, gLe_int, gGt_int, gLen_list, gLen_tup, gIx_list, gIx_tup, gAdd_int, gSub_int, gMul_int, gFdiv_int, gMod_int, gPow_int, gNeg_int, gEq_int, gNe_int, gIs_non, gIsNot_non, isNon, rng1_int, nrm_int, nrm_bl, nrm_str, nrm_non, nrm_lst, nrm_dct, nol_int, nol_bl, nol_str, nol_non, nol_lst, nol_tup, List.map_cons, List.map_nil, List.cons_append, List.nil_append, List.getElem?_cons_zero, List.getElem?_cons_succ, List.length_cons, List.length_nil, List.length_map, List.length_range, List.set_cons_zero, List.set_cons_succ, List.replicate_succ, List.replicate_zero, if_true, if_false, Bool.false_eq_true, Bool.not_true, Bool.not_false, decide_true, decide_false, ite_true, ite_false, Option.map_some, Option.join_some, beq_self_eq_true, eq_self, String.reduceBEq, Bool.or_false, Bool.false_or, Bool.or_true, Bool.true_or, reduceCtorEq, reduceIte, nrm_tup n4, a0, a1, a2, nrm_tup nA, nrm_tup nR, e3, Nat.reduceAdd, Int.cast_ofNat_Int, whole_int, hRl, l1, l2, l3]
/-! ### the law -/
theorem hands_loop {h b : Nat} {vs : List Int} {Ws : List (List PyData)} (w : Wok h b vs Ws) (hh : h ≤ 4) (c0 c2 c5 c6 : Slot) :
    ∃ c5' c6' : Slot, forD (gNm 5) B_law_1 ((List.range h).map fun (i : Nat) => PyData.int (i : Int)) [c0, some (true, .int (h : Int)), c2, some (true, .int (Ws.length : Int)), some (true, runD vs Ws), c5, c6] = mret (.nx [c0, some (true, .int (h : Int)), c2, some (true, .int (Ws.length : Int)), some (true, runD vs Ws), c5', c6']) := by
  obtain ⟨Γ', g1, c5', c6', g2⟩ := forD_inv (g := gNm 5) (b := B_law_1) (ds := (List.range h).map fun (i : Nat) => PyData.int (i : Int)) (Γ := [c0, some (true, .int (h : Int)), c2, some (true, .int (Ws.length : Int)), some (true, runD vs Ws), c5, c6])
    (fun i Γ => ∃ c5 c6 : Slot, Γ = [c0, some (true, .int (h : Int)), c2, some (true, .int (Ws.length : Int)), some (true, runD vs Ws), c5, c6]) ⟨_, _, rfl⟩ (by
    rintro j d Γ hd ⟨c5, c6, rfl⟩
    obtain ⟨rfl, hj⟩ := range_get hd
    refine ⟨_, [c0, some (true, .int (h : Int)), c2, some (true, .int (Ws.length : Int)), some (true, runD vs Ws), some (true, .int (j : Int)), some (true, viewD vs Ws j)], rfl, .inl ?_, _, _, rfl⟩
    have e1 := w.view hh hj
    have e2 := lawview_ok w hh hj
    have e3 := kinds_ok vs Ws j h w.hv
    have e4 := gNe_d (lay_view vs Ws j) (lay_view vs Ws j)
    rw [pl_refl _ (pl_view vs Ws j)] at e4
    simp -implicitDefEqProofs (disch := omega) only [B_law_1, runF, startD, sSeq, sIf, sRet, sRetN, sNil, sCnt, sBrk, sSet, sExp, sAsg, sMov, sFor, sApp, sExt, sClr, sPut, eOp, eUn, eV, eC, eIx, eIf, eChain, eAnd, eOr, eNotV, eArgs, eTup, eLst, eCB, eCall, eIsi, isTy, eIdx, eRep, tE, tAndF, tOrF, tNotF, tYesF, isFr, kdDisp, stor, frzK, gNm, itE, itR1, itemsOf, capD, mbind_ret, mo_some, gLt_int, gLe_int, gGt_int, gLen_list, gLen_tup, gIx_list, gIx_tup, gAdd_int, gSub_int, gMul_int, gFdiv_int, gMod_int, gPow_int, gNeg_int, gEq_int, gNe_int, gIs_non, gIsNot_non, isNon, rng1_int, nrm_int, nrm_bl, nrm_str, nrm_non, nrm_lst, nrm_dct, nol_int, nol_bl, nol_str, nol_non, nol_lst, nol_tup, List.map_cons, List.map_nil, List.cons_append, List.nil_append, List.getElem?_cons_zero, List.getElem?_cons_succ, List.length_cons, List.length_nil, List.length_map, List.length_range, List.set_cons_zero, List.set_cons_succ, List.replicate_succ, List.replicate_zero, if_true, if_false, Bool.false_eq_true, Bool.not_true, Bool.not_false, decide_true, decide_false, ite_true, ite_false, Option.map_some, Option.join_some, beq_self_eq_true, eq_self, String.reduceBEq, Bool.or_false, Bool.false_or, Bool.or_true, Bool.true_or, reduceCtorEq, reduceIte, e1, e2, e3, e4, nrm_t (nol_runD w), nrm_t (nol_view vs Ws j)])
  exact ⟨c5', c6', by rw [g1, g2]⟩
theorem rounds_turn {h b : Nat} {vs : List Int} {Ws : List (List PyData)} (w : Wok h b vs Ws) (hh : h ≤ 4) (c0 c4 c5 c6 : Slot) (r : Nat) (hr : r ≤ Ws.length) :
    ∃ c4' c5' c6' : Slot, B_law_2 [c0, some (true, .int (h : Int)), some (true, runD vs Ws), some (true, .int (r : Int)), c4, c5, c6] = mret (.nx [c0, some (true, .int (h : Int)), some (true, runD vs Ws), some (true, .int (r : Int)), c4', c5', c6']) := by
  have wt := w.take r
  have tl : (Ws.take r).length = r := by rw [List.length_take]; omega
  obtain ⟨c5', c6', e⟩ := hands_loop wt hh c0 (some (true, runD vs Ws)) c5 c6
  rw [tl] at e
  have nr2 := nol_run (vs := vs) wt.n
  have nw := nols_ws w
  have nw2 := nols_ws wt
  have cc : cutD (Ws.map PyData.tuple) none (some (r : Int)) = (Ws.take r).map PyData.tuple := by rw [cutD_take (by simpa using hr), List.map_take]
  refine ⟨some (true, .tuple [.tuple (vs.map PyData.int), .tuple ((Ws.take r).map PyData.tuple)]), c5', c6', ?_⟩
  have er : runD vs (Ws.take r) = .tuple [.tuple (vs.map PyData.int), .tuple ((Ws.take r).map PyData.tuple)] := rfl
  rw [er] at e
  simp -implicitDefEqProofs (disch := omega) only [B_law_2, eSl, oE, oI, runF, startD, sSeq, sIf, sRet, sRetN, sNil, sCnt, sBrk, sSet, sExp, sAsg, sMov, sFor, sApp, sExt, sClr, sPut, eOp, eUn, eV, eC, eIx, eIf, eChain, eAnd, eOr, eNotV, eArgs, eTup, eLst, eCB, eCall, eIsi, isTy, eIdx, eRep, tE, tAndF, tOrF, tNotF, tYesF, isFr, kdDisp, stor, frzK, gNm, itE, itR1, itemsOf, capD, mbind_ret, mo_some, gLt_int, gLe_int, gGt_int, gLen_list, gLen_tup, gIx_list, gIx_tup, gAdd_int, gSub_int, gMul_int, gFdiv_int, gMod_int, gPow_int, gNeg_int, gEq_int, gNe_int, gIs_non, gIsNot_non, isNon, rng1_int, nrm_int, nrm_bl, nrm_str, nrm_non, nrm_lst, nrm_dct, nol_int, nol_bl, nol_str, nol_non, nol_lst, nol_tup, List.map_cons, List.map_nil, List.cons_append, List.nil_append, List.getElem?_cons_zero, List.getElem?_cons_succ, List.length_cons, List.length_nil, List.length_map, List.length_range, List.set_cons_zero, List.set_cons_succ, List.replicate_succ, List.replicate_zero, if_true, if_false, Bool.false_eq_true, Bool.not_true, Bool.not_false, decide_true, decide_false, ite_true, ite_false, Option.map_some, Option.join_some, beq_self_eq_true, eq_self, String.reduceBEq, Bool.or_false, Bool.false_or, Bool.or_true, Bool.true_or, reduceCtorEq, reduceIte, ix0, ix1, nrm_t (nol_runD w), nrm_tup nw, nrm_tup nw2, nrm_tup (nols_ints vs), gSl_tup nw, cc, nrm_tup nr2, Int.toNat_natCast, e]
theorem main (ns : List Int) (_ : ns.length ≤ 63) : ∃ o, F_law [.list (ns.map PyData.int)] = some (.ok (o, .bool true)) := by
  have b1 := Int.emod_nonneg (cellZ ns 0) (show (3 : Int) ≠ 0 by decide)
  have b2 := Int.emod_lt_of_pos (cellZ ns 0) (show (0 : Int) < 3 by decide)
  obtain ⟨h, hh⟩ := Int.eq_ofNat_of_zero_le (show 0 ≤ 2 + cellZ ns 0 % 3 by omega)
  have hh' : 2 + cellZ ns 0 % 3 = (h : Int) := hh
  have h2 : 2 ≤ h := by omega
  have h4 : h ≤ 4 := by omega
  obtain ⟨vs, Ws, w, e1⟩ := long_ok ns h h2 h4
  have nw := nols_ws w
  have ed : ((Ws.length : Int) / 2) = ((Ws.length / 2 : Nat) : Int) := by omega
  obtain ⟨p4, p5, p6, t1⟩ := rounds_turn w h4 (some (false, .list (ns.map PyData.int))) none none none Ws.length (Nat.le_refl _)
  obtain ⟨q4, q5, q6, t2⟩ := rounds_turn w h4 (some (false, .list (ns.map PyData.int))) p4 p5 p6 (Ws.length / 2) (Nat.div_le_self _ _)
  refine ⟨true, ?_⟩
  simp -implicitDefEqProofs (disch := omega) only [F_law, S_law, forD, runF, startD, sSeq, sIf, sRet, sRetN, sNil, sCnt, sBrk, sSet, sExp, sAsg, sMov, sFor, sApp, sExt, sClr, sPut, eOp, eUn, eV, eC, eIx, eIf, eChain, eAnd, eOr, eNotV, eArgs, eTup, eLst, eCB, eCall, eIsi, isTy, eIdx, eRep, tE, tAndF, tOrF, tNotF, tYesF, isFr, kdDisp, stor, frzK, gNm, itE, itR1, itemsOf, capD, mbind_ret, mo_some, gLt_int, gLe_int, gGt_int, gLen_list, gLen_tup, gIx_list, gIx_tup, gAdd_int, gSub_int, gMul_int, gFdiv_int, gMod_int, gPow_int, gNeg_int, gEq_int, gNe_int, gIs_non, gIsNot_non, isNon, rng1_int, nrm_int, nrm_bl, nrm_str, nrm_non, nrm_lst, nrm_dct, nol_int, nol_bl, nol_str, nol_non, nol_lst, nol_tup, List.map_cons, List.map_nil, List.cons_append, List.nil_append, List.getElem?_cons_zero, List.getElem?_cons_succ, List.length_cons, List.length_nil, List.length_map, List.length_range, List.set_cons_zero, List.set_cons_succ, List.replicate_succ, List.replicate_zero, if_true, if_false, Bool.false_eq_true, Bool.not_true, Bool.not_false, decide_true, decide_false, ite_true, ite_false, Option.map_some, Option.join_some, beq_self_eq_true, eq_self, String.reduceBEq, Bool.or_false, Bool.false_or, Bool.or_true, Bool.true_or, reduceCtorEq, reduceIte, cell_ok, hh', e1, nrm_t (nol_runD w), ix1, nrm_tup nw, ed, t1, t2]
  rfl
end K12
open PySem PySem.W PyProof.Rows
set_option maxRecDepth 100000 in
set_option maxHeartbeats 0 in
theorem PySem.Challenge.cw_losspact_k12_views_holds : PySem.Challenge.rw_losspact_k12_views.Holds := by
  w_on; o_law; k_head; (case hw => w_witness2)
  k_fill
  refine K12.walk K12.main (l := PySem.Challenge.rw_losspact_k12_views) rfl rfl (fun w h Y => PySem.W.kIn_of Y) ?F
  case F =>
    intro w mg fa h KX G hmg
    refine' K12.all_mk KX G hmg ?a_came_to ?l_came_to ?c_came_to ?k_came_to ?a_view ?l_view ?c_view ?k_view ?a_came_to_heard ?l_came_to_heard ?c_came_to_heard ?k_came_to_heard ?a_heard_earlier ?l_heard_earlier ?c_heard_earlier ?k_heard_earlier ?a__law_cell_at ?l__law_cell_at ?c__law_cell_at ?k__law_cell_at ?a__law_mix ?l__law_mix ?c__law_mix ?k__law_mix ?a__law_whole ?l__law_whole ?c__law_whole ?k__law_whole ?a__law_pairs ?l__law_pairs ?c__law_pairs ?k__law_pairs ?a__law_weather ?l__law_weather ?c__law_weather ?k__law_weather ?a__law_values ?l__law_values ?c__law_values ?k__law_values ?a__law_long_run ?l__law_long_run ?c__law_long_run ?k__law_long_run ?a__law_senders ?l__law_senders ?c__law_senders ?k__law_senders ?a__law_view ?l__law_view ?c__law_view ?k__law_view ?a__law_kinds ?l__law_kinds ?c__law_kinds ?k__law_kinds ?a_law ?l_law ?c_law ?k_law ?z_bool ?z_dict ?z_enumerate ?z_int ?z_isinstance ?z_len ?z_list ?z_range ?z_reversed ?z_set ?z_sorted ?z_tuple
    (case a_came_to => k_is)
    (case l_came_to => k_is)
    (case c_came_to => k_is)
    (case k_came_to => k_is)
    (case a_view => k_is)
    (case l_view => k_is)
    (case c_view => k_is)
    (case k_view => k_is)
    (case a_came_to_heard => k_is)
    (case l_came_to_heard => k_is)
    (case c_came_to_heard => k_is)
    (case k_came_to_heard => k_is)
    (case a_heard_earlier => k_is)
    (case l_heard_earlier => k_is)
    (case c_heard_earlier => k_is)
    (case k_heard_earlier => k_is)
    (case a__law_cell_at => k_is)
    (case l__law_cell_at => k_is)
    (case c__law_cell_at => k_is)
    (case k__law_cell_at => k_is)
    (case a__law_mix => k_is)
    (case l__law_mix => k_is)
    (case c__law_mix => k_is)
    (case k__law_mix => k_is)
    (case a__law_whole => k_is)
    (case l__law_whole => k_is)
    (case c__law_whole => k_is)
    (case k__law_whole => k_is)
    (case a__law_pairs => k_is)
    (case l__law_pairs => k_is)
    (case c__law_pairs => k_is)
    (case k__law_pairs => k_is)
    (case a__law_weather => k_is)
    (case l__law_weather => k_is)
    (case c__law_weather => k_is)
    (case k__law_weather => k_is)
    (case a__law_values => k_is)
    (case l__law_values => k_is)
    (case c__law_values => k_is)
    (case k__law_values => k_is)
    (case a__law_long_run => k_is)
    (case l__law_long_run => k_is)
    (case c__law_long_run => k_is)
    (case k__law_long_run => k_is)
    (case a__law_senders => k_is)
    (case l__law_senders => k_is)
    (case c__law_senders => k_is)
    (case k__law_senders => k_is)
    (case a__law_view => k_is)
    (case l__law_view => k_is)
    (case c__law_view => k_is)
    (case k__law_view => k_is)
    (case a__law_kinds => k_is)
    (case l__law_kinds => k_is)
    (case c__law_kinds => k_is)
    (case k__law_kinds => k_is)
    (case a_law => k_is)
    (case l_law => k_is)
    (case c_law => k_is)
    (case k_law => k_is)
    (case z_bool => k_is)
    (case z_dict => k_is)
    (case z_enumerate => k_is)
    (case z_int => k_is)
    (case z_isinstance => k_is)
    (case z_len => k_is)
    (case z_list => k_is)
    (case z_range => k_is)
    (case z_reversed => k_is)
    (case z_set => k_is)
    (case z_sorted => k_is)
    (case z_tuple => k_is)
