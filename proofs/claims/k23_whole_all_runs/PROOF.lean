import PyProof.Rows.All
import Wide.All
import OpenK.AllK
import Wide.FinOn
import Lean
import PyProof.EqAt
import PyProof.EqKinds
import PyProof.TupleCall
import PySem.Sem
import PyProof.P3Statements
import PyProof.SliceList
import PyProof.Dict
import PyProof.TupleKey
import PyProof.P3In
import PyProof.NeData
import KE.KRevIter
import PyProof.CollectIter
import PyProof.TupleOfGen
import KE.KTryMore
import OpenK.KOwn
import PyProof.NsDelKeeps
import PyProof.ExcAttrAll.ValueError
import PyProof.ListMulRoad
import PyProof.AutoSeq1
import PyProof.FactsAll.tuple_2
import PyProof.Draws
import PyProof.EnumMake
import PyProof.Rows.TupIter
import PyProof.ZipIter
import PyProof.Rows.ZipGen
import PyProof.Rows.SetFrom
import PyProof.Rows.SortWalk
import KE.KSortedM
import PyProof.IsRules
import PySem.Challenge.RW_losspact_k23_whole_all_runs
set_option Elab.async false
set_option linter.all false
set_option maxRecDepth 100000
/-! THE HAND LAYER, for ints, bools, texts, own classes, LISTS and tuples (index, slices, in, append, pop ..), calls, loops. Paste it whole ahead of your own text; what your proof does not reach may be deleted. -/
namespace L2
open PySem PySem.Spec PyProof.Rows

/-- a key: an int or a str -/
abbrev Key := Sum Int Str
def keyIs : Key → Value → Bool
  | .inl k, v => Value.isInt k v
  | .inr x, v => Value.isStrOf x v
def keyH (w : World) : Key → Int
  | .inl k => hashInt k
  | .inr x => hashStr w x
theorem keyIs_shape : ∀ {k : Key} {v : Value}, keyIs k v = true → (∃ i t, k = Sum.inl i ∧ v = Value.int i t) ∨ (∃ x t, k = Sum.inr x ∧ v = Value.str x t)
  | .inl i, v, h => by
    obtain ⟨t, e⟩ := Value.isInt_shape (k := i) (v := v) h
    exact .inl ⟨i, t, rfl, e⟩
  | .inr x, v, h => by
    obtain ⟨t, e⟩ := Value.isStrOf_shape (x := x) (v := v) h
    exact .inr ⟨x, t, rfl, e⟩
theorem key_ll (a b : Int) : decide ((Sum.inl a : Key) = Sum.inl b) = (a == b) := by
  by_cases e : a = b
  · subst e; simp
  · have h : ¬ (Sum.inl a : Key) = Sum.inl b := fun q => e (Sum.inl.inj q)
    rw [decide_eq_false h]
    exact (beq_eq_false_iff_ne.mpr e).symm
theorem key_rr (a b : Str) : decide ((Sum.inr a : Key) = Sum.inr b) = decide (a = b) := by
  by_cases e : a = b
  · subst e; simp
  · have h : ¬ (Sum.inr a : Key) = Sum.inr b := fun q => e (Sum.inr.inj q)
    rw [decide_eq_false h, decide_eq_false e]
theorem key_lr (a : Int) (b : Str) : decide ((Sum.inl a : Key) = Sum.inr b) = false := decide_eq_false (fun q => nomatch q)
theorem key_rl (a : Str) (b : Int) : decide ((Sum.inr a : Key) = Sum.inl b) = false := decide_eq_false (fun q => nomatch q)

def mixKind (prog : Program) (w : World) : PySem.KeyKind prog w Key where
  is := keyIs
  hash := keyH w
  inj := fun v a b ha hb => by
    rcases keyIs_shape ha with ⟨i, t, rfl, rfl⟩ | ⟨x, t, rfl, rfl⟩
    · rcases keyIs_shape hb with ⟨j, u, rfl, e⟩ | ⟨y, u, rfl, e⟩
      · injection e with e1 _; rw [e1]
      · exact nomatch e
    · rcases keyIs_shape hb with ⟨j, u, rfl, e⟩ | ⟨y, u, rfl, e⟩
      · exact nomatch e
      · injection e with e1 _; rw [e1]
  byValue := fun k v h => by
    rcases keyIs_shape h with ⟨i, t, rfl, rfl⟩ | ⟨x, t, rfl, rfl⟩ <;> rfl
  pyHash := fun hv h => by
    rcases keyIs_shape hv with ⟨i, t, rfl, rfl⟩ | ⟨x, t, rfl, rfl⟩
    · exact wpAny_pyHash_int h
    · exact wpAny_pyHash_str h
  eqBool := fun hu hv h => by
    rcases keyIs_shape hu with ⟨i, t, rfl, rfl⟩ | ⟨x, t, rfl, rfl⟩
    · rcases keyIs_shape hv with ⟨j, u, rfl, rfl⟩ | ⟨y, u, rfl, rfl⟩
      · rw [key_ll] at h; exact wpAny_eqBool_int h
      · rw [key_lr] at h; exact SeqAt.EqAt.int_str i t y u _ _ _ _ h
    · rcases keyIs_shape hv with ⟨j, u, rfl, rfl⟩ | ⟨y, u, rfl, rfl⟩
      · rw [key_rl] at h; exact SeqAt.EqAt.str_int x t j u _ _ _ _ h
      · rw [key_rr] at h; exact wpAny_eqBool_str h
  «strs» := fun k x t v h => by
    rcases keyIs_shape h with ⟨i, u, rfl, e⟩ | ⟨y, u, rfl, e⟩
    · exact nomatch e
    · injection e with e1 _
      subst e1
      cases v <;> rfl

end L2

namespace L2
open PySem PySem.Spec PyProof.Rows

/-- a value, without the heap -/
inductive V where
  | non | bl (b : Bool) | int (i : Int) | str (x : Str) | byt (b : Array UInt8) | flt (b : UInt64) | ref (a : Addr) | ty (n : String)
  deriving DecidableEq

def RelV : V → Value → Prop
  | .non, u => u = Value.none
  | .bl b, u => u = Value.bool b
  | .int i, u => ∃ t, u = Value.int i t
  | .str x, u => ∃ t, u = Value.str x t
  | .byt b, u => ∃ t, u = Value.bytes b t
  | .flt b, u => ∃ t, u = Value.float b t
  | .ref a, u => u = Value.ref a
  | .ty n, u => u = Value.type n

abbrev Vals : List V → List Value → Prop := Paired RelV
theorem Vals.length {xs : List V} {us : List Value} (r : Vals xs us) : xs.length = us.length := Paired.length r
theorem Vals.get : ∀ {xs : List V} {us : List Value} {i : Nat} {x : V}, Vals xs us → xs[i]? = some x → ∃ u, us[i]? = some u ∧ RelV x u
  | _, _, _, _, .nil, e => by simp at e
  | _, _, 0, _, .cons r _, e => by simp at e; subst e; exact ⟨_, rfl, r⟩
  | _, _, i + 1, x, .cons _ t, e => by
    obtain ⟨u, h1, h2⟩ := Vals.get (i := i) (x := x) t (by simpa using e)
    exact ⟨u, by simpa using h1, h2⟩
theorem Vals.set {x : V} {u : Value} (r : RelV x u) : ∀ {xs : List V} {us : List Value} (i : Nat), Vals xs us → Vals (xs.set i x) (us.set i u)
  | _, _, _, .nil => .nil
  | _, _, 0, .cons _ t => .cons r t
  | _, _, i + 1, .cons q t => .cons q (Vals.set r i t)
theorem Vals.append : ∀ {xs ys : List V} {us ws : List Value}, Vals xs us → Vals ys ws → Vals (xs ++ ys) (us ++ ws)
  | _, _, _, _, .nil, s => s
  | _, _, _, _, .cons r t, s => .cons r (Vals.append t s)
theorem Vals.take : ∀ {xs : List V} {us : List Value} (n : Nat), Vals xs us → Vals (xs.take n) (us.take n)
  | _, _, 0, _ => .nil
  | _, _, _ + 1, .nil => .nil
  | _, _, n + 1, .cons r t => .cons r (Vals.take n t)
theorem Vals.drop : ∀ {xs : List V} {us : List Value} (n : Nat), Vals xs us → Vals (xs.drop n) (us.drop n)
  | _, _, 0, r => r
  | _, _, _ + 1, .nil => .nil
  | _, _, n + 1, .cons _ t => Vals.drop n t

def RelO : Option V → Option Value → Prop
  | some v, some u => RelV v u
  | none, none => True
  | _, _ => False
def KV {κ : Type} : List (κ × V) → List (κ × Value) → Prop := Paired fun (p : κ × V) (q : κ × Value) => p.1 = q.1 ∧ RelV p.2 q.2

/-- a key of a dict (00_mix): an int or a text -/
def kV : Key → V
  | .inl i => .int i
  | .inr x => .str x

/-- what stands at a tracked address -/
inductive HO where
  /-- a list -/
  | lst (xs : List V)
  /-- a tuple (never changes) -/
  | tup (xs : List V)
  /-- a dict whose keys are ints and texts; one whose keys are tuples of ints and texts (the empty one is both) -/
  | dK (kvs : List (Key × V)) | dT (kvs : List (List Key × V))
  /-- a set of ints: its members, its size -/
  | set (S : Int → Bool) (n : Nat)
  /-- an instance of the class at C, its dict at dx, its attributes -/
  | ins (C dx : Addr) (fs : List (Str × V))
  /-- the dict of the instance at x -/
  | own (x : Addr)
  /-- the dict of an exception -/
  | xd (fs : List (Str × V))
  /-- a bound method, f of x -/
  | met (f x : Addr)
  /-- a range object lo, lo + 1, .. below hi -/
  | rng (lo hi : Int)
  /-- a thing that is known to the object (the script; a dict while a loop walks it): read, never written while it is so -/
  | frz (o : Obj) (u : HO)
  /-- a code object's table -/
  | tbl (ps : Array Value)
  /-- any other thing, by what is true of its one object (a def of one's own: SetO a S n := HO.ext fun h => ..) -/
  | ext (φ : Heap → Prop)

abbrev Hp := Addr → Option HO
def upd (H : Hp) (a : Addr) (o : HO) : Hp := fun b => if b = a then some o else H b
theorem upd_same {H : Hp} {a : Addr} {o : HO} : upd H a o a = some o := by unfold upd; rw [if_pos rfl]
theorem upd_ne {H : Hp} {a b : Addr} {o : HO} (h : b ≠ a) : upd H a o b = H b := by unfold upd; rw [if_neg h]
/-- two objects of different content stand apart -/
theorem ne_of {H : Hp} {a b : Addr} {o u : HO} (h : H a = some o) (h' : H b = some u) (d : o ≠ u) : a ≠ b := by
  intro e; subst e; rw [h] at h'; exact d (Option.some.inj h')
theorem ne_of_none {H : Hp} {a b : Addr} {o : HO} (h : H a = some o) (h' : H b = none) : a ≠ b := by
  intro e; subst e; rw [h] at h'; cases h'

section
variable (P : Program) (w : World)
def ObjOk (H : Hp) (h : Heap) (a : Addr) : HO → Prop
  | .lst xs => xs.length ≤ sizeLine ∧ ∃ (its : List Value) (n : Nat), Vals xs its ∧ h.get? a = some { cls := .type "list", data := .seq its.toArray n }
  | .tup xs => xs.length ≤ sizeLine ∧ ∃ its : List Value, Vals xs its ∧ IsTup h a its.toArray
  | .dK kvs => kvs.length ≤ sizeLine ∧ (a == sysModules) = false ∧ ∃ vs, KV kvs vs ∧ h.DictOf (mixKind P w) a vs
  | .dT kvs => kvs.length ≤ sizeLine ∧ (a == sysModules) = false ∧ ∃ xs : List (List Key × Addr × Value),
      Paired (fun (p : List Key × V) (q : List Key × Addr × Value) => p.1 = q.1 ∧ H q.2.1 = some (.tup (p.1.map kV)) ∧ RelV p.2 q.2.2) kvs xs ∧
      ∃ o es ep, h.get? a = some o ∧ o.ExactDict ∧ o.data = .dict es ep ∧ es.toList = xs.map (entryOfKey (tupleKind (mixKind P w))) ∧ (xs.map (·.1)).Nodup
  | .set S n => h.SetOf (intKind P w) a S n
  | .ins C dx fs => H dx = some (.own a) ∧ fs.length ≤ 1000 ∧ dx ≠ a ∧ h.get? a = some (PySem.W.instObj C dx) ∧
      ∃ mA, h.Ns1 dx mA ∧ (∀ f, RelO (fs.lookup f) (mA f)) ∧ PySem.Within mA (fs.map (·.1))
  | .own _ => ∃ o, h.get? a = some o
  | .xd fs => ∃ mA, h.Ns1 a mA ∧ ∀ f, RelO (fs.lookup f) (mA f)
  | .rng lo hi => ∃ t u v, h.get? a = some { cls := .type "range", data := .fields #[.int lo t, .int hi u, .int 1 v] }
  | .frz o u => h.get? a = some o ∧ ObjOk H h a u
  | .tbl ps => h.get? a = some { cls := .none, data := .fields ps }
  | .met f x => h.get? a = some (PySem.W.methodObj (.ref f) (.ref x))
  | .ext φ => φ h ∧ (∃ o, h.get? a = some o) ∧ ∀ h1 h2 : Heap, φ h1 → (∀ o, h1.get? a = some o → h2.get? a = some o) → φ h2
/-- the abstract heap is held -/
def HOk (H : Hp) (h : Heap) : Prop := ∀ a o, H a = some o → ObjOk P w H h a o
end

section
variable {P : Program} {w : World} {H H' : Hp} {h h' : Heap} {a : Addr} {o : HO}
theorem ObjOk.lt (x : ObjOk P w H h a o) : a < h.objs.size := by
  cases o with
  | lst xs => obtain ⟨_, _, _, _, e⟩ := x; exact Heap.lt_size e
  | tup xs => obtain ⟨_, _, _, p⟩ := x; exact p.lt
  | dK kvs => obtain ⟨_, _, _, _, o, _, _, e, _⟩ := x; exact Heap.lt_size e
  | dT kvs => obtain ⟨_, _, _, _, o, _, _, e, _⟩ := x; exact Heap.lt_size e
  | set S n => obtain ⟨o, _, _, _, e, _⟩ := x; exact Heap.lt_size e
  | ins C dx fs => obtain ⟨_, _, _, e, _⟩ := x; exact Heap.lt_size e
  | own y => obtain ⟨_, e⟩ := x; exact Heap.lt_size e
  | xd fs => obtain ⟨_, ⟨_, _, _, e, _⟩, _⟩ := x; exact Heap.lt_size e
  | rng lo hi => obtain ⟨_, _, _, e⟩ := x; exact Heap.lt_size e
  | frz ob u => obtain ⟨e, _⟩ := x; exact Heap.lt_size e
  | tbl ps => exact Heap.lt_size (show h.get? a = some _ from x)
  | met f y => exact Heap.lt_size (show h.get? a = some _ from x)
  | ext φ => obtain ⟨_, ⟨_, e⟩, _⟩ := x; exact Heap.lt_size e
theorem Paired.mapP {α β : Type} {F G : α → β → Prop} : ∀ {l₁ : List α} {l₂ : List β}, Paired F l₁ l₂ → (∀ a b, F a b → G a b) → Paired G l₁ l₂
  | _, _, .nil, _ => .nil
  | _, _, .cons r t, f => .cons (f _ _ r) (Paired.mapP t f)
/-- what an object's description leans on: its own object, its own dict, the tuples -/
theorem ObjOk.stay (x : ObjOk P w H h a o) (k : ∀ b u, (b = a ∨ H b = some (.own a)) → h.get? b = some u → h'.get? b = some u)
    (ho : ∀ b, H b = some (.own a) → H' b = some (.own a)) (ht : ∀ b xs, H b = some (.tup xs) → H' b = some (.tup xs)) : ObjOk P w H' h' a o := by
  induction o with
  | lst xs => obtain ⟨z, its, n, r, e⟩ := x; exact ⟨z, its, n, r, k _ _ (.inl rfl) e⟩
  | tup xs => obtain ⟨z, its, r, ob, e, c⟩ := x; exact ⟨z, its, r, ob, k _ _ (.inl rfl) e, c⟩
  | dK kvs => obtain ⟨z, y, vs, r, ob, es, ep, e, c⟩ := x; exact ⟨z, y, vs, r, ob, es, ep, k _ _ (.inl rfl) e, c⟩
  | dT kvs =>
    obtain ⟨z, y, xs, r, ob, es, ep, e, c⟩ := x
    exact ⟨z, y, xs, Paired.mapP r fun p q z => ⟨z.1, ht _ _ z.2.1, z.2.2⟩, ob, es, ep, k _ _ (.inl rfl) e, c⟩
  | set S n => obtain ⟨ob, es, ep, t, e, c⟩ := x; exact ⟨ob, es, ep, t, k _ _ (.inl rfl) e, c⟩
  | ins C dx fs =>
    obtain ⟨d, z, ne, e, mA, ⟨od, es, ep, e2, c⟩, r⟩ := x
    exact ⟨ho _ d, z, ne, k _ _ (.inl rfl) e, mA, ⟨od, es, ep, k _ _ (.inr d) e2, c⟩, r⟩
  | own y => obtain ⟨ob, e⟩ := x; exact ⟨ob, k _ _ (.inl rfl) e⟩
  | xd fs => obtain ⟨mA, ⟨od, es, ep, e, c⟩, r⟩ := x; exact ⟨mA, ⟨od, es, ep, k _ _ (.inl rfl) e, c⟩, r⟩
  | rng lo hi => obtain ⟨t, u, v, e⟩ := x; exact ⟨t, u, v, k _ _ (.inl rfl) e⟩
  | frz ob u ih => obtain ⟨e, q⟩ := x; exact ⟨k _ _ (.inl rfl) e, ih q⟩
  | tbl ps =>
    have e : h.get? a = some { cls := .none, data := .fields ps } := x
    show h'.get? a = some { cls := .none, data := .fields ps }
    exact k a _ (.inl rfl) e
  | met f y =>
    have e : h.get? a = some (PySem.W.methodObj (.ref f) (.ref y)) := x
    show h'.get? a = some (PySem.W.methodObj (.ref f) (.ref y))
    exact k a _ (.inl rfl) e
  | ext φ => obtain ⟨p, ⟨o, e⟩, st⟩ := x; exact ⟨st _ _ p fun o q => k _ _ (.inl rfl) q, ⟨o, k _ _ (.inl rfl) e⟩, st⟩
theorem HOk.lt (x : HOk P w H h) (e : H a = some o) : a < h.objs.size := (x a o e).lt
theorem HOk.fresh (x : HOk P w H h) (e : h.objs.size ≤ a) : H a = none := by
  cases q : H a with
  | none => rfl
  | some u => exact absurd (Nat.lt_of_lt_of_le (x.lt q) e) (Nat.lt_irrefl _)
/-- every object of the heap is kept -/
theorem HOk.kept (x : HOk P w H h) (k : ∀ b u, h.get? b = some u → h'.get? b = some u) : HOk P w H h' := fun a o e =>
  (x a o e).stay (fun b u _ q => k b u q) (fun _ q => q) fun _ _ q => q
/-- a new object is laid and tracked -/
theorem HOk.laid (x : HOk P w H h) (k : ∀ b u, h.get? b = some u → h'.get? b = some u) (hp : h.objs.size ≤ a) (new : ObjOk P w (upd H a o) h' a o) : HOk P w (upd H a o) h' := fun b u e => by
  have hn := x.fresh hp
  by_cases hb : b = a
  · subst hb; rw [upd_same] at e; cases e; exact new
  · rw [upd_ne hb] at e
    exact (x b u e).stay (fun c v _ q => k c v q) (fun c q => by rw [upd_ne (ne_of_none q hn)]; exact q) fun c xs q => by rw [upd_ne (ne_of_none q hn)]; exact q
end

/-- what may be read as u: it is u, or a known u -/
def Rd (H : Hp) (a : Addr) (u : HO) : Prop := H a = some u ∨ ∃ o, H a = some (.frz o u)
theorem Rd.of {H : Hp} {a : Addr} {u : HO} (h : H a = some u) : Rd H a u := .inl h
theorem Rd.ok {P : Program} {w : World} {H : Hp} {h : Heap} {a : Addr} {u : HO} (r : Rd H a u) (x : HOk P w H h) : ObjOk P w H h a u := by
  rcases r with r | ⟨o, r⟩
  · exact x a u r
  · obtain ⟨_, q⟩ := x a _ r
    exact q
/-- what may be written -/
def Mut : Option HO → Prop
  | some (.lst _) => True
  | some (.dK _) => True
  | some (.dT _) => True
  | some (.set _ _) => True
  | some (.ins _ _ _) => True
  | some (.ext _) => True
  | _ => False
section
variable {P : Program} {w : World} {H : Hp} {h h' : Heap} {x e : Addr} {o' : HO}
/-- the object at e is changed: x itself, or the dict of the instance x -/
theorem HOk.write (ok : HOk P w H h) (mu : Mut (H x)) (he : e = x ∨ H e = some (.own x)) (k : ∀ b u, b ≠ e → h.get? b = some u → h'.get? b = some u) (heo : ∃ u, h'.get? e = some u)
    (new : ObjOk P w (upd H x o') h' x o') : HOk P w (upd H x o') h' := fun b u q => by
  have nown : ∀ c y, H c = some (.own y) → c ≠ x := fun c y r z => by subst z; rw [r] at mu; exact mu
  have ntup : ∀ c xs, H c = some (.tup xs) → c ≠ x := fun c xs r z => by subst z; rw [r] at mu; exact mu
  by_cases hb : b = x
  · subst hb; rw [upd_same] at q; cases q; exact new
  · rw [upd_ne hb] at q
    by_cases hbe : b = e
    · have q' : H b = some (.own x) := by
        rcases he with z | z
        · exact absurd (hbe.trans z) hb
        · rw [hbe]; exact z
      rw [q] at q'; cases q'
      obtain ⟨v, hv⟩ := heo
      exact ⟨v, by rw [hbe]; exact hv⟩
    · refine (ok b u q).stay (fun c v hc r => k c v ?_ r) (fun c r => by rw [upd_ne (nown c b r)]; exact r) fun c xs r => by rw [upd_ne (ntup c xs r)]; exact r
      rcases hc with rfl | hc
      · exact hbe
      · rintro rfl
        rcases he with z | z
        · exact nown c b hc z
        · rw [hc] at z; cases z; exact hb rfl
end

/-! ### kept unless tracked; of the frames at fs (the callers') the slots may change (an exception that passes writes there); of the records at ex (iterators) nothing is said -/
structure Un (fs ex : List Addr) (H H' : Hp) (h h' : Heap) : Prop where
  keep : ∀ b o, h.get? b = some o → H b = none → b ∉ fs → b ∉ ex → h'.get? b = some o
  slot : ∀ b o, h.get? b = some o → H b = none → b ∈ fs → b ∉ ex → ∃ sl, h'.get? b = some { o with slots := sl }
  free : ∀ b o, h.get? b = some o → H b = none → b ∉ ex → H' b = none
  there : ∀ b o, h.get? b = some o → b ∉ ex → ∃ o', h'.get? b = some o'
  tups : ∀ b xs, H b = some (.tup xs) → H' b = some (.tup xs)
  frzs : ∀ b o u, H b = some (.frz o u) → H' b = some (.frz o u)
  tbls : ∀ b ps, H b = some (.tbl ps) → ∃ more, H' b = some (.tbl (ps ++ more))
section
variable {fs fs' ex ex' : List Addr} {H H1 H2 : Hp} {h h1 h2 h' : Heap} {a x e : Addr} {o : HO}
theorem Un.any (u : Un fs ex H H1 h h1) {b : Addr} {ob : Obj} (q : h.get? b = some ob) (n : H b = none) (hx : b ∉ ex) : ∃ sl, h1.get? b = some { ob with slots := sl } := by
  by_cases hb : b ∈ fs
  · exact u.slot b ob q n hb hx
  · exact ⟨ob.slots, u.keep b ob q n hb hx⟩
theorem Un.trans (a : Un fs ex H H1 h h1) (b : Un fs ex H1 H2 h1 h2) : Un fs ex H H2 h h2 where
  keep := fun c ob q n hc hx => b.keep c ob (a.keep c ob q n hc hx) (a.free c ob q n hx) hc hx
  slot := fun c ob q n hc hx => by
    obtain ⟨sl, e1⟩ := a.slot c ob q n hc hx
    obtain ⟨sl', e2⟩ := b.slot c _ e1 (a.free c ob q n hx) hc hx
    exact ⟨sl', e2⟩
  free := fun c ob q n hx => by
    obtain ⟨o', e1⟩ := a.there c ob q hx
    exact b.free c o' e1 (a.free c ob q n hx) hx
  there := fun c ob q hx => by
    obtain ⟨o', e1⟩ := a.there c ob q hx
    exact b.there c o' e1 hx
  tups := fun c xs q => b.tups c xs (a.tups c xs q)
  frzs := fun c ob xs q => b.frzs c ob xs (a.frzs c ob xs q)
  tbls := fun c ps q => by
    obtain ⟨m1, e1⟩ := a.tbls c ps q
    obtain ⟨m2, e2⟩ := b.tbls c _ e1
    exact ⟨m1 ++ m2, by rw [e2, Array.append_assoc]⟩
theorem Un.kept (k : ∀ b u, h.get? b = some u → h'.get? b = some u) : Un fs ex H H h h' :=
  ⟨fun b ob q _ _ _ => k b ob q, fun b ob q _ _ _ => ⟨ob.slots, k b ob q⟩, fun _ _ _ n _ => n, fun b ob q _ => ⟨ob, k b ob q⟩, fun _ _ q => q, fun _ _ _ q => q, fun _ ps q => ⟨#[], by rw [q]; simp⟩⟩
theorem Un.refl : Un fs ex H H h h := Un.kept fun _ _ q => q
theorem Un.laid (k : ∀ b u, h.get? b = some u → h'.get? b = some u) (hp : h.objs.size ≤ a) (hn : H a = none) : Un fs ex H (upd H a o) h h' where
  keep := fun b u q _ _ _ => k b u q
  slot := fun b u q _ _ _ => ⟨u.slots, k b u q⟩
  free := fun b u q n _ => by rw [upd_ne (Nat.ne_of_lt (Nat.lt_of_lt_of_le (Heap.lt_size q) hp))]; exact n
  there := fun b u q _ => ⟨u, k b u q⟩
  tups := fun b xs q => by rw [upd_ne (ne_of_none q hn)]; exact q
  frzs := fun b u xs q => by rw [upd_ne (ne_of_none q hn)]; exact q
  tbls := fun b ps q => ⟨#[], by rw [upd_ne (ne_of_none q hn), q]; simp⟩
theorem Un.write (mu : Mut (H x)) (he : e = x ∨ H e = some (.own x)) (k : ∀ b u, b ≠ e → h.get? b = some u → h'.get? b = some u) (heo : ∃ u, h'.get? e = some u) : Un fs ex H (upd H x o) h h' := by
  have hx : ∀ b, H b = none → b ≠ x := fun b n z => by subst z; rw [n] at mu; exact mu
  have hb : ∀ b, H b = none → b ≠ e := fun b n z => by
    subst z
    rcases he with r | r
    · exact hx b n r
    · rw [n] at r; cases r
  have hm : ∀ b u, H b = some u → ¬ Mut (some u) → b ≠ x := fun b u q nm z => by subst z; rw [q] at mu; exact nm mu
  refine ⟨fun b u q n _ _ => k b u (hb b n) q, fun b u q n _ _ => ⟨u.slots, k b u (hb b n) q⟩, fun b u q n _ => by rw [upd_ne (hx b n)]; exact n, fun b u q _ => ?_,
    fun b xs q => by rw [upd_ne (hm b _ q fun z => z)]; exact q, fun b u xs q => by rw [upd_ne (hm b _ q fun z => z)]; exact q, fun b ps q => ⟨#[], by rw [upd_ne (hm b _ q fun z => z), q]; simp⟩⟩
  by_cases hbe : b = e
  · subst hbe; exact heo
  · exact ⟨u, k b u hbe q⟩
theorem Un.mono (u : Un fs ex H H1 h h1) (hs : ∀ b ∈ fs, b ∈ fs') (hx : ∀ b ∈ ex, b ∈ ex') : Un fs' ex' H H1 h h1 :=
  ⟨fun b ob q n hb he => u.keep b ob q n (fun z => hb (hs b z)) fun z => he (hx b z), fun _ _ q n _ he => u.any q n fun z => he (hx _ z), fun b ob q n he => u.free b ob q n fun z => he (hx b z), fun b ob q he => u.there b ob q fun z => he (hx b z), u.tups, u.frzs, u.tbls⟩
end

/-! ### the heap without what is tracked -/
def trk (h : Heap) (H : Hp) : List Addr := (List.range h.objs.size).filter fun a => (H a).isSome
def hidT (h : Heap) (H : Hp) : Heap := PySem.W.hideAll h (trk h H)
theorem hidT_size (h : Heap) (H : Hp) : (hidT h H).objs.size = h.objs.size := PySem.W.hideAll_size _ _
theorem hidT_get {h : Heap} {H : Hp} {b : Addr} {o : Obj} (e : h.get? b = some o) (n : H b = none) : (hidT h H).get? b = some o :=
  PySem.W.hideAll_get _ e fun hm => by
    have q : (H b).isSome = true := (List.mem_filter.mp hm).2
    rw [n] at q; simp at q
theorem of_hidT {h : Heap} {H : Hp} {b : Addr} {o : Obj} (e : (hidT h H).get? b = some o) : h.get? b = some o ∧ H b = none := by
  have e' : h.get? b = some o := PySem.W.of_hideAll (trk h H) e
  refine ⟨e', ?_⟩
  cases q : H b with
  | none => rfl
  | some x =>
    have hm : b ∈ trk h H := List.mem_filter.mpr ⟨List.mem_range.mpr (Heap.lt_size e'), by simp [q]⟩
    have z : (hidT h H).get? b = none := PySem.W.hideAll_none (trk h H) hm
    rw [z] at e; cases e

/-! ### OpenK's ledger, filled with every new object but one -/
def allNews (g h : Heap) (L : Addr) : List (Addr × Obj) := (List.range h.objs.size).filterMap fun a => if a = L ∨ (g.get? a).isSome = true then none else (h.get? a).map fun o => (a, o)
def rest (g h : Heap) (L d : Addr) : List (Addr × Obj) := (allNews g h L).filter fun p => decide (p.1 ≠ d)
end L2

namespace L2
open PySem PySem.Spec PyProof.Rows

/-- the module's facts, over the base: the heap at the law's entry without what is tracked there -/
structure Mod (K : PySem.W.Frag) (mg : Str → Option Value) (base : Heap) : Prop where
  kin : K.In base
  glob : base.Ns mainGlobals mg
  blt : ∃ mb, base.Ns builtinsNs mb ∧ ∀ x : Str, x ≠ "__name__" → mb x = bootBuiltins x
  nolimit : base.NoLimit

/-- the context: a def's body (or a comprehension's block) running. base: fixed through the whole law; s₀, H₀: the entry; outer: the frames whose slots others may change (a def's callers); stack: all frames that run;
   ex: iterators that were made ahead of the entry and are walked here (a comprehension's); fn: the names whose cells were made at the entry (a def: all; a comprehension's block: its own); calm: not within an except suite; pn: pins that every state bears; xe: what is wanted of an exception that leaves the code -/
structure Cx where
  prog : Program
  w : World
  K : PySem.W.Frag
  mg : Str → Option Value
  base : Heap
  A : Around
  N : List Str
  s₀ : Shared
  H₀ : Hp
  env : Env
  outer : List Env
  stack : List Env
  ex : List Addr
  fn : Str → Bool
  calm : Bool
  pn : List (Addr × Obj)
  xe : Value → Shared → Prop
/-- the callers' frames -/
def frs (l : List Env) : List Addr := l.filterMap (·.frame)
abbrev Cx.fs (X : Cx) : List Addr := frs X.outer

def Vis (sc : Scope) (x : Str) : Prop := sc.names.lookup x = some .local ∨ sc.names.lookup x = some .cell ∨ sc.names.lookup x = some .free
def Loc (sc : Scope) (x : Str) : Prop := sc.names.lookup x = some .local ∨ sc.names.lookup x = some .cell
def Look (env : Env) (h : Heap) (m : Str → Option Value) (x : Str) (u : Value) : Prop :=
  (env.kindOf x = some .local ∧ m x = some u) ∨ ((env.kindOf x = some .cell ∨ env.kindOf x = some .free) ∧ ∃ c, env.cells.lookup x = some c ∧ h.IsCell c (some u))

structure Cx.Ok (X : Cx) : Prop where
  mod : Mod X.K X.mg X.base
  kind : X.env.scope.kind = .function
  glob : X.env.globals = mainGlobals
  blt : X.env.builtins = builtinsNs
  above : X.s₀.heap.objs.size ≤ X.env.locals
  inj : ∀ x y c, X.env.cells.lookup x = some c → X.env.cells.lookup y = some c → x = y
  has : ∀ x, (X.env.kindOf x = some .cell ∨ X.env.kindOf x = some .free) → ∃ c, X.env.cells.lookup x = some c
  cab : ∀ x c, X.fn x = true → X.env.cells.lookup x = some c → X.s₀.heap.objs.size ≤ c
  hd : X.calm = true → X.A.handled = none
  frames : X.A.frames = some X.stack
  stk : X.stack = X.outer ∨ (X.stack = X.env :: X.outer ∧ X.env.frame = some X.env.locals)
  exf : ∀ b ∈ X.ex, b ≠ X.env.locals ∧ ∀ x c, X.env.cells.lookup x = some c → c ≠ b
  bs : ∀ b o, X.base.get? b = some o → X.s₀.heap.get? b = some o ∧ X.H₀ b = none
  bsz : X.base.objs.size ≤ X.s₀.heap.objs.size
  noex : ∀ b o, X.base.get? b = some o → b ∉ X.ex
  exfs : ∀ b ∈ X.ex, b ∉ X.fs
  funs : X.s₀.heap.FunFrames X.base X.outer
  frf : ∀ b ∈ X.fs, X.H₀ b = none

structure Inv (X : Cx) (pins : List (Addr × Obj)) (σ : List (Option V)) (H : Hp) (s : Shared) : Prop where
  ok : X.Ok
  os : s.os = X.s₀.os
  bare : AllBare s.gens
  base : Un X.fs X.ex X.H₀ H X.s₀.heap s.heap
  loc : ∃ m, s.heap.Ns X.env.locals m ∧ ∀ (i : Nat) (x : Str) (v : V), X.N[i]? = some x → σ[i]? = some (some v) → Vis X.env.scope x → ∃ u, RelV v u ∧ Look X.env s.heap m x u
  cell : ∀ x c, X.env.cells.lookup x = some c → ∃ v, s.heap.IsCell c v
  free : H X.env.locals = none
  freeC : ∀ x c, X.env.cells.lookup x = some c → H c = none
  pin : ∀ p ∈ X.pn ++ pins, s.heap.get? p.1 = some p.2 ∧ H p.1 = none ∧ p.1 ≠ X.env.locals ∧ p.1 ∉ X.fs ∧ ∀ v, p.2.data ≠ .cell v
  hok : HOk X.prog X.w H s.heap
  len : σ.length = X.N.length

section
variable {X : Cx} {pins : List (Addr × Obj)} {σ : List (Option V)} {H H' : Hp} {s : Shared} {h' : Heap}

theorem Cx.Ok.nofr (ok : X.Ok) {b : Addr} {o : Obj} (e : X.base.get? b = some o) : b ∉ X.fs := fun hb => by
  have := (ok.funs.mem hb).1
  rw [e] at this; cases this
theorem Inv.bs (I : Inv X pins σ H s) : ∀ b o, X.base.get? b = some o → s.heap.get? b = some o ∧ H b = none := fun b o e =>
  ⟨I.base.keep b o (I.ok.bs b o e).1 (I.ok.bs b o e).2 (I.ok.nofr e) (I.ok.noex b o e), I.base.free b o (I.ok.bs b o e).1 (I.ok.bs b o e).2 (I.ok.noex b o e)⟩
theorem Inv.bk (I : Inv X pins σ H s) : ∀ b o, X.base.get? b = some o → s.heap.get? b = some o := fun b o e => (I.bs b o e).1
theorem Inv.mod (I : Inv X pins σ H s) : Mod X.K X.mg X.base := I.ok.mod
theorem Inv.kIn (I : Inv X pins σ H s) : X.K.In s.heap := I.ok.mod.kin.keeps I.bk
theorem Inv.nolimit (I : Inv X pins σ H s) : s.heap.NoLimit := I.ok.mod.nolimit.keeps I.bk
/-- the frame over the base: for OpenK's rules (K.In X.base is I.mod.kin) -/
theorem Inv.fr (I : Inv X pins σ H s) : ∃ m, Fr X.base X.env.locals s.heap m :=
  let ⟨m, hn, _⟩ := I.loc
  ⟨m, hn, I.bk, Nat.le_trans I.ok.bsz I.ok.above⟩
theorem Inv.lt (I : Inv X pins σ H s) : X.env.locals < s.heap.objs.size := let ⟨_, hn, _⟩ := I.loc; hn.lt
theorem Inv.sz (I : Inv X pins σ H s) : X.s₀.heap.objs.size ≤ s.heap.objs.size := Nat.le_trans I.ok.above (Nat.le_of_lt I.lt)
theorem Inv.nofs (I : Inv X pins σ H s) {a : Addr} (h : s.heap.objs.size ≤ a) : a ∉ X.fs := fun hb => by
  obtain ⟨_, o, ho, _⟩ := I.ok.funs.mem hb
  exact absurd (Nat.lt_of_lt_of_le (Heap.lt_size ho) (Nat.le_trans I.sz h)) (Nat.lt_irrefl _)
theorem Inv.cne (I : Inv X pins σ H s) : ∀ x c, X.env.cells.lookup x = some c → c ≠ X.env.locals := fun x c e z => by
  obtain ⟨v, o, ho, hd⟩ := I.cell x c e
  obtain ⟨m, ⟨o', es, ep, ho', hd', _⟩, _⟩ := I.loc
  rw [z, ho'] at ho; cases ho; rw [hd'] at hd; cases hd
theorem Inv.funs (I : Inv X pins σ H s) : s.heap.FunFrames X.base X.outer := by
  have all : ∀ (l : List Env), (∀ b ∈ frs l, b ∈ X.fs) → X.s₀.heap.FunFrames X.base l → s.heap.FunFrames X.base l := by
    intro l
    induction l with
    | nil => intro _ _; trivial
    | cons env r ih =>
      intro hs hl
      obtain ⟨hk, ⟨L, o, hf, hn, ho, hd⟩, hr⟩ := hl
      have hL : L ∈ X.fs := hs L (by unfold frs; rw [List.filterMap_cons, hf]; exact List.mem_cons_self)
      obtain ⟨sl, e⟩ := I.base.slot L o ho (I.ok.frf L hL) hL fun z => I.ok.exfs L z hL
      exact ⟨hk, ⟨L, _, hf, hn, e, hd⟩, ih (fun b hb => hs b (by unfold frs; rw [List.filterMap_cons, hf]; exact List.mem_cons_of_mem _ hb)) hr⟩
  exact all X.outer (fun _ hb => hb) I.ok.funs

/-- the frames that run, for a call -/
theorem Inv.stack (I : Inv X pins σ H s) : s.heap.FunFrames X.base X.stack := by
  rcases I.ok.stk with e | ⟨e, hf⟩
  · rw [e]; exact I.funs
  · rw [e]
    obtain ⟨m, hn, _⟩ := I.loc
    refine .cons (by rw [I.ok.kind]; decide) hf hn ?_ I.funs
    exact Heap.get?_none_of_le (Nat.le_trans I.ok.bsz I.ok.above)
theorem Inv.stkSub (I : Inv X pins σ H s) : ∀ b ∈ frs X.stack, b ∈ X.env.locals :: X.fs := fun b hb => by
  rcases I.ok.stk with e | ⟨e, hf⟩
  · rw [e] at hb; exact List.mem_cons_of_mem _ hb
  · rw [e] at hb
    unfold frs at hb
    rw [List.filterMap_cons, hf] at hb
    exact hb
theorem Inv.stkFree (I : Inv X pins σ H s) : ∀ b ∈ frs X.stack, H b = none := fun b hb => by
  rcases List.mem_cons.mp (I.stkSub b hb) with e | hb
  · rw [e]; exact I.free
  · obtain ⟨_, o, ho, _⟩ := I.ok.funs.mem hb
    exact I.base.free b o ho (I.ok.frf b hb) fun z => I.ok.exfs b z hb

/-- THE STEP: the untracked objects but the frame and the records at ch are kept (the callers' frames up to slots), the frame's map is kept, the new abstract heap is held -/
theorem Inv.step {g' : Array GenState} {t' : Nat} {d' : Drawn} {ch : List Addr} (I : Inv X pins σ H s)
    (hch : ∀ b ∈ ch, (b ∈ X.ex ∨ X.s₀.heap.objs.size ≤ b) ∧ b ≠ X.env.locals ∧ (∀ x c, X.env.cells.lookup x = some c → c ≠ b) ∧ ∀ p ∈ X.pn ++ pins, p.1 ≠ b)
    (keep : ∀ b o, b ≠ X.env.locals → b ∉ X.fs → b ∉ ch → s.heap.get? b = some o → H b = none → h'.get? b = some o)
    (slot : ∀ b o, b ≠ X.env.locals → b ∈ X.fs → b ∉ ch → s.heap.get? b = some o → H b = none → ∃ sl, h'.get? b = some { o with slots := sl }) (free : ∀ b o, b ∉ ch → s.heap.get? b = some o → H b = none → H' b = none)
    (there : ∀ b o, b ∉ ch → s.heap.get? b = some o → ∃ o', h'.get? b = some o')
    (tups : ∀ b xs, H b = some (.tup xs) → H' b = some (.tup xs)) (frzs : ∀ b o u, H b = some (.frz o u) → H' b = some (.frz o u)) (tbls : ∀ b ps, H b = some (.tbl ps) → ∃ more, H' b = some (.tbl (ps ++ more)))
    (ns : ∀ m, s.heap.Ns X.env.locals m → h'.Ns X.env.locals m) (hok : HOk X.prog X.w H' h') (hg : AllBare g') :
    Inv X pins σ H' { s with heap := h', gens := g', drawn := d', toks := t' } := by
  have neL : ∀ b o, X.s₀.heap.get? b = some o → b ≠ X.env.locals := fun b o e => Nat.ne_of_lt (Nat.lt_of_lt_of_le (Heap.lt_size e) I.ok.above)
  have neC : ∀ b o, X.s₀.heap.get? b = some o → b ∉ X.ex → b ∉ ch := fun b o e hx hb => by
    rcases (hch b hb).1 with z | z
    · exact hx z
    · exact absurd (Nat.lt_of_lt_of_le (Heap.lt_size e) z) (Nat.lt_irrefl _)
  have cellK : ∀ x c, X.env.cells.lookup x = some c → ∀ v, s.heap.IsCell c v → h'.IsCell c v := fun x c e v ⟨o, ho, hd⟩ => by
    have nch : c ∉ ch := fun z => (hch c z).2.2.1 x c e rfl
    by_cases hc : c ∈ X.fs
    · obtain ⟨sl, q⟩ := slot c o (I.cne x c e) hc nch ho (I.freeC x c e)
      exact ⟨_, q, hd⟩
    · exact ⟨o, keep c o (I.cne x c e) hc nch ho (I.freeC x c e), hd⟩
  refine ⟨I.ok, I.os, hg, ⟨fun b o e n hb hx => ?_, fun b o e n hb hx => ?_, fun b o e n hx => ?_, fun b o e hx => ?_, fun b xs e => tups b xs (I.base.tups b xs e), fun b o xs e => frzs b o xs (I.base.frzs b o xs e), fun b ps e => ?_⟩, ?_, fun x c e => ?_, ?_, fun x c e => ?_, fun p hp => ?_, hok, I.len⟩
  · exact keep b o (neL b o e) hb (neC b o e hx) (I.base.keep b o e n hb hx) (I.base.free b o e n hx)
  · obtain ⟨sl, e1⟩ := I.base.slot b o e n hb hx
    obtain ⟨sl', e2⟩ := slot b _ (neL b o e) hb (neC b o e hx) e1 (I.base.free b o e n hx)
    exact ⟨sl', e2⟩
  · obtain ⟨o', e1⟩ := I.base.there b o e hx
    exact free b o' (neC b o e hx) e1 (I.base.free b o e n hx)
  · obtain ⟨o', e1⟩ := I.base.there b o e hx
    exact there b o' (neC b o e hx) e1
  · obtain ⟨m1, e1⟩ := I.base.tbls b ps e
    obtain ⟨m2, e2⟩ := tbls b _ e1
    exact ⟨m1 ++ m2, by rw [e2, Array.append_assoc]⟩
  · obtain ⟨m, hn, hl⟩ := I.loc
    refine ⟨m, ns m hn, fun i x v e1 e2 e3 => ?_⟩
    obtain ⟨u, r, l⟩ := hl i x v e1 e2 e3
    refine ⟨u, r, ?_⟩
    rcases l with l | ⟨k, c, e, z⟩
    · exact .inl l
    · exact .inr ⟨k, c, e, cellK x c e _ z⟩
  · obtain ⟨v, z⟩ := I.cell x c e
    exact ⟨v, cellK x c e v z⟩
  · obtain ⟨m, ⟨o, _, _, ho, _⟩, _⟩ := I.loc
    exact free _ o (fun z => (hch _ z).2.1 rfl) ho I.free
  · obtain ⟨v, o, ho, hd⟩ := I.cell x c e
    exact free c o (fun z => (hch c z).2.2.1 x c e rfl) ho (I.freeC x c e)
  · obtain ⟨e, n, ne, nf, d⟩ := I.pin p hp
    have nch : p.1 ∉ ch := fun z => (hch p.1 z).2.2.2 p hp rfl
    exact ⟨keep p.1 p.2 ne nf nch e n, free p.1 p.2 nch e n, ne, nf, d⟩
/-- .. where the frame's own object is kept too -/
theorem Inv.un {t' : Nat} (I : Inv X pins σ H s) (u : Un X.fs [] H H' s.heap h') (hok : HOk X.prog X.w H' h') : Inv X pins σ H' { s with heap := h', toks := t' } := by
  obtain ⟨m, ⟨o, es, ep, ho, r⟩, _⟩ := id I.loc
  obtain ⟨sl, hL⟩ := u.any ho I.free (by simp)
  exact I.step (g' := s.gens) (d' := s.drawn) (ch := []) (fun _ z => nomatch z) (fun b o _ hb _ e n => u.keep b o e n hb (by simp)) (fun b o _ hb _ e n => u.slot b o e n hb (by simp)) (fun b o _ e n => u.free b o e n (by simp)) (fun b o _ e => u.there b o e (by simp)) u.tups u.frzs u.tbls (fun m' hm => by
    obtain ⟨o', es', ep', ho', r'⟩ := hm
    rw [ho] at ho'; cases ho'
    exact ⟨_, es', ep', hL, r'⟩) hok I.bare
/-- behind a call (or a comprehension's block): the slots of this frame may have changed too, the records at ch may have turned -/
theorem Inv.call {g' : Array GenState} {t' : Nat} {d' : Drawn} {ch : List Addr} (I : Inv X pins σ H s) (u : Un (frs X.stack) ch H H' s.heap h') (hok : HOk X.prog X.w H' h') (hg : AllBare g')
    (hch : ∀ b ∈ ch, (b ∈ X.ex ∨ X.s₀.heap.objs.size ≤ b) ∧ b ≠ X.env.locals ∧ (∀ x c, X.env.cells.lookup x = some c → c ≠ b) ∧ ∀ p ∈ X.pn ++ pins, p.1 ≠ b) :
    Inv X pins σ H' { s with heap := h', gens := g', drawn := d', toks := t' } := by
  obtain ⟨m, ⟨o, es, ep, ho, r⟩, _⟩ := id I.loc
  obtain ⟨sl, hL⟩ := u.any ho I.free fun z => (hch _ z).2.1 rfl
  exact I.step (ch := ch) hch (fun b o hL hb hc e n => u.keep b o e n (fun z => (List.mem_cons.mp (I.stkSub b z)).elim hL hb) hc) (fun b o _ _ hc e n => u.any e n hc) (fun b o hc e n => u.free b o e n hc) (fun b o hc e => u.there b o e hc) u.tups u.frzs u.tbls (fun m' hm => by
    obtain ⟨o', es', ep', ho', r'⟩ := hm
    rw [ho] at ho'; cases ho'
    exact ⟨_, es', ep', hL, r'⟩) hok hg
/-- an untracked record of ours (an iterator) has turned -/
theorem Inv.turned {t' : Nat} {it : Addr} (I : Inv X pins σ H s) (k : ∀ b o, b ≠ it → s.heap.get? b = some o → h'.get? b = some o) (hn : H it = none) (hL : it ≠ X.env.locals)
    (h1 : it ∈ X.ex ∨ X.s₀.heap.objs.size ≤ it) (h2 : ∀ x c, X.env.cells.lookup x = some c → c ≠ it) (h3 : ∀ p ∈ X.pn ++ pins, p.1 ≠ it) : Inv X pins σ H { s with heap := h', toks := t' } := by
  have nit : ∀ b u, H b = some u → b ≠ it := fun b u e z => by rw [z, hn] at e; cases e
  refine I.step (g' := s.gens) (d' := s.drawn) (ch := [it]) (fun b hb => ?_) (fun b o _ _ hc e _ => k b o (fun z => hc (by simp [z])) e) (fun b o _ _ hc e _ => ⟨o.slots, k b o (fun z => hc (by simp [z])) e⟩) (fun _ _ _ _ n => n)
    (fun b o hc e => ⟨o, k b o (fun z => hc (by simp [z])) e⟩) (fun _ _ e => e) (fun _ _ _ e => e) (fun b ps e => ⟨#[], by rw [e]; simp⟩) (fun m hm => ?_) (fun b u e => ?_) I.bare
  · have e : b = it := by simpa using hb
    subst e
    exact ⟨h1, hL, h2, h3⟩
  · obtain ⟨o, es, ep, ho, r⟩ := hm
    exact ⟨o, es, ep, k _ o (Ne.symm hL) ho, r⟩
  · refine (I.hok b u e).stay (fun c v hc q => k c v ?_ q) (fun _ q => q) fun _ _ q => q
    rcases hc with z | z
    · rw [z]; exact nit b u e
    · exact nit c _ z
theorem Inv.tok (I : Inv X pins σ H s) (t : Nat) : Inv X pins σ H { s with toks := t } := I.un (h' := s.heap) (t' := t) Un.refl I.hok
/-- all objects kept -/
theorem Inv.kept {t' : Nat} (I : Inv X pins σ H s) (k : ∀ b u, s.heap.get? b = some u → h'.get? b = some u) : Inv X pins σ H { s with heap := h', toks := t' } := I.un (Un.kept k) (I.hok.kept k)
/-- a new object laid and tracked -/
theorem Inv.laid {a : Addr} {o : HO} {t' : Nat} (I : Inv X pins σ H s) (k : ∀ b u, s.heap.get? b = some u → h'.get? b = some u) (hp : s.heap.objs.size ≤ a) (new : ObjOk X.prog X.w (upd H a o) h' a o) :
    Inv X pins σ (upd H a o) { s with heap := h', toks := t' } := I.un (Un.laid k hp (I.hok.fresh hp)) (I.hok.laid k hp new)
/-- an object written -/
theorem Inv.write {x e : Addr} {o : HO} {t' : Nat} (I : Inv X pins σ H s) (mu : Mut (H x)) (he : e = x ∨ H e = some (.own x)) (k : ∀ b u, b ≠ e → s.heap.get? b = some u → h'.get? b = some u) (heo : ∃ u, h'.get? e = some u)
    (new : ObjOk X.prog X.w (upd H x o) h' x o) : Inv X pins σ (upd H x o) { s with heap := h', toks := t' } := I.un (Un.write mu he k heo) (I.hok.write mu he k heo new)
/-- forgetting slots, pins -/
theorem Inv.weak {σ' : List (Option V)} (I : Inv X pins σ H s) (hl : σ'.length = σ.length) (w : ∀ (i : Nat) v, σ'[i]? = some (some v) → σ[i]? = some (some v)) : Inv X pins σ' H s :=
  ⟨I.ok, I.os, I.bare, I.base, let ⟨m, hn, hl'⟩ := I.loc; ⟨m, hn, fun i x v e1 e2 e3 => hl' i x v e1 (w i v e2) e3⟩, I.cell, I.free, I.freeC, I.pin, I.hok, hl.trans I.len⟩
theorem Inv.pins_of {pins' : List (Addr × Obj)} (I : Inv X pins σ H s) (h : ∀ p ∈ pins', s.heap.get? p.1 = some p.2 ∧ H p.1 = none ∧ p.1 ≠ X.env.locals ∧ p.1 ∉ X.fs ∧ ∀ v, p.2.data ≠ .cell v) : Inv X pins' σ H s :=
  ⟨I.ok, I.os, I.bare, I.base, I.loc, I.cell, I.free, I.freeC, fun p hp => (List.mem_append.mp hp).elim (fun z => I.pin p (List.mem_append_left _ z)) (h p), I.hok, I.len⟩

theorem nodup_ix {N : List Str} (hN : N.Nodup) {i j : Nat} {x : Str} (a : N[i]? = some x) (b : N[j]? = some x) : i = j := by
  obtain ⟨h1, e1⟩ := List.getElem?_eq_some_iff.mp a
  obtain ⟨h2, e2⟩ := List.getElem?_eq_some_iff.mp b
  exact (List.getElem_inj hN).mp (e1.trans e2.symm)

/-- a name is stored; what changed -/
theorem store_ok2 {M : Model} {A : Around} {E : Value → Shared → Prop} {i : Nat} {x : Str} {v : V} {u : Value} {Q : Unit → Shared → Prop} (I : Inv X pins σ H s) (hN : X.N.Nodup) (hi : X.N[i]? = some x) (hx : Loc X.env.scope x) (r : RelV v u)
    (h : ∀ s', Inv X pins (σ.set i (some v)) H s' → (∃ a, Heap.SameBut a s.heap s'.heap ∧ (a = X.env.locals ∨ X.env.cells.lookup x = some a)) → Q () s') (hf : X.fn x = true ∨ X.env.scope.names.lookup x = some .local := by first | exact .inl rfl | exact .inr rfl | assumption) : wpAny M A (storeName X.env x u) Q E s := by
  obtain ⟨m, hn, hl⟩ := id I.loc
  have hcls : (X.env.scope.kind == .class || (X.env.scope.kind == .module && X.env.locals != X.env.globals)) = false := by rw [I.ok.kind]; rfl
  have hiσ : i < σ.length := by rw [I.len]; exact (List.getElem?_eq_some_iff.mp hi).1
  have cne := I.cne
  have tracked : ∀ {a : Addr} {h' : Heap}, (∃ o, s.heap.get? a = some o ∧ H a = none) → Heap.SameBut a s.heap h' → HOk X.prog X.w H h' := fun {a h'} ha hs b ob e => by
    obtain ⟨_, _, hfree⟩ := ha
    refine (I.hok b ob e).stay (fun c w' hc q => (hs.2 c ?_).trans q) (fun _ q => q) fun _ _ q => q
    rintro rfl
    rcases hc with rfl | hc
    · rw [hfree] at e; cases e
    · rw [hfree] at hc; cases hc
  rcases hx with hk | hk
  · refine wpAny_storeName_local hk hn (fun h' hn' hs => ?_) hcls
    obtain ⟨oL, _, _, hoL, _⟩ := id hn
    refine h _ ⟨I.ok, I.os, I.bare, ⟨fun b o e n hb hx => ?_, fun b o e n hb hx => ?_, I.base.free, fun b o e hx => ?_, I.base.tups, I.base.frzs, I.base.tbls⟩, ⟨_, hn', fun j y v' e1 e2 e3 => ?_⟩, fun y c e => ?_, I.free, I.freeC, fun p hp => ?_, tracked ⟨oL, hoL, I.free⟩ hs, by simpa using I.len⟩ ⟨_, hs, .inl rfl⟩
    · exact (hs.2 b (Nat.ne_of_lt (Nat.lt_of_lt_of_le (Heap.lt_size e) I.ok.above))).trans (I.base.keep b o e n hb hx)
    · obtain ⟨sl, e1⟩ := I.base.slot b o e n hb hx
      exact ⟨sl, (hs.2 b (Nat.ne_of_lt (Nat.lt_of_lt_of_le (Heap.lt_size e) I.ok.above))).trans e1⟩
    · obtain ⟨o', e1⟩ := I.base.there b o e hx
      exact ⟨o', (hs.2 b (Nat.ne_of_lt (Nat.lt_of_lt_of_le (Heap.lt_size e) I.ok.above))).trans e1⟩
    · by_cases hj : j = i
      · subst hj
        rw [hi] at e1; cases e1
        rw [List.getElem?_set_self hiσ] at e2
        cases e2
        exact ⟨u, r, .inl ⟨hk, by simp⟩⟩
      · rw [List.getElem?_set_ne (Ne.symm hj)] at e2
        obtain ⟨u', r', q⟩ := hl j y v' e1 e2 e3
        refine ⟨u', r', ?_⟩
        rcases q with ⟨k, e⟩ | ⟨k, c, e, z⟩
        · refine .inl ⟨k, ?_⟩
          have : y ≠ x := fun e => hj (nodup_ix hN e1 (e ▸ hi))
          simp [this, e]
        · exact .inr ⟨k, c, e, z.sameBut hs (cne y c e)⟩
    · obtain ⟨w', z⟩ := I.cell y c e
      exact ⟨w', z.sameBut hs (cne y c e)⟩
    · obtain ⟨e, n, ne, nf, d⟩ := I.pin p hp
      exact ⟨(hs.2 p.1 ne).trans e, n, ne, nf, d⟩
  · have hfn : X.fn x = true := by
      rcases hf with z | z
      · exact z
      · rw [z] at hk; cases hk
    obtain ⟨c, hc⟩ := I.ok.has x (.inl hk)
    obtain ⟨w', z⟩ := I.cell x c hc
    refine wpAny_storeName_cell I.ok.kind hk hc z (fun h' hc' hs => ?_)
    obtain ⟨oc, hoc, hocd⟩ := id z
    refine h { s with heap := h' } ⟨I.ok, I.os, I.bare, ⟨fun b o e n hb hx => ?_, fun b o e n hb hx => ?_, I.base.free, fun b o e hx => ?_, I.base.tups, I.base.frzs, I.base.tbls⟩, ⟨m, hn.sameBut hs (Ne.symm (cne x c hc)), fun j y v' e1 e2 e3 => ?_⟩, fun y c' e => ?_, I.free, I.freeC, fun p hp => ?_, tracked ⟨oc, hoc, I.freeC x c hc⟩ hs, by simpa using I.len⟩ ⟨c, hs, .inr hc⟩
    · exact (hs.2 b (Nat.ne_of_lt (Nat.lt_of_lt_of_le (Heap.lt_size e) (I.ok.cab x c hfn hc)))).trans (I.base.keep b o e n hb hx)
    · obtain ⟨sl, e1⟩ := I.base.slot b o e n hb hx
      exact ⟨sl, (hs.2 b (Nat.ne_of_lt (Nat.lt_of_lt_of_le (Heap.lt_size e) (I.ok.cab x c hfn hc)))).trans e1⟩
    · obtain ⟨o', e1⟩ := I.base.there b o e hx
      exact ⟨o', (hs.2 b (Nat.ne_of_lt (Nat.lt_of_lt_of_le (Heap.lt_size e) (I.ok.cab x c hfn hc)))).trans e1⟩
    · by_cases hj : j = i
      · subst hj
        rw [hi] at e1; cases e1
        rw [List.getElem?_set_self hiσ] at e2
        cases e2
        exact ⟨u, r, .inr ⟨.inl hk, c, hc, hc'⟩⟩
      · rw [List.getElem?_set_ne (Ne.symm hj)] at e2
        obtain ⟨u', r', q⟩ := hl j y v' e1 e2 e3
        refine ⟨u', r', ?_⟩
        rcases q with q | ⟨k, c', e, z'⟩
        · exact .inl q
        · refine .inr ⟨k, c', e, z'.sameBut hs ?_⟩
          rintro rfl
          exact hj (nodup_ix hN e1 (I.ok.inj _ _ _ e hc ▸ hi))
    · by_cases hcc : c' = c
      · subst hcc; exact ⟨_, hc'⟩
      · obtain ⟨w2, z2⟩ := I.cell y c' e
        exact ⟨w2, z2.sameBut hs hcc⟩
    · obtain ⟨e, n, ne, nf, d⟩ := I.pin p hp
      refine ⟨(hs.2 p.1 ?_).trans e, n, ne, nf, d⟩
      intro q
      rw [q, hoc] at e
      have q' : oc = p.2 := Option.some.inj e
      exact d w' (by rw [← q']; exact hocd)
theorem store_ok {M : Model} {A : Around} {E : Value → Shared → Prop} {i : Nat} {x : Str} {v : V} {u : Value} {Q : Unit → Shared → Prop} (I : Inv X pins σ H s) (hN : X.N.Nodup) (hi : X.N[i]? = some x) (hx : Loc X.env.scope x) (r : RelV v u)
    (h : ∀ s', Inv X pins (σ.set i (some v)) H s' → Q () s') (hf : X.fn x = true ∨ X.env.scope.names.lookup x = some .local := by first | exact .inl rfl | exact .inr rfl | assumption) : wpAny M A (storeName X.env x u) Q E s :=
  store_ok2 I hN hi hx r (fun s' I' _ => h s' I') hf
/-- behind a call or a block, the state as it is -/
theorem Inv.call' {s' : Shared} {ch : List Addr} (I : Inv X pins σ H s) (ho : s'.os = s.os) (u : Un (frs X.stack) ch H H' s.heap s'.heap) (hok : HOk X.prog X.w H' s'.heap) (hg : AllBare s'.gens)
    (hch : ∀ b ∈ ch, (b ∈ X.ex ∨ X.s₀.heap.objs.size ≤ b) ∧ b ≠ X.env.locals ∧ (∀ x c, X.env.cells.lookup x = some c → c ≠ b) ∧ ∀ p ∈ X.pn ++ pins, p.1 ≠ b) : Inv X pins σ H' s' := by
  obtain ⟨h', g', d', t', o'⟩ := s'
  have e : o' = s.os := ho
  subst e
  exact I.call (g' := g') (t' := t') (d' := d') u hok hg hch
end

/-! ### the judgements -/
/-- an exception: its class, its own dict's address (where it has one), the abstract heap behind it -/
abbrev XK := Value → Option Addr → Hp → Prop
abbrev St := List (Option V)
abbrev VK := V → Hp → Prop
/-- an expression's reading; a test's; an argument list's -/
abbrev TE := St → Hp → VK → Prop
abbrev TT := St → Hp → (Bool → Hp → Prop) → Prop
abbrev TA := St → Hp → (List V → Hp → Prop) → Prop
/-- what is wanted behind a statement -/
structure Ends where
  nx : St → Hp → Prop
  rt : VK
  bk : St → Hp → Prop := fun _ _ => False
  ct : St → Hp → Prop := fun _ _ => False
abbrev TS := Ends → St → Hp → Prop

def EP (X : Cx) (pins : List (Addr × Obj)) (σ : St) (Q : VK) (u : Value) (s' : Shared) : Prop := ∃ v H', Inv X pins σ H' s' ∧ RelV v u ∧ Q v H'
def TP (X : Cx) (pins : List (Addr × Obj)) (σ : St) (Q : Bool → Hp → Prop) (b : Bool) (s' : Shared) : Prop := ∃ H', Inv X pins σ H' s' ∧ Q b H'
def AP (X : Cx) (pins : List (Addr × Obj)) (σ : St) (Q : List V → Hp → Prop) (us : List Value) (s' : Shared) : Prop := ∃ vs H', Inv X pins σ H' s' ∧ Vals vs us ∧ Q vs H'
def SP (X : Cx) (pins : List (Addr × Obj)) (D : Ends) (f : Flow) (s' : Shared) : Prop :=
  match f with
  | .next => ∃ σ' H', Inv X pins σ' H' s' ∧ D.nx σ' H'
  | .brk => ∃ σ' H', Inv X pins σ' H' s' ∧ D.bk σ' H'
  | .cont => ∃ σ' H', Inv X pins σ' H' s' ∧ D.ct σ' H'
  | .ret u => ∃ v σ' H', Inv X pins σ' H' s' ∧ RelV v u ∧ D.rt v H'

def PE (X : Cx) (e : Expr) (t : TE) : Prop :=
  ∀ (pins : List (Addr × Obj)) (s : Shared) (σ : St) (H : Hp) (Q : VK), Inv X pins σ H s → t σ H Q → wpAny (model X.prog X.w) X.A (eval e X.env) (EP X pins σ Q) X.xe s
def PT (X : Cx) (e : Expr) (t : TT) : Prop :=
  ∀ (pins : List (Addr × Obj)) (s : Shared) (σ : St) (H : Hp) (Q : Bool → Hp → Prop), Inv X pins σ H s → t σ H Q → wpAny (model X.prog X.w) X.A (isTrue e X.env (eval e X.env)) (TP X pins σ Q) X.xe s
/-- a test whatever its 'whole' is (and, or) -/
def PW (X : Cx) (e : Expr) (t : TT) : Prop :=
  ∀ (whole : Sem Value) (pins : List (Addr × Obj)) (s : Shared) (σ : St) (H : Hp) (Q : Bool → Hp → Prop), Inv X pins σ H s → t σ H Q → wpAny (model X.prog X.w) X.A (isTrue e X.env whole) (TP X pins σ Q) X.xe s
theorem PW.pt {X : Cx} {e : Expr} {t : TT} (h : PW X e t) : PT X e t := h _
/-- an argument list (no star), from the left -/
def PA (X : Cx) (es : List Expr) (t : TA) : Prop :=
  ∀ (pos : Pos) (pins : List (Addr × Obj)) (s : Shared) (σ : St) (H : Hp) (Q : List V → Hp → Prop), Inv X pins σ H s → t σ H Q → wpAny (model X.prog X.w) X.A (spliced (backTo pos (starEach es X.env))) (AP X pins σ Q) X.xe s
def PS (X : Cx) (st : Stmt) (t : TS) : Prop :=
  ∀ (pins : List (Addr × Obj)) (s : Shared) (σ : St) (H : Hp) (D : Ends), Inv X pins σ H s → t D σ H → wpAny (model X.prog X.w) X.A (exec st X.env) (SP X pins D) X.xe s
def PSs (X : Cx) (st : List Stmt) (t : TS) : Prop :=
  ∀ (pins : List (Addr × Obj)) (s : Shared) (σ : St) (H : Hp) (D : Ends), Inv X pins σ H s → t D σ H → wpAny (model X.prog X.w) X.A (execs st X.env) (SP X pins D) X.xe s
/-- weaken the end -/
theorem thn {α : Type} {t : Sem α} {Q Q' : α → Shared → Prop} {M : Model} {A : Around} {E : Value → Shared → Prop} {s : Shared} (h : wpAny M A t Q E s) (hQ : ∀ a s, Q a s → Q' a s) : wpAny M A t Q' E s := wpAny_mono h hQ fun _ _ x => x
end L2

namespace L2
open PySem PySem.Spec PyProof.Rows
section
variable {X : Cx}

/-- two expressions in a row -/
theorem bin {a b : Expr} {ta tb : TE} (ha : PE X a ta) (hb : PE X b tb) {pins : List (Addr × Obj)} {s : Shared} {σ : St} {H : Hp} {R : V → V → Hp → Prop} (I : Inv X pins σ H s) (h : ta σ H fun x H1 => tb σ H1 fun y H2 => R x y H2)
    {α : Type} {Q : α → Shared → Prop} {f : Value → Value → Sem α}
    (hf : ∀ v u s2 x y H2, Inv X pins σ H2 s2 → RelV x v → RelV y u → R x y H2 → wpAny (model X.prog X.w) X.A (f v u) Q X.xe s2) :
    wpAny (model X.prog X.w) X.A (eval a X.env) (fun v s₁ => wpAny (model X.prog X.w) X.A (eval b X.env) (fun u s₂ => wpAny (model X.prog X.w) X.A (f v u) Q X.xe s₂) X.xe s₁) X.xe s := by
  refine thn (ha pins s σ H _ I h) fun v s1 ⟨x, H1, I1, r1, q1⟩ => ?_
  refine thn (hb pins s1 σ H1 _ I1 q1) fun u s2 ⟨y, H2, I2, r2, q2⟩ => ?_
  exact hf v u s2 x y H2 I2 r1 r2 q2

/-! ### names and constants -/
def tVar (i : Nat) : TE := fun σ H Q => ∃ v, σ[i]? = some (some v) ∧ Q v H
def tC (v : V) : TE := fun _ H Q => Q v H
theorem pe_var {i : Nat} {x : Str} {pos : Pos} (hN : X.N[i]? = some x) (hv : Vis X.env.scope x) (hd : (x == ("__debug__" : Str)) = false := by decide) (hcd : (x == ("__classdict__" : Str)) = false := by decide) : PE X (.Name x pos) (tVar i) := by
  intro pins s σ H Q I h
  obtain ⟨v, e, h⟩ := h
  obtain ⟨m, hn, hl⟩ := I.loc
  obtain ⟨u, r, l⟩ := hl i x v hN e hv
  have fin : EP X pins σ Q u s := ⟨v, H, I, r, h⟩
  rcases l with ⟨hk, hm⟩ | ⟨hk, c, hc, hcell⟩
  · exact wpAny_Name (wpAny_loadName_local I.ok.kind hk hn hm fin) hd
  · rcases hk with hk | hk
    · exact wpAny_Name (wpAny_loadName_cell I.ok.kind hk hc hcell fin) hd
    · exact wpAny_Name (wpAny_loadName_free I.ok.kind hk hc hcell fin hcd) hd
theorem pe_int {i j pos} : PE X (.Constant (.int i) j pos) (tC (.int i)) := fun _ _ _ H _ I h => wpAny_Constant_int ⟨.int i, H, I.tok _, ⟨_, rfl⟩, h⟩
theorem pe_bl {b j pos} : PE X (.Constant (.bool b) j pos) (tC (.bl b)) := fun _ _ _ H _ I h => Constant_bool ⟨.bl b, H, I, rfl, h⟩
theorem pe_non {j pos} : PE X (.Constant .none j pos) (tC .non) := fun _ _ _ H _ I h => Constant_none ⟨.non, H, I, rfl, h⟩

/-- a global name of the def -/
def Gl (X : Cx) (x : Str) : Prop := X.env.kindOf x = some .globalImplicit
theorem ld_glob {E : Value → Shared → Prop} {pins : List (Addr × Obj)} {s : Shared} {σ : St} {H : Hp} {x : Str} {u : Value} {pos : Pos} {Q : Value → Shared → Prop} (I : Inv X pins σ H s) (hg : Gl X x) (hm : X.mg x = some u) (h : Q u s)
    (hd : (x == ("__debug__" : Str)) = false := by decide) : wpAny (model X.prog X.w) X.A (eval (.Name x pos) X.env) Q E s :=
  Calls.Name_function_global I.ok.kind hg (Calls.loadGlobal_global (by rw [I.ok.glob]; exact I.mod.glob.keeps I.bk) hm h) hd
theorem ld_blt {E : Value → Shared → Prop} {pins : List (Addr × Obj)} {s : Shared} {σ : St} {H : Hp} {x : Str} {u : Value} {pos : Pos} {Q : Value → Shared → Prop} (I : Inv X pins σ H s) (hg : Gl X x) (hm : X.mg x = none) (hv : bootBuiltins x = some u) (h : Q u s)
    (hn : x ≠ "__name__" := by decide) (hd : (x == ("__debug__" : Str)) = false := by decide) : wpAny (model X.prog X.w) X.A (eval (.Name x pos) X.env) Q E s := by
  obtain ⟨mb, h1, h2⟩ := I.mod.blt
  exact Calls.Name_function_global I.ok.kind hg (Calls.loadGlobal_builtin (by rw [I.ok.glob]; exact I.mod.glob.keeps I.bk) hm (by rw [I.ok.blt]; exact h1.keeps I.bk) ((h2 x hn).trans hv) h) hd
/-- a module's constant, a class, a function, as a value -/
theorem pe_glob {x : Str} {v : V} {u : Value} {pos : Pos} (hg : Gl X x) (hm : X.mg x = some u) (r : RelV v u) (hd : (x == ("__debug__" : Str)) = false := by decide) : PE X (.Name x pos) (tC v) :=
  fun _ _ _ H _ I h => ld_glob I hg hm ⟨v, H, I, r, h⟩ hd
theorem pe_bltn {x : Str} {v : V} {u : Value} {pos : Pos} (hg : Gl X x) (hm : X.mg x = none) (hv : bootBuiltins x = some u) (r : RelV v u) (hn : x ≠ "__name__" := by decide) (hd : (x == ("__debug__" : Str)) = false := by decide) : PE X (.Name x pos) (tC v) :=
  fun _ _ _ H _ I h => ld_blt I hg hm hv ⟨v, H, I, r, h⟩ hn hd

/-! ### arithmetic -/
/-- two ints -/
def t2I (ta tb : TE) (k : Int → Int → Hp → Prop) : St → Hp → Prop := fun σ H => ta σ H fun x H1 => tb σ H1 fun y H2 => ∃ i j, x = .int i ∧ y = .int j ∧ k i j H2
def tSub (ta tb : TE) : TE := fun σ H Q => t2I ta tb (fun i j H2 => Q (.int (i - j)) H2) σ H
variable {a b : Expr} {ta tb : TE} {pos : Pos}
theorem pe_sub (ha : PE X a ta) (hb : PE X b tb) : PE X (.BinOp a .Sub b pos) (tSub ta tb) := by
  intro pins s σ H Q I h
  refine wpAny_BinOp (bin ha hb I h fun v u s2 x y H2 I2 rx ry q => ?_)
  obtain ⟨i, j, rfl, rfl, q⟩ := q
  obtain ⟨t, rfl⟩ := rx
  obtain ⟨t', rfl⟩ := ry
  exact sub_int ⟨.int _, H2, I2.tok _, ⟨_, rfl⟩, q⟩

/-! ### comparisons -/
/-- a comparison as a value, as a test -/
def tB (t : TE) : TT := fun σ H Q => t σ H fun x H1 => ∃ c, x = .bl c ∧ Q c H1
/-- an expression whose value is a bool, as a test -/
theorem pt_val {e : Expr} {t : TE} (h : PE X e t) (he : ∀ whole, isTrue e X.env whole = (do let v ← whole; standAt e.pos; holding [v] (truthy v)) := by intro _; rfl) : PT X e (tB t) := by
  intro pins s σ H Q I hw
  refine isTrue_plain (thn (h pins s σ H _ I hw) fun v s1 ⟨x, H1, I1, r1, q1⟩ => ?_) (he _)
  obtain ⟨d, rfl, q⟩ := q1
  cases r1
  exact wpAny_truthy_bool ⟨H1, I1, q⟩

/-! ### and, or, not -/
variable {tA tB' : TT} {rest : List Expr}
def tAnd (t u : TT) : TT := fun σ H Q => t σ H fun c H1 => if c = true then u σ H1 Q else Q false H1
def tOr (t u : TT) : TT := fun σ H Q => t σ H fun c H1 => if c = true then Q true H1 else u σ H1 Q
def tNot (t : TT) : TT := fun σ H Q => t σ H fun c H1 => Q (!c) H1
theorem pw_and1 (ha : PT X a tA) : PW X (.BoolOp .And [a] pos) tA := by
  intro wh pins s σ H Q I h
  refine isTrue_and (thn (ha pins s σ H Q I h) fun c s1 e => ?_)
  cases c with
  | true => exact isTrue_and_nil e
  | false => exact e
theorem pw_or1 (ha : PT X a tA) : PW X (.BoolOp .Or [a] pos) tA := by
  intro wh pins s σ H Q I h
  refine isTrue_or (thn (ha pins s σ H Q I h) fun c s1 e => ?_)
  cases c with
  | false => exact isTrue_or_nil e
  | true => exact e
theorem pw_and (ha : PT X a tA) (hb : PW X (.BoolOp .And (b :: rest) pos) tB') : PW X (.BoolOp .And (a :: b :: rest) pos) (tAnd tA tB') := by
  intro wh pins s σ H Q I h
  refine isTrue_and (thn (ha pins s σ H _ I h) fun c s1 ⟨H1, I1, q1⟩ => ?_)
  cases c with
  | true => exact hb wh pins s1 σ H1 Q I1 q1
  | false => exact ⟨H1, I1, q1⟩
theorem pw_or (ha : PT X a tA) (hb : PW X (.BoolOp .Or (b :: rest) pos) tB') : PW X (.BoolOp .Or (a :: b :: rest) pos) (tOr tA tB') := by
  intro wh pins s σ H Q I h
  refine isTrue_or (thn (ha pins s σ H _ I h) fun c s1 ⟨H1, I1, q1⟩ => ?_)
  cases c with
  | true => exact ⟨H1, I1, q1⟩
  | false => exact hb wh pins s1 σ H1 Q I1 q1
theorem pt_not (ha : PT X a tA) : PT X (.UnaryOp .Not a pos) (tNot tA) := by
  intro pins s σ H Q I h
  exact isTrue_not (ha pins s σ H (fun c H1 => Q (!c) H1) I h)
/-- .. as values (bools) -/
def tAndV (ta tb : TE) : TE := fun σ H Q => ta σ H fun x H1 => ∃ c, x = .bl c ∧ if c = true then tb σ H1 Q else Q (.bl false) H1
def tNotV (ta : TE) : TE := fun σ H Q => ta σ H fun x H1 => ∃ c, x = .bl c ∧ Q (.bl (!c)) H1
theorem pe_one {op} {t : TE} (h : PE X a t) : PE X (.BoolOp op [a] pos) t := fun pins s σ H Q I hw => BoolOp_one (h pins s σ H Q I hw)
theorem pe_and (ha : PE X a ta) (hb : PE X (.BoolOp .And (b :: rest) pos) tb) : PE X (.BoolOp .And (a :: b :: rest) pos) (tAndV ta tb) := by
  intro pins s σ H Q I h
  refine BoolOp_and (thn (ha pins s σ H _ I h) fun v s1 ⟨x, H1, I1, r1, q1⟩ => ?_)
  obtain ⟨c, rfl, q1⟩ := q1
  cases r1
  refine wpAny_truthy_bool ?_
  cases c with
  | true => exact hb pins s1 σ H1 Q I1 q1
  | false => exact ⟨.bl false, H1, I1, rfl, q1⟩
theorem pe_not (ha : PE X a ta) : PE X (.UnaryOp .Not a pos) (tNotV ta) := by
  intro pins s σ H Q I h
  refine UnaryOp_ (thn (ha pins s σ H _ I h) fun v s1 ⟨x, H1, I1, r1, q1⟩ => ?_)
  obtain ⟨c, rfl, q1⟩ := q1
  cases r1
  exact not_of (wpAny_truthy_bool ⟨.bl (!c), H1, I1, rfl, q1⟩)
end
end L2

namespace L2
open PySem PySem.Spec PyProof.Rows

/-! ### a list, a tuple that is read: tracked, frozen, or an object of the module -/
def SqL (K : PySem.W.Frag) (H : Hp) (a : Addr) (xs : List V) : Prop :=
  Rd H a (.lst xs) ∨
    ∃ (o : Obj) (its : Array Value) (n : Nat), K.lookup a = some o ∧ o.cls = .type "list" ∧ o.dict = none ∧ o.data = .seq its n ∧ its.size ≤ sizeLine ∧ Vals xs its.toList
def SqT (K : PySem.W.Frag) (H : Hp) (a : Addr) (xs : List V) : Prop :=
  Rd H a (.tup xs) ∨
    ∃ (o : Obj) (its : Array Value) (n : Nat), K.lookup a = some o ∧ o.cls = .type "tuple" ∧ o.data = .seq its n ∧ its.size ≤ sizeLine ∧ Vals xs its.toList
def absV : Value → Option V
  | .none => some .non
  | .bool b => some (.bl b)
  | .int i _ => some (.int i)
  | .str x _ => some (.str x)
  | .bytes b _ => some (.byt b)
  | .float b _ => some (.flt b)
  | .ref a => some (.ref a)
  | .type n => some (.ty n)
  | _ => none
theorem RelV.abs {x : V} {u : Value} (r : RelV x u) : absV u = some x := by
  cases x with
  | non => cases r; rfl
  | bl _ => cases r; rfl
  | int _ => obtain ⟨t, rfl⟩ := r; rfl
  | str _ => obtain ⟨t, rfl⟩ := r; rfl
  | byt _ => obtain ⟨t, rfl⟩ := r; rfl
  | flt _ => obtain ⟨t, rfl⟩ := r; rfl
  | ref _ => cases r; rfl
  | ty _ => cases r; rfl
theorem RelV.inj {x y : V} {u : Value} (r : RelV x u) (q : RelV y u) : x = y := Option.some.inj (r.abs.symm.trans q.abs)
theorem Vals.inj : ∀ {xs ys : List V} {us : List Value}, Vals xs us → Vals ys us → xs = ys
  | _, _, _, .nil, .nil => rfl
  | _, _, _, .cons r t, .cons r' t' => by rw [r.inj r', Vals.inj t t']
section
variable {X : Cx} {pins : List (Addr × Obj)} {σ : St} {H : Hp} {s : Shared} {a : Addr} {xs ys : List V}
theorem SqL.of {K : PySem.W.Frag} (h : H a = some (.lst xs)) : SqL K H a xs := .inl (.inl h)
theorem SqT.of {K : PySem.W.Frag} (h : H a = some (.tup xs)) : SqT K H a xs := .inl (.inl h)
theorem Inv.list (I : Inv X pins σ H s) (h : SqL X.K H a xs) : ∃ its : List Value, Vals xs its ∧ PlainL s.heap a its.toArray ∧ xs.length ≤ sizeLine := by
  rcases h with h | ⟨o, its, n, hk, hc, hd, hs, hz, r⟩
  · obtain ⟨z, its, n, r, e⟩ := h.ok I.hok
    exact ⟨its, r, ⟨_, n, e, rfl, rfl, rfl⟩, z⟩
  · refine ⟨its.toList, r, ⟨o, n, I.kIn a o hk, hc, hd, by simpa using hs⟩, ?_⟩
    have e := r.length
    simp only [Array.length_toList] at e
    omega
theorem Inv.tuple (I : Inv X pins σ H s) (h : SqT X.K H a xs) : ∃ its : List Value, Vals xs its ∧ IsTup s.heap a its.toArray ∧ xs.length ≤ sizeLine := by
  rcases h with h | ⟨o, its, n, hk, hc, hs, hz, r⟩
  · obtain ⟨z, its, r, p⟩ := h.ok I.hok
    exact ⟨its, r, p, z⟩
  · refine ⟨its.toList, r, ⟨o, I.kIn a o hk, hc, n, by simpa using hs⟩, ?_⟩
    have e := r.length
    simp only [Array.length_toList] at e
    omega
theorem Inv.list_inj (I : Inv X pins σ H s) (h : SqL X.K H a xs) (h' : SqL X.K H a ys) : xs = ys := by
  obtain ⟨its, r, ⟨o, n, e, _, _, d⟩, _⟩ := I.list h
  obtain ⟨its', r', ⟨o', n', e', _, _, d'⟩, _⟩ := I.list h'
  rw [e] at e'; cases e'
  rw [d] at d'
  injection d' with d1 _
  have : its = its' := by simpa using congrArg Array.toList d1
  subst this
  exact r.inj r'
theorem Inv.tuple_inj (I : Inv X pins σ H s) (h : SqT X.K H a xs) (h' : SqT X.K H a ys) : xs = ys := by
  obtain ⟨its, r, ⟨o, e, _, n, d⟩, _⟩ := I.tuple h
  obtain ⟨its', r', ⟨o', e', _, n', d'⟩, _⟩ := I.tuple h'
  rw [e] at e'; cases e'
  rw [d] at d'
  injection d' with d1 _
  have : its = its' := by simpa using congrArg Array.toList d1
  subst this
  exact r.inj r'
end

/-! ### another wish about exceptions -/
abbrev Cx.wish (X : Cx) (E : Value → Shared → Prop) : Cx := { X with xe := E }
/-- no exception leaves -/
abbrev Cx.nox (X : Cx) : Cx := X.wish fun _ _ => False
theorem Cx.Ok.wish {X : Cx} (ok : X.Ok) (E : Value → Shared → Prop) : (X.wish E).Ok :=
  ⟨ok.mod, ok.kind, ok.glob, ok.blt, ok.above, ok.inj, ok.has, ok.cab, ok.hd, ok.frames, ok.stk, ok.exf, ok.bs, ok.bsz, ok.noex, ok.exfs, ok.funs, ok.frf⟩
theorem Cx.Ok.unwish {X : Cx} {E : Value → Shared → Prop} (ok : (X.wish E).Ok) : X.Ok :=
  ⟨ok.mod, ok.kind, ok.glob, ok.blt, ok.above, ok.inj, ok.has, ok.cab, ok.hd, ok.frames, ok.stk, ok.exf, ok.bs, ok.bsz, ok.noex, ok.exfs, ok.funs, ok.frf⟩
section
variable {X : Cx} {pins : List (Addr × Obj)} {σ : St} {H : Hp} {s : Shared} {E : Value → Shared → Prop}
theorem Inv.wish (I : Inv X pins σ H s) (E : Value → Shared → Prop) : Inv (X.wish E) pins σ H s := ⟨I.ok.wish E, I.os, I.bare, I.base, I.loc, I.cell, I.free, I.freeC, I.pin, I.hok, I.len⟩
theorem Inv.unwish (I : Inv (X.wish E) pins σ H s) : Inv X pins σ H s := ⟨I.ok.unwish, I.os, I.bare, I.base, I.loc, I.cell, I.free, I.freeC, I.pin, I.hok, I.len⟩
theorem SP.unwish {D : Ends} {f : Flow} {s' : Shared} (h : SP (X.wish E) pins D f s') : SP X pins D f s' := by
  cases f with
  | next => obtain ⟨σ', H', I, q⟩ := h; exact ⟨σ', H', I.unwish, q⟩
  | brk => obtain ⟨σ', H', I, q⟩ := h; exact ⟨σ', H', I.unwish, q⟩
  | cont => obtain ⟨σ', H', I, q⟩ := h; exact ⟨σ', H', I.unwish, q⟩
  | ret u => obtain ⟨v, σ', H', I, r, q⟩ := h; exact ⟨v, σ', H', I.unwish, r, q⟩
theorem PE.nox {e : Expr} {t : TE} (h : PE X.nox e t) : PE X e t := fun pins s σ H Q I hw =>
  wpAny_mono (h pins s σ H Q (I.wish _) hw) (fun _ _ ⟨v, H', I', r, q⟩ => ⟨v, H', I'.unwish, r, q⟩) fun _ _ z => False.elim z
theorem PT.nox {e : Expr} {t : TT} (h : PT X.nox e t) : PT X e t := fun pins s σ H Q I hw =>
  wpAny_mono (h pins s σ H Q (I.wish _) hw) (fun _ _ ⟨H', I', q⟩ => ⟨H', I'.unwish, q⟩) fun _ _ z => False.elim z
theorem PSs.nox {st : List Stmt} {t : TS} (h : PSs X.nox st t) : PSs X st t := fun pins s σ H D I hw =>
  wpAny_mono (h pins s σ H D (I.wish _) hw) (fun _ _ q => q.unwish) fun _ _ z => False.elim z
end

/-! ### blocks and small statements -/
section
variable {X : Cx} {st : Stmt} {rest : List Stmt} {t u : TS} {e : Expr} {te : TE} {pos : Pos}
def tNext : TS := fun D σ H => D.nx σ H
def tSeq (t u : TS) : TS := fun D σ H => t { D with nx := u D } σ H
theorem pss_nil : PSs X [] tNext := fun _ _ σ H _ I h => wpAny_execs_nil ⟨σ, H, I, h⟩
theorem pss_cons (h1 : PS X st t) (h2 : PSs X rest u) : PSs X (st :: rest) (tSeq t u) := by
  intro pins s σ H D I h
  refine wpAny_execs_cons (thn (h1 pins s σ H { D with nx := u D } I h) fun f s1 q => ?_)
  cases f with
  | next =>
    obtain ⟨σ', H', I', q⟩ := q
    exact h2 pins s1 σ' H' D I' q
  | ret v => exact q
  | brk => exact q
  | cont => exact q
theorem pss_one (h1 : PS X st t) : PSs X [st] t := by
  intro pins s σ H D I h
  refine wpAny_execs_cons (thn (h1 pins s σ H D I h) fun f s1 q => ?_)
  cases f with
  | next => exact wpAny_execs_nil q
  | ret v => exact q
  | brk => exact q
  | cont => exact q
/-- in a def's body nothing is shown -/
theorem Inv.quiet {pins : List (Addr × Obj)} {σ : St} {H : Hp} {s : Shared} (I : Inv X pins σ H s) : interactive X.env = false := by simp [interactive, I.ok.kind]
/-- an expression whose value is dropped -/
def tDrop (te : TE) : TS := fun D σ H => te σ H fun _ H1 => D.nx σ H1
theorem ps_expr (he : PE X e te) (hs : swapsWith e none pos.line X.env = pure false := by rfl) : PS X (.Expr e pos) (tDrop te) := by
  intro pins s σ H D I h
  exact wpAny_Expr_any (thn (he pins s σ H _ I h) fun v s1 ⟨x, H1, I1, r1, q1⟩ => ⟨σ, H1, I1, q1⟩) I.quiet hs
def tRet (te : TE) : TS := fun D σ H => te σ H D.rt
theorem ps_ret (he : PE X e te) : PS X (.Return (some e) pos) (tRet te) := by
  intro pins s σ H D I h
  exact wpAny_Return_some (thn (he pins s σ H _ I h) fun v s1 ⟨x, H1, I1, r1, q1⟩ => ⟨x, σ, H1, I1, r1, q1⟩)
def tIfS (c : TT) (t u : TS) : TS := fun D σ H => c σ H fun b H1 => if b = true then t D σ H1 else u D σ H1
theorem ps_if {c : Expr} {a b : List Stmt} {tc : TT} (hc : PT X c tc) (ha : PSs X a t) (hb : PSs X b u) : PS X (.If c a b pos) (tIfS tc t u) := by
  intro pins s σ H D I h
  refine wpAny_If (thn (hc pins s σ H _ I h) fun d s1 ⟨H1, I1, q1⟩ => ?_)
  cases d with
  | true => exact ha pins s1 σ H1 D I1 q1
  | false => exact hb pins s1 σ H1 D I1 q1
end

/-! ### targets -/
abbrev TG := V → St → Hp → (St → Hp → Prop) → Prop
abbrev TGs := List V → St → Hp → (St → Hp → Prop) → Prop
def PG (X : Cx) (target : Expr) (t : TG) : Prop :=
  ∀ (pins : List (Addr × Obj)) (s : Shared) (σ : St) (H : Hp) (v : V) (u : Value) (Q : St → Hp → Prop), Inv X pins σ H s → RelV v u → t v σ H Q →
    wpAny (model X.prog X.w) X.A (assign target X.env u) (fun _ s' => ∃ σ' H', Inv X pins σ' H' s' ∧ Q σ' H') X.xe s
/-- several targets, one after another -/
def PGs (X : Cx) (ts : List Expr) (t : TGs) : Prop :=
  ∀ (pins : List (Addr × Obj)) (s : Shared) (σ : St) (H : Hp) (vs : List V) (us : List Value) (Q : St → Hp → Prop), Inv X pins σ H s → Vals vs us → t vs σ H Q →
    wpAny (model X.prog X.w) X.A (assignInOrder ((assignEach ts X.env).map (·.2)) us) (fun _ s' => ∃ σ' H', Inv X pins σ' H' s' ∧ Q σ' H') X.xe s
/-- o[i] = v, by values -/
abbrev TSet := V → V → V → Hp → (Hp → Prop) → Prop
def PSet (X : Cx) (t : TSet) : Prop :=
  ∀ (pins : List (Addr × Obj)) (s : Shared) (σ : St) (H : Hp) (o i v : V) (ov iv u : Value) (Q : Hp → Prop), Inv X pins σ H s → RelV o ov → RelV i iv → RelV v u → t o i v H Q →
    wpAny (model X.prog X.w) X.A (setItem ov iv u) (fun _ s' => ∃ H', Inv X pins σ H' s' ∧ Q H') X.xe s
section
variable {X : Cx} {pos : Pos}
def gName (i : Nat) : TG := fun v σ H Q => Q (σ.set i (some v)) H
theorem pg_name {i : Nat} {x : Str} (hN : X.N.Nodup) (hi : X.N[i]? = some x) (hx : Loc X.env.scope x) (hf : X.fn x = true ∨ X.env.scope.names.lookup x = some .local := by first | exact .inl rfl | exact .inr rfl | assumption) : PG X (.Name x pos) (gName i) := by
  intro pins s σ H v u Q I r h
  exact wpAny_assign_Name (store_ok I hN hi hx r (fun s' I' => ⟨_, H, I', h⟩) hf)
def gNil : TGs := fun vs σ H Q => vs = [] ∧ Q σ H
def gCons (t : TG) (u : TGs) : TGs := fun vs σ H Q => ∃ v r, vs = v :: r ∧ t v σ H fun σ' H' => u r σ' H' Q
theorem pgs_nil : PGs X [] gNil := by
  intro pins s σ H vs us Q I r h
  obtain ⟨e, h⟩ := h
  subst e
  cases r
  exact assignInOrder_nil ⟨σ, H, I, h⟩
theorem pgs_cons {e : Expr} {es : List Expr} {t : TG} {u : TGs} (h1 : PG X e t) (h2 : PGs X es u)
    (hs : (assignEach (e :: es) X.env).map (·.2) = assign e X.env :: (assignEach es X.env).map (·.2) := by rfl) : PGs X (e :: es) (gCons t u) := by
  intro pins s σ H vs us Q I r h
  obtain ⟨v, vr, e1, h⟩ := h
  subst e1
  cases r with
  | cons r rr =>
    rw [hs]
    refine assignInOrder_cons (thn (h1 pins s σ H _ _ _ I r h) fun _ s1 ⟨σ1, H1, I1, q1⟩ => ?_)
    exact h2 pins s1 σ1 H1 _ _ Q I1 rr q1
/-- (a, b, ..) = a tuple of that length -/
def gTup (K : PySem.W.Frag) (n : Nat) (t : TGs) : TG := fun v σ H Q => ∃ a xs, v = .ref a ∧ SqT K H a xs ∧ xs.length = n ∧ t xs σ H Q
theorem pg_tup {es : List Expr} {k : Nat} {t : TGs} {n : Nat} (hc : X.calm = true) (h : PGs X es t)
    (hn : (assignEach es X.env).length = n := by rfl) (hst : (assignEach es X.env).findIdx? (·.1) = none := by rfl) : PG X (.Tuple es k pos) (gTup X.K n t) := by
  intro pins s σ H v u Q I r hw
  obtain ⟨a, xs, e1, hq, hl, hw⟩ := hw
  subst e1
  cases r
  obtain ⟨its, rv, ht, hz⟩ := I.tuple hq
  refine assign_Tuple_tuple (I.ok.hd hc) ht (by simp [hn, ← hl, rv.length]) hst fun h' hx => ?_
  have I1 : Inv X pins σ H { s with heap := h' } := I.kept (t' := s.toks) fun b o e => hx b o (Nat.ne_of_lt (Heap.lt_size e)) e
  exact h pins _ σ H xs _ Q I1 (by simpa using rv) hw
/-- o[i] = .. -/
def gSub (to ti : TE) (t : TSet) : TG := fun v σ H Q => to σ H fun o H1 => ti σ H1 fun i H2 => t o i v H2 fun H3 => Q σ H3
theorem pg_sub {o i : Expr} {to ti : TE} {t : TSet} (ho : PE X o to) (hi : PE X i ti) (hs : PSet X t)
    (ha : ∀ v, assign (.Subscript o i pos) X.env v = (do
      let ov ← holding [v] (eval o X.env)
      let iv ← holding [v, ov] (eval i X.env)
      standAt pos
      holding [v, ov, iv] (setItem ov iv v)
      release [v, ov, iv] []) := by intro _; rfl) : PG X (.Subscript o i pos) (gSub to ti t) := by
  intro pins s σ H v u Q I r h
  rw [ha]
  refine wpAny_bind (wpAny_holding (thn (ho pins s σ H _ I h) fun ov s1 ⟨x, H1, I1, r1, q1⟩ => ?_))
  refine wpAny_bind (wpAny_holding (thn (hi pins s1 σ H1 _ I1 q1) fun iv s2 ⟨y, H2, I2, r2, q2⟩ => ?_))
  refine wpAny_bind (wpAny_standAt (wpAny_bind (wpAny_holding (thn (hs pins s2 σ H2 x y v ov iv u _ I2 r1 r2 r q2) fun _ s3 ⟨H3, I3, q3⟩ => ?_))))
  exact wpAny_release ⟨σ, H3, I3, q3⟩
/-- target = value -/
def tAsg (te : TE) (g : TG) : TS := fun D σ H => te σ H fun x H1 => g x σ H1 D.nx
theorem ps_asg {tg e : Expr} {te : TE} {g : TG} (he : PE X e te) (hg : PG X tg g) (hs : swapsWithSole [tg] e pos.line X.env = pure false := by rfl) (hw : swappedStores [tg] e X.env = pure none := by rfl)
    (h1 : (assignEach [tg] X.env).map (·.2) = [assign tg X.env] := by rfl) : PS X (.Assign [tg] e pos) (tAsg te g) := by
  intro pins s σ H D I h
  refine wpAny_Assign_stores (thn (he pins s σ H _ I h) fun v s1 ⟨x, H1, I1, r1, q1⟩ => ?_) hs hw
  rw [h1]
  exact thn (hg pins s1 σ H1 x v _ I1 r1 q1) fun _ s2 q => q
/-- name = value -/
theorem ps_set {i : Nat} {x : Str} {e : Expr} {te : TE} {pos' : Pos} (hN : X.N.Nodup) (hi : X.N[i]? = some x) (hx : Loc X.env.scope x) (he : PE X e te) (hs : swapsWith e (some (.Name x pos')) pos.line X.env = pure false := by rfl) (hf : X.fn x = true ∨ X.env.scope.names.lookup x = some .local := by first | exact .inl rfl | exact .inr rfl | assumption) :
    PS X (.Assign [.Name x pos'] e pos) (tAsg te (gName i)) := by
  intro pins s σ H D I h
  refine wpAny_Assign_Name (thn (he pins s σ H _ I h) fun v s1 ⟨y, H1, I1, r1, q1⟩ => ?_) hs
  exact store_ok I1 hN hi hx r1 (fun s2 I2 => ⟨_, H1, I2, q1⟩) hf
end

/-! ### while -/
section
variable {X : Cx} {pos : Pos}
/-- the invariant W with its measure -/
def tWhile (c : TT) (tb : TS) : TS := fun D σ H => ∃ W : Nat → St → Hp → Prop, (∃ m, W m σ H) ∧ ∀ m σ H, W m σ H →
  c σ H fun b H1 => if b = true then ∃ N : St → Hp → Prop, (∀ σ' H', N σ' H' → ∃ m', m' < m ∧ W m' σ' H') ∧ tb { D with nx := N, ct := N, bk := D.nx } σ H1 else D.nx σ H1
theorem ps_while {c : Expr} {body : List Stmt} {tc : TT} {tb : TS} (hp : PassesOwn (model X.prog X.w) X.A X.env X.xe) (hc : PT X c tc) (hb : PSs X body tb) : PS X (.While c body [] pos) (tWhile tc tb) := by
  intro pins s σ H D I h
  obtain ⟨W, ⟨m0, w0⟩, turn⟩ := h
  refine wpAny_While (codeAny_whileLoop (fun n s' => ∃ σ' H', Inv X pins σ' H' s' ∧ W n σ' H') ?_ m0 ⟨σ, H, I, w0⟩)
  rintro n s1 ⟨σ1, H1, I1, w1⟩
  refine wpAny_passesOwn hp (thn (hc pins s1 σ1 H1 _ I1 (turn n σ1 H1 w1)) fun b s2 ⟨H2, I2, q2⟩ => ?_)
  cases b with
  | true =>
    obtain ⟨N, hN, q2⟩ := q2
    rw [if_pos rfl]
    refine wpAny_passesOwn hp (thn (hb pins s2 σ1 H2 _ I2 q2) fun f s3 q3 => ?_)
    cases f with
    | next =>
      obtain ⟨σ3, H3, I3, n3⟩ := q3
      obtain ⟨m', hm, w3⟩ := hN σ3 H3 n3
      exact ⟨m', hm, σ3, H3, I3, w3⟩
    | cont =>
      obtain ⟨σ3, H3, I3, n3⟩ := q3
      obtain ⟨m', hm, w3⟩ := hN σ3 H3 n3
      exact ⟨m', hm, σ3, H3, I3, w3⟩
    | brk => exact q3
    | ret v => exact q3
  | false =>
    rw [if_neg Bool.false_ne_true]
    exact wpAny_execs_nil ⟨σ1, H2, I2, q2⟩
end

/-! ### what a loop or a comprehension walks -/
/-- at turn i: it yields x (the heap may grow), or it stops -/
structure It where
  go : Nat → Hp → Prop
  yld : Nat → Hp → V → Hp → Prop
  stop : Nat → Hp → Prop
/-- the iterator's own objects may turn: they are not the frame's, not pinned, younger than the entry (or a comprehension's own) -/
def FpOk (X : Cx) (pins : List (Addr × Obj)) (H : Hp) (b : Addr) : Prop :=
  H b = none ∧ b ≠ X.env.locals ∧ b ∉ X.fs ∧ (b ∈ X.ex ∨ X.s₀.heap.objs.size ≤ b) ∧ (∀ x c, X.env.cells.lookup x = some c → c ≠ b) ∧ ∀ p ∈ X.pn ++ pins, p.1 ≠ b
theorem Inv.fpOk {X : Cx} {pins : List (Addr × Obj)} {σ : St} {H H' : Hp} {s : Shared} {b : Addr} (I : Inv X pins σ H s) (hb : s.heap.objs.size ≤ b) (hn : H' b = none) : FpOk X pins H' b := by
  refine ⟨hn, Nat.ne_of_gt (Nat.lt_of_lt_of_le I.lt hb), I.nofs hb, .inr (Nat.le_trans I.sz hb), fun x c e z => ?_, fun p hp z => ?_⟩
  · obtain ⟨v, q⟩ := I.cell x c e
    exact absurd (Nat.lt_of_lt_of_le q.lt (by rw [z]; exact hb)) (Nat.lt_irrefl _)
  · exact absurd (Nat.lt_of_lt_of_le (Heap.lt_size (I.pin p hp).1) (by rw [z]; exact hb)) (Nat.lt_irrefl _)
structure Turn (P : Program) (w : World) (K : PySem.W.Frag) (tg : Expr) (J : It) (fp : List Addr) (it : Addr) (tn : Nat → Heap → Prop) : Prop where
  mem : it ∈ fp
  obj : ∀ i h, tn i h → ∀ b ∈ fp, ∃ o, h.get? b = some o ∧ ∀ v, o.data ≠ .cell v
  keep : ∀ i h h', tn i h → (∀ b ∈ fp, ∀ o, h.get? b = some o → h'.get? b = some o) → tn i h'
  item : ∀ (X : Cx), X.prog = P → X.w = w → X.K = K → X.calm = true → ∀ (i : Nat) (pins : List (Addr × Obj)) (s : Shared) (σ : St) (H : Hp) (E : Value → Shared → Prop), Inv X pins σ H s → (∀ b ∈ fp, FpOk X pins H b) → tn i s.heap → J.go i H →
    wpAny (model P w) X.A (pyNext (.ref it)) (fun r s1 => ∃ u, r = some u ∧
      wpAny (model P w) X.A (letOwnedTupleGo tg (.ref it) u) (fun _ s2 => ∃ x H', Inv X pins σ H' s2 ∧ RelV x u ∧ J.yld i H x H' ∧ tn (i + 1) s2.heap ∧ ∀ b ∈ fp, H' b = none) E s1) E s
  done : ∀ (X : Cx), X.prog = P → X.w = w → X.K = K → X.calm = true → ∀ (i : Nat) (pins : List (Addr × Obj)) (s : Shared) (σ : St) (H : Hp) (E : Value → Shared → Prop), Inv X pins σ H s → (∀ b ∈ fp, FpOk X pins H b) → tn i s.heap → J.stop i H →
    wpAny (model P w) X.A (pyNext (.ref it)) (fun r s1 => r = none ∧ Inv X pins σ H s1) E s
  self : ∀ (A : Around) (i : Nat) (s : Shared) (Q : Value → Shared → Prop) (E : Value → Shared → Prop), tn i s.heap → Q (.ref it) s → wpAny (model P w) A (pyIter (.ref it)) Q E s
abbrev TI := St → Hp → (It → Hp → Prop) → Prop
/-- an iterator has come -/
def PIE (X : Cx) (pins : List (Addr × Obj)) (σ : St) (tg : Expr) (R : It → Hp → Prop) (itv : Value) (s2 : Shared) : Prop :=
  ∃ (it : Addr) (fp : List Addr) (tn : Nat → Heap → Prop) (J : It) (H' : Hp), itv = .ref it ∧ Inv X pins σ H' s2 ∧ Turn X.prog X.w X.K tg J fp it tn ∧ tn 0 s2.heap ∧ (∀ b ∈ fp, FpOk X pins H' b) ∧ R J H'
def PI (X : Cx) (tg iter : Expr) (wi : TI) : Prop :=
  ∀ (pins : List (Addr × Obj)) (s : Shared) (σ : St) (H : Hp) (R : It → Hp → Prop), Inv X pins σ H s → wi σ H R →
    wpAny (model X.prog X.w) X.A (eval iter X.env) (fun v s1 => wpAny (model X.prog X.w) X.A (pyIter v) (PIE X pins σ tg R) X.xe s1) X.xe s

/-- the step ahead of the store is nothing for an iterator that keeps no tuple -/
theorem go_of {M : Model} {A : Around} {E : Value → Shared → Prop} {s : Shared} {tg : Expr} {it : Addr} {u : Value} {o : Obj} {n : String} {vs : Array Value} {Q : Unit → Shared → Prop} (ho : s.heap.get? it = some o) (hc : o.cls = .type n) (hd : o.data = .fields vs)
    (hn : ["enumerate", "zip", "dict_itemiterator", "dict_reverseitemiterator", "odict_iterator", "itertools.zip_longest", "itertools.pairwise"].contains n = false) (hQ : Q () s) : wpAny M A (letOwnedTupleGo tg (.ref it) u) Q E s := by
  unfold letOwnedTupleGo
  cases tg <;> first
    | exact wpAny_pure hQ
    | (cases u <;> first
        | exact wpAny_pure hQ
        | (refine wpAny_bind (wpAny_load ho ?_)
           rw [hc, hd]
           show wpAny M A (if (["enumerate", "zip", "dict_itemiterator", "dict_reverseitemiterator", "odict_iterator", "itertools.zip_longest", "itertools.pairwise"].contains n && vs[0]? == some (rawInt _)) = true then _ else _) Q E s
           rw [if_neg (by intro h; rw [hn, Bool.false_and] at h; cases h)]
           exact wpAny_pure hQ))

/-- the list at a, as it stands at each turn (a loop may append to it) -/
def Itl (K : PySem.W.Frag) (a : Addr) : It :=
  ⟨fun i H => ∃ xs x, SqL K H a xs ∧ xs[i]? = some x, fun i H x H' => H' = H ∧ ∀ xs, SqL K H a xs → xs[i]? = some x, fun i H => ∃ xs, SqL K H a xs ∧ xs.length ≤ i⟩
def Itt (K : PySem.W.Frag) (a : Addr) : It :=
  ⟨fun i H => ∃ xs x, SqT K H a xs ∧ xs[i]? = some x, fun i H x H' => H' = H ∧ ∀ xs, SqT K H a xs → xs[i]? = some x, fun i H => ∃ xs, SqT K H a xs ∧ xs.length ≤ i⟩
/-- lo, lo + 1, .. (n of them) -/
def Itr (lo : Int) (n : Nat) : It := ⟨fun i _ => i < n, fun i H x H' => H' = H ∧ x = .int (lo + i), fun i _ => n ≤ i⟩
theorem turn_list {P : Program} {w : World} {K : PySem.W.Frag} {tg : Expr} (a it : Addr) : Turn P w K tg (Itl K a) [it] it (fun i h => h.IsListIter it a i) where
  mem := by simp
  obj := fun i h st b hb => by
    have e : b = it := by simpa using hb
    subst e
    obtain ⟨o, e, c, d⟩ := st
    exact ⟨o, e, fun v z => by rw [d] at z; cases z⟩
  keep := fun i h h' st k => st.at fun o e => k it (by simp) o e
  item := by
    intro X hP hw hK hc i pins s σ H E I hf st hg
    subst hP hw hK
    obtain ⟨xs, x, hq, hx⟩ := hg
    obtain ⟨its, rv, p, hz⟩ := I.list hq
    obtain ⟨u, hu, ru⟩ := rv.get hx
    obtain ⟨f0, f1, f2, f3, f4, f5⟩ := hf it (by simp)
    refine wpAny_pyNext_list_item st p.isList (x := u) (by simpa using hu) fun h' st' sb => ?_
    have I1 : Inv X pins σ H { s with heap := h' } := I.turned (t' := s.toks) (fun b o hb e => (sb.2 b hb).trans e) f0 f1 f3 f4 f5
    obtain ⟨o, e, c, d⟩ := id st'
    exact ⟨u, rfl, go_of (s := { s with heap := h' }) e c d (by decide) ⟨x, H, I1, ru, ⟨rfl, fun ys hy => by rw [I.list_inj hy hq]; exact hx⟩, st', fun b hb => (hf b hb).1⟩⟩
  done := by
    intro X hP hw hK hc i pins s σ H E I hf st hg
    subst hP hw hK
    obtain ⟨xs, hq, hx⟩ := hg
    obtain ⟨its, rv, p, hz⟩ := I.list hq
    obtain ⟨f0, f1, f2, f3, f4, f5⟩ := hf it (by simp)
    have hl := rv.length
    exact wpAny_pyNext_list_end (I.ok.hd hc) st p.isList (by simp; omega) fun h' eb => ⟨rfl, I.turned (t' := s.toks) (fun b o hb e => eb b o hb e) f0 f1 f3 f4 f5⟩
  self := fun _ _ _ _ _ st h => wpAny_pyIter_listiter st h
theorem turn_tuple {P : Program} {w : World} {K : PySem.W.Frag} {tg : Expr} (a it : Addr) : Turn P w K tg (Itt K a) [it] it (fun i h => h.IsTupleIter it a i) where
  mem := by simp
  obj := fun i h st b hb => by
    have e : b = it := by simpa using hb
    subst e
    obtain ⟨o, e, c, d⟩ := st
    exact ⟨o, e, fun v z => by rw [d] at z; cases z⟩
  keep := fun i h h' st k => st.at fun o e => k it (by simp) o e
  item := by
    intro X hP hw hK hc i pins s σ H E I hf st hg
    subst hP hw hK
    obtain ⟨xs, x, hq, hx⟩ := hg
    obtain ⟨its, rv, p, hz⟩ := I.tuple hq
    obtain ⟨u, hu, ru⟩ := rv.get hx
    obtain ⟨f0, f1, f2, f3, f4, f5⟩ := hf it (by simp)
    refine wpAny_pyNext_tuple_item st (show s.heap.IsTuple a its.toArray from p) (x := u) (by simpa using hu) fun h' st' sb => ?_
    have I1 : Inv X pins σ H { s with heap := h' } := I.turned (t' := s.toks) (fun b o hb e => (sb.2 b hb).trans e) f0 f1 f3 f4 f5
    obtain ⟨o, e, c, d⟩ := id st'
    exact ⟨u, rfl, go_of (s := { s with heap := h' }) e c d (by decide) ⟨x, H, I1, ru, ⟨rfl, fun ys hy => by rw [I.tuple_inj hy hq]; exact hx⟩, st', fun b hb => (hf b hb).1⟩⟩
  done := by
    intro X hP hw hK hc i pins s σ H E I hf st hg
    subst hP hw hK
    obtain ⟨xs, hq, hx⟩ := hg
    obtain ⟨its, rv, p, hz⟩ := I.tuple hq
    obtain ⟨f0, f1, f2, f3, f4, f5⟩ := hf it (by simp)
    have hl := rv.length
    exact wpAny_pyNext_tuple_end (I.ok.hd hc) st (show s.heap.IsTuple a its.toArray from p) (by simp; omega) fun h' eb => ⟨rfl, I.turned (t' := s.toks) (fun b o hb e => eb b o hb e) f0 f1 f3 f4 f5⟩
  self := fun _ _ _ _ _ st h => wpAny_pyIter_tupleiter st h
theorem turn_range {P : Program} {w : World} {K : PySem.W.Frag} {tg : Expr} (it : Addr) (lo : Int) (n : Nat) : Turn P w K tg (Itr lo n) [it] it (fun i h => IsRangeIter h it (lo + (i : Nat) * 1) ((n : Int) - (i : Nat)) 1) where
  mem := by simp
  obj := fun i h st b hb => by
    have e : b = it := by simpa using hb
    subst e
    exact ⟨_, st, fun v z => by
      have z' : Data.fields _ = Data.cell v := z
      cases z'⟩
  keep := fun i h h' st k => k it (by simp) _ st
  item := by
    intro X hP hw hK hc i pins s σ H E I hf st hg
    subst hP hw hK
    obtain ⟨f0, f1, f2, f3, f4, f5⟩ := hf it (by simp)
    have W := Walks.range (prog := X.prog) (w := X.w) (I.ok.hd hc) it lo 1 n
    refine W.item i s _ _ hg st fun v h' tk hv st' kk => ?_
    obtain ⟨t, rfl⟩ := hv
    have I1 : Inv X pins σ H { s with heap := h', toks := tk } := I.turned (fun b o hb e => kk b o (by simpa using hb) e) f0 f1 f3 f4 f5
    refine ⟨_, rfl, go_of (s := { s with heap := h', toks := tk }) (n := "range_iterator") st' rfl rfl (by decide) ⟨.int (lo + i), H, I1, ⟨t, ?_⟩, ⟨rfl, rfl⟩, st', fun b hb => (hf b hb).1⟩⟩
    rw [Int.mul_one]
  done := by
    intro X hP hw hK hc i pins s σ H E I hf st hg
    subst hP hw hK
    obtain ⟨f0, f1, f2, f3, f4, f5⟩ := hf it (by simp)
    exact wpAny_pyNext_range_end (I.ok.hd hc) st (by have : n ≤ i := hg; omega) fun h' eb => ⟨rfl, I.turned (t' := s.toks) (fun b o hb e => eb b o hb e) f0 f1 f3 f4 f5⟩
  self := fun _ _ _ _ _ st h => wpAny_pyIter_rangeiter st h
end L2

namespace L2
open PySem PySem.Spec PyProof.Rows
section
variable {X : Cx} {tg : Expr}
def iList (K : PySem.W.Frag) (tl : TE) : TI := fun σ H R => tl σ H fun x H1 => ∃ a, x = .ref a ∧ (∃ xs, SqL K H1 a xs) ∧ R (Itl K a) H1
def iTup (K : PySem.W.Frag) (tl : TE) : TI := fun σ H R => tl σ H fun x H1 => ∃ a, x = .ref a ∧ (∃ xs, SqT K H1 a xs) ∧ R (Itt K a) H1
theorem pi_list {l : Expr} {tl : TE} (hl : PE X l tl) : PI X tg l (iList X.K tl) := by
  intro pins s σ H R I h
  refine thn (hl pins s σ H _ I h) fun v s1 ⟨x, H1, I1, r1, q1⟩ => ?_
  obtain ⟨a, e, ⟨xs, hq⟩, q⟩ := q1
  subst e
  cases r1
  obtain ⟨its, rv, p, hz⟩ := I1.list hq
  refine wpAny_pyIter_list p.isList ?_
  refine ⟨s1.heap.objs.size, [s1.heap.objs.size], _, _, H1, rfl, I1.kept (t' := s1.toks) fun b o e => Heap.get?_push_of_some _ e, turn_list a _, ⟨_, Heap.get?_push_size _ rfl, rfl, rfl⟩, fun b hb => ?_, q⟩
  have e : b = s1.heap.objs.size := by simpa using hb
  subst e
  exact I1.fpOk (Nat.le_refl _) (I1.hok.fresh (Nat.le_refl _))
theorem pi_tup {l : Expr} {tl : TE} (hl : PE X l tl) : PI X tg l (iTup X.K tl) := by
  intro pins s σ H R I h
  refine thn (hl pins s σ H _ I h) fun v s1 ⟨x, H1, I1, r1, q1⟩ => ?_
  obtain ⟨a, e, ⟨xs, hq⟩, q⟩ := q1
  subst e
  cases r1
  obtain ⟨its, rv, p, hz⟩ := I1.tuple hq
  refine wpAny_pyIter_tuple (show s1.heap.IsTuple a its.toArray from p) ?_
  refine ⟨s1.heap.objs.size, [s1.heap.objs.size], _, _, H1, rfl, I1.kept (t' := s1.toks) fun b o e => Heap.get?_push_of_some _ e, turn_tuple a _, ⟨_, Heap.get?_push_size _ rfl, rfl, rfl⟩, fun b hb => ?_, q⟩
  have e : b = s1.heap.objs.size := by simpa using hb
  subst e
  exact I1.fpOk (Nat.le_refl _) (I1.hok.fresh (Nat.le_refl _))
/-- a range object just made, walked -/
theorem range_it {pins : List (Addr × Obj)} {σ : St} {H : Hp} {s : Shared} {R : It → Hp → Prop} {E : Value → Shared → Prop} {lo hi : Int} {t u v : Tok} {tk : Nat} (I : Inv X pins σ H s) (h1 : -(2 ^ 62) ≤ lo) (h2 : lo < 2 ^ 62) (h3 : -(2 ^ 62) ≤ hi) (h4 : hi < 2 ^ 62)
    (q : R (Itr lo (hi - lo).toNat) H) : wpAny (model X.prog X.w) X.A (pyIter (.ref s.heap.objs.size)) (PIE X pins σ tg R) E { s with heap := s.heap.push { cls := .type "range", data := .fields #[.int lo t, .int hi u, .int 1 v] }, toks := tk } := by
  refine wpAny_pyIter_range (IsRange.new ..) (small_one h1 h2 h3 h4) ?_
  have I1 : Inv X pins σ H { s with heap := s.heap.push { cls := .type "range", data := .fields #[.int lo t, .int hi u, .int 1 v] }, toks := tk } := I.kept fun b o e => Heap.get?_push_of_some _ e
  refine ⟨(s.heap.push { cls := .type "range", data := .fields #[.int lo t, .int hi u, .int 1 v] }).objs.size, [(s.heap.push { cls := .type "range", data := .fields #[.int lo t, .int hi u, .int 1 v] }).objs.size], _, _, H, rfl,
    I1.kept (t' := tk) fun b o e => Heap.get?_push_of_some _ e, turn_range _ lo (hi - lo).toNat, ?_, fun b hb => ?_, q⟩
  · have e1 : lo + ((0 : Nat) : Int) * 1 = lo := by simp
    have e2 : (((hi - lo).toNat : Nat) : Int) - ((0 : Nat) : Int) = Builtin.Range.rangeSize lo hi 1 := by rw [rangeSize_one]; split <;> omega
    show IsRangeIter _ _ (lo + ((0 : Nat) : Int) * 1) ((((hi - lo).toNat : Nat) : Int) - ((0 : Nat) : Int)) 1
    rw [e1, e2]
    exact Heap.get?_push_size _ rfl
  · have e : b = (s.heap.push { cls := .type "range", data := .fields #[.int lo t, .int hi u, .int 1 v] }).objs.size := by simpa using hb
    subst e
    exact I1.fpOk (Nat.le_refl _) (I1.hok.fresh (Nat.le_refl _))
def iRng1 (ta : TA) : TI := fun σ H R => ta σ H fun vs H1 => ∃ j : Int, vs = [.int j] ∧ -(2 ^ 62) ≤ j ∧ j < 2 ^ 62 ∧ R (Itr 0 j.toNat) H1
theorem pi_range1 {a : Expr} {ta : TA} {p pos : Pos} (hg : Gl X "range") (hm : X.mg "range" = none) (ha : PA X [a] ta) (hs : starEach [a] X.env = [(false, eval a X.env)] := by rfl) : PI X tg (.Call (.Name "range" p) [a] [] pos) (iRng1 ta) := by
  intro pins s σ H R I h
  refine Call_ (ld_blt I hg hm boot_range (PyProof.Rows.callWith_type1 (thn (ha pos pins s σ H _ I h) fun us s1 ⟨vs, H1, I1, r1, q1⟩ => ?_) hs rfl))
  obtain ⟨j, e, q1, q2, q⟩ := q1
  subst e
  cases r1 with
  | cons r rr =>
    cases rr
    obtain ⟨t, rfl⟩ := r
    exact call_range_1 (range_it I1 (by omega) (by omega) q1 q2 (by simpa using q))

/-! ### for -/
/-- W: the invariant by the turn and a measure; N: what the body is to reach -/
def tFor (wi : TI) (g : TG) (tb : TS) : TS := fun D σ H => wi σ H fun J H1 => ∃ W : Nat → Nat → St → Hp → Prop, (∃ m, W 0 m σ H1) ∧ ∀ i m σ H, W i m σ H →
  (J.stop i H ∧ D.nx σ H) ∨ (J.go i H ∧ ∃ N : St → Hp → Prop, (∀ σ' H', N σ' H' → ∃ m', m' < m ∧ W (i + 1) m' σ' H') ∧ ∀ x H', J.yld i H x H' → g x σ H' fun σ2 H2 => tb { D with nx := N, ct := N, bk := D.nx } σ2 H2)
/-- the records at fp as they stand -/
def pinsAt (fp : List Addr) (h : Heap) : List (Addr × Obj) := fp.filterMap fun b => (h.get? b).map fun o => (b, o)
theorem mem_pinsAt {fp : List Addr} {h : Heap} {b : Addr} {o : Obj} (hb : b ∈ fp) (e : h.get? b = some o) : (b, o) ∈ pinsAt fp h := List.mem_filterMap.mpr ⟨b, hb, by rw [e]; rfl⟩
theorem of_pinsAt {fp : List Addr} {h : Heap} {p : Addr × Obj} (hp : p ∈ pinsAt fp h) : p.1 ∈ fp ∧ h.get? p.1 = some p.2 := by
  obtain ⟨b, hb, e⟩ := List.mem_filterMap.mp hp
  cases q : h.get? b with
  | none => rw [q] at e; cases e
  | some o =>
    rw [q] at e
    have e' : (b, o) = p := Option.some.inj e
    subst e'
    exact ⟨hb, q⟩
theorem Inv.pinned {pins : List (Addr × Obj)} {σ : St} {H : Hp} {s : Shared} {fp : List Addr} (I : Inv X pins σ H s) (hf : ∀ b ∈ fp, FpOk X pins H b) (ho : ∀ b ∈ fp, ∃ o, s.heap.get? b = some o ∧ ∀ v, o.data ≠ .cell v) : Inv X (pins ++ pinsAt fp s.heap) σ H s :=
  I.pins_of fun p hp => (List.mem_append.mp hp).elim (fun z => I.pin p (List.mem_append_right _ z)) fun z => by
    obtain ⟨hb, e⟩ := of_pinsAt z
    obtain ⟨f0, f1, f2, _⟩ := hf p.1 hb
    obtain ⟨o, e', d⟩ := ho p.1 hb
    rw [e] at e'; cases e'
    exact ⟨e, f0, f1, f2, d⟩
theorem Inv.unpinned {pins pl : List (Addr × Obj)} {σ : St} {H : Hp} {s : Shared} (I : Inv X (pins ++ pl) σ H s) : Inv X pins σ H s := I.pins_of fun p hp => I.pin p (List.mem_append_right _ (List.mem_append_left _ hp))
theorem ps_for {iter : Expr} {body : List Stmt} {wi : TI} {g : TG} {tb : TS} {pos : Pos} (hp : PassesOwn (model X.prog X.w) X.A X.env X.xe) (hc : X.calm = true) (hi : PI X tg iter wi) (hg : PG X tg g) (hb : PSs X body tb)
    (hs : ∀ x, foldedSetIterable iter X.env x = pure x := by intro _; rfl) : PS X (.For tg iter body [] pos) (tFor wi g tb) := by
  intro pins s σ H D I h
  refine wpAny_For (thn (hi pins s σ H _ I h) fun v s1 h1 => thn h1 fun itv s2 h2 => ?_) hs
  obtain ⟨it, fp, tn, J, H2, e, I2, T, st2, f2, W, ⟨m0, w0⟩, turn⟩ := h2
  subst e
  -- what stays true of the iterator's objects through the loop
  have stat : ∀ {H' : Hp}, (∀ b ∈ fp, H' b = none) → ∀ b ∈ fp, FpOk X pins H' b := fun hn b hb => ⟨hn b hb, (f2 b hb).2⟩
  refine codeAny_forLoop_any (fun n s' => ∃ i σ' H', Inv X pins σ' H' s' ∧ tn i s'.heap ∧ (∀ b ∈ fp, H' b = none) ∧ W i n σ' H') ?_ m0 ⟨0, σ, H2, I2, st2, fun b hb => (f2 b hb).1, w0⟩
  rintro n s3 ⟨i, σ3, H3, I3, st3, fr3, w3⟩
  rcases turn i n σ3 H3 w3 with ⟨stop, qn⟩ | ⟨go, N, hN, step⟩
  · refine wpAny_passesOwn hp (thn (T.done X rfl rfl rfl hc i pins s3 σ3 H3 X.xe I3 (stat fr3) st3 stop) fun r s4 ⟨hr, I4⟩ => ?_)
    subst hr
    exact wpAny_execs_nil ⟨σ3, H3, I4, qn⟩
  · refine wpAny_passesOwn hp (thn (T.item X rfl rfl rfl hc i pins s3 σ3 H3 X.xe I3 (stat fr3) st3 go) fun r s4 ⟨u, hr, h4⟩ => ?_)
    subst hr
    refine wpAny_passesOwn hp (thn h4 fun _ s5 ⟨x, H5, I5, r5, y5, st5, fr5⟩ => ?_)
    have I5' := I5.pinned (stat fr5) (T.obj _ _ st5)
    refine wpAny_passesOwn hp (thn (hg _ s5 σ3 H5 x u _ I5' r5 (step x H5 y5)) fun _ s6 ⟨σ6, H6, I6, q6⟩ => ?_)
    refine wpAny_passesOwn hp (thn (hb _ s6 σ6 H6 _ I6 q6) fun f s7 q7 => ?_)
    have again : ∀ {σ7 : St} {H7 : Hp}, Inv X (pins ++ pinsAt fp s5.heap) σ7 H7 s7 → N σ7 H7 → ∃ m, m < n ∧ ∃ i σ' H', Inv X pins σ' H' s7 ∧ tn i s7.heap ∧ (∀ b ∈ fp, H' b = none) ∧ W i m σ' H' := fun {σ7 H7} I7 n7 => by
      obtain ⟨m', hm, w7⟩ := hN σ7 H7 n7
      refine ⟨m', hm, i + 1, σ7, H7, I7.unpinned, T.keep _ _ _ st5 fun b hb o e => (I7.pin (b, o) (List.mem_append_right _ (List.mem_append_right _ (mem_pinsAt hb e)))).1, fun b hb => ?_, w7⟩
      obtain ⟨o, e, d⟩ := T.obj _ _ st5 b hb
      exact (I7.pin (b, o) (List.mem_append_right _ (List.mem_append_right _ (mem_pinsAt hb e)))).2.1
    cases f with
    | next => obtain ⟨σ7, H7, I7, n7⟩ := q7; exact again I7 n7
    | cont => obtain ⟨σ7, H7, I7, n7⟩ := q7; exact again I7 n7
    | brk => obtain ⟨σ7, H7, I7, q7⟩ := q7; exact ⟨σ7, H7, I7.unpinned, q7⟩
    | ret v => obtain ⟨x7, σ7, H7, I7, r7, q7⟩ := q7; exact ⟨x7, σ7, H7, I7.unpinned, r7, q7⟩
end

/-! ### the forms one uses -/
end L2

namespace L2
open PySem PySem.Spec PyProof.Rows

abbrev R2 := V → V → Hp → VK → Prop
/-- a two-place operation on values: f is binaryOp op, inplaceOp op or compareOp op -/
def OpR (X : Cx) (f : Value → Value → Sem Value) (r : R2) : Prop :=
  ∀ (pins : List (Addr × Obj)) (s : Shared) (σ : St) (H : Hp) (x y : V) (v u : Value) (Q : VK), Inv X pins σ H s → RelV x v → RelV y u → r x y H Q →
    wpAny (model X.prog X.w) X.A (f v u) (EP X pins σ Q) X.xe s
/-- a call of a value that is known (a builtin, a type) with values -/
def CallR (X : Cx) (f : Value) (r : List V → Hp → VK → Prop) : Prop :=
  ∀ (pins : List (Addr × Obj)) (s : Shared) (σ : St) (H : Hp) (xs : List V) (us : List Value) (Q : VK), Inv X pins σ H s → Vals xs us → r xs H Q →
    wpAny (model X.prog X.w) X.A (call f us) (EP X pins σ Q) X.xe s

def tOp (r : R2) (ta tb : TE) : TE := fun σ H Q => ta σ H fun x H1 => tb σ H1 fun y H2 => r x y H2 Q
/-- ints in, under C, and a value out -/
def rI (C : Int → Int → Prop) (g : Int → Int → V) : R2 := fun x y H Q => ∃ i j, x = .int i ∧ y = .int j ∧ C i j ∧ Q (g i j) H
def rI0 (g : Int → Int → V) : R2 := fun x y H Q => ∃ i j, x = .int i ∧ y = .int j ∧ Q (g i j) H

section
variable {X : Cx} {a b c : Expr} {ta tb tc : TE} {pos : Pos}

theorem binT (ha : PE X a ta) (hb : PE X b tb) {pins : List (Addr × Obj)} {s : Shared} {σ : St} {H : Hp} {R : V → V → Hp → Prop} (I : Inv X pins σ H s)
    (h : ta σ H fun x H1 => tb σ H1 fun y H2 => R x y H2) {Q : Value → Shared → Prop} {f : Value → Value → Sem Value}
    (hf : ∀ v u s2 x y H2, Inv X pins σ H2 s2 → RelV x v → RelV y u → R x y H2 → wpAny (model X.prog X.w) X.A (f v u) Q X.xe s2) :
    wpAny (model X.prog X.w) X.A (eval a X.env) (fun v s₁ => wpAny (model X.prog X.w) X.A (eval b X.env) (fun u s₂ => wpAny (model X.prog X.w) X.A (f v u) Q X.xe s₂) X.xe s₁) X.xe s := by
  refine thn (ha pins s σ H _ I h) fun v s1 ⟨x, H1, I1, r1, q1⟩ => ?_
  refine thn (hb pins s1 σ H1 _ I1 q1) fun u s2 ⟨y, H2, I2, r2, q2⟩ => ?_
  exact hf v u s2 x y H2 I2 r1 r2 q2

theorem pe_op {op : Operator} {r : R2} (ho : OpR X (binaryOp op) r) (ha : PE X a ta) (hb : PE X b tb) : PE X (.BinOp a op b pos) (tOp r ta tb) := by
  intro pins s σ H Q I h
  exact wpAny_BinOp (binT ha hb I h fun v u s2 x y H2 I2 rx ry q => ho pins s2 σ H2 x y v u Q I2 rx ry q)

/-! ### ints -/
theorem opI {f : Value → Value → Sem Value} {C : Int → Int → Prop} {g : Int → Int → Int}
    (rule : ∀ (i j : Int) (t u : Tok) (s : Shared) (Q : Value → Shared → Prop) (E : Value → Shared → Prop), C i j → Q (.int (g i j) s.toks) { s with toks := s.toks + 1 } → wpAny (model X.prog X.w) X.A (f (.int i t) (.int j u)) Q E s) :
    OpR X f (rI C fun i j => .int (g i j)) := by
  intro pins s σ H x y v u Q I rx ry h
  obtain ⟨i, j, rfl, rfl, hc, q⟩ := h
  obtain ⟨t, rfl⟩ := rx
  obtain ⟨t', rfl⟩ := ry
  exact rule i j t t' s _ _ hc ⟨.int (g i j), H, I.tok _, ⟨_, rfl⟩, q⟩
theorem opI0 {f : Value → Value → Sem Value} {g : Int → Int → Int}
    (rule : ∀ (i j : Int) (t u : Tok) (s : Shared) (Q : Value → Shared → Prop) (E : Value → Shared → Prop), Q (.int (g i j) s.toks) { s with toks := s.toks + 1 } → wpAny (model X.prog X.w) X.A (f (.int i t) (.int j u)) Q E s) :
    OpR X f (rI0 fun i j => .int (g i j)) := by
  intro pins s σ H x y v u Q I rx ry h
  obtain ⟨i, j, rfl, rfl, q⟩ := h
  obtain ⟨t, rfl⟩ := rx
  obtain ⟨t', rfl⟩ := ry
  exact rule i j t t' s _ _ ⟨.int (g i j), H, I.tok _, ⟨_, rfl⟩, q⟩
theorem opB0 {f : Value → Value → Sem Value} {g : Int → Int → Bool}
    (rule : ∀ (i j : Int) (t u : Tok) (s : Shared) (Q : Value → Shared → Prop) (E : Value → Shared → Prop), Q (.bool (g i j)) s → wpAny (model X.prog X.w) X.A (f (.int i t) (.int j u)) Q E s) :
    OpR X f (rI0 fun i j => .bl (g i j)) := by
  intro pins s σ H x y v u Q I rx ry h
  obtain ⟨i, j, rfl, rfl, q⟩ := h
  obtain ⟨t, rfl⟩ := rx
  obtain ⟨t', rfl⟩ := ry
  exact rule i j t t' s _ _ ⟨.bl (g i j), H, I, rfl, q⟩

def CPow (i j : Int) : Prop := 0 ≤ j ∧ j ≤ 1000000 ∧ i.natAbs < 2 ^ 64
def CMul (i j : Int) : Prop := (-(2 ^ 64) < i ∧ i < 2 ^ 64) ∨ (-(2 ^ 64) < j ∧ j < 2 ^ 64)
theorem CMul.ok {i j : Int} (h : CMul i j) : IntMulOk i j := by
  rcases h with ⟨h1, h2⟩ | ⟨h1, h2⟩
  · exact .of_left (intBits_le_64 h1 h2)
  · exact .of_right (intBits_le_64 h1 h2)

theorem op_add : OpR X (binaryOp .Add) (rI0 fun i j => .int (i + j)) := opI0 fun _ _ _ _ _ _ _ q => add_int q
theorem op_sub : OpR X (binaryOp .Sub) (rI0 fun i j => .int (i - j)) := opI0 fun _ _ _ _ _ _ _ q => sub_int q
theorem op_mul : OpR X (binaryOp .Mult) (rI CMul fun i j => .int (i * j)) := opI fun _ _ _ _ _ _ _ hc q => mul_int q hc.ok
/-- % by a positive divisor of any size -/
theorem op_mod : OpR X (binaryOp .Mod) (rI (fun _ j => 0 < j) fun i j => .int (i % j)) := opI fun i j _ _ _ _ _ hc q => by
  have h1 : (0 : Int) < j := hc
  exact mod_int' (by omega) (by rw [Int.fmod_eq_emod_of_nonneg i (by omega)]; exact q)
theorem op_pow : OpR X (binaryOp .Pow) (rI CPow fun i j => .int (i ^ j.toNat)) := opI fun _ _ _ _ _ _ _ hc q => pow_int_small hc.1 hc.2.1 hc.2.2 q

/-! ### bools among ints: n += (a < b) -/
end

/-! ### comparisons -/

section
variable {X : Cx} {a b c : Expr} {ta tb tc : TE} {pos : Pos}

theorem op_lt : OpR X (compareOp .Lt) (rI0 fun i j => .bl (decide (i < j))) := opB0 fun _ _ _ _ _ _ _ q => lt_int q
theorem op_le : OpR X (compareOp .LtE) (rI0 fun i j => .bl (decide (i ≤ j))) := opB0 fun _ _ _ _ _ _ _ q => le_int q
theorem op_gt : OpR X (compareOp .Gt) (rI0 fun i j => .bl (decide (j < i))) := opB0 fun _ _ _ _ _ _ _ q => gt_int q
theorem op_ge : OpR X (compareOp .GtE) (rI0 fun i j => .bl (decide (j ≤ i))) := opB0 fun _ _ _ _ _ _ _ q => ge_int q

/-- two rules for one operation: by cases -/
theorem OpR.or {f : Value → Value → Sem Value} {r r' : R2} (h : OpR X f r) (h' : OpR X f r') : OpR X f (fun x y H Q => r x y H Q ∨ r' x y H Q) := by
  intro pins s σ H x y v u Q I rx ry q
  rcases q with q | q
  · exact h pins s σ H x y v u Q I rx ry q
  · exact h' pins s σ H x y v u Q I rx ry q

theorem nomark (b : Expr) {op : CmpOp} (h : op ≠ .In := by decide) (h2 : op ≠ .NotIn := by decide) : behindInMarks op b = false := by
  have e1 : (op == CmpOp.In) = false := by cases op <;> first | rfl | exact absurd rfl h
  have e2 : (op == CmpOp.NotIn) = false := by cases op <;> first | rfl | exact absurd rfl h2
  cases b <;> simp [behindInMarks, e1, e2]
/-- a comparison as a value; hm: nomark b, or (for in, not in) by with_unfolding_all rfl -/
theorem pe_cmpR {op : CmpOp} {r : R2} (ho : OpR X (compareOp op) r) (ha : PE X a ta) (hb : PE X b tb) (hm : behindInMarks op b = false) : PE X (.Compare a [op] [b] pos) (tOp r ta tb) := by
  intro pins s σ H Q I h
  exact wpAny_Compare1 (binT ha hb I h fun v u s2 x y H2 I2 rx ry q => ho pins s2 σ H2 x y v u Q I2 rx ry q) hm
/-- a reading of a value as a test -/
def tTest (t : TE) : TT := fun σ H Q => t σ H fun x H' => ∃ k, x = .bl k ∧ Q k H'
theorem pt_cmpR {op : CmpOp} {r : R2} (ho : OpR X (compareOp op) r) (ha : PE X a ta) (hb : PE X b tb) (hm : behindInMarks op b = false) : PT X (.Compare a [op] [b] pos) (tTest (tOp r ta tb)) := by
  intro pins s σ H Q I h
  refine wpAny_isTrue_Compare1 (thn (ha pins s σ H _ I h) fun v s1 ⟨x, H1, I1, r1, q1⟩ => thn (hb pins s1 σ H1 _ I1 q1) fun u s2 ⟨y, H2, I2, r2, q2⟩ =>
    thn (ho pins s2 σ H2 x y v u _ I2 r1 r2 q2) fun c s3 ⟨z, H3, I3, r3, k, e, q3⟩ => ?_) hm
  subst e
  cases r3
  exact wpAny_truthy_bool ⟨H3, I3, q3⟩

/-! ### truth -/
theorem line63 : (sizeLine : Nat) < 2 ^ 63 := by rw [sizeLine_eq]; decide

/-! ### strs and bytes -/

/-! ### scalar builtins, by CallR -/
theorem vals1 {x : V} {us : List Value} (r : Vals [x] us) : ∃ u, us = [u] ∧ RelV x u := by
  cases r with
  | cons r1 r2 => cases r2; exact ⟨_, rfl, r1⟩
theorem vals2 {x y : V} {us : List Value} (r : Vals [x, y] us) : ∃ u w', us = [u, w'] ∧ RelV x u ∧ RelV y w' := by
  cases r with
  | cons r1 r2 =>
    cases r2 with
    | cons r3 r4 => cases r4; exact ⟨_, _, rfl, r1, r3⟩
theorem call_min2 (hc : X.calm = true) : CallR X (.builtin "min") (fun xs H Q => ∃ i j, xs = [.int i, .int j] ∧ Q (.int (if j < i then j else i)) H) := by
  intro pins s σ H xs us Q I r h
  obtain ⟨i, j, rfl, q⟩ := h
  obtain ⟨u, w', rfl, ⟨t, rfl⟩, ⟨t', rfl⟩⟩ := vals2 r
  refine min_two_ints (I.ok.hd hc) fun h' tk k => ⟨_, H, I.kept k, ?_, q⟩
  by_cases hj : j < i
  · rw [if_pos hj, if_pos hj]; exact ⟨_, rfl⟩
  · rw [if_neg hj, if_neg hj]; exact ⟨_, rfl⟩
end
end L2

namespace L2
open PySem PySem.Spec PyProof.Rows

/-! ### an instance, its attributes a map -/


/-! ### the attributes as a list of pairs -/


/-! ### what of the text a class must have -/
structure Cls (K : PySem.W.Frag) (C : Addr) : Prop where
  pg : PySem.W.plainGet K C Str.empty = true
  hd : PySem.W.hasDictIn K C = true
  po : PySem.W.plainOver K C = true
  sa : PySem.W.findIn K (.ref C) "__setattr__" = some (some (.builtin "object.__setattr__"))
theorem Cls.get {K : PySem.W.Frag} {C : Addr} (c : Cls K C) (f : Str) : PySem.W.plainGet K C f = true := c.pg

section
variable {X : Cx} {pins : List (Addr × Obj)} {σ : St} {H : Hp} {s : Shared} {a C dx : Addr} {fs : List (Str × V)} {f : Str} {v : V} {A : Around} {E : Value → Shared → Prop}

/-- a new instance, tracked, without attributes -/
theorem Inv.made (I : Inv X pins σ H s) : Inv X pins σ (upd (upd H s.heap.objs.size (.own (s.heap.objs.size + 1))) (s.heap.objs.size + 1) (.ins C s.heap.objs.size []))
    { s with heap := (s.heap.push PySem.W.emptyDict).push (PySem.W.instObj C s.heap.objs.size) } := by
  have e1 : (s.heap.push PySem.W.emptyDict).get? s.heap.objs.size = some PySem.W.emptyDict := Heap.get?_push_size s.heap rfl
  have e2 : ((s.heap.push PySem.W.emptyDict).push (PySem.W.instObj C s.heap.objs.size)).get? (s.heap.objs.size + 1) = some (PySem.W.instObj C s.heap.objs.size) := by
    have := Heap.get?_push_size (s.heap.push PySem.W.emptyDict) (o := PySem.W.instObj C s.heap.objs.size) rfl
    rwa [Heap.size_push] at this
  have e3 : (s.heap.push PySem.W.emptyDict).Ns s.heap.objs.size (fun _ => none) := ⟨PySem.W.emptyDict, #[], _, e1, rfl, (fun e he => absurd he (by simp)), fun _ => rfl⟩
  have I1 := I.laid (a := s.heap.objs.size) (o := .own (s.heap.objs.size + 1)) (h' := s.heap.push PySem.W.emptyDict) (t' := s.toks) (fun b u q => Heap.get?_push_of_some _ q) (Nat.le_refl _) ⟨_, e1⟩
  refine I1.laid (a := s.heap.objs.size + 1) (o := .ins C s.heap.objs.size []) (t' := s.toks) (fun b u q => Heap.get?_push_of_some _ q) (Nat.le_of_eq (Heap.size_push _ _)) ?_
  have ne : s.heap.objs.size ≠ s.heap.objs.size + 1 := Nat.ne_of_lt (Nat.lt_succ_self _)
  refine ⟨by rw [upd_ne ne, upd_same], Nat.zero_le _, ne, e2, fun _ => none, (Heap.Ns1.of_empty e3).at fun o q => Heap.get?_push_of_some _ q, fun _ => True.intro, fun y hy => absurd rfl hy⟩

end

/-! ### readings and rules -/


/-! ### isinstance -/
end L2

namespace L2
open PySem PySem.Spec PyProof.Rows

/-! ### room -/
structure Room (k : Nat) (A : Around) : Prop where
  hd : A.handled = none
  dp : A.depth + 3 * k + 5 < recursionLimit
  un : A.units + 16 * k + 200 < cLine
theorem Room.mono {j k : Nat} {A : Around} (r : Room k A) (h : j ≤ k) : Room j A := ⟨r.hd, by have := r.dp; omega, by have := r.un; omega⟩
theorem Room.deeper {k : Nat} {A : Around} (r : Room (k + 1) A) (env : Env) : Room k (A.deeper env) :=
  ⟨r.hd, by have := r.dp; show A.depth + 1 + 3 * k + 5 < _; omega, by have := r.un; show A.units + 3 + 16 * k + 200 < _; omega⟩
theorem Room.in1 {k : Nat} {A : Around} (r : Room (k + 1) A) : Room k A.in1 :=
  ⟨r.hd, by have := r.dp; show A.depth + 3 * k + 5 < _; omega, by have := r.un; show A.units + 1 + 16 * k + 200 < _; omega⟩
theorem Room.depth {k : Nat} {A : Around} (r : Room k A) : A.depth < recursionLimit := by have := r.dp; omega
theorem Room.units {k : Nat} {A : Around} (r : Room k A) : A.units + 64 < cLine := by have := r.un; omega

/-! ### argument lists and displays -/
def tNil : TA := fun _ H Q => Q [] H
def tCons (ta : TE) (tr : TA) : TA := fun σ H Q => ta σ H fun x H1 => tr σ H1 fun xs H2 => Q (x :: xs) H2
section
variable {X : Cx} {e : Expr} {es : List Expr} {te : TE} {t : TA} {pos : Pos}
theorem pa_nil : PA X [] tNil := fun _ _ _ _ H Q I h => Calls.spliced_nil ⟨[], H, I, .nil, h⟩
theorem pa_cons (ha : PE X e te) (hr : PA X es t) (hs : starEach (e :: es) X.env = (false, eval e X.env) :: starEach es X.env := by rfl) : PA X (e :: es) (tCons te t) := by
  intro pos pins s σ H Q I h
  rw [hs]
  show wpAny _ _ (spliced ((false, eval e X.env) :: backTo pos (starEach es X.env))) _ _ s
  refine Calls.spliced_cons (thn (ha pins s σ H _ I h) fun u s1 ⟨x, H1, I1, r1, q1⟩ => ?_)
  exact thn (hr pos pins s1 σ H1 _ I1 q1) fun us s2 ⟨xs, H2, I2, r2, q2⟩ => ⟨x :: xs, H2, I2, .cons r1 r2, q2⟩

/-- a tuple, a list of written items -/
def tTup (t : TA) : TE := fun σ H Q => t σ H fun xs H1 => xs.length ≤ sizeLine ∧ ∀ p, H1 p = none → Q (.ref p) (upd H1 p (.tup xs))
def tLst (t : TA) : TE := fun σ H Q => t σ H fun xs H1 => xs.length ≤ sizeLine ∧ ∀ p, H1 p = none → Q (.ref p) (upd H1 p (.lst xs))
theorem pe_tup {x1} (h : PA X es t) : PE X (.Tuple es x1 pos) (tTup t) := by
  intro pins s σ H Q I hq
  refine wpAny_Tuple_spliced (thn (h pos pins s σ H _ I hq) fun us s1 ⟨xs, H1, I1, r, z, q⟩ => ⟨by rw [← r.length]; exact z, ?_⟩)
  have hf : H1 s1.heap.objs.size = none := I1.hok.fresh (Nat.le_refl _)
  refine ⟨.ref s1.heap.objs.size, upd H1 s1.heap.objs.size (.tup xs), I1.laid (t' := s1.toks) (fun b u e => Heap.get?_push_of_some _ e) (Nat.le_refl _) ?_, rfl, q _ hf⟩
  exact ⟨z, us, r, ⟨_, Heap.get?_push_size _ rfl, rfl, _, rfl⟩⟩
theorem pe_lst (h : PA X es t) : PE X (.List es pos) (tLst t) := by
  intro pins s σ H Q I hq
  refine wpAny_List_spliced (thn (h pos pins s σ H _ I hq) fun us s1 ⟨xs, H1, I1, r, z, q⟩ => ⟨by rw [← r.length]; exact z, ?_⟩)
  have hf : H1 s1.heap.objs.size = none := I1.hok.fresh (Nat.le_refl _)
  refine ⟨.ref s1.heap.objs.size, upd H1 s1.heap.objs.size (.lst xs), I1.laid (t' := s1.toks) (fun b u e => Heap.get?_push_of_some _ e) (Nat.le_refl _) ?_, rfl, q _ hf⟩
  exact ⟨z, us, 0, r, Heap.get?_push_size _ rfl⟩
end

/-! ### what a def promises -/
/-- a def's promise: the bound arguments in the parameters' order, the heap, the wanted end, the wanted exception -/
abbrev Sp := List V → Hp → VK → XK → Prop
/-- how an exception lies behind a call (file 08 gives it): the callers' frames, abstract heap and state ahead of the call, the wish, the exception, the state -/
abbrev CXT := List Env → Hp → Shared → XK → Value → Shared → Prop

/-- the state at a call -/
structure Env0 (P : Program) (w : World) (K : PySem.W.Frag) (mg : Str → Option Value) (base : Heap) (A : Around) (outer : List Env) (s : Shared) (H : Hp) : Prop where
  frames : A.frames = some outer
  mod : Mod K mg base
  bs : ∀ b o, base.get? b = some o → s.heap.get? b = some o ∧ H b = none
  bsz : base.objs.size ≤ s.heap.objs.size
  funs : s.heap.FunFrames base outer
  frf : ∀ b ∈ frs outer, H b = none
  hok : HOk P w H s.heap
  bare : AllBare s.gens
/-- a call's end -/
def CE (outer : List Env) (P : Program) (w : World) (H : Hp) (s : Shared) (Q : VK) (u : Value) (s' : Shared) : Prop :=
  ∃ v H', s'.os = s.os ∧ AllBare s'.gens ∧ Un (frs outer) [] H H' s.heap s'.heap ∧ HOk P w H' s'.heap ∧ RelV v u ∧ Q v H'
def CR (CX : CXT) (outer : List Env) (P : Program) (w : World) (H : Hp) (s : Shared) (Q : VK) (E : XK) (r : Result) (s' : Shared) : Prop :=
  match r with
  | .ok (.ret u) => CE outer P w H s Q u s'
  | .ok _ => False
  | .error e => CX outer H s E e s'
structure FnOk (P : Program) (w : World) (K : PySem.W.Frag) (mg : Str → Option Value) (base : Heap) (CX : CXT) (k : Nat) (f : Addr) (fd : FuncData) (ps : List Str) (sp : Sp) : Prop where
  len : ∀ vs H Q E, sp vs H Q E → vs.length = ps.length
  run : ∀ (A : Around) (outer : List Env) (s : Shared) (H : Hp) (args : Args) (us : List Value) (vs : List V) (Q : VK) (E : XK), Room k A → Env0 P w K mg base A outer s H → BindsTo s fd args (ps.zip us) → Vals vs us → sp vs H Q E →
    codeAny (model P w) A (.call (.ref f) args) (CR CX outer P w H s Q E) s
theorem FnOk.mono {P : Program} {w : World} {K : PySem.W.Frag} {mg : Str → Option Value} {base : Heap} {CX : CXT} {j k : Nat} {f : Addr} {fd : FuncData} {ps : List Str} {sp : Sp} (F : FnOk P w K mg base CX j f fd ps sp) (h : j ≤ k) :
    FnOk P w K mg base CX k f fd ps sp := ⟨F.len, fun A outer s H args us vs Q E hr => F.run A outer s H args us vs Q E (hr.mono h)⟩
/-- a weaker promise -/
theorem FnOk.imp {P : Program} {w : World} {K : PySem.W.Frag} {mg : Str → Option Value} {base : Heap} {CX : CXT} {k : Nat} {f : Addr} {fd : FuncData} {ps : List Str} {sp sp' : Sp} (F : FnOk P w K mg base CX k f fd ps sp)
    (h : ∀ vs H Q E, sp' vs H Q E → sp vs H Q E) : FnOk P w K mg base CX k f fd ps sp' :=
  ⟨fun vs H Q E q => F.len vs H Q E (h _ _ _ _ q), fun A outer s H args us vs Q E hr he hb hv hs => F.run A outer s H args us vs Q E hr he hb hv (h _ _ _ _ hs)⟩

theorem Env0.in1 {P : Program} {w : World} {K : PySem.W.Frag} {mg : Str → Option Value} {base : Heap} {A : Around} {outer : List Env} {s : Shared} {H : Hp} (e : Env0 P w K mg base A outer s H) :
    Env0 P w K mg base A.in1 outer s H := ⟨e.frames, e.mod, e.bs, e.bsz, e.funs, e.frf, e.hok, e.bare⟩

section
variable {X : Cx} {pins : List (Addr × Obj)} {σ : St} {H : Hp} {s s' : Shared}
/-- from a body: what a callee wants -/
theorem Inv.env0 (I : Inv X pins σ H s) : Env0 X.prog X.w X.K X.mg X.base X.A X.stack s H :=
  ⟨I.ok.frames, I.ok.mod, I.bs, Nat.le_trans I.ok.bsz I.sz, I.stack, I.stkFree, I.hok, I.bare⟩
/-- behind a call -/
theorem Inv.after {Q : VK} {u : Value} (I : Inv X pins σ H s) (h : CE X.stack X.prog X.w H s Q u s') : EP X pins σ Q u s' := by
  obtain ⟨v, H', os, bare, un, hok, r, q⟩ := h
  obtain ⟨hh, g, d, t, os'⟩ := s'
  obtain rfl : os' = s.os := os
  exact ⟨v, H', I.call (h' := hh) (g' := g) (d' := d) (t' := t) (ch := []) un hok bare (fun b z => absurd z (by simp)), r, q⟩
end

/-! ### calls -/
/-- f(..): the written arguments, then the defaults dvs; E: what is wanted of an exception -/
def tCall (sp : Sp) (dvs : List V) (E : XK) (t : TA) : TE := fun σ H Q => t σ H fun vs H1 => sp (vs ++ dvs) H1 Q E

/-- how the parameters are bound: us the positional arguments, kw the keywords' values by name, ds the defaults that fill up -/
def Binds (K : PySem.W.Frag) (fd : FuncData) (ps : List Str) (ds : List Value) : Prop :=
  ∀ (s : Shared) (us : List Value), K.In s.heap → (us ++ ds).length = ps.length → BindsTo s fd ⟨us, []⟩ (ps.zip (us ++ ds))
/-- every parameter is given -/
theorem Binds.all {K : PySem.W.Frag} {fd : FuncData} {ps : List Str} (h : ∀ us : List Value, us.length = ps.length → bindArgs fd ⟨us, []⟩ = pure (ps.zip us)) : Binds K fd ps [] := fun s us _ hl => by
  rw [List.append_nil] at hl ⊢
  exact .of_eq (h us hl)

/-- an exception of a callee reaches what this body wants of exceptions -/
def Passes (CX : CXT) (X : Cx) (E : XK) : Prop := ∀ (pins : List (Addr × Obj)) (σ : St) (H : Hp) (s : Shared) (e : Value) (s' : Shared), Inv X pins σ H s → CX X.stack H s E e s' → X.xe e s'

section
variable {X : Cx} {CX : CXT} {k : Nat} {f C : Addr} {fd : FuncData} {ps : List Str} {sp : Sp} {dvs : List V} {ds : List Value} {E : XK} {x m : Str} {p pos apos : Pos} {e o : Expr} {es : List Expr} {ta : TE} {t : TA}

/-- the callee runs -/
theorem run_fn {pins : List (Addr × Obj)} {σ : St} {H : Hp} {s : Shared} {Q : VK} {us : List Value} {vs : List V} (F : FnOk X.prog X.w X.K X.mg X.base CX k f fd ps sp) (hr : Room k X.A) (hb : Binds X.K fd ps ds) (hd : Vals dvs ds) (hx : Passes CX X E)
    (I : Inv X pins σ H s) (r : Vals vs us) (h : sp (vs ++ dvs) H Q E) : wpAny (model X.prog X.w) X.A (call (.ref f) us) (EP X pins σ Q) X.xe s := by
  have r2 : Vals (vs ++ dvs) (us ++ ds) := r.append hd
  have hl : (us ++ ds).length = ps.length := by rw [← r2.length]; exact F.len _ _ _ _ h
  refine wpAny_call (codeAny_mono (F.run X.A X.stack s H ⟨us, []⟩ (us ++ ds) (vs ++ dvs) Q E hr I.env0 (hb s us I.kIn hl) r2 h) fun r s' hq => ?_)
  cases r with
  | error e => exact hx pins σ H s e s' I hq
  | ok fl =>
    cases fl with
    | ret u => exact I.after hq
    | next => exact False.elim hq
    | brk => exact False.elim hq
    | cont => exact False.elim hq

theorem pe_call (F : FnOk X.prog X.w X.K X.mg X.base CX k f fd ps sp) (hr : Room k X.A) (hg : Gl X x) (hm : X.mg x = some (.ref f)) (hk : PySem.W.keepIn X.K (.ref f) = true) (hb : Binds X.K fd ps ds) (hd : Vals dvs ds) (hx : Passes CX X E)
    (ha : PA X (e :: es) t) (hdb : (x == ("__debug__" : Str)) = false := by decide) (he : starEach (e :: es) X.env = (false, eval e X.env) :: starEach es X.env := by rfl) (hpl : (backTo pos (starEach es X.env)).any (·.1) = false := by rfl) :
    PE X (.Call (.Name x p) (e :: es) [] pos) (tCall sp dvs E t) := by
  intro pins s σ H Q I h
  refine wpAny_Call_Name_kw (ld_glob I hg hm ?_ hdb)
  refine PySem.W.callWith_K (h₀ := X.base) I.ok.mod.kin hk (thn (ha pos pins s σ H _ I h) fun us s1 ⟨vs, H1, I1, r, q⟩ => ⟨I1.kIn, ?_⟩) he hpl
  exact run_fn F hr hb hd hx I1 r q

end

/-! ### keywords -/

/-! ### a def's body keeps its promise -/
/-- names: the parameters first -/
structure FnScope (N P : List Str) (sc : Scope) : Prop where
  kind : sc.kind = .function
  co : sc.isCoroutine = false
  gen : sc.isGenerator = false
  nd : N.Nodup
  pre : N.take P.length = P
  par : ∀ x ∈ P, sc.names.lookup x = some .local ∨ sc.names.lookup x = some .cell
  nofree : ∀ y ∈ sc.names, y.2 ≠ .free

theorem bindL_out {kindOf : Str → Option NameKind} {x : Str} : ∀ {binds : List (Str × Value)} {m : Str → Option Value}, (∀ v, (x, v) ∉ binds) → bindL kindOf binds m x = m x
  | [], _, _ => rfl
  | (n, v) :: r, m, h => by
    unfold bindL
    rw [bindL_out fun w hw => h w (List.mem_cons_of_mem _ hw)]
    split
    · have : x ≠ n := by rintro rfl; exact h v List.mem_cons_self
      simp [this]
    · rfl
theorem bindC_out {kindOf : Str → Option NameKind} {x : Str} : ∀ {binds : List (Str × Value)} {m : Str → Option Value}, (∀ v, (x, v) ∉ binds) → bindC kindOf binds m x = m x
  | [], _, _ => rfl
  | (n, v) :: r, m, h => by
    unfold bindC
    rw [bindC_out fun w hw => h w (List.mem_cons_of_mem _ hw)]
    split
    · rfl
    · have : x ≠ n := by rintro rfl; exact h v List.mem_cons_self
      simp [this]
theorem bindL_get {kindOf : Str → Option NameKind} {x : Str} {v : Value} : ∀ {P : List Str} {vs : List Value} {i : Nat} {m : Str → Option Value}, P.Nodup → P[i]? = some x → vs[i]? = some v → kindOf x = some .local →
    bindL kindOf (P.zip vs) m x = some v
  | [], _, _, _, _, h, _, _ => by simp at h
  | _ :: _, [], _, _, _, _, h, _ => by simp at h
  | p :: P, w :: vs, 0, m, nd, h1, h2, hk => by
    simp at h1 h2; subst h1; subst h2
    show bindL kindOf ((p, w) :: P.zip vs) m p = _
    unfold bindL
    rw [bindL_out fun v hv => (List.nodup_cons.mp nd).1 (List.of_mem_zip hv).1, if_pos hk]
    simp
  | p :: P, w :: vs, i + 1, m, nd, h1, h2, hk => by
    show bindL kindOf ((p, w) :: P.zip vs) m x = _
    unfold bindL
    exact bindL_get (i := i) (List.nodup_cons.mp nd).2 (by simpa using h1) (by simpa using h2) hk
theorem bindC_get {kindOf : Str → Option NameKind} {x : Str} {v : Value} : ∀ {P : List Str} {vs : List Value} {i : Nat} {m : Str → Option Value}, P.Nodup → P[i]? = some x → vs[i]? = some v → kindOf x ≠ some .local →
    bindC kindOf (P.zip vs) m x = some v
  | [], _, _, _, _, h, _, _ => by simp at h
  | _ :: _, [], _, _, _, _, h, _ => by simp at h
  | p :: P, w :: vs, 0, m, nd, h1, h2, hk => by
    simp at h1 h2; subst h1; subst h2
    show bindC kindOf ((p, w) :: P.zip vs) m p = _
    unfold bindC
    rw [bindC_out fun v hv => (List.nodup_cons.mp nd).1 (List.of_mem_zip hv).1, if_neg hk]
    simp
  | p :: P, w :: vs, i + 1, m, nd, h1, h2, hk => by
    show bindC kindOf ((p, w) :: P.zip vs) m x = _
    unfold bindC
    exact bindC_get (i := i) (List.nodup_cons.mp nd).2 (by simpa using h1) (by simpa using h2) hk

/-- the names' values at the entry -/
def start (N : List Str) (vs : List V) : St := vs.map some ++ List.replicate (N.length - vs.length) none

/-- the context of a def's body, at its entry; an exception leaves the frame, then lies as CX says -/
def cxOf (CX : CXT) (P : Program) (w : World) (K : PySem.W.Frag) (mg : Str → Option Value) (base : Heap) (N : List Str) (qual : Str) (scope : Scope) (f : Addr) (cd : Value) (A : Around) (outer : List Env) (s : Shared) (H : Hp) (E : XK) : Cx where
  prog := P
  w := w
  K := K
  mg := mg
  base := base
  A := A.deeper (envOfC qual scope s.heap.objs.size f cd)
  N := N
  s₀ := s
  H₀ := H
  env := envOfC qual scope s.heap.objs.size f cd
  outer := outer
  stack := envOfC qual scope s.heap.objs.size f cd :: outer
  ex := []
  calm := true
  fn := fun _ => true
  pn := []
  xe := fun e s' => wpAny (model P w) (A.deeper (envOfC qual scope s.heap.objs.size f cd)) (leaving (envOfC qual scope s.heap.objs.size f cd) e) (fun _ s'' => CX outer H s E e s'') (fun e' s'' => CX outer H s E e' s'') s'

theorem cell_has {sc : Scope} {n : Nat} {x : Str} (h : sc.names.lookup x = some .cell) : ∃ c, (cellsFrom n sc.names []).lookup x = some c := by
  have q := PySem.W.cellsFrom_some sc.names n [] (.inl h)
  exact Option.isSome_iff_exists.mp q

theorem inv_start {CX : CXT} {P : Program} {w : World} {K : PySem.W.Frag} {mg : Str → Option Value} {base : Heap} {N ps : List Str} {qual : Str} {scope : Scope} {f : Addr} {cd : Value} {A : Around} {outer : List Env} {s s1 : Shared} {H : Hp} {E : XK} {us : List Value} {vs : List V}
    (S : FnScope N ps scope) (hd : A.handled = none) (e0 : Env0 P w K mg base A outer s H) (hl : vs.length = ps.length) (r : Vals vs us)
    (x : InCallC s s.heap.objs.size (bindL (envOfC qual scope s.heap.objs.size f cd).kindOf (ps.zip us) fun _ => none) (cellsFrom (s.heap.objs.size + 1) scope.names []) (bindC (envOfC qual scope s.heap.objs.size f cd).kindOf (ps.zip us) fun _ => none) s1) :
    Inv (cxOf CX P w K mg base N qual scope f cd A outer s H E) [] (start N vs) H s1 := by
  have hpl : ps.length ≤ N.length := by have := congrArg List.length S.pre; rw [List.length_take] at this; omega
  obtain ⟨h1, tk, rfl, hk⟩ := x.done
  have noA : ∀ b : Addr, b ∉ (cxOf CX P w K mg base N qual scope f cd A outer s H E).ex := fun b z => absurd (show b ∈ ([] : List Addr) from z) (by simp)
  refine ⟨⟨e0.mod, S.kind, rfl, rfl, Nat.le_refl _, fun y z c h1 h2 => ?_, fun y hy => ?_, fun y c _ h => ?_, fun _ => hd, Around.frames_deeper e0.frames, .inr ⟨rfl, rfl⟩, fun b z => absurd z (noA b), e0.bs, e0.bsz, fun b _ _ => noA b, fun b z => absurd z (noA b), e0.funs, e0.frf⟩,
    rfl, e0.bare, Un.kept hk, ⟨_, x.toInCall.ns, fun i y v h1 h2 h3 => ?_⟩, fun y c h => ⟨_, x.cell y c h⟩, e0.hok.fresh (Nat.le_refl _), fun y c h => ?_, fun p hp => absurd (show p ∈ ([] : List (Addr × Obj)) from hp) (by simp), e0.hok.kept hk, ?_⟩
  · exact name_of_addr x.apart (PySem.mem_of_lookup h1) (PySem.mem_of_lookup h2)
  · have hy : scope.names.lookup y = some .cell ∨ scope.names.lookup y = some .free := hy
    rcases hy with hy | hy
    · exact cell_has hy
    · exact absurd rfl (S.nofree _ (PySem.mem_of_lookup hy))
  · exact Nat.le_of_lt (x.above y c (PySem.mem_of_lookup h))
  · have hi : i < vs.length := by
      unfold start at h2
      by_cases hi : i < vs.length
      · exact hi
      · rw [List.getElem?_append_right (by simpa using hi)] at h2
        rw [List.getElem?_replicate] at h2
        split at h2 <;> cases h2
    have ha : vs[i]? = some v := by
      unfold start at h2
      rw [List.getElem?_append_left (by simpa using hi), List.getElem?_map] at h2
      cases e : vs[i]? with
      | none => rw [e] at h2; cases h2
      | some a => rw [e] at h2; cases h2; rfl
    obtain ⟨u, hu, rv⟩ := r.get ha
    have hp : ps[i]? = some y := by
      rw [← S.pre, List.getElem?_take_of_lt (by omega)]; exact h1
    have ndP : ps.Nodup := by rw [← S.pre]; exact S.nd.sublist (List.take_sublist _ _)
    refine ⟨u, rv, ?_⟩
    rcases S.par y (List.mem_of_getElem? hp) with k | k
    · exact .inl ⟨k, bindL_get ndP hp hu k⟩
    · obtain ⟨c, e⟩ := cell_has (n := s.heap.objs.size + 1) k
      refine .inr ⟨.inl k, c, e, ?_⟩
      have q := x.cell y c e
      rw [bindC_get ndP hp hu (by show scope.names.lookup y ≠ _; rw [k]; decide)] at q
      exact q
  · exact e0.hok.fresh (Nat.le_of_lt (x.above y c (PySem.mem_of_lookup h)))
  · unfold start
    show _ = N.length
    rw [List.length_append, List.length_map, List.length_replicate]
    omega

/-- THE RULE: a def (or a method) of the text, by its body. The body's reading t is chosen for each entry; it is run at the parameters' values -/
theorem fn_of {CX : CXT} {P : Program} {w : World} {K : PySem.W.Frag} {mg : Str → Option Value} {base : Heap} {k : Nat} {f : Addr} {name qual : Str} {params : Arguments} {body : List Stmt} {scope : Scope} {dV kV doc pm cdv ct oc : Value} {an od : Option Addr}
    {osl : Array (Option Value)} {N ps : List Str} {sp : Sp} (lk : K.lookup f = some ⟨oc, od, .func (PySem.W.fnOf name qual params body scope dV kV doc pm an cdv ct), osl⟩) (hcd : PySem.W.codeIn K cdv qual = true) (S : FnScope N ps scope)
    (len : ∀ vs H Q E, sp vs H Q E → vs.length = ps.length)
    (hbody : ∀ (A : Around) (outer : List Env) (s : Shared) (H : Hp) (vs : List V) (Q : VK) (E : XK), Room k (A.deeper (envOfC qual scope s.heap.objs.size f cdv)) → sp vs H Q E →
      ∃ t, PSs (cxOf CX P w K mg base N qual scope f cdv A outer s H E) body t ∧ t { nx := fun _ H' => Q .non H', rt := Q } (start N vs) H) :
    FnOk P w K mg base CX (k + 1) f (PySem.W.fnOf name qual params body scope dV kV doc pm an cdv ct) ps sp := by
  refine ⟨len, fun A outer s H args us vs Q E hr e0 hb r hsp => ?_⟩
  have hl := len _ _ _ _ hsp
  have KX : K.In s.heap := e0.mod.kin.keeps fun b o e => (e0.bs b o e).1
  have lim : s.heap.NoLimit := e0.mod.nolimit.keeps fun b o e => (e0.bs b o e).1
  have hkind : ∀ y ∈ ps.zip us, scope.names.lookup y.1 = some .local ∨ (scope.names.lookup y.1 = some .cell ∧ ((cellsFrom (s.heap.objs.size + 1) scope.names []).lookup y.1).isSome = true) := fun ⟨n, v⟩ hy => by
    rcases S.par n (List.of_mem_zip hy).1 with q | q
    · exact .inl q
    · exact .inr ⟨q, PySem.W.cellsFrom_some _ _ _ (.inl q)⟩
  refine codeAny_call_function hr.depth (KX _ _ lk) rfl S.co S.gen rfl (PySem.W.codeRec_of KX hcd) (hb _ _ _ _ ?_)
  refine wpAny_newFunctionEnv_cells S.kind hkind fun env he s1 x => ?_
  subst he
  refine ⟨lim.keeps x.toInCall.keep, codeAny_func ?_⟩
  obtain ⟨t, ht, hq⟩ := hbody A outer s H vs Q E (hr.deeper _) hsp
  have I : Inv (cxOf CX P w K mg base N qual scope f cdv A outer s H E) [] (start N vs) H s1 := inv_start S hr.hd e0 hl r x
  refine wpAny_mono (ht [] s1 (start N vs) H _ I hq) (fun fl s' hs => ?_) fun e s' hs => hs
  have fin : ∀ {σ' : St} {H' : Hp} {v : V} {u : Value}, Inv (cxOf CX P w K mg base N qual scope f cdv A outer s H E) [] σ' H' s' → RelV v u → Q v H' → CE outer P w H s Q u s' :=
    fun {σ' H' v u} J rv q => ⟨v, H', J.os, J.bare, J.base, J.hok, rv, q⟩
  cases fl with
  | ret u =>
    obtain ⟨v, σ', H', J, rv, q⟩ := hs
    exact fin J rv q
  | next =>
    obtain ⟨σ', H', J, q⟩ := hs
    exact fin (v := V.non) (u := Value.none) J rfl q
  | brk =>
    obtain ⟨_, _, _, q⟩ := hs
    exact False.elim q
  | cont =>
    obtain ⟨_, _, _, q⟩ := hs
    exact False.elim q
end L2

namespace L2
open PySem PySem.Spec PyProof.Rows
section
variable {X : Cx} {x : Str} {p pos : Pos} {e : Expr} {es : List Expr} {t : TA} {id T : String} {r : List V → Hp → VK → Prop}

def tCB (r : List V → Hp → VK → Prop) (t : TA) : TE := fun σ H Q => t σ H fun vs H1 => r vs H1 Q
/-- f(e, ..), f a built-in function -/
theorem pe_callB (hc : CallR X (.builtin id) r) (hg : Gl X x) (hm : X.mg x = none) (hv : bootBuiltins x = some (.builtin id)) (ha : PA X (e :: es) t) (hn : x ≠ "__name__" := by decide) (hdb : (x == ("__debug__" : Str)) = false := by decide)
    (he : starEach (e :: es) X.env = (false, eval e X.env) :: starEach es X.env := by rfl) (hpl : (backTo pos (starEach es X.env)).any (·.1) = false := by rfl) : PE X (.Call (.Name x p) (e :: es) [] pos) (tCB r t) := by
  intro pins s σ H Q I h
  refine wpAny_Call_Name_kw (ld_blt I hg hm hv ?_ hn hdb)
  exact PyProof.Rows.callWith_builtin1 (thn (ha pos pins s σ H _ I h) fun us s1 ⟨vs, H1, I1, r1, q1⟩ => hc pins s1 σ H1 vs us Q I1 r1 q1) he hpl
/-- T(e, ..), T a built-in type -/
theorem pe_callTy (hc : CallR X (.type T) r) (hg : Gl X x) (hm : X.mg x = none) (hv : bootBuiltins x = some (.type T)) (ha : PA X (e :: es) t) (hn : x ≠ "__name__" := by decide) (hdb : (x == ("__debug__" : Str)) = false := by decide)
    (he : starEach (e :: es) X.env = (false, eval e X.env) :: starEach es X.env := by rfl) (hpl : (backTo pos (starEach es X.env)).any (·.1) = false := by rfl) : PE X (.Call (.Name x p) (e :: es) [] pos) (tCB r t) := by
  intro pins s σ H Q I h
  refine wpAny_Call_Name_kw (ld_blt I hg hm hv ?_ hn hdb)
  exact PyProof.Rows.callWith_type1 (thn (ha pos pins s σ H _ I h) fun us s1 ⟨vs, H1, I1, r1, q1⟩ => hc pins s1 σ H1 vs us Q I1 r1 q1) he hpl
end
end L2

namespace HT
open PySem PyProof.Rows


section
variable {prog : Program} {w : World} {A : Around} {E : Value → Shared → Prop} {s : Shared}

/-- t + u, t not empty -/
theorem cat_tup {t b : Addr} {vs ws : List Value} {Q : Value → Shared → Prop} (ht : IsTup s.heap t vs.toArray) (hb : IsTup s.heap b ws.toArray) (hv : vs ≠ [])
    (h1 : ws = [] → Q (.ref t) s) (h2 : ws ≠ [] → Q (.ref s.heap.objs.size) { s with heap := s.heap.push { cls := .type "tuple", data := .seq (vs ++ ws).toArray } })
    (hsz : vs.length + ws.length ≤ sizeLine) : wpAny (model prog w) A (binaryOp .Add (.ref t) (.ref b)) Q E s := by
  obtain ⟨⟨cls, dd, data, sl⟩, ho, hc, n, hd⟩ := id ht
  obtain ⟨⟨cls2, dd2, data2, sl2⟩, ho2, hc2, n2, hd2⟩ := id hb
  simp only at hc hd hc2 hd2
  subst hc hd hc2 hd2
  have e : vs.toArray ++ ws.toArray = (vs ++ ws).toArray := by simp
  by_cases hw : ws = []
  · exact concat_meets ⟨_, ho, rfl⟩ ⟨_, ho2, rfl⟩ noFill_tuple_add seq_tuple_add PySem.F.slot_tuple_add PySem.F.entry_tuple_add (PySem.F.args_tuple_add_2 _ _)
      (tuple_addW1 t b vs.toArray ws.toArray n n2 dd dd2 sl sl2 (by simpa using hv) (by simp [hw])) ⟨ho, ho2, h1 hw⟩
  · refine concat_meets ⟨_, ho, rfl⟩ ⟨_, ho2, rfl⟩ noFill_tuple_add seq_tuple_add PySem.F.slot_tuple_add PySem.F.entry_tuple_add (PySem.F.args_tuple_add_2 _ _)
      (tuple_addW2 t b vs.toArray ws.toArray n n2 dd dd2 sl sl2 (by simpa using hv) (by simpa using hw) (by rw [List.size_toArray, List.size_toArray]; exact hsz)) ⟨ho, ho2, ?_⟩
    rw [e]
    exact h2 hw

/-! ### t[a:b], not the whole -/
/-- a slice's bound as a place among n (d where it is left out) -/
def sIx (n d : Nat) : Option Int → Nat
  | none => d
  | some v => if v < 0 then (v + (n : Int)).toNat else min v.toNat n
theorem sIx_le (n d : Nat) (hd : d ≤ n) (o : Option Int) : sIx n d o ≤ n := by
  cases o with
  | none => exact hd
  | some v =>
    show (if v < 0 then (v + (n : Int)).toNat else min v.toNat n) ≤ n
    by_cases hv : v < 0
    · rw [if_pos hv]; omega
    · rw [if_neg hv]; exact Nat.min_le_right _ _
theorem clip_eq (v : Int) (n d : Nat) : (if v < 0 then max (v + (n : Int)) 0 else min v (n : Int)) = ((sIx n d (some v) : Nat) : Int) := by
  show (if v < 0 then max (v + (n : Int)) 0 else min v (n : Int)) = (((if v < 0 then (v + (n : Int)).toNat else min v.toNat n) : Nat) : Int)
  by_cases hv : v < 0
  · simp only [if_pos hv]; omega
  · simp only [if_neg hv]; omega
theorem adjust_gen (lo hi : Option Int) (n : Nat) : Builtin.Slice.sliceAdjust lo hi 1 (n : Int) = (((sIx n 0 lo : Nat) : Int), ((sIx n n hi : Nat) : Int)) := by
  have h1 : ¬ ((1 : Int) < 0) := by omega
  unfold Builtin.Slice.sliceAdjust
  simp only [h1, if_false]
  refine Prod.ext ?_ ?_
  · cases lo with
    | none => rfl
    | some v => exact clip_eq v n 0
  · cases hi with
    | none => rfl
    | some v => exact clip_eq v n n
theorem places_gen (i j : Nat) : Builtin.Slice.slicePlaces (i : Int) (j : Int) 1 = j - i := by
  unfold Builtin.Slice.slicePlaces
  have h1 : (1 : Int) > 0 := by omega
  simp only [h1, if_true, Int.ediv_one]
  split <;> omega
theorem slicePart_ {v : Value} {o : Option Int} {Q : Option Int → Shared → Prop} (p : IsPart v o) (h : Q o s) : wpAny (model prog w) A (Builtin.Slice.slicePartIndex v) Q E s := by
  cases p with
  | none => exact slicePart_none h
  | int i t => exact slicePart_int h
theorem sliceApplied_gen {sl : Addr} {vl vu : Value} {lo hi : Option Int} {n : Nat} {Q : Int × Int × Nat → Shared → Prop} (hs : s.heap.IsSliceOf sl vl vu .none) (pl : IsPart vl lo) (pu : IsPart vu hi)
    (h : Q (((sIx n 0 lo : Nat) : Int), 1, sIx n n hi - sIx n 0 lo) s) : wpAny (model prog w) A (Builtin.Slice.sliceApplied (.ref sl) (pure (n : Int))) Q E s := by
  obtain ⟨os, hos, hcs, hds⟩ := id hs
  unfold Builtin.Slice.sliceApplied Builtin.Slice.sliceFields
  refine wpAny_bind (wpAny_bind (wpAny_field hos hds (x := vl) rfl (wpAny_bind (wpAny_field hos hds (x := vu) rfl (wpAny_bind (wpAny_field hos hds (x := .none) rfl (wpAny_pure ?_)))))))
  refine wpAny_bind (slicePart_none ?_)
  show wpAny _ _ (if ((1 : Int) == 0) = true then _ else _) _ _ s
  rw [if_neg (by decide)]
  refine wpAny_bind (slicePart_ pl (wpAny_bind (slicePart_ pu (wpAny_bind (wpAny_pure ?_)))))
  show wpAny _ _ (match Builtin.Slice.sliceAdjust lo hi 1 (n : Int) with | (lo, hi) => pure (lo, (1 : Int), Builtin.Slice.slicePlaces lo hi 1)) _ _ s
  rw [adjust_gen lo hi n]
  show wpAny _ _ (pure (((sIx n 0 lo : Nat) : Int), (1 : Int), Builtin.Slice.slicePlaces ((sIx n 0 lo : Nat) : Int) ((sIx n n hi : Nat) : Int) 1)) _ _ s
  rw [places_gen]
  exact wpAny_pure h
theorem pick_gen (xs : Array Value) (i k : Nat) : ((List.range k).filterMap fun (m : Nat) => xs[((i : Int) + (m : Int) * 1).toNat]?).toArray = ((xs.toList.drop i).take k).toArray := by
  have e : (fun (m : Nat) => xs[((i : Int) + (m : Int) * 1).toNat]?) = fun m => xs[i + m]? := by
    funext m
    have : ((i : Int) + (m : Int) * 1).toNat = i + m := by omega
    rw [this]
  rw [e]
  have := pick_run xs i k
  rw [List.filterMap_map] at this
  have e2 : ((fun x => xs[x]?) ∘ fun x => i + x) = fun m => xs[i + m]? := rfl
  rw [e2] at this
  rw [this]

theorem getItem_tuple_cut {t sl : Addr} {items : Array Value} {vl vu : Value} {lo hi : Option Int} {Q : Value → Shared → Prop} (ht : IsTup s.heap t items) (hs : s.heap.IsSliceOf sl vl vu .none) (pl : IsPart vl lo) (pu : IsPart vu hi)
    (hw : ¬ (sIx items.size 0 lo = 0 ∧ sIx items.size items.size hi = items.size))
    (h : Q (.ref s.heap.objs.size) { s with heap := s.heap.push { cls := .type "tuple", data := .seq ((items.toList.drop (sIx items.size 0 lo)).take (sIx items.size items.size hi - sIx items.size 0 lo)).toArray } })
    (hsz : items.size ≤ sizeLine) : wpAny (model prog w) A (getItem (.ref t) (.ref sl)) Q E s := by
  have htake : sizeOk (.seq ((items.toList.drop (sIx items.size 0 lo)).take (sIx items.size items.size hi - sIx items.size 0 lo)).toArray) := by
    show ((items.toList.drop (sIx items.size 0 lo)).take (sIx items.size items.size hi - sIx items.size 0 lo)).toArray.size ≤ sizeLine
    rw [List.size_toArray, List.length_take, List.length_drop, Array.length_toList]
    omega
  have hj : sIx items.size items.size hi ≤ items.size := sIx_le _ _ (Nat.le_refl _) hi
  obtain ⟨os, hos, hcs, hds⟩ := id hs
  have hTs : s.TypeIs (.ref sl) "slice" := ⟨os, hos, hcs⟩
  unfold getItem
  try with_reducible refine wpAny_holding ?_
  first | refine wpAny_bind (wpAny_pure ?_) | skip
  refine wpAny_bind (wpAny_sequenceKey ht.typeIs (by decide) ?_)
  refine wpAny_bind (wpAny_callSpecial?_slot (name := Str.ofString "__getitem__") ht.typeIs PyProof.Rows.slot_tuple_getitem
    (wpAny_call_entry PyProof.Rows.slot_tuple_getitem ht.typeIs entry_tuple_getitem ?_ (args_tuple_getitem _ _)))
  show wpAny _ _ (Builtin.Tuple.tupleItemsOf (.ref t) >>= _) _ _ s
  refine wpAny_bind (tupleItemsOf_ ht ?_)
  refine wpAny_bind (wpAny_typeOf hTs ?_)
  rw [if_pos (by decide)]
  refine wpAny_bind (sliceApplied_gen hs pl pu ?_)
  have hno : ¬ ((((sIx items.size 0 lo : Nat) : Int) == 0 && (1 : Int) == 1 && (sIx items.size items.size hi - sIx items.size 0 lo) == items.size) = true) := by
    intro q
    rw [Bool.and_eq_true, Bool.and_eq_true] at q
    have q1 : ((sIx items.size 0 lo : Nat) : Int) = 0 := eq_of_beq q.1.1
    have q2 : sIx items.size items.size hi - sIx items.size 0 lo = items.size := eq_of_beq q.2
    exact hw ⟨by omega, by omega⟩
  show wpAny _ _ (if (((sIx items.size 0 lo : Nat) : Int) == 0 && (1 : Int) == 1 && (sIx items.size items.size hi - sIx items.size 0 lo) == items.size) = true then _ else _) _ _ s
  rw [if_neg hno, pick_gen]
  first
    | exact wpAny_bind (m := Builtin.Tuple.tupleExact _) (wpAny_newObj_type (wpAny_pure ⟨_, rfl, wpAny_pure h⟩) htake)
    | exact wpAny_bind (m := Builtin.Tuple.tupleExact _) (wpAny_newObj_type (wpAny_bind (wpAny_pure (wpAny_pure ⟨_, rfl, wpAny_pure h⟩))) htake)
    | exact wpAny_bind (wpAny_bind (m := Builtin.Tuple.tupleExact _) (wpAny_newObj_type (wpAny_pure (wpAny_pure ⟨_, rfl, wpAny_pure h⟩)) htake))
    | exact wpAny_bind (wpAny_bind (m := Builtin.Tuple.tupleExact _) (wpAny_newObj_type (wpAny_pure ⟨_, rfl, wpAny_pure h⟩) htake))
end
end HT

namespace L2
open PySem PySem.Spec PyProof.Rows

/-! ### the parts of a slice -/
abbrev TO := St → Hp → (Option Int → Hp → Prop) → Prop
/-- a slice's part (left out, or an int) -/
def PO (X : Cx) (e : Option Expr) (t : TO) : Prop :=
  ∀ (pins : List (Addr × Obj)) (s : Shared) (σ : St) (H : Hp) (Q : Option Int → Hp → Prop), Inv X pins σ H s → t σ H Q →
    wpAny (model X.prog X.w) X.A (evalPart e X.env) (fun u s' => ∃ o H', Inv X pins σ H' s' ∧ IsPart u o ∧ Q o H') X.xe s
def tNoPart : TO := fun _ H Q => Q none H
def tPart (t : TE) : TO := fun σ H Q => t σ H fun x H1 => ∃ i, x = .int i ∧ Q (some i) H1

section
variable {X : Cx} {e : Expr} {te : TE} {lo hi : Option Expr} {tl th : TO} {pos p2 : Pos}

theorem po_none : PO X none tNoPart := by
  intro pins s σ H Q I h
  rw [evalPart_none]
  exact wpAny_pure ⟨none, H, I, .none, h⟩
theorem po_some (h : PE X e te) : PO X (some e) (tPart te) := by
  intro pins s σ H Q I hw
  rw [evalPart_some]
  refine thn (h pins s σ H _ I hw) fun u s1 ⟨x, H1, I1, r1, q1⟩ => ?_
  obtain ⟨i, rfl, q⟩ := q1
  obtain ⟨t, rfl⟩ := r1
  exact ⟨some i, H1, I1, .int i t, q⟩

/-- what a slice of a value is, by values: the slice object stands at sl -/
def SlR (X : Cx) (r : V → Option Int → Option Int → Hp → VK → Prop) : Prop :=
  ∀ (pins : List (Addr × Obj)) (s : Shared) (σ : St) (H : Hp) (x : V) (v vl vu : Value) (lo hi : Option Int) (sl : Addr) (Q : VK), Inv X pins σ H s → RelV x v → s.heap.IsSliceOf sl vl vu .none → IsPart vl lo → IsPart vu hi → r x lo hi H Q →
    ∃ T id, typeLookup (.type T) "__getitem__" = pure (some (.builtin id)) ∧ s.TypeIs v T ∧ wpAny (model X.prog X.w) X.A (getItem v (.ref sl)) (EP X pins σ Q) X.xe s
theorem SlR.or {r r' : V → Option Int → Option Int → Hp → VK → Prop} (h : SlR X r) (h' : SlR X r') : SlR X (fun x lo hi H Q => r x lo hi H Q ∨ r' x lo hi H Q) := by
  intro pins s σ H x v vl vu lo hi sl Q I rx hs pl pu q
  rcases q with q | q
  · exact h pins s σ H x v vl vu lo hi sl Q I rx hs pl pu q
  · exact h' pins s σ H x v vl vu lo hi sl Q I rx hs pl pu q
def tSl (r : V → Option Int → Option Int → Hp → VK → Prop) (te : TE) (tl th : TO) : TE := fun σ H Q => te σ H fun x H1 => tl σ H1 fun l H2 => th σ H2 fun u H3 => r x l u H3 Q
/-- a[lo:hi], any a -/
theorem pe_slice {r : V → Option Int → Option Int → Hp → VK → Prop} (hr : SlR X r) (he : PE X e te) (hl : PO X lo tl) (hu : PO X hi th) : PE X (.Subscript e (.Slice lo hi none p2) pos) (tSl r te tl th) := by
  intro pins s σ H Q I h
  refine Subscript_ (thn (he pins s σ H _ I h) fun v s1 ⟨x, H1, I1, r1, q1⟩ => ?_)
  refine wpAny_Slice (thn (hl pins s1 σ H1 _ I1 q1) fun vl s2 ⟨l, H2, I2, pl, q2⟩ => thn (hu pins s2 σ H2 _ I2 q2) fun vu s3 ⟨u, H3, I3, pu, q3⟩ => ?_)
  rw [evalPart_none]
  refine wpAny_pure ?_
  have I4 : Inv X pins σ H3 { s3 with heap := s3.heap.push { cls := .type "slice", data := .fields #[vl, vu, .none] } } := I3.kept (t' := s3.toks) fun b ob q => Heap.get?_push_of_some _ q
  obtain ⟨T, id, hT, ht, hg⟩ := hr pins { s3 with heap := s3.heap.push { cls := .type "slice", data := .fields #[vl, vu, .none] } } σ H3 x v vl vu l u s3.heap.objs.size Q I4 r1 (Heap.IsSliceOf.new ..) pl pu q3
  show wpAny (model X.prog X.w) X.A (subscriptTail e (.Slice lo hi none p2) v (.ref s3.heap.objs.size)) (EP X pins σ Q) X.xe { s3 with heap := s3.heap.push { cls := .type "slice", data := .fields #[vl, vu, .none] } }
  exact tail_any (ops := [.ref s3.heap.objs.size, v]) ht hT hg (by with_unfolding_all rfl)

/-- the items of xs[lo:hi] -/
def cutV (xs : List V) (lo hi : Option Int) : List V := (xs.drop (HT.sIx xs.length 0 lo)).take (HT.sIx xs.length xs.length hi - HT.sIx xs.length 0 lo)
theorem cutV_length (xs : List V) (lo hi : Option Int) : (cutV xs lo hi).length ≤ xs.length := by
  unfold cutV
  rw [List.length_take, List.length_drop]
  omega
/-- t[lo:hi], not the whole of it (the whole would be t itself) -/
def rSlT (K : PySem.W.Frag) : V → Option Int → Option Int → Hp → VK → Prop := fun x lo hi H Q => ∃ a xs, x = .ref a ∧ SqT K H a xs ∧
  ¬ (HT.sIx xs.length 0 lo = 0 ∧ HT.sIx xs.length xs.length hi = xs.length) ∧ ∀ p, H p = none → Q (.ref p) (upd H p (.tup (cutV xs lo hi)))
theorem sl_tup : SlR X (rSlT X.K) := by
  intro pins s σ H x v vl vu lo hi sl Q I rx hs pl pu h
  obtain ⟨a, xs, rfl, hx, hw, q⟩ := h
  cases rx
  obtain ⟨its, r, ht, hz⟩ := I.tuple hx
  have hlen : its.toArray.size = xs.length := by rw [List.size_toArray]; exact r.length.symm
  refine ⟨"tuple", _, PyProof.Rows.slot_tuple_getitem.lookup, ht.typeIs, ?_⟩
  refine HT.getItem_tuple_cut ht hs pl pu (by rw [hlen]; exact hw) ?_ (by rw [hlen]; exact hz)
  rw [hlen]
  refine ⟨.ref s.heap.objs.size, _, I.laid (t' := s.toks) (o := .tup (cutV xs lo hi)) (fun b ob q => Heap.get?_push_of_some _ q) (Nat.le_refl _) ?_, rfl, q _ (I.hok.fresh (Nat.le_refl _))⟩
  exact ⟨Nat.le_trans (cutV_length xs lo hi) hz, _, (r.drop (HT.sIx xs.length 0 lo)).take (HT.sIx xs.length xs.length hi - HT.sIx xs.length 0 lo), IsTup.new _ _⟩

/-! ### t < u, t + u -/
/-- t + u, t not empty: u empty gives t itself -/
def rCatT (K : PySem.W.Frag) : R2 := fun x y H Q => ∃ a b xs ys, x = .ref a ∧ y = .ref b ∧ SqT K H a xs ∧ SqT K H b ys ∧ xs ≠ [] ∧ xs.length + ys.length ≤ sizeLine ∧
  (ys = [] → Q (.ref a) H) ∧ (ys ≠ [] → ∀ p, H p = none → Q (.ref p) (upd H p (.tup (xs ++ ys))))
theorem Vals.nil_iff {xs : List V} {us : List Value} (r : Vals xs us) : us = [] ↔ xs = [] := by
  cases r with
  | nil => simp
  | cons _ _ => simp
theorem op_catT : OpR X (binaryOp .Add) (rCatT X.K) := by
  intro pins s σ H x y v u Q I rx ry h
  obtain ⟨a, b, xs, ys, rfl, rfl, ha, hb, hx, hz, q1, q2⟩ := h
  cases rx
  cases ry
  obtain ⟨its, r1, p1, _⟩ := I.tuple ha
  obtain ⟨its2, r2, p2, _⟩ := I.tuple hb
  refine HT.cat_tup p1 p2 (fun z => hx (r1.nil_iff.mp z)) (fun z => ⟨.ref a, H, I, rfl, q1 (r2.nil_iff.mp z)⟩) (fun z => ?_) (by rw [← r1.length, ← r2.length]; exact hz)
  refine ⟨.ref s.heap.objs.size, _, I.laid (t' := s.toks) (o := .tup (xs ++ ys)) (fun b ob q => Heap.get?_push_of_some _ q) (Nat.le_refl _) ?_, rfl, q2 (fun w => z (r2.nil_iff.mpr w)) _ (I.hok.fresh (Nat.le_refl _))⟩
  exact ⟨by rw [List.length_append]; exact hz, _, r1.append r2, IsTup.new _ _⟩
end
end L2

namespace L2
open PySem PySem.Spec PyProof.Rows

/-! ### places -/
/-- the place that an index of any sign means -/
def ixN (n : Nat) (i : Int) : Option Nat := if 0 ≤ i then (if i < n then some i.toNat else none) else if -(n : Int) ≤ i then some (i + n).toNat else none
def atI {α : Type} (xs : List α) (i : Int) : Option α := (ixN xs.length i).bind fun j => xs[j]?
theorem ixN_seq {n : Nat} {i : Int} {j : Nat} (h : ixN n i = some j) : seqIndex? i n = some j ∧ j < n ∧ -(n : Int) ≤ i ∧ i < n := by
  unfold ixN at h
  by_cases h0 : 0 ≤ i
  · rw [if_pos h0] at h
    by_cases h1 : i < n
    · rw [if_pos h1] at h
      have e : i.toNat = j := Option.some.inj h
      exact ⟨by rw [seqIndex_of h0 h1, e], by omega, by omega, h1⟩
    · rw [if_neg h1] at h; cases h
  · rw [if_neg h0] at h
    by_cases h1 : -(n : Int) ≤ i
    · rw [if_pos h1] at h
      have e : (i + n).toNat = j := Option.some.inj h
      exact ⟨by rw [seqIndex_neg (by omega) h1, e], by omega, h1, by omega⟩
    · rw [if_neg h1] at h; cases h
theorem atI_get {α : Type} {xs : List α} {i : Int} {v : α} (h : atI xs i = some v) : ∃ j, seqIndex? i xs.length = some j ∧ xs[j]? = some v ∧ j < xs.length ∧ -(xs.length : Int) ≤ i ∧ i < xs.length := by
  unfold atI at h
  cases e : ixN xs.length i with
  | none => rw [e] at h; cases h
  | some j =>
    rw [e] at h
    obtain ⟨h1, h2, h3, h4⟩ := ixN_seq e
    exact ⟨j, h1, h, h2, h3, h4⟩

/-! ### what may be subscripted -/
/-- what stands as an index of a plain subscript -/
def PlainIx (b : Expr) : Prop := ∀ o i, subscripted b false o i = operate [o, i] (getItem o i)
/-- a subscript by values -/
def IxR (X : Cx) (r : R2) : Prop :=
  ∀ (value slice : Expr) (pins : List (Addr × Obj)) (s : Shared) (σ : St) (H : Hp) (x y : V) (v u : Value) (Q : VK), Inv X pins σ H s → RelV x v → RelV y u → r x y H Q →
    subscripted slice false v u = operate [v, u] (getItem v u) → wpAny (model X.prog X.w) X.A (subscriptTail value slice v u) (EP X pins σ Q) X.xe s
/-- a call of a builtin's method by values: the receiver, the arguments -/
def MtR (X : Cx) (id : String) (r : V → List V → Hp → VK → Prop) : Prop :=
  ∀ (pins : List (Addr × Obj)) (s : Shared) (σ : St) (H : Hp) (x : V) (xs : List V) (v : Value) (us : List Value) (Q : VK), Inv X pins σ H s → RelV x v → Vals xs us → r x xs H Q →
    wpAny (model X.prog X.w) X.A (call (.builtin id) (v :: us)) (EP X pins σ Q) X.xe s
section
variable {X : Cx} {a b : Expr} {ta tb : TE} {pos : Pos}
theorem IxR.or {r r' : R2} (h : IxR X r) (h' : IxR X r') : IxR X (fun x y H Q => r x y H Q ∨ r' x y H Q) := by
  intro value slice pins s σ H x y v u Q I rx ry q hs
  rcases q with q | q
  · exact h value slice pins s σ H x y v u Q I rx ry q hs
  · exact h' value slice pins s σ H x y v u Q I rx ry q hs
theorem MtR.or {id : String} {r r' : V → List V → Hp → VK → Prop} (h : MtR X id r) (h' : MtR X id r') : MtR X id (fun x xs H Q => r x xs H Q ∨ r' x xs H Q) := by
  intro pins s σ H x xs v us Q I rx rs q
  rcases q with q | q
  · exact h pins s σ H x xs v us Q I rx rs q
  · exact h' pins s σ H x xs v us Q I rx rs q
/-- a[b] -/
theorem pe_ix {r : R2} (hr : IxR X r) (ha : PE X a ta) (hb : PE X b tb) (hs : PlainIx b) : PE X (.Subscript a b pos) (tOp r ta tb) := by
  intro pins s σ H Q I h
  exact Subscript_ (binT ha hb I h fun v u s2 x y H2 I2 rx ry q => hr a b pins s2 σ H2 x y v u Q I2 rx ry q (hs _ _))

def rIxL (K : PySem.W.Frag) : R2 := fun x y H Q => ∃ p xs i v, x = .ref p ∧ y = .int i ∧ SqL K H p xs ∧ atI xs i = some v ∧ Q v H
def rIxT (K : PySem.W.Frag) : R2 := fun x y H Q => ∃ p xs i v, x = .ref p ∧ y = .int i ∧ SqT K H p xs ∧ atI xs i = some v ∧ Q v H
def rIxS : R2 := fun x y H Q => ∃ z i c, x = .str z ∧ y = .int i ∧ z.length ≤ sizeLine ∧ atI z.cps.toList i = some c ∧ Q (.str ⟨#[c]⟩) H
theorem ix_list : IxR X (rIxL X.K) := by
  intro value slice pins s σ H x y v u Q I rx ry h hs
  obtain ⟨p, xs, i, z, rfl, rfl, hq, he, q⟩ := h
  cases rx
  obtain ⟨t, rfl⟩ := ry
  obtain ⟨its, r, pl, hz⟩ := I.list hq
  obtain ⟨j, h1, h2, h3, h4, h5⟩ := atI_get he
  obtain ⟨w, ew, rw'⟩ := r.get h2
  have hl := r.length
  have hn := line63
  have fin : EP X pins σ Q w s := ⟨z, H, I, rw', q⟩
  by_cases h0 : 0 ≤ i
  · have hj : i.toNat = j := by
      rw [seqIndex_of h0 h5] at h1
      exact Option.some.inj h1
    exact item_listR pl.isList h0 (by omega) (by rw [hj]; simpa using ew) fin hs
  · have hj : (i + (its.toArray.size : Int)).toNat = j := by
      rw [seqIndex_neg (by omega) h4] at h1
      rw [List.size_toArray, ← hl]
      exact Option.some.inj h1
    exact subscriptTail_builtinR (x := w) pl.isList.typeIs slot_list_getitem.lookup
      (wpAny_getItem_list_neg (Q := fun r s' => r = w ∧ EP X pins σ Q r s') pl.isList (by omega) (by rw [List.size_toArray] <;> omega) (by omega) (by rw [hj]; simpa using ew) ⟨rfl, fin⟩) hs
theorem ix_tup : IxR X (rIxT X.K) := by
  intro value slice pins s σ H x y v u Q I rx ry h hs
  obtain ⟨p, xs, i, z, rfl, rfl, hq, he, q⟩ := h
  cases rx
  obtain ⟨t, rfl⟩ := ry
  obtain ⟨its, r, pl, hz⟩ := I.tuple hq
  obtain ⟨j, h1, h2, h3, h4, h5⟩ := atI_get he
  obtain ⟨w, ew, rw'⟩ := r.get h2
  have hl := r.length
  have hn := line63
  have fin : EP X pins σ Q w s := ⟨z, H, I, rw', q⟩
  exact subscriptTail_builtinR (x := w) pl.typeIs slot_tuple_getitem.lookup
    (getItem_tuple (j := j) (Q := fun r s' => r = w ∧ EP X pins σ Q r s') pl (by omega) (by omega) (by rw [List.size_toArray, ← hl]; exact h1) (by simpa using ew) ⟨rfl, fin⟩) hs
theorem ix_str : IxR X rIxS := by
  intro value slice pins s σ H x y v u Q I rx ry h hs
  obtain ⟨z, i, c, rfl, rfl, hz, he, q⟩ := h
  obtain ⟨t, rfl⟩ := rx
  obtain ⟨t', rfl⟩ := ry
  obtain ⟨j, h1, h2, h3, h4, h5⟩ := atI_get he
  have hl : z.cps.toList.length = z.length := by simp [Str.length]
  rw [hl] at h1 h4 h5
  have hn := line63
  exact tail_any (typeIs_str s z t) slot_str_getitem.lookup (getItem_str (c := c) (by
    have e1 : decide (i < -(2 ^ 63 : Int)) = false := decide_eq_false (by omega)
    have e2 : decide (i ≥ 2 ^ 63) = false := decide_eq_false (by omega)
    rw [e1, e2, Bool.or_false]) (by rw [h1]; simpa using h2) ⟨.str ⟨#[c]⟩, H, I.tok _, ⟨_, rfl⟩, q⟩) hs
/-- list, tuple or str -/
def rIx (K : PySem.W.Frag) : R2 := fun x y H Q => rIxL K x y H Q ∨ rIxT K x y H Q ∨ rIxS x y H Q
theorem ix_seq : IxR X (rIx X.K) := ix_list.or (ix_tup.or ix_str)

/-! ### xs[i] = v, any sign -/
/-- the list's object behind a store -/
theorem mapSeq_set (its : List Value) (n j : Nat) (u : Value) : Obj.mapSeq (·.setIfInBounds j u) { cls := .type "list", data := .seq its.toArray n } = { cls := .type "list", data := .seq (its.set j u).toArray n } := by
  simp [Obj.mapSeq]
theorem Inv.lst {pins : List (Addr × Obj)} {σ : St} {H : Hp} {s : Shared} {p : Addr} {xs : List V} (I : Inv X pins σ H s) (h : H p = some (.lst xs)) :
    ∃ (its : List Value) (n : Nat), Vals xs its ∧ s.heap.get? p = some { cls := .type "list", data := .seq its.toArray n } ∧ xs.length ≤ sizeLine := by
  obtain ⟨z, its, n, r, e⟩ := I.hok p _ h
  exact ⟨its, n, r, e, z⟩
/-- the list at p is written by an update of its object -/
theorem Inv.lstUpd {pins : List (Addr × Obj)} {σ : St} {H : Hp} {s : Shared} {p : Addr} {xs ys : List V} {its its' : List Value} {n n' : Nat} {f : Obj → Obj} (I : Inv X pins σ H s) (h : H p = some (.lst xs))
    (ho : s.heap.get? p = some { cls := .type "list", data := .seq its.toArray n }) (hf : f { cls := .type "list", data := .seq its.toArray n } = { cls := .type "list", data := .seq its'.toArray n' }) (r : Vals ys its') (hz : ys.length ≤ sizeLine) (t : Nat) :
    Inv X pins σ (upd H p (.lst ys)) { s with heap := s.heap.update p f, toks := t } := by
  have e : (s.heap.update p f).get? p = some { cls := .type "list", data := .seq its'.toArray n' } := by
    rw [Heap.get?_update_self f ho (by rw [hf] <;> rfl), hf]
  refine I.write (x := p) (e := p) (by rw [h]; trivial) (.inl rfl) (fun b u hb q => (Heap.get?_update_other _ _ (Ne.symm hb)).trans q) ⟨_, e⟩ ?_
  exact ⟨hz, its', n', r, e⟩
def rSetL : V → V → V → Hp → (Hp → Prop) → Prop := fun o i v H Q => ∃ p xs k j, o = .ref p ∧ i = .int k ∧ H p = some (.lst xs) ∧ ixN xs.length k = some j ∧ Q (upd H p (.lst (xs.set j v)))
theorem set_list : PSet X rSetL := by
  intro pins s σ H o i v ov iv u Q I ro ri rv h
  obtain ⟨p, xs, k, j, rfl, rfl, hp, hj, q⟩ := h
  cases ro
  obtain ⟨t, rfl⟩ := ri
  obtain ⟨its, n, r, ho, hz⟩ := I.lst hp
  obtain ⟨h1, h2, h3, h4⟩ := ixN_seq hj
  have hl := r.length
  have hn := line63
  have I' : Inv X pins σ (upd H p (.lst (xs.set j v))) { s with heap := s.heap.update p (Obj.mapSeq (·.setIfInBounds j u)) } :=
    I.lstUpd hp ho (mapSeq_set its n j u) (r.set rv j) (by rw [List.length_set]; exact hz) s.toks
  by_cases h0 : 0 ≤ k
  · have hk : k.toNat = j := by
      rw [seqIndex_of h0 h4] at h1
      exact Option.some.inj h1
    exact PySem.W.ki_setAt ho h0 (by omega) (by rw [List.size_toArray, ← hl]; exact h4) (by rw [hk]; exact ⟨_, I', q⟩)
  · have hk : (k + (its.toArray.size : Int)).toNat = j := by
      rw [seqIndex_neg (by omega) h3] at h1
      rw [List.size_toArray, ← hl]
      exact Option.some.inj h1
    exact PySem.W.ki_setBack ho (by omega) (by rw [List.size_toArray, ← hl]; exact h3) (by omega) (by rw [hk]; exact ⟨_, I', q⟩)

/-! ### slices -/
theorem slice_bounds (lo hi : Option Int) (n : Nat) : (sliceBounds lo hi none n).1 = ((HT.sIx n 0 lo : Nat) : Int) ∧ (sliceBounds lo hi none n).2.1 = ((HT.sIx n n hi : Nat) : Int) ∧ (sliceBounds lo hi none n).2.2 = 1 := by
  refine ⟨?_, ?_, rfl⟩
  · cases lo with
    | none => simp [sliceBounds, HT.sIx]
    | some i =>
      simp only [sliceBounds, HT.sIx, Option.getD_none, show (1 : Int) > 0 by decide, if_true]
      by_cases h : i < 0
      · simp only [h, if_true] <;> omega
      · simp only [h, if_false] <;> omega
  · cases hi with
    | none => simp [sliceBounds, HT.sIx]
    | some i =>
      simp only [sliceBounds, HT.sIx, Option.getD_none, show (1 : Int) > 0 by decide, if_true]
      by_cases h : i < 0
      · simp only [h, if_true] <;> omega
      · simp only [h, if_false] <;> omega
theorem slicePick_cut (its : List Value) (lo hi : Option Int) : slicePick its.toArray lo hi none = ((its.drop (HT.sIx its.length 0 lo)).take (HT.sIx its.length its.length hi - HT.sIx its.length 0 lo)).toArray := by
  obtain ⟨h1, h2, h3⟩ := slice_bounds lo hi its.toArray.size
  unfold slicePick
  rw [h1, h2, h3]
  simp only [sliceRange_one, pick_run, List.size_toArray] <;> rfl
/-- xs[lo:hi] of a list: a new list -/
def rSlL (K : PySem.W.Frag) : V → Option Int → Option Int → Hp → VK → Prop := fun x lo hi H Q => ∃ a xs, x = .ref a ∧ SqL K H a xs ∧ ∀ p, H p = none → Q (.ref p) (upd H p (.lst (cutV xs lo hi)))
theorem sl_list : SlR X (rSlL X.K) := by
  intro pins s σ H x v vl vu lo hi sl Q I rx hs pl pu h
  obtain ⟨a, xs, rfl, hx, q⟩ := h
  cases rx
  obtain ⟨its, r, ht, hz⟩ := I.list hx
  have hlen := r.length
  refine ⟨"list", _, slot_list_getitem.lookup, ht.isList.typeIs, ?_⟩
  refine wpAny_getItem_list_slice ht.isList hs pl pu .none (by simp) ?_ (by rw [List.size_toArray] <;> omega)
  rw [slicePick_cut, ← hlen]
  refine ⟨.ref s.heap.objs.size, _, I.laid (t' := s.toks) (o := .lst (cutV xs lo hi)) (fun b ob q => Heap.get?_push_of_some _ q) (Nat.le_refl _) ?_, rfl, q _ (I.hok.fresh (Nat.le_refl _))⟩
  exact ⟨Nat.le_trans (cutV_length xs lo hi) hz, _, 0, (r.drop (HT.sIx xs.length 0 lo)).take (HT.sIx xs.length xs.length hi - HT.sIx xs.length 0 lo), Heap.get?_push_size _ rfl⟩

/-! ### in, not in: flat items -/

/-! ### len, list(x), tuple(x) of any list or tuple that is read -/
theorem call_len_seq : CallR X (.builtin "len") (fun xs H Q => ∃ p ys, xs = [.ref p] ∧ (SqL X.K H p ys ∨ SqT X.K H p ys) ∧ Q (.int ys.length) H) := by
  intro pins s σ H xs us Q I r h
  obtain ⟨p, ys, rfl, hq, q⟩ := h
  obtain ⟨u, rfl, rx⟩ := vals1 r
  cases rx
  have hn := line63
  rcases hq with hq | hq
  · obtain ⟨its, r', pl, hz⟩ := I.list hq
    have hlen := r'.length
    exact Calls.call_len_list pl.isList (by simp only [List.size_toArray] <;> omega) ⟨.int ys.length, H, I.tok _, ⟨s.toks + 1, by rw [List.size_toArray, hlen]⟩, q⟩
  · obtain ⟨its, r', pl, hz⟩ := I.tuple hq
    have hlen := r'.length
    exact len_tuple pl (by simp only [List.size_toArray] <;> omega) ⟨.int ys.length, H, I.tok _, ⟨s.toks + 1, by rw [List.size_toArray, hlen]⟩, q⟩
theorem call_len_str : CallR X (.builtin "len") (fun xs H Q => ∃ z, xs = [.str z] ∧ z.length ≤ sizeLine ∧ Q (.int z.length) H) := by
  intro pins s σ H xs us Q I r h
  obtain ⟨z, rfl, hz, q⟩ := h
  obtain ⟨u, rfl, t, rfl⟩ := vals1 r
  have hn := line63
  exact len_str (by omega) ⟨.int z.length, H, I.tok _, ⟨_, rfl⟩, q⟩
theorem CallR.or {f : Value} {r r' : List V → Hp → VK → Prop} (h : CallR X f r) (h' : CallR X f r') : CallR X f (fun xs H Q => r xs H Q ∨ r' xs H Q) := by
  intro pins s σ H xs us Q I rs q
  rcases q with q | q
  · exact h pins s σ H xs us Q I rs q
  · exact h' pins s σ H xs us Q I rs q
theorem call_list_of : CallR X (.type "list") (fun xs H Q => ∃ p ys, xs = [.ref p] ∧ (SqL X.K H p ys ∨ SqT X.K H p ys) ∧ ∀ l, H l = none → Q (.ref l) (upd H l (.lst ys))) := by
  intro pins s σ H xs us Q I r h
  obtain ⟨p, ys, rfl, hq, q⟩ := h
  obtain ⟨u, rfl, rx⟩ := vals1 r
  cases rx
  have fin : ∀ (its : List Value), Vals ys its → ys.length ≤ sizeLine → ∀ (h' : Heap) (c' : Nat), (∀ b o', s.heap.get? b = some o' → h'.get? b = some o') →
      h'.get? s.heap.objs.size = some { cls := .type "list", dict := none, data := .seq its.toArray c', slots := #[] } → EP X pins σ Q (.ref s.heap.objs.size) { s with heap := h' } := fun its r' hz h' c' kp e =>
    ⟨.ref s.heap.objs.size, _, I.laid (t' := s.toks) kp (Nat.le_refl _) (show ObjOk X.prog X.w _ h' _ (.lst ys) from ⟨hz, its, c', r', e⟩), rfl, q _ (I.hok.fresh (Nat.le_refl _))⟩
  rcases hq with hq | hq
  · obtain ⟨its, r', pl, hz⟩ := I.list hq
    have hlen := r'.length
    obtain ⟨o, ho, hc, n, hd⟩ := pl.isList
    exact call_list_seq p (.inl rfl) ho hc hd (fun h' c' kp e => fin its r' hz h' c' kp e) (by simp only [List.size_toArray] <;> omega)
  · obtain ⟨its, r', pl, hz⟩ := I.tuple hq
    have hlen := r'.length
    obtain ⟨o, ho, hc, n, hd⟩ := pl
    exact call_list_seq p (.inr rfl) ho hc hd (fun h' c' kp e => fin its r' hz h' c' kp e) (by simp only [List.size_toArray] <;> omega)
theorem call_tuple_of : CallR X (.type "tuple") (fun xs H Q => ∃ p ys, xs = [.ref p] ∧ ((SqL X.K H p ys ∧ ∀ l, H l = none → Q (.ref l) (upd H l (.tup ys))) ∨ (SqT X.K H p ys ∧ Q (.ref p) H))) := by
  intro pins s σ H xs us Q I r h
  obtain ⟨p, ys, rfl, h⟩ := h
  obtain ⟨u, rfl, rx⟩ := vals1 r
  cases rx
  rcases h with ⟨hq, q⟩ | ⟨hq, q⟩
  · obtain ⟨its, r', pl, hz⟩ := I.list hq
    have hlen := r'.length
    refine call_tuple_list pl.isList (fun h' kp => ?_) (by simp only [List.size_toArray] <;> omega)
    have I1 : Inv X pins σ H { s with heap := h' } := I.kept (t' := s.toks) kp
    have I2 : Inv X pins σ (upd H h'.objs.size (.tup ys)) { s with heap := h'.push { cls := .type "tuple", data := .seq its.toArray } } :=
      I1.laid (t' := s.toks) (fun b o e => Heap.get?_push_of_some _ e) (Nat.le_refl _) (show ObjOk X.prog X.w _ _ _ (.tup ys) from ⟨hz, its, r', IsTup.new _ _⟩)
    exact ⟨.ref h'.objs.size, _, I2, rfl, q _ (I1.hok.fresh (Nat.le_refl _))⟩
  · obtain ⟨its, r', pl, hz⟩ := I.tuple hq
    exact call_tuple_same pl ⟨.ref p, H, I, rfl, q⟩

/-! ### the call of a builtin's method: o.m(..) -/
/-- the value is of that builtin type -/
def tyV (K : PySem.W.Frag) (T : String) (x : V) (H : Hp) : Prop := match x with
  | .str _ => T = "str"
  | .int _ => T = "int"
  | .ref p => (T = "list" ∧ ∃ xs, SqL K H p xs) ∨ (T = "tuple" ∧ ∃ o, K.lookup p = some o ∧ o.cls = .type "tuple" ∧ o.dict = none) ∨
      (T = "dict" ∧ ((∃ kvs, H p = some (.dK kvs)) ∨ ∃ kvs, H p = some (.dT kvs))) ∨ (T = "set" ∧ ∃ S n, H p = some (.set S n))
  | _ => False
theorem tyV_is {pins : List (Addr × Obj)} {σ : St} {H : Hp} {s : Shared} {T : String} {x : V} {v : Value} (I : Inv X pins σ H s) (r : RelV x v) (ty : tyV X.K T x H) :
    s.TypeIs v T ∧ ∀ a, v = .ref a → ∃ ob, s.heap.get? a = some ob ∧ ob.dict = none := by
  cases x with
  | str z =>
    obtain ⟨t, rfl⟩ := r
    cases (show T = "str" from ty)
    exact ⟨typeIs_str s z t, fun _ e => nomatch e⟩
  | int i =>
    obtain ⟨t, rfl⟩ := r
    cases (show T = "int" from ty)
    exact ⟨typeIs_int s i t, fun _ e => nomatch e⟩
  | ref p =>
    cases r
    rcases ty with ⟨rfl, xs, hq⟩ | ⟨rfl, o, hk, hc, hd⟩ | ⟨rfl, hk⟩ | ⟨rfl, S, n, hk⟩
    · obtain ⟨its, _, pl, _⟩ := I.list hq
      refine ⟨pl.isList.typeIs, fun a e => ?_⟩
      cases e
      obtain ⟨o, n, e, c, hd, _⟩ := pl
      exact ⟨o, e, hd⟩
    · refine ⟨⟨o, I.kIn p o hk, hc⟩, fun a e => ?_⟩
      cases e
      exact ⟨o, I.kIn _ o hk, hd⟩
    · have z : ∃ o, s.heap.get? p = some o ∧ o.ExactDict := by
        rcases hk with ⟨kvs, hk⟩ | ⟨kvs, hk⟩
        · obtain ⟨_, _, _, _, o, _, _, e, ex, _⟩ := I.hok p _ hk
          exact ⟨o, e, ex⟩
        · obtain ⟨_, _, _, _, o, _, _, e, ex, _⟩ := I.hok p _ hk
          exact ⟨o, e, ex⟩
      obtain ⟨o, e, ex⟩ := z
      refine ⟨⟨o, e, ex.1⟩, fun a e2 => ?_⟩
      cases e2
      exact ⟨o, e, ex.2.1⟩
    · obtain ⟨o, _, _, _, e, ex, _⟩ := I.hok p _ hk
      refine ⟨⟨o, e, ex.1⟩, fun a e2 => ?_⟩
      cases e2
      exact ⟨o, e, ex.2.1⟩
  | _ => exact False.elim ty
def tBM0 (K : PySem.W.Frag) (T : String) (r : V → List V → Hp → VK → Prop) (to : TE) : TE := fun σ H Q => to σ H fun x H1 => tyV K T x H1 ∧ r x [] H1 Q
def tBM (K : PySem.W.Frag) (T : String) (r : V → List V → Hp → VK → Prop) (to : TE) (t : TA) : TE := fun σ H Q => to σ H fun x H1 => tyV K T x H1 ∧ t σ H1 fun xs H2 => r x xs H2 Q
variable {o e : Expr} {es : List Expr} {to : TE} {t : TA} {name : Str} {apos cpos : Pos} {T id : String} {r : V → List V → Hp → VK → Prop}
theorem pe_bm0 (pa : PlainAttrs T) (slot : Slot T name id) (hty : typeOf (.builtin id) = pure (.type "method_descriptor")) (hm : MtR X id r) (ho : PE X o to)
    (hbase : attributeBase o name X.env (eval o X.env) = eval o X.env := by rfl) (hline : (apos.endLine == cpos.line) = true := by rfl) : PE X (.Call (.Attribute o name apos) [] [] cpos) (tBM0 X.K T r to) := by
  intro pins s σ H Q I h
  refine wpAny_Call_method0_late hbase hline (thn (ho pins s σ H _ I h) fun v s1 ⟨x, H1, I1, r1, ty, q1⟩ => ?_)
  obtain ⟨h1, h2⟩ := tyV_is I1 r1 ty
  exact ⟨T, id, pa, slot, hty, h1, h2, Calls.callWith_builtin rfl (PySem.evalArgs_none (hm pins s1 σ H1 x [] v [] Q I1 r1 .nil q1))⟩
theorem pe_bm (pa : PlainAttrs T) (slot : Slot T name id) (hty : typeOf (.builtin id) = pure (.type "method_descriptor")) (hm : MtR X id r) (ho : PE X o to) (ha : PA X (e :: es) t)
    (hbase : attributeBase o name X.env (eval o X.env) = eval o X.env := by rfl)
    (hfew : ((backTo cpos (starEach (e :: es) X.env)).all (fun x => !x.1) && (backToKw cpos (keywordEach [] X.env)).all (fun x => x.1.isSome)
      && decide ((e :: es).length + ([] : List Keyword).length + (if ([] : List Keyword).isEmpty then 0 else 1) < 30)) = true := by rfl)
    (hline : (apos.endLine == cpos.line) = true := by rfl) (hs : starEach (e :: es) X.env = (false, eval e X.env) :: starEach es X.env := by rfl) (hplain : (backTo cpos (starEach es X.env)).any (·.1) = false := by rfl) :
    PE X (.Call (.Attribute o name apos) (e :: es) [] cpos) (tBM X.K T r to t) := by
  intro pins s σ H Q I h
  refine wpAny_Call_method_late hbase hfew hline rfl (thn (ho pins s σ H _ I h) fun v s1 ⟨x, H1, I1, r1, ty, q1⟩ => ?_)
  obtain ⟨h1, h2⟩ := tyV_is I1 r1 ty
  refine ⟨T, id, pa, slot, hty, h1, h2, ?_⟩
  have hA := ha cpos pins s1 σ H1 _ I1 q1
  rw [hs] at hA ⊢
  refine Calls.callWith_builtin (by show (false || (backTo cpos (starEach es X.env)).any (·.1)) = false; rw [hplain] <;> rfl) (Calls.evalArgs_plain ?_)
  exact thn hA fun us s2 ⟨vs, H2, I2, r2, q2⟩ => hm pins s2 σ H2 x vs v us Q I2 r1 r2 q2
/- xs.append(e), list.index on a module's tuple .. are MtR facts of 06m -/
end
end L2

namespace L2
open PySem PySem.Spec PyProof.Rows

def MtM (X : Cx) (id : String) (r : V → List V → Hp → VK → Prop) : Prop :=
  ∀ (pins : List (Addr × Obj)) (s : Shared) (σ : St) (H : Hp) (x : V) (xs : List V) (v : Value) (us : List Value) (Q : VK), Inv X pins σ H s → RelV x v → Vals xs us → r x xs H Q →
    wpAny (model X.prog X.w) X.A (call (.builtin id) (v :: us)) (EP X pins σ Q) X.xe s

/-! ### lists of values -/
theorem Vals.one : ∀ {x : V} {us : List Value}, Vals [x] us → ∃ u, us = [u] ∧ RelV x u
  | _, _, .cons r .nil => ⟨_, rfl, r⟩
theorem Vals.two : ∀ {x y : V} {us : List Value}, Vals [x, y] us → ∃ u v, us = [u, v] ∧ RelV x u ∧ RelV y v
  | _, _, _, .cons r (.cons q .nil) => ⟨_, _, rfl, r, q⟩
theorem Vals.zero : ∀ {us : List Value}, Vals [] us → us = []
  | _, .nil => rfl
theorem Vals.reverse {xs : List V} {us : List Value} (h : Vals xs us) : Vals xs.reverse us.reverse := by
  induction h with
  | nil => exact .nil
  | cons r t ih => rw [List.reverse_cons, List.reverse_cons]; exact Vals.append ih (.cons r .nil)
theorem Vals.rep {xs : List V} {us : List Value} (h : Vals xs us) : ∀ k : Nat, Vals (List.replicate k xs).flatten (List.replicate k us).flatten
  | 0 => .nil
  | k + 1 => by
    rw [List.replicate_succ, List.replicate_succ, List.flatten_cons, List.flatten_cons]
    exact Vals.append h (Vals.rep h k)
theorem foldl_rep (its : List Value) : ∀ (k : Nat) (acc : List Value),
    List.foldl (fun x1 x2 => x1 ++ x2) acc.toArray (List.replicate k its.toArray) = (acc ++ (List.replicate k its).flatten).toArray
  | 0, acc => by simp
  | k + 1, acc => by
    have e : acc.toArray ++ its.toArray = (acc ++ its).toArray := by simp
    have e2 : (acc ++ its) ++ (List.replicate k its).flatten = acc ++ (List.replicate (k + 1) its).flatten := by
      rw [List.replicate_succ, List.flatten_cons, List.append_assoc]
    rw [← e2, ← foldl_rep its k (acc ++ its), ← e, List.replicate_succ, List.foldl_cons]

section
variable {X : Cx} {pins : List (Addr × Obj)} {σ : St} {H : Hp} {s : Shared} {l b : Addr} {xs ys zs : List V}

/-! ### the two steps: a tracked list is rewritten, a new list is laid -/
theorem Inv.lset {its its' : List Value} {n : Nat} {f : Array Value → Array Value} {t' : Nat} (I : Inv X pins σ H s) (hH : H l = some (.lst xs))
    (e : s.heap.get? l = some { cls := .type "list", data := .seq its.toArray n }) (hf : f its.toArray = its'.toArray) (hv : Vals ys its') (hz : ys.length ≤ sizeLine) :
    Inv X pins σ (upd H l (.lst ys)) { s with heap := s.heap.update l (Obj.mapSeq f), toks := t' } := by
  have q := PySem.IsL.update e f
  rw [hf] at q
  refine I.write (x := l) (e := l) (by rw [hH]; exact trivial) (.inl rfl) (fun b' u hb hu => (Heap.get?_update_other s.heap (Obj.mapSeq f) (Ne.symm hb)).trans hu) ⟨_, q⟩ ?_
  exact ⟨hz, its', _, hv, q⟩
theorem Inv.lnew {its : List Value} {t' : Nat} (I : Inv X pins σ H s) (hv : Vals ys its) (hz : ys.length ≤ sizeLine) :
    Inv X pins σ (upd H s.heap.objs.size (.lst ys)) { s with heap := s.heap.push { cls := .type "list", data := .seq its.toArray }, toks := t' } :=
  I.laid (fun _ _ q => Heap.get?_push_of_some _ q) (Nat.le_refl _) ⟨hz, its, 0, hv, Heap.get?_push_size _ rfl⟩
theorem Inv.fresh (I : Inv X pins σ H s) : H s.heap.objs.size = none := I.hok.fresh (Nat.le_refl _)
theorem Inv.lstM (I : Inv X pins σ H s) (hH : H l = some (.lst xs)) : xs.length ≤ sizeLine ∧ ∃ (its : List Value) (n : Nat), Vals xs its ∧ xs.length = its.length ∧ s.heap.get? l = some { cls := .type "list", data := .seq its.toArray n } := by
  obtain ⟨z, its, n, r, e⟩ := I.hok l _ hH
  exact ⟨z, its, n, r, r.length, e⟩

theorem notLongL {n : Nat} (h : n ≤ sizeLine) : Builtin.List.listTooLong n = false := by
  unfold Builtin.List.listTooLong
  exact decide_eq_false (by omega)
end

section
variable {X : Cx}

/-! ### methods -/
def rAppend : V → List V → Hp → VK → Prop := fun x vs H Q => ∃ l xs y, x = .ref l ∧ vs = [y] ∧ H l = some (.lst xs) ∧ xs.length < sizeLine ∧ Q .non (upd H l (.lst (xs ++ [y])))
theorem mt_append : MtM X "list.append" rAppend := by
  intro pins s σ H x vs v us Q I rx rv h
  obtain ⟨l, xs, y, rfl, rfl, hH, hz, q⟩ := h
  cases rx
  obtain ⟨u, rfl, ru⟩ := rv.one
  obtain ⟨z, its, n, r, hl, e⟩ := I.lstM hH
  refine call_meets F.slot_list_append ⟨_, e, rfl⟩ F.entry_list_append (F.args_list_append_2 _ _) (PySem.list_append l its.toArray n u (by rw [List.size_toArray]; omega)) ⟨e, ?_⟩
  refine ⟨.non, _, I.lset (its' := its ++ [u]) hH e (by simp) (r.append (.cons ru .nil)) ?_, rfl, q⟩
  rw [List.length_append, List.length_singleton]
  omega

def rClear : V → List V → Hp → VK → Prop := fun x vs H Q => ∃ l xs, x = .ref l ∧ vs = [] ∧ H l = some (.lst xs) ∧ Q .non (upd H l (.lst []))
theorem mt_clear : MtM X "list.clear" rClear := by
  intro pins s σ H x vs v us Q I rx rv h
  obtain ⟨l, xs, rfl, rfl, hH, q⟩ := h
  cases rx
  have hus := rv.zero
  subst hus
  obtain ⟨z, its, n, r, hl, e⟩ := I.lstM hH
  refine call_meets F.slot_list_clear ⟨_, e, rfl⟩ F.entry_list_clear (F.args_list_clear_1 _) (AutoSeq1.list_clear_list_0 l its.toArray n (by rw [List.size_toArray]; omega)) ⟨e, ?_⟩
  exact ⟨.non, _, I.lset (its' := []) (ys := []) hH e rfl .nil (Nat.zero_le _), rfl, q⟩

/-! ### list + list, list += list, list * int -/
/-- a list times an int (a negative one is nothing) -/
def rRep : R2 := fun x y H Q => ∃ l k xs, x = .ref l ∧ y = .int k ∧ H l = some (.lst xs) ∧ -(2 ^ 63) ≤ k ∧ k < 2 ^ 63 ∧ xs.length * k.toNat ≤ sizeLine ∧
  ∀ p, H p = none → Q (.ref p) (upd H p (.lst (List.replicate k.toNat xs).flatten))
theorem len_rep {α : Type} (xs : List α) (k : Nat) : (List.replicate k xs).flatten.length = k * xs.length := by
  induction k with
  | zero => simp
  | succ k ih => rw [List.replicate_succ, List.flatten_cons, List.length_append, ih, Nat.succ_mul, Nat.add_comm]
theorem op_rep : OpR X (binaryOp .Mult) rRep := by
  intro pins s σ H x y v u Q I rx ry h
  obtain ⟨l, k, xs, rfl, rfl, hH, h1, h2, hz, q⟩ := h
  cases rx
  obtain ⟨t, rfl⟩ := ry
  obtain ⟨z, its, n, r, hl, e⟩ := I.lstM hH
  have hlen : its.toArray.size * k.toNat ≤ sizeLine := by rw [List.size_toArray, ← hl]; exact hz
  have hcap : ¬ its.toArray.size * k.toNat > (2 ^ 63 - 1) / 8 := by
    have : (sizeLine : Nat) ≤ (2 ^ 63 - 1) / 8 := by decide
    omega
  have hfit : ¬ (!Builtin.List.listFitsIndex k) = true := by
    rw [fitsIndex_both h1 h2]
    exact Bool.false_ne_true
  have hlong : ¬ Builtin.List.listTooLong (its.toArray.size * k.toNat) = true := by
    rw [notLongL hlen]
    exact Bool.false_ne_true
  have hnew : List.foldl (fun x1 x2 => x1 ++ x2) #[] (List.replicate (if its.toArray.isEmpty = true then 0 else k.toNat) its.toArray) = (List.replicate k.toNat its).flatten.toArray := by
    have f0 : ∀ m : Nat, List.foldl (fun x1 x2 => x1 ++ x2) #[] (List.replicate m its.toArray) = (List.replicate m its).flatten.toArray := fun m => by
      have := foldl_rep its m []
      rw [List.nil_append] at this
      exact this
    rw [f0]
    cases its with
    | nil => simp
    | cons a r' => rw [if_neg (by simp)]
  refine wpAny_binaryOp_repeat_ref (T := "list") (U := "int") (by decide) ⟨_, e, rfl⟩ (fun s' => typeIs_int s' k t) noFill_list_mul F.fills_int_mul F.slot_int_rmul repeat_list F.slot_int_index.lookup
    (call_meets F.slot_int_rmul (typeIs_int s k t) F.entry_int_rmul (F.args_int_rmul_2 _ _) (int___rmul___int_list k t l its.toArray n)
      ⟨e, rfl, ⟨_, e, rfl⟩, call_meets F.slot_list_mul ⟨_, e, rfl⟩ F.entry_list_mul (F.args_list_mul_2 _ _) (AutoListH.list___mul___list_int_3 l its.toArray n k t hfit hcap hlong) ⟨e, ?_⟩⟩)
  rw [hnew]
  exact ⟨.ref _, _, I.lnew (t' := s.toks) (r.rep k.toNat) (by rw [len_rep, Nat.mul_comm]; exact hz), rfl, q _ I.fresh⟩

/-! ### del xs[i] -/
end

/-! ### xs[a:b] = ys -/

end L2

namespace Att
open PySem PySem.W PySem.Calls PyProof.Rows

/-! ### the script -/
theorem ints_of_wellAll {P : Params} {h : Heap} : ∀ (ns : List Int) (vs : List Value), WellAll P h vs (ns.map WData.int) → IntsAre vs ns := by
  intro ns
  induction ns with
  | nil =>
    intro vs w
    rw [List.map_nil] at w
    cases w
    exact .nil
  | cons n ns ih =>
    intro vs w
    rw [List.map_cons] at w
    cases w with
    | cons a b =>
      cases a
      exact .cons _ _ (ih _ b)

theorem script_of {l : OpenLaw} {n : Nat} (hn : l.most = some n) {P : Params} {h : Heap} {args : List WData} {vals : List Value}
    (hpre : l.row.toRowW.claim.pre args = true) (hwl : WellAll P h vals args) :
    ∃ a vs ns, vals = [Value.ref a] ∧ args = [WData.list (ns.map WData.int)] ∧ h.get? a = some { cls := .type "list", data := .seq vs.toArray } ∧ IntsAre vs ns ∧ ns.length ≤ n := by
  have hsh : WShape.hasAll [] args [.list .int] = true := (pre_splitW hpre).1
  have hc : l.pre.holds [] { args := args } = true := (pre_splitW hpre).2
  obtain ⟨d, r, rfl, h1, h2⟩ := hasAllW_cons hsh
  obtain rfl := hasAllW_nil h2
  obtain ⟨xs, rfl, h3⟩ := hasW_list h1
  obtain ⟨ns, rfl⟩ := items_int h3
  have hlen : ns.length ≤ n := by
    unfold OpenLaw.pre at hc
    have h4 : (WTm.not (.lt (.lit (.int (n : Int))) (.len (.arg 0)))).holds [] { args := [.list (ns.map .int)] } = true := by
      have h4 := (holds_andW hc).1
      rw [hn] at h4
      exact h4
    have h5 := condW_of h4 (w_not (w_lt w_lit (w_len_list (w_arg rfl))))
    rw [List.length_map] at h5
    refine Nat.le_of_not_lt fun q => ?_
    have q' : (n : Int) < ((ns.length : Nat) : Int) := by omega
    first
      | (rw [decide_eq_true q'] at h5; exact absurd h5 (by decide))
      | (simp at h5; omega)
  cases hwl with
  | cons w1 w2 =>
    cases w2
    cases w1 with
    | list ho hall => exact ⟨_, _, ns, rfl, rfl, ho, ints_of_wellAll ns _ hall, hlen⟩

theorem post_true (l : OpenLaw) (args : List WData) : l.row.toRowW.claim.post args (.bool true) args = true :=
  postW_of (r := l.row.toRowW) (X := (true == true))
    (show WShape.has [] (.bool true) .bool = true by first | rfl | decide | simp [WShape.has, WShape.arms, WShape.armsAll])
    (show (WTm.eq .res (.lit (.bool true))).value [] { args := args, res := some (.bool true), after := args } = some (.bool (true == true)) from w_eq_bool (w_res rfl) w_lit) rfl

/-! ### the attachment: holds_open's last premise (the goal 'hc' behind k_head) from a wpAny of the law's body -/

/-- the same from a codeAny of the CALL (for a layer whose function contracts speak of calls) -/
theorem attach_call {l : OpenLaw} {n : Nat} {q : Program} {loose : List Str} {XP : (Str → Option Value) → Heap → Prop} {YP : World → Heap → Prop} {d : DefRec}
    (hn : l.most = some n) (hdf : d.params.defaults = [])
    (call : ∀ (w : World) (s₀ s₁ : Shared) (mg mb : Str → Option Value) (fa : Addr) (o : Obj) (pm cd doc : Value) (a : Addr) (vs : List Value) (ns : List Int),
      Ground q loose [] XP w s₀ mg mb s₁.heap → YP w s₁.heap →
      s₁.heap.get? fa = some o → o.data = .func (docDef d.name d.params d.body d.scope pm cd doc) → s₁.heap.CodeRec cd d.name → mg d.name = some (.ref fa) →
      s₁.heap.get? a = some { cls := .type "list", data := .seq vs.toArray } → IntsAre vs ns → ns.length ≤ n → s₁.gens = #[] →
      codeAny (model l.prog w) callerA (.call (.ref fa) ⟨[.ref a], []⟩) (fun r s' => r = .ok (.ret (.bool true)) ∧ OldK s₁.heap s'.heap ∧ s'.os = s₁.os ∧ AllBare s'.gens) s₁) :
    WalkO q loose XP YP l.row.toRowW d [] (fun f vs => PySem.call f vs) := by
  intro w s₀ s₁ mg mb G Y fa o pm cd doc dV kV ho hd hcd hD hmg hg args vals as hpre hlay hrd hwl hlo
  obtain rfl : dV = .none := Dflts.none hD hdf
  obtain rfl : kV = .none := Dflts.noKw hD
  obtain ⟨a, vs, ns, rfl, rfl, hobj, hints, hlen⟩ := script_of hn hpre hwl
  refine enter_call (codeAny_mono (call w s₀ s₁ mg mb fa o pm cd doc a vs ns G Y ho (fd_plain hd) hcd hmg hobj hints hlen hg) fun r s' hq => ?_)
  obtain ⟨rfl, h2, h3, h4⟩ := hq
  exact ⟨.inl ⟨.bool true, .bool true, [], rfl, fun _ => rfl, .bool true, post_true l _, fun _ => ⟨List.Pairwise.nil, fun _ hm => (nomatch hm)⟩⟩, h2, h3, h4⟩

/-! ### rules over ANY heap (no ledger) from facts about the written part K: the library's own take a ledger (News) for what they write -/
section
variable {prog : Program} {w : World} {A : Around} {E : Value → Shared → Prop} {s : Shared} {K : Frag}

/-! the whole heap as the ledger: makes every rule that writes through a ledger a rule over any heap -/
def ledger (h : Heap) (L d : Addr) : List (Addr × Obj) := (List.range h.objs.size).filterMap fun a => if a = L ∨ a = d then none else (h.get? a).map fun o => (a, o)

end
end Att

namespace L2
open PySem PySem.Spec PyProof.Rows

theorem vals_ints : ∀ {vs : List Value} {ns : List Int}, IntsAre vs ns → Vals (ns.map V.int) vs
  | _, _, .nil => .nil
  | _, _, .cons n t h => .cons ⟨t, rfl⟩ (vals_ints h)

/-- nothing is tracked but the script, known to the object (or it is an object of the module) -/
def Only (H : Hp) : Prop := ∀ b, H b = none ∨ ∃ o xs, H b = some (.frz o (.lst xs))

/-- THE HEAD: the law's promise, at the heap behind the top. F, the promise of the law's def, may use that base is part of the heap (so K.In base, base.Ns mainGlobals mg stand in Mod) -/
theorem law_call {P : Program} {w : World} {K : PySem.W.Frag} {mg mb : Str → Option Value} {CX : CXT} {k : Nat} {fa a : Addr} {fd : FuncData} {x : Str} {sp : Sp} {s₁ : Shared} {vs : List Value} {ns : List Int}
    (KX : K.In s₁.heap) (hns : s₁.heap.Ns mainGlobals mg) (hb : s₁.heap.Ns builtinsNs mb) (hbb : ∀ x : Str, x ≠ "__name__" → mb x = bootBuiltins x) (hlim : s₁.heap.NoLimit) (hg : s₁.gens = #[])
    (ha : s₁.heap.get? a = some { cls := .type "list", data := .seq vs.toArray }) (hi : IntsAre vs ns) (hl : ns.length ≤ sizeLine) (hr : Room k callerA)
    (F : ∀ base : Heap, K.In base → base.Ns mainGlobals mg → FnOk P w K mg base CX k fa fd [x] sp) (hbind : ∀ (s : Shared) (u : Value), BindsTo s fd ⟨[u], []⟩ [(x, u)])
    (hsp : ∀ H : Hp, Only H → SqL K H a (ns.map V.int) → sp [.ref a] H (fun v _ => v = .bl true) fun _ _ _ => False)
    (hCX : ∀ H e s', CX [] H s₁ (fun _ _ _ => False) e s' → False) :
    codeAny (model P w) callerA (.call (.ref fa) ⟨[.ref a], []⟩) (fun r s' => r = .ok (.ret (.bool true)) ∧ OldK s₁.heap s'.heap ∧ s'.os = s₁.os ∧ AllBare s'.gens) s₁ := by
  have rv := vals_ints hi
  have lenV := hi.length
  -- from an abstract heap in which nothing but the script may be tracked
  have core : ∀ H : Hp, Only H → SqL K H a (ns.map V.int) → HOk P w H s₁.heap → (∀ b, H b ≠ none → b = a) → (H a ≠ none → K.lookup a = none) →
      codeAny (model P w) callerA (.call (.ref fa) ⟨[.ref a], []⟩) (fun r s' => r = .ok (.ret (.bool true)) ∧ OldK s₁.heap s'.heap ∧ s'.os = s₁.os ∧ AllBare s'.gens) s₁ := by
    intro H hO hS hok hA hK
    have base_of : ∀ {b : Addr} {o : Obj}, s₁.heap.get? b = some o → H b = none → (hidT s₁.heap H).get? b = some o := fun e n => hidT_get e n
    have noA : ∀ {b : Addr} {o : Obj} {es : Array DictEntry} {ep : Nat}, s₁.heap.get? b = some o → o.data = .dict es ep → H b = none := fun {b o es ep} e d => by
      cases q : H b with
      | none => rfl
      | some u =>
        have e' : b = a := hA b (by rw [q]; simp)
        subst e'
        rw [ha] at e; cases e
        have d' : Data.seq vs.toArray _ = Data.dict es ep := d
        cases d'
    have nsK : ∀ {b : Addr} {m : Str → Option Value}, s₁.heap.Ns b m → (hidT s₁.heap H).Ns b m := fun {b m} ⟨o, es, ep, e, d, r⟩ => ⟨o, es, ep, base_of e (noA e d), d, r⟩
    have hKb : K.In (hidT s₁.heap H) := fun b o e => base_of (KX b o e) (by
      cases q : H b with
      | none => rfl
      | some u =>
        have e' : b = a := hA b (by rw [q]; simp)
        subst e'
        rw [hK (by rw [q]; simp)] at e; cases e)
    have hM : Mod K mg (hidT s₁.heap H) := ⟨hKb, nsK hns, ⟨mb, nsK hb, hbb⟩, let ⟨mc, h1, h2⟩ := hlim; ⟨mc, nsK h1, h2⟩⟩
    have e0 : Env0 P w K mg (hidT s₁.heap H) callerA [] s₁ H := ⟨rfl, hM, fun b o e => of_hidT e, Nat.le_of_eq (hidT_size _ _), trivial, fun b hb => absurd (show b ∈ ([] : List Addr) from hb) (by simp), hok, .of_eq hg⟩
    refine codeAny_mono ((F _ hKb (nsK hns)).run callerA [] s₁ H ⟨[.ref a], []⟩ [.ref a] [.ref a] _ _ hr e0 (hbind s₁ (.ref a)) (.cons rfl .nil) (hsp H hO hS)) fun r s' h => ?_
    cases r with
    | error e => exact (hCX H e s' h).elim
    | ok fl =>
      cases fl with
      | next => exact False.elim h
      | brk => exact False.elim h
      | cont => exact False.elim h
      | ret u =>
        obtain ⟨v, H', os, bare, un, hok', r', q⟩ := h
        have q' : v = .bl true := q
        subst q'
        obtain rfl : u = Value.bool true := r'
        refine ⟨rfl, OldK.of_keep fun b o e => ?_, os, bare⟩
        cases q : H b with
        | none => exact un.keep b o e q (by intro z; exact absurd (show b ∈ ([] : List Addr) from z) (by simp)) (by simp)
        | some u =>
          rcases hO b with z | ⟨ob, xs, z⟩
          · rw [q] at z; cases z
          · have z2 := un.frzs b ob _ z
            obtain ⟨e1, _⟩ := hok b _ z
            obtain ⟨e2, _⟩ := hok' b _ z2
            rw [e] at e1; cases e1
            exact e2
  cases hk : K.lookup a with
  | some o =>
    -- the script is one of the module's own objects
    have e := KX a o hk
    rw [ha] at e
    cases e
    refine core (fun _ => none) (fun _ => .inl rfl) (.inr ⟨_, vs.toArray, _, hk, rfl, rfl, rfl, by rw [List.size_toArray, lenV]; exact hl, by simpa using rv⟩) (fun b u z => by have z' : (none : Option HO) = some u := z; cases z') (fun b z => absurd rfl z) fun z => absurd rfl z
  | none =>
    refine core (fun b => if b = a then some (.frz { cls := .type "list", data := .seq vs.toArray } (.lst (ns.map V.int))) else none) (fun b => ?_) (.inl (.inr ⟨{ cls := .type "list", data := .seq vs.toArray }, if_pos rfl⟩)) (fun b u z => ?_) (fun b z => ?_) fun _ => hk
    · by_cases hb : b = a
      · exact .inr ⟨_, _, if_pos hb⟩
      · exact .inl (if_neg hb)
    · by_cases hb : b = a
      · have z' := (if_pos hb).symm.trans z
        cases z'
        subst hb
        exact ⟨ha, by rw [List.length_map]; exact hl, vs, _, rv, ha⟩
      · have z' := (if_neg hb).symm.trans z
        cases z'
    · by_cases hb : b = a
      · exact hb
      · exact absurd (if_neg hb) z
end L2

namespace L2
open PySem PySem.Spec PyProof.Rows

/-- the goal that k_head leaves (case hc), from the law's promise. F gives the function object fd (K's own) once, then the promise over every base -/
theorem walk_of {l : PySem.W.OpenLaw} {n k : Nat} {q : Program} {loose : List Str} {XP : (Str → Option Value) → Heap → Prop} {YP : World → Heap → Prop} {d : DefRec} {K : Params → PySem.W.Frag} {CX : World → CXT} {sp : World → Sp} {x : Str}
    (hn : l.most = some n) (hn2 : n ≤ sizeLine) (hdf : d.params.defaults = []) (hr : Room k callerA)
    (hY : ∀ (w : World) (h : Heap), YP w h → (K w.params).In h)
    (F : ∀ (w : World) (mg : Str → Option Value) (fa : Addr) (h : Heap), (K w.params).In h → h.Ns mainGlobals mg → mg d.name = some (.ref fa) →
      ∃ fd : FuncData, (∀ (s : Shared) (u : Value), BindsTo s fd ⟨[u], []⟩ [(x, u)]) ∧
        ∀ base : Heap, (K w.params).In base → base.Ns mainGlobals mg → FnOk l.prog w (K w.params) mg base (CX w) k fa fd [x] (sp w))
    (hsp : ∀ (w : World) (H : Hp) (a : Addr) (ns : List Int), ns.length ≤ n → Only H → SqL (K w.params) H a (ns.map V.int) → sp w [.ref a] H (fun v _ => v = .bl true) fun _ _ _ => False)
    (hCX : ∀ (w : World) (H : Hp) (s : Shared) (e : Value) (s' : Shared), CX w [] H s (fun _ _ _ => False) e s' → False) :
    PySem.W.WalkO q loose XP YP l.row.toRowW d [] (fun f vs => PySem.call f vs) := by
  refine Att.attach_call hn hdf fun w s₀ s₁ mg mb fa o pm cd doc a vs ns G Y ho hd hcd hmg hobj hints hlen hg => ?_
  have KX := hY w _ Y
  obtain ⟨fd, hb, hF⟩ := F w mg fa _ KX G.T.g hmg
  exact law_call KX G.T.g G.T.b G.T.builtins G.T.nolimit hg hobj hints (Nat.le_trans hlen hn2) hr hF hb (fun H hO hS => hsp w H a ns hlen hO hS) fun H e s' => hCX w H s₁ e s'
end L2

/- THE LAST THEOREM (shape; LID, My.* are yours):
   My.Adr: a structure of the addresses that your layer names (classes, functions); My.Txt K t: a structure (Prop) of the equations over K;
   My.txt_mk : {K} {implicit addresses ..} (e1 : nsIn K mainGlobals "law" = some (some (.ref f))) (e2 : K.lookup f = some ⟨oc, od, .func (fnOf "law" "law" params body scope dV kV doc pm an cdv ct), sl⟩) (e3 : codeIn K cdv "law" = true) .. : ∃ t, My.Txt K t

(the tactic k_is has no namespace: write k_is) -/

/-! SHORT WORDS over the layer: a def of the text, its body, what a loop and a test want. -/
namespace L2
open PySem PySem.Spec PyProof.Rows

/-! ### the text by places -/
def defArgs (s : Stmt) : Arguments := match s with
  | .FunctionDef _ a _ _ _ _ _ _ _ _ => a
  | _ => { posonlyargs := [], args := [], vararg := none, kwonlyargs := [], kw_defaults := [], kwarg := none, defaults := [] }
def defBody (s : Stmt) : List Stmt := match s with
  | .FunctionDef _ _ b _ _ _ _ _ _ _ => b
  | _ => []
def defScope (s : Stmt) : Scope := match s with
  | .FunctionDef _ _ _ _ _ _ sc _ _ _ => sc
  | _ => { kind := .function, names := [], isGenerator := false, isCoroutine := false }

/-! ### no exception leaves a def -/
abbrev CX0 : CXT := fun _ _ _ _ _ _ => False
abbrev E0 : XK := fun _ _ _ => False
theorem pass0 {X : Cx} : Passes CX0 X E0 := fun _ _ _ _ _ _ _ h => h.elim

/-! ### a def (or method) of the text as it stands behind the top -/
structure Fun (K : PySem.W.Frag) (x qual : Str) (st : Stmt) (f : Addr) (fd : FuncData) : Prop where
  ex : ∃ (oc : Value) (od : Option Addr) (kV doc pm : Value) (an : Option Addr) (cdv ct : Value) (osl : Array (Option Value)),
    fd = PySem.W.fnOf x qual (defArgs st) (defBody st) (defScope st) .none kV doc pm an cdv ct ∧ K.lookup f = some ⟨oc, od, .func fd, osl⟩ ∧ PySem.W.codeIn K cdv qual = true
  kp : PySem.W.keepIn K (.ref f) = true
section
variable {P : Program} {w : World} {K : PySem.W.Frag} {mg : Str → Option Value} {base : Heap}
/-- THE RULE for a def: its body as a term of rules, and the reading of that term -/
theorem Fun.ok {x qual : Str} {st : Stmt} {f : Addr} {fd : FuncData} {N ps : List Str} {k : Nat} {sp : Sp} (F : Fun K x qual st f fd) (S : FnScope N ps (defScope st)) (len : ∀ vs H Q E, sp vs H Q E → vs.length = ps.length)
    (hbody : ∀ (cdv : Value) (A : Around) (outer : List Env) (s : Shared) (H : Hp) (vs : List V) (Q : VK) (E : XK), Room k (A.deeper (envOfC qual (defScope st) s.heap.objs.size f cdv)) → sp vs H Q E →
      ∃ t, PSs (cxOf CX0 P w K mg base N qual (defScope st) f cdv A outer s H E).nox (defBody st) t ∧ t { nx := fun _ H' => Q .non H', rt := Q } (start N vs) H) : FnOk P w K mg base CX0 (k + 1) f fd ps sp := by
  obtain ⟨oc, od, kV, doc, pm, an, cdv, ct, osl, rfl, lk, hcd⟩ := F.ex
  refine fn_of lk hcd S len fun A outer s H vs Q E hr hsp => ?_
  obtain ⟨t, h, q⟩ := hbody cdv A outer s H vs Q E hr hsp
  exact ⟨t, h.nox, q⟩
/-- how its arguments bind (no defaults): h is «fun _ _ _ _ _ _ us hl => match us, hl with | [_, _], _ => rfl», one _ a parameter -/
theorem Fun.binds {x qual : Str} {st : Stmt} {f : Addr} {fd : FuncData} {ps : List Str} (F : Fun K x qual st f fd)
    (h : ∀ (kV doc pm : Value) (an : Option Addr) (cdv ct : Value) (us : List Value), us.length = ps.length → bindArgs (PySem.W.fnOf x qual (defArgs st) (defBody st) (defScope st) .none kV doc pm an cdv ct) ⟨us, []⟩ = pure (ps.zip us)) : Binds K fd ps [] := by
  obtain ⟨oc, od, kV, doc, pm, an, cdv, ct, osl, rfl, lk, hcd⟩ := F.ex
  exact .all (h kV doc pm an cdv ct)
theorem fun_mk {x qual : Str} {st : Stmt} {f : Addr} {oc : Value} {od an : Option Addr} {osl : Array (Option Value)} {kV doc pm cdv ct : Value} (l : K.lookup f = some ⟨oc, od, .func (PySem.W.fnOf x qual (defArgs st) (defBody st) (defScope st) .none kV doc pm an cdv ct), osl⟩)
    (c : PySem.W.codeIn K cdv qual = true) (k : PySem.W.keepIn K (.ref f) = true) : Fun K x qual st f (PySem.W.fnOf x qual (defArgs st) (defBody st) (defScope st) .none kV doc pm an cdv ct) := ⟨⟨oc, od, kV, doc, pm, an, cdv, ct, osl, rfl, l, c⟩, k⟩
end

/-! ### expressions in short: the name that stands in the i-th slot -/
section
variable {X : Cx}
theorem pv (i : Nat) {x : Str} {pos : Pos} (hN : X.N[i]? = some x := by rfl) (hv : Vis X.env.scope x := by first | exact Or.inl rfl | exact Or.inr (Or.inl rfl) | exact Or.inr (Or.inr rfl)) (hd : (x == ("__debug__" : Str)) = false := by decide)
    (hcd : (x == ("__classdict__" : Str)) = false := by decide) : PE X (.Name x pos) (tVar i) := pe_var hN hv hd hcd
end

/-! ### tests -/
theorem iteF {A B : Prop} (h : B) : if false = true then A else B := by
  rw [if_neg Bool.false_ne_true]
  exact h
theorem iteT {A B : Prop} (h : A) : if true = true then A else B := by
  rw [if_pos rfl]
  exact h

/-! ### heaps -/
/-- all that was tracked is as it was -/
def Same (H H' : Hp) : Prop := ∀ b o, H b = some o → H' b = some o
theorem Same.refl (H : Hp) : Same H H := fun _ _ h => h
theorem Same.trans {H H1 H2 : Hp} (a : Same H H1) (b : Same H1 H2) : Same H H2 := fun c o h => b c o (a c o h)
theorem Same.free {H H' : Hp} (e : Same H H') {l : Addr} (h : H' l = Option.none) : H l = Option.none := by
  cases q : H l with
  | none => rfl
  | some o =>
    rw [e l o q] at h
    cases h
theorem Same.seq {K : PySem.W.Frag} {H H' : Hp} {a : Addr} {xs : List V} (e : Same H H') (h : SqL K H a xs) : SqL K H' a xs := by
  rcases h with (h | ⟨o, h⟩) | h
  · exact .inl (.inl (e _ _ h))
  · exact .inl (.inr ⟨o, e _ _ h⟩)
  · exact .inr h

end L2
set_option Elab.async false
set_option linter.all false
set_option maxRecDepth 100000
/-! ### a list comprehension over one clause -/
namespace L2
open PySem PySem.Spec PyProof.Rows

theorem lookup_relabel (env : Env) : ∀ (names : List (Str × NameKind)) (x : Str),
    (names.map fun (n, k) => if (k == NameKind.free && env.scope.kind == .function && env.kindOf n == some .cell) then (n, NameKind.cell) else (n, k)).lookup x =
      (names.lookup x).map fun k => if (k == NameKind.free && env.scope.kind == .function && env.kindOf x == some .cell) then NameKind.cell else k
  | [], _ => rfl
  | (n, k) :: r, x => by
    have ih := lookup_relabel env r x
    show List.lookup x ((if (k == NameKind.free && env.scope.kind == .function && env.kindOf n == some .cell) = true then (n, NameKind.cell) else (n, k)) :: _) = _
    cases hx : x == n with
    | true =>
      have e : x = n := eq_of_beq hx
      subst e
      by_cases hc : (k == NameKind.free && env.scope.kind == .function && env.kindOf x == some .cell) = true
      · rw [if_pos hc]; simp only [List.lookup_cons, beq_self_eq_true, Option.map_some, if_pos hc]
      · rw [if_neg hc]; simp only [List.lookup_cons, beq_self_eq_true, Option.map_some, if_neg hc]
    | false =>
      by_cases hc : (k == NameKind.free && env.scope.kind == .function && env.kindOf n == some .cell) = true
      · rw [if_pos hc]; simp only [List.lookup_cons, hx]; exact ih
      · rw [if_neg hc]; simp only [List.lookup_cons, hx]; exact ih
theorem relabel_free {scope : Scope} {env : Env} {x : Str} (h : scope.names.lookup x = some .free) : (relabel scope env).names.lookup x = some .cell ∨ (relabel scope env).names.lookup x = some .free := by
  show (List.lookup x (scope.names.map _) = _) ∨ (List.lookup x (scope.names.map _) = _)
  rw [lookup_relabel, h]
  simp only [Option.map_some]
  split
  · exact .inl rfl
  · exact .inr rfl
theorem relabel_of {scope : Scope} {env : Env} {x : Str} (h : (relabel scope env).names.lookup x = some .cell ∨ (relabel scope env).names.lookup x = some .free) : scope.names.lookup x = some .cell ∨ scope.names.lookup x = some .free := by
  have e : (relabel scope env).names.lookup x = (scope.names.lookup x).map _ := lookup_relabel env scope.names x
  rw [e] at h
  cases q : scope.names.lookup x with
  | none => rw [q] at h; rcases h with h | h <;> cases h
  | some k =>
    rw [q] at h
    simp only [Option.map_some] at h
    by_cases hc : (k == NameKind.free && env.scope.kind == .function && env.kindOf x == some .cell) = true
    · have : k = .free := by
        cases k <;> first | rfl | (exfalso; revert hc; simp; done) | (exfalso; simp at hc)
      exact .inr (by rw [this])
    · rw [if_neg hc] at h
      exact h

/-- the closure of a comprehension: the cells of its free names -/
theorem closure_ok {scope : Scope} {env : Env} (h : ∀ y ∈ scope.names, y.2 = .free → ∃ c, env.cells.lookup y.1 = some c) :
    ∃ cl : List (Str × Addr), closureFor scope env = pure cl ∧ (∀ x c, cl.lookup x = some c → env.cells.lookup x = some c) ∧ ∀ y ∈ scope.names, y.2 = .free → ∃ c, cl.lookup y.1 = some c := by
  have aux : ∀ (names : List (Str × NameKind)) (cs : List (Str × Addr)), (∀ y ∈ names, y.2 = .free → ∃ c, env.cells.lookup y.1 = some c) → (∀ x c, cs.lookup x = some c → env.cells.lookup x = some c) →
      ∃ cl : List (Str × Addr), (forIn names cs (fun x r => (match x with | (name, kind) => if (kind == NameKind.free) = true then do let a ← cellOf env name; pure (ForInStep.yield ((name, a) :: r)) else pure (ForInStep.yield r) : Sem (ForInStep (List (Str × Addr))))) : Sem (List (Str × Addr))) = pure cl ∧
        (∀ x c, cl.lookup x = some c → env.cells.lookup x = some c) ∧ (∀ x, (∃ c, cs.lookup x = some c) → ∃ c, cl.lookup x = some c) ∧ ∀ y ∈ names, y.2 = .free → ∃ c, cl.lookup y.1 = some c := by
    intro names
    induction names with
    | nil => intro cs _ hs; exact ⟨cs, rfl, hs, fun _ z => z, fun y hy => by cases hy⟩
    | cons p r ih =>
      intro cs hn hs
      obtain ⟨n, k⟩ := p
      by_cases hk : (k == NameKind.free) = true
      · have ek : k = .free := by cases k <;> first | rfl | (exfalso; revert hk; decide)
        obtain ⟨c, hc⟩ := hn (n, k) List.mem_cons_self ek
        obtain ⟨cl, e, h1, h2, h3⟩ := ih ((n, c) :: cs) (fun y hy => hn y (List.mem_cons_of_mem _ hy)) (fun x c' hx => by
          rw [List.lookup_cons] at hx
          cases hxn : x == n with
          | true =>
            rw [hxn] at hx
            cases hx
            rw [eq_of_beq hxn]
            exact hc
          | false => rw [hxn] at hx; exact hs x c' hx)
        have self : ∃ c', ((n, c) :: cs).lookup n = some c' := ⟨c, by simp [List.lookup_cons]⟩
        refine ⟨cl, ?_, h1, fun x ⟨c', hx⟩ => h2 x ?_, fun y hy ef => ?_⟩
        · rw [List.forIn_cons]
          simp only [hk, if_true]
          have hco : cellOf env n = pure c := by unfold cellOf; rw [hc]
          rw [hco]
          simp only [pure_bind]
          exact e
        · rw [List.lookup_cons]
          cases hxn : x == n with
          | true => exact ⟨c, rfl⟩
          | false => exact ⟨c', hx⟩
        · rcases List.mem_cons.mp hy with rfl | hy
          · exact h2 _ self
          · exact h3 y hy ef
      · obtain ⟨cl, e, h1, h2, h3⟩ := ih cs (fun y hy => hn y (List.mem_cons_of_mem _ hy)) hs
        refine ⟨cl, ?_, h1, h2, fun y hy ef => ?_⟩
        · rw [List.forIn_cons]
          simp only [hk, if_false, pure_bind]
          exact e
        · rcases List.mem_cons.mp hy with rfl | hy
          · have ef' : k = .free := ef
            rw [ef'] at hk
            exact absurd rfl hk
          · exact h3 y hy ef
  obtain ⟨cl, e, h1, _, h3⟩ := aux scope.names [] h (fun x c hx => by cases hx)
  refine ⟨cl, ?_, h1, h3⟩
  unfold closureFor
  first
    | exact (congrArg (· >>= fun r => pure r) e).trans rfl
    | (simp only [bind_pure]; exact e)
    | exact e

/-- the context of a comprehension's block -/
def cxComp (X : Cx) (scope : Scope) (cl : List (Str × Addr)) (N : List Str) (fp : List Addr) (s : Shared) (H : Hp) (C : Addr) : Cx :=
  { X with N := N, s₀ := s, H₀ := H, env := compEnvC scope cl C X.env, outer := X.stack, ex := fp, fn := fun _ => false, pn := [], xe := fun _ _ => False }
/-- the slots of the captured names -/
def impS (σ : St) (ix : List Nat) : St := ix.map fun k => (σ[k]?).join

/-- what the text says of a comprehension: v its own name, F the captured ones, at the places ix of the frame around -/
structure CompOk (X : Cx) (scope : Scope) (v : Str) (F : List Str) (ix : List Nat) : Prop where
  kind : scope.kind = .function
  own : scope.names.lookup v = some .local
  names : ∀ y ∈ scope.names, y.2 = .local → scope.names.lookup y.1 = some .local
  nocell : ∀ y ∈ scope.names, y.2 ≠ .cell
  free : ∀ y ∈ scope.names, y.2 = .free → X.env.scope.names.lookup y.1 = some .cell ∨ X.env.scope.names.lookup y.1 = some .free
  cap : ∀ x ∈ F, scope.names.lookup x = some .free
  nd : (v :: F).Nodup
  eqs : ix.map (fun k => X.N[k]?) = F.map some
theorem CompOk.len {X : Cx} {scope : Scope} {v : Str} {F : List Str} {ix : List Nat} (O : CompOk X scope v F ix) : ix.length = F.length := by
  have := congrArg List.length O.eqs
  simpa using this
theorem CompOk.imp {X : Cx} {scope : Scope} {v : Str} {F : List Str} {ix : List Nat} (O : CompOk X scope v F ix) : ∀ (i : Nat) (x : Str), F[i]? = some x → ∃ k, ix[i]? = some k ∧ X.N[k]? = some x := fun i x e => by
  have h := congrArg (·[i]?) O.eqs
  simp only [List.getElem?_map, e, Option.map_some] at h
  cases q : ix[i]? with
  | none => rw [q] at h; cases h
  | some k => rw [q] at h; exact ⟨k, rfl, Option.some.inj h⟩

/-- the tests of a clause -/
def PTs (X : Cx) (ifs : List Expr) (t : TT) : Prop :=
  ∀ (pins : List (Addr × Obj)) (s : Shared) (σ : St) (H : Hp) (Q : Bool → Hp → Prop), Inv X pins σ H s → t σ H Q →
    wpAny (model X.prog X.w) X.A (forIn ifs true fun c r => if r = true then do let ok ← isTrue c X.env (eval c X.env); pure (ForInStep.yield ok) else pure (ForInStep.yield r)) (TP X pins σ Q) X.xe s
def tYes : TT := fun _ H Q => Q true H
theorem pts_nil {X : Cx} : PTs X [] tYes := fun _ _ _ H _ I h => wpAny_tests_nil ⟨H, I, h⟩
theorem pts_one {X : Cx} {c : Expr} {t : TT} (h : PT X c t) : PTs X [c] t := fun pins s σ H Q I hw => wpAny_tests_one (h pins s σ H Q I hw)

/-- the turns of a comprehension whose list stands at D: W by the turn, a measure, the items so far -/
def CompW (J : It) (σ : St) (ix : List Nat) (tt : TT) (te : TE) (H1 : Hp) (Q : VK) (D : Addr) : Prop :=
  ∃ W : Nat → Nat → List V → Hp → Prop, (∃ m, W 0 m [] (upd H1 D (.lst []))) ∧ ∀ i m ys H, W i m ys H → H D = some (.lst ys) ∧
   ((J.stop i H ∧ Q (.ref D) H) ∨ (J.go i H ∧ ∀ x H', J.yld i H x H' → tt (some x :: impS σ ix) H' fun b H3 => if b = true then te (some x :: impS σ ix) H3 fun v H4 => H4 D = some (.lst ys) ∧ ys.length < sizeLine ∧ ∃ m', m' < m ∧ W (i + 1) m' (ys ++ [v]) (upd H4 D (.lst (ys ++ [v])))
     else ∃ m', m' < m ∧ W (i + 1) m' ys H3))
def tComp (wi : TI) (ix : List Nat) (tt : TT) (te : TE) : TE := fun σ H Q => wi σ H fun J H1 => ∀ D, H1 D = none → CompW J σ ix tt te H1 Q D

section
variable {X : Cx} {scope : Scope} {v : Str} {F : List Str} {ix : List Nat} {pins : List (Addr × Obj)} {σ : St} {H : Hp} {s : Shared}

theorem Inv.compCells (I : Inv X pins σ H s) (O : CompOk X scope v F ix) : ∀ y ∈ scope.names, y.2 = .free → ∃ c, X.env.cells.lookup y.1 = some c := fun y hy hf => I.ok.has y.1 (O.free y hy hf)

/-- the block's context is a good one -/
theorem Inv.compOk {cl : List (Str × Addr)} {fp : List Addr} {C : Addr} (I : Inv X pins σ H s) (O : CompOk X scope v F ix) (hsub : ∀ x c, cl.lookup x = some c → X.env.cells.lookup x = some c) (hcl : ∀ y ∈ scope.names, y.2 = .free → ∃ c, cl.lookup y.1 = some c)
    (hfp : ∀ b ∈ fp, FpOk X pins H b) (hfz : ∀ b ∈ fp, b < s.heap.objs.size) (hC : s.heap.objs.size ≤ C) : (cxComp X scope cl (v :: F) fp s H C).Ok where
  mod := I.ok.mod
  kind := O.kind
  glob := I.ok.glob
  blt := I.ok.blt
  above := hC
  inj := fun x y c h1 h2 => I.ok.inj x y c (hsub x c h1) (hsub y c h2)
  has := fun x hx => by
    have hx' : scope.names.lookup x = some .cell ∨ scope.names.lookup x = some .free := relabel_of (env := X.env) hx
    rcases hx' with e | e
    · exact absurd rfl (O.nocell _ (PySem.mem_of_lookup e))
    · exact hcl _ (PySem.mem_of_lookup e) rfl
  cab := fun x c hf _ => by cases hf
  hd := I.ok.hd
  frames := I.ok.frames
  stk := .inl rfl
  exf := fun b hb => ⟨Nat.ne_of_lt (Nat.lt_of_lt_of_le (hfz b hb) hC), fun x c e => (hfp b hb).2.2.2.2.1 x c (hsub x c e)⟩
  bs := I.bs
  bsz := Nat.le_trans I.ok.bsz I.sz
  noex := fun b o e hb => by
    rcases (hfp b hb).2.2.2.1 with z | z
    · exact I.ok.noex b o e z
    · exact absurd (Nat.lt_of_lt_of_le (Heap.lt_size e) (Nat.le_trans I.ok.bsz z)) (Nat.lt_irrefl _)
  exfs := fun b hb hs => by
    rcases List.mem_cons.mp (I.stkSub b hs) with e | e
    · exact (hfp b hb).2.1 e
    · exact (hfp b hb).2.2.1 e
  funs := I.stack
  frf := I.stkFree

/-- the block begins -/
theorem Inv.compStart {cl : List (Str × Addr)} {fp : List Addr} {C : Addr} {h1 : Heap} {tk n : Nat} (I : Inv X pins σ H s) (O : CompOk X scope v F ix) (hsub : ∀ x c, cl.lookup x = some c → X.env.cells.lookup x = some c) (hcl : ∀ y ∈ scope.names, y.2 = .free → ∃ c, cl.lookup y.1 = some c)
    (hfp : ∀ b ∈ fp, FpOk X pins H b) (hfz : ∀ b ∈ fp, b < s.heap.objs.size) (hC : C = s.heap.objs.size + 1) (hk : ∀ b o, s.heap.get? b = some o → h1.get? b = some o) (hns : h1.Ns C fun _ => none)
    (hD : h1.get? s.heap.objs.size = some { cls := .type "list", data := .seq ([] : List Value).toArray n }) :
    Inv (cxComp X scope cl (v :: F) fp s H C) [] (none :: impS σ ix) (upd H s.heap.objs.size (.lst [])) { s with heap := h1, toks := tk } := by
  have hn : H s.heap.objs.size = none := I.hok.fresh (Nat.le_refl _)
  have hlt : s.heap.objs.size < C := by rw [hC]; exact Nat.lt_succ_self _
  refine ⟨I.compOk O hsub hcl hfp hfz (Nat.le_of_lt hlt), rfl, I.bare, Un.laid hk (Nat.le_refl _) hn, ⟨_, hns, fun i x u e1 e2 e3 => ?_⟩, fun x c e => ?_, ?_, fun x c e => ?_, fun p hp => absurd (show p ∈ ([] : List (Addr × Obj)) from hp) (by simp),
    I.hok.laid hk (Nat.le_refl _) ⟨Nat.zero_le _, [], n, .nil, hD⟩, ?_⟩
  · cases i with
    | zero => have e2' : (some none : Option (Option V)) = some (some u) := e2; cases e2'
    | succ i =>
      have e1' : F[i]? = some x := e1
      have e2' : (impS σ ix)[i]? = some (some u) := e2
      obtain ⟨k, hk1, hk2⟩ := O.imp i x e1'
      unfold impS at e2'
      rw [List.getElem?_map, hk1] at e2'
      have e4 : (σ[k]?).join = some u := by simpa using e2'
      have e5 : σ[k]? = some (some u) := by
        cases q : σ[k]? with
        | none => rw [q] at e4; cases e4
        | some o => rw [q] at e4; have : o = some u := e4; rw [this]
      have hfr : scope.names.lookup x = some .free := O.cap x (List.mem_of_getElem? e1')
      have hxX := O.free _ (PySem.mem_of_lookup hfr) rfl
      obtain ⟨m, hm, hl⟩ := I.loc
      obtain ⟨w, rw', lk⟩ := hl k x u hk2 e5 (by rcases hxX with z | z; exact .inr (.inl z); exact .inr (.inr z))
      refine ⟨w, rw', .inr ⟨?_, ?_⟩⟩
      · exact relabel_free hfr
      · obtain ⟨c, hc⟩ := hcl _ (PySem.mem_of_lookup hfr) rfl
        refine ⟨c, hc, ?_⟩
        rcases lk with ⟨z, _⟩ | ⟨_, c', hc', cell⟩
        · have z' : X.env.scope.names.lookup x = some .local := z
          rcases hxX with y | y <;> (rw [z'] at y; cases y)
        · have : c' = c := by
            have := hsub _ _ hc
            rw [hc'] at this
            exact Option.some.inj this
          subst this
          exact cell.keeps hk
  · obtain ⟨w, cell⟩ := I.cell x c (hsub x c e)
    exact ⟨w, cell.keeps hk⟩
  · show upd H s.heap.objs.size (.lst []) C = none
    rw [upd_ne (Nat.ne_of_gt hlt)]
    exact I.hok.fresh (Nat.le_of_lt hlt)
  · obtain ⟨w, cell⟩ := I.cell x c (hsub x c e)
    rw [upd_ne (Nat.ne_of_lt cell.lt)]
    exact I.freeC x c (hsub x c e)
  · show (none :: impS σ ix).length = (v :: F).length
    unfold impS
    rw [List.length_cons, List.length_cons, List.length_map, O.len]
end
end L2
set_option Elab.async false
set_option linter.all false
set_option maxRecDepth 100000
namespace L2
open PySem PySem.Spec PyProof.Rows
section
variable {X : Cx} {scope : Scope} {v : Str} {F : List Str} {ix : List Nat} {pins : List (Addr × Obj)} {σ : St} {H : Hp} {s : Shared}
  {elt iter : Expr} {ifs : List Expr} {px pos : Pos} {tt : TT} {te : TE}

/-- the block of a comprehension: the new list, the frame, the turns -/
theorem comp_block {J : It} {fp : List Addr} {it : Addr} {tn : Nat → Heap → Prop} {cl : List (Str × Addr)} {Q : VK} {RR : Value → Addr → Result → Shared → Prop}
    (I : Inv X pins σ H s) (O : CompOk X scope v F ix) (hc : X.calm = true) (hsub : ∀ x c, cl.lookup x = some c → X.env.cells.lookup x = some c) (hcl : ∀ y ∈ scope.names, y.2 = .free → ∃ c, cl.lookup y.1 = some c)
    (T : Turn X.prog X.w X.K (.Name v px) J fp it tn) (hst : tn 0 s.heap) (hfp : ∀ b ∈ fp, FpOk X pins H b)
    (hifs : ∀ cl fp s H C, PTs (cxComp X scope cl (v :: F) fp s H C) ifs tt) (helt : ∀ cl fp s H C, PE (cxComp X scope cl (v :: F) fp s H C) elt te)
    (hr : ∀ D, H D = none → CompW J σ ix tt te H Q D)
    (hRR : ∀ (D C : Addr) (s' : Shared) (H' : Hp) (m : Str → Option Value), s'.heap.Ns C m → Inv X pins σ H' s' → H' C = none → s.heap.objs.size ≤ C → Q (.ref D) H' → RR (.ref D) C (.ok .next) s') :
    wpAny (model X.prog X.w) X.A (newList []) (fun acc s₃ => wpAny (model X.prog X.w) X.A (newFunctionEnv scope X.env.globals cl [] X.env.qual none .none (some X.env)) (fun cenv s₄ =>
      codeAny (model X.prog X.w) X.A (.compStart (.ListComp elt [⟨.Name v px, iter, ifs, 0⟩] scope pos) 0 (.ref it) acc { cenv with scope := relabel scope X.env }) (RR acc cenv.locals) s₄) X.xe s₃) X.xe s := by
  have hfz : ∀ b ∈ fp, b < s.heap.objs.size := fun b hb => let ⟨o, e, _⟩ := T.obj 0 s.heap hst b hb; Heap.lt_size e
  refine wpAny_newObj_type (wpAny_newFunctionEnv O.nocell (by intro y hy; simp at hy) (fun h₁ hns₁ hsb₁ => ?_) O.kind)
  dsimp only at hns₁ hsb₁ ⊢
  generalize hH2 : s.heap.push { cls := .type "list", dict := none, data := .seq ([] : List Value).toArray } = H2 at hns₁ hsb₁ ⊢
  have hC : H2.objs.size = s.heap.objs.size + 1 := by rw [← hH2, Heap.size_push]
  have hDC : s.heap.objs.size ≠ H2.objs.size := by rw [hC]; exact Nat.ne_of_lt (Nat.lt_succ_self _)
  have old : ∀ b o, s.heap.get? b = some o → h₁.get? b = some o := fun b o e => hsb₁.extBut b o (by rw [hC]; exact Nat.ne_of_lt (Nat.lt_succ_of_lt (Heap.lt_size e))) (Heap.get?_push_of_some _ (hH2 ▸ Heap.get?_push_of_some _ e))
  have hD : h₁.get? s.heap.objs.size = some { cls := .type "list", data := .seq ([] : List Value).toArray } := hsb₁.extBut _ _ hDC (Heap.get?_push_of_some _ (hH2 ▸ Heap.get?_push_size _ rfl))
  have hst₁ : tn 0 h₁ := T.keep 0 _ _ hst fun b _ o e => old b o e
  have loop : ∀ s₃ : Shared, s₃ = { s with heap := h₁, toks := s.toks + ([] : List (Str × Value)).length } →
      codeAny (model X.prog X.w) X.A (.compLoop (.ListComp elt [⟨.Name v px, iter, ifs, 0⟩] scope pos) 0 (.ref it) (.ref s.heap.objs.size) (compEnvC scope cl H2.objs.size X.env))
        (RR (.ref s.heap.objs.size) H2.objs.size) s₃ := by
    rintro s₃ rfl
    have I1 := I.compStart (C := H2.objs.size) (tk := s.toks + ([] : List (Str × Value)).length) O hsub hcl hfp hfz hC old (show h₁.Ns _ (fun _ => none) from hns₁) hD
    obtain ⟨W, ⟨m0, w0⟩, turn⟩ := hr s.heap.objs.size (I.hok.fresh (Nat.le_refl _))
    have stat : ∀ {H' : Hp}, (∀ b ∈ fp, H' b = none) → ∀ b ∈ fp, FpOk (cxComp X scope cl (v :: F) fp s H H2.objs.size) [] H' b := fun hn b hb =>
      ⟨hn b hb, ((I1.ok.exf b hb).1), I1.ok.exfs b hb, .inl hb, (I1.ok.exf b hb).2, fun p hp => absurd (show p ∈ ([] : List (Addr × Obj)) from hp) (by simp)⟩
    have fr0 : ∀ b ∈ fp, (upd H s.heap.objs.size (.lst [])) b = none := fun b hb => by
      rw [upd_ne (Nat.ne_of_lt (hfz b hb))]
      exact (hfp b hb).1
    have ndN : (cxComp X scope cl (v :: F) fp s H H2.objs.size).N.Nodup := O.nd
    have locN : Loc (cxComp X scope cl (v :: F) fp s H H2.objs.size).env.scope v := .inl (lookup_relabel_local O.own)
    refine codeAny_loop rfl (fun n s' => ∃ i ys H', Inv (cxComp X scope cl (v :: F) fp s H H2.objs.size) [] (none :: impS σ ix) H' s' ∧ tn i s'.heap ∧ (∀ b ∈ fp, H' b = none) ∧ W i n ys H') (fun n s3 hI => ?_) m0 ⟨0, [], _, I1, hst₁, fr0, w0⟩
    obtain ⟨i, ys, H3, I3, st3, fr3, w3⟩ := hI
    show wpAny _ X.A ((compTurn (.ListComp elt [⟨.Name v px, iter, ifs, 0⟩] scope pos) 0 (.ref it) (.ref s.heap.objs.size) (compEnvC scope cl H2.objs.size X.env)).onRaise (fun x => do noteFrame x (compEnvC scope cl H2.objs.size X.env); theTreesLotGoes x)) _ _ s3
    refine wpAny_noted ?_
    rw [compTurn_list]
    refine wpAny_bind (wpAny_standAt (wpAny_bind ?_))
    obtain ⟨hD3, ⟨stop, qn⟩ | ⟨go, step⟩⟩ := turn i n ys H3 w3
    · refine thn (T.done (cxComp X scope cl (v :: F) fp s H H2.objs.size) rfl rfl rfl hc i [] s3 _ H3 _ I3 (stat fr3) st3 stop) fun r s4 ⟨hr4, I4⟩ => ?_
      subst hr4
      obtain ⟨m, hm, _⟩ := id I4.loc
      refine wpAny_pure ?_
      refine hRR _ _ s4 H3 m hm ?_ I4.free (by rw [hC]; exact Nat.le_succ _) qn
      exact I.call' (ch := fp) I4.os I4.base I4.hok I4.bare fun b hb => ⟨(hfp b hb).2.2.2.1, (hfp b hb).2.1, (hfp b hb).2.2.2.2.1, (hfp b hb).2.2.2.2.2⟩
    · refine thn (T.item (cxComp X scope cl (v :: F) fp s H H2.objs.size) rfl rfl rfl hc i [] s3 _ H3 _ I3 (stat fr3) st3 go) fun r s4 ⟨u, hr4, h4⟩ => ?_
      subst hr4
      refine wpAny_bind (thn h4 fun _ s5 ⟨x, H5, I5, r5, y5, st5, fr5⟩ => ?_)
      have I5' := I5.pinned (stat fr5) (T.obj _ _ st5)
      have hstep := step x H5 y5
      -- back to the invariant behind the body
      have again : ∀ {H7 : Hp} {s7 : Shared} {m' : Nat} {zs : List V}, Inv (cxComp X scope cl (v :: F) fp s H H2.objs.size) ([] ++ pinsAt fp s5.heap) (some x :: impS σ ix) H7 s7 → m' < n → W (i + 1) m' zs H7 →
          ∃ m, m < n ∧ ∃ i ys H', Inv (cxComp X scope cl (v :: F) fp s H H2.objs.size) [] (none :: impS σ ix) H' s7 ∧ tn i s7.heap ∧ (∀ b ∈ fp, H' b = none) ∧ W i m ys H' := fun {H7 s7 m' zs} I7 hm w7 => by
        refine ⟨m', hm, i + 1, zs, H7, ?_, T.keep _ _ _ st5 fun b hb o e => (I7.pin (b, o) (List.mem_append_right _ (List.mem_append_right _ (mem_pinsAt hb e)))).1, fun b hb => ?_, w7⟩
        · refine I7.unpinned.weak rfl fun j w e => ?_
          cases j with
          | zero => cases e
          | succ j => exact e
        · obtain ⟨o, e, d⟩ := T.obj _ _ st5 b hb
          exact (I7.pin (b, o) (List.mem_append_right _ (List.mem_append_right _ (mem_pinsAt hb e)))).2.1
      refine wpAny_bind (wpAny_mono (pg_name (X := cxComp X scope cl (v :: F) fp s H H2.objs.size) (i := 0) (x := v) (pos := px) ndN rfl locN (.inr (lookup_relabel_local O.own)) _ s5 _ H5 x u (fun σ2 H2' => σ2 = some x :: impS σ ix ∧ H2' = H5) I5' r5 ⟨rfl, rfl⟩) (fun _ s6 ⟨σ6, H6, I6, e6, e6'⟩ => ?_) fun _ _ z => False.elim z)
      subst e6 e6'
      refine wpAny_bind (wpAny_mono (hifs cl fp s H H2.objs.size _ s6 _ H6 _ I6 hstep) (fun ok s7 ⟨H7, I7, q7⟩ => ?_) fun _ _ z => False.elim z)
      cases ok with
      | false =>
        rw [if_neg Bool.false_ne_true] at q7
        obtain ⟨m', hm, w7⟩ := q7
        exact wpAny_pure ⟨rfl, again I7 hm w7⟩
      | true =>
        rw [if_pos rfl] at q7
        refine wpAny_bind (wpAny_bind (wpAny_mono (helt cl fp s H H2.objs.size _ s7 _ H7 _ I7 q7) (fun y s8 ⟨vv, H8, I8, r8, hD8, hz8, m', hm, w8⟩ => ?_) fun _ _ z => False.elim z))
        refine wpAny_bind (wpAny_mono (mt_append (X := cxComp X scope cl (v :: F) fp s H H2.objs.size) _ s8 _ H8 (.ref s.heap.objs.size) [vv] _ [y] (fun _ H9 => H9 = upd H8 s.heap.objs.size (.lst (ys ++ [vv]))) I8 rfl (.cons r8 .nil) ⟨_, ys, vv, rfl, rfl, hD8, hz8, rfl⟩) (fun _ s9 ⟨_, H9, I9, _, e9⟩ => ?_) fun _ _ z => False.elim z)
        subst e9
        exact wpAny_pure (wpAny_pure ⟨rfl, again I9 hm w8⟩)
  exact codeAny_compStart_list (loop _ rfl) (T.self _ 0 _ _ _ hst₁ (loop _ rfl))

theorem pe_comp {wi : TI} (hc : X.calm = true) (O : CompOk X scope v F ix) (hi : PI X (.Name v px) iter wi)
    (hifs : ∀ cl fp s H C, PTs (cxComp X scope cl (v :: F) fp s H C) ifs tt) (helt : ∀ cl fp s H C, PE (cxComp X scope cl (v :: F) fp s H C) elt te)
    (hs : ∀ x, foldedSetIterable iter X.env x = pure x := by intro _; rfl) : PE X (.ListComp elt [⟨.Name v px, iter, ifs, 0⟩] scope pos) (tComp wi ix tt te) := by
  intro pins s σ H Q I h
  obtain ⟨cl, hclos, hsub, hcl⟩ := closure_ok (I.compCells O)
  rw [eval_ListComp]
  refine wpAny_comprehension_free (use := none) rfl hs hclos O.kind O.names (thn (hi pins s σ H _ I h) fun xv s1 h1 => thn h1 fun itv s2 h2 => ?_)
  obtain ⟨it, fp, tn, J, H2, e, I2, T, st2, f2, hr⟩ := h2
  subst e
  refine comp_block (RR := fun acc C => compPost (model X.prog X.w) X.A X.xe none (EP X pins σ Q) acc C) I2 O hc hsub hcl T st2 f2 hifs helt hr ?_
  intro D C s' H' m hm I' hn hC q
  have fp' := I2.fpOk (H' := H') hC hn
  exact ⟨m, hm, fun h' hs' => ⟨.ref D, H', I'.turned (t' := s'.toks) (fun b o hb e => (hs'.2 b hb).trans e) hn fp'.2.1 fp'.2.2.2.1 fp'.2.2.2.2.1 fp'.2.2.2.2.2, rfl, q⟩⟩

/-- name = [.. for ..] -/
theorem ps_setComp {wi : TI} {i : Nat} {x : Str} {py spos : Pos} (hN : X.N.Nodup) (hxi : X.N[i]? = some x) (hx : Loc X.env.scope x) (hc : X.calm = true) (O : CompOk X scope v F ix) (hi : PI X (.Name v px) iter wi)
    (hifs : ∀ cl fp s H C, PTs (cxComp X scope cl (v :: F) fp s H C) ifs tt) (helt : ∀ cl fp s H C, PE (cxComp X scope cl (v :: F) fp s H C) elt te)
    (hsw : swapsWith (.ListComp elt [⟨.Name v px, iter, ifs, 0⟩] scope pos) (some (.Name x py)) spos.line X.env = pure true)
    (hs : ∀ x, foldedSetIterable iter X.env x = pure x := by intro _; rfl) (hf : X.fn x = true ∨ X.env.scope.names.lookup x = some .local := by first | exact .inl rfl | exact .inr rfl | assumption) :
    PS X (.Assign [.Name x py] (.ListComp elt [⟨.Name v px, iter, ifs, 0⟩] scope pos) spos) (tAsg (tComp wi ix tt te) (gName i)) := by
  intro pins s σ H D I h
  obtain ⟨cl, hclos, hsub, hcl⟩ := closure_ok (I.compCells O)
  rw [exec_Assign_Name_used _ _ _ _ hsw]
  refine wpAny_bind (wpAny_standAt (wpAny_bind ?_))
  show wpAny _ X.A (do let _ ← comprehension (.ListComp elt [⟨.Name v px, iter, ifs, 0⟩] scope pos) scope X.env _ (newList []) false (eval iter X.env) (some (assign (.Name x py) X.env))) _ _ s
  refine wpAny_bind (wpAny_mono (wpAny_comprehension_free (use := some (assign (.Name x py) X.env)) (Q := fun _ s' => SP X pins D .next s') rfl hs hclos O.kind O.names
    (thn (hi pins s σ H _ I h) fun xv s1 h1 => thn h1 fun itv s2 h2 => ?_)) (fun _ s' hq => wpAny_pure (wpAny_pure hq)) fun _ _ e => e)
  obtain ⟨it, fp, tn, J, H2, e, I2, T, st2, f2, hr⟩ := h2
  subst e
  refine comp_block (RR := fun acc C => compPost (model X.prog X.w) X.A X.xe (some (assign (.Name x py) X.env)) (fun _ s' => SP X pins D .next s') acc C) (Q := fun y H1 => gName i y σ H1 D.nx) I2 O hc hsub hcl T st2 f2 hifs helt hr ?_
  intro L C s' H' m hm I' hn hC q
  have fp' := I2.fpOk (H' := H') hC hn
  show wpAny _ X.A (assign (.Name x py) X.env (.ref L)) _ _ _
  refine wpAny_assign_Name (store_ok2 I' hN hxi hx (v := .ref L) rfl (fun s3 I3 ⟨a, sb, ha⟩ => ?_) hf)
  have hCa : C ≠ a := by
    rcases ha with e | e
    · rw [e]; exact fp'.2.1
    · exact Ne.symm (fp'.2.2.2.2.1 _ _ e)
  refine ⟨m, hm.sameBut sb hCa, fun h' hs' => ⟨_, H', I3.turned (t' := s3.toks) (fun b o hb e => (hs'.2 b hb).trans e) hn fp'.2.1 fp'.2.2.2.1 fp'.2.2.2.2.1 fp'.2.2.2.2.2, q⟩⟩
end
end L2
set_option Elab.async false
set_option linter.all false
set_option maxRecDepth 100000
/-! ### a program by values: what an expression, a statement, a def does, as a function of the names' data -/
namespace Y
open PySem

/- no list or dict within -/
mutual
def nol : PyData → Bool
  | .list _ => false
  | .dict _ => false
  | .tuple xs => nols xs
  | _ => true
def nols : List PyData → Bool
  | [] => true
  | d :: ds => nol d && nols ds
end
theorem nols_append : ∀ (xs ys : List PyData), nols (xs ++ ys) = (nols xs && nols ys)
  | [], ys => by simp [nols]
  | x :: xs, ys => by rw [List.cons_append, nols, nols, nols_append xs ys, Bool.and_assoc]
theorem nols_iff : ∀ {xs : List PyData}, nols xs = true ↔ ∀ x ∈ xs, nol x = true
  | [] => by simp [nols]
  | x :: xs => by rw [nols, Bool.and_eq_true, nols_iff (xs := xs)]; simp
theorem nols_map {α : Type} (f : α → PyData) (h : ∀ i, nol (f i) = true) (l : List α) : nols (l.map f) = true := nols_iff.mpr fun x hx => by
  obtain ⟨y, _, rfl⟩ := List.mem_map.mp hx; exact h y
theorem nols_rep {xs : List PyData} (h : nols xs = true) : ∀ k : Nat, nols (List.replicate k xs).flatten = true
  | 0 => rfl
  | k + 1 => by rw [List.replicate_succ, List.flatten_cons, nols_append, h, nols_rep h k]; rfl
/- data that == reads: no dict, not too deep -/
mutual
def lay : Nat → PyData → Bool
  | _, .none => true
  | _, .bool _ => true
  | _, .int _ => true
  | _, .str x => PyData.strOk x
  | n + 1, .list xs => lays n xs
  | n + 1, .tuple xs => lays n xs
  | _, _ => false
def lays : Nat → List PyData → Bool
  | _, [] => true
  | n, d :: ds => lay n d && lays n ds
end
theorem lays_iff {n : Nat} : ∀ {xs : List PyData}, lays n xs = true ↔ ∀ x ∈ xs, lay n x = true
  | [] => by simp [lays]
  | x :: xs => by rw [lays, Bool.and_eq_true, lays_iff (xs := xs)]; simp

/-- what comes of a step: a value, or an exception of a class by name -/
inductive R (α : Type) where
  | ok (a : α)
  | ex (c : Str)
abbrev M (α : Type) := Option (R α)
def mret {α : Type} (a : α) : M α := some (.ok a)
def mbind {α β : Type} (m : M α) (f : α → M β) : M β := match m with
  | none => none
  | some (.ok a) => f a
  | some (.ex c) => some (.ex c)
theorem mbind_ret {α β : Type} (a : α) (f : α → M β) : mbind (mret a) f = f a := rfl
def mo {α : Type} (o : Option α) : M α := o.map .ok
theorem mo_some {α : Type} (a : α) : mo (some a) = mret a := rfl

/-- the names' data: own (no one else holds its lists and dicts) or shared -/
abbrev DEnv := List (Option (Bool × PyData))
/-- whose lists and dicts a value may hold: those of these names and new ones; none that changes; any -/
inductive Kd where
  | fr (l : List Nat)
  | base
  | any
def nrm (k : Kd) (d : PyData) : Kd := if nol d then .fr [] else k
abbrev EF := DEnv → M (Kd × PyData)
abbrev TF := DEnv → M Bool
inductive Out where
  | nx (Γ : DEnv)
  | bk (Γ : DEnv)
  | ct (Γ : DEnv)
  | rt (o : Bool) (d : PyData)
abbrev SF := DEnv → M Out
abbrev GF := Kd → PyData → DEnv → Option DEnv
abbrev IF := DEnv → M (Kd × List PyData)
abbrev FF := List PyData → M (Bool × PyData)

/-! #### expressions -/
def eC (d : PyData) : EF := fun _ => mret (.fr [], d)
def eV (i : Nat) : EF := fun Γ => match Γ[i]? with
  | some (some (o, d)) => mret (nrm (if o then .fr [i] else .base) d, d)
  | _ => none
def eOp (g : PyData → PyData → Option PyData) (a b : EF) : EF := fun Γ => mbind (a Γ) fun x => mbind (b Γ) fun y => mbind (mo (g x.2 y.2)) fun z => mret (.fr [], z)
def eUn (g : PyData → Option PyData) (a : EF) : EF := fun Γ => mbind (a Γ) fun x => mbind (mo (g x.2)) fun z => mret (.fr [], z)
def eIx (g : PyData → PyData → Option PyData) (a b : EF) : EF := fun Γ => mbind (a Γ) fun x => mbind (b Γ) fun y => mbind (mo (g x.2 y.2)) fun z => mret (nrm x.1 z, z)
def eIf (c : TF) (a b : EF) : EF := fun Γ => mbind (c Γ) fun t => if t = true then a Γ else b Γ
/-- a op b op c -/
def eChain (g g' : PyData → PyData → Option PyData) (a b c : EF) : EF := fun Γ => mbind (a Γ) fun x => mbind (b Γ) fun y => mbind (mo (g x.2 y.2)) fun z => match z with
  | .bool true => mbind (c Γ) fun w => mbind (mo (g' y.2 w.2)) fun u => mret (.fr [], u)
  | .bool false => mret (.fr [], .bool false)
  | _ => none
/-- and, or of bools -/
def eAnd (a b : EF) : EF := fun Γ => mbind (a Γ) fun x => match x.2 with
  | .bool true => b Γ
  | .bool false => mret (.fr [], .bool false)
  | _ => none
def eOr (a b : EF) : EF := fun Γ => mbind (a Γ) fun x => match x.2 with
  | .bool true => mret (.fr [], .bool true)
  | .bool false => b Γ
  | _ => none
def eNotV (a : EF) : EF := fun Γ => mbind (a Γ) fun x => match x.2 with
  | .bool t => mret (.fr [], .bool (!t))
  | _ => none
def tE (a : EF) : TF := fun Γ => mbind (a Γ) fun x => match x.2 with
  | .bool t => mret t
  | _ => none
def tAndF (a b : TF) : TF := fun Γ => mbind (a Γ) fun x => if x = true then b Γ else mret false
def tOrF (a b : TF) : TF := fun Γ => mbind (a Γ) fun x => if x = true then mret true else b Γ
def tNotF (a : TF) : TF := fun Γ => mbind (a Γ) fun x => mret (!x)
def eArgs : List EF → DEnv → M (List (Kd × PyData))
  | [], _ => mret []
  | f :: r, Γ => mbind (f Γ) fun x => mbind (eArgs r Γ) fun xs => mret (x :: xs)
def kdDisp : List (Kd × PyData) → Kd
  | [] => .fr []
  | (.fr [], _) :: r => kdDisp r
  | _ :: _ => .any
def eTup (fs : List EF) : EF := fun Γ => mbind (eArgs fs Γ) fun xs => mret (nrm (kdDisp xs) (.tuple (xs.map Prod.snd)), .tuple (xs.map Prod.snd))
def eLst (fs : List EF) : EF := fun Γ => mbind (eArgs fs Γ) fun xs => mret (kdDisp xs, .list (xs.map Prod.snd))
def eCB (g : List PyData → Option PyData) (fs : List EF) : EF := fun Γ => mbind (eArgs fs Γ) fun xs => mbind (mo (g (xs.map Prod.snd))) fun z => mret (.fr [], z)
def eCall (F : FF) (fs : List EF) : EF := fun Γ => mbind (eArgs fs Γ) fun xs => mbind (F (xs.map Prod.snd)) fun r => mret (nrm (if r.1 = true then .fr [] else .any) r.2, r.2)

/-! #### operations -/
def gEq (x y : PyData) : Option PyData := if lay 60 x && lay 60 y then some (.bool (PyData.eqv x y)) else none
def gNe (x y : PyData) : Option PyData := if lay 60 x && lay 60 y then some (.bool (!PyData.eqv x y)) else none
def inAny (ys : List PyData) (x : PyData) : Bool := ys.any fun z => PyData.eqv z x
def gNotIn (x : PyData) : PyData → Option PyData
  | .list ys => if lay 60 x && lays 60 ys then some (.bool (!inAny ys x)) else none
  | .tuple ys => if lay 60 x && lays 60 ys then some (.bool (!inAny ys x)) else none
  | _ => none
def isNon : PyData → Bool
  | .none => true
  | _ => false
def gIs (x : PyData) : PyData → Option PyData
  | .none => some (.bool (isNon x))
  | _ => none
def gIsNot (x : PyData) : PyData → Option PyData
  | .none => some (.bool (!isNon x))
  | _ => none
def gSub : PyData → PyData → Option PyData
  | .int i, .int j => some (.int (i - j))
  | _, _ => none
def gFdiv : PyData → PyData → Option PyData
  | .int i, .int j => if 0 < j ∧ j < 2 ^ 64 then some (.int (i / j)) else none
  | _, _ => none
def gMod : PyData → PyData → Option PyData
  | .int i, .int j => if 0 < j then some (.int (i % j)) else none
  | _, _ => none
def gPow : PyData → PyData → Option PyData
  | .int i, .int j => if 0 ≤ j ∧ j ≤ 1000000 ∧ i.natAbs < 2 ^ 64 then some (.int (i ^ j.toNat)) else none
  | _, _ => none
def gLt : PyData → PyData → Option PyData
  | .int i, .int j => some (.bool (decide (i < j)))
  | _, _ => none
def gLe : PyData → PyData → Option PyData
  | .int i, .int j => some (.bool (decide (i ≤ j)))
  | _, _ => none
def gGt : PyData → PyData → Option PyData
  | .int i, .int j => some (.bool (decide (j < i)))
  | _, _ => none
def gNeg : PyData → Option PyData
  | .int i => some (.int (-i))
  | _ => none
def gAdd : PyData → PyData → Option PyData
  | .int i, .int j => some (.int (i + j))
  | .list xs, .list ys => if nols xs && nols ys && decide (xs.length + ys.length ≤ sizeLine) then some (.list (xs ++ ys)) else none
  | .tuple xs, .tuple ys => if nols xs && nols ys && decide (xs.length + ys.length ≤ sizeLine) then some (.tuple (xs ++ ys)) else none
  | .str x, .str y => if x.length + y.length ≤ sizeLine then some (.str (x ++ y)) else none
  | _, _ => none
def gMul : PyData → PyData → Option PyData
  | .int i, .int j => if (-(2 ^ 64) < i ∧ i < 2 ^ 64) ∨ (-(2 ^ 64) < j ∧ j < 2 ^ 64) then some (.int (i * j)) else none
  | _, _ => none
/-- a new list times an int -/
def repL (xs : List PyData) : PyData → M (Kd × PyData)
  | .int k => if nols xs = true ∧ -(2 ^ 63) ≤ k ∧ k < 2 ^ 63 ∧ xs.length * k.toNat ≤ sizeLine then mret (.fr [], .list (List.replicate k.toNat xs).flatten) else none
  | _ => none
def isNew : Kd → Bool
  | .fr [] => true
  | _ => false
def repD (k : Kd) (x y : PyData) : M (Kd × PyData) := if isNew k = true then (match x with
  | .list xs => repL xs y
  | _ => none) else none
def eRep (a b : EF) : EF := fun Γ => mbind (a Γ) fun x => mbind (b Γ) fun y => repD x.1 x.2 y.2
/-- the place that an index of any sign means -/
def ixN (n : Nat) (i : Int) : Option Nat := if 0 ≤ i then (if i < n then some i.toNat else none) else if -(n : Int) ≤ i then some (i + n).toNat else none
def atD {α : Type} (xs : List α) (i : Int) : Option α := (ixN xs.length i).bind fun j => xs[j]?
def gIx : PyData → PyData → Option PyData
  | .list xs, .int i => atD xs i
  | .tuple xs, .int i => atD xs i
  | .str x, .int i => if x.length ≤ sizeLine then (atD x.cps.toList i).map fun c => .str ⟨#[c]⟩ else none
  | _, _ => none
def gLen : List PyData → Option PyData
  | [.list xs] => some (.int xs.length)
  | [.tuple xs] => some (.int xs.length)
  | [.str x] => if x.length ≤ sizeLine then some (.int x.length) else none
  | _ => none
def gList : List PyData → Option PyData
  | [.list xs] => if nols xs then some (.list xs) else none
  | [.tuple xs] => if nols xs then some (.list xs) else none
  | _ => none
def gTuple : List PyData → Option PyData
  | [.list xs] => if nols xs then some (.tuple xs) else none
  | [.tuple xs] => if nols xs then some (.tuple xs) else none
  | _ => none
/-- isinstance(x, T), T a written type -/
def isTy (n : String) : PyData → Bool
  | .none => false
  | .bool _ => n == "bool" || n == "int"
  | .int _ => n == "int"
  | .str _ => n == "str"
  | .list _ => n == "list"
  | .tuple _ => n == "tuple"
  | .dict _ => n == "dict"
def eIsi (n : String) (a : EF) : EF := fun Γ => mbind (a Γ) fun x => mret (.fr [], .bool (isTy n x.2))

/-! #### stores -/
def frz1 (i : Nat) (Γ : DEnv) : DEnv := match Γ[i]? with
  | some (some (_, d)) => Γ.set i (some (false, d))
  | _ => Γ
def frzL (l : List Nat) (Γ : DEnv) : DEnv := l.foldl (fun Γ i => frz1 i Γ) Γ
def frzA (Γ : DEnv) : DEnv := Γ.map fun s => s.map fun p => (false, p.2)
def stor (Γ : DEnv) (i : Nat) (k : Kd) (d : PyData) : DEnv := match k with
  | .fr [] => Γ.set i (some (true, d))
  | .fr (j :: l) => (frzL (j :: l) Γ).set i (some (false, d))
  | .base => Γ.set i (some (false, d))
  | .any => (frzA Γ).set i (some (false, d))
def gNm (i : Nat) : GF := fun k d Γ => some (stor Γ i k d)
/-- the kind of the parts of a tuple -/
def partK : Kd → Kd
  | .fr [] => .fr []
  | .fr (_ :: _) => .any
  | .base => .base
  | .any => .any
def stors (Γ : DEnv) : List Nat → Kd → List PyData → DEnv
  | i :: is, k, d :: ds => stors (stor Γ i (nrm k d) d) is k ds
  | _, _, _ => Γ
def gTp (is : List Nat) : GF := fun k d Γ => match d with
  | .tuple ds => if ds.length = is.length then some (stors Γ is (partK k) ds) else none
  | _ => none
def frzK (k : Kd) (Γ : DEnv) : DEnv := match k with
  | .fr [] => Γ
  | .fr (j :: l) => frzL (j :: l) Γ
  | .base => Γ
  | .any => frzA Γ
/-! #### what is walked -/
def itemsOf : PyData → Option (List PyData)
  | .list xs => some xs
  | .tuple xs => some xs
  | _ => none
def itE (e : EF) : IF := fun Γ => mbind (e Γ) fun x => mbind (mo (itemsOf x.2)) fun ds => mret (x.1, ds)
def rng1 : PyData → M (Kd × List PyData)
  | .int n => if -(2 ^ 62) ≤ n ∧ n < 2 ^ 62 then mret (.fr [], (List.range n.toNat).map fun i => .int (i : Nat)) else none
  | _ => none
def itR1 (e : EF) : IF := fun Γ => mbind (e Γ) fun x => rng1 x.2
/-! #### a comprehension -/
def capD (Γ : DEnv) (ix : List Nat) : DEnv := ix.map fun k => (Γ[k]?).join.map fun p => (false, p.2)
def compD (ft : TF) (fe : EF) (cap : DEnv) : List PyData → Option (List (Kd × PyData))
  | [] => some []
  | d :: ds => match ft (some (false, d) :: cap) with
    | some (.ok true) => match fe (some (false, d) :: cap) with
      | some (.ok x) => (compD ft fe cap ds).map (x :: ·)
      | _ => none
    | some (.ok false) => compD ft fe cap ds
    | _ => none
def kdEl : List (Kd × PyData) → Option Kd
  | [] => some (.fr [])
  | (.fr [], _) :: r => kdEl r
  | (.base, _) :: r => (kdEl r).map fun _ => .any
  | _ :: _ => none
def tYesF : TF := fun _ => mret true
def eComp (it : IF) (ix : List Nat) (ft : TF) (fe : EF) : EF := fun Γ => mbind (it Γ) fun x => mbind (mo (compD ft fe (capD Γ ix) x.2)) fun ys => mbind (mo (kdEl ys)) fun k => if x.2.length ≤ 100000 then mret (k, .list (ys.map Prod.snd)) else none

/-! #### statements -/
def sSeq (f g : SF) : SF := fun Γ => mbind (f Γ) fun o => match o with
  | .nx Γ' => g Γ'
  | o => mret o
def sNil : SF := fun Γ => mret (.nx Γ)
def sBrk : SF := fun Γ => mret (.bk Γ)
def sCnt : SF := fun Γ => mret (.ct Γ)
def isFr : Kd → Bool
  | .fr _ => true
  | _ => false
def sRet (e : EF) : SF := fun Γ => mbind (e Γ) fun x => mret (.rt (isFr x.1) x.2)
def sRetN : SF := fun _ => mret (.rt true .none)
def sSet (i : Nat) (e : EF) : SF := fun Γ => mbind (e Γ) fun x => mret (.nx (stor Γ i x.1 x.2))
def sExp (e : EF) : SF := fun Γ => mbind (e Γ) fun _ => mret (.nx Γ)
def sIf (t : TF) (a b : SF) : SF := fun Γ => mbind (t Γ) fun c => if c = true then a Γ else b Γ
/-- x = y: what y held is x's -/
def sMov (i j : Nat) : SF := fun Γ => match Γ[j]? with
  | some (some (true, d)) => if nol d then mret (.nx (Γ.set i (some (true, d)))) else if i = j then none else mret (.nx ((Γ.set j none).set i (some (true, d))))
  | some (some (false, d)) => mret (.nx (stor Γ i (nrm .base d) d))
  | _ => none
def sAsg (g : GF) (e : EF) : SF := fun Γ => mbind (e Γ) fun x => mbind (mo (g x.1 x.2 Γ)) fun Γ' => mret (.nx Γ')
def forD (g : GF) (b : SF) : List PyData → DEnv → M Out
  | [], Γ => mret (.nx Γ)
  | d :: ds, Γ => mbind (mo (g (nrm .base d) d Γ)) fun Γ1 => mbind (b Γ1) fun o => match o with
    | .nx Γ' => forD g b ds Γ'
    | .ct Γ' => forD g b ds Γ'
    | .bk Γ' => mret (.nx Γ')
    | .rt o d => mret (.rt o d)
def sFor (it : IF) (g : GF) (b : SF) : SF := fun Γ => mbind (it Γ) fun x => forD g b x.2 (frzK x.1 Γ)
def whileD (n : Nat) (t : TF) (b : SF) (Γ : DEnv) : M Out := match n with
  | 0 => none
  | n + 1 => mbind (t Γ) fun c => if c = true then mbind (b Γ) fun o => (match o with
      | .nx Γ' => whileD n t b Γ'
      | .ct Γ' => whileD n t b Γ'
      | .bk Γ' => mret (.nx Γ')
      | .rt o d => mret (.rt o d)) else mret (.nx Γ)
def bigN : Nat := 1000000
def sWhile (n : Nat) (t : TF) (b : SF) : SF := fun Γ => whileD n t b Γ
/-- xs.append(e), xs a name -/
def sApp (i : Nat) (e : EF) : SF := fun Γ => match Γ[i]? with
  | some (some (true, .list xs)) => mbind (e Γ) fun x => match x.1 with
    | .fr [] => if xs.length < sizeLine then mret (.nx (Γ.set i (some (true, .list (xs ++ [x.2]))))) else none
    | .fr [j] => if xs.length < sizeLine ∧ i ≠ j then mret (.nx ((Γ.set j none).set i (some (true, .list (xs ++ [x.2]))))) else none
    | _ => none
  | _ => none
/-- not one of the names' own lists -/
def notAl : Kd → Bool
  | .fr [] => true
  | .base => true
  | _ => false
def extI (k : Kd) : PyData → Option (List PyData)
  | .list ys => if notAl k = true then some ys else none
  | .tuple ys => some ys
  | _ => none
/-- xs.extend(e) -/
def sExt (i : Nat) (e : EF) : SF := fun Γ => match Γ[i]? with
  | some (some (true, .list xs)) => mbind (e Γ) fun x => match extI x.1 x.2 with
    | some ys => if nols ys = true ∧ xs.length + ys.length ≤ sizeLine then mret (.nx (Γ.set i (some (true, .list (xs ++ ys))))) else none
    | none => none
  | _ => none
/-- xs.clear() -/
def sClr (i : Nat) : SF := fun Γ => match Γ[i]? with
  | some (some (true, .list xs)) => mret (.nx (Γ.set i (some (true, .list []))))
  | _ => none
/-- xs[j] = e -/
def sPut (i : Nat) (j e : EF) : SF := fun Γ => mbind (e Γ) fun x => match Γ[i]? with
  | some (some (true, .list xs)) => mbind (j Γ) fun y => match y.2 with
    | .int n => match ixN xs.length n with
      | some m => if nol x.2 && nols xs then mret (.nx (Γ.set i (some (true, .list (xs.set m x.2))))) else none
      | none => none
    | _ => none
  | _ => none
/-! #### defs -/
def startD (n : Nat) (ds : List PyData) : DEnv := ds.map (fun d => some (false, d)) ++ List.replicate (n - ds.length) none
def runF (n : Nat) (f : SF) : FF := fun ds => mbind (f (startD n ds)) fun o => match o with
  | .rt o d => mret (o, d)
  | .nx _ => mret (true, .none)
  | _ => none
end Y
namespace Y
open PySem
/-- tuple(reversed(xs)) -/
def gRevT : PyData → Option PyData
  | .list xs => if nols xs then some (.tuple xs.reverse) else none
  | _ => none
/-- xs.index(x) -/
def idxD (x : PyData) : List PyData → Option Nat
  | [] => none
  | y :: ys => if PyData.eqv y x then some 0 else (idxD x ys).map (· + 1)
def gIndex : PyData → PyData → Option PyData
  | .list ys, x => if lay 60 x && lays 60 ys then (idxD x ys).map fun (n : Nat) => .int n else none
  | _, _ => none
def eIdx (a b : EF) : EF := fun Γ => mbind (a Γ) fun x => match x.2 with
  | .list ys => mbind (b Γ) fun y => mbind (mo (gIndex (.list ys) y.2)) fun z => mret (.fr [], z)
  | _ => none
/-! #### slices -/
def sIxD (n d : Nat) : Option Int → Nat
  | none => d
  | some v => if v < 0 then (v + (n : Int)).toNat else min v.toNat n
def cutD (xs : List PyData) (lo hi : Option Int) : List PyData := (xs.drop (sIxD xs.length 0 lo)).take (sIxD xs.length xs.length hi - sIxD xs.length 0 lo)
def oI : PyData → M (Option Int)
  | .int n => mret (some n)
  | _ => none
def oE : Option EF → DEnv → M (Option Int)
  | none, _ => mret none
  | some f, Γ => mbind (f Γ) fun x => oI x.2
def gSl (d : PyData) (lo hi : Option Int) : Option PyData := match d with
  | .list xs => if nols xs = true then some (.list (cutD xs lo hi)) else none
  | .tuple xs => if nols xs = true then some (.tuple (cutD xs lo hi)) else none
  | _ => none
def eSl (a : EF) (lo hi : Option EF) : EF := fun Γ => mbind (a Γ) fun x => mbind (oE lo Γ) fun l => mbind (oE hi Γ) fun h => mbind (mo (gSl x.2 l h)) fun z => mret (.fr [], z)
/-! #### reversed(t), t a tuple, walked -/
end Y
set_option Elab.async false
set_option linter.all false
/-! ### dicts, by data: keys are tuples of ints, None and such tuples -/
namespace Y
open PySem
mutual
def nest : Nat → PyData → Bool
  | _, .int _ => true
  | _, .none => true
  | n + 1, .tuple ds => nests n ds
  | _, _ => false
def nests : Nat → List PyData → Bool
  | _, [] => true
  | n, d :: ds => nest n d && nests n ds
end
def hashNone : Int := 4238894112
mutual
def hashK : PyData → Int
  | .int i => hashInt i
  | .tuple xs => reduceHash (Builtin.Tuple.tupleHashOf (hashKs xs))
  | _ => hashNone
def hashKs : List PyData → List Int
  | [] => []
  | d :: ds => hashK d :: hashKs ds
end
def keyT : PyData → Bool
  | .tuple ds => nests 7 ds
  | _ => false
def keyI : PyData → Bool
  | .int _ => true
  | _ => false
end Y
set_option Elab.async false
set_option linter.all false
set_option maxRecDepth 100000
/-! ### data: what a value tells, whole; with the addresses of its lists and dicts, and without -/
namespace L2
open PySem PySem.Spec PyProof.Rows Y

/-- a dict's object: its entries' key data, key, value -/
def dctPhi (a : Addr) (ks : List (PyData × V × V)) (h : Heap) : Prop :=
  ks.length ≤ sizeLine ∧ (a == sysModules) = false ∧ ((∀ k ∈ ks, keyT k.1 = true) ∨ (∀ k ∈ ks, keyI k.1 = true)) ∧ (ks.map (·.1)).Nodup ∧ ∃ o es ep, h.get? a = some o ∧ o.ExactDict ∧ o.data = .dict es ep ∧
    Paired (fun (k : PyData × V × V) (e : DictEntry) => e.hash = hashK k.1 ∧ RelV k.2.1 e.key ∧ RelV k.2.2 e.val) ks es.toList
def HO.dct (a : Addr) (ks : List (PyData × V × V)) : HO := .ext (dctPhi a ks)

mutual
def IsD (K : PySem.W.Frag) (H : Hp) : PyData → V → Prop
  | .none, v => v = .non
  | .bool b, v => v = .bl b
  | .int i, v => v = .int i
  | .str x, v => v = .str x
  | .list xs, v => ∃ a vs, v = .ref a ∧ SqL K H a vs ∧ IsDs K H xs vs
  | .tuple xs, v => ∃ a vs, v = .ref a ∧ SqT K H a vs ∧ IsDs K H xs vs
  | .dict kvs, v => ∃ a ks, v = .ref a ∧ Rd H a (.dct a ks) ∧ IsDk K H kvs ks
def IsDs (K : PySem.W.Frag) (H : Hp) : List PyData → List V → Prop
  | [], vs => vs = []
  | d :: ds, vs => ∃ v r, vs = v :: r ∧ IsD K H d v ∧ IsDs K H ds r
def IsDk (K : PySem.W.Frag) (H : Hp) : List (PyData × PyData) → List (PyData × V × V) → Prop
  | [], ks => ks = []
  | (k, d) :: r, ks => ∃ kv v q, ks = (k, kv, v) :: q ∧ IsD K H k kv ∧ IsD K H d v ∧ IsDk K H r q
end
mutual
def IsT (K : PySem.W.Frag) (H : Hp) : PyData → V → List Addr → Prop
  | .none, v, as => v = .non ∧ as = []
  | .bool b, v, as => v = .bl b ∧ as = []
  | .int i, v, as => v = .int i ∧ as = []
  | .str x, v, as => v = .str x ∧ as = []
  | .list xs, v, as => ∃ a vs bs, v = .ref a ∧ H a = some (.lst vs) ∧ IsTs K H xs vs bs ∧ as = a :: bs
  | .tuple xs, v, as => ∃ a vs, v = .ref a ∧ SqT K H a vs ∧ IsTs K H xs vs as
  | .dict kvs, v, as => ∃ a ks bs, v = .ref a ∧ H a = some (.dct a ks) ∧ IsTk K H kvs ks bs ∧ as = a :: bs
def IsTs (K : PySem.W.Frag) (H : Hp) : List PyData → List V → List Addr → Prop
  | [], vs, as => vs = [] ∧ as = []
  | d :: ds, vs, as => ∃ v r a1 a2, vs = v :: r ∧ as = a1 ++ a2 ∧ IsT K H d v a1 ∧ IsTs K H ds r a2
def IsTk (K : PySem.W.Frag) (H : Hp) : List (PyData × PyData) → List (PyData × V × V) → List Addr → Prop
  | [], ks, as => ks = [] ∧ as = []
  | (k, d) :: r, ks, as => ∃ kv v q a1 a2, ks = (k, kv, v) :: q ∧ as = a1 ++ a2 ∧ IsT K H k kv [] ∧ IsT K H d v a1 ∧ IsTk K H r q a2
end

section
variable {K : PySem.W.Frag} {H H' : Hp}
theorem isD_int {i : Int} : IsD K H (.int i) (.int i) := by simp only [IsD]
theorem isD_non : IsD K H .none .non := by simp only [IsD]
theorem isD_bl {b : Bool} : IsD K H (.bool b) (.bl b) := by simp only [IsD]
theorem isD_str {x : Str} : IsD K H (.str x) (.str x) := by simp only [IsD]
theorem isDs_nil : IsDs K H [] [] := by simp only [IsDs]
theorem isDs_cons {d : PyData} {ds : List PyData} {v : V} {vs : List V} (h : IsD K H d v) (t : IsDs K H ds vs) : IsDs K H (d :: ds) (v :: vs) := by
  simp only [IsDs]; exact ⟨v, vs, rfl, h, t⟩
theorem isD_tup {ds : List PyData} {a : Addr} {vs : List V} (h : SqT K H a vs) (t : IsDs K H ds vs) : IsD K H (.tuple ds) (.ref a) := by
  simp only [IsD]; exact ⟨a, vs, rfl, h, t⟩
theorem isD_lst {ds : List PyData} {a : Addr} {vs : List V} (h : SqL K H a vs) (t : IsDs K H ds vs) : IsD K H (.list ds) (.ref a) := by
  simp only [IsD]; exact ⟨a, vs, rfl, h, t⟩
theorem of_isD_tup {ds : List PyData} {v : V} (h : IsD K H (.tuple ds) v) : ∃ a vs, v = .ref a ∧ SqT K H a vs ∧ IsDs K H ds vs := by
  simpa only [IsD] using h
theorem of_isD_lst {ds : List PyData} {v : V} (h : IsD K H (.list ds) v) : ∃ a vs, v = .ref a ∧ SqL K H a vs ∧ IsDs K H ds vs := by
  simpa only [IsD] using h
theorem of_isD_dct {kvs : List (PyData × PyData)} {v : V} (h : IsD K H (.dict kvs) v) : ∃ a ks, v = .ref a ∧ Rd H a (.dct a ks) ∧ IsDk K H kvs ks := by
  simpa only [IsD] using h
theorem of_isD_int {i : Int} {v : V} (h : IsD K H (.int i) v) : v = .int i := by simpa only [IsD] using h
theorem of_isD_str {i : Str} {v : V} (h : IsD K H (.str i) v) : v = .str i := by simpa only [IsD] using h
theorem of_isD_bl {i : Bool} {v : V} (h : IsD K H (.bool i) v) : v = .bl i := by simpa only [IsD] using h
theorem of_isD_non {v : V} (h : IsD K H .none v) : v = .non := by simpa only [IsD] using h
theorem isDs_length : ∀ {ds : List PyData} {vs : List V}, IsDs K H ds vs → vs.length = ds.length
  | [], vs, h => by simp only [IsDs] at h; subst h; rfl
  | d :: ds, vs, h => by
    simp only [IsDs] at h
    obtain ⟨v, r, rfl, _, t⟩ := h
    rw [List.length_cons, List.length_cons, isDs_length t]
theorem isDs_get : ∀ {ds : List PyData} {vs : List V} {i : Nat} {d : PyData}, IsDs K H ds vs → ds[i]? = some d → ∃ v, vs[i]? = some v ∧ IsD K H d v
  | [], _, _, _, _, e => by simp at e
  | c :: ds, vs, i, d, h, e => by
    simp only [IsDs] at h
    obtain ⟨v, r, rfl, hv, t⟩ := h
    cases i with
    | zero => simp at e; subst e; exact ⟨v, rfl, hv⟩
    | succ i =>
      obtain ⟨w, h1, h2⟩ := isDs_get (i := i) (d := d) t (by simpa using e)
      exact ⟨w, by simpa using h1, h2⟩
theorem isDs_get' : ∀ {ds : List PyData} {vs : List V} {i : Nat} {v : V}, IsDs K H ds vs → vs[i]? = some v → ∃ d, ds[i]? = some d ∧ IsD K H d v
  | [], vs, i, v, h, e => by simp only [IsDs] at h; subst h; simp at e
  | c :: ds, vs, i, v, h, e => by
    simp only [IsDs] at h
    obtain ⟨v', r, rfl, hv, t⟩ := h
    cases i with
    | zero => simp at e; subst e; exact ⟨c, rfl, hv⟩
    | succ i =>
      obtain ⟨w, h1, h2⟩ := isDs_get' (i := i) (v := v) t (by simpa using e)
      exact ⟨w, by simpa using h1, h2⟩
theorem isDs_append : ∀ {ds es : List PyData} {vs ws : List V}, IsDs K H ds vs → IsDs K H es ws → IsDs K H (ds ++ es) (vs ++ ws)
  | [], es, vs, ws, h, t => by simp only [IsDs] at h; subst h; exact t
  | d :: ds, es, vs, ws, h, t => by
    simp only [IsDs] at h
    obtain ⟨v, r, rfl, hv, tl⟩ := h
    exact isDs_cons hv (isDs_append tl t)
theorem isDs_snoc {ds : List PyData} {d : PyData} {vs : List V} {v : V} (h : IsDs K H ds vs) (t : IsD K H d v) : IsDs K H (ds ++ [d]) (vs ++ [v]) := isDs_append h (isDs_cons t isDs_nil)
theorem isDs_reverse : ∀ {ds : List PyData} {vs : List V}, IsDs K H ds vs → IsDs K H ds.reverse vs.reverse
  | [], vs, h => by simp only [IsDs] at h; subst h; exact isDs_nil
  | d :: ds, vs, h => by
    simp only [IsDs] at h
    obtain ⟨v, r, rfl, hv, tl⟩ := h
    rw [List.reverse_cons, List.reverse_cons]
    exact isDs_snoc (isDs_reverse tl) hv
theorem isDs_take : ∀ {ds : List PyData} {vs : List V} (n : Nat), IsDs K H ds vs → IsDs K H (ds.take n) (vs.take n)
  | _, _, 0, _ => by simp only [List.take_zero]; exact isDs_nil
  | [], vs, n + 1, h => by simp only [IsDs] at h; subst h; simp only [List.take_nil]; exact isDs_nil
  | d :: ds, vs, n + 1, h => by
    simp only [IsDs] at h
    obtain ⟨v, r, rfl, hv, tl⟩ := h
    exact isDs_cons hv (isDs_take n tl)
theorem isDs_drop : ∀ {ds : List PyData} {vs : List V} (n : Nat), IsDs K H ds vs → IsDs K H (ds.drop n) (vs.drop n)
  | _, _, 0, h => h
  | [], vs, n + 1, h => by simp only [IsDs] at h; subst h; simp only [List.drop_nil]; exact isDs_nil
  | d :: ds, vs, n + 1, h => by
    simp only [IsDs] at h
    obtain ⟨v, r, rfl, hv, tl⟩ := h
    exact isDs_drop n tl
theorem isDs_set : ∀ {ds : List PyData} {vs : List V} {d : PyData} {v : V} (n : Nat), IsDs K H ds vs → IsD K H d v → IsDs K H (ds.set n d) (vs.set n v)
  | [], vs, _, _, n, h, _ => by simp only [IsDs] at h; subst h; simp only [List.set_nil]; exact isDs_nil
  | c :: ds, vs, d, v, n, h, q => by
    simp only [IsDs] at h
    obtain ⟨v', r, rfl, hv, tl⟩ := h
    cases n with
    | zero => exact isDs_cons q tl
    | succ n => exact isDs_cons hv (isDs_set n tl q)
theorem isDs_rep : ∀ {ds : List PyData} {vs : List V} (k : Nat), IsDs K H ds vs → IsDs K H (List.replicate k ds).flatten (List.replicate k vs).flatten
  | _, _, 0, _ => isDs_nil
  | _, _, k + 1, h => by
    rw [List.replicate_succ, List.replicate_succ, List.flatten_cons, List.flatten_cons]
    exact isDs_append h (isDs_rep k h)
theorem isDs_ints : ∀ (ns : List Int), IsDs K H (ns.map PyData.int) (ns.map V.int)
  | [] => isDs_nil
  | n :: ns => isDs_cons isD_int (isDs_ints ns)

theorem Same.seqT {a : Addr} {xs : List V} (e : Same H H') (h : SqT K H a xs) : SqT K H' a xs := by
  rcases h with (h | ⟨o, h⟩) | h
  · exact .inl (.inl (e _ _ h))
  · exact .inl (.inr ⟨o, e _ _ h⟩)
  · exact .inr h
theorem Same.rd {a : Addr} {u : HO} (e : Same H H') (h : Rd H a u) : Rd H' a u := by
  rcases h with h | ⟨o, h⟩
  · exact .inl (e _ _ h)
  · exact .inr ⟨o, e _ _ h⟩
mutual
theorem IsD.same (e : Same H H') : ∀ (d : PyData) (v : V), IsD K H d v → IsD K H' d v
  | .none, v, h => by simpa only [IsD] using h
  | .bool b, v, h => by simpa only [IsD] using h
  | .int i, v, h => by simpa only [IsD] using h
  | .str x, v, h => by simpa only [IsD] using h
  | .list xs, v, h => by
    simp only [IsD] at h ⊢
    obtain ⟨a, vs, e1, h1, h2⟩ := h
    exact ⟨a, vs, e1, e.seq h1, IsDs.same e xs vs h2⟩
  | .tuple xs, v, h => by
    simp only [IsD] at h ⊢
    obtain ⟨a, vs, e1, h1, h2⟩ := h
    exact ⟨a, vs, e1, e.seqT h1, IsDs.same e xs vs h2⟩
  | .dict kvs, v, h => by
    simp only [IsD] at h ⊢
    obtain ⟨a, ks, e1, h1, h2⟩ := h
    exact ⟨a, ks, e1, e.rd h1, IsDk.same e kvs ks h2⟩
theorem IsDs.same (e : Same H H') : ∀ (ds : List PyData) (vs : List V), IsDs K H ds vs → IsDs K H' ds vs
  | [], vs, h => by simpa only [IsDs] using h
  | d :: ds, vs, h => by
    simp only [IsDs] at h ⊢
    obtain ⟨v, r, e1, h1, h2⟩ := h
    exact ⟨v, r, e1, IsD.same e d v h1, IsDs.same e ds r h2⟩
theorem IsDk.same (e : Same H H') : ∀ (ds : List (PyData × PyData)) (ks : List (PyData × V × V)), IsDk K H ds ks → IsDk K H' ds ks
  | [], ks, h => by simpa only [IsDk] using h
  | (k, d) :: r, ks, h => by
    simp only [IsDk] at h ⊢
    obtain ⟨kv, v, q, e1, h1, h2, h3⟩ := h
    exact ⟨kv, v, q, e1, IsD.same e k kv h1, IsD.same e d v h2, IsDk.same e r q h3⟩
end
theorem Same.upd {a : Addr} {o : HO} (h : H a = none) : Same H (upd H a o) := fun b u e => by
  rw [upd_ne (ne_of_none e h)]; exact e
theorem Same.upd' {H0 : Hp} {a : Addr} {o : HO} (s : Same H0 H) (h : H0 a = none) : Same H0 (L2.upd H a o) := fun b u e => by
  rw [upd_ne (ne_of_none e h)]; exact s b u e

mutual
theorem IsT.same (e : Same H H') : ∀ (d : PyData) (v : V) (as : List Addr), IsT K H d v as → IsT K H' d v as
  | .none, v, as, h => by simpa only [IsT] using h
  | .bool b, v, as, h => by simpa only [IsT] using h
  | .int i, v, as, h => by simpa only [IsT] using h
  | .str x, v, as, h => by simpa only [IsT] using h
  | .list xs, v, as, h => by
    simp only [IsT] at h ⊢
    obtain ⟨a, vs, bs, e1, h1, h2, h3⟩ := h
    exact ⟨a, vs, bs, e1, e _ _ h1, IsTs.same e xs vs bs h2, h3⟩
  | .tuple xs, v, as, h => by
    simp only [IsT] at h ⊢
    obtain ⟨a, vs, e1, h1, h2⟩ := h
    exact ⟨a, vs, e1, e.seqT h1, IsTs.same e xs vs as h2⟩
  | .dict kvs, v, as, h => by
    simp only [IsT] at h ⊢
    obtain ⟨a, ks, bs, e1, h1, h2, h3⟩ := h
    exact ⟨a, ks, bs, e1, e _ _ h1, IsTk.same e kvs ks bs h2, h3⟩
theorem IsTs.same (e : Same H H') : ∀ (ds : List PyData) (vs : List V) (as : List Addr), IsTs K H ds vs as → IsTs K H' ds vs as
  | [], vs, as, h => by simpa only [IsTs] using h
  | d :: ds, vs, as, h => by
    simp only [IsTs] at h ⊢
    obtain ⟨v, r, a1, a2, e1, e2, h1, h2⟩ := h
    exact ⟨v, r, a1, a2, e1, e2, IsT.same e d v a1 h1, IsTs.same e ds r a2 h2⟩
theorem IsTk.same (e : Same H H') : ∀ (ds : List (PyData × PyData)) (ks : List (PyData × V × V)) (as : List Addr), IsTk K H ds ks as → IsTk K H' ds ks as
  | [], ks, as, h => by simpa only [IsTk] using h
  | (k, d) :: r, ks, as, h => by
    simp only [IsTk] at h ⊢
    obtain ⟨kv, v, q, a1, a2, e1, e2, h1, h2, h3⟩ := h
    exact ⟨kv, v, q, a1, a2, e1, e2, IsT.same e k kv [] h1, IsT.same e d v a1 h2, IsTk.same e r q a2 h3⟩
end
mutual
theorem IsT.toD : ∀ (d : PyData) (v : V) (as : List Addr), IsT K H d v as → IsD K H d v
  | .none, v, as, h => by simp only [IsT] at h; simp only [IsD]; exact h.1
  | .bool b, v, as, h => by simp only [IsT] at h; simp only [IsD]; exact h.1
  | .int i, v, as, h => by simp only [IsT] at h; simp only [IsD]; exact h.1
  | .str x, v, as, h => by simp only [IsT] at h; simp only [IsD]; exact h.1
  | .list xs, v, as, h => by
    simp only [IsT] at h; simp only [IsD]
    obtain ⟨a, vs, bs, e1, h1, h2, h3⟩ := h
    exact ⟨a, vs, e1, SqL.of h1, IsTs.toD xs vs bs h2⟩
  | .tuple xs, v, as, h => by
    simp only [IsT] at h; simp only [IsD]
    obtain ⟨a, vs, e1, h1, h2⟩ := h
    exact ⟨a, vs, e1, h1, IsTs.toD xs vs as h2⟩
  | .dict kvs, v, as, h => by
    simp only [IsT] at h; simp only [IsD]
    obtain ⟨a, ks, bs, e1, h1, h2, h3⟩ := h
    exact ⟨a, ks, e1, .inl h1, IsTk.toD kvs ks bs h2⟩
theorem IsTs.toD : ∀ (ds : List PyData) (vs : List V) (as : List Addr), IsTs K H ds vs as → IsDs K H ds vs
  | [], vs, as, h => by simp only [IsTs] at h; simp only [IsDs]; exact h.1
  | d :: ds, vs, as, h => by
    simp only [IsTs] at h; simp only [IsDs]
    obtain ⟨v, r, a1, a2, e1, e2, h1, h2⟩ := h
    exact ⟨v, r, e1, IsT.toD d v a1 h1, IsTs.toD ds r a2 h2⟩
theorem IsTk.toD : ∀ (ds : List (PyData × PyData)) (ks : List (PyData × V × V)) (as : List Addr), IsTk K H ds ks as → IsDk K H ds ks
  | [], ks, as, h => by simp only [IsTk] at h; simp only [IsDk]; exact h.1
  | (k, d) :: r, ks, as, h => by
    simp only [IsTk] at h; simp only [IsDk]
    obtain ⟨kv, v, q, a1, a2, e1, e2, h1, h2, h3⟩ := h
    exact ⟨kv, v, q, e1, IsT.toD k kv [] h1, IsT.toD d v a1 h2, IsTk.toD r q a2 h3⟩
end
mutual
theorem IsD.toT : ∀ (d : PyData) (v : V), nol d = true → IsD K H d v → IsT K H d v []
  | .none, v, _, h => by simp only [IsD] at h; simp only [IsT]; exact ⟨h, trivial⟩
  | .bool b, v, _, h => by simp only [IsD] at h; simp only [IsT]; exact ⟨h, trivial⟩
  | .int i, v, _, h => by simp only [IsD] at h; simp only [IsT]; exact ⟨h, trivial⟩
  | .str x, v, _, h => by simp only [IsD] at h; simp only [IsT]; exact ⟨h, trivial⟩
  | .list xs, v, n, h => by simp [nol] at n
  | .tuple xs, v, n, h => by
    simp only [IsD] at h; simp only [IsT]
    obtain ⟨a, vs, e1, h1, h2⟩ := h
    exact ⟨a, vs, e1, h1, IsDs.toT xs vs (by simpa [nol] using n) h2⟩
  | .dict kvs, v, n, h => by simp [nol] at n
theorem IsDs.toT : ∀ (ds : List PyData) (vs : List V), nols ds = true → IsDs K H ds vs → IsTs K H ds vs []
  | [], vs, _, h => by simp only [IsDs] at h; simp only [IsTs]; exact ⟨h, trivial⟩
  | d :: ds, vs, n, h => by
    simp only [IsDs] at h; simp only [IsTs]
    obtain ⟨v, r, e1, h1, h2⟩ := h
    have n' : nol d = true ∧ nols ds = true := by simpa [nols] using n
    exact ⟨v, r, [], [], e1, rfl, IsD.toT d v n'.1 h1, IsDs.toT ds r n'.2 h2⟩
end
mutual
theorem IsT.nil : ∀ (d : PyData) (v : V) (as : List Addr), nol d = true → IsT K H d v as → as = []
  | .none, v, as, _, h => by simp only [IsT] at h; exact h.2
  | .bool b, v, as, _, h => by simp only [IsT] at h; exact h.2
  | .int i, v, as, _, h => by simp only [IsT] at h; exact h.2
  | .str x, v, as, _, h => by simp only [IsT] at h; exact h.2
  | .list xs, v, as, n, h => by simp [nol] at n
  | .tuple xs, v, as, n, h => by
    simp only [IsT] at h
    obtain ⟨a, vs, e1, h1, h2⟩ := h
    exact IsTs.nil xs vs as (by simpa [nol] using n) h2
  | .dict kvs, v, as, n, h => by simp [nol] at n
theorem IsTs.nil : ∀ (ds : List PyData) (vs : List V) (as : List Addr), nols ds = true → IsTs K H ds vs as → as = []
  | [], vs, as, _, h => by simp only [IsTs] at h; exact h.2
  | d :: ds, vs, as, n, h => by
    simp only [IsTs] at h
    obtain ⟨v, r, a1, a2, e1, e2, h1, h2⟩ := h
    have n' : nol d = true ∧ nols ds = true := by simpa [nols] using n
    rw [e2, IsT.nil d v a1 n'.1 h1, IsTs.nil ds r a2 n'.2 h2]; rfl
end
/-- a tracked list or dict -/
def isMu : HO → Prop
  | .lst _ => True
  | .ext _ => True
  | _ => False
mutual
theorem IsT.live : ∀ (d : PyData) (v : V) (as : List Addr), IsT K H d v as → ∀ a ∈ as, ∃ o, H a = some o ∧ isMu o
  | .none, v, as, h => by simp only [IsT] at h; rw [h.2]; intro a ha; cases ha
  | .bool b, v, as, h => by simp only [IsT] at h; rw [h.2]; intro a ha; cases ha
  | .int i, v, as, h => by simp only [IsT] at h; rw [h.2]; intro a ha; cases ha
  | .str x, v, as, h => by simp only [IsT] at h; rw [h.2]; intro a ha; cases ha
  | .list xs, v, as, h => by
    simp only [IsT] at h
    obtain ⟨a, vs, bs, e1, h1, h2, rfl⟩ := h
    intro b hb
    rcases List.mem_cons.mp hb with rfl | hb
    · exact ⟨_, h1, trivial⟩
    · exact IsTs.live xs vs bs h2 b hb
  | .tuple xs, v, as, h => by
    simp only [IsT] at h
    obtain ⟨a, vs, e1, h1, h2⟩ := h
    exact IsTs.live xs vs as h2
  | .dict kvs, v, as, h => by
    simp only [IsT] at h
    obtain ⟨a, ks, bs, e1, h1, h2, rfl⟩ := h
    intro b hb
    rcases List.mem_cons.mp hb with rfl | hb
    · exact ⟨_, h1, trivial⟩
    · exact IsTk.live kvs ks bs h2 b hb
theorem IsTs.live : ∀ (ds : List PyData) (vs : List V) (as : List Addr), IsTs K H ds vs as → ∀ a ∈ as, ∃ o, H a = some o ∧ isMu o
  | [], vs, as, h => by simp only [IsTs] at h; rw [h.2]; intro a ha; cases ha
  | d :: ds, vs, as, h => by
    simp only [IsTs] at h
    obtain ⟨v, r, a1, a2, e1, rfl, h1, h2⟩ := h
    intro a ha
    rcases List.mem_append.mp ha with ha | ha
    · exact IsT.live d v a1 h1 a ha
    · exact IsTs.live ds r a2 h2 a ha
theorem IsTk.live : ∀ (ds : List (PyData × PyData)) (ks : List (PyData × V × V)) (as : List Addr), IsTk K H ds ks as → ∀ a ∈ as, ∃ o, H a = some o ∧ isMu o
  | [], ks, as, h => by simp only [IsTk] at h; rw [h.2]; intro a ha; cases ha
  | (k, d) :: r, ks, as, h => by
    simp only [IsTk] at h
    obtain ⟨kv, v, q, a1, a2, e1, rfl, h1, h2, h3⟩ := h
    intro a ha
    rcases List.mem_append.mp ha with ha | ha
    · exact IsT.live d v a1 h2 a ha
    · exact IsTk.live r q a2 h3 a ha
end
/-- a mutable object elsewhere changes -/
theorem SqT.upd {l : Addr} {o o' : HO} {a : Addr} {xs : List V} (hl : H l = some o) (hm : isMu o) (h : SqT K H a xs) : SqT K (upd H l o') a xs := by
  rcases h with (h | ⟨ob, h⟩) | h
  · exact .inl (.inl (by rw [upd_ne (ne_of h hl (by intro z; subst z; exact hm))]; exact h))
  · exact .inl (.inr ⟨ob, by rw [upd_ne (ne_of h hl (by intro z; subst z; exact hm))]; exact h⟩)
  · exact .inr h
mutual
theorem IsT.upd {l : Addr} {o o' : HO} (hl : H l = some o) (hm : isMu o) : ∀ (d : PyData) (v : V) (as : List Addr), l ∉ as → IsT K H d v as → IsT K (upd H l o') d v as
  | .none, v, as, _, h => by simpa only [IsT] using h
  | .bool b, v, as, _, h => by simpa only [IsT] using h
  | .int i, v, as, _, h => by simpa only [IsT] using h
  | .str x, v, as, _, h => by simpa only [IsT] using h
  | .list xs, v, as, n, h => by
    simp only [IsT] at h ⊢
    obtain ⟨a, vs, bs, e1, h1, h2, rfl⟩ := h
    have n1 : a ≠ l := fun e => n (by rw [e]; exact List.mem_cons_self)
    exact ⟨a, vs, bs, e1, by rw [upd_ne n1]; exact h1, IsTs.upd hl hm xs vs bs (fun z => n (List.mem_cons_of_mem _ z)) h2, rfl⟩
  | .tuple xs, v, as, n, h => by
    simp only [IsT] at h ⊢
    obtain ⟨a, vs, e1, h1, h2⟩ := h
    exact ⟨a, vs, e1, h1.upd hl hm, IsTs.upd hl hm xs vs as n h2⟩
  | .dict kvs, v, as, n, h => by
    simp only [IsT] at h ⊢
    obtain ⟨a, ks, bs, e1, h1, h2, rfl⟩ := h
    have n1 : a ≠ l := fun e => n (by rw [e]; exact List.mem_cons_self)
    exact ⟨a, ks, bs, e1, by rw [upd_ne n1]; exact h1, IsTk.upd hl hm kvs ks bs (fun z => n (List.mem_cons_of_mem _ z)) h2, rfl⟩
theorem IsTs.upd {l : Addr} {o o' : HO} (hl : H l = some o) (hm : isMu o) : ∀ (ds : List PyData) (vs : List V) (as : List Addr), l ∉ as → IsTs K H ds vs as → IsTs K (upd H l o') ds vs as
  | [], vs, as, _, h => by simpa only [IsTs] using h
  | d :: ds, vs, as, n, h => by
    simp only [IsTs] at h ⊢
    obtain ⟨v, r, a1, a2, e1, rfl, h1, h2⟩ := h
    exact ⟨v, r, a1, a2, e1, rfl, IsT.upd hl hm d v a1 (fun z => n (List.mem_append_left _ z)) h1, IsTs.upd hl hm ds r a2 (fun z => n (List.mem_append_right _ z)) h2⟩
theorem IsTk.upd {l : Addr} {o o' : HO} (hl : H l = some o) (hm : isMu o) : ∀ (ds : List (PyData × PyData)) (ks : List (PyData × V × V)) (as : List Addr), l ∉ as → IsTk K H ds ks as → IsTk K (upd H l o') ds ks as
  | [], ks, as, _, h => by simpa only [IsTk] using h
  | (k, d) :: r, ks, as, n, h => by
    simp only [IsTk] at h ⊢
    obtain ⟨kv, v, q, a1, a2, e1, rfl, h1, h2, h3⟩ := h
    exact ⟨kv, v, q, a1, a2, e1, rfl, IsT.upd hl hm k kv [] (by intro z; cases z) h1, IsT.upd hl hm d v a1 (fun z => n (List.mem_append_left _ z)) h2, IsTk.upd hl hm r q a2 (fun z => n (List.mem_append_right _ z)) h3⟩
end
theorem isTs_nil : IsTs K H [] [] [] := by simp only [IsTs]; exact ⟨trivial, trivial⟩
theorem isTs_cons {d : PyData} {ds : List PyData} {v : V} {vs : List V} {a1 a2 : List Addr} (h : IsT K H d v a1) (t : IsTs K H ds vs a2) : IsTs K H (d :: ds) (v :: vs) (a1 ++ a2) := by
  simp only [IsTs]; exact ⟨v, vs, a1, a2, rfl, rfl, h, t⟩
theorem isT_tup {ds : List PyData} {a : Addr} {vs : List V} {as : List Addr} (h : SqT K H a vs) (t : IsTs K H ds vs as) : IsT K H (.tuple ds) (.ref a) as := by
  simp only [IsT]; exact ⟨a, vs, rfl, h, t⟩
theorem isT_lst {ds : List PyData} {a : Addr} {vs : List V} {as : List Addr} (h : H a = some (.lst vs)) (t : IsTs K H ds vs as) : IsT K H (.list ds) (.ref a) (a :: as) := by
  simp only [IsT]; exact ⟨a, vs, as, rfl, h, t, rfl⟩
theorem of_isT_lst {ds : List PyData} {v : V} {as : List Addr} (h : IsT K H (.list ds) v as) : ∃ a vs bs, v = .ref a ∧ H a = some (.lst vs) ∧ IsTs K H ds vs bs ∧ as = a :: bs := by
  simpa only [IsT] using h
theorem of_isT_tup {ds : List PyData} {v : V} {as : List Addr} (h : IsT K H (.tuple ds) v as) : ∃ a vs, v = .ref a ∧ SqT K H a vs ∧ IsTs K H ds vs as := by
  simpa only [IsT] using h
theorem isTs_length {ds : List PyData} {vs : List V} {as : List Addr} (h : IsTs K H ds vs as) : vs.length = ds.length := isDs_length (IsTs.toD _ _ _ h)
theorem isTs_append : ∀ {ds es : List PyData} {vs ws : List V} {as bs : List Addr}, IsTs K H ds vs as → IsTs K H es ws bs → IsTs K H (ds ++ es) (vs ++ ws) (as ++ bs)
  | [], es, vs, ws, as, bs, h, t => by simp only [IsTs] at h; obtain ⟨rfl, rfl⟩ := h; exact t
  | d :: ds, es, vs, ws, as, bs, h, t => by
    simp only [IsTs] at h
    obtain ⟨v, r, a1, a2, rfl, rfl, hv, tl⟩ := h
    rw [List.append_assoc]
    exact isTs_cons hv (isTs_append tl t)
theorem isTs_get : ∀ {ds : List PyData} {vs : List V} {as : List Addr} {i : Nat} {d : PyData}, IsTs K H ds vs as → ds[i]? = some d → ∃ v bs, vs[i]? = some v ∧ IsT K H d v bs ∧ bs.Sublist as
  | [], _, _, _, _, _, e => by simp at e
  | c :: ds, vs, as, i, d, h, e => by
    simp only [IsTs] at h
    obtain ⟨v, r, a1, a2, rfl, rfl, hv, tl⟩ := h
    cases i with
    | zero => simp at e; subst e; exact ⟨v, a1, rfl, hv, List.sublist_append_left _ _⟩
    | succ i =>
      obtain ⟨w, bs, h1, h2, h3⟩ := isTs_get (i := i) (d := d) tl (by simpa using e)
      exact ⟨w, bs, by simpa using h1, h2, h3.trans (List.sublist_append_right _ _)⟩
end
end L2
set_option Elab.async false
set_option linter.all false
set_option maxRecDepth 100000
/-! ### a program by values: an expression is a function of the names' data -/
namespace L2
open PySem PySem.Spec PyProof.Rows Y

/-- new, and no one else's -/
def Fresh (K : PySem.W.Frag) (H H' : Hp) (d : PyData) (v : V) : Prop := ∃ as, IsT K H' d v as ∧ as.Nodup ∧ ∀ a ∈ as, H a = none
def VR (K : PySem.W.Frag) (B : Hp) (φ : Nat → List Addr) (H H' : Hp) : Kd → PyData → V → Prop
  | .fr l, d, v => ∃ as, IsT K H' d v as ∧ as.Nodup ∧ ∀ a ∈ as, (∃ i ∈ l, a ∈ φ i) ∨ H a = none
  | .base, d, v => IsD K B d v
  | .any, d, v => IsD K H' d v

structure Rep (K : PySem.W.Frag) (B : Hp) (φ : Nat → List Addr) (Γ : DEnv) (σ : St) (H : Hp) : Prop where
  bs : Same B H
  len : Γ.length = σ.length
  sl : ∀ i o d, Γ[i]? = some (some (o, d)) → ∃ v, σ[i]? = some (some v) ∧ if o = true then IsT K H d v (φ i) else IsD K B d v
  nd : ∀ i, (φ i).Nodup
  nb : ∀ i, ∀ a ∈ φ i, B a = none ∧ ∃ o, H a = some o ∧ isMu o
  dj : ∀ i j, i ≠ j → ∀ a ∈ φ i, a ∉ φ j

def Runs (K : PySem.W.Frag) (Ew : Str → Hp → Prop) (B : Hp) (φ : Nat → List Addr) (H : Hp) (m : M (Kd × PyData)) (Q : VK) : Prop :=
  (∃ k d, m = some (.ok (k, d)) ∧ ∀ v H', Same H H' → VR K B φ H H' k d v → Q v H') ∨ (∃ c, m = some (.ex c) ∧ ∀ H', Same B H' → Ew c H')
def RunT (Ew : Str → Hp → Prop) (B : Hp) (H : Hp) (m : M Bool) (Q : Bool → Hp → Prop) : Prop :=
  (∃ b, m = some (.ok b) ∧ ∀ H', Same H H' → Q b H') ∨ (∃ c, m = some (.ex c) ∧ ∀ H', Same B H' → Ew c H')
def RV (K : PySem.W.Frag) (B H' : Hp) (o : Bool) (d : PyData) (v : V) : Prop :=
  if o = true then ∃ as, IsT K H' d v as ∧ as.Nodup ∧ ∀ a ∈ as, B a = none else IsD K H' d v
def RunS (K : PySem.W.Frag) (Ew : Str → Hp → Prop) (B : Hp) (m : M Out) (D : Ends) : Prop :=
  match m with
  | some (.ok (.nx Γ)) => ∀ B' φ σ H, Same B B' → Rep K B' φ Γ σ H → D.nx σ H
  | some (.ok (.bk Γ)) => ∀ B' φ σ H, Same B B' → Rep K B' φ Γ σ H → D.bk σ H
  | some (.ok (.ct Γ)) => ∀ B' φ σ H, Same B B' → Rep K B' φ Γ σ H → D.ct σ H
  | some (.ok (.rt o d)) => ∀ v H', Same B H' → RV K B H' o d v → D.rt v H'
  | some (.ex c) => ∀ H', Same B H' → Ew c H'
  | none => False
def tD (K : PySem.W.Frag) (Ew : Str → Hp → Prop) (f : EF) : TE := fun σ H Q => ∃ B φ Γ, Rep K B φ Γ σ H ∧ Runs K Ew B φ H (f Γ) Q
def tDT (K : PySem.W.Frag) (Ew : Str → Hp → Prop) (f : TF) : TT := fun σ H Q => ∃ B φ Γ, Rep K B φ Γ σ H ∧ RunT Ew B H (f Γ) Q
def tDS (K : PySem.W.Frag) (Ew : Str → Hp → Prop) (f : SF) : TS := fun D σ H => ∃ B φ Γ, Rep K B φ Γ σ H ∧ RunS K Ew B (f Γ) D
def DE (X : Cx) (K : PySem.W.Frag) (Ew : Str → Hp → Prop) (e : Expr) (f : EF) : Prop := PE X e (tD K Ew f)
def DT (X : Cx) (K : PySem.W.Frag) (Ew : Str → Hp → Prop) (e : Expr) (f : TF) : Prop := PT X e (tDT K Ew f)
def DW (X : Cx) (K : PySem.W.Frag) (Ew : Str → Hp → Prop) (e : Expr) (f : TF) : Prop := PW X e (tDT K Ew f)
def DS (X : Cx) (K : PySem.W.Frag) (Ew : Str → Hp → Prop) (s : Stmt) (f : SF) : Prop := PS X s (tDS K Ew f)
def DSs (X : Cx) (K : PySem.W.Frag) (Ew : Str → Hp → Prop) (s : List Stmt) (f : SF) : Prop := PSs X s (tDS K Ew f)

theorem PE.imp {X : Cx} {e : Expr} {t t' : TE} (h : PE X e t) (i : ∀ σ H Q, t' σ H Q → t σ H Q) : PE X e t' := fun pins s σ H Q I q => h pins s σ H Q I (i σ H Q q)
theorem PT.imp {X : Cx} {e : Expr} {t t' : TT} (h : PT X e t) (i : ∀ σ H Q, t' σ H Q → t σ H Q) : PT X e t' := fun pins s σ H Q I q => h pins s σ H Q I (i σ H Q q)
theorem PW.imp {X : Cx} {e : Expr} {t t' : TT} (h : PW X e t) (i : ∀ σ H Q, t' σ H Q → t σ H Q) : PW X e t' := fun w pins s σ H Q I q => h w pins s σ H Q I (i σ H Q q)
theorem PS.imp {X : Cx} {e : Stmt} {t t' : TS} (h : PS X e t) (i : ∀ D σ H, t' D σ H → t D σ H) : PS X e t' := fun pins s σ H D I q => h pins s σ H D I (i D σ H q)
theorem PSs.imp {X : Cx} {e : List Stmt} {t t' : TS} (h : PSs X e t) (i : ∀ D σ H, t' D σ H → t D σ H) : PSs X e t' := fun pins s σ H D I q => h pins s σ H D I (i D σ H q)

section
variable {K : PySem.W.Frag} {B B' H H' H'' : Hp} {φ : Nat → List Addr} {Γ : DEnv} {σ : St} {k : Kd} {d : PyData} {v : V} {Ew : Str → Hp → Prop}
theorem Rep.same (r : Rep K B φ Γ σ H) (s : Same H H') : Rep K B φ Γ σ H' where
  bs := r.bs.trans s
  len := r.len
  sl := fun i o d e => by
    obtain ⟨v, h1, h2⟩ := r.sl i o d e
    refine ⟨v, h1, ?_⟩
    cases o with
    | true => rw [if_pos rfl] at h2 ⊢; exact IsT.same s _ _ _ h2
    | false => rw [if_neg Bool.false_ne_true] at h2 ⊢; exact h2
  nd := r.nd
  nb := fun i a ha => ⟨(r.nb i a ha).1, let ⟨o, h1, h2⟩ := (r.nb i a ha).2; ⟨o, s _ _ h1, h2⟩⟩
  dj := r.dj
theorem VR.toD (r : Same B H') (h : VR K B φ H H' k d v) : IsD K H' d v := by
  cases k with
  | fr l => obtain ⟨as, h1, _⟩ := h; exact IsT.toD _ _ _ h1
  | base => exact IsD.same r _ _ h
  | any => exact h
theorem VR.same (h : VR K B φ H H' k d v) (s : Same H' H'') : VR K B φ H H'' k d v := by
  cases k with
  | fr l => obtain ⟨as, h1, h2, h3⟩ := h; exact ⟨as, IsT.same s _ _ _ h1, h2, h3⟩
  | base => exact h
  | any => exact IsD.same s _ _ h
/-- known at a later heap -/
theorem VR.from (h : VR K B φ H H' k d v) (s : Same H'' H) : VR K B φ H'' H' k d v := by
  cases k with
  | fr l => obtain ⟨as, h1, h2, h3⟩ := h; exact ⟨as, h1, h2, fun a ha => (h3 a ha).imp id fun z => s.free z⟩
  | base => exact h
  | any => exact h
theorem VR.imm (hn : nol d = true) (h : IsD K H' d v) (l : List Nat) : VR K B φ H H' (.fr l) d v := ⟨[], IsD.toT _ _ hn h, List.nodup_nil, fun a ha => by cases ha⟩
theorem VR.nrm (r : Same B H') (h : VR K B φ H H' k d v) : VR K B φ H H' (nrm k d) d v := by
  unfold Y.nrm
  by_cases hn : nol d = true
  · rw [if_pos hn]; exact VR.imm hn (h.toD r) []
  · rw [if_neg hn]; exact h
theorem VR.fresh : VR K B φ H H' (.fr []) d v ↔ Fresh K H H' d v := by
  constructor
  · rintro ⟨as, h1, h2, h3⟩
    exact ⟨as, h1, h2, fun a ha => by rcases h3 a ha with ⟨i, hi, _⟩ | z; cases hi; exact z⟩
  · rintro ⟨as, h1, h2, h3⟩
    exact ⟨as, h1, h2, fun a ha => .inr (h3 a ha)⟩
theorem Fresh.imm (hn : nol d = true) (h : IsD K H' d v) : Fresh K H H' d v := ⟨[], IsD.toT _ _ hn h, List.nodup_nil, fun a ha => by cases ha⟩
theorem Fresh.from (h : Fresh K H H' d v) (s : Same H'' H) : Fresh K H'' H' d v := by
  obtain ⟨as, h1, h2, h3⟩ := h
  exact ⟨as, h1, h2, fun a ha => s.free (h3 a ha)⟩
theorem Fresh.lst {ds : List PyData} {a : Addr} {vs : List V} (hn : nols ds = true) (h : H' a = some (.lst vs)) (t : IsDs K H' ds vs) (n : H a = none) : Fresh K H H' (.list ds) (.ref a) :=
  ⟨[a], isT_lst h (IsDs.toT _ _ hn t), List.nodup_cons.mpr ⟨by simp, List.nodup_nil⟩, fun b hb => by rw [List.mem_singleton.mp hb]; exact n⟩
theorem Fresh.tup {ds : List PyData} {a : Addr} {vs : List V} (hn : nols ds = true) (h : SqT K H' a vs) (t : IsDs K H' ds vs) : Fresh K H H' (.tuple ds) (.ref a) :=
  ⟨[], isT_tup h (IsDs.toT _ _ hn t), List.nodup_nil, fun b hb => by cases hb⟩

theorem Runs.mono {m : M (Kd × PyData)} {Q Q' : VK} (h : Runs K Ew B φ H m Q) (i : ∀ v H', Same H H' → Q v H' → Q' v H') : Runs K Ew B φ H m Q' := by
  rcases h with ⟨k, d, e, h⟩ | h
  · exact .inl ⟨k, d, e, fun v H' s r => i v H' s (h v H' s r)⟩
  · exact .inr h
/-- a run of a bind: the first step, then the rest -/
theorem Runs.bind {m : M (Kd × PyData)} {g : Kd × PyData → M (Kd × PyData)} {Q : VK} (r : Rep K B φ Γ σ H) (h : Runs K Ew B φ H (mbind m g) Q) :
    Runs K Ew B φ H m (fun v H1 => ∃ k d, m = some (.ok (k, d)) ∧ VR K B φ H H1 k d v ∧ Rep K B φ Γ σ H1 ∧ Same H H1 ∧ Runs K Ew B φ H (g (k, d)) Q) := by
  match m, h with
  | some (.ok (k, d)), h => exact .inl ⟨k, d, rfl, fun v H1 s hv => ⟨k, d, rfl, hv, r.same s, s, h⟩⟩
  | some (.ex c), h =>
    refine .inr ⟨c, rfl, ?_⟩
    rcases h with ⟨k, d, e, _⟩ | ⟨c', e, h⟩
    · cases e
    · cases e; exact h
  | none, h =>
    exfalso
    rcases h with ⟨k, d, e, _⟩ | ⟨c', e, h⟩
    · cases e
    · cases e
/-- from an earlier heap to a later one -/
theorem Runs.later {m : M (Kd × PyData)} {Q : VK} {H1 : Hp} (h : Runs K Ew B φ H m Q) (s : Same H H1) : Runs K Ew B φ H1 m Q := by
  rcases h with ⟨k, d, e, h⟩ | h
  · exact .inl ⟨k, d, e, fun v H' s' hv => h v H' (s.trans s') (hv.from s)⟩
  · exact .inr h
theorem RunT.later {m : M Bool} {Q : Bool → Hp → Prop} {H1 : Hp} (h : RunT Ew B H m Q) (s : Same H H1) : RunT Ew B H1 m Q := by
  rcases h with ⟨b, e, h⟩ | h
  · exact .inl ⟨b, e, fun H' s' => h H' (s.trans s')⟩
  · exact .inr h
theorem RunT.bind {m : M Bool} {g : Bool → M Bool} {Q : Bool → Hp → Prop} (h : RunT Ew B H (mbind m g) Q) :
    RunT Ew B H m (fun b H1 => m = some (.ok b) ∧ Same H H1 ∧ RunT Ew B H1 (g b) Q) := by
  match m, h with
  | some (.ok b), h => exact .inl ⟨b, rfl, fun H1 s => ⟨rfl, s, h.later s⟩⟩
  | some (.ex c), h =>
    refine .inr ⟨c, rfl, ?_⟩
    rcases h with ⟨k, e, _⟩ | ⟨c', e, h⟩
    · cases e
    · cases e; exact h
  | none, h =>
    exfalso
    rcases h with ⟨k, e, _⟩ | ⟨c', e, h⟩
    · cases e
    · cases e
end

/-! ### expressions -/

/-- a two-place operation by data -/
def OpD (X : Cx) (f : Value → Value → Sem Value) (g : PyData → PyData → Option PyData) : Prop :=
  ∃ r, OpR X f r ∧ ∀ x y z u v H Q, g x y = some z → IsD X.K H x u → IsD X.K H y v → (∀ w H', Same H H' → Fresh X.K H H' z w → Q w H') → r u v H Q
def CallD (X : Cx) (f : Value) (g : List PyData → Option PyData) : Prop :=
  ∃ r, CallR X f r ∧ ∀ xs z us H Q, g xs = some z → IsDs X.K H xs us → (∀ w H', Same H H' → Fresh X.K H H' z w → Q w H') → r us H Q
/-- a subscript by data: the item keeps to what it came of -/
def IxD (X : Cx) (g : PyData → PyData → Option PyData) : Prop :=
  ∃ r, IxR X r ∧ ∀ B φ H0 k x y z u v H Q, Same B H → g x y = some z → VR X.K B φ H0 H k x u → IsD X.K H y v → (∀ w, VR X.K B φ H0 H (nrm k z) z w → Q w H) → r u v H Q

section
variable {X : Cx} {K : PySem.W.Frag} {Ew : Str → Hp → Prop} {pos : Pos}
theorem de_c {e : Expr} {c : V} {d : PyData} (h : PE X e (tC c)) (hn : nol d = true) (hd : ∀ H, IsD K H d c) : DE X K Ew e (eC d) := h.imp fun σ H Q q => by
  obtain ⟨B, φ, Γ, r, q⟩ := q
  rcases q with ⟨k, d', e, q⟩ | ⟨c', e, q⟩
  · cases e
    exact q _ H (Same.refl H) (VR.imm hn (hd H) [])
  · cases e
theorem de_int {i : Int} {j pos} : DE X K Ew (.Constant (.int i) j pos) (eC (.int i)) := de_c pe_int rfl fun _ => isD_int
theorem de_bl {i : Bool} {j pos} : DE X K Ew (.Constant (.bool i) j pos) (eC (.bool i)) := de_c pe_bl rfl fun _ => isD_bl
theorem de_non {j pos} : DE X K Ew (.Constant .none j pos) (eC .none) := de_c pe_non rfl fun _ => isD_non
theorem de_v (i : Nat) {x : Str} (hN : X.N[i]? = some x := by rfl) (hv : Vis X.env.scope x := by first | exact Or.inl rfl | exact Or.inr (Or.inl rfl) | exact Or.inr (Or.inr rfl)) (hd : (x == ("__debug__" : Str)) = false := by decide)
    (hcd : (x == ("__classdict__" : Str)) = false := by decide) : DE X K Ew (.Name x pos) (eV i) := (pe_var hN hv hd hcd).imp fun σ H Q q => by
  obtain ⟨B, φ, Γ, r, q⟩ := q
  unfold eV at q
  match hg : Γ[i]?, q with
  | some (some (o, d)), q =>
    obtain ⟨v, h1, h2⟩ := r.sl i o d hg
    refine ⟨v, h1, ?_⟩
    rcases q with ⟨k, d', e, q⟩ | ⟨c', e, q⟩
    · cases e
      refine q v H (Same.refl H) (VR.nrm r.bs ?_)
      cases o with
      | true =>
        rw [if_pos rfl] at h2
        exact ⟨_, h2, r.nd i, fun a ha => .inl ⟨i, by simp, ha⟩⟩
      | false =>
        rw [if_neg Bool.false_ne_true] at h2
        exact h2
    · cases e
  | some none, q => rcases q with ⟨k, d', e, q⟩ | ⟨c', e, q⟩ <;> cases e
  | none, q => rcases q with ⟨k, d', e, q⟩ | ⟨c', e, q⟩ <;> cases e

/-- two operands in a row, their data at the end -/
theorem tD_two {fa fb : EF} {g : Kd × PyData → Kd × PyData → M (Kd × PyData)} {σ : St} {H : Hp} {Q : VK} {R2' : V → V → Hp → Prop} (h : tD K Ew (fun Γ => mbind (fa Γ) fun x => mbind (fb Γ) fun y => g x y) σ H Q)
    (i : ∀ B φ Γ k x k' y u v H1 H2, Rep K B φ Γ σ H2 → Same H H1 → Same H1 H2 → VR K B φ H H2 k x u → VR K B φ H1 H2 k' y v → Runs K Ew B φ H (g (k, x) (k', y)) Q → R2' u v H2) :
    tD K Ew fa σ H fun u H1 => tD K Ew fb σ H1 fun v H2 => R2' u v H2 := by
  obtain ⟨B, φ, Γ, r, q⟩ := h
  refine ⟨B, φ, Γ, r, (q.bind r).mono fun u H1 s1 ⟨k, x, e1, v1, r1, _, q1⟩ => ?_⟩
  refine ⟨B, φ, Γ, r1, ((q1.later s1).bind r1).mono fun v H2 s2 ⟨k', y, e2, v2, r2, _, q2⟩ => ?_⟩
  refine i B φ Γ k x k' y u v H1 H2 r2 s1 s2 (v1.same s2) v2 ?_
  rcases q1 with ⟨k0, d0, e0, q0⟩ | ⟨c0, e0, q0⟩
  · rw [e2] at e0
    exact .inl ⟨k0, d0, e0, q0⟩
  · rw [e2] at e0
    exact .inr ⟨c0, e0, q0⟩
theorem runs_mo {B : Hp} {φ : Nat → List Addr} {H : Hp} {o : Option PyData} {kf : PyData → Kd} {Q : VK} (h : Runs K Ew B φ H (mbind (mo o) fun z => mret (kf z, z)) Q) : ∃ z, o = some z ∧ ∀ v H', Same H H' → VR K B φ H H' (kf z) z v → Q v H' := by
  cases o with
  | none => rcases h with ⟨k, d', e, q⟩ | ⟨c', e, q⟩ <;> cases e
  | some z =>
    rcases h with ⟨k, d', e, q⟩ | ⟨c', e, q⟩
    · cases e; exact ⟨z, rfl, q⟩
    · cases e
theorem de_op {a b : Expr} {op : Operator} {fa fb : EF} {g : PyData → PyData → Option PyData} (ho : OpD X (binaryOp op) g) (ha : DE X K Ew a fa) (hb : DE X K Ew b fb) (hK : X.K = K := by rfl) : DE X K Ew (.BinOp a op b pos) (eOp g fa fb) := by
  obtain ⟨r, hr, hx⟩ := ho
  refine (pe_op hr ha hb).imp fun σ H Q q => tD_two q fun B φ Γ k x k' y u v H1 H2 r2 s1 s2 v1 v2 q => ?_
  obtain ⟨z, e, q⟩ := runs_mo q
  rw [hK] at hx
  exact hx x y z u v H2 Q e (v1.toD r2.bs) (v2.toD r2.bs) fun w H' s f => q w H' ((s1.trans s2).trans s) (VR.fresh.mpr (f.from (s1.trans s2)))
theorem de_cmp {a b : Expr} {op : CmpOp} {fa fb : EF} {g : PyData → PyData → Option PyData} (ho : OpD X (compareOp op) g) (ha : DE X K Ew a fa) (hb : DE X K Ew b fb) (hm : behindInMarks op b = false) (hK : X.K = K := by rfl) :
    DE X K Ew (.Compare a [op] [b] pos) (eOp g fa fb) := by
  obtain ⟨r, hr, hx⟩ := ho
  refine (pe_cmpR hr ha hb hm).imp fun σ H Q q => tD_two q fun B φ Γ k x k' y u v H1 H2 r2 s1 s2 v1 v2 q => ?_
  obtain ⟨z, e, q⟩ := runs_mo q
  rw [hK] at hx
  exact hx x y z u v H2 Q e (v1.toD r2.bs) (v2.toD r2.bs) fun w H' s f => q w H' ((s1.trans s2).trans s) (VR.fresh.mpr (f.from (s1.trans s2)))
theorem de_ix {a b : Expr} {fa fb : EF} {g : PyData → PyData → Option PyData} (ho : IxD X g) (ha : DE X K Ew a fa) (hb : DE X K Ew b fb) (hs : PlainIx b) (hK : X.K = K := by rfl) : DE X K Ew (.Subscript a b pos) (eIx g fa fb) := by
  obtain ⟨r, hr, hx⟩ := ho
  refine (pe_ix hr ha hb hs).imp fun σ H Q q => tD_two q fun B φ Γ k x k' y u v H1 H2 r2 s1 s2 v1 v2 q => ?_
  obtain ⟨z, e, q⟩ := runs_mo (kf := fun z => nrm k z) q
  rw [hK] at hx
  exact hx B φ H k x y z u v H2 Q r2.bs e v1 (v2.toD r2.bs) fun w hw => q w H2 (s1.trans s2) hw
end
end L2
set_option Elab.async false
set_option linter.all false
set_option maxRecDepth 100000
/-! ### operations by data -/
namespace L2
open PySem PySem.Spec PyProof.Rows Y

mutual
theorem lay_can : ∀ (d : PyData) (n : Nat), lay n d = true → d.canLay0 = true ∧ d.depth ≤ n
  | .none, n, _ => by simp [PyData.canLay0, PyData.depth]
  | .bool _, n, _ => by simp [PyData.canLay0, PyData.depth]
  | .int _, n, _ => by simp [PyData.canLay0, PyData.depth]
  | .str x, n, h => by
    have h' : PyData.strOk x = true := by cases n <;> simpa [lay] using h
    simp [PyData.canLay0, PyData.depth, h']
  | .list xs, 0, h => by simp [lay] at h
  | .list xs, n + 1, h => by
    have := lays_can xs n (by simpa [lay] using h)
    simp only [PyData.canLay0, PyData.depth]
    exact ⟨this.1, by omega⟩
  | .tuple xs, 0, h => by simp [lay] at h
  | .tuple xs, n + 1, h => by
    have := lays_can xs n (by simpa [lay] using h)
    simp only [PyData.canLay0, PyData.depth]
    exact ⟨this.1, by omega⟩
  | .dict _, n, h => by cases n <;> simp [lay] at h
theorem lays_can : ∀ (ds : List PyData) (n : Nat), lays n ds = true → PyData.canLayAll0 ds = true ∧ PyData.depthAll ds ≤ n
  | [], n, _ => by simp [PyData.canLayAll0, PyData.depthAll]
  | d :: ds, n, h => by
    have h' : lay n d = true ∧ lays n ds = true := by simpa [lays] using h
    have h1 := lay_can d n h'.1
    have h2 := lays_can ds n h'.2
    simp only [PyData.canLayAll0, PyData.depthAll, h1.1, h2.1, Bool.and_self, true_and]
    omega
end

section
variable {X : Cx} {pins : List (Addr × Obj)} {σ : St} {H : Hp} {s : Shared}
mutual
theorem IsD.reads (I : Inv X pins σ H s) : ∀ (d : PyData) (v : V) (u : Value), d.canLay0 = true → IsD X.K H d v → RelV v u → ∃ as, Reads s.heap u d as
  | .none, v, u, _, h, r => by
    simp only [IsD] at h; subst h
    cases (show u = Value.none from r); exact ⟨_, .none⟩
  | .bool b, v, u, _, h, r => by
    simp only [IsD] at h; subst h
    cases (show u = Value.bool b from r); exact ⟨_, .bool b⟩
  | .int i, v, u, _, h, r => by
    simp only [IsD] at h; subst h
    obtain ⟨t, rfl⟩ := (show ∃ t, u = Value.int i t from r); exact ⟨_, .int i t⟩
  | .str x, v, u, _, h, r => by
    simp only [IsD] at h; subst h
    obtain ⟨t, rfl⟩ := (show ∃ t, u = Value.str x t from r); exact ⟨_, .str x t⟩
  | .list xs, v, u, c, h, r => by
    simp only [IsD] at h
    obtain ⟨a, vs, rfl, h1, h2⟩ := h
    cases (show u = Value.ref a from r)
    obtain ⟨its, rv, ⟨o, n, e, hc, _, hd⟩, _⟩ := I.list h1
    obtain ⟨as, ra⟩ := IsDs.reads I xs vs its (by simpa [PyData.canLay0] using c) h2 rv
    exact ⟨_, .list e hc hd (by simpa using ra)⟩
  | .tuple xs, v, u, c, h, r => by
    simp only [IsD] at h
    obtain ⟨a, vs, rfl, h1, h2⟩ := h
    cases (show u = Value.ref a from r)
    obtain ⟨its, rv, ⟨o, e, hc, n, hd⟩, _⟩ := I.tuple h1
    obtain ⟨as, ra⟩ := IsDs.reads I xs vs its (by simpa [PyData.canLay0] using c) h2 rv
    exact ⟨_, .tuple e hc hd (by simpa using ra)⟩
  | .dict _, v, u, c, h, r => by simp [PyData.canLay0] at c
theorem IsDs.reads (I : Inv X pins σ H s) : ∀ (ds : List PyData) (vs : List V) (us : List Value), PyData.canLayAll0 ds = true → IsDs X.K H ds vs → Vals vs us → ∃ as, ReadsAll s.heap us ds as
  | [], vs, us, _, h, r => by
    simp only [IsDs] at h; subst h; cases r; exact ⟨_, .nil⟩
  | d :: ds, vs, us, c, h, r => by
    simp only [IsDs] at h
    obtain ⟨v, w, rfl, h1, h2⟩ := h
    have c' : d.canLay0 = true ∧ PyData.canLayAll0 ds = true := by simpa [PyData.canLayAll0] using c
    cases r with
    | cons r1 r2 =>
      obtain ⟨as, ra⟩ := IsD.reads I d v _ c'.1 h1 r1
      obtain ⟨bs, rb⟩ := IsDs.reads I ds w _ c'.2 h2 r2
      exact ⟨_, .cons ra rb⟩
end
end
theorem Room.units80 {k : Nat} {A : Around} (r : Room k A) : A.units + 80 < cLine := by have := r.un; omega

/-! #### ==, !=, in, not in -/
section
variable {X : Cx}
/-- an operation whose rule leaves the heap -/
theorem OpD.of {f : Value → Value → Sem Value} {g : PyData → PyData → Option PyData}
    (h : ∀ (pins : List (Addr × Obj)) (s : Shared) (σ : St) (H : Hp) (x y z : PyData) (u v : V) (a b : Value) (Q : VK), Inv X pins σ H s → g x y = some z → IsD X.K H x u → IsD X.K H y v → RelV u a → RelV v b →
      (∀ w H', Same H H' → Fresh X.K H H' z w → Q w H') → wpAny (model X.prog X.w) X.A (f a b) (EP X pins σ Q) X.xe s) : OpD X f g :=
  ⟨fun u v H Q => ∃ x y z, g x y = some z ∧ IsD X.K H x u ∧ IsD X.K H y v ∧ ∀ w H', Same H H' → Fresh X.K H H' z w → Q w H',
   fun pins s σ H u v a b Q I ru rv ⟨x, y, z, e, hx, hy, q⟩ => h pins s σ H x y z u v a b Q I e hx hy ru rv q,
   fun x y z u v H Q e hx hy q => ⟨x, y, z, e, hx, hy, q⟩⟩
theorem opd_eq (hu : X.A.units + 80 < cLine) : OpD X (compareOp .Eq) gEq := OpD.of fun pins s σ H x y z u v a b Q I e hx hy ru rv q => by
  unfold gEq at e
  split at e
  · rename_i c
    have c' : lay 60 x = true ∧ lay 60 y = true := by simpa using c
    have l1 := lay_can _ _ c'.1
    have l2 := lay_can _ _ c'.2
    obtain ⟨as, ra⟩ := IsD.reads I x u a l1.1 hx ru
    obtain ⟨bs, rb⟩ := IsD.reads I y v b l2.1 hy rv
    cases e
    exact SeqAt.compareEq_reads ra rb l1.1 l2.1 (by omega) ⟨.bl _, H, I, rfl, q _ H (Same.refl H) (Fresh.imm rfl isD_bl)⟩
  · cases e
theorem opd_ne (hu : X.A.units + 80 < cLine) : OpD X (compareOp .NotEq) gNe := OpD.of fun pins s σ H x y z u v a b Q I e hx hy ru rv q => by
  unfold gNe at e
  split at e
  · rename_i c
    have c' : lay 60 x = true ∧ lay 60 y = true := by simpa using c
    have l1 := lay_can _ _ c'.1
    have l2 := lay_can _ _ c'.2
    obtain ⟨as, ra⟩ := IsD.reads I x u a l1.1 hx ru
    obtain ⟨bs, rb⟩ := IsD.reads I y v b l2.1 hy rv
    cases e
    exact SeqAt.compareNe_reads ra rb l1.1 l2.1 (by omega) ⟨.bl _, H, I, rfl, q _ H (Same.refl H) (Fresh.imm rfl isD_bl)⟩
  · cases e
theorem opd_notIn (hu : X.A.units + 80 < cLine) : OpD X (compareOp .NotIn) gNotIn := OpD.of fun pins s σ H x y z u v a b Q I e hx hy ru rv q => by
  cases y <;> simp only [gNotIn] at e <;> try (cases e; done)
  · rename_i ys
    split at e
    · rename_i c
      have c' : lay 60 x = true ∧ lays 60 ys = true := by simpa using c
      have l1 := lay_can _ _ c'.1
      have l2 := lays_can _ _ c'.2
      obtain ⟨as, ra⟩ := IsD.reads I x u a l1.1 hx ru
      obtain ⟨bs, rb⟩ := IsD.reads I (.list ys) v b (by simpa [PyData.canLay0] using l2.1) hy rv
      cases e
      exact SeqAt.notIn_list_reads rb ra l2.1 l1.1 (by omega) ⟨.bl _, H, I, rfl, q _ H (Same.refl H) (Fresh.imm rfl isD_bl)⟩
    · cases e
  · rename_i ys
    split at e
    · rename_i c
      have c' : lay 60 x = true ∧ lays 60 ys = true := by simpa using c
      have l1 := lay_can _ _ c'.1
      have l2 := lays_can _ _ c'.2
      obtain ⟨as, ra⟩ := IsD.reads I x u a l1.1 hx ru
      obtain ⟨bs, rb⟩ := IsD.reads I (.tuple ys) v b (by simpa [PyData.canLay0] using l2.1) hy rv
      cases e
      exact SeqAt.notIn_tuple_reads rb ra l2.1 l1.1 (by omega) ⟨.bl _, H, I, rfl, q _ H (Same.refl H) (Fresh.imm rfl isD_bl)⟩
    · cases e
/-! #### is None, is True -/

/-! #### ints -/
theorem OpD.ints {f : Value → Value → Sem Value} {C : Int → Int → Prop} {gv : Int → Int → V} {g : PyData → PyData → Option PyData} (h : OpR X f (rI C gv))
    (hg : ∀ x y z, g x y = some z → ∃ i j, x = .int i ∧ y = .int j ∧ C i j ∧ nol z = true ∧ ∀ K H, IsD K H z (gv i j)) : OpD X f g := OpD.of fun pins s σ H x y z u v a b Q I e hx hy ru rv q => by
  obtain ⟨i, j, rfl, rfl, c, hn, hz⟩ := hg x y z e
  have h1 := of_isD_int hx
  have h2 := of_isD_int hy
  subst h1 h2
  exact h pins s σ H _ _ a b Q I ru rv ⟨i, j, rfl, rfl, c, q _ H (Same.refl H) (Fresh.imm hn (hz _ _))⟩
theorem OpD.ints0 {f : Value → Value → Sem Value} {gv : Int → Int → V} {g : PyData → PyData → Option PyData} (h : OpR X f (rI0 gv))
    (hg : ∀ x y z, g x y = some z → ∃ i j, x = .int i ∧ y = .int j ∧ nol z = true ∧ ∀ K H, IsD K H z (gv i j)) : OpD X f g := OpD.of fun pins s σ H x y z u v a b Q I e hx hy ru rv q => by
  obtain ⟨i, j, rfl, rfl, hn, hz⟩ := hg x y z e
  have h1 := of_isD_int hx
  have h2 := of_isD_int hy
  subst h1 h2
  exact h pins s σ H _ _ a b Q I ru rv ⟨i, j, rfl, rfl, q _ H (Same.refl H) (Fresh.imm hn (hz _ _))⟩
theorem opd_sub : OpD X (binaryOp .Sub) Y.gSub := OpD.ints0 op_sub fun x y z e => by
  cases x <;> cases y <;> simp only [Y.gSub] at e <;> cases e
  exact ⟨_, _, rfl, rfl, rfl, fun _ _ => isD_int⟩
theorem opd_lt : OpD X (compareOp .Lt) gLt := OpD.ints0 op_lt fun x y z e => by
  cases x <;> cases y <;> simp only [gLt] at e <;> cases e
  exact ⟨_, _, rfl, rfl, rfl, fun _ _ => isD_bl⟩
theorem opd_le : OpD X (compareOp .LtE) gLe := OpD.ints0 op_le fun x y z e => by
  cases x <;> cases y <;> simp only [gLe] at e <;> cases e
  exact ⟨_, _, rfl, rfl, rfl, fun _ _ => isD_bl⟩
theorem opd_gt : OpD X (compareOp .Gt) gGt := OpD.ints0 op_gt fun x y z e => by
  cases x <;> cases y <;> simp only [gGt] at e <;> cases e
  exact ⟨_, _, rfl, rfl, rfl, fun _ _ => isD_bl⟩
theorem opd_mod : OpD X (binaryOp .Mod) gMod := OpD.ints op_mod fun x y z e => by
  cases x <;> cases y <;> simp only [gMod] at e <;> try (cases e; done)
  split at e
  · rename_i c; cases e; exact ⟨_, _, rfl, rfl, c, rfl, fun _ _ => isD_int⟩
  · cases e
theorem opd_pow : OpD X (binaryOp .Pow) gPow := OpD.ints op_pow fun x y z e => by
  cases x <;> cases y <;> simp only [gPow] at e <;> try (cases e; done)
  split at e
  · rename_i c; cases e; exact ⟨_, _, rfl, rfl, c, rfl, fun _ _ => isD_int⟩
  · cases e
/-- // by a positive divisor -/
theorem opd_fdiv : OpD X (binaryOp .FloorDiv) gFdiv := OpD.of fun pins s σ H x y z u v a b Q I e hx hy ru rv q => by
  cases x <;> cases y <;> simp only [gFdiv] at e <;> try (cases e; done)
  rename_i i j
  split at e
  · rename_i c
    cases e
    have h1 := of_isD_int hx
    have h2 := of_isD_int hy
    subst h1 h2
    obtain ⟨t, rfl⟩ := ru
    obtain ⟨t', rfl⟩ := rv
    refine floordiv_int (by omega) ?_ (.inl (PyProof.noPylong_of_log2 ?_))
    · rw [Int.fdiv_eq_ediv_of_nonneg i (by omega)]
      exact ⟨.int (i / j), H, I.tok _, ⟨_, rfl⟩, q _ H (Same.refl H) (Fresh.imm rfl isD_int)⟩
    · have h3 : j.natAbs.log2 < 64 := (Nat.log2_lt (by omega)).mpr (by omega)
      omega
  · cases e
/-! #### +, * -/
theorem opd_add : OpD X (binaryOp .Add) gAdd := OpD.of fun pins s σ H x y z u v a b Q I e hx hy ru rv q => by
  cases x <;> cases y <;> simp only [gAdd] at e <;> try (cases e; done)
  · cases e
    have h1 := of_isD_int hx
    have h2 := of_isD_int hy
    subst h1 h2
    exact op_add pins s σ H _ _ a b Q I ru rv ⟨_, _, rfl, rfl, q _ H (Same.refl H) (Fresh.imm rfl isD_int)⟩
  · rename_i x y
    split at e
    · rename_i c
      cases e
      have h1 := of_isD_str hx
      have h2 := of_isD_str hy
      subst h1 h2
      obtain ⟨t, rfl⟩ := ru
      obtain ⟨t', rfl⟩ := rv
      exact add_str (fun t' tk => ⟨.str (x ++ y), H, I.tok _, ⟨_, rfl⟩, q _ H (Same.refl H) (Fresh.imm rfl isD_str)⟩) c
    · cases e
  · rename_i xs ys
    split at e
    · rename_i c
      have c' : (nols xs = true ∧ nols ys = true) ∧ xs.length + ys.length ≤ sizeLine := by simpa using c
      cases e
      obtain ⟨p, vs, rfl, h1, h2⟩ := of_isD_lst hx
      obtain ⟨p', vs', rfl, h3, h4⟩ := of_isD_lst hy
      cases ru; cases rv
      obtain ⟨its, r1, ⟨⟨c1, d1, da1, sl1⟩, n1, ho1, hc1, _, hd1⟩, _⟩ := I.list h1
      obtain ⟨its2, r2, ⟨⟨c2, d2, da2, sl2⟩, n2, ho2, hc2, _, hd2⟩, _⟩ := I.list h3
      simp only at hc1 hd1 hc2 hd2
      subst hc1 hd1 hc2 hd2
      have hz : vs.length + vs'.length ≤ sizeLine := by rw [isDs_length h2, isDs_length h4]; exact c'.2
      have hz2 : its.length + its2.length ≤ sizeLine := by rw [← r1.length, ← r2.length]; exact hz
      refine concat_meets ⟨_, ho1, rfl⟩ ⟨_, ho2, rfl⟩ noFill_list_add seq_list_add PySem.F.slot_list_add PySem.F.entry_list_add (PySem.F.args_list_add_2 _ _) (list_addW p p' its.toArray its2.toArray n1 n2 d1 d2 sl1 sl2 (by simpa using hz2)) ⟨ho1, ho2, ?_⟩
      have ea : its.toArray ++ its2.toArray = (its ++ its2).toArray := by simp
      rw [ea]
      have hf := I.fresh
      refine ⟨.ref _, _, I.lnew (t' := s.toks) (r1.append r2) (by rw [List.length_append]; exact hz), rfl, q _ _ (Same.upd hf) ?_⟩
      exact Fresh.lst (by rw [nols_append, c'.1.1, c'.1.2]; rfl) upd_same (IsDs.same (Same.upd hf) _ _ (isDs_append h2 h4)) hf
    · cases e
  · rename_i xs ys
    split at e
    · rename_i c
      have c' : (nols xs = true ∧ nols ys = true) ∧ xs.length + ys.length ≤ sizeLine := by simpa using c
      cases e
      obtain ⟨p, vs, rfl, h1, h2⟩ := of_isD_tup hx
      obtain ⟨p', vs', rfl, h3, h4⟩ := of_isD_tup hy
      have l1 := isDs_length h2
      have l2 := isDs_length h4
      by_cases hn : vs = []
      · have hds : xs = [] := List.eq_nil_of_length_eq_zero (by rw [← l1, hn]; rfl)
        cases ru; cases rv
        obtain ⟨its, r1, p1, _⟩ := I.tuple h1
        obtain ⟨its2, r2, p2, _⟩ := I.tuple h3
        obtain ⟨⟨cls, dd, data, sl⟩, ho, hc, n, hda⟩ := id p1
        obtain ⟨⟨cls2, dd2, data2, sl2⟩, ho2, hc2, n2, hdb⟩ := id p2
        simp only at hc hda hc2 hdb
        subst hc hda hc2 hdb
        have hv : its = [] := (r1.nil_iff).mpr hn
        exact concat_meets ⟨_, ho, rfl⟩ ⟨_, ho2, rfl⟩ noFill_tuple_add seq_tuple_add PySem.F.slot_tuple_add PySem.F.entry_tuple_add (PySem.F.args_tuple_add_2 _ _)
          (tuple_addW0 p p' its.toArray its2.toArray n n2 dd dd2 sl sl2 (by simp [hv])) ⟨ho, ho2, ⟨.ref p', H, I, rfl, q _ H (Same.refl H) (Fresh.imm (by rw [nol, hds]; exact c'.1.2) (by rw [hds]; exact hy))⟩⟩
      · refine op_catT pins s σ H _ _ a b Q I ru rv ⟨p, p', vs, vs', rfl, rfl, h1, h3, hn, by omega, fun e => ?_, fun e t ht => ?_⟩
        · have hes : ys = [] := List.eq_nil_of_length_eq_zero (by rw [← l2, e]; rfl)
          exact q _ H (Same.refl H) (Fresh.imm (by rw [nol, hes, List.append_nil]; exact c'.1.1) (by rw [hes, List.append_nil]; exact hx))
        · exact q _ _ (Same.upd ht) (Fresh.tup (by rw [nols_append, c'.1.1, c'.1.2]; rfl) (SqT.of upd_same) (IsDs.same (Same.upd ht) _ _ (isDs_append h2 h4)))
    · cases e
end
end L2
set_option Elab.async false
set_option linter.all false
set_option maxRecDepth 100000
/-! ### tests, stores, statements by data -/
namespace L2
open PySem PySem.Spec PyProof.Rows Y

section
variable {X : Cx} {K : PySem.W.Frag} {Ew : Str → Hp → Prop} {pos : Pos} {a b : Expr} {fa fb : EF} {ta tb : TF}
theorem runs_tE {B : Hp} {φ : Nat → List Addr} {Γ : DEnv} {σ : St} {H : Hp} {Q : Bool → Hp → Prop} (r : Rep K B φ Γ σ H) (h : RunT Ew B H (tE fa Γ) Q) :
    Runs K Ew B φ H (fa Γ) (fun v H1 => ∃ c, v = .bl c ∧ Q c H1) := by
  unfold tE at h
  match hm : fa Γ, h with
  | some (.ok (k, d)), h =>
    refine .inl ⟨k, d, rfl, fun v H' s hv => ?_⟩
    cases d <;> try (rcases h with ⟨t, e, _⟩ | ⟨c, e, _⟩ <;> cases e; done)
    rename_i t
    rcases h with ⟨t', e, h⟩ | ⟨c, e, h⟩
    · cases e
      have := of_isD_bl (hv.toD (r.bs.trans s))
      exact ⟨t, this, h H' s⟩
    · cases e
  | some (.ex c), h =>
    rcases h with ⟨t', e, h⟩ | ⟨c', e, h⟩
    · cases e
    · cases e; exact .inr ⟨c, rfl, h⟩
  | none, h => rcases h with ⟨t', e, h⟩ | ⟨c', e, h⟩ <;> cases e
theorem dt_val (ha : DE X K Ew a fa) (he : ∀ whole, isTrue a X.env whole = (do let v ← whole; standAt a.pos; holding [v] (truthy v)) := by intro _; rfl) : DT X K Ew a (tE fa) :=
  (pt_val ha he).imp fun σ H Q q => by
    obtain ⟨B, φ, Γ, r, q⟩ := q
    exact ⟨B, φ, Γ, r, runs_tE r q⟩
theorem dt_cmp {op : CmpOp} {g : PyData → PyData → Option PyData} (ho : OpD X (compareOp op) g) (ha : DE X K Ew a fa) (hb : DE X K Ew b fb) (hm : behindInMarks op b = false) (hK : X.K = K := by rfl) :
    DT X K Ew (.Compare a [op] [b] pos) (tE (eOp g fa fb)) := by
  obtain ⟨r, hr, hx⟩ := ho
  refine (pt_cmpR hr ha hb hm).imp fun σ H Q q => ?_
  obtain ⟨B, φ, Γ, r0, q⟩ := q
  refine tD_two (g := fun x y => mbind (mo (g x.2 y.2)) fun z => mret (.fr [], z)) (Q := fun v H1 => ∃ c, v = .bl c ∧ Q c H1) ⟨B, φ, Γ, r0, runs_tE r0 q⟩ fun B φ Γ k x k' y u v H1 H2 r2 s1 s2 v1 v2 q => ?_
  obtain ⟨z, e, q⟩ := runs_mo (kf := fun _ => .fr []) q
  rw [hK] at hx
  exact hx x y z u v H2 _ e (v1.toD r2.bs) (v2.toD r2.bs) fun w H' s f => q w H' ((s1.trans s2).trans s) (VR.fresh.mpr (f.from (s1.trans s2)))
theorem dw_and1 (ha : DT X K Ew a ta) : DW X K Ew (.BoolOp .And [a] pos) ta := pw_and1 ha
theorem dw_or1 (ha : DT X K Ew a ta) : DW X K Ew (.BoolOp .Or [a] pos) ta := pw_or1 ha
theorem dw_and {rest : List Expr} (ha : DT X K Ew a ta) (hb : DW X K Ew (.BoolOp .And (b :: rest) pos) tb) : DW X K Ew (.BoolOp .And (a :: b :: rest) pos) (tAndF ta tb) :=
  (pw_and ha hb).imp fun σ H Q q => by
    obtain ⟨B, φ, Γ, r, q⟩ := q
    refine ⟨B, φ, Γ, r, ?_⟩
    have q' := RunT.bind q
    rcases q' with ⟨t, e, q'⟩ | q'
    · refine .inl ⟨t, e, fun H1 s1 => ?_⟩
      obtain ⟨_, _, q2⟩ := q' H1 s1
      cases t with
      | true => rw [if_pos rfl] at q2 ⊢; exact ⟨B, φ, Γ, r.same s1, q2⟩
      | false =>
        rw [if_neg Bool.false_ne_true] at q2 ⊢
        rcases q2 with ⟨t', e', q2⟩ | ⟨c, e', _⟩
        · cases e'; exact q2 H1 (Same.refl H1)
        · cases e'
    · exact .inr q'
theorem dw_or {rest : List Expr} (ha : DT X K Ew a ta) (hb : DW X K Ew (.BoolOp .Or (b :: rest) pos) tb) : DW X K Ew (.BoolOp .Or (a :: b :: rest) pos) (tOrF ta tb) :=
  (pw_or ha hb).imp fun σ H Q q => by
    obtain ⟨B, φ, Γ, r, q⟩ := q
    refine ⟨B, φ, Γ, r, ?_⟩
    have q' := RunT.bind q
    rcases q' with ⟨t, e, q'⟩ | q'
    · refine .inl ⟨t, e, fun H1 s1 => ?_⟩
      obtain ⟨_, _, q2⟩ := q' H1 s1
      cases t with
      | false => rw [if_neg Bool.false_ne_true] at q2 ⊢; exact ⟨B, φ, Γ, r.same s1, q2⟩
      | true =>
        rw [if_pos rfl] at q2 ⊢
        rcases q2 with ⟨t', e', q2⟩ | ⟨c, e', _⟩
        · cases e'; exact q2 H1 (Same.refl H1)
        · cases e'
    · exact .inr q'
theorem DW.dt (h : DW X K Ew a ta) : DT X K Ew a ta := PW.pt h
theorem dt_not (ha : DT X K Ew a ta) : DT X K Ew (.UnaryOp .Not a pos) (tNotF ta) := (pt_not ha).imp fun σ H Q q => by
  obtain ⟨B, φ, Γ, r, q⟩ := q
  refine ⟨B, φ, Γ, r, ?_⟩
  have q' := RunT.bind q
  rcases q' with ⟨t, e, q'⟩ | q'
  · refine .inl ⟨t, e, fun H1 s1 => ?_⟩
    obtain ⟨_, _, q2⟩ := q' H1 s1
    rcases q2 with ⟨t', e', q2⟩ | ⟨c, e', _⟩
    · cases e'; exact q2 H1 (Same.refl H1)
    · cases e'
  · exact .inr q'
/-- and, or, not as values (bools) -/
theorem de_one {op} (ha : DE X K Ew a fa) : DE X K Ew (.BoolOp op [a] pos) fa := pe_one ha
theorem runs_b1 {B : Hp} {φ : Nat → List Addr} {Γ : DEnv} {σ : St} {H : Hp} {Q Q' : VK} {g : PyData → M (Kd × PyData)} (r : Rep K B φ Γ σ H) (h : Runs K Ew B φ H (mbind (fa Γ) fun x => g x.2) Q)
    (hg : ∀ d, (∀ t, d ≠ .bool t) → g d = none) (i : ∀ t H1, Same H H1 → Rep K B φ Γ σ H1 → Runs K Ew B φ H1 (g (.bool t)) Q → Q' (.bl t) H1) : Runs K Ew B φ H (fa Γ) Q' := by
  refine (h.bind r).mono fun v H1 s1 ⟨k, d, e, hv, r1, _, q⟩ => ?_
  cases d with
  | bool t =>
    have := of_isD_bl (hv.toD r1.bs)
    subst this
    exact i t H1 s1 r1 (q.later s1)
  | _ =>
    exfalso
    rw [show g _ = none from hg _ (by intro t z; cases z)] at q
    rcases q with ⟨k, d, e, h⟩ | ⟨c', e, h⟩ <;> cases e
theorem de_and {rest : List Expr} (ha : DE X K Ew a fa) (hb : DE X K Ew (.BoolOp .And (b :: rest) pos) fb) : DE X K Ew (.BoolOp .And (a :: b :: rest) pos) (eAnd fa fb) := (pe_and ha hb).imp fun σ H Q q => by
  obtain ⟨B, φ, Γ, r, q⟩ := q
  refine ⟨B, φ, Γ, r, runs_b1 (g := fun d => match d with | .bool true => fb Γ | .bool false => mret (.fr [], .bool false) | _ => none) r q (fun d hd => ?_) fun t H1 s1 r1 q1 => ⟨t, rfl, ?_⟩⟩
  · cases d <;> first | rfl | exact absurd rfl (hd _)
  · cases t with
    | true => rw [if_pos rfl]; exact ⟨B, φ, Γ, r1, q1⟩
    | false =>
      rw [if_neg Bool.false_ne_true]
      rcases q1 with ⟨k, d, e, h⟩ | ⟨c', e, h⟩
      · cases e; exact h _ H1 (Same.refl H1) (VR.imm rfl isD_bl [])
      · cases e
end
end L2
set_option Elab.async false
set_option linter.all false
set_option maxRecDepth 100000
namespace L2
open PySem PySem.Spec PyProof.Rows Y
open Classical in
/-- all but the own lists and dicts -/
noncomputable def cutB (φ : Nat → List Addr) (H : Hp) : Hp := fun a => if ∃ j, a ∈ φ j then none else H a
theorem cutB_of {φ : Nat → List Addr} {H : Hp} {a : Addr} (h : ∀ j, a ∉ φ j) : cutB φ H a = H a := by
  unfold cutB; rw [if_neg]; rintro ⟨j, z⟩; exact h j z
theorem cutB_in {φ : Nat → List Addr} {H : Hp} {a : Addr} {j : Nat} (h : a ∈ φ j) : cutB φ H a = none := by
  unfold cutB; rw [if_pos ⟨j, h⟩]
theorem cutB_same (φ : Nat → List Addr) (H : Hp) : Same (cutB φ H) H := fun a o e => by
  unfold cutB at e
  split at e
  · cases e
  · exact e
section
variable {K : PySem.W.Frag} {B B' H H' : Hp} {φ : Nat → List Addr} {Γ : DEnv} {σ : St} {k : Kd} {d : PyData} {v : V}
theorem SqT.toB {a : Addr} {xs : List V} (e : ∀ a o, H a = some o → ¬ isMu o → B' a = some o) (h : SqT K H a xs) : SqT K B' a xs := by
  rcases h with (h | ⟨o, h⟩) | h
  · exact .inl (.inl (e _ _ h (fun z => z)))
  · exact .inl (.inr ⟨o, e _ _ h (fun z => z)⟩)
  · exact .inr h
mutual
theorem IsT.toB (e : ∀ a o, H a = some o → ¬ isMu o → B' a = some o) : ∀ (d : PyData) (v : V) (as : List Addr), (∀ a ∈ as, ∀ o, H a = some o → B' a = some o) → IsT K H d v as → IsD K B' d v
  | .none, v, as, _, h => by simp only [IsT] at h; simp only [IsD]; exact h.1
  | .bool b, v, as, _, h => by simp only [IsT] at h; simp only [IsD]; exact h.1
  | .int i, v, as, _, h => by simp only [IsT] at h; simp only [IsD]; exact h.1
  | .str x, v, as, _, h => by simp only [IsT] at h; simp only [IsD]; exact h.1
  | .list xs, v, as, m, h => by
    simp only [IsT] at h; simp only [IsD]
    obtain ⟨a, vs, bs, e1, h1, h2, rfl⟩ := h
    exact ⟨a, vs, e1, SqL.of (m a List.mem_cons_self _ h1), IsTs.toB e xs vs bs (fun b hb => m b (List.mem_cons_of_mem _ hb)) h2⟩
  | .tuple xs, v, as, m, h => by
    simp only [IsT] at h; simp only [IsD]
    obtain ⟨a, vs, e1, h1, h2⟩ := h
    exact ⟨a, vs, e1, h1.toB e, IsTs.toB e xs vs as m h2⟩
  | .dict kvs, v, as, m, h => by
    simp only [IsT] at h; simp only [IsD]
    obtain ⟨a, ks, bs, e1, h1, h2, rfl⟩ := h
    exact ⟨a, ks, e1, .inl (m a List.mem_cons_self _ h1), IsTk.toB e kvs ks bs (fun b hb => m b (List.mem_cons_of_mem _ hb)) h2⟩
theorem IsTs.toB (e : ∀ a o, H a = some o → ¬ isMu o → B' a = some o) : ∀ (ds : List PyData) (vs : List V) (as : List Addr), (∀ a ∈ as, ∀ o, H a = some o → B' a = some o) → IsTs K H ds vs as → IsDs K B' ds vs
  | [], vs, as, _, h => by simp only [IsTs] at h; simp only [IsDs]; exact h.1
  | d :: ds, vs, as, m, h => by
    simp only [IsTs] at h; simp only [IsDs]
    obtain ⟨v, r, a1, a2, e1, rfl, h1, h2⟩ := h
    exact ⟨v, r, e1, IsT.toB e d v a1 (fun b hb => m b (List.mem_append_left _ hb)) h1, IsTs.toB e ds r a2 (fun b hb => m b (List.mem_append_right _ hb)) h2⟩
theorem IsTk.toB (e : ∀ a o, H a = some o → ¬ isMu o → B' a = some o) : ∀ (ds : List (PyData × PyData)) (ks : List (PyData × V × V)) (as : List Addr), (∀ a ∈ as, ∀ o, H a = some o → B' a = some o) → IsTk K H ds ks as → IsDk K B' ds ks
  | [], ks, as, _, h => by simp only [IsTk] at h; simp only [IsDk]; exact h.1
  | (k, d) :: r, ks, as, m, h => by
    simp only [IsTk] at h; simp only [IsDk]
    obtain ⟨kv, v, q, a1, a2, e1, rfl, h1, h2, h3⟩ := h
    exact ⟨kv, v, q, e1, IsT.toB e k kv [] (fun b hb => by cases hb) h1, IsT.toB e d v a1 (fun b hb => m b (List.mem_append_left _ hb)) h2, IsTk.toB e r q a2 (fun b hb => m b (List.mem_append_right _ hb)) h3⟩
end
theorem Rep.mu (r : Rep K B φ Γ σ H) : ∀ a o, H a = some o → ¬ isMu o → cutB φ H a = some o := fun a o e n => by
  rw [cutB_of]
  · exact e
  · intro j hj
    obtain ⟨o', e', m⟩ := (r.nb j a hj).2
    rw [e] at e'; cases e'
    exact n m
theorem Rep.cutS (r : Rep K B φ Γ σ H) : Same B (cutB φ H) := fun a o e => by
  rw [cutB_of]
  · exact r.bs a o e
  · intro j hj
    rw [(r.nb j a hj).1] at e
    cases e
/-- another base -/
theorem Rep.base (r : Rep K B φ Γ σ H) (s : Same B B') (s' : Same B' H) (n : ∀ j, ∀ a ∈ φ j, B' a = none) : Rep K B' φ Γ σ H where
  bs := s'
  len := r.len
  sl := fun i o d e => by
    obtain ⟨v, h1, h2⟩ := r.sl i o d e
    refine ⟨v, h1, ?_⟩
    cases o with
    | true => exact h2
    | false => rw [if_neg Bool.false_ne_true] at h2 ⊢; exact IsD.same s _ _ h2
  nd := r.nd
  nb := fun i a ha => ⟨n i a ha, (r.nb i a ha).2⟩
  dj := r.dj
theorem Rep.cut (r : Rep K B φ Γ σ H) : Rep K (cutB φ H) φ Γ σ H := r.base r.cutS (cutB_same _ _) fun j a ha => cutB_in ha

def drp (φ : Nat → List Addr) (i : Nat) : Nat → List Addr := fun j => if j = i then [] else φ j
theorem drp_mem {φ : Nat → List Addr} {i j : Nat} {a : Addr} (h : a ∈ drp φ i j) : j ≠ i ∧ a ∈ φ j := by
  unfold drp at h
  split at h
  · cases h
  · rename_i n; exact ⟨n, h⟩
/-- less is own -/
theorem Rep.less {ψ : Nat → List Addr} (r : Rep K B φ Γ σ H) (hψ : ∀ j, ψ j = φ j ∨ ψ j = []) (Γ' : DEnv) (hl : Γ'.length = Γ.length)
    (hs : ∀ i o d, Γ'[i]? = some (some (o, d)) → (Γ[i]? = some (some (o, d)) ∧ (o = true → ψ i = φ i)) ∨ (o = false ∧ ψ i = [] ∧ ∃ o', Γ[i]? = some (some (o', d)))) :
    Same B (cutB ψ H) ∧ Rep K (cutB ψ H) ψ Γ' σ H := by
  have sub : ∀ j a, a ∈ ψ j → a ∈ φ j := fun j a ha => by
    rcases hψ j with e | e
    · rw [e] at ha; exact ha
    · rw [e] at ha; cases ha
  have s1 : Same B (cutB ψ H) := fun a o e => by
    rw [cutB_of]
    · exact r.bs a o e
    · intro j hj
      rw [(r.nb j a (sub j a hj)).1] at e
      cases e
  have mu : ∀ a o, H a = some o → ¬ isMu o → cutB ψ H a = some o := fun a o e n => by
    rw [cutB_of]
    · exact e
    · intro j hj
      obtain ⟨o', e', m⟩ := (r.nb j a (sub j a hj)).2
      rw [e] at e'; cases e'
      exact n m
  refine ⟨s1, cutB_same _ _, hl.trans r.len, fun i o d e => ?_, fun j => ?_, fun j a ha => ⟨cutB_in ha, (r.nb j a (sub j a ha)).2⟩, fun i j n a ha hb => r.dj i j n a (sub i a ha) (sub j a hb)⟩
  · rcases hs i o d e with ⟨e1, e2⟩ | ⟨rfl, e2, o', e3⟩
    · obtain ⟨v, h1, h2⟩ := r.sl i o d e1
      refine ⟨v, h1, ?_⟩
      cases o with
      | true => rw [if_pos rfl] at h2 ⊢; rw [e2 rfl]; exact h2
      | false => rw [if_neg Bool.false_ne_true] at h2 ⊢; exact IsD.same s1 _ _ h2
    · obtain ⟨v, h1, h2⟩ := r.sl i o' d e3
      refine ⟨v, h1, ?_⟩
      rw [if_neg Bool.false_ne_true]
      cases o' with
      | false => rw [if_neg Bool.false_ne_true] at h2; exact IsD.same s1 _ _ h2
      | true =>
        rw [if_pos rfl] at h2
        refine IsT.toB mu _ _ _ (fun a ha o e => ?_) h2
        rw [cutB_of]
        · exact e
        · intro j hj
          by_cases hji : j = i
          · subst hji; rw [e2] at hj; cases hj
          · exact r.dj i j (Ne.symm hji) a ha (sub j a hj)
  · rcases hψ j with e | e
    · rw [e]; exact r.nd j
    · rw [e]; exact List.nodup_nil
theorem frz1_len (i : Nat) (Γ : DEnv) : (frz1 i Γ).length = Γ.length := by
  unfold frz1
  split <;> simp
theorem Rep.frz1 (r : Rep K B φ Γ σ H) (i : Nat) : Same B (cutB (drp φ i) H) ∧ Rep K (cutB (drp φ i) H) (drp φ i) (frz1 i Γ) σ H := by
  refine r.less (fun j => ?_) _ (frz1_len i Γ) fun j o d e => ?_
  · unfold drp
    by_cases h : j = i
    · exact .inr (if_pos h)
    · exact .inl (if_neg h)
  · unfold Y.frz1 at e
    split at e
    · rename_i o' d' hg
      by_cases h : j = i
      · subst h
        have hj : j < Γ.length := (List.getElem?_eq_some_iff.mp hg).1
        rw [List.getElem?_set_self hj] at e
        cases e
        exact .inr ⟨rfl, if_pos rfl, o', hg⟩
      · rw [List.getElem?_set_ne (Ne.symm h)] at e
        exact .inl ⟨e, fun _ => if_neg h⟩
    · rename_i hg
      by_cases h : j = i
      · subst h
        exact absurd e (hg o d)
      · exact .inl ⟨e, fun _ => if_neg h⟩
theorem Rep.frzL : ∀ (l : List Nat) {B : Hp} {φ : Nat → List Addr} {Γ : DEnv}, Rep K B φ Γ σ H → ∃ ψ, Same B (cutB ψ H) ∧ Rep K (cutB ψ H) ψ (frzL l Γ) σ H ∧ (∀ j a, a ∈ ψ j → a ∈ φ j) ∧ ∀ j ∈ l, ψ j = []
  | [], B, φ, Γ, r => ⟨φ, r.cutS, r.cut, fun _ _ h => h, fun j hj => by cases hj⟩
  | i :: l, B, φ, Γ, r => by
    obtain ⟨s1, r1⟩ := r.frz1 i
    obtain ⟨ψ, s2, r2, h3, h4⟩ := Rep.frzL l r1
    refine ⟨ψ, s1.trans s2, r2, fun j a ha => (drp_mem (h3 j a ha)).2, fun j hj => ?_⟩
    rcases List.mem_cons.mp hj with rfl | hj
    · cases e : ψ j with
      | nil => rfl
      | cons b t =>
        have := drp_mem (h3 j b (by rw [e]; exact List.mem_cons_self))
        exact absurd rfl this.1
    · exact h4 j hj
theorem Rep.frzA (r : Rep K B φ Γ σ H) : Same B H ∧ Rep K H (fun _ => []) (frzA Γ) σ H := by
  have h := r.less (ψ := fun _ => []) (fun j => .inr rfl) (Y.frzA Γ) (by simp [Y.frzA]) fun j o d e => by
    unfold Y.frzA at e
    rw [List.getElem?_map] at e
    cases hg : Γ[j]? with
    | none => rw [hg] at e; cases e
    | some s =>
      rw [hg] at e
      cases s with
      | none => cases e
      | some p => cases e; exact .inr ⟨rfl, rfl, p.1, rfl⟩
  have e : cutB (fun _ => []) H = H := by
    funext a
    exact cutB_of fun j hj => by cases hj
  rw [e] at h
  exact h

/-- a value that may be stored -/
def Av (K : PySem.W.Frag) (B : Hp) (φ : Nat → List Addr) (H : Hp) : Kd → PyData → V → Prop
  | .fr l, d, v => ∃ as, IsT K H d v as ∧ as.Nodup ∧ ∀ a ∈ as, (∃ i ∈ l, a ∈ φ i) ∨ (B a = none ∧ ∀ j, a ∉ φ j)
  | .base, d, v => IsD K B d v
  | .any, d, v => IsD K H d v
theorem VR.av {H0 : Hp} (r : Rep K B φ Γ σ H0) (h : VR K B φ H0 H k d v) : Av K B φ H k d v := by
  cases k with
  | fr l =>
    obtain ⟨as, h1, h2, h3⟩ := h
    refine ⟨as, h1, h2, fun a ha => (h3 a ha).imp id fun z => ⟨r.bs.free z, fun j hj => ?_⟩⟩
    obtain ⟨o, e, _⟩ := (r.nb j a hj).2
    rw [z] at e; cases e
  | base => exact h
  | any => exact h
theorem Rep.put {as : List Addr} (r : Rep K B φ Γ σ H) (i : Nat) (h : IsT K H d v as) (nd : as.Nodup) (hb : ∀ a ∈ as, B a = none ∧ ∀ j, j ≠ i → a ∉ φ j) :
    Rep K B (fun j => if j = i then as else φ j) (Γ.set i (some (true, d))) (σ.set i (some v)) H where
  bs := r.bs
  len := by rw [List.length_set, List.length_set]; exact r.len
  sl := fun j o d' e => by
    by_cases hj : j = i
    · subst hj
      by_cases hlt : j < Γ.length
      · rw [List.getElem?_set_self hlt] at e
        cases e
        refine ⟨v, by rw [List.getElem?_set_self (by rw [← r.len]; exact hlt)], ?_⟩
        rw [if_pos rfl, if_pos rfl]; exact h
      · rw [List.getElem?_eq_none (by rw [List.length_set]; omega)] at e
        cases e
    · rw [List.getElem?_set_ne (Ne.symm hj)] at e
      obtain ⟨w, h1, h2⟩ := r.sl j o d' e
      refine ⟨w, by rw [List.getElem?_set_ne (Ne.symm hj)]; exact h1, ?_⟩
      simp only [if_neg hj]
      exact h2
  nd := fun j => by
    by_cases hj : j = i
    · simp only [if_pos hj]; exact nd
    · simp only [if_neg hj]; exact r.nd j
  nb := fun j a ha => by
    by_cases hj : j = i
    · simp only [if_pos hj] at ha; exact ⟨(hb a ha).1, IsT.live _ _ _ h a ha⟩
    · simp only [if_neg hj] at ha; exact r.nb j a ha
  dj := fun j j' n a ha hb' => by
    by_cases hj : j = i
    · simp only [if_pos hj] at ha
      by_cases hj' : j' = i
      · exact n (hj.trans hj'.symm)
      · simp only [if_neg hj'] at hb'; exact (hb a ha).2 j' hj' hb'
    · simp only [if_neg hj] at ha
      by_cases hj' : j' = i
      · simp only [if_pos hj'] at hb'; exact (hb a hb').2 j hj ha
      · simp only [if_neg hj'] at hb'; exact r.dj j j' n a ha hb'
theorem Rep.putB (r : Rep K B φ Γ σ H) (i : Nat) (h : IsD K B d v) : Rep K B (drp φ i) (Γ.set i (some (false, d))) (σ.set i (some v)) H where
  bs := r.bs
  len := by rw [List.length_set, List.length_set]; exact r.len
  sl := fun j o d' e => by
    by_cases hj : j = i
    · subst hj
      by_cases hlt : j < Γ.length
      · rw [List.getElem?_set_self hlt] at e
        cases e
        refine ⟨v, by rw [List.getElem?_set_self (by rw [← r.len]; exact hlt)], ?_⟩
        rw [if_neg Bool.false_ne_true]; exact h
      · rw [List.getElem?_eq_none (by rw [List.length_set]; omega)] at e
        cases e
    · rw [List.getElem?_set_ne (Ne.symm hj)] at e
      obtain ⟨w, h1, h2⟩ := r.sl j o d' e
      refine ⟨w, by rw [List.getElem?_set_ne (Ne.symm hj)]; exact h1, ?_⟩
      unfold drp
      simp only [if_neg hj]
      exact h2
  nd := fun j => by
    unfold drp
    by_cases hj : j = i
    · simp only [if_pos hj]; exact List.nodup_nil
    · simp only [if_neg hj]; exact r.nd j
  nb := fun j a ha => r.nb j a (drp_mem ha).2
  dj := fun j j' n a ha hb' => r.dj j j' n a (drp_mem ha).2 (drp_mem hb').2
/-- a name no longer told of -/
theorem Rep.kill (r : Rep K B φ Γ σ H) (i : Nat) : Rep K B (drp φ i) (Γ.set i none) σ H where
  bs := r.bs
  len := by rw [List.length_set]; exact r.len
  sl := fun j o d' e => by
    by_cases hj : j = i
    · subst hj
      by_cases hlt : j < Γ.length
      · rw [List.getElem?_set_self hlt] at e; cases e
      · rw [List.getElem?_eq_none (by rw [List.length_set]; omega)] at e; cases e
    · rw [List.getElem?_set_ne (Ne.symm hj)] at e
      obtain ⟨w, h1, h2⟩ := r.sl j o d' e
      refine ⟨w, h1, ?_⟩
      unfold drp
      simp only [if_neg hj]
      exact h2
  nd := fun j => by
    unfold drp
    by_cases hj : j = i
    · simp only [if_pos hj]; exact List.nodup_nil
    · simp only [if_neg hj]; exact r.nd j
  nb := fun j a ha => r.nb j a (drp_mem ha).2
  dj := fun j j' n a ha hb' => r.dj j j' n a (drp_mem ha).2 (drp_mem hb').2

theorem stor_ok (r : Rep K B φ Γ σ H) (i : Nat) (h : Av K B φ H k d v) : ∃ B' φ', Same B B' ∧ Rep K B' φ' (stor Γ i k d) (σ.set i (some v)) H := by
  match k, h with
  | .fr [], h =>
    obtain ⟨as, h1, h2, h3⟩ := h
    exact ⟨B, _, Same.refl B, r.put i h1 h2 fun a ha => by
      rcases h3 a ha with ⟨_, z, _⟩ | z
      · cases z
      · exact ⟨z.1, fun j _ => z.2 j⟩⟩
  | .fr (j :: l), h =>
    obtain ⟨as, h1, h2, h3⟩ := h
    obtain ⟨ψ, s1, r1, sub, hl⟩ := r.frzL (j :: l)
    refine ⟨_, _, s1, r1.putB i ?_⟩
    refine IsT.toB (fun a o e n => ?_) _ _ _ (fun a ha o e => ?_) h1
    · rw [cutB_of]
      · exact e
      · intro j' hj'
        obtain ⟨o', e', m⟩ := (r.nb j' a (sub j' a hj')).2
        rw [e] at e'; cases e'
        exact n m
    · rw [cutB_of]
      · exact e
      · intro j' hj'
        rcases h3 a ha with ⟨i', hi', z⟩ | z
        · by_cases hij : i' = j'
          · subst hij; rw [hl _ hi'] at hj'; cases hj'
          · exact r.dj i' j' hij a z (sub j' a hj')
        · exact z.2 j' (sub j' a hj')
  | .base, h => exact ⟨B, _, Same.refl B, r.putB i h⟩
  | .any, h =>
    obtain ⟨s1, r1⟩ := r.frzA
    exact ⟨H, _, s1, r1.putB i h⟩
end

/-! ### statements -/

section
variable {X : Cx} {K : PySem.W.Frag} {Ew : Str → Hp → Prop} {pos : Pos} {st : Stmt} {rest : List Stmt} {e : Expr} {fe : EF} {f g : SF} {t : TF}
theorem RV.base {B B' H' : Hp} {o : Bool} {d : PyData} {v : V} (s : Same B B') (h : RV K B' H' o d v) : RV K B H' o d v := by
  unfold RV at h ⊢
  cases o with
  | true =>
    rw [if_pos rfl] at h ⊢
    obtain ⟨as, h1, h2, h3⟩ := h
    exact ⟨as, h1, h2, fun a ha => s.free (h3 a ha)⟩
  | false => rw [if_neg Bool.false_ne_true] at h ⊢; exact h
theorem RunS.base {B B' : Hp} {m : M Out} {D : Ends} (s : Same B B') (h : RunS K Ew B m D) : RunS K Ew B' m D := by
  match m, h with
  | some (.ok (.nx Γ)), h => exact fun B2 φ σ H s2 r => h B2 φ σ H (s.trans s2) r
  | some (.ok (.bk Γ)), h => exact fun B2 φ σ H s2 r => h B2 φ σ H (s.trans s2) r
  | some (.ok (.ct Γ)), h => exact fun B2 φ σ H s2 r => h B2 φ σ H (s.trans s2) r
  | some (.ok (.rt o d)), h => exact fun v H' s' rv => h v H' (s.trans s') (rv.base s)
  | some (.ex c), h => exact fun H' s' => h H' (s.trans s')
  | none, h => exact h
theorem dss_nil : DSs X K Ew [] sNil := pss_nil.imp fun D σ H q => by
  obtain ⟨B, φ, Γ, r, q⟩ := q
  exact q B φ σ H (Same.refl B) r
theorem dss_cons (h1 : DS X K Ew st f) (h2 : DSs X K Ew rest g) : DSs X K Ew (st :: rest) (sSeq f g) := (pss_cons h1 h2).imp fun D σ H q => by
  obtain ⟨B, φ, Γ, r, q⟩ := q
  refine ⟨B, φ, Γ, r, ?_⟩
  unfold sSeq at q
  match hm : f Γ, q with
  | some (.ok (.nx Γ')), q => exact fun B' φ' σ' H' s' r' => ⟨B', φ', Γ', r', RunS.base s' q⟩
  | some (.ok (.bk Γ')), q => exact q
  | some (.ok (.ct Γ')), q => exact q
  | some (.ok (.rt o d)), q => exact q
  | some (.ex c), q => exact q
  | none, q => exact False.elim q
theorem dss_one (h1 : DS X K Ew st f) : DSs X K Ew [st] f := pss_one h1
/-- an expression at the head of a statement -/
theorem tDS_head {g : Kd × PyData → DEnv → M Out} {σ : St} {H : Hp} {D : Ends} {R : VK} (h : tDS K Ew (fun Γ => mbind (fe Γ) fun x => g x Γ) D σ H)
    (i : ∀ B φ Γ k d v H1, Rep K B φ Γ σ H1 → Av K B φ H1 k d v → RunS K Ew B (g (k, d) Γ) D → R v H1) : tD K Ew fe σ H R := by
  obtain ⟨B, φ, Γ, r, q⟩ := h
  refine ⟨B, φ, Γ, r, ?_⟩
  have q : RunS K Ew B (mbind (fe Γ) fun x => g x Γ) D := q
  match hm : fe Γ, q with
  | some (.ok (k, d)), q => exact .inl ⟨k, d, rfl, fun v H1 s hv => i B φ Γ k d v H1 (r.same s) (hv.av r) q⟩
  | some (.ex c), q => exact .inr ⟨c, rfl, q⟩
  | none, q => exact False.elim q
theorem Av.toD {B : Hp} {φ : Nat → List Addr} {H : Hp} {k : Kd} {d : PyData} {v : V} (s : Same B H) (h : Av K B φ H k d v) : IsD K H d v := by
  cases k with
  | fr l => obtain ⟨as, h1, _⟩ := h; exact IsT.toD _ _ _ h1
  | base => exact IsD.same s _ _ h
  | any => exact h
theorem ds_ret (he : DE X K Ew e fe) : DS X K Ew (.Return (some e) pos) (sRet fe) := (ps_ret he).imp fun D σ H q =>
  tDS_head (g := fun x _ => mret (.rt (isFr x.1) x.2)) q fun B φ Γ k d v H1 r a q => by
    refine q v H1 r.bs ?_
    unfold RV
    cases k with
    | fr l =>
      simp only [isFr, if_true]
      obtain ⟨as, h1, h2, h3⟩ := a
      refine ⟨as, h1, h2, fun a ha => ?_⟩
      rcases h3 a ha with ⟨i, _, z⟩ | z
      · exact (r.nb i a z).1
      · exact z.1
    | base => simp only [isFr, Bool.false_eq_true, if_false]; exact IsD.same r.bs _ _ a
    | any => simp only [isFr, Bool.false_eq_true, if_false]; exact a
theorem ds_set {i : Nat} {x : Str} {pos' : Pos} (hN : X.N.Nodup) (hi : X.N[i]? = some x) (hx : Loc X.env.scope x) (he : DE X K Ew e fe) (hs : swapsWith e (some (.Name x pos')) pos.line X.env = pure false := by rfl) (hf : X.fn x = true ∨ X.env.scope.names.lookup x = some .local := by first | exact .inl rfl | exact .inr rfl | assumption) :
    DS X K Ew (.Assign [.Name x pos'] e pos) (sSet i fe) := (ps_set (i := i) hN hi hx he hs hf).imp fun D σ H q =>
  tDS_head (g := fun x Γ => mret (.nx (stor Γ i x.1 x.2))) q fun B φ Γ k d v H1 r a q => by
    obtain ⟨B', φ', s', r'⟩ := stor_ok r i a
    exact q B' φ' _ H1 s' r'
theorem ds_mov {i j : Nat} {x y : Str} {pos' pos2 : Pos} (hN : X.N.Nodup) (hi : X.N[i]? = some x) (hx : Loc X.env.scope x) (hj : PE X (.Name y pos2) (tVar j)) (hs : swapsWith (.Name y pos2) (some (.Name x pos')) pos.line X.env = pure false := by rfl) (hf : X.fn x = true ∨ X.env.scope.names.lookup x = some .local := by first | exact .inl rfl | exact .inr rfl | assumption) :
    DS X K Ew (.Assign [.Name x pos'] (.Name y pos2) pos) (sMov i j) := (ps_set (i := i) hN hi hx hj hs hf).imp fun D σ H q => by
  obtain ⟨B, φ, Γ, r, q⟩ := q
  unfold sMov at q
  match hm : Γ[j]?, q with
  | some (some (true, d)), q =>
    obtain ⟨v, h1, h2⟩ := r.sl j true d hm
    rw [if_pos rfl] at h2
    refine ⟨v, h1, ?_⟩
    by_cases hn : nol d = true
    · simp only [hn, if_true] at q
      exact q B _ _ H (Same.refl B) (r.put i (IsD.toT _ _ hn (IsT.toD _ _ _ h2)) List.nodup_nil fun a ha => by cases ha)
    · simp only [hn, if_false] at q
      by_cases hij : i = j
      · simp only [hij, if_true] at q; exact False.elim q
      · simp only [hij, if_false] at q
        refine q B _ _ H (Same.refl B) ((r.kill j).put i h2 (r.nd j) fun a ha => ⟨(r.nb j a ha).1, fun j' _ hj' => ?_⟩)
        obtain ⟨n1, n2⟩ := drp_mem hj'
        exact r.dj j' j n1 a n2 ha
  | some (some (false, d)), q =>
    obtain ⟨v, h1, h2⟩ := r.sl j false d hm
    rw [if_neg Bool.false_ne_true] at h2
    refine ⟨v, h1, ?_⟩
    obtain ⟨B', φ', s', r'⟩ := stor_ok (k := nrm .base d) r i (VR.av r (VR.nrm r.bs (show VR K B φ H H .base d v from h2)))
    exact q B' φ' _ H s' r'
  | some none, q => exact False.elim q
  | none, q => exact False.elim q
theorem ds_if {c : Expr} {a b : List Stmt} (hc : DT X K Ew c t) (ha : DSs X K Ew a f) (hb : DSs X K Ew b g) : DS X K Ew (.If c a b pos) (sIf t f g) := (ps_if hc ha hb).imp fun D σ H q => by
  obtain ⟨B, φ, Γ, r, q⟩ := q
  refine ⟨B, φ, Γ, r, ?_⟩
  unfold sIf at q
  match hm : t Γ, q with
  | some (.ok true), q => exact .inl ⟨true, rfl, fun H1 s => by show (if true = true then _ else _); rw [if_pos rfl]; exact ⟨B, φ, Γ, r.same s, q⟩⟩
  | some (.ok false), q => exact .inl ⟨false, rfl, fun H1 s => by show (if false = true then _ else _); rw [if_neg Bool.false_ne_true]; exact ⟨B, φ, Γ, r.same s, q⟩⟩
  | some (.ex c), q => exact .inr ⟨c, rfl, q⟩
  | none, q => exact False.elim q
end
end L2
set_option Elab.async false
set_option linter.all false
set_option maxRecDepth 100000
namespace L2
open PySem PySem.Spec PyProof.Rows Y

/-! ### targets -/
/-- several values to be stored -/
def Avs (K : PySem.W.Frag) (B : Hp) (φ : Nat → List Addr) (H : Hp) : Kd → List PyData → List V → Prop
  | .fr l, ds, vs => ∃ as, IsTs K H ds vs as ∧ as.Nodup ∧ ∀ a ∈ as, (∃ i ∈ l, a ∈ φ i) ∨ (B a = none ∧ ∀ j, a ∉ φ j)
  | .base, ds, vs => IsDs K B ds vs
  | .any, ds, vs => IsDs K H ds vs
def tG (K : PySem.W.Frag) (g : GF) : TG := fun v σ H Q => ∃ B φ Γ k d Γ', Rep K B φ Γ σ H ∧ Av K B φ H k d v ∧ g k d Γ = some Γ' ∧ ∀ B' φ' σ', Same B B' → Rep K B' φ' Γ' σ' H → Q σ' H
def DG (X : Cx) (K : PySem.W.Frag) (e : Expr) (g : GF) : Prop := PG X e (tG K g)
theorem PG.imp {X : Cx} {e : Expr} {t t' : TG} (h : PG X e t) (i : ∀ v σ H Q, t' v σ H Q → t v σ H Q) : PG X e t' := fun pins s σ H v u Q I r q => h pins s σ H v u Q I r (i v σ H Q q)
def gNames : List Nat → TGs
  | [] => gNil
  | i :: is => gCons (gName i) (gNames is)
def setsV (σ : St) : List Nat → List V → St
  | i :: is, v :: vs => setsV (σ.set i (some v)) is vs
  | _, _ => σ
section
variable {X : Cx} {K : PySem.W.Frag} {Ew : Str → Hp → Prop} {pos : Pos}
theorem dg_nm {i : Nat} {x : Str} (hN : X.N.Nodup) (hi : X.N[i]? = some x) (hx : Loc X.env.scope x) (hf : X.fn x = true ∨ X.env.scope.names.lookup x = some .local := by first | exact .inl rfl | exact .inr rfl | assumption) : DG X K (.Name x pos) (gNm i) :=
  (pg_name (i := i) hN hi hx hf).imp fun v σ H Q q => by
    obtain ⟨B, φ, Γ, k, d, Γ', r, a, e, q⟩ := q
    cases e
    obtain ⟨B', φ', s', r'⟩ := stor_ok r i a
    exact q B' φ' _ s' r'
theorem gNames_run : ∀ (is : List Nat) (vs : List V) (σ : St) (H : Hp) (Q : St → Hp → Prop), vs.length = is.length → Q (setsV σ is vs) H → gNames is vs σ H Q
  | [], [], σ, H, Q, _, q => ⟨rfl, q⟩
  | i :: is, v :: vs, σ, H, Q, hl, q => ⟨v, vs, rfl, gNames_run is vs _ H Q (by simpa using hl) q⟩
  | [], _ :: _, _, _, _, hl, _ => by simp at hl
  | _ :: _, [], _, _, _, hl, _ => by simp at hl
def kOk : Kd → Prop
  | .fr [] => True
  | .fr (_ :: _) => False
  | _ => True
theorem stors_ok {H : Hp} {k : Kd} (hk : kOk k) : ∀ (is : List Nat) (ds : List PyData) (vs : List V) {B : Hp} {φ : Nat → List Addr} {Γ : DEnv} {σ : St}, ds.length = is.length → Rep K B φ Γ σ H → Avs K B φ H k ds vs →
    ∃ B' φ', Same B B' ∧ Rep K B' φ' (stors Γ is k ds) (setsV σ is vs) H
  | [], [], vs, B, φ, Γ, σ, _, r, a => ⟨B, φ, Same.refl B, by unfold setsV stors; exact r⟩
  | [], _ :: _, _, _, _, _, _, hl, _, _ => by simp at hl
  | _ :: _, [], _, _, _, _, _, hl, _, _ => by simp at hl
  | i :: is, d :: ds, vs, B, φ, Γ, σ, hl, r, a => by
    have hl' : ds.length = is.length := by simpa using hl
    match k, hk, a with
    | .fr [], _, a =>
      obtain ⟨as, h1, h2, h3⟩ := a
      simp only [IsTs] at h1
      obtain ⟨v, vr, a1, a2, rfl, rfl, hv, tl⟩ := h1
      have h3' : ∀ a ∈ a1 ++ a2, B a = none ∧ ∀ j, a ∉ φ j := fun a ha => by
        rcases h3 a ha with ⟨_, z, _⟩ | z
        · cases z
        · exact z
      have hnd := List.nodup_append.mp h2
      by_cases hn : nol d = true
      · have e1 : a1 = [] := IsT.nil _ _ _ hn hv
        subst e1
        have r1 := r.put i hv List.nodup_nil fun a ha => by cases ha
        obtain ⟨B', φ', s', r'⟩ := stors_ok (k := .fr []) trivial is ds vr hl' r1 ⟨a2, tl, hnd.2.1, fun a ha => .inr ⟨(h3' a (List.mem_append_right _ ha)).1, fun j => by
          by_cases hj : j = i
          · simp only [if_pos hj]; intro z; cases z
          · simp only [if_neg hj]; exact (h3' a (List.mem_append_right _ ha)).2 j⟩⟩
        refine ⟨B', φ', s', ?_⟩
        simp only [stors, setsV, nrm, hn, if_true, stor]
        exact r'
      · have r1 := r.put i hv hnd.1 fun a ha => ⟨(h3' a (List.mem_append_left _ ha)).1, fun j _ => (h3' a (List.mem_append_left _ ha)).2 j⟩
        obtain ⟨B', φ', s', r'⟩ := stors_ok (k := .fr []) trivial is ds vr hl' r1 ⟨a2, tl, hnd.2.1, fun a ha => .inr ⟨(h3' a (List.mem_append_right _ ha)).1, fun j => by
          by_cases hj : j = i
          · simp only [if_pos hj]; intro z; exact hnd.2.2 a z a ha rfl
          · simp only [if_neg hj]; exact (h3' a (List.mem_append_right _ ha)).2 j⟩⟩
        refine ⟨B', φ', s', ?_⟩
        simp only [stors, setsV, nrm, hn, if_false, stor]
        exact r'
    | .base, _, a =>
      have a' : IsDs K B (d :: ds) vs := a
      simp only [IsDs] at a'
      obtain ⟨v, vr, rfl, hv, tl⟩ := a'
      obtain ⟨B1, φ1, s1, r1⟩ := stor_ok (k := nrm .base d) r i (VR.av r (VR.nrm r.bs (show VR K B φ H H .base d v from hv)))
      obtain ⟨B', φ', s', r'⟩ := stors_ok (k := .base) trivial is ds vr hl' r1 (IsDs.same s1 _ _ tl)
      exact ⟨B', φ', s1.trans s', r'⟩
    | .any, _, a =>
      have a' : IsDs K H (d :: ds) vs := a
      simp only [IsDs] at a'
      obtain ⟨v, vr, rfl, hv, tl⟩ := a'
      obtain ⟨B1, φ1, s1, r1⟩ := stor_ok (k := nrm .any d) r i (VR.av r (VR.nrm r.bs (show VR K B φ H H .any d v from hv)))
      obtain ⟨B', φ', s', r'⟩ := stors_ok (k := .any) trivial is ds vr hl' r1 tl
      exact ⟨B', φ', s1.trans s', r'⟩
theorem Av.tup {B : Hp} {φ : Nat → List Addr} {H : Hp} {k : Kd} {ds : List PyData} {v : V} (s : Same B H) (h : Av K B φ H k (.tuple ds) v) : ∃ a vs, v = .ref a ∧ SqT K H a vs ∧ Avs K B φ H (partK k) ds vs ∧ vs.length = ds.length := by
  match k, h with
  | .fr [], h =>
    obtain ⟨as, h1, h2, h3⟩ := h
    obtain ⟨a, vs, e, q, t⟩ := of_isT_tup h1
    exact ⟨a, vs, e, q, ⟨as, t, h2, h3⟩, isTs_length t⟩
  | .fr (j :: l), h =>
    obtain ⟨as, h1, h2, h3⟩ := h
    obtain ⟨a, vs, e, q, t⟩ := of_isT_tup h1
    exact ⟨a, vs, e, q, IsTs.toD _ _ _ t, isTs_length t⟩
  | .base, h =>
    obtain ⟨a, vs, e, q, t⟩ := of_isD_tup (show IsD K B (.tuple ds) v from h)
    exact ⟨a, vs, e, s.seqT q, t, isDs_length t⟩
  | .any, h =>
    obtain ⟨a, vs, e, q, t⟩ := of_isD_tup (show IsD K H (.tuple ds) v from h)
    exact ⟨a, vs, e, q, t, isDs_length t⟩
theorem partK_ok (k : Kd) : kOk (partK k) := by
  match k with
  | .fr [] => trivial
  | .fr (_ :: _) => trivial
  | .base => trivial
  | .any => trivial
theorem dg_tp {es : List Expr} {k : Nat} {is : List Nat} (hc : X.calm = true) (hg : PGs X es (gNames is)) (hn : (assignEach es X.env).length = is.length := by rfl) (hst : (assignEach es X.env).findIdx? (·.1) = none := by rfl) (hK : X.K = K := by rfl) :
    DG X K (.Tuple es k pos) (gTp is) := (pg_tup (n := is.length) hc hg hn hst).imp fun v σ H Q q => by
  obtain ⟨B, φ, Γ, k, d, Γ', r, a, e, q⟩ := q
  cases d <;> simp only [gTp] at e <;> try (cases e; done)
  rename_i ds
  split at e
  · rename_i hl
    cases e
    obtain ⟨a', vs, rfl, hq, av, hlen⟩ := a.tup r.bs
    refine ⟨a', vs, rfl, by rw [hK]; exact hq, by omega, gNames_run _ _ _ _ _ (by omega) ?_⟩
    obtain ⟨B', φ', s', r'⟩ := stors_ok (partK_ok k) is ds vs hl r av
    exact q B' φ' _ s' r'
  · cases e

/-! ### x, y = .. -/
theorem ds_asg {tg e : Expr} {fe : EF} {g : GF} (he : DE X K Ew e fe) (hg : DG X K tg g) (hs : swapsWithSole [tg] e pos.line X.env = pure false := by rfl) (hw : swappedStores [tg] e X.env = pure none := by rfl)
    (h1 : (assignEach [tg] X.env).map (·.2) = [assign tg X.env] := by rfl) : DS X K Ew (.Assign [tg] e pos) (sAsg g fe) := (ps_asg he hg hs hw h1).imp fun D σ H q =>
  tDS_head (g := fun x Γ => mbind (mo (g x.1 x.2 Γ)) fun Γ' => mret (.nx Γ')) q fun B φ Γ k d v H1 r a q => by
    cases e : g k d Γ with
    | none => simp only [e] at q; exact False.elim q
    | some Γ' =>
      simp only [e] at q
      exact ⟨B, φ, Γ, k, d, Γ', r, a, e, fun B' φ' σ' s' r' => q B' φ' σ' H1 s' r'⟩

/-! ### what is walked -/
structure ItOk (K : PySem.W.Frag) (B : Hp) (J : It) (ds : List PyData) : Prop where
  go : ∀ i H, i < ds.length → Same B H → J.go i H
  yl : ∀ i H x H', i < ds.length → Same B H → J.yld i H x H' → Same H H' ∧ ∃ d, ds[i]? = some d ∧ ∀ B2, Same B B2 → (∀ a o, H a = none → H' a = some o → B2 a = some o) → IsD K B2 d x
  stop : ∀ H, Same B H → J.stop ds.length H
def RunI (K : PySem.W.Frag) (Ew : Str → Hp → Prop) (B H : Hp) (Γ : DEnv) (σ : St) (R : It → Hp → Prop) (m : M (Kd × List PyData)) : Prop := match m with
  | some (.ok (k, ds)) => ∀ J H1 B1 ψ, Same H H1 → Same B B1 → Rep K B1 ψ (frzK k Γ) σ H1 → ItOk K B1 J ds → R J H1
  | some (.ex c) => ∀ H', Same B H' → Ew c H'
  | none => False
def tI (K : PySem.W.Frag) (Ew : Str → Hp → Prop) (it : IF) : TI := fun σ H R => ∃ B φ Γ, Rep K B φ Γ σ H ∧ RunI K Ew B H Γ σ R (it Γ)
def DI (X : Cx) (K : PySem.W.Frag) (Ew : Str → Hp → Prop) (tg e : Expr) (it : IF) : Prop := PI X tg e (tI K Ew it)
theorem PI.imp {X : Cx} {tg e : Expr} {t t' : TI} (h : PI X tg e t) (i : ∀ σ H R, t' σ H R → t σ H R) : PI X tg e t' := fun pins s σ H R I q => h pins s σ H R I (i σ H R q)
/-- frozen by the kind -/
theorem Rep.frzK {B H : Hp} {φ : Nat → List Addr} {Γ : DEnv} {σ : St} {k : Kd} {d : PyData} {v : V} (r : Rep K B φ Γ σ H) (h : Av K B φ H k d v) :
    ∃ B1 ψ, Same B B1 ∧ Rep K B1 ψ (frzK k Γ) σ H ∧ IsD K B1 d v := by
  match k, h with
  | .fr [], h =>
    obtain ⟨as, h1, h2, h3⟩ := h
    refine ⟨cutB φ H, φ, r.cutS, r.cut, IsT.toB r.mu _ _ _ (fun a ha o e => ?_) h1⟩
    rw [cutB_of]
    · exact e
    · rcases h3 a ha with ⟨_, z, _⟩ | z
      · cases z
      · exact z.2
  | .fr (j :: l), h =>
    obtain ⟨as, h1, h2, h3⟩ := h
    obtain ⟨ψ, s1, r1, sub, hl⟩ := r.frzL (j :: l)
    refine ⟨_, _, s1, r1, IsT.toB (fun a o e n => ?_) _ _ _ (fun a ha o e => ?_) h1⟩
    · rw [cutB_of]
      · exact e
      · intro j' hj'
        obtain ⟨o', e', m⟩ := (r.nb j' a (sub j' a hj')).2
        rw [e] at e'; cases e'
        exact n m
    · rw [cutB_of]
      · exact e
      · intro j' hj'
        rcases h3 a ha with ⟨i', hi', z⟩ | z
        · by_cases hij : i' = j'
          · subst hij; rw [hl _ hi'] at hj'; cases hj'
          · exact r.dj i' j' hij a z (sub j' a hj')
        · exact z.2 j' (sub j' a hj')
  | .base, h => exact ⟨B, φ, Same.refl B, r, h⟩
  | .any, h =>
    obtain ⟨s1, r1⟩ := r.frzA
    exact ⟨H, _, s1, r1, h⟩
theorem itOk_list {B : Hp} {a : Addr} {vs : List V} {ds : List PyData} (h : SqL K B a vs) (t : IsDs K B ds vs) : ItOk K B (Itl K a) ds where
  go := fun i H hi s => by
    have hl := isDs_length t
    exact ⟨vs, vs[i]'(by omega), s.seq h, by simp⟩
  yl := fun i H x H' hi s y => by
    obtain ⟨rfl, y⟩ := y
    obtain ⟨d, e, hd⟩ := isDs_get' t (y vs (s.seq h))
    exact ⟨Same.refl _, d, e, fun B2 s2 _ => IsD.same s2 _ _ hd⟩
  stop := fun H s => ⟨vs, s.seq h, by rw [isDs_length t]; exact Nat.le_refl _⟩
theorem itOk_tup {B : Hp} {a : Addr} {vs : List V} {ds : List PyData} (h : SqT K B a vs) (t : IsDs K B ds vs) : ItOk K B (Itt K a) ds where
  go := fun i H hi s => by
    have hl := isDs_length t
    exact ⟨vs, vs[i]'(by omega), s.seqT h, by simp⟩
  yl := fun i H x H' hi s y => by
    obtain ⟨rfl, y⟩ := y
    obtain ⟨d, e, hd⟩ := isDs_get' t (y vs (s.seqT h))
    exact ⟨Same.refl _, d, e, fun B2 s2 _ => IsD.same s2 _ _ hd⟩
  stop := fun H s => ⟨vs, s.seqT h, by rw [isDs_length t]; exact Nat.le_refl _⟩
theorem itOk_rng {B : Hp} {m : Int} {n : Nat} : ItOk K B (Itr m n) ((List.range n).map fun i => .int (m + (i : Nat))) where
  go := fun i H hi s => by
    show i < n
    simpa using hi
  yl := fun i H x H' hi s y => by
    obtain ⟨rfl, rfl⟩ := y
    have hi' : i < n := by simpa using hi
    exact ⟨Same.refl _, .int (m + (i : Nat)), by simp [hi'], fun B2 s2 _ => isD_int⟩
  stop := fun H s => by
    show n ≤ _
    simp
/-- the walked value's expression at the head -/
theorem tI_head {fe : EF} {g : Kd × PyData → DEnv → M (Kd × List PyData)} {σ : St} {H : Hp} {R : It → Hp → Prop} {R1 : VK} (h : tI K Ew (fun Γ => mbind (fe Γ) fun x => g x Γ) σ H R)
    (i : ∀ B φ Γ k d v H1, Rep K B φ Γ σ H1 → Same H H1 → Av K B φ H1 k d v → RunI K Ew B H Γ σ R (g (k, d) Γ) → R1 v H1) : tD K Ew fe σ H R1 := by
  obtain ⟨B, φ, Γ, r, q⟩ := h
  refine ⟨B, φ, Γ, r, ?_⟩
  have q : RunI K Ew B H Γ σ R (mbind (fe Γ) fun x => g x Γ) := q
  match hm : fe Γ, q with
  | some (.ok (k, d)), q => exact .inl ⟨k, d, rfl, fun v H1 s hv => i B φ Γ k d v H1 (r.same s) s (hv.av r) q⟩
  | some (.ex c), q => exact .inr ⟨c, rfl, q⟩
  | none, q => exact False.elim q
theorem pi_or {tg l : Expr} {t t' : TI} (h : PI X tg l t) (h' : PI X tg l t') : PI X tg l (fun σ H R => t σ H R ∨ t' σ H R) := fun pins s σ H R I q => by
  rcases q with q | q
  · exact h pins s σ H R I q
  · exact h' pins s σ H R I q
theorem di_e {tg l : Expr} {fe : EF} (hl : DE X K Ew l fe) (hK : X.K = K := by rfl) : DI X K Ew tg l (itE fe) := (pi_or (pi_list hl) (pi_tup hl)).imp fun σ H R q => by
  have q0 := q
  obtain ⟨B0, φ0, Γ0, r0, q0⟩ := q0
  have isl : (∃ k xs, fe Γ0 = some (.ok (k, .list xs))) ∨ (∃ k xs, fe Γ0 = some (.ok (k, .tuple xs))) ∨ ∃ c, fe Γ0 = some (.ex c) := by
    unfold itE at q0
    match hm : fe Γ0, q0 with
    | some (.ok (k, .list xs)), q0 => exact .inl ⟨k, xs, rfl⟩
    | some (.ok (k, .tuple xs)), q0 => exact .inr (.inl ⟨k, xs, rfl⟩)
    | some (.ex c), q0 => exact .inr (.inr ⟨c, rfl⟩)
    | some (.ok (k, .none)), q0 => exact False.elim q0
    | some (.ok (k, .bool _)), q0 => exact False.elim q0
    | some (.ok (k, .int _)), q0 => exact False.elim q0
    | some (.ok (k, .str _)), q0 => exact False.elim q0
    | some (.ok (k, .dict _)), q0 => exact False.elim q0
    | none, q0 => exact False.elim q0
  rcases isl with ⟨k, xs, e⟩ | ⟨k, xs, e⟩ | ⟨c, e⟩
  · left
    refine ⟨B0, φ0, Γ0, r0, .inl ⟨k, _, e, fun v H1 s hv => ?_⟩⟩
    simp only [itE, e] at q0
    obtain ⟨B1, ψ, s1, r1, hd⟩ := (r0.same s).frzK (hv.av r0)
    obtain ⟨a, vs, rfl, h1, h2⟩ := of_isD_lst hd
    rw [hK]
    exact ⟨a, rfl, ⟨vs, r1.bs.seq h1⟩, q0 _ H1 B1 ψ s s1 r1 (itOk_list h1 h2)⟩
  · right
    refine ⟨B0, φ0, Γ0, r0, .inl ⟨k, _, e, fun v H1 s hv => ?_⟩⟩
    simp only [itE, e] at q0
    obtain ⟨B1, ψ, s1, r1, hd⟩ := (r0.same s).frzK (hv.av r0)
    obtain ⟨a, vs, rfl, h1, h2⟩ := of_isD_tup hd
    rw [hK]
    exact ⟨a, rfl, ⟨vs, r1.bs.seqT h1⟩, q0 _ H1 B1 ψ s s1 r1 (itOk_tup h1 h2)⟩
  · left
    simp only [itE, e] at q0
    exact ⟨B0, φ0, Γ0, r0, .inr ⟨c, e, q0⟩⟩
theorem di_r1 {tg a : Expr} {fa : EF} {p : Pos} (hg : Gl X "range") (hm : X.mg "range" = none) (ha : DE X K Ew a fa) (hs : starEach [a] X.env = [(false, eval a X.env)] := by rfl) : DI X K Ew tg (.Call (.Name "range" p) [a] [] pos) (itR1 fa) :=
  (pi_range1 hg hm (pa_cons ha pa_nil hs) hs).imp fun σ H R q => tI_head (g := fun x _ => rng1 x.2) q fun B φ Γ k d v H1 r s av q => by
    replace q : RunI K Ew B H Γ σ R (rng1 d) := q
    cases d <;> try (exact False.elim q)
    rename_i n
    have hv := of_isD_int (av.toD r.bs)
    subst hv
    by_cases hn : -(2 ^ 62) ≤ n ∧ n < 2 ^ 62
    · simp only [rng1, if_pos hn] at q
      refine ⟨n, rfl, hn.1, hn.2, q _ H1 B φ s (Same.refl B) r ?_⟩
      have := itOk_rng (K := K) (B := B) (m := 0) (n := n.toNat)
      simpa only [Int.zero_add] using this
    · simp only [rng1, if_neg hn] at q
      exact False.elim q

/-! ### for -/
theorem ds_for {tg iter : Expr} {body : List Stmt} {it : IF} {g : GF} {fb : SF} (hp : PassesOwn (model X.prog X.w) X.A X.env X.xe) (hc : X.calm = true) (hi : DI X K Ew tg iter it) (hg : DG X K tg g) (hb : DSs X K Ew body fb)
    (hs : ∀ x, foldedSetIterable iter X.env x = pure x := by intro _; rfl) : DS X K Ew (.For tg iter body [] pos) (sFor it g fb) := (ps_for hp hc hi hg hb hs).imp fun D σ H q => by
  obtain ⟨B, φ, Γ, r, q⟩ := q
  refine ⟨B, φ, Γ, r, ?_⟩
  unfold sFor at q
  match hm : it Γ, q with
  | some (.ok (k, ds)), q =>
    intro J H1 B1 ψ s0 s1 r1 io
    have q : RunS K Ew B1 (forD g fb ds (frzK k Γ)) D := RunS.base s1 q
    refine ⟨fun i m σ H => m = ds.length - i ∧ i ≤ ds.length ∧ ∃ B2 φ2 Γ2, Same B1 B2 ∧ Rep K B2 φ2 Γ2 σ H ∧ RunS K Ew B1 (forD g fb (ds.drop i) Γ2) D, ⟨ds.length, by simp, Nat.zero_le _, B1, ψ, _, Same.refl B1, r1, by simpa using q⟩, ?_⟩
    rintro i m σ2 H2 ⟨rfl, hi2, B2, φ2, Γ2, s2, r2, q2⟩
    by_cases hlt : i < ds.length
    · refine .inr ⟨io.go i H2 hlt (s2.trans r2.bs), fun σ' H' => ∃ B3 φ3 Γ3, Same B1 B3 ∧ Rep K B3 φ3 Γ3 σ' H' ∧ RunS K Ew B1 (forD g fb (ds.drop (i + 1)) Γ3) D, fun σ' H' h' => ⟨ds.length - (i + 1), by omega, rfl, hlt, h'⟩, fun x H' y => ?_⟩
      obtain ⟨s3, d, e, hd⟩ := io.yl i H2 x H' hlt (s2.trans r2.bs) y
      have r3 := r2.same s3
      have hcut : IsD K (cutB φ2 H') d x := hd _ (s2.trans r3.cutS) fun a o e1 e2 => by
        rw [cutB_of]
        · exact e2
        · intro j hj
          obtain ⟨o', e', _⟩ := (r2.nb j a hj).2
          rw [e1] at e'; cases e'
      have ed : ds.drop i = d :: ds.drop (i + 1) := by
        rw [List.drop_eq_getElem_cons hlt]
        congr 1
        rw [List.getElem?_eq_getElem hlt] at e
        exact Option.some.inj e
      rw [ed] at q2
      have q3 := q2
      simp only [forD] at q3
      cases hgg : g (nrm .base d) d Γ2 with
      | none => simp only [hgg] at q3; exact False.elim q3
      | some Γ3 =>
        simp only [hgg, mo_some, mbind_ret] at q3
        refine ⟨cutB φ2 H', φ2, Γ2, nrm .base d, d, Γ3, r3.cut, VR.av r3.cut (VR.nrm (cutB_same _ _) (show VR K _ φ2 H' H' .base d x from hcut)), hgg, fun B4 φ4 σ4 s4 r4 => ?_⟩
        have sB : Same B1 B4 := (s2.trans r3.cutS).trans s4
        refine ⟨B4, φ4, Γ3, r4, ?_⟩
        match hbm : fb Γ3, q3 with
        | some (.ok (.nx Γ')), q3 => exact fun B' φ' σ' H'' s' r' => ⟨B', φ', Γ', sB.trans s', r', q3⟩
        | some (.ok (.ct Γ')), q3 => exact fun B' φ' σ' H'' s' r' => ⟨B', φ', Γ', sB.trans s', r', q3⟩
        | some (.ok (.bk Γ')), q3 => exact fun B' φ' σ' H'' s' r' => q3 B' φ' σ' H'' (sB.trans s') r'
        | some (.ok (.rt o d)), q3 => exact fun v H'' s' rv => q3 v H'' (sB.trans s') (rv.base sB)
        | some (.ex c), q3 => exact fun H'' s' => q3 H'' (sB.trans s')
        | none, q3 => exact False.elim q3
    · have e : i = ds.length := by omega
      subst e
      rw [List.drop_length] at q2
      exact .inl ⟨io.stop H2 (s2.trans r2.bs), q2 B2 φ2 σ2 H2 s2 r2⟩
  | some (.ex c), q => exact q
  | none, q => exact False.elim q

/-! ### while -/
theorem ds_while (n : Nat) {c : Expr} {body : List Stmt} {t : TF} {fb : SF} (hp : PassesOwn (model X.prog X.w) X.A X.env X.xe) (hc : DT X K Ew c t) (hb : DSs X K Ew body fb) : DS X K Ew (.While c body [] pos) (sWhile n t fb) := (ps_while hp hc hb).imp fun D σ H q => by
  obtain ⟨B, φ, Γ, r, q⟩ := q
  refine ⟨fun m σ H => ∃ B2 φ2 Γ2, Same B B2 ∧ Rep K B2 φ2 Γ2 σ H ∧ RunS K Ew B (whileD m t fb Γ2) D, ⟨n, B, φ, Γ, Same.refl B, r, q⟩, ?_⟩
  rintro m σ2 H2 ⟨B2, φ2, Γ2, s2, r2, q2⟩
  cases m with
  | zero => exact False.elim q2
  | succ m =>
    refine ⟨B2, φ2, Γ2, r2, ?_⟩
    simp only [whileD] at q2
    match hm : t Γ2, q2 with
    | some (.ok true), q2 =>
      refine .inl ⟨true, rfl, fun H3 s3 => ?_⟩
      show (if true = true then _ else _)
      rw [if_pos rfl]
      refine ⟨fun σ' H' => ∃ B3 φ3 Γ3, Same B B3 ∧ Rep K B3 φ3 Γ3 σ' H' ∧ RunS K Ew B (whileD m t fb Γ3) D, fun σ' H' h => ⟨m, Nat.lt_succ_self _, h⟩, B2, φ2, Γ2, r2.same s3, ?_⟩
      have q3 : RunS K Ew B (mbind (fb Γ2) fun o => (match o with
        | .nx Γ' => whileD m t fb Γ'
        | .ct Γ' => whileD m t fb Γ'
        | .bk Γ' => mret (.nx Γ')
        | .rt o d => mret (.rt o d))) D := q2
      match hbm : fb Γ2, q3 with
      | some (.ok (.nx Γ')), q3 => exact fun B' φ' σ' H'' s' r' => ⟨B', φ', Γ', s2.trans s', r', q3⟩
      | some (.ok (.ct Γ')), q3 => exact fun B' φ' σ' H'' s' r' => ⟨B', φ', Γ', s2.trans s', r', q3⟩
      | some (.ok (.bk Γ')), q3 => exact fun B' φ' σ' H'' s' r' => q3 B' φ' σ' H'' (s2.trans s') r'
      | some (.ok (.rt o d)), q3 => exact fun v H'' s' rv => q3 v H'' (s2.trans s') (rv.base s2)
      | some (.ex c), q3 => exact fun H'' s' => q3 H'' (s2.trans s')
      | none, q3 => exact False.elim q3
    | some (.ok false), q2 =>
      refine .inl ⟨false, rfl, fun H3 s3 => ?_⟩
      show (if false = true then _ else _)
      rw [if_neg Bool.false_ne_true]
      exact q2 B2 φ2 σ2 H3 s2 (r2.same s3)
    | some (.ex c), q2 => exact .inr ⟨c, rfl, fun H' s' => q2 H' (s2.trans s')⟩
    | none, q2 => exact False.elim q2
end
end L2
set_option Elab.async false
set_option linter.all false
set_option maxRecDepth 100000
namespace L2
open PySem PySem.Spec PyProof.Rows Y

/-! ### arguments -/
def VRs (K : PySem.W.Frag) (B : Hp) (φ : Nat → List Addr) : Hp → Hp → List (Kd × PyData) → List V → Prop
  | _, _, [], vs => vs = []
  | H, H', x :: xs, vs => ∃ v r H1, vs = v :: r ∧ Same H H1 ∧ Same H1 H' ∧ VR K B φ H H1 x.1 x.2 v ∧ VRs K B φ H1 H' xs r
def tA (K : PySem.W.Frag) (Ew : Str → Hp → Prop) (fs : List EF) : TA := fun σ H Q => ∃ B φ Γ, Rep K B φ Γ σ H ∧ match eArgs fs Γ with
  | some (.ok xs) => ∀ vs H', Same H H' → VRs K B φ H H' xs vs → Q vs H'
  | some (.ex c) => ∀ H', Same B H' → Ew c H'
  | none => False
def DA (X : Cx) (K : PySem.W.Frag) (Ew : Str → Hp → Prop) (es : List Expr) (fs : List EF) : Prop := PA X es (tA K Ew fs)
theorem PA.imp {X : Cx} {es : List Expr} {t t' : TA} (h : PA X es t) (i : ∀ σ H Q, t' σ H Q → t σ H Q) : PA X es t' := fun pos pins s σ H Q I q => h pos pins s σ H Q I (i σ H Q q)
section
variable {X : Cx} {K : PySem.W.Frag} {Ew : Str → Hp → Prop} {pos : Pos} {e : Expr} {es : List Expr} {fe : EF} {fs : List EF}
theorem da_nil : DA X K Ew [] [] := pa_nil.imp fun σ H Q q => by
  obtain ⟨B, φ, Γ, r, q⟩ := q
  exact q [] H (Same.refl H) (by unfold VRs; rfl)
theorem da_cons (h1 : DE X K Ew e fe) (h2 : DA X K Ew es fs) (hs : starEach (e :: es) X.env = (false, eval e X.env) :: starEach es X.env := by rfl) : DA X K Ew (e :: es) (fe :: fs) := (pa_cons h1 h2 hs).imp fun σ H Q q => by
  obtain ⟨B, φ, Γ, r, q⟩ := q
  refine ⟨B, φ, Γ, r, ?_⟩
  simp only [eArgs] at q
  match hm : fe Γ, q with
  | some (.ok (k, d)), q =>
    refine .inl ⟨k, d, rfl, fun v H1 s1 hv => ⟨B, φ, Γ, r.same s1, ?_⟩⟩
    match hm2 : eArgs fs Γ, q with
    | some (.ok xs), q => exact fun vs H2 s2 hvs => q (v :: vs) H2 (s1.trans s2) (by unfold VRs; exact ⟨v, vs, H1, rfl, s1, s2, hv, hvs⟩)
    | some (.ex c), q => exact q
    | none, q => exact False.elim q
  | some (.ex c), q => exact .inr ⟨c, rfl, q⟩
  | none, q => exact False.elim q
theorem VRs.toD {B : Hp} {φ : Nat → List Addr} : ∀ {xs : List (Kd × PyData)} {vs : List V} {H H' : Hp}, Same B H → Same H H' → VRs K B φ H H' xs vs → IsDs K H' (xs.map Prod.snd) vs
  | [], vs, H, H', _, _, h => by unfold VRs at h; subst h; exact isDs_nil
  | x :: xs, vs, H, H', s, s', h => by
    unfold VRs at h
    obtain ⟨v, r, H1, rfl, s1, s2, hv, tl⟩ := h
    exact isDs_cons (IsD.same s2 _ _ (hv.toD (s.trans s1))) (VRs.toD (s.trans s1) s2 tl)
theorem VRs.fresh {B : Hp} {φ : Nat → List Addr} : ∀ {xs : List (Kd × PyData)} {vs : List V} {H H' : Hp}, kdDisp xs = .fr [] → Same H H' → VRs K B φ H H' xs vs → ∃ as, IsTs K H' (xs.map Prod.snd) vs as ∧ as.Nodup ∧ ∀ a ∈ as, H a = none
  | [], vs, H, H', _, _, h => by unfold VRs at h; subst h; exact ⟨[], isTs_nil, List.nodup_nil, fun a ha => by cases ha⟩
  | (k, d) :: xs, vs, H, H', hk, s', h => by
    match k, hk with
    | .fr [], hk =>
      unfold VRs at h
      obtain ⟨v, r, H1, rfl, s1, s2, hv, tl⟩ := h
      obtain ⟨as, h1, h2, h3⟩ := VR.fresh.mp hv
      obtain ⟨bs, g1, g2, g3⟩ := VRs.fresh (xs := xs) (by simpa [kdDisp] using hk) s2 tl
      refine ⟨as ++ bs, isTs_cons (IsT.same s2 _ _ _ h1) g1, List.nodup_append.mpr ⟨h2, g2, fun a ha b hb e => ?_⟩, fun a ha => ?_⟩
      · subst e
        obtain ⟨o, e, _⟩ := IsT.live _ _ _ h1 a ha
        rw [g3 a hb] at e; cases e
      · rcases List.mem_append.mp ha with ha | ha
        · exact h3 a ha
        · exact s1.free (g3 a ha)
    | .fr (_ :: _), hk => simp [kdDisp] at hk
    | .base, hk => simp [kdDisp] at hk
    | .any, hk => simp [kdDisp] at hk
theorem kdDisp_or (xs : List (Kd × PyData)) : kdDisp xs = .fr [] ∨ kdDisp xs = .any := by
  induction xs with
  | nil => exact .inl rfl
  | cons x xs ih =>
    obtain ⟨k, d⟩ := x
    match k with
    | .fr [] => simpa [kdDisp] using ih
    | .fr (_ :: _) => exact .inr rfl
    | .base => exact .inr rfl
    | .any => exact .inr rfl
/-! ### displays -/
theorem eArgs_len {Γ : DEnv} : ∀ {fs : List EF} {xs : List (Kd × PyData)}, eArgs fs Γ = some (.ok xs) → xs.length = fs.length
  | [], xs, h => by simp only [eArgs, mret] at h; cases h; rfl
  | f :: fs, xs, h => by
    simp only [eArgs] at h
    match hf : f Γ, h with
    | some (.ok x), h =>
      match hr : eArgs fs Γ, h with
      | some (.ok ys), h => cases h; rw [List.length_cons, List.length_cons, eArgs_len hr]
      | some (.ex c), h => cases h
      | none, h => cases h
    | some (.ex c), h => cases h
    | none, h => cases h
theorem VRs.len {B : Hp} {φ : Nat → List Addr} : ∀ {xs : List (Kd × PyData)} {vs : List V} {H H' : Hp}, VRs K B φ H H' xs vs → vs.length = xs.length
  | [], vs, H, H', h => by unfold VRs at h; subst h; rfl
  | x :: xs, vs, H, H', h => by
    unfold VRs at h
    obtain ⟨v, r, H1, rfl, s1, s2, hv, tl⟩ := h
    rw [List.length_cons, List.length_cons, tl.len]
/-- arguments at the head -/
theorem tA_head {g : List (Kd × PyData) → M (Kd × PyData)} {σ : St} {H : Hp} {Q : VK} {R : List V → Hp → Prop} (h : tD K Ew (fun Γ => mbind (eArgs fs Γ) g) σ H Q)
    (i : ∀ B φ Γ xs vs H1, Rep K B φ Γ σ H → Rep K B φ Γ σ H1 → Same H H1 → eArgs fs Γ = some (.ok xs) → VRs K B φ H H1 xs vs → Runs K Ew B φ H (g xs) Q → R vs H1) : tA K Ew fs σ H R := by
  obtain ⟨B, φ, Γ, r, q⟩ := h
  refine ⟨B, φ, Γ, r, ?_⟩
  replace q : Runs K Ew B φ H (mbind (eArgs fs Γ) g) Q := q
  match hm : eArgs fs Γ, q with
  | some (.ok xs), q => exact fun vs H1 s hv => i B φ Γ xs vs H1 r (r.same s) s hm hv q
  | some (.ex c), q =>
    rcases q with ⟨k, d, e, _⟩ | ⟨c', e, q⟩
    · cases e
    · cases e; exact q
  | none, q => rcases q with ⟨k, d, e, _⟩ | ⟨c', e, q⟩ <;> cases e
theorem de_tup {x1} (h : DA X K Ew es fs) (hl : fs.length ≤ 1000 := by decide) : DE X K Ew (.Tuple es x1 pos) (eTup fs) := (pe_tup h).imp fun σ H Q q =>
  tA_head (g := fun (xs : List (Kd × PyData)) => mret (nrm (kdDisp xs) (.tuple (xs.map Prod.snd)), .tuple (xs.map Prod.snd))) q fun B φ Γ xs vs H1 r r1 s hx hv q => by
    have hz : vs.length ≤ 1000 := by rw [hv.len, eArgs_len hx]; exact hl
    refine ⟨Nat.le_trans hz (by decide), fun p hp => ?_⟩
    rcases q with ⟨k, d, e, q⟩ | ⟨c, e, q⟩
    · cases e
      refine q _ _ (s.trans (Same.upd hp)) (VR.nrm (r1.bs.trans (Same.upd hp)) ?_)
      rcases kdDisp_or xs with hk | hk
      · rw [hk]
        obtain ⟨as, h1, h2, h3⟩ := hv.fresh hk s
        exact ⟨as, isT_tup (SqT.of upd_same) (IsTs.same (Same.upd hp) _ _ _ h1), h2, fun a ha => .inr (h3 a ha)⟩
      · rw [hk]
        exact isD_tup (SqT.of upd_same) (IsDs.same (Same.upd hp) _ _ (hv.toD r.bs s))
    · cases e
theorem de_lst (h : DA X K Ew es fs) (hl : fs.length ≤ 1000 := by decide) : DE X K Ew (.List es pos) (eLst fs) := (pe_lst h).imp fun σ H Q q =>
  tA_head (g := fun (xs : List (Kd × PyData)) => mret (kdDisp xs, .list (xs.map Prod.snd))) q fun B φ Γ xs vs H1 r r1 s hx hv q => by
    have hz : vs.length ≤ 1000 := by rw [hv.len, eArgs_len hx]; exact hl
    refine ⟨Nat.le_trans hz (by decide), fun p hp => ?_⟩
    rcases q with ⟨k, d, e, q⟩ | ⟨c, e, q⟩
    · cases e
      refine q _ _ (s.trans (Same.upd hp)) ?_
      rcases kdDisp_or xs with hk | hk
      · rw [hk]
        obtain ⟨as, h1, h2, h3⟩ := hv.fresh hk s
        refine ⟨p :: as, isT_lst upd_same (IsTs.same (Same.upd hp) _ _ _ h1), List.nodup_cons.mpr ⟨fun z => ?_, h2⟩, fun a ha => .inr ?_⟩
        · obtain ⟨o, e, _⟩ := IsTs.live _ _ _ h1 p z
          rw [hp] at e; cases e
        · rcases List.mem_cons.mp ha with rfl | ha
          · exact s.free hp
          · exact h3 a ha
      · rw [hk]
        exact isD_lst (SqL.of upd_same) (IsDs.same (Same.upd hp) _ _ (hv.toD r.bs s))
    · cases e
/-! ### calls of built-ins -/
theorem tA_callD {f : Value} {g : List PyData → Option PyData} {r : List V → Hp → VK → Prop} {σ : St} {H : Hp} {Q : VK}
    (hx : ∀ xs z us H Q, g xs = some z → IsDs K H xs us → (∀ w H', Same H H' → Fresh K H H' z w → Q w H') → r us H Q) (q : tD K Ew (eCB g fs) σ H Q) : tCB r (tA K Ew fs) σ H Q :=
  tA_head (g := fun (xs : List (Kd × PyData)) => mbind (mo (g (xs.map Prod.snd))) fun z => mret (.fr [], z)) q fun B φ Γ xs vs H1 r0 r1 s hx' hv q => by
    obtain ⟨z, e, q⟩ := runs_mo (kf := fun _ => .fr []) q
    exact hx _ z vs H1 Q e (hv.toD r0.bs s) fun w H' s' f => q w H' (s.trans s') (VR.fresh.mpr (f.from s))
theorem de_callB {x : Str} {id : String} {p : Pos} {g : List PyData → Option PyData} {fes : List EF} (hc : CallD X (.builtin id) g) (hg : Gl X x) (hm : X.mg x = none) (hv : bootBuiltins x = some (.builtin id)) (ha : DA X K Ew (e :: es) fes) (hK : X.K = K := by rfl) (hn : x ≠ "__name__" := by decide) (hdb : (x == ("__debug__" : Str)) = false := by decide)
    (he : starEach (e :: es) X.env = (false, eval e X.env) :: starEach es X.env := by rfl) (hpl : (backTo pos (starEach es X.env)).any (·.1) = false := by rfl) : DE X K Ew (.Call (.Name x p) (e :: es) [] pos) (eCB g fes) := by
  obtain ⟨r, hr, hx⟩ := hc
  rw [hK] at hx
  exact (pe_callB hr hg hm hv ha hn hdb he hpl).imp fun σ H Q q => tA_callD (f := .builtin id) hx q
theorem de_callTy {x : Str} {T : String} {p : Pos} {g : List PyData → Option PyData} {fes : List EF} (hc : CallD X (.type T) g) (hg : Gl X x) (hm : X.mg x = none) (hv : bootBuiltins x = some (.type T)) (ha : DA X K Ew (e :: es) fes) (hK : X.K = K := by rfl) (hn : x ≠ "__name__" := by decide) (hdb : (x == ("__debug__" : Str)) = false := by decide)
    (he : starEach (e :: es) X.env = (false, eval e X.env) :: starEach es X.env := by rfl) (hpl : (backTo pos (starEach es X.env)).any (·.1) = false := by rfl) : DE X K Ew (.Call (.Name x p) (e :: es) [] pos) (eCB g fes) := by
  obtain ⟨r, hr, hx⟩ := hc
  rw [hK] at hx
  exact (pe_callTy hr hg hm hv ha hn hdb he hpl).imp fun σ H Q q => tA_callD (f := .type T) hx q

/-! ### calls of the text's defs -/
def spD (K : PySem.W.Frag) (n : Nat) (F : FF) : Sp := fun vs H Q _ => ∃ ds, ds.length = n ∧ IsDs K H ds vs ∧ match F ds with
  | some (.ok (o, d)) => ∀ v H', Same H H' → RV K H H' o d v → Q v H'
  | _ => False
theorem de_call {n : Nat} {CX : CXT} {k : Nat} {f : Addr} {fd : FuncData} {ps : List Str} {F : FF} {x : Str} {p : Pos} {fes : List EF} {E : XK} (G : FnOk X.prog X.w X.K X.mg X.base CX k f fd ps (spD K n F)) (hr : Room k X.A) (hg : Gl X x) (hm : X.mg x = some (.ref f)) (hk : PySem.W.keepIn X.K (.ref f) = true) (hb : Binds X.K fd ps []) (hx : Passes CX X E)
    (ha : DA X K Ew (e :: es) fes) (hn : fes.length = n := by rfl) (hE : ∀ c H, ¬ Ew c H := by exact fun _ _ h => h) (hdb : (x == ("__debug__" : Str)) = false := by decide) (he : starEach (e :: es) X.env = (false, eval e X.env) :: starEach es X.env := by rfl) (hpl : (backTo pos (starEach es X.env)).any (·.1) = false := by rfl) :
    DE X K Ew (.Call (.Name x p) (e :: es) [] pos) (eCall F fes) := (pe_call G hr hg hm hk hb .nil hx ha hdb he hpl).imp fun σ H Q q =>
  tA_head (g := fun (xs : List (Kd × PyData)) => mbind (F (xs.map Prod.snd)) fun r => mret (nrm (if r.1 = true then .fr [] else .any) r.2, r.2)) q fun B φ Γ xs vs H1 r r1 s hx' hv q => by
    rw [List.append_nil]
    refine ⟨xs.map Prod.snd, by rw [List.length_map, eArgs_len hx']; exact hn, hv.toD r.bs s, ?_⟩
    match hF : F (xs.map Prod.snd), q with
    | some (.ok (o, d)), q =>
      intro v H' s' rv
      rcases q with ⟨k, d', e, q⟩ | ⟨c, e, q⟩
      · cases e
        refine q v H' (s.trans s') (VR.nrm (r1.bs.trans s') ?_)
        unfold RV at rv
        cases o with
        | true =>
          rw [if_pos rfl] at rv ⊢
          obtain ⟨as, h1, h2, h3⟩ := rv
          exact ⟨as, h1, h2, fun a ha => .inr (s.free (h3 a ha))⟩
        | false =>
          rw [if_neg Bool.false_ne_true] at rv ⊢
          exact rv
      · cases e
    | some (.ex c), q =>
      rcases q with ⟨k, d', e, q⟩ | ⟨c, e, q⟩
      · cases e
      · exact hE _ _ (q H1 r1.bs)
    | none, q => rcases q with ⟨k, d', e, q⟩ | ⟨c, e, q⟩ <;> cases e
theorem rep_start {H : Hp} {ds : List PyData} {vs : List V} (N : List Str) (h : IsDs K H ds vs) : Rep K H (fun _ => []) (startD N.length ds) (start N vs) H where
  bs := Same.refl H
  len := by
    have := isDs_length h
    unfold startD start
    simp [this]
  sl := fun i o d e => by
    have hl := isDs_length h
    unfold startD at e
    by_cases hi : i < ds.length
    · rw [List.getElem?_append_left (by simpa using hi), List.getElem?_map] at e
      cases hd : ds[i]? with
      | none => rw [hd] at e; cases e
      | some d' =>
        rw [hd] at e
        cases e
        obtain ⟨v, h1, h2⟩ := isDs_get h hd
        refine ⟨v, ?_, ?_⟩
        · unfold start
          rw [List.getElem?_append_left (by simp; omega), List.getElem?_map, h1]; rfl
        · rw [if_neg Bool.false_ne_true]; exact h2
    · rw [List.getElem?_append_right (by simpa using hi), List.getElem?_replicate] at e
      split at e <;> cases e
  nd := fun _ => List.nodup_nil
  nb := fun _ a ha => by cases ha
  dj := fun _ _ _ a ha => by cases ha
theorem Fun.okD {P : Program} {w : World} {mg : Str → Option Value} {base : Heap} {x qual : Str} {st : Stmt} {f : Addr} {fd : FuncData} {N ps : List Str} {k : Nat} {fb : SF} (F : Fun K x qual st f fd) (S : FnScope N ps (defScope st))
    (hbody : ∀ (cdv : Value) (A : Around) (outer : List Env) (s : Shared) (H : Hp) (E : XK), Room k (A.deeper (envOfC qual (defScope st) s.heap.objs.size f cdv)) →
      DSs (cxOf CX0 P w K mg base N qual (defScope st) f cdv A outer s H E).nox K (fun _ _ => False) (defBody st) fb) : FnOk P w K mg base CX0 (k + 1) f fd ps (spD K ps.length (runF N.length fb)) := by
  refine F.ok S (fun vs H Q E h => ?_) fun cdv A outer s H vs Q E hr h => ⟨_, hbody cdv A outer s H E hr, ?_⟩
  · obtain ⟨ds, h1, h2, _⟩ := h
    rw [isDs_length h2]; exact h1
  · obtain ⟨ds, h1, h2, h3⟩ := h
    refine ⟨H, _, _, rep_start N h2, ?_⟩
    unfold runF at h3
    match hf : fb (startD N.length ds), h3 with
    | some (.ok (.rt o d)), h3 => exact h3
    | some (.ok (.nx Γ)), h3 =>
      exact fun B' φ σ H' s' r => h3 .non H' (s'.trans r.bs) (by unfold RV; rw [if_pos rfl]; exact ⟨[], IsD.toT _ _ rfl isD_non, List.nodup_nil, fun a ha => by cases ha⟩)
    | some (.ok (.bk Γ)), h3 => exact False.elim h3
    | some (.ok (.ct Γ)), h3 => exact False.elim h3
    | some (.ex c), h3 => exact False.elim h3
    | none, h3 => exact False.elim h3
end
end L2
set_option Elab.async false
set_option linter.all false
set_option maxRecDepth 100000
namespace L2
open PySem PySem.Spec PyProof.Rows Y
/-! ### subscripts -/
section
variable {X : Cx} {K : PySem.W.Frag} {Ew : Str → Hp → Prop} {pos : Pos}
theorem VR.ofList {B : Hp} {φ : Nat → List Addr} {H0 H : Hp} {k : Kd} {ds : List PyData} {u : V} (s : Same B H) (h : VR K B φ H0 H k (.list ds) u) :
    ∃ p vs, u = .ref p ∧ SqL K H p vs ∧ vs.length = ds.length ∧ ∀ (j : Nat) (d : PyData), ds[j]? = some d → ∃ w, vs[j]? = some w ∧ VR K B φ H0 H k d w := by
  cases k with
  | fr l =>
    obtain ⟨as, h1, h2, h3⟩ := h
    obtain ⟨a, vs, bs, rfl, e, t, rfl⟩ := of_isT_lst h1
    refine ⟨a, vs, rfl, SqL.of e, isTs_length t, fun j d hd => ?_⟩
    obtain ⟨w, cs, hw, hT, sub⟩ := isTs_get t hd
    have sub' : cs.Sublist (a :: bs) := sub.trans (List.sublist_cons_self _ _)
    exact ⟨w, hw, cs, hT, h2.sublist sub', fun x hx => h3 x (sub'.subset hx)⟩
  | base =>
    obtain ⟨a, vs, rfl, e, t⟩ := of_isD_lst (show IsD K B (.list ds) u from h)
    exact ⟨a, vs, rfl, s.seq e, isDs_length t, fun j d hd => isDs_get t hd⟩
  | any =>
    obtain ⟨a, vs, rfl, e, t⟩ := of_isD_lst (show IsD K H (.list ds) u from h)
    exact ⟨a, vs, rfl, e, isDs_length t, fun j d hd => isDs_get t hd⟩
theorem VR.ofTup {B : Hp} {φ : Nat → List Addr} {H0 H : Hp} {k : Kd} {ds : List PyData} {u : V} (s : Same B H) (h : VR K B φ H0 H k (.tuple ds) u) :
    ∃ p vs, u = .ref p ∧ SqT K H p vs ∧ vs.length = ds.length ∧ ∀ (j : Nat) (d : PyData), ds[j]? = some d → ∃ w, vs[j]? = some w ∧ VR K B φ H0 H k d w := by
  cases k with
  | fr l =>
    obtain ⟨as, h1, h2, h3⟩ := h
    obtain ⟨a, vs, rfl, e, t⟩ := of_isT_tup h1
    refine ⟨a, vs, rfl, e, isTs_length t, fun j d hd => ?_⟩
    obtain ⟨w, cs, hw, hT, sub⟩ := isTs_get t hd
    exact ⟨w, hw, cs, hT, h2.sublist sub, fun x hx => h3 x (sub.subset hx)⟩
  | base =>
    obtain ⟨a, vs, rfl, e, t⟩ := of_isD_tup (show IsD K B (.tuple ds) u from h)
    exact ⟨a, vs, rfl, s.seqT e, isDs_length t, fun j d hd => isDs_get t hd⟩
  | any =>
    obtain ⟨a, vs, rfl, e, t⟩ := of_isD_tup (show IsD K H (.tuple ds) u from h)
    exact ⟨a, vs, rfl, e, isDs_length t, fun j d hd => isDs_get t hd⟩
theorem atD_split {ds : List PyData} {vs : List V} {i : Int} {z : PyData} (hl : vs.length = ds.length) (h : atD ds i = some z) : ∃ j : Nat, ds[j]? = some z ∧ ∀ w, vs[j]? = some w → atI vs i = some w := by
  unfold atD at h
  cases e : Y.ixN ds.length i with
  | none => rw [e] at h; cases h
  | some j =>
    rw [e] at h
    refine ⟨j, h, fun w hw => ?_⟩
    unfold atI
    rw [show L2.ixN vs.length i = Y.ixN ds.length i by rw [hl]; rfl, e]
    exact hw
theorem ixd : IxD X gIx := ⟨_, ix_seq, fun B φ H0 k x y z u v H Q s e hx hy q => by
  cases x <;> cases y <;> simp only [gIx] at e <;> try (cases e; done)
  · rename_i x i
    split at e
    · rename_i hz
      have h1 := of_isD_str (hx.toD s)
      have h2 := of_isD_int hy
      subst h1 h2
      cases hc : atD x.cps.toList i with
      | none => rw [hc] at e; cases e
      | some c =>
        rw [hc] at e
        cases e
        exact .inr (.inr ⟨x, i, c, rfl, rfl, hz, hc, q _ (by rw [show nrm k (.str ⟨#[c]⟩) = .fr [] from rfl]; exact VR.imm rfl isD_str [])⟩)
    · cases e
  · rename_i xs i
    have h2 := of_isD_int hy
    subst h2
    obtain ⟨p, vs, rfl, hq, hl, hg⟩ := VR.ofList s hx
    obtain ⟨j, hj, hw⟩ := atD_split hl e
    obtain ⟨w, h3, h4⟩ := hg j z hj
    exact .inl ⟨p, vs, i, w, rfl, rfl, hq, hw w h3, q w (h4.nrm s)⟩
  · rename_i xs i
    have h2 := of_isD_int hy
    subst h2
    obtain ⟨p, vs, rfl, hq, hl, hg⟩ := VR.ofTup s hx
    obtain ⟨j, hj, hw⟩ := atD_split hl e
    obtain ⟨w, h3, h4⟩ := hg j z hj
    exact .inr (.inl ⟨p, vs, i, w, rfl, rfl, hq, hw w h3, q w (h4.nrm s)⟩)⟩
/-! ### len, list(x), tuple(x) -/
theorem isDs_one {H : Hp} {d : PyData} {us : List V} (h : IsDs K H [d] us) : ∃ u, us = [u] ∧ IsD K H d u := by
  simp only [IsDs] at h
  obtain ⟨v, r, rfl, hv, rfl⟩ := h
  exact ⟨v, rfl, hv⟩
theorem calld_len : CallD X (.builtin "len") gLen := ⟨_, call_len_seq.or call_len_str, fun xs z us H Q e h q => by
  match xs, e, h with
  | [.list ds], e, h =>
    cases e
    obtain ⟨u, rfl, hu⟩ := isDs_one h
    obtain ⟨a, vs, rfl, h1, h2⟩ := of_isD_lst hu
    exact .inl ⟨a, vs, rfl, .inl h1, by rw [isDs_length h2]; exact q _ H (Same.refl H) (Fresh.imm rfl isD_int)⟩
  | [.tuple ds], e, h =>
    cases e
    obtain ⟨u, rfl, hu⟩ := isDs_one h
    obtain ⟨a, vs, rfl, h1, h2⟩ := of_isD_tup hu
    exact .inl ⟨a, vs, rfl, .inr h1, by rw [isDs_length h2]; exact q _ H (Same.refl H) (Fresh.imm rfl isD_int)⟩
  | [.str x], e, h =>
    simp only [gLen] at e
    split at e
    · rename_i hz
      cases e
      obtain ⟨u, rfl, hu⟩ := isDs_one h
      have := of_isD_str hu
      subst this
      exact .inr ⟨x, rfl, hz, q _ H (Same.refl H) (Fresh.imm rfl isD_int)⟩
    · cases e⟩
theorem calld_list : CallD X (.type "list") gList := ⟨_, call_list_of, fun xs z us H Q e h q => by
  match xs, e, h with
  | [.list ds], e, h =>
    simp only [gList] at e
    split at e
    · rename_i hn
      cases e
      obtain ⟨u, rfl, hu⟩ := isDs_one h
      obtain ⟨a, vs, rfl, h1, h2⟩ := of_isD_lst hu
      exact ⟨a, vs, rfl, .inl h1, fun l hl => q _ _ (Same.upd hl) (Fresh.lst hn upd_same (IsDs.same (Same.upd hl) _ _ h2) hl)⟩
    · cases e
  | [.tuple ds], e, h =>
    simp only [gList] at e
    split at e
    · rename_i hn
      cases e
      obtain ⟨u, rfl, hu⟩ := isDs_one h
      obtain ⟨a, vs, rfl, h1, h2⟩ := of_isD_tup hu
      exact ⟨a, vs, rfl, .inr h1, fun l hl => q _ _ (Same.upd hl) (Fresh.lst hn upd_same (IsDs.same (Same.upd hl) _ _ h2) hl)⟩
    · cases e⟩
theorem calld_tuple : CallD X (.type "tuple") gTuple := ⟨_, call_tuple_of, fun xs z us H Q e h q => by
  match xs, e, h with
  | [.list ds], e, h =>
    simp only [gTuple] at e
    split at e
    · rename_i hn
      cases e
      obtain ⟨u, rfl, hu⟩ := isDs_one h
      obtain ⟨a, vs, rfl, h1, h2⟩ := of_isD_lst hu
      exact ⟨a, vs, rfl, .inl ⟨h1, fun l hl => q _ _ (Same.upd hl) (Fresh.tup hn (SqT.of upd_same) (IsDs.same (Same.upd hl) _ _ h2))⟩⟩
    · cases e
  | [.tuple ds], e, h =>
    simp only [gTuple] at e
    split at e
    · rename_i hn
      cases e
      obtain ⟨u, rfl, hu⟩ := isDs_one h
      obtain ⟨a, vs, rfl, h1, h2⟩ := of_isD_tup hu
      exact ⟨a, vs, rfl, .inr ⟨h1, q _ H (Same.refl H) (Fresh.imm (by rw [nol]; exact hn) hu)⟩⟩
    · cases e⟩
/-! ### isinstance(x, T), T a built-in type -/
def tyN : PyData → String
  | .none => "NoneType"
  | .bool _ => "bool"
  | .int _ => "int"
  | .str _ => "str"
  | .list _ => "list"
  | .tuple _ => "tuple"
  | .dict _ => "dict"
theorem kit_tab (K : PySem.W.Frag) : ∀ n ∈ ["int", "bool", "str", "list", "tuple", "dict"], ∀ d : PyData, PySem.W.kitOne K (.type (tyN d)) (.type n) = some (isTy n d) := by
  intro n hn d
  simp only [List.mem_cons, List.mem_nil_iff, or_false] at hn
  rcases hn with rfl | rfl | rfl | rfl | rfl | rfl <;> cases d <;> first | rfl | (unfold PySem.W.kitOne PySem.W.kitCls; decide +kernel)
theorem call_isiD : CallR X (.builtin "isinstance") (fun xs H Q => ∃ x d n, xs = [x, .ty n] ∧ IsD X.K H d x ∧ n ∈ ["int", "bool", "str", "list", "tuple", "dict"] ∧ Q (.bl (isTy n d)) H) := by
  intro pins s σ H xs us Q I r h
  obtain ⟨x, d, n, rfl, hd, hn, q⟩ := h
  obtain ⟨u, w, rfl, ru, rw'⟩ := r.two
  cases (show w = Value.type n from rw')
  have e := kit_tab X.K n hn d
  have fin : ∀ tk, EP X pins σ Q (.bool (isTy n d)) { s with toks := tk } := fun tk => ⟨.bl _, H, I.tok tk, rfl, q⟩
  cases d with
  | none => have := of_isD_non hd; subst this; cases (show u = Value.none from ru); exact PySem.W.kia_one PySem.W.kitx_none I.kIn True.intro e (fun z => nomatch z) fin
  | bool y => have := of_isD_bl hd; subst this; cases (show u = Value.bool y from ru); exact PySem.W.kia_one PySem.W.kitx_bool I.kIn True.intro e (fun z => nomatch z) fin
  | int i => have := of_isD_int hd; subst this; obtain ⟨t, q⟩ := (show ∃ t, u = Value.int i t from ru); cases q; exact PySem.W.kia_one PySem.W.kitx_int I.kIn True.intro e (fun z => nomatch z) fin
  | str y => have := of_isD_str hd; subst this; obtain ⟨t, q⟩ := (show ∃ t, u = Value.str y t from ru); cases q; exact PySem.W.kia_one PySem.W.kitx_str I.kIn True.intro e (fun z => nomatch z) fin
  | list ds =>
    obtain ⟨a, vs, rfl, h1, _⟩ := of_isD_lst hd
    cases (show u = Value.ref a from ru)
    obtain ⟨its, rv, ⟨o, n, h1, hc, _, hd⟩, _⟩ := I.list h1
    exact PySem.W.kia_one PySem.W.kitx_list I.kIn ⟨_, h1, hc⟩ e (fun z => nomatch z) fin
  | tuple ds =>
    obtain ⟨a, vs, rfl, h1, _⟩ := of_isD_tup hd
    cases (show u = Value.ref a from ru)
    obtain ⟨its, rv, ⟨o, h1, hc, n, hd⟩, _⟩ := I.tuple h1
    exact PySem.W.kia_one PySem.W.kitx_tuple I.kIn ⟨o, h1, hc⟩ e (fun z => nomatch z) fin
  | dict kvs =>
    obtain ⟨a, ks, rfl, h1, _⟩ := of_isD_dct hd
    cases (show u = Value.ref a from ru)
    obtain ⟨⟨_, _, _, _, o, es, ep, h1, hc, _⟩, _⟩ := h1.ok I.hok
    exact PySem.W.kia_one PySem.W.kitx_dict I.kIn ⟨o, h1, hc.1⟩ e (fun z => nomatch z) fin
theorem de_isi {n : String} {x : Str} {a : Expr} {fa : EF} {p p2 : Pos} (hn : n ∈ ["int", "bool", "str", "list", "tuple", "dict"]) (hg : Gl X "isinstance") (hm : X.mg "isinstance" = none) (ha : DE X K Ew a fa) (ht : PE X (.Name x p2) (tC (.ty n))) (hK : X.K = K := by rfl)
    (he : starEach [a, .Name x p2] X.env = (false, eval a X.env) :: starEach [.Name x p2] X.env := by rfl) (he2 : starEach [.Name x p2] X.env = (false, eval (.Name x p2) X.env) :: starEach [] X.env := by rfl) (hpl : (backTo pos (starEach [.Name x p2] X.env)).any (·.1) = false := by rfl) :
    DE X K Ew (.Call (.Name "isinstance" p) [a, .Name x p2] [] pos) (eIsi n fa) := (pe_callB call_isiD hg hm PyProof.Rows.boot_isinstance (pa_cons ha (pa_cons ht pa_nil he2) he) (by decide) (by decide) he hpl).imp fun σ H Q q => by
  obtain ⟨B, φ, Γ, r, q⟩ := q
  refine ⟨B, φ, Γ, r, (q.bind r).mono fun u H1 s1 ⟨k, d, e1, v1, r1, _, q1⟩ => ?_⟩
  refine ⟨u, d, n, rfl, by rw [hK]; exact v1.toD r1.bs, hn, ?_⟩
  rcases q1 with ⟨k, d', e, q1⟩ | ⟨c, e, q1⟩
  · cases e; exact q1 _ H1 s1 (VR.imm rfl isD_bl [])
  · cases e
/-! ### methods of a list at a name -/
theorem Rep.own {B H : Hp} {φ : Nat → List Addr} {Γ : DEnv} {σ : St} (r : Rep K B φ Γ σ H) {i : Nat} {d : PyData} (h : Γ[i]? = some (some (true, d))) : ∃ v, σ[i]? = some (some v) ∧ IsT K H d v (φ i) := by
  obtain ⟨v, h1, h2⟩ := r.sl i true d h
  rw [if_pos rfl] at h2
  exact ⟨v, h1, h2⟩
/-- the own object at l changes -/
theorem Rep.chg {B H : Hp} {φ : Nat → List Addr} {Γ : DEnv} {σ : St} {i : Nat} {l : Addr} {o o' : HO} {d : PyData} {v : V} {as : List Addr} (r : Rep K B φ Γ σ H) (hi : l ∈ φ i) (hl : H l = some o) (hm : isMu o) (hv : σ[i]? = some (some v))
    (ht : IsT K (upd H l o') d v as) (hnd : as.Nodup) (hs : ∀ a ∈ as, a ∈ φ i ∨ (B a = none ∧ ∀ j, a ∉ φ j)) (hm' : isMu o') : Rep K B (fun j => if j = i then as else φ j) (Γ.set i (some (true, d))) σ (upd H l o') := by
  have hB : B l = none := (r.nb i l hi).1
  have hn : ∀ j, j ≠ i → l ∉ φ j := fun j hj z => r.dj j i hj l z hi
  have r1 : Rep K B φ (Γ.set i none) σ (upd H l o') := {
    bs := r.bs.upd' hB
    len := by rw [List.length_set]; exact r.len
    sl := fun j o d' e => by
      by_cases hj : j = i
      · subst hj
        by_cases hlt : j < Γ.length
        · rw [List.getElem?_set_self hlt] at e; cases e
        · rw [List.getElem?_eq_none (by rw [List.length_set]; omega)] at e; cases e
      · rw [List.getElem?_set_ne (Ne.symm hj)] at e
        obtain ⟨w, h1, h2⟩ := r.sl j o d' e
        refine ⟨w, h1, ?_⟩
        cases o with
        | true => rw [if_pos rfl] at h2 ⊢; exact IsT.upd hl hm _ _ _ (hn j hj) h2
        | false => rw [if_neg Bool.false_ne_true] at h2 ⊢; exact h2
    nd := r.nd
    nb := fun j a ha => by
      refine ⟨(r.nb j a ha).1, ?_⟩
      by_cases hal : a = l
      · subst hal; exact ⟨o', upd_same, hm'⟩
      · obtain ⟨o2, e2, m2⟩ := (r.nb j a ha).2
        exact ⟨o2, by rw [upd_ne hal]; exact e2, m2⟩
    dj := r.dj }
  have r2 := r1.put i ht hnd fun a ha => by
    rcases hs a ha with z | z
    · exact ⟨(r.nb i a z).1, fun j hj hz => r.dj j i hj a hz z⟩
    · exact ⟨z.1, fun j _ => z.2 j⟩
  rw [List.set_set] at r2
  have e : σ.set i (some v) = σ := by
    apply List.ext_getElem?
    intro j
    by_cases hj : j = i
    · subst hj
      have hlt : j < σ.length := (List.getElem?_eq_some_iff.mp hv).1
      rw [List.getElem?_set_self hlt, hv]
    · rw [List.getElem?_set_ne (Ne.symm hj)]
  rw [e] at r2
  exact r2
variable {o e : Expr} {fe : EF} {apos cpos : Pos}
theorem ds_app {i : Nat} (ho : PE X o (tVar i)) (he : DE X K Ew e fe) (hK : X.K = K := by rfl)
    (hbase : attributeBase o "append" X.env (eval o X.env) = eval o X.env := by rfl)
    (hfew : ((backTo cpos (starEach [e] X.env)).all (fun x => !x.1) && (backToKw cpos (keywordEach [] X.env)).all (fun x => x.1.isSome)
      && decide (([e] : List Expr).length + ([] : List Keyword).length + (if ([] : List Keyword).isEmpty then 0 else 1) < 30)) = true := by rfl)
    (hline : (apos.endLine == cpos.line) = true := by rfl) (hs : starEach [e] X.env = (false, eval e X.env) :: starEach [] X.env := by rfl) (hplain : (backTo cpos (starEach [] X.env)).any (·.1) = false := by rfl)
    (hsw : swapsWith (.Call (.Attribute o "append" apos) [e] [] cpos) none pos.line X.env = pure false := by rfl) :
    DS X K Ew (.Expr (.Call (.Attribute o "append" apos) [e] [] cpos) pos) (sApp i fe) :=
  (ps_expr (pe_bm PySem.F.plainAttrs_list PySem.F.slot_list_append PySem.F.type_list_append mt_append ho (pa_cons he pa_nil hs) hbase hfew hline hs hplain) hsw).imp fun D σ H q => by
    obtain ⟨B, φ, Γ, r, q⟩ := q
    unfold sApp at q
    match hg : Γ[i]?, q with
    | some (some (true, .list xs)), q =>
      obtain ⟨v, hv, hT⟩ := r.own hg
      obtain ⟨l, vs, bs, rfl, hl, ht, hφ⟩ := of_isT_lst hT
      refine ⟨.ref l, hv, .inl ⟨rfl, vs, SqL.of hl⟩, B, φ, Γ, r, ?_⟩
      match hm : fe Γ, q with
      | some (.ok (k, d)), q =>
        refine .inl ⟨k, d, rfl, fun y H1 s1 hy => ?_⟩
        have r1 := r.same s1
        have hl1 := s1 _ _ hl
        have hlen : vs.length = xs.length := isTs_length ht
        have av := hy.av r
        have hli : l ∈ φ i := by rw [hφ]; exact List.mem_cons_self
        match k, q, av with
        | .fr [], q, av =>
          by_cases hz : xs.length < sizeLine
          · replace q : RunS K Ew B (mret (.nx (Γ.set i (some (true, .list (xs ++ [d])))))) D := by simpa only [mbind, if_pos hz] using q
            refine ⟨l, vs, y, rfl, rfl, hl1, by omega, ?_⟩
            obtain ⟨as, h1, h2, h3⟩ := av
            have h3' : ∀ a ∈ as, B a = none ∧ ∀ j, a ∉ φ j := fun a ha => by
              rcases h3 a ha with ⟨_, z, _⟩ | z
              · cases z
              · exact z
            have lna : l ∉ as := fun z => (h3' l z).2 i hli
            have hnd := r.nd i
            rw [hφ] at hnd
            have hnb : l ∉ bs := (List.nodup_cons.mp hnd).1
            refine q B _ σ _ (Same.refl B) (r1.chg (d := .list (xs ++ [d])) (as := l :: (bs ++ as)) hli hl1 trivial hv ?_ ?_ ?_ trivial)
            · exact isT_lst upd_same (isTs_append (IsTs.upd hl1 trivial _ _ _ hnb (IsTs.same s1 _ _ _ ht)) (by
                have := isTs_cons (IsT.upd (o' := .lst (vs ++ [y])) hl1 trivial _ _ _ lna h1) (isTs_nil (K := K))
                rwa [List.append_nil] at this))
            · refine List.nodup_cons.mpr ⟨fun z => ?_, List.nodup_append.mpr ⟨(List.nodup_cons.mp hnd).2, h2, fun a ha b hb e => ?_⟩⟩
              · rcases List.mem_append.mp z with z | z
                · exact hnb z
                · exact lna z
              · subst e
                exact (h3' a hb).2 i (by rw [hφ]; exact List.mem_cons_of_mem _ ha)
            · intro a ha
              rcases List.mem_cons.mp ha with rfl | ha
              · exact .inl hli
              · rcases List.mem_append.mp ha with ha | ha
                · exact .inl (by rw [hφ]; exact List.mem_cons_of_mem _ ha)
                · exact .inr (h3' a ha)
          · simp only [mbind, if_neg hz] at q
            exact False.elim q
        | .fr [j], q, av =>
          by_cases hz : xs.length < sizeLine ∧ i ≠ j
          · replace q : RunS K Ew B (mret (.nx ((Γ.set j none).set i (some (true, .list (xs ++ [d])))))) D := by simpa only [mbind, if_pos hz] using q
            refine ⟨l, vs, y, rfl, rfl, hl1, by omega, ?_⟩
            obtain ⟨as, h1, h2, h3⟩ := av
            have h3' : ∀ a ∈ as, a ∈ φ j ∨ (B a = none ∧ ∀ j', a ∉ φ j') := fun a ha => by
              rcases h3 a ha with ⟨j', z, z2⟩ | z
              · rw [List.mem_singleton.mp z] at z2; exact .inl z2
              · exact .inr z
            have lna : l ∉ as := fun z => by
              rcases h3' l z with z | z
              · exact r.dj i j hz.2 l hli z
              · exact z.2 i hli
            have hnd := r.nd i
            rw [hφ] at hnd
            have hnb : l ∉ bs := (List.nodup_cons.mp hnd).1
            have r2 := r1.kill j
            have hdi : drp φ j i = φ i := if_neg hz.2
            refine q B _ σ _ (Same.refl B) (r2.chg (d := .list (xs ++ [d])) (as := l :: (bs ++ as)) (by rw [hdi]; exact hli) hl1 trivial hv ?_ ?_ ?_ trivial)
            · exact isT_lst upd_same (isTs_append (IsTs.upd hl1 trivial _ _ _ hnb (IsTs.same s1 _ _ _ ht)) (by
                have := isTs_cons (IsT.upd (o' := .lst (vs ++ [y])) hl1 trivial _ _ _ lna h1) (isTs_nil (K := K))
                rwa [List.append_nil] at this))
            · refine List.nodup_cons.mpr ⟨fun z => ?_, List.nodup_append.mpr ⟨(List.nodup_cons.mp hnd).2, h2, fun a ha b hb e => ?_⟩⟩
              · rcases List.mem_append.mp z with z | z
                · exact hnb z
                · exact lna z
              · subst e
                have hai : a ∈ φ i := by rw [hφ]; exact List.mem_cons_of_mem _ ha
                rcases h3' a hb with z | z
                · exact r.dj i j hz.2 a hai z
                · exact z.2 i hai
            · intro a ha
              rw [hdi]
              rcases List.mem_cons.mp ha with rfl | ha
              · exact .inl hli
              · rcases List.mem_append.mp ha with ha | ha
                · exact .inl (by rw [hφ]; exact List.mem_cons_of_mem _ ha)
                · rcases h3' a ha with z | z
                  · refine .inr ⟨(r.nb j a z).1, fun j' hj' => ?_⟩
                    obtain ⟨n1, n2⟩ := drp_mem hj'
                    exact r.dj j' j n1 a n2 z
                  · exact .inr ⟨z.1, fun j' hj' => z.2 j' (drp_mem hj').2⟩
          · simp only [mbind, if_neg hz] at q
            exact False.elim q
        | .fr (_ :: _ :: _), q, _ => exact False.elim q
        | .base, q, _ => exact False.elim q
        | .any, q, _ => exact False.elim q
      | some (.ex c), q => exact .inr ⟨c, rfl, q⟩
      | none, q => exact False.elim q
    | some (some (true, .none)), q => exact False.elim q
    | some (some (true, .bool _)), q => exact False.elim q
    | some (some (true, .int _)), q => exact False.elim q
    | some (some (true, .str _)), q => exact False.elim q
    | some (some (true, .tuple _)), q => exact False.elim q
    | some (some (true, .dict _)), q => exact False.elim q
    | some (some (false, _)), q => exact False.elim q
    | some none, q => exact False.elim q
    | none, q => exact False.elim q
end
end L2
set_option Elab.async false
set_option linter.all false
set_option maxRecDepth 100000
namespace L2
open PySem PySem.Spec PyProof.Rows Y
/-! ### a comprehension by data -/
section
variable {K : PySem.W.Frag} {H H' : Hp}
theorem SqT.mv {a : Addr} {xs : List V} (e : ∀ a o, H a = some o → ¬ isMu o → H' a = some o) (h : SqT K H a xs) : SqT K H' a xs := SqT.toB e h
mutual
theorem IsT.mv (e : ∀ a o, H a = some o → ¬ isMu o → H' a = some o) : ∀ (d : PyData) (v : V) (as : List Addr), (∀ a ∈ as, ∀ o, H a = some o → H' a = some o) → IsT K H d v as → IsT K H' d v as
  | .none, v, as, _, h => by simpa only [IsT] using h
  | .bool b, v, as, _, h => by simpa only [IsT] using h
  | .int i, v, as, _, h => by simpa only [IsT] using h
  | .str x, v, as, _, h => by simpa only [IsT] using h
  | .list xs, v, as, m, h => by
    simp only [IsT] at h ⊢
    obtain ⟨a, vs, bs, e1, h1, h2, rfl⟩ := h
    exact ⟨a, vs, bs, e1, m a List.mem_cons_self _ h1, IsTs.mv e xs vs bs (fun b hb => m b (List.mem_cons_of_mem _ hb)) h2, rfl⟩
  | .tuple xs, v, as, m, h => by
    simp only [IsT] at h ⊢
    obtain ⟨a, vs, e1, h1, h2⟩ := h
    exact ⟨a, vs, e1, h1.mv e, IsTs.mv e xs vs as m h2⟩
  | .dict kvs, v, as, m, h => by
    simp only [IsT] at h ⊢
    obtain ⟨a, ks, bs, e1, h1, h2, rfl⟩ := h
    exact ⟨a, ks, bs, e1, m a List.mem_cons_self _ h1, IsTk.mv e kvs ks bs (fun b hb => m b (List.mem_cons_of_mem _ hb)) h2, rfl⟩
theorem IsTs.mv (e : ∀ a o, H a = some o → ¬ isMu o → H' a = some o) : ∀ (ds : List PyData) (vs : List V) (as : List Addr), (∀ a ∈ as, ∀ o, H a = some o → H' a = some o) → IsTs K H ds vs as → IsTs K H' ds vs as
  | [], vs, as, _, h => by simpa only [IsTs] using h
  | d :: ds, vs, as, m, h => by
    simp only [IsTs] at h ⊢
    obtain ⟨v, r, a1, a2, e1, rfl, h1, h2⟩ := h
    exact ⟨v, r, a1, a2, e1, rfl, IsT.mv e d v a1 (fun b hb => m b (List.mem_append_left _ hb)) h1, IsTs.mv e ds r a2 (fun b hb => m b (List.mem_append_right _ hb)) h2⟩
theorem IsTk.mv (e : ∀ a o, H a = some o → ¬ isMu o → H' a = some o) : ∀ (ds : List (PyData × PyData)) (ks : List (PyData × V × V)) (as : List Addr), (∀ a ∈ as, ∀ o, H a = some o → H' a = some o) → IsTk K H ds ks as → IsTk K H' ds ks as
  | [], ks, as, _, h => by simpa only [IsTk] using h
  | (k, d) :: r, ks, as, m, h => by
    simp only [IsTk] at h ⊢
    obtain ⟨kv, v, q, a1, a2, e1, rfl, h1, h2, h3⟩ := h
    exact ⟨kv, v, q, a1, a2, e1, rfl, IsT.mv e k kv [] (fun b hb => by cases hb) h1, IsT.mv e d v a1 (fun b hb => m b (List.mem_append_left _ hb)) h2, IsTk.mv e r q a2 (fun b hb => m b (List.mem_append_right _ hb)) h3⟩
end
end
open Classical in
noncomputable def delH (D : Addr) (H : Hp) : Hp := fun a => if a = D then none else H a
theorem delH_ne {D a : Addr} {H : Hp} (h : a ≠ D) : delH D H a = H a := by unfold delH; rw [if_neg h]
theorem delH_self {D : Addr} {H : Hp} : delH D H D = none := by unfold delH; rw [if_pos rfl]
theorem delH_same {D : Addr} {H : Hp} : Same (delH D H) H := fun a o e => by
  by_cases h : a = D
  · subst h; rw [delH_self] at e; cases e
  · rw [delH_ne h] at e; exact e
theorem delH_mono {D : Addr} {H H' : Hp} (s : Same H H') : Same (delH D H) (delH D H') := fun a o e => by
  by_cases h : a = D
  · subst h; rw [delH_self] at e; cases e
  · rw [delH_ne h] at e ⊢; exact s a o e
theorem same_delH {D : Addr} {H0 H : Hp} (h : H0 D = none) (s : Same H0 H) : Same H0 (delH D H) := fun a o e => by
  rw [delH_ne (ne_of_none e h)]; exact s a o e
theorem delH_upd {D : Addr} {H : Hp} {o : HO} : delH D (upd H D o) = delH D H := by
  funext a
  by_cases h : a = D
  · subst h; rw [delH_self, delH_self]
  · rw [delH_ne h, delH_ne h, upd_ne h]
theorem kdEl_snoc {xs : List (Kd × PyData)} {x : Kd × PyData} (h : kdEl (xs ++ [x]) = some (.fr [])) : kdEl xs = some (.fr []) ∧ x.1 = .fr [] := by
  induction xs with
  | nil =>
    obtain ⟨k, d⟩ := x
    match k, h with
    | .fr [], h => exact ⟨rfl, rfl⟩
    | .fr (_ :: _), h => simp [kdEl] at h
    | .base, h => simp [kdEl] at h
    | .any, h => simp [kdEl] at h
  | cons y xs ih =>
    obtain ⟨k, d⟩ := y
    match k, h with
    | .fr [], h =>
      simp only [List.cons_append, kdEl] at h ⊢
      exact ih h
    | .fr (_ :: _), h => simp [kdEl] at h
    | .base, h =>
      simp only [List.cons_append, kdEl] at h
      cases e : kdEl (xs ++ [x]) with
      | none => rw [e] at h; cases h
      | some k => rw [e] at h; cases h
    | .any, h => simp [kdEl] at h
theorem kdEl_mem {xs : List (Kd × PyData)} {k : Kd} (h : kdEl xs = some k) : (k = .fr [] ∨ k = .any) ∧ ∀ x ∈ xs, x.1 = .fr [] ∨ x.1 = .base := by
  induction xs generalizing k with
  | nil => cases h; exact ⟨.inl rfl, fun x hx => by cases hx⟩
  | cons y xs ih =>
    obtain ⟨k', d⟩ := y
    match k', h with
    | .fr [], h =>
      simp only [kdEl] at h
      obtain ⟨h1, h2⟩ := ih h
      exact ⟨h1, fun x hx => by rcases List.mem_cons.mp hx with rfl | hx; exact .inl rfl; exact h2 x hx⟩
    | .fr (_ :: _), h => simp [kdEl] at h
    | .base, h =>
      simp only [kdEl] at h
      cases e : kdEl xs with
      | none => rw [e] at h; cases h
      | some k2 =>
        rw [e] at h; cases h
        obtain ⟨h1, h2⟩ := ih e
        exact ⟨.inr rfl, fun x hx => by rcases List.mem_cons.mp hx with rfl | hx; exact .inr rfl; exact h2 x hx⟩
    | .any, h => simp [kdEl] at h
abbrev Ew0 : Str → Hp → Prop := fun _ _ => False
section
variable {X : Cx} {K : PySem.W.Frag} {Ew : Str → Hp → Prop} {pos px : Pos} {scope : Scope} {v : Str} {F : List Str} {ix : List Nat} {elt iter : Expr} {ifs : List Expr} {it : IF} {ft : TF} {fe : EF}
theorem dts_nil {Y : Cx} : PTs Y [] (tDT K Ew0 tYesF) := fun pins s σ H Q I q => by
  obtain ⟨B, φ, Γ, r, q⟩ := q
  rcases q with ⟨b, e, q⟩ | ⟨c, e, q⟩
  · cases e; exact pts_nil pins s σ H Q I (q H (Same.refl H))
  · cases e
theorem dts_one {Y : Cx} {c : Expr} (h : DT Y K Ew0 c ft) : PTs Y [c] (tDT K Ew0 ft) := pts_one h
theorem rep_comp {B H H1 H' : Hp} {φ : Nat → List Addr} {Γ : DEnv} {σ : St} {D : Addr} {d : PyData} {x : V} (r : Rep K B φ Γ σ H) (s0 : Same H H1) (hD : H1 D = none) (s1 : Same H1 H') (hx : IsD K (delH D H') d x) :
    Rep K (delH D H') (fun _ => []) (some (false, d) :: capD Γ ix) (some x :: impS σ ix) H' where
  bs := delH_same
  len := by unfold capD impS; simp
  sl := fun i o d' e => by
    cases i with
    | zero =>
      have e' : some (some (false, d)) = some (some (o, d')) := e
      cases e'
      exact ⟨x, rfl, by rw [if_neg Bool.false_ne_true]; exact hx⟩
    | succ i =>
      have e' : (capD Γ ix)[i]? = some (some (o, d')) := e
      unfold capD at e'
      rw [List.getElem?_map] at e'
      cases hk : ix[i]? with
      | none => rw [hk] at e'; cases e'
      | some k =>
        rw [hk] at e'
        have e2 : (Γ[k]?).join.map (fun p => (false, p.2)) = some (o, d') := Option.some.inj e'
        cases hg : Γ[k]? with
        | none => rw [hg] at e2; cases e2
        | some s =>
          rw [hg] at e2
          cases s with
          | none => cases e2
          | some p =>
            obtain ⟨o', d2⟩ := p
            cases e2
            obtain ⟨w, h1, h2⟩ := r.sl k o' d2 hg
            have hw : IsD K H d2 w := by
              cases o' with
              | true => rw [if_pos rfl] at h2; exact IsT.toD _ _ _ h2
              | false => rw [if_neg Bool.false_ne_true] at h2; exact IsD.same r.bs _ _ h2
            refine ⟨w, ?_, ?_⟩
            · show (impS σ ix)[i]? = _
              unfold impS
              rw [List.getElem?_map, hk, Option.map_some, h1]; rfl
            · rw [if_neg Bool.false_ne_true]
              exact IsD.same (same_delH hD s1) _ _ (IsD.same s0 _ _ hw)
  nd := fun _ => List.nodup_nil
  nb := fun _ a ha => by cases ha
  dj := fun _ _ _ a ha => by cases ha
theorem tD_comp {σ : St} {H : Hp} {Q : VK} (q : tD K Ew (eComp it ix ft fe) σ H Q) : tComp (tI K Ew it) ix (tDT K Ew0 ft) (tD K Ew0 fe) σ H Q := by
    obtain ⟨B, φ, Γ, r, q⟩ := q
    refine ⟨B, φ, Γ, r, ?_⟩
    replace q : Runs K Ew B φ H (mbind (it Γ) fun x => mbind (mo (compD ft fe (capD Γ ix) x.2)) fun ys => mbind (mo (kdEl ys)) fun k => if x.2.length ≤ 100000 then mret (k, .list (ys.map Prod.snd)) else none) Q := q
    match hm : it Γ, q with
    | some (.ok (k0, ds)), q =>
      intro J H1 B1 ψ s0 sB r1 io D hD
      replace q : Runs K Ew B φ H (mbind (mo (compD ft fe (capD Γ ix) ds)) fun ys => mbind (mo (kdEl ys)) fun k => if ds.length ≤ 100000 then mret (k, .list (ys.map Prod.snd)) else none) Q := q
      match hys : compD ft fe (capD Γ ix) ds, q with
      | none, q => rcases q with ⟨k, d, e, _⟩ | ⟨c, e, _⟩ <;> cases e
      | some ys, q =>
        replace q : Runs K Ew B φ H (mbind (mo (kdEl ys)) fun k => if ds.length ≤ 100000 then mret (k, .list (ys.map Prod.snd)) else none) Q := q
        match hkk : kdEl ys, q with
        | none, q => rcases q with ⟨k, d, e, _⟩ | ⟨c, e, _⟩ <;> cases e
        | some kk, q =>
          replace q : Runs K Ew B φ H (if ds.length ≤ 100000 then mret (kk, .list (ys.map Prod.snd)) else none) Q := q
          have hlen : ds.length ≤ 100000 := Decidable.byContradiction fun hn => by
            rw [if_neg hn] at q
            rcases q with ⟨k, d, e, _⟩ | ⟨c, e, _⟩ <;> cases e
          rw [if_pos hlen] at q
          have q : ∀ v H', Same H H' → VR K B φ H H' kk (.list (ys.map Prod.snd)) v → Q v H' := by
            rcases q with ⟨k, d, e, q⟩ | ⟨c, e, _⟩
            · cases e; exact q
            · cases e
          obtain ⟨hk1, hk2⟩ := kdEl_mem hkk
          refine ⟨fun i m zs Hc => m = ds.length - i ∧ i ≤ ds.length ∧ Same H1 Hc ∧ Hc D = some (.lst zs) ∧ zs.length ≤ i ∧ ∃ done rest, compD ft fe (capD Γ ix) (ds.drop i) = some rest ∧ ys = done ++ rest ∧
            IsDs K (delH D Hc) (done.map Prod.snd) zs ∧ (kdEl done = some (.fr []) → ∃ as, IsTs K (delH D Hc) (done.map Prod.snd) zs as ∧ as.Nodup ∧ ∀ a ∈ as, H1 a = none),
            ⟨ds.length, by simp, Nat.zero_le _, Same.upd hD, upd_same, Nat.zero_le _, [], ys, by simpa using hys, rfl, isDs_nil, fun _ => ⟨[], isTs_nil, List.nodup_nil, fun a ha => by cases ha⟩⟩, ?_⟩
          rintro i m zs Hc ⟨rfl, hi2, sc, hDc, hzl, done, rest, hrest, hysr, hel, hfr⟩
          refine ⟨hDc, ?_⟩
          by_cases hlt : i < ds.length
          · refine .inr ⟨io.go i Hc hlt (r1.bs.trans sc), fun x H' hy => ?_⟩
            obtain ⟨s3, d, hd, hitem⟩ := io.yl i Hc x H' hlt (r1.bs.trans sc) hy
            have sc' := sc.trans s3
            have hB1D : B1 D = none := by
              cases e : B1 D with
              | none => rfl
              | some o => have := r1.bs _ _ e; rw [hD] at this; cases this
            have hx : IsD K (delH D H') d x := hitem _ (same_delH hB1D (r1.bs.trans sc')) fun a o e1 e2 => by
              rw [delH_ne]
              · exact e2
              · rintro rfl; rw [hDc] at e1; cases e1
            have rin := rep_comp (ix := ix) r s0 hD sc' hx
            have ed : ds.drop i = d :: ds.drop (i + 1) := by
              rw [List.drop_eq_getElem_cons hlt]
              congr 1
              rw [List.getElem?_eq_getElem hlt] at hd
              exact Option.some.inj hd
            rw [ed] at hrest
            simp only [compD] at hrest
            refine ⟨delH D H', fun _ => [], some (false, d) :: capD Γ ix, rin, ?_⟩
            match hft : ft (some (false, d) :: capD Γ ix), hrest with
            | some (.ok true), hrest =>
              refine .inl ⟨true, rfl, fun H3 s4 => ?_⟩
              show (if true = true then _ else _)
              rw [if_pos rfl]
              refine ⟨delH D H', fun _ => [], some (false, d) :: capD Γ ix, rin.same s4, ?_⟩
              match hfe : fe (some (false, d) :: capD Γ ix), hrest with
              | some (.ok (k, d2)), hrest =>
                refine .inl ⟨k, d2, rfl, fun w H4 s5 hv => ?_⟩
                have hDH' : H' D = some (.lst zs) := s3 _ _ hDc
                have hD3 : H3 D = some (.lst zs) := s4 _ _ hDH'
                have hD4 : H4 D = some (.lst zs) := s5 _ _ hD3
                replace hrest : (compD ft fe (capD Γ ix) (ds.drop (i + 1))).map ((k, d2) :: ·) = some rest := hrest
                cases hr2 : compD ft fe (capD Γ ix) (ds.drop (i + 1)) with
                | none => rw [hr2] at hrest; cases hrest
                | some rest2 =>
                  rw [hr2] at hrest
                  have hrr : (k, d2) :: rest2 = rest := Option.some.inj hrest
                  have hmem : (k, d2) ∈ ys := by rw [hysr, ← hrr]; exact List.mem_append_right _ List.mem_cons_self
                  have ssc : Same (delH D Hc) (delH D H4) := delH_mono ((s3.trans s4).trans s5)
                  have sH' : Same (delH D H') (delH D H4) := delH_mono (s4.trans s5)
                  have mvD : ∀ {as : List Addr}, (∀ a ∈ as, H3 a = none) → IsT K H4 d2 w as → IsT K (delH D H4) d2 w as := fun {as} hn hT => by
                    refine IsT.mv (fun a o e n => ?_) _ _ _ (fun a ha o e => ?_) hT
                    · rw [delH_ne]
                      · exact e
                      · rintro rfl; rw [hD4] at e; cases e; exact n trivial
                    · rw [delH_ne]
                      · exact e
                      · rintro rfl; rw [hn _ ha] at hD3; cases hD3
                  have hfresh : ∀ {l : List Nat}, VR K (delH D H') (fun _ => []) H3 H4 (.fr l) d2 w → ∃ as, IsT K H4 d2 w as ∧ as.Nodup ∧ ∀ a ∈ as, H3 a = none := fun {l} ⟨as, h1, h2, h3⟩ => ⟨as, h1, h2, fun a ha => by
                    rcases h3 a ha with ⟨_, _, z⟩ | z
                    · cases z
                    · exact z⟩
                  refine ⟨hD4, Nat.lt_of_le_of_lt (show zs.length ≤ 100000 by omega) (by decide), ds.length - (i + 1), by omega, rfl, hlt, (sc'.trans (s4.trans s5)).upd' hD, upd_same, by rw [List.length_append, List.length_singleton]; omega, done ++ [(k, d2)], rest2, hr2, by rw [hysr, ← hrr, List.append_assoc]; rfl, ?_, fun hk => ?_⟩
                  · rw [delH_upd, List.map_append]
                    refine isDs_append (IsDs.same ssc _ _ hel) (isDs_cons ?_ isDs_nil)
                    rcases hk2 _ hmem with e | e
                    · have e' : k = .fr [] := e
                      subst e'
                      obtain ⟨as, h1, h2, h3⟩ := hfresh hv
                      exact IsT.toD _ _ _ (mvD h3 h1)
                    · have e' : k = .base := e
                      subst e'
                      exact IsD.same sH' _ _ hv
                  · obtain ⟨hk3, hk4⟩ := kdEl_snoc hk
                    have e' : k = .fr [] := hk4
                    subst e'
                    obtain ⟨as, h1, h2, h3⟩ := hfresh hv
                    obtain ⟨bs, g1, g2, g3⟩ := hfr hk3
                    rw [delH_upd, List.map_append]
                    refine ⟨bs ++ as, isTs_append (IsTs.same ssc _ _ _ g1) ?_, List.nodup_append.mpr ⟨g2, h2, fun a ha b hb e => ?_⟩, fun a ha => ?_⟩
                    · have := isTs_cons (mvD h3 h1) (isTs_nil (K := K))
                      rwa [List.append_nil] at this
                    · subst e
                      obtain ⟨o, eo, _⟩ := IsTs.live _ _ _ g1 a ha
                      have := s4 _ _ (s3 _ _ (delH_same _ _ eo))
                      rw [h3 a hb] at this; cases this
                    · rcases List.mem_append.mp ha with ha | ha
                      · exact g3 a ha
                      · exact (sc'.trans s4).free (h3 a ha)
              | some (.ex c), hrest => cases hrest
              | none, hrest => cases hrest
            | some (.ok false), hrest =>
              refine .inl ⟨false, rfl, fun H3 s4 => ?_⟩
              show (if false = true then _ else _)
              rw [if_neg Bool.false_ne_true]
              refine ⟨ds.length - (i + 1), by omega, rfl, hlt, sc'.trans s4, s4 _ _ (s3 _ _ hDc), by omega, done, rest, hrest, hysr, IsDs.same (delH_mono (s3.trans s4)) _ _ hel, fun hk => ?_⟩
              obtain ⟨bs, g1, g2, g3⟩ := hfr hk
              exact ⟨bs, IsTs.same (delH_mono (s3.trans s4)) _ _ _ g1, g2, g3⟩
            | some (.ex c), hrest => cases hrest
            | none, hrest => cases hrest
          · have e : i = ds.length := by omega
            subst e
            refine .inl ⟨io.stop Hc (r1.bs.trans sc), ?_⟩
            rw [List.drop_length] at hrest
            simp only [compD] at hrest
            cases hrest
            rw [List.append_nil] at hysr
            subst hysr
            refine q _ Hc (s0.trans sc) ?_
            rcases hk1 with e | e
            · subst e
              obtain ⟨bs, g1, g2, g3⟩ := hfr hkk
              refine ⟨D :: bs, isT_lst hDc (IsTs.same delH_same _ _ _ g1), List.nodup_cons.mpr ⟨fun z => ?_, g2⟩, fun a ha => .inr ?_⟩
              · obtain ⟨o, eo, _⟩ := IsTs.live _ _ _ g1 D z
                rw [delH_self] at eo; cases eo
              · rcases List.mem_cons.mp ha with rfl | ha
                · exact s0.free hD
                · exact s0.free (g3 a ha)
            · subst e
              exact isD_lst (SqL.of hDc) (IsDs.same delH_same _ _ hel)
    | some (.ex c), q =>
      rcases q with ⟨k, d, e, _⟩ | ⟨c', e, q⟩
      · cases e
      · cases e; exact q
    | none, q => rcases q with ⟨k, d, e, _⟩ | ⟨c, e, _⟩ <;> cases e
theorem de_comp (hc : X.calm = true) (O : CompOk X scope v F ix) (hi : DI X K Ew (.Name v px) iter it)
    (hifs : ∀ cl fp s H C, PTs (cxComp X scope cl (v :: F) fp s H C) ifs (tDT K Ew0 ft)) (helt : ∀ cl fp s H C, DE (cxComp X scope cl (v :: F) fp s H C) K Ew0 elt fe)
    (hs : ∀ x, foldedSetIterable iter X.env x = pure x := by intro _; rfl) : DE X K Ew (.ListComp elt [⟨.Name v px, iter, ifs, 0⟩] scope pos) (eComp it ix ft fe) :=
  (pe_comp hc O hi hifs helt hs).imp fun σ H Q q => tD_comp q
theorem ds_setComp {i : Nat} {x : Str} {py spos : Pos} (hN : X.N.Nodup) (hxi : X.N[i]? = some x) (hx : Loc X.env.scope x) (hc : X.calm = true) (O : CompOk X scope v F ix) (hi : DI X K Ew (.Name v px) iter it)
    (hifs : ∀ cl fp s H C, PTs (cxComp X scope cl (v :: F) fp s H C) ifs (tDT K Ew0 ft)) (helt : ∀ cl fp s H C, DE (cxComp X scope cl (v :: F) fp s H C) K Ew0 elt fe)
    (hsw : swapsWith (.ListComp elt [⟨.Name v px, iter, ifs, 0⟩] scope pos) (some (.Name x py)) spos.line X.env = pure true)
    (hs : ∀ x, foldedSetIterable iter X.env x = pure x := by intro _; rfl) (hf : X.fn x = true ∨ X.env.scope.names.lookup x = some .local := by first | exact .inl rfl | exact .inr rfl | assumption) :
    DS X K Ew (.Assign [.Name x py] (.ListComp elt [⟨.Name v px, iter, ifs, 0⟩] scope pos) spos) (sSet i (eComp it ix ft fe)) :=
  (ps_setComp (i := i) hN hxi hx hc O hi hifs helt hsw hs hf).imp fun D σ H q => tD_comp (tDS_head (g := fun x Γ => mret (.nx (stor Γ i x.1 x.2))) q fun B φ Γ k d v H1 r a q => by
    obtain ⟨B', φ', s', r'⟩ := stor_ok r i a
    exact q B' φ' _ H1 s' r')
end
end L2
set_option Elab.async false
set_option linter.all false
set_option maxRecDepth 100000
namespace L2
open PySem PySem.Spec PyProof.Rows Y
/-! ### tuple(reversed(xs)), list(reversed(xs)) -/
theorem rv_nolen : typeLookup (.type "list_reverseiterator") "__len__" = pure none := by (rw [typeLookup_type, builtinLookup_eq_fast]); (kernel_rfl)
theorem rv_hint : typeLookup (.type "list_reverseiterator") "__length_hint__" = pure (some (.builtin "list_reverseiterator.__length_hint__")) := by (rw [typeLookup_type, builtinLookup_eq_fast]); (kernel_rfl)
section
variable {prog : Program} {w : World} {A : Around} {E : Value → Shared → Prop} {s : Shared} {I : Addr} {fp wr : List Addr} {G : Array GenState → Array GenState → Prop} {n : Nat} {P : Nat → Value → Prop} {St : Nat → Shared → Prop}
theorem collectRev {Q : List Value → Shared → Prop} (W : WalksS prog w A.in1 I fp wr G n P St) (hT : ∀ i s, St i s → s.TypeIs (.ref I) "list_reverseiterator") (st0 : St 0 s) (hfp : ∀ b ∈ fp, b < s.heap.objs.size) (hI : I ∈ fp)
    (hn : n ≤ sizeLine) (hQ : ∀ s' acc, Moved wr G s s' → ItemsOf P acc n → Q acc.toList s') : wpAny (model prog w) A (collect (.ref I)) Q E s := by
  have nS : s.heap.objs.size ∉ fp := fun hm => Nat.lt_irrefl _ (hfp _ hm)
  have nI : s.heap.objs.size ≠ I := fun e => nS (e ▸ hI)
  unfold collect
  refine wpAny_bind (wpAny_runValue (codeAny_builtin F.entry_proto_collect ?_)); rw [Around.under_plainId F.plain_proto_collect _]
  show wpAny _ A.in1 (newList [] >>= fun l => again (.builtin "list.__iadd__" ⟨[l, .ref I], []⟩)) _ _ s
  refine wpAny_bind (wpAny_newObj_type ?_); refine wpAny_pure ⟨plainId_quiet F.plain_list_iadd _, codeAny_builtin F.entry_list_iadd ?_⟩; rw [Around.under_plainId F.plain_list_iadd _]
  have st1 := W.frame 0 s (s.heap.push { cls := .type "list", data := .seq ([] : List Value).toArray }) s.toks st0 (Nat.le_refl _) (fun b _ o e => Heap.get?_push_of_some _ e)
  have new1 : (s.heap.push { cls := .type "list", data := .seq ([] : List Value).toArray }).get? s.heap.objs.size = some { cls := .type "list", data := .seq ([] : List Value).toArray } := (Heap.get?_push_size _ rfl)
  have h1 : Builtin.List.listSameRef (.ref s.heap.objs.size) (.ref I) = false := by (simp [Builtin.List.listSameRef, nI])
  show wpAny _ A.in1 (Builtin.List.listExtendWith (.ref s.heap.objs.size) (.ref I) (.ref s.heap.objs.size)) _ _ _; unfold Builtin.List.listExtendWith
  refine wpAny_bind (wpAny_typeOf (hT 0 _ st1) ?_)
  rw [if_neg (by rw [h1]; decide)]; refine wpAny_bind (W.self 0 _ _ _ st1 ?_); refine wpAny_bind (wpAny_holding ?_); unfold Builtin.List.listLengthHint
  refine wpAny_bind (wpAny_specialOf (hT 0 _ st1) rv_nolen ?_)
  show wpAny _ A.in1 (specialOf (Value.ref I) (Str.ofString "__length_hint__") >>= _) _ _ _; refine wpAny_bind (wpAny_specialOf (hT 0 _ st1) rv_hint ?_)
  generalize hid : ("list_reverseiterator.__length_hint__" : String) = id0
  wp_delta
  rw [show splitId id0 = some ("list_reverseiterator", "__length_hint__") from by subst hid; decide +kernel]
  subst hid
  refine wpAny_bind (wpAny_isInstance (b := true) (hT 0 _ st1) (by rw [isSubtype_type]; kernel_rfl) ?_); refine wpAny_pure ?_; rw [if_neg (by decide)]
  refine wpAny_pure ⟨plainId_quiet F.plain_extend_loop _, codeAny_extend_loopS W hn _ nS _ n 0 _ _ _ rfl (Nat.zero_le _) st1 new1 (ItemsOf.nil P) fun s' acc' c' hm hS' hacc => ?_⟩
  show wpAny _ A (load s.heap.objs.size >>= _) _ _ s'; refine wpAny_bind (wpAny_load hS' ?_)
  exact wpAny_pure (hQ s' acc' (Moved.drop_new (o := { cls := .type "list", data := .seq ([] : List Value).toArray }) (tk := s.toks) hm (Nat.le_refl _)) hacc)
theorem newTupleRev {Q1 : Value → Shared → Prop} (W : WalksS prog w A.in1.in1 I fp wr G n P St) (hT : ∀ i s, St i s → s.TypeIs (.ref I) "list_reverseiterator") (st0 : St 0 s) (hfp : ∀ b ∈ fp, b < s.heap.objs.size) (hI : I ∈ fp)
    (hn : n ≤ sizeLine) (h : ∀ s' acc, Moved wr G s s' → ItemsOf P acc n → Q1 (.ref s'.heap.objs.size) { s' with heap := s'.heap.push { cls := .type "tuple", data := .seq acc } }) :
    codeAny (model prog w) A (.call (.builtin "tuple.__new__") ⟨[.type "tuple", .ref I], []⟩) (wants Q1 E) s := by
  refine codeAny_of_tree ?_
  show wpAny _ A.in1 (do checkBuiltinCall "tuple.__new__" ⟨[.type "tuple", .ref I], []⟩; again (.builtin "tuple.__new__" ⟨[.type "tuple", .ref I], []⟩)) _ _ s; refine wpAny_bind (wpAny_of_eq (F.newCall_tuple_1 _) (wpAny_pure ⟨plainId_quiet F.plain_tuple_new _, codeAny_builtin F.entry_tuple_new ?_⟩))
  rw [Around.under_plainId F.plain_tuple_new _]; have hsub := sub_tuple_self; have hinit := init_tuple_lookup; have hmh := madeHere_tuple; have hTI := hT 0 s st0
  wp_walk using wpAny_typeOf hTI, collectRev W hT st0 hfp hI hn
  intro s' acc hm hacc
  show wpAny _ _ (Builtin.Tuple.tupleExact acc.toList.toArray >>= fun v => ret v) _ _ _; unfold Builtin.Tuple.tupleExact
  refine wpAny_bind (wpAny_newObj_type ?_ (by show acc.toList.toArray.size ≤ sizeLine; (simp only [Array.toArray_toList]); (rw [hacc.1]); exact hn)); refine wpAny_pure ?_
  have e : acc.toList.toArray = acc := (by simp)
  rw [e]; exact h s' acc hm hacc
theorem callTupleRev {Q : Value → Shared → Prop} (W : WalksS prog w A.in1.in1.in1 I fp wr G n P St) (hT : ∀ i s, St i s → s.TypeIs (.ref I) "list_reverseiterator") (st0 : St 0 s) (hfp : ∀ b ∈ fp, b < s.heap.objs.size) (hI : I ∈ fp)
    (hn : n ≤ sizeLine) (hQ : ∀ s' acc, Moved wr G s s' → ItemsOf P acc n → Q (.ref s'.heap.objs.size) { s' with heap := s'.heap.push { cls := .type "tuple", data := .seq acc } }) : wpAny (model prog w) A (call (.type "tuple") [.ref I]) Q E s := by
  refine callType_codes (Q₁ := fun obj s1 => s1.TypeIs obj "tuple" ∧ Q obj s1) F.called_tuple (F.typeCall_tuple_1 _) F.entry_object_init (newTupleRev W hT st0 hfp hI hn fun s' acc hm hacc => ⟨⟨_, Heap.get?_push_size _ rfl, rfl⟩, hQ s' acc hm hacc⟩) fun obj s1 q => ?_
  exact ⟨q.1, F.args_object_init_2 obj _, object_init_meets F.called_tuple.init.lookup F.called_tuple.made (by decide) prog w A.in1 _ s1 ⟨q.1, rfl, q.2⟩⟩
end
end L2
set_option Elab.async false
set_option linter.all false
set_option maxRecDepth 100000
namespace L2
open PySem PySem.Spec PyProof.Rows Y
section
variable {X : Cx} {K : PySem.W.Frag} {Ew : Str → Hp → Prop} {pos pos2 p p2 : Pos} {a e o : Expr} {ta : TE} {fa fe : EF} {apos cpos : Pos}
def tTupRev (K : PySem.W.Frag) (ta : TE) : TE := fun σ H Q => ta σ H fun x H1 => ∃ q ys, x = .ref q ∧ SqL K H1 q ys ∧ ∀ t, H1 t = none → Q (.ref t) (upd H1 t (.tup ys.reverse))
theorem rev_items {its : List Value} {acc : Array Value} (h : ItemsOf (fun i v => its.toArray[its.toArray.size - 1 - i]? = some v) acc its.toArray.size) : acc = its.reverse.toArray := by
  apply Array.ext'
  apply List.ext_getElem?
  intro i
  have hs : acc.toList.length = its.length := by simpa using h.1
  by_cases hi : i < its.length
  · have hi' : i < acc.toList.length := by omega
    have e1 : acc.toList[i]? = some (acc.toList[i]'hi') := List.getElem?_eq_getElem hi'
    have e2 := h.2 i (acc.toList[i]'hi') (by rw [← Array.getElem?_toList]; exact e1)
    rw [e1, List.getElem?_reverse hi, ← e2]
    simp
  · rw [List.getElem?_eq_none (by omega), List.getElem?_eq_none (by simp; omega)]
theorem pe_tupRev (hc : X.calm = true) (hg : Gl X "tuple") (hm : X.mg "tuple" = none) (hg2 : Gl X "reversed") (hm2 : X.mg "reversed" = none) (ha : PE X a ta)
    (hs : starEach [a] X.env = (false, eval a X.env) :: starEach [] X.env := by rfl) (hpl : (backTo pos2 (starEach [] X.env)).any (·.1) = false := by rfl)
    (hs2 : starEach [.Call (.Name "reversed" p2) [a] [] pos2] X.env = (false, eval (.Call (.Name "reversed" p2) [a] [] pos2) X.env) :: starEach [] X.env := by rfl) (hpl2 : (backTo pos (starEach [] X.env)).any (·.1) = false := by rfl)
    (hnil : backTo pos (starEach [] X.env) = [] := by rfl) :
    PE X (.Call (.Name "tuple" p) [.Call (.Name "reversed" p2) [a] [] pos2] [] pos) (tTupRev X.K ta) := by
  intro pins s σ H Q I h
  refine wpAny_Call_Name_kw (ld_blt I hg hm PyProof.Rows.boot_tuple ?_)
  refine PyProof.Rows.callWith_type1 ?_ hs2 hpl2
  rw [hs2]
  show wpAny _ _ (spliced ((false, eval (.Call (.Name "reversed" p2) [a] [] pos2) X.env) :: backTo pos (starEach [] X.env))) _ _ s
  refine Calls.spliced_cons ?_
  refine wpAny_Call_Name_kw (ld_blt I hg2 hm2 PyProof.Rows.boot_reversed ?_)
  refine PyProof.Rows.callWith_type1 (thn (pa_cons ha pa_nil hs pos2 pins s σ H (fun vs H1 => match vs with
    | [x] => ∃ q ys, x = .ref q ∧ SqL X.K H1 q ys ∧ ∀ t, H1 t = none → Q (.ref t) (upd H1 t (.tup ys.reverse))
    | _ => False) I h) fun us s1 ⟨vs, H1, I1, r1, q1⟩ => ?_) hs hpl
  match vs, r1, q1 with
  | [x], r1, q1 =>
    obtain ⟨q, ys, rfl, hq, fin⟩ := q1
    obtain ⟨u, rfl, ru⟩ := r1.one
    cases ru
    obtain ⟨its, rv, pl, hz⟩ := I1.list hq
    refine call_reversed_list pl.isList ?_
    rw [hnil]
    refine Calls.spliced_nil ?_
    have hfr := I1.fresh
    have I2 : Inv X pins σ H1 { s1 with heap := s1.heap.push (revObj q ((its.toArray.size : Int) - 1)) } := I1.kept (t' := s1.toks) fun b u e => Heap.get?_push_of_some _ e
    have hit : (s1.heap.push (revObj q ((its.toArray.size : Int) - 1))).IsRevIter s1.heap.objs.size q ((its.toArray.size : Int) - 1) := ⟨_, Heap.get?_push_size _ rfl, rfl, rfl⟩
    have pl2 : (s1.heap.push (revObj q ((its.toArray.size : Int) - 1))).IsList q its.toArray := pl.isList.at fun o e => Heap.get?_push_of_some _ e
    have hq1 : q < s1.heap.objs.size := let ⟨o, _, e, _⟩ := pl; Heap.lt_size e
    have hne : q ≠ s1.heap.objs.size := Nat.ne_of_lt hq1
    have hh : X.A.in1.in1.in1.handled = none := I1.ok.hd hc
    have hl := rv.length
    refine callTupleRev (Walks.toS (Walks.listRev (prog := X.prog) (w := X.w) hh s1.heap.objs.size q hne its.toArray)) (fun i s st => st.2.1.typeIs) ⟨Nat.zero_le _, by simpa using hit, pl2⟩ (fun b hb => ?_) (by simp) (by rw [List.size_toArray]; omega) fun s' acc hm hacc => ?_
    · have : b = s1.heap.objs.size ∨ b = q := by simpa using hb
      show b < (s1.heap.push _).objs.size
      rw [Heap.size_push]
      rcases this with z | z
      · rw [z]; exact Nat.lt_succ_self _
      · rw [z]; exact Nat.lt_succ_of_lt hq1
    · rw [rev_items hacc]
      obtain ⟨h', g', d', t', os'⟩ := s'
      obtain rfl : g' = s1.gens := hm.gens
      obtain rfl : d' = s1.drawn := hm.drawn
      obtain rfl : os' = s1.os := hm.os
      have fo := I1.fpOk (H' := H1) (Nat.le_refl s1.heap.objs.size) hfr
      have I3 : Inv X pins σ H1 { s1 with heap := h', toks := t' } := Inv.turned (s := { s1 with heap := s1.heap.push (revObj q ((its.toArray.size : Int) - 1)) }) (h' := h') (t' := t') (it := s1.heap.objs.size) I2 (fun b o hb e => hm.heap b o (by simpa using hb) e) hfr fo.2.1 fo.2.2.2.1 fo.2.2.2.2.1 fo.2.2.2.2.2
      refine ⟨.ref h'.objs.size, _, I3.laid (t' := t') (a := h'.objs.size) (o := .tup ys.reverse) (fun b u e => Heap.get?_push_of_some _ e) (Nat.le_refl _) ⟨by rw [List.length_reverse]; exact hz, its.reverse, rv.reverse, IsTup.new _ _⟩, rfl, fin _ I3.fresh⟩
  | [], r1, q1 => exact False.elim q1
  | _ :: _ :: _, r1, q1 => exact False.elim q1
theorem de_tupRev (hc : X.calm = true) (hg : Gl X "tuple") (hm : X.mg "tuple" = none) (hg2 : Gl X "reversed") (hm2 : X.mg "reversed" = none) (ha : DE X K Ew a fa) (hK : X.K = K := by rfl)
    (hs : starEach [a] X.env = (false, eval a X.env) :: starEach [] X.env := by rfl) (hpl : (backTo pos2 (starEach [] X.env)).any (·.1) = false := by rfl)
    (hs2 : starEach [.Call (.Name "reversed" p2) [a] [] pos2] X.env = (false, eval (.Call (.Name "reversed" p2) [a] [] pos2) X.env) :: starEach [] X.env := by rfl) (hpl2 : (backTo pos (starEach [] X.env)).any (·.1) = false := by rfl)
    (hnil : backTo pos (starEach [] X.env) = [] := by rfl) :
    DE X K Ew (.Call (.Name "tuple" p) [.Call (.Name "reversed" p2) [a] [] pos2] [] pos) (eUn gRevT fa) := (pe_tupRev hc hg hm hg2 hm2 ha hs hpl hs2 hpl2 hnil).imp fun σ H Q q => by
  obtain ⟨B, φ, Γ, r0, q⟩ := q
  refine ⟨B, φ, Γ, r0, (q.bind r0).mono fun u H1 s1 ⟨k, x, e1, v1, r1, _, q1⟩ => ?_⟩
  obtain ⟨z, e, q⟩ := runs_mo (kf := fun _ => .fr []) q1
  cases x <;> simp only [gRevT] at e <;> try (cases e; done)
  split at e
  · rename_i xs hn
    cases e
    obtain ⟨p, vs, rfl, h1, h2⟩ := of_isD_lst (v1.toD r1.bs)
    rw [hK]
    refine ⟨p, vs, rfl, h1, fun t ht => q _ _ (s1.trans (Same.upd ht)) (VR.fresh.mpr (Fresh.tup ?_ (SqT.of upd_same) (IsDs.same (Same.upd ht) _ _ (isDs_reverse h2))))⟩
    exact nols_iff.mpr fun x hx => nols_iff.mp hn x (List.mem_reverse.mp hx)
  · cases e
/-! ### int * int, list * int -/
theorem opd_mul : OpD X (binaryOp .Mult) gMul := OpD.ints op_mul fun x y z e => by
  cases x <;> cases y <;> simp only [gMul] at e <;> try (cases e; done)
  split at e
  · rename_i c; cases e; exact ⟨_, _, rfl, rfl, c, rfl, fun _ _ => isD_int⟩
  · cases e
theorem Runs.no {B H : Hp} {φ : Nat → List Addr} {Q : VK} (h : Runs K Ew B φ H none Q) : False := by
  rcases h with ⟨k, d, e, _⟩ | ⟨c, e, _⟩ <;> cases e
theorem Runs.ret {B H : Hp} {φ : Nat → List Addr} {Q : VK} {k : Kd} {d : PyData} (h : Runs K Ew B φ H (mret (k, d)) Q) : ∀ v H', Same H H' → VR K B φ H H' k d v → Q v H' := by
  rcases h with ⟨k', d', e, q⟩ | ⟨c, e, _⟩
  · cases e; exact q
  · cases e
theorem isNew_eq {k : Kd} (h : isNew k = true) : k = .fr [] := by
  match k, h with
  | .fr [], _ => rfl
theorem runs_rep {B H : Hp} {φ : Nat → List Addr} {Q : VK} {k : Kd} {x y : PyData} (h : Runs K Ew B φ H (repD k x y) Q) : ∃ xs n, k = .fr [] ∧ x = .list xs ∧ y = .int n ∧
    (nols xs = true ∧ -(2 ^ 63) ≤ n ∧ n < 2 ^ 63 ∧ xs.length * n.toNat ≤ sizeLine) ∧ ∀ v H', Same H H' → VR K B φ H H' (.fr []) (.list (List.replicate n.toNat xs).flatten) v → Q v H' := by
  unfold repD at h
  by_cases hk : isNew k = true
  · rw [if_pos hk] at h
    cases x <;> try (exact (Runs.no h).elim)
    rename_i xs
    replace h : Runs K Ew B φ H (repL xs y) Q := h
    cases y <;> try (exact (Runs.no h).elim)
    rename_i n
    by_cases hc : nols xs = true ∧ -(2 ^ 63) ≤ n ∧ n < 2 ^ 63 ∧ xs.length * n.toNat ≤ sizeLine
    · rw [repL, if_pos hc] at h
      exact ⟨xs, n, isNew_eq hk, rfl, rfl, hc, h.ret⟩
    · rw [repL, if_neg hc] at h
      exact (Runs.no h).elim
  · rw [if_neg hk] at h
    exact (Runs.no h).elim
theorem de_rep {b : Expr} {fb : EF} (ha : DE X K Ew a fa) (hb : DE X K Ew b fb) : DE X K Ew (.BinOp a .Mult b pos) (eRep fa fb) :=
  (pe_op op_rep ha hb).imp fun σ H Q q => tD_two (g := fun x y => repD x.1 x.2 y.2) q fun B φ Γ k x k' y u v H1 H2 r2 s1 s2 v1 v2 q => by
    obtain ⟨xs, n, rfl, rfl, rfl, ⟨hn, c1, c2, c3⟩, q⟩ := runs_rep q
    obtain ⟨as, h1, h2, h3⟩ := v1
    obtain ⟨l, vs, bs, rfl, hl, ht, rfl⟩ := of_isT_lst h1
    have hv := of_isD_int (v2.toD r2.bs)
    subst hv
    have hd := IsTs.toD _ _ _ ht
    exact ⟨l, n, vs, rfl, rfl, hl, c1, c2, by rw [isDs_length hd]; exact c3, fun p hp => q _ _ ((s1.trans s2).trans (Same.upd hp)) (VR.fresh.mpr (Fresh.from (Fresh.lst (nols_rep hn _) upd_same (IsDs.same (Same.upd hp) _ _ (isDs_rep _ hd)) hp) (s1.trans s2)))⟩
/-! ### xs.extend(e), xs.clear(), xs[j] = e -/
open AutoSeq1 in
theorem ext_any (T : String) (hT : T = "list" ∨ T = "tuple") (l b : Addr) (xs ys : Array Value) (n m : Nat) (dd : Option Addr) (sl : Array (Option Value)) (h0 : ¬ (!xs.isEmpty && Builtin.List.listTooLong (xs.size + ys.size)) = true) (h1 : xs.size ≤ sizeLine) (h2 : xs.size + ys.size ≤ sizeLine + 1) (hlb : l ≠ b) :
    Meets (Builtin.«list.extend» ⟨[.ref l, .ref b], []⟩) (fun _ R s => s.heap.get? l = some { cls := .type "list", data := .seq xs n } ∧ s.heap.get? b = some ⟨.type T, dd, .seq ys m, sl⟩ ∧ R (.ok (.ret Value.none)) { s with heap := s.heap.update l (Obj.mapSeq fun x => x ++ ys) }) :=
  .of_wp fun prog w A R s q => by
    obtain ⟨hp, g, d, tk, os⟩ := s
    obtain ⟨hl, hb, q⟩ := q
    have f1 := AutoSeq1.idx_int; have f2 := AutoSeq1.sub_tuple_tuple; have f3 := AutoSeq1.sub_list_list; have f4 := AutoSeq1.sub_tuple_list; have f5 := AutoSeq1.sub_list_tuple
    have hz : (xs ++ ys).size ≤ sizeLine + 1 := by (rw [Array.size_append]); exact h2
    rcases hT with rfl | rfl
    · (wp_walk using (wpAny_updateSeq hl rfl (hz := h1) (_hz' := hz)), wpAny_loadPart' hl, wpAny_loadPart' hb); exact ⟨_, rfl, q⟩
    · (wp_walk using (wpAny_updateSeq hl rfl (hz := h1) (_hz' := hz)), wpAny_loadPart' hl, wpAny_loadPart' hb); exact ⟨_, rfl, q⟩
def rExtS (K : PySem.W.Frag) : V → List V → Hp → VK → Prop := fun x vs H Q => ∃ l b xs zs, x = .ref l ∧ vs = [.ref b] ∧ H l = some (.lst xs) ∧ (l = b → ∃ o, K.lookup b = some o) ∧ (SqL K H b zs ∨ SqT K H b zs) ∧ xs.length + zs.length ≤ sizeLine ∧ Q .non (upd H l (.lst (xs ++ zs)))
theorem mt_extS : MtM X "list.extend" (rExtS X.K) := by
  intro pins s σ H x vs v us Q I rx rv h
  obtain ⟨l, b, xs, zs, rfl, rfl, hH, hlb, hB, hz, q⟩ := h
  replace hlb : l ≠ b := fun z => by
    obtain ⟨o, ho⟩ := hlb z
    have := (I.bs b o (I.ok.mod.kin b o ho)).2
    rw [← z, hH] at this
    cases this
  cases rx
  obtain ⟨u, rfl, ru⟩ := rv.one
  cases ru
  obtain ⟨z, its, n, r, hl, e⟩ := I.lstM hH
  have main : ∀ (T : String) (hT : T = "list" ∨ T = "tuple") (its2 : List Value) (dd : Option Addr) (sl : Array (Option Value)) (m : Nat), Vals zs its2 → s.heap.get? b = some ⟨.type T, dd, .seq its2.toArray m, sl⟩ → wpAny (model X.prog X.w) X.A (call (.builtin "list.extend") [.ref l, .ref b]) (EP X pins σ Q) X.xe s := fun T hT its2 dd sl m r2 e2 => by
    have hl2 := r2.length
    have hsz : its.toArray.size + its2.toArray.size ≤ sizeLine := by rw [List.size_toArray, List.size_toArray]; omega
    have hlong : ¬ (!its.toArray.isEmpty && Builtin.List.listTooLong (its.toArray.size + its2.toArray.size)) = true := fun w => by
      rw [notLongL hsz, Bool.and_false] at w
      cases w
    refine call_meets F.slot_list_extend ⟨_, e, rfl⟩ F.entry_list_extend (F.args_list_extend_2 _ _) (ext_any T hT l b its.toArray its2.toArray n m dd sl hlong (by rw [List.size_toArray]; omega) (by omega) hlb) ⟨e, e2, ?_⟩
    refine ⟨.non, _, I.lset (t' := s.toks) (its' := its ++ its2) hH e (by simp) (r.append r2) ?_, rfl, q⟩
    (rw [List.length_append]); omega
  rcases hB with hB | hB
  · obtain ⟨its2, r2, ⟨⟨c2, d2, da2, sl2⟩, n2, ho2, hc2, _, hd2⟩, hz2⟩ := I.list hB
    simp only at hc2 hd2
    subst hc2 hd2
    exact main "list" (.inl rfl) its2 d2 sl2 n2 r2 ho2
  · obtain ⟨its2, r2, ⟨⟨c2, d2, da2, sl2⟩, ho2, hc2, n2, hd2⟩, hz2⟩ := I.tuple hB
    simp only at hc2 hd2
    subst hc2 hd2
    exact main "tuple" (.inr rfl) its2 d2 sl2 n2 r2 ho2
theorem ds_ext {i : Nat} (ho : PE X o (tVar i)) (he : DE X K Ew e fe) (hK : X.K = K := by rfl)
    (hbase : attributeBase o "extend" X.env (eval o X.env) = eval o X.env := by rfl)
    (hfew : ((backTo cpos (starEach [e] X.env)).all (fun x => !x.1) && (backToKw cpos (keywordEach [] X.env)).all (fun x => x.1.isSome)
      && decide (([e] : List Expr).length + ([] : List Keyword).length + (if ([] : List Keyword).isEmpty then 0 else 1) < 30)) = true := by rfl)
    (hline : (apos.endLine == cpos.line) = true := by rfl) (hs : starEach [e] X.env = (false, eval e X.env) :: starEach [] X.env := by rfl) (hplain : (backTo cpos (starEach [] X.env)).any (·.1) = false := by rfl)
    (hsw : swapsWith (.Call (.Attribute o "extend" apos) [e] [] cpos) none pos.line X.env = pure false := by rfl) :
    DS X K Ew (.Expr (.Call (.Attribute o "extend" apos) [e] [] cpos) pos) (sExt i fe) :=
  (ps_expr (pe_bm PySem.F.plainAttrs_list PySem.F.slot_list_extend PySem.F.type_list_extend mt_extS ho (pa_cons he pa_nil hs) hbase hfew hline hs hplain) hsw).imp fun D σ H q => by
    obtain ⟨B, φ, Γ, r, q⟩ := q
    unfold sExt at q
    match hg : Γ[i]?, q with
    | some (some (true, .list xs)), q =>
      obtain ⟨v, hv, hT⟩ := r.own hg
      obtain ⟨l, vs, bs, rfl, hl, ht, hφ⟩ := of_isT_lst hT
      refine ⟨.ref l, hv, .inl ⟨rfl, vs, SqL.of hl⟩, B, φ, Γ, r, ?_⟩
      match hm : fe Γ, q with
      | some (.ok (k, d)), q =>
        refine .inl ⟨k, d, rfl, fun y H1 s1 hy => ?_⟩
        have r1 := r.same s1
        have hl1 := s1 _ _ hl
        have hlen : vs.length = xs.length := isTs_length ht
        have hli : l ∈ φ i := by rw [hφ]; exact List.mem_cons_self
        replace q : RunS K Ew B (match extI k d with
          | some ys => if nols ys = true ∧ xs.length + ys.length ≤ sizeLine then mret (.nx (Γ.set i (some (true, .list (xs ++ ys))))) else none
          | none => none) D := q
        have hd := hy.toD r1.bs
        have hnd := r.nd i
        rw [hφ] at hnd
        have hnb : l ∉ bs := (List.nodup_cons.mp hnd).1
        have main : ∀ (b : Addr) (ws : List V) (ys : List PyData), y = .ref b → extI k d = some ys → (l = b → ∃ o, K.lookup b = some o) → (SqL K H1 b ws ∨ SqT K H1 b ws) → IsDs K H1 ys ws → rExtS X.K (.ref l) [y] H1 fun _ H1 => D.nx σ H1 := fun b ws ys ey ei nlb hb hws => by
          rw [ei] at q
          by_cases hc : nols ys = true ∧ xs.length + ys.length ≤ sizeLine
          · replace q : RunS K Ew B (mret (.nx (Γ.set i (some (true, .list (xs ++ ys)))))) D := by simpa only [if_pos hc] using q
            subst ey
            refine ⟨l, b, vs, ws, rfl, rfl, hl1, by rw [hK]; exact nlb, by rw [hK]; exact hb, by rw [isDs_length hws]; omega, ?_⟩
            refine q B _ σ _ (Same.refl B) (r1.chg (d := .list (xs ++ ys)) (as := l :: bs) hli hl1 trivial hv ?_ hnd (fun a ha => .inl (by rw [hφ]; exact ha)) trivial)
            have h1 := IsTs.upd (o' := .lst (vs ++ ws)) hl1 trivial _ _ _ hnb (IsTs.same s1 _ _ _ ht)
            have h2 := IsTs.upd (o' := .lst (vs ++ ws)) hl1 trivial _ _ _ (show l ∉ [] by simp) (IsDs.toT _ _ hc.1 hws)
            have h3 := isTs_append h1 h2
            rw [List.append_nil] at h3
            exact isT_lst upd_same h3
          · simp only [if_neg hc] at q
            exact False.elim q
        cases d <;> try (exact False.elim q)
        · rename_i ys
          match k, hy, q, main with
          | .fr [], hy, q, main =>
            obtain ⟨as, h1, h2, h3⟩ := hy
            obtain ⟨b, ws, cs, ey, hb, hws, rfl⟩ := of_isT_lst h1
            refine main b ws ys ey rfl (fun z => ?_) (.inl (SqL.of hb)) (IsTs.toD _ _ _ hws)
            rcases h3 b List.mem_cons_self with ⟨_, w, _⟩ | w
            · cases w
            · rw [← z, hl] at w; cases w
          | .base, hy, q, main =>
            obtain ⟨b, ws, ey, hb, hws⟩ := of_isD_lst (show IsD K B (.list ys) y from hy)
            refine main b ws ys ey rfl (fun z => ?_) (.inl (r1.bs.seq hb)) (IsDs.same r1.bs _ _ hws)
            have hB := (r.nb i l hli).1
            rcases hb with (w | ⟨o, w⟩) | ⟨o, _, _, w, _⟩
            · rw [← z, hB] at w; cases w
            · rw [← z, hB] at w; cases w
            · exact ⟨o, w⟩
          | .fr (_ :: _), hy, q, main => exact False.elim q
          | .any, hy, q, main => exact False.elim q
        · rename_i ys
          obtain ⟨b, ws, ey, hb, hws⟩ := of_isD_tup hd
          refine main b ws ys ey rfl (fun z => ?_) (.inr hb) hws
          rcases hb with (w | ⟨o, w⟩) | ⟨o, _, _, w, _⟩
          · rw [← z, hl1] at w; cases w
          · rw [← z, hl1] at w; cases w
          · exact ⟨o, w⟩
      | some (.ex c), q => exact .inr ⟨c, rfl, q⟩
      | none, q => exact False.elim q
    | some (some (true, .none)), q => exact False.elim q
    | some (some (true, .bool _)), q => exact False.elim q
    | some (some (true, .int _)), q => exact False.elim q
    | some (some (true, .str _)), q => exact False.elim q
    | some (some (true, .tuple _)), q => exact False.elim q
    | some (some (true, .dict _)), q => exact False.elim q
    | some (some (false, _)), q => exact False.elim q
    | some none, q => exact False.elim q
    | none, q => exact False.elim q
end
end L2
set_option Elab.async false
set_option linter.all false
set_option maxRecDepth 100000
namespace L2
open PySem PySem.Spec PyProof.Rows Y
section
variable {X : Cx} {K : PySem.W.Frag} {Ew : Str → Hp → Prop} {pos pos2 p p2 : Pos} {a e o j : Expr} {ta : TE} {fa fe fj : EF} {apos cpos : Pos}
theorem ds_clr {i : Nat} (ho : PE X o (tVar i)) (hbase : attributeBase o "clear" X.env (eval o X.env) = eval o X.env := by rfl) (hline : (apos.endLine == cpos.line) = true := by rfl)
    (hsw : swapsWith (.Call (.Attribute o "clear" apos) [] [] cpos) none pos.line X.env = pure false := by rfl) : DS X K Ew (.Expr (.Call (.Attribute o "clear" apos) [] [] cpos) pos) (sClr i) :=
  (ps_expr (pe_bm0 PySem.F.plainAttrs_list PySem.F.slot_list_clear PySem.F.type_list_clear mt_clear ho hbase hline) hsw).imp fun D σ H q => by
    obtain ⟨B, φ, Γ, r, q⟩ := q
    unfold sClr at q
    match hg : Γ[i]?, q with
    | some (some (true, .list xs)), q =>
      obtain ⟨v, hv, hT⟩ := r.own hg
      obtain ⟨l, vs, bs, rfl, hl, ht, hφ⟩ := of_isT_lst hT
      have hli : l ∈ φ i := by rw [hφ]; exact List.mem_cons_self
      refine ⟨.ref l, hv, .inl ⟨rfl, vs, SqL.of hl⟩, l, vs, rfl, rfl, hl, ?_⟩
      exact q B _ σ _ (Same.refl B) (r.chg (d := .list []) (as := [l]) hli hl trivial hv (isT_lst upd_same isTs_nil) (List.nodup_cons.mpr ⟨by simp, List.nodup_nil⟩) (fun a ha => .inl (by rw [List.mem_singleton.mp ha]; exact hli)) trivial)
    | some (some (true, .none)), q => exact False.elim q
    | some (some (true, .bool _)), q => exact False.elim q
    | some (some (true, .int _)), q => exact False.elim q
    | some (some (true, .str _)), q => exact False.elim q
    | some (some (true, .tuple _)), q => exact False.elim q
    | some (some (true, .dict _)), q => exact False.elim q
    | some (some (false, _)), q => exact False.elim q
    | some none, q => exact False.elim q
    | none, q => exact False.elim q
/-! ### xs.index(x) -/
end
end L2
set_option Elab.async false
set_option linter.all false
set_option maxRecDepth 100000
namespace L2
open PySem PySem.Spec PyProof.Rows Y
theorem okDn {P : Program} {w : World} {K : PySem.W.Frag} {mg : Str → Option Value} {base : Heap} {x qual : Str} {st : Stmt} {f : Addr} {fd : FuncData} {N ps : List Str} (k n m : Nat) {fb : SF} (hn : N.length = n) (hm : ps.length = m) (F : Fun K x qual st f fd) (S : FnScope N ps (defScope st))
    (hbody : ∀ (cdv : Value) (A : Around) (outer : List Env) (s : Shared) (H : Hp) (E : XK), Room k (A.deeper (envOfC qual (defScope st) s.heap.objs.size f cdv)) →
      DSs (cxOf CX0 P w K mg base N qual (defScope st) f cdv A outer s H E).nox K (fun _ _ => False) (defBody st) fb) : FnOk P w K mg base CX0 (k + 1) f fd ps (spD K m (runF n fb)) := by
  subst hn hm
  exact F.okD S hbody
theorem spD_true {K : PySem.W.Frag} {H : Hp} {a : Addr} {ns : List Int} {F : FF} (hS : SqL K H a (ns.map V.int)) (h : ∃ o, F [.list (ns.map PyData.int)] = some (.ok (o, .bool true))) : spD K 1 F [.ref a] H (fun v _ => v = .bl true) fun _ _ _ => False := by
  obtain ⟨o, h⟩ := h
  refine ⟨[.list (ns.map PyData.int)], rfl, isDs_cons (isD_lst hS (isDs_ints ns)) isDs_nil, ?_⟩
  rw [h]
  intro v H' s r
  unfold RV at r
  cases o with
  | true => rw [if_pos rfl] at r; obtain ⟨as, h1, _⟩ := r; exact of_isD_bl (IsT.toD _ _ _ h1)
  | false => rw [if_neg Bool.false_ne_true] at r; exact of_isD_bl r
end L2
set_option Elab.async false
set_option linter.all false
set_option maxRecDepth 100000
namespace L2
open PySem PySem.Spec PyProof.Rows Y
/-! ### a[lo:hi:st] of a list -/
/-! ### the whole of a tuple, sliced -/
section
variable {prog : Program} {w : World} {A : Around} {E : Value → Shared → Prop} {s : Shared}
theorem getItem_tuple_whole {t sl : Addr} {items : Array Value} {vl vu : Value} {lo hi : Option Int} {Q : Value → Shared → Prop} (ht : IsTup s.heap t items) (hs : s.heap.IsSliceOf sl vl vu .none) (pl : IsPart vl lo) (pu : IsPart vu hi)
    (hw : HT.sIx items.size 0 lo = 0 ∧ HT.sIx items.size items.size hi = items.size) (h : Q (.ref t) s) : wpAny (model prog w) A (getItem (.ref t) (.ref sl)) Q E s := by
  obtain ⟨os, hos, hcs, hds⟩ := id hs
  have hTs : s.TypeIs (.ref sl) "slice" := ⟨os, hos, hcs⟩
  unfold getItem
  try with_reducible refine wpAny_holding ?_
  first | refine wpAny_bind (wpAny_pure ?_) | skip
  refine wpAny_bind (wpAny_sequenceKey ht.typeIs (by decide) ?_)
  refine wpAny_bind (wpAny_callSpecial?_slot (name := Str.ofString "__getitem__") ht.typeIs PyProof.Rows.slot_tuple_getitem
    (wpAny_call_entry PyProof.Rows.slot_tuple_getitem ht.typeIs entry_tuple_getitem ?_ (args_tuple_getitem _ _)))
  show wpAny _ _ (Builtin.Tuple.tupleItemsOf (.ref t) >>= _) _ _ s
  refine wpAny_bind (tupleItemsOf_ ht ?_)
  refine wpAny_bind (wpAny_typeOf hTs ?_)
  rw [if_pos (by decide)]
  refine wpAny_bind (HT.sliceApplied_gen hs pl pu ?_)
  have hyes : (((HT.sIx items.size 0 lo : Nat) : Int) == 0 && (1 : Int) == 1 && (HT.sIx items.size items.size hi - HT.sIx items.size 0 lo) == items.size) = true := by
    rw [hw.1, hw.2]; simp
  show wpAny _ _ (if (((HT.sIx items.size 0 lo : Nat) : Int) == 0 && (1 : Int) == 1 && (HT.sIx items.size items.size hi - HT.sIx items.size 0 lo) == items.size) = true then _ else _) _ _ s
  rw [if_pos hyes]
  unfold Builtin.Tuple.tupleIsExact
  refine wpAny_bind ?_
  first
    | exact wpAny_bind (wpAny_typeOf ht.typeIs (wpAny_pure (wpAny_bind (wpAny_rule (wpAny_pure ⟨_, rfl, wpAny_pure h⟩)))))
    | (refine wpAny_bind (wpAny_typeOf ht.typeIs (wpAny_pure ?_))
       rw [if_pos (by decide)]
       exact wpAny_bind (wpAny_rule (wpAny_pure ⟨_, rfl, wpAny_pure h⟩)))
end

theorem isDs_cut {K : PySem.W.Frag} {H : Hp} {ds : List PyData} {vs : List V} (h : IsDs K H ds vs) (lo hi : Option Int) : IsDs K H (cutD ds lo hi) (cutV vs lo hi) := by
  have e : cutD ds lo hi = (ds.drop (HT.sIx ds.length 0 lo)).take (HT.sIx ds.length ds.length hi - HT.sIx ds.length 0 lo) := rfl
  rw [e]
  unfold cutV
  rw [isDs_length h]
  exact isDs_take _ (isDs_drop _ h)
theorem nols_cut {ds : List PyData} (h : nols ds = true) (lo hi : Option Int) : nols (cutD ds lo hi) = true := nols_iff.mpr fun x hx => nols_iff.mp h x (List.mem_of_mem_drop (List.mem_of_mem_take hx))
section
variable {X : Cx} {K : PySem.W.Frag} {Ew : Str → Hp → Prop} {pos p2 : Pos} {e : Expr} {fe : EF} {lo hi st : Option Expr} {fl fh fs : Option EF}
def rSlD (K : PySem.W.Frag) : V → Option Int → Option Int → Hp → VK → Prop := fun x lo hi H Q => ∃ d z, IsD K H d x ∧ gSl d lo hi = some z ∧ ∀ v H', Same H H' → Fresh K H H' z v → Q v H'
theorem sl_D : SlR X (rSlD X.K) := by
  intro pins s σ H x v vl vu lo hi sl Q I rx hs pl pu h
  obtain ⟨d, z, hd, hz, q⟩ := h
  cases d <;> simp only [gSl] at hz <;> try (cases hz; done)
  · rename_i ds
    split at hz
    · rename_i hn
      cases hz
      obtain ⟨a, xs, rfl, hx, hi'⟩ := of_isD_lst hd
      exact sl_list pins s σ H _ v vl vu lo hi sl Q I rx hs pl pu ⟨a, xs, rfl, hx, fun p hp => q _ _ (Same.upd hp) (Fresh.lst (nols_cut hn lo hi) upd_same (IsDs.same (Same.upd hp) _ _ (isDs_cut hi' lo hi)) hp)⟩
    · cases hz
  · rename_i ds
    split at hz
    · rename_i hn
      cases hz
      obtain ⟨a, xs, rfl, hx, hi'⟩ := of_isD_tup hd
      by_cases hw : HT.sIx xs.length 0 lo = 0 ∧ HT.sIx xs.length xs.length hi = xs.length
      · cases rx
        obtain ⟨its, r, ht, hz⟩ := I.tuple hx
        have hlen : its.toArray.size = xs.length := by rw [List.size_toArray]; exact r.length.symm
        refine ⟨"tuple", _, PyProof.Rows.slot_tuple_getitem.lookup, ht.typeIs, ?_⟩
        refine getItem_tuple_whole ht hs pl pu (by rw [hlen]; exact hw) ⟨.ref a, H, I, rfl, q _ H (Same.refl H) (Fresh.imm (by rw [nol]; exact nols_cut hn lo hi) ?_)⟩
        have e : cutD ds lo hi = ds := by
          have e : cutD ds lo hi = (ds.drop (HT.sIx ds.length 0 lo)).take (HT.sIx ds.length ds.length hi - HT.sIx ds.length 0 lo) := rfl
          rw [e, ← isDs_length hi', hw.1, hw.2, List.drop_zero, Nat.sub_zero]
          exact List.take_of_length_le (by rw [isDs_length hi']; exact Nat.le_refl _)
        rw [e]
        exact hd
      · exact sl_tup pins s σ H _ v vl vu lo hi sl Q I rx hs pl pu ⟨a, xs, rfl, hx, hw, fun p hp => q _ _ (Same.upd hp) (Fresh.tup (nols_cut hn lo hi) (SqT.of upd_same) (IsDs.same (Same.upd hp) _ _ (isDs_cut hi' lo hi)))⟩
    · cases hz
def tO (K : PySem.W.Frag) (Ew : Str → Hp → Prop) (f : Option EF) : TO := fun σ H Q => ∃ B φ Γ, Rep K B φ Γ σ H ∧ ((∃ o, oE f Γ = some (.ok o) ∧ ∀ H', Same H H' → Q o H') ∨ (∃ c, oE f Γ = some (.ex c) ∧ ∀ H', Same B H' → Ew c H'))
def DPO (X : Cx) (K : PySem.W.Frag) (Ew : Str → Hp → Prop) (e : Option Expr) (f : Option EF) : Prop := PO X e (tO K Ew f)
theorem PO.imp {X : Cx} {e : Option Expr} {t t' : TO} (h : PO X e t) (i : ∀ σ H Q, t' σ H Q → t σ H Q) : PO X e t' := fun pins s σ H Q I q => h pins s σ H Q I (i σ H Q q)
theorem dpo_none : DPO X K Ew none none := po_none.imp fun σ H Q q => by
  obtain ⟨B, φ, Γ, r, q⟩ := q
  rcases q with ⟨o, e, q⟩ | ⟨c, e, _⟩
  · cases e; exact q H (Same.refl H)
  · cases e
theorem dpo_some (he : DE X K Ew e fe) : DPO X K Ew (some e) (some fe) := (po_some he).imp fun σ H Q q => by
  obtain ⟨B, φ, Γ, r, q⟩ := q
  refine ⟨B, φ, Γ, r, ?_⟩
  have e0 : oE (some fe) Γ = mbind (fe Γ) fun x => oI x.2 := rfl
  rw [e0] at q
  match hm : fe Γ, q with
  | some (.ok (k, d)), q =>
    refine .inl ⟨k, d, rfl, fun v H' s hv => ?_⟩
    cases d <;> try (rcases q with ⟨o, e, _⟩ | ⟨c, e, _⟩ <;> cases e; done)
    rename_i n
    have := of_isD_int (hv.toD (r.bs.trans s))
    subst this
    rcases q with ⟨o, e, q⟩ | ⟨c, e, _⟩
    · cases e; exact ⟨n, rfl, q H' s⟩
    · cases e
  | some (.ex c), q =>
    rcases q with ⟨o, e, q⟩ | ⟨c', e, q⟩
    · cases e
    · cases e; exact .inr ⟨c, rfl, q⟩
  | none, q => rcases q with ⟨o, e, _⟩ | ⟨c, e, _⟩ <;> cases e
/-- a part of a slice, then the rest -/
theorem tO_head {fo : Option EF} {B H : Hp} {φ : Nat → List Addr} {Γ : DEnv} {σ : St} {g : Option Int → M (Kd × PyData)} {Q : VK} {R : Option Int → Hp → Prop} (r : Rep K B φ Γ σ H) (h : Runs K Ew B φ H (mbind (oE fo Γ) g) Q)
    (i : ∀ o H1, Same H H1 → Rep K B φ Γ σ H1 → Runs K Ew B φ H1 (g o) Q → R o H1) : tO K Ew fo σ H R := by
  refine ⟨B, φ, Γ, r, ?_⟩
  match hm : oE fo Γ, h with
  | some (.ok o), h => exact .inl ⟨o, rfl, fun H1 s => i o H1 s (r.same s) (Runs.later h s)⟩
  | some (.ex c), h =>
    rcases h with ⟨k, d, e, _⟩ | ⟨c', e, h⟩
    · cases e
    · cases e; exact .inr ⟨c, rfl, h⟩
  | none, h => exact (Runs.no h).elim
theorem de_sl (he : DE X K Ew e fe) (hl : DPO X K Ew lo fl) (hu : DPO X K Ew hi fh) (hK : X.K = K := by rfl) : DE X K Ew (.Subscript e (.Slice lo hi none p2) pos) (eSl fe fl fh) := (pe_slice sl_D he hl hu).imp fun σ H Q q => by
  obtain ⟨B, φ, Γ, r, q⟩ := q
  refine ⟨B, φ, Γ, r, (q.bind r).mono fun u H1 s1 ⟨k, x, e1, v1, r1, _, q1⟩ => ?_⟩
  refine tO_head r1 (q1.later s1) fun l H2 s2 r2 q2 => tO_head r2 q2 fun h H3 s3 r3 q3 => ?_
  obtain ⟨z, ez, q⟩ := runs_mo (kf := fun _ => .fr []) q3
  rw [hK]
  exact ⟨x, z, IsD.same (s2.trans s3) _ _ (v1.toD r1.bs), ez, fun v H' s f => q v H' s (VR.fresh.mpr f)⟩
end
end L2
set_option Elab.async false
set_option linter.all false
set_option maxRecDepth 100000
namespace L2
open PySem PySem.Spec PyProof.Rows Y
/-! ### reversed(t), t a tuple -/
end L2
set_option Elab.async false
set_option linter.all false
namespace Y
open PySem
/-! ### a name for an inner list: `x = n[i]; y = e; x[y] = 1 - x[y]` -/
def bagIx (xs : List PyData) : PyData → Option (Nat × List PyData)
  | .int k => (ixN xs.length k).bind fun m => match xs[m]? with
    | some (.list ys) => if nols ys then some (m, ys) else none
    | _ => none
  | _ => none
def bagPut (ys : List PyData) : PyData → Option (Int × List PyData)
  | .int j => (ixN ys.length j).bind fun m => match ys[m]? with
    | some (.int c) => some (j, ys.set m (.int (1 - c)))
    | _ => none
  | _ => none
def sBag (n x y : Nat) (fi fy : EF) : SF := fun Γ => match Γ[n]? with
  | some (some (true, .list xs)) => if x < Γ.length ∧ y < Γ.length then mbind (fi Γ) fun a => mbind (mo (bagIx xs a.2)) fun p => mbind (fy (Γ.set x none)) fun b => mbind (mo (bagPut p.2 b.2)) fun q =>
      mret (.nx (((Γ.set x none).set y (some (true, .int q.1))).set n (some (true, .list (xs.set p.1 (.list q.2)))))) else none
  | _ => none
theorem bagIx_some {xs : List PyData} {d : PyData} {p : Nat × List PyData} (h : bagIx xs d = some p) : ∃ k, d = .int k ∧ ixN xs.length k = some p.1 ∧ xs[p.1]? = some (.list p.2) ∧ nols p.2 = true := by
  obtain ⟨k, rfl⟩ : ∃ k, d = .int k := by
    cases d <;> first | exact ⟨_, rfl⟩ | exact absurd h (by simp [bagIx])
  simp only [bagIx] at h
  cases e : ixN xs.length k with
  | none => rw [e] at h; cases h
  | some m =>
    rw [e] at h
    simp only [Option.bind_some] at h
    split at h
    · rename_i ys hy
      split at h
      · rename_i hn
        cases h
        exact ⟨k, rfl, e, hy, hn⟩
      · cases h
    · cases h
theorem bagPut_some {ys : List PyData} {d : PyData} {q : Int × List PyData} (h : bagPut ys d = some q) : ∃ m c, d = .int q.1 ∧ ixN ys.length q.1 = some m ∧ ys[m]? = some (.int c) ∧ q.2 = ys.set m (.int (1 - c)) := by
  obtain ⟨k, rfl⟩ : ∃ k, d = .int k := by
    cases d <;> first | exact ⟨_, rfl⟩ | exact absurd h (by simp [bagPut])
  simp only [bagPut] at h
  cases e : ixN ys.length k with
  | none => rw [e] at h; cases h
  | some m =>
    rw [e] at h
    simp only [Option.bind_some] at h
    split at h
    · rename_i c hc
      cases h
      exact ⟨m, c, rfl, e, hc, rfl⟩
    · cases h
def gMin : List PyData → Option PyData
  | [.int i, .int j] => some (.int (if j < i then j else i))
  | _ => none
end Y
namespace Y
open PySem
/-! #### sorted(set(xs)), xs of 0, 1, 2, 3 -/
end Y
namespace Y
open PySem
def gGe : PyData → PyData → Option PyData
  | .int i, .int j => some (.bool (decide (j ≤ i)))
  | _, _ => none
theorem gGe_int (i j : Int) : gGe (.int i) (.int j) = some (.bool (decide (j ≤ i))) := rfl
end Y
set_option Elab.async false
set_option linter.all false
set_option maxRecDepth 100000
namespace L2
open PySem PySem.Spec PyProof.Rows Y
section
variable {K : PySem.W.Frag} {B H : Hp} {φ : Nat → List Addr} {Γ : DEnv} {σ : St}
theorem Rep.killS (r : Rep K B φ Γ σ H) (i : Nat) (v : V) : Rep K B (drp φ i) (Γ.set i none) (σ.set i (some v)) H where
  bs := r.bs
  len := by rw [List.length_set, List.length_set]; exact r.len
  sl := fun j o d' e => by
    by_cases hj : j = i
    · subst hj
      by_cases hlt : j < Γ.length
      · rw [List.getElem?_set_self hlt] at e; cases e
      · rw [List.getElem?_eq_none (by rw [List.length_set]; omega)] at e; cases e
    · obtain ⟨w, h1, h2⟩ := (r.kill i).sl j o d' e
      exact ⟨w, by rw [List.getElem?_set_ne (Ne.symm hj)]; exact h1, h2⟩
  nd := (r.kill i).nd
  nb := (r.kill i).nb
  dj := (r.kill i).dj
theorem bag_get : ∀ {xs : List PyData} {vs : List V} {bs : List Addr} {m : Nat} {ys : List PyData}, IsTs K H xs vs bs → bs.Nodup → xs[m]? = some (.list ys) → nols ys = true →
    ∃ b ws, vs[m]? = some (.ref b) ∧ H b = some (.lst ws) ∧ IsTs K H ys ws [] ∧ b ∈ bs ∧ ∀ ys' ws', IsTs K (upd H b (.lst ws')) ys' ws' [] → IsTs K (upd H b (.lst ws')) (xs.set m (.list ys')) vs bs
  | [], vs, bs, m, ys, h, _, e, _ => by simp at e
  | x :: xs, vs, bs, 0, ys, h, nd, e, hn => by
    simp only [IsTs] at h
    obtain ⟨v, r, a1, a2, rfl, rfl, h1, h2⟩ := h
    have ex : x = .list ys := by simpa using e
    subst ex
    obtain ⟨b, ws, cs, rfl, hb, ht, rfl⟩ := of_isT_lst h1
    have hc := IsTs.nil _ _ _ hn ht
    subst hc
    refine ⟨b, ws, rfl, hb, ht, by simp, fun ys' ws' h' => ?_⟩
    simp only [List.set_cons_zero, IsTs]
    have nb : b ∉ a2 := by
      have := List.nodup_cons.mp (show (b :: a2).Nodup by simpa using nd)
      exact this.1
    exact ⟨.ref b, r, [b], a2, rfl, rfl, isT_lst upd_same h', IsTs.upd hb trivial _ _ _ nb h2⟩
  | x :: xs, vs, bs, m + 1, ys, h, nd, e, hn => by
    simp only [IsTs] at h
    obtain ⟨v, r, a1, a2, rfl, rfl, h1, h2⟩ := h
    obtain ⟨n1, n2, n3⟩ := List.nodup_append.mp nd
    obtain ⟨b, ws, e1, hb, ht, hm, hs⟩ := bag_get h2 n2 (by simpa using e) hn
    refine ⟨b, ws, by simpa using e1, hb, ht, List.mem_append_right _ hm, fun ys' ws' h' => ?_⟩
    simp only [List.set_cons_succ, IsTs]
    exact ⟨v, r, a1, a2, rfl, rfl, IsT.upd hb trivial _ _ _ (fun z => n3 _ z _ hm rfl) h1, hs ys' ws' h'⟩
end
section
variable {X : Cx} {K : PySem.W.Frag} {Ew : Str → Hp → Prop} {p1 p2 p3 p4 p5 p6 p7 p8 p9 p10 p11 p12 p13 : Pos} {ie ye : Expr} {fi fy : EF} {rest : List Stmt} {g : SF} {nn xn yn : Str} {jj : Nat}
/-- x = n[i]; y = e; x[y] = 1 - x[y] -/
theorem dss_bag (n x y : Nat) (hnx : n ≠ x) (hny : n ≠ y) (hxy : x ≠ y) (hN : X.N.Nodup)
    (vn : PE X (.Name nn p1) (tVar n)) (hi : DE X K Ew ie fi) (hpi : PlainIx ie)
    (s1 : swapsWithSole [.Name xn p3] (.Subscript (.Name nn p1) ie p2) p4.line X.env = pure false) (w1 : swappedStores [.Name xn p3] (.Subscript (.Name nn p1) ie p2) X.env = pure none)
    (g1 : PG X (.Name xn p3) (gName x)) (g2 : PG X (.Name yn p5) (gName y)) (hy : DE X K Ew ye fy)
    (s2 : swapsWithSole [.Name yn p5] ye p6.line X.env = pure false) (w2 : swappedStores [.Name yn p5] ye X.env = pure none)
    (vx : PE X (.Name xn p7) (tVar x)) (vy : PE X (.Name yn p8) (tVar y)) (vx' : PE X (.Name xn p11) (tVar x)) (vy' : PE X (.Name yn p12) (tVar y))
    (hpy : PlainIx (.Name yn p8))
    (ha : ∀ v, assign (.Subscript (.Name xn p11) (.Name yn p12) p13) X.env v = (do
      let ov ← holding [v] (eval (.Name xn p11) X.env)
      let iv ← holding [v, ov] (eval (.Name yn p12) X.env)
      standAt p13
      holding [v, ov, iv] (setItem ov iv v)
      release [v, ov, iv] []))
    {p14 p15 : Pos}
    (s3 : swapsWithSole [.Subscript (.Name xn p11) (.Name yn p12) p13] (.BinOp (.Constant (.int 1) jj p14) .Sub (.Subscript (.Name xn p7) (.Name yn p8) p9) p10) p15.line X.env = pure false)
    (w3 : swappedStores [.Subscript (.Name xn p11) (.Name yn p12) p13] (.BinOp (.Constant (.int 1) jj p14) .Sub (.Subscript (.Name xn p7) (.Name yn p8) p9) p10) X.env = pure none)
    (a1 : (assignEach [.Name xn p3] X.env).map (·.2) = [assign (.Name xn p3) X.env]) (a2 : (assignEach [.Name yn p5] X.env).map (·.2) = [assign (.Name yn p5) X.env])
    (a3 : (assignEach [.Subscript (.Name xn p11) (.Name yn p12) p13] X.env).map (·.2) = [assign (.Subscript (.Name xn p11) (.Name yn p12) p13) X.env])
    (hr : DSs X K Ew rest g) (hK : X.K = K := by rfl) :
    DSs X K Ew (.Assign [.Name xn p3] (.Subscript (.Name nn p1) ie p2) p4 :: .Assign [.Name yn p5] ye p6 :: .Assign [.Subscript (.Name xn p11) (.Name yn p12) p13] (.BinOp (.Constant (.int 1) jj p14) .Sub (.Subscript (.Name xn p7) (.Name yn p8) p9) p10) p15 :: rest)
      (sSeq (sBag n x y fi fy) g) :=
  (pss_cons (ps_asg (pe_ix ix_list vn hi hpi) g1 s1 w1 a1) (pss_cons (ps_asg hy g2 s2 w2 a2) (pss_cons (ps_asg (pe_sub pe_int (pe_ix ix_list vx vy hpy)) (pg_sub vx' vy' set_list ha) s3 w3 a3) hr))).imp fun D σ H q => by
    subst hK
    obtain ⟨B, φ, Γ, r, q⟩ := q
    unfold sSeq sBag at q
    match hg : Γ[n]?, q with
    | some (some (true, .list xs)), q =>
      obtain ⟨v, hv, hT⟩ := r.own hg
      obtain ⟨l, vs, bs, rfl, hl, ht, hφ⟩ := of_isT_lst hT
      have hxl : x < Γ.length ∧ y < Γ.length := by
        refine Decidable.byContradiction fun hc => ?_
        simp only [if_neg hc, mbind] at q
        exact q
      simp only [if_pos hxl] at q
      refine ⟨.ref l, hv, B, φ, Γ, r, ?_⟩
      match hm : fi Γ, q with
      | none, q => exact False.elim q
      | some (.ex c), q => exact .inr ⟨c, rfl, q⟩
      | some (.ok (k1, d1)), q =>
        refine .inl ⟨k1, d1, rfl, fun w H2 sa hw => ?_⟩
        have r2 := r.same sa
        cases hb : bagIx xs d1 with
        | none => simp only [mbind, hb, mo] at q; exact False.elim q
        | some p =>
          obtain ⟨i, rfl, e1, e2, e3⟩ := bagIx_some hb
          have := of_isD_int (hw.toD r2.bs)
          subst this
          have nd : (l :: bs).Nodup := hφ ▸ r.nd n
          obtain ⟨nd1, nd2⟩ := List.nodup_cons.mp nd
          obtain ⟨b, ws, f1, f2, f3, f4, f5⟩ := bag_get (IsTs.same sa _ _ _ ht) nd2 e2 e3
          have lv : vs.length = xs.length := isTs_length ht
          refine ⟨l, vs, i, .ref b, rfl, rfl, SqL.of (sa _ _ hl), ?_, ?_⟩
          · show (ixN vs.length i).bind _ = _
            rw [lv]
            have e1' : L2.ixN xs.length i = some p.1 := e1
            rw [e1']
            exact f1
          · have r3 := r2.killS x (.ref b)
            simp only [mbind, hb, mo, mret] at q
            refine ⟨B, drp φ x, Γ.set x none, r3, ?_⟩
            match hm2 : fy (Γ.set x none), q with
            | none, q => exact False.elim q
            | some (.ex c), q => exact .inr ⟨c, rfl, q⟩
            | some (.ok (k2, d2)), q =>
              refine .inl ⟨k2, d2, rfl, fun w2 H4 sc hw2 => ?_⟩
              have r4 := r3.same sc
              cases hb2 : bagPut p.2 d2 with
              | none => simp only [Option.map_some, hb2, Option.map_none] at q; exact False.elim q
              | some z =>
                obtain ⟨m', c, rfl, c1, c2, c3⟩ := bagPut_some hb2
                simp only [Option.map_some, hb2] at q
                have := of_isD_int (hw2.toD r4.bs)
                subst this
                have hlx : x < σ.length := r.len ▸ hxl.1
                have hly : y < σ.length := r.len ▸ hxl.2
                have hx : ((σ.set x (some (.ref b))).set y (some (.int z.1)))[x]? = some (some (.ref b)) := by
                  rw [List.getElem?_set_ne (Ne.symm hxy), List.getElem?_set_self hlx]
                have hy : ((σ.set x (some (.ref b))).set y (some (.int z.1)))[y]? = some (some (.int z.1)) := by
                  rw [List.getElem?_set_self (by rw [List.length_set]; exact hly)]
                have hn : ((σ.set x (some (.ref b))).set y (some (.int z.1)))[n]? = some (some (.ref l)) := by
                  rw [List.getElem?_set_ne (Ne.symm hny), List.getElem?_set_ne (Ne.symm hnx)]; exact hv
                have lw : ws.length = p.2.length := isTs_length f3
                have c1' : L2.ixN p.2.length z.1 = some m' := c1
                have hwm : ws[m']? = some (.int c) := by
                  obtain ⟨u, hu, hd⟩ := isDs_get (IsTs.toD _ _ _ f3) c2
                  rw [hu, of_isD_int hd]
                refine ⟨.ref b, hx, .int z.1, hy, b, ws, z.1, .int c, rfl, rfl, SqL.of (sc _ _ f2), ?_, 1, c, rfl, rfl, .ref b, hx, .int z.1, hy, b, ws, z.1, m', rfl, rfl, sc _ _ f2, by rw [lw]; exact c1', ?_⟩
                · show (L2.ixN ws.length z.1).bind _ = _
                  rw [lw, c1']; exact hwm
                · have f3' : IsTs X.K H4 p.2 ws [] := IsTs.same sc _ _ _ f3
                  have r5 := r4.put y (d := .int z.1) (v := .int z.1) (as := []) (by simp only [IsT]; exact ⟨trivial, trivial⟩) List.nodup_nil (fun a ha => by cases ha)
                  have hbn : b ∈ (fun j => if j = y then [] else drp φ x j) n := by
                    show b ∈ (if n = y then [] else drp φ x n)
                    rw [if_neg hny]
                    unfold drp
                    rw [if_neg hnx, hφ]
                    exact List.mem_cons_of_mem _ f4
                  obtain ⟨b', ws', g1', g2', g3', g4', g5'⟩ := bag_get (IsTs.same sc _ _ _ (IsTs.same sa _ _ _ ht)) nd2 e2 e3
                  have hbb : b' = b := by
                    rw [f1] at g1'; cases g1'; rfl
                  subst hbb
                  have hnl : l ≠ b' := fun z => nd1 (z ▸ f4)
                  have hds := IsTs.toD _ _ _ f3'
                  have hns : nols z.2 = true := by
                    rw [c3]
                    exact nols_iff.mpr fun x hx => by
                      rcases List.mem_or_eq_of_mem_set hx with w | w
                      · exact nols_iff.mp e3 x w
                      · rw [w]; rfl
                  have hnew : IsTs X.K (upd H4 b' (.lst (ws.set m' (.int (1 - c))))) z.2 (ws.set m' (.int (1 - c))) [] := by
                    refine IsTs.upd (sc _ _ f2) trivial _ _ _ (by simp) (IsDs.toT _ _ hns ?_)
                    rw [c3]
                    exact isDs_set m' hds isD_int
                  have r6 := r5.chg (i := n) (o' := .lst (ws.set m' (.int (1 - c)))) (d := .list (xs.set p.1 (.list z.2))) (v := .ref l) (as := l :: bs) hbn (sc _ _ f2) trivial hn
                    (isT_lst (by rw [upd_ne hnl]; exact sc _ _ (sa _ _ hl)) (g5' _ _ hnew)) nd (fun a ha => .inl (by
                      show a ∈ (if n = y then [] else drp φ x n)
                      rw [if_neg hny]
                      unfold drp
                      rw [if_neg hnx, hφ]
                      exact ha)) trivial
                  exact ⟨B, _, _, r6, q⟩
    | some (some (true, .none)), q => exact False.elim q
    | some (some (true, .bool _)), q => exact False.elim q
    | some (some (true, .int _)), q => exact False.elim q
    | some (some (true, .str _)), q => exact False.elim q
    | some (some (true, .tuple _)), q => exact False.elim q
    | some (some (true, .dict _)), q => exact False.elim q
    | some (some (false, _)), q => exact False.elim q
    | some none, q => exact False.elim q
    | none, q => exact False.elim q
end
section
variable {X : Cx}
theorem calld_min (hc : X.calm = true) : CallD X (.builtin "min") gMin := ⟨_, call_min2 hc, fun xs z us H Q e h q => by
  match xs, e, h with
  | [.int i, .int j], e, h =>
    cases e
    simp only [IsDs, IsD] at h
    obtain ⟨_, _, rfl, rfl, _, _, rfl, rfl, rfl⟩ := h
    exact ⟨i, j, rfl, q _ H (Same.refl H) (Fresh.imm rfl isD_int)⟩⟩
end
end L2
set_option Elab.async false
set_option linter.all false
set_option maxRecDepth 100000
/-! ### exceptions: raised in a def, passed to its caller -/
namespace L2
open PySem PySem.Spec PyProof.Rows Y

theorem ObjOk.got {P : Program} {w : World} {H : Hp} {h : Heap} {a : Addr} {o : HO} (x : ObjOk P w H h a o) : ∃ ob, h.get? a = some ob := by
  cases o with
  | lst xs => obtain ⟨_, _, _, _, e⟩ := x; exact ⟨_, e⟩
  | tup xs => obtain ⟨_, _, _, ob, e, _⟩ := x; exact ⟨_, e⟩
  | dK kvs => obtain ⟨_, _, _, _, o, _, _, e, _⟩ := x; exact ⟨_, e⟩
  | dT kvs => obtain ⟨_, _, _, _, o, _, _, e, _⟩ := x; exact ⟨_, e⟩
  | set S n => obtain ⟨o, _, _, _, e, _⟩ := x; exact ⟨_, e⟩
  | ins C dx fs => obtain ⟨_, _, _, e, _⟩ := x; exact ⟨_, e⟩
  | own y => exact x
  | xd fs => obtain ⟨_, ⟨_, _, _, e, _⟩, _⟩ := x; exact ⟨_, e⟩
  | rng lo hi => obtain ⟨_, _, _, e⟩ := x; exact ⟨_, e⟩
  | frz ob u => exact ⟨_, x.1⟩
  | tbl ps => exact ⟨_, show h.get? a = some _ from x⟩
  | met f y => exact ⟨_, show h.get? a = some _ from x⟩
  | ext φ => exact x.2.1

/-- the heap h behind an exception that passes the frames of `outer`, from h0; B: what no passing changes -/
structure Thr (P : Program) (w : World) (outer : List Env) (H : Hp) (h0 : Heap) (H' : Hp) (B h : Heap) : Prop where
  hok : HOk P w H' B
  keep : ∀ b o, h0.get? b = some o → H b = none → b ∉ frs outer → B.get? b = some o
  slot : ∀ b o, h0.get? b = some o → H b = none → b ∈ frs outer → ∃ sl, h.get? b = some { o with slots := sl }
  free : ∀ b o, h0.get? b = some o → H b = none → H' b = none
  there : ∀ b o, h0.get? b = some o → b ∉ frs outer → ∃ o', B.get? b = some o'
  tups : ∀ b xs, H b = some (.tup xs) → H' b = some (.tup xs)
  frzs : ∀ b o u, H b = some (.frz o u) → H' b = some (.frz o u)
  tbls : ∀ b ps, H b = some (.tbl ps) → ∃ more, H' b = some (.tbl (ps ++ more))

theorem Thr.un {P : Program} {w : World} {outer : List Env} {H H' : Hp} {h0 B h h' : Heap} (T : Thr P w outer H h0 H' B h) (ff : ∀ b ∈ frs outer, H b = none) (nf : h.FunFrames B outer) (st : B.StaysIn h') (up : h.UpToSlots h') : Un (frs outer) [] H H' h0 h' := by
  have sl : ∀ b o, h0.get? b = some o → H b = none → b ∈ frs outer → ∃ sl, h'.get? b = some { o with slots := sl } := fun b o e n hb => by
    obtain ⟨sl, e1⟩ := T.slot b o e n hb
    obtain ⟨_, o2, e2, nd⟩ := nf.mem hb
    rw [e1] at e2
    cases e2
    obtain ⟨sl', e3⟩ := up b _ e1 nd
    exact ⟨sl', e3⟩
  refine ⟨fun b o e n hb _ => st _ _ (T.keep b o e n hb), fun b o e n hb _ => sl b o e n hb, fun b o e n _ => T.free b o e n, fun b o e _ => ?_, T.tups, T.frzs, T.tbls⟩
  by_cases hb : b ∈ frs outer
  · obtain ⟨s, e1⟩ := sl b o e (ff b hb) hb
    exact ⟨_, e1⟩
  · obtain ⟨o', e1⟩ := T.there b o e hb
    exact ⟨o', st _ _ e1⟩

/-- how an exception lies behind a call -/
def CX1 (P : Program) (w : World) : CXT := fun outer H s E e s' => ∃ ea C t B H', e = .ref ea ∧ s'.os = s.os ∧ AllBare s'.gens ∧ Thr P w outer H s.heap H' B s'.heap ∧ Heap.FlyingW B outer ea (.ref C) (.ref t) s'.heap ∧ E (.ref C) none H'

section
variable {P : Program} {w : World} {K : PySem.W.Frag} {mg : Str → Option Value} {base : Heap} {N : List Str} {qual : Str} {scope : Scope} {f : Addr} {cd : Value} {A : Around} {outer : List Env} {s : Shared} {H : Hp} {E : XK}
theorem frs_cons (env : Env) (l : List Env) (a : Addr) (h : env.frame = some a) : frs (env :: l) = a :: frs l := by
  unfold frs; rw [List.filterMap_cons, h]
/-- an exception made here leaves -/
theorem xe_made {pins : List (Addr × Obj)} {σ : St} {H1 : Hp} {s1 : Shared} {h' : Heap} {ea C : Addr} {vs : List Value} (I : Inv (cxOf (CX1 P w) P w K mg base N qual scope f cd A outer s H E) pins σ H1 s1)
    (hx : Heap.MadeExcOf s1.heap h' ea (.ref C) vs) (hE : E (.ref C) none H1) : (cxOf (CX1 P w) P w K mg base N qual scope f cd A outer s H E).xe (.ref ea) { s1 with heap := h' } := by
  have fr : frs (envOfC qual scope s.heap.objs.size f cd :: outer) = s.heap.objs.size :: frs outer := frs_cons _ _ _ rfl
  have stk : s1.heap.FunFrames base (envOfC qual scope s.heap.objs.size f cd :: outer) := I.stack
  have hin : ∀ env ∈ (envOfC qual scope s.heap.objs.size f cd :: outer), ∀ b, env.frame = some b → b ∈ frs (envOfC qual scope s.heap.objs.size f cd :: outer) := fun env he b hb => List.mem_filterMap.mpr ⟨env, he, hb⟩
  have nh : ∀ b, H1 b ≠ none → b ∉ frs (envOfC qual scope s.heap.objs.size f cd :: outer) := fun b n hb => n (I.stkFree b hb)
  have un : Un (frs outer) [] H H1 s.heap s1.heap := I.base
  have ne : ∀ b o, s.heap.get? b = some o → b ∉ frs outer → b ∉ frs (envOfC qual scope s.heap.objs.size f cd :: outer) := fun b o e n hb => by
    rw [fr] at hb
    rcases List.mem_cons.mp hb with z | z
    · exact absurd (Heap.lt_size e) (by rw [z]; exact Nat.lt_irrefl _)
    · exact n z
  refine wpAny_leaves_madeW (base := PySem.W.hideAll s1.heap (frs (envOfC qual scope s.heap.objs.size f cd :: outer))) I.ok.frames rfl (fun b o q => PySem.W.of_hideAll _ q) (PySem.W.funFrames_hide stk hin) hx fun h2 t x1 x2 x3 x4 => ?_
  refine ⟨ea, C, t, _, H1, rfl, I.os, I.bare, ⟨fun a o e => (I.hok a o e).stay (fun b u hb q => PySem.W.hideAll_get _ q (nh b ?_)) (fun _ q => q) fun _ _ q => q, fun b o e n hb => ?_, fun b o e n hb => ?_, fun b o e n => un.free b o e n (by simp), fun b o e hb => ?_, un.tups, un.frzs, un.tbls⟩, x1, hE⟩
  · rcases hb with rfl | hb
    · rw [e]; simp
    · rw [hb]; simp
  · exact PySem.W.hideAll_get _ (un.keep b o e n hb (by simp)) (ne b o e hb)
  · obtain ⟨sl, e1⟩ := un.slot b o e n hb (by simp)
    have e2 := hx.keeps _ _ e1
    obtain ⟨_, o2, e3, nd⟩ := I.funs.mem hb
    rw [e1] at e3
    cases e3
    obtain ⟨sl', e4⟩ := x4 b _ e2 nd
    exact ⟨sl', e4⟩
  · obtain ⟨o', e1⟩ := un.there b o e (by simp)
    exact ⟨o', PySem.W.hideAll_get _ e1 (ne b o e hb)⟩
end

/-- an own exception class over a built-in one, as it stands in the heap -/
def ExcObj (C : Addr) (bmB : List Value) (newId : String) (h : Heap) : Prop := ∃ bm N nm q bs hdct sn sub ab col dd k0 k1 k2 k3 k5 mN, h.get? C = some (excClassObj nm q C N bs bm hdct sn sub ab col dd k0 k1 k2 k3 k5 newId) ∧ h.Ns N mN ∧ mN "__init__" = none ∧ OwnTail h bmB bm
theorem excObj_of {K : PySem.W.Frag} {h : Heap} {C : Addr} {bmB : List Value} {newId : String} (X : K.In h) (q : PySem.W.excIn K C bmB newId = true) : ExcObj C bmB newId h := by
  unfold PySem.W.excIn at q
  split at q; · rename_i dd cd sl ho
                split at q; · rename_i C' bm k0 k1 k2 k3 n k5 hm hs
                              simp only [Bool.and_eq_true, beq_iff_eq, Bool.not_eq_true'] at q
                              obtain ⟨⟨⟨⟨⟨rfl, rfl⟩, hdel⟩, ht⟩, hok⟩, hni⟩ := q
                              obtain ⟨nm, bs, mro, ns, qn, hd, sn, sub, ab, col, del⟩ := cd
                              dsimp only at hm hdel hok hni; subst hm hdel
                              obtain ⟨l⟩ := sl; simp only at hs; subst hs
                              refine ⟨bm, ns, nm, qn, bs, hd, sn, sub, ab, col, dd, k0, k1, k2, k3, k5, _, X _ _ ho, .of_isNs (PySem.W.isNs_of_in X hok), PySem.W.nsMap_none_of_in X hok hni, PySem.W.tail_of_in X ht⟩
                cases q
  cases q
abbrev bmVE : List Value := [.type "ValueError", .type "Exception", .type "BaseException", .type "object"]
end L2
namespace Y
/-- raise C(..) -/
def sRaise (c : PySem.Str) : SF := fun _ => some (.ex c)
/-- a call of a def that raises nothing -/
def nx (F : FF) : FF := fun ds => match F ds with
  | some (.ok r) => some (.ok r)
  | _ => none
end Y
set_option Elab.async false
set_option linter.all false
set_option maxRecDepth 100000
namespace L2
open PySem PySem.Spec PyProof.Rows Y
/-- what is wanted where the class named c is raised -/
def EwX (mg : Str → Option Value) (E : XK) : Str → Hp → Prop := fun c H => ∀ C, mg c = some (.ref C) → E (.ref C) none H
section
variable {P : Program} {w : World} {K : PySem.W.Frag} {mg : Str → Option Value} {base : Heap} {N : List Str} {qual : Str} {scope : Scope} {f : Addr} {cd : Value} {A : Around} {outer : List Env} {s : Shared} {H : Hp} {E : XK}
theorem ds_raise {x : Str} {C : Addr} {np cpos pos : Pos} {z : Str} {j p2} (hg : Gl (cxOf (CX1 P w) P w K mg base N qual scope f cd A outer s H E) x) (hm : mg x = some (.ref C)) (hC : PySem.W.excIn K C bmVE "ValueError.__new__" = true) (hd : (x == ("__debug__" : Str)) = false := by decide) :
    DS (cxOf (CX1 P w) P w K mg base N qual scope f cd A outer s H E) K (EwX mg E) (.Raise (some (.Call (.Name x np) [.Constant (.str z) j p2] [] cpos)) none pos) (sRaise x) := by
  intro pins s1 σ H1 D I q
  obtain ⟨B, φ, Γ, r, q⟩ := q
  replace q : ∀ H', Same B H' → EwX mg E x H' := q
  obtain ⟨tl, N', nm, qn, bs, hdct, sn, sub, ab, col, dd, k0, k1, k2, k3, k5, mN, hC, hN, hni, T⟩ := excObj_of I.kIn hC
  refine wpAny_Raise_call_subT (C := C) (nm := nm) (q := qn) (N := N') (bs := bs) (bm := tl) (hdct := hdct) (sn := sn) (sub := sub) (ab := ab) (col := col) (dd := dd) (k0 := k0) (k1 := k1) (k2 := k2) (k3 := k3) (k5 := k5)
    PySem.F.excBase_ValueError (mN := mN) (T.hasType PySem.F.excBase_ValueError.hasBase) (I.ok.hd rfl) rfl hni (ld_glob I hg hm ⟨rfl, ?_⟩ hd)
  refine Calls.evalArgs_plain ?_
  refine spliced_more (Calls.Constant_str ?_) rfl
  refine spliced_none ?_
  have I2 := I.tok (s1.toks + 1)
  exact ⟨rfl, by show 1 ≤ sizeLine; decide, hC, hN, T, fun h' e hm' => xe_made I2 hm' (q H1 r.bs C hm)⟩
/-- calls that raise nothing, where others do -/
def spX (K : PySem.W.Frag) (mg : Str → Option Value) (n : Nat) (F : FF) : Sp := fun vs H Q E => ∃ ds, ds.length = n ∧ IsDs K H ds vs ∧ match F ds with
  | some (.ok (o, d)) => ∀ v H', Same H H' → RV K H H' o d v → Q v H'
  | some (.ex c) => ∀ H', Same H H' → EwX mg E c H'
  | none => False
theorem okX {x : Str} {st : Stmt} {f : Addr} {fd : FuncData} {N ps : List Str} (k n m : Nat) {fb : SF} (hn : N.length = n) (hm : ps.length = m) (F : Fun K x qual st f fd) (S : FnScope N ps (defScope st))
    (hbody : ∀ (cdv : Value) (A : Around) (outer : List Env) (s : Shared) (H : Hp) (E : XK), Room k (A.deeper (envOfC qual (defScope st) s.heap.objs.size f cdv)) →
      DSs (cxOf (CX1 P w) P w K mg base N qual (defScope st) f cdv A outer s H E) K (EwX mg E) (defBody st) fb) : FnOk P w K mg base (CX1 P w) (k + 1) f fd ps (spX K mg m (runF n fb)) := by
  subst hn hm
  obtain ⟨oc, od, kV, doc, pm, an, cdv, ct, osl, rfl, lk, hcd⟩ := F.ex
  refine fn_of lk hcd S (fun vs H Q E h => ?_) fun A outer s H vs Q E hr h => ⟨_, hbody cdv A outer s H E hr, ?_⟩
  · obtain ⟨ds, h1, h2, _⟩ := h
    rw [isDs_length h2]; exact h1
  · obtain ⟨ds, h1, h2, h3⟩ := h
    refine ⟨H, _, _, rep_start N h2, ?_⟩
    unfold runF at h3
    match hf : fb (startD N.length ds), h3 with
    | some (.ok (.rt o d)), h3 => exact h3
    | some (.ok (.nx Γ)), h3 =>
      exact fun B' φ σ H' s' r => h3 .non H' (s'.trans r.bs) (by unfold RV; rw [if_pos rfl]; exact ⟨[], IsD.toT _ _ rfl isD_non, List.nodup_nil, fun a ha => by cases ha⟩)
    | some (.ok (.bk Γ)), h3 => exact False.elim h3
    | some (.ok (.ct Γ)), h3 => exact False.elim h3
    | some (.ex c), h3 => exact h3
    | none, h3 => exact False.elim h3
end
section
variable {X : Cx} {K : PySem.W.Frag} {Ew : Str → Hp → Prop} {pos : Pos} {e : Expr} {es : List Expr}
theorem spD_nx {n : Nat} {F : FF} {vs : List V} {H : Hp} {Q : VK} {E : XK} (h : spD K n (nx F) vs H Q E) : spD K n F vs H Q E := by
  obtain ⟨ds, h1, h2, h3⟩ := h
  refine ⟨ds, h1, h2, ?_⟩
  unfold nx at h3
  match hF : F ds, h3 with
  | some (.ok (o, d)), h3 => exact h3
  | some (.ex c), h3 => exact h3
  | none, h3 => exact h3
theorem spX_nx {mg : Str → Option Value} {n : Nat} {F : FF} {vs : List V} {H : Hp} {Q : VK} {E : XK} (h : spD K n (nx F) vs H Q E) : spX K mg n F vs H Q E := by
  obtain ⟨ds, h1, h2, h3⟩ := h
  refine ⟨ds, h1, h2, ?_⟩
  unfold nx at h3
  match hF : F ds, h3 with
  | some (.ok (o, d)), h3 => exact h3
  | some (.ex c), h3 => exact h3.elim
  | none, h3 => exact h3.elim
/-- the callee raises nothing -/
theorem de_callN {n : Nat} {CX : CXT} {k : Nat} {f : Addr} {fd : FuncData} {ps : List Str} {F : FF} {x : Str} {p : Pos} {fes : List EF} {E : XK} (G : FnOk X.prog X.w X.K X.mg X.base CX k f fd ps (spD K n (nx F))) (hr : Room k X.A) (hg : Gl X x) (hm : X.mg x = some (.ref f)) (hk : PySem.W.keepIn X.K (.ref f) = true) (hb : Binds X.K fd ps []) (hx : Passes CX X E)
    (ha : DA X K Ew (e :: es) fes) (hn : fes.length = n := by rfl) (hdb : (x == ("__debug__" : Str)) = false := by decide) (he : starEach (e :: es) X.env = (false, eval e X.env) :: starEach es X.env := by rfl) (hpl : (backTo pos (starEach es X.env)).any (·.1) = false := by rfl) :
    DE X K Ew (.Call (.Name x p) (e :: es) [] pos) (eCall (nx F) fes) := (pe_call G hr hg hm hk hb .nil hx ha hdb he hpl).imp fun σ H Q q =>
  tA_head (g := fun (xs : List (Kd × PyData)) => mbind (nx F (xs.map Prod.snd)) fun r => mret (nrm (if r.1 = true then .fr [] else .any) r.2, r.2)) q fun B φ Γ xs vs H1 r r1 s hx' hv q => by
    rw [List.append_nil]
    refine ⟨xs.map Prod.snd, by rw [List.length_map, eArgs_len hx']; exact hn, hv.toD r.bs s, ?_⟩
    have hno : ∀ c, nx F (xs.map Prod.snd) ≠ some (.ex c) := fun c z => by
      unfold nx at z
      split at z <;> cases z
    match hF : nx F (xs.map Prod.snd), q with
    | some (.ok (o, d)), q =>
      intro v H' s' rv
      rcases q with ⟨k, d', e, q⟩ | ⟨c, e, q⟩
      · cases e
        refine q v H' (s.trans s') (VR.nrm (r1.bs.trans s') ?_)
        unfold RV at rv
        cases o with
        | true =>
          rw [if_pos rfl] at rv ⊢
          obtain ⟨as, h1, h2, h3⟩ := rv
          exact ⟨as, h1, h2, fun a ha => .inr (s.free (h3 a ha))⟩
        | false =>
          rw [if_neg Bool.false_ne_true] at rv ⊢
          exact rv
      · cases e
    | some (.ex c), q => exact absurd hF (hno c)
    | none, q => rcases q with ⟨k, d', e, q⟩ | ⟨c, e, q⟩ <;> cases e
end
/-- passing on where nothing is wanted of an exception: none comes -/
theorem passE0 {X : Cx} {P : Program} {w : World} : Passes (CX1 P w) X E0 := fun _ _ _ _ _ _ _ h => by
  obtain ⟨_, _, _, _, _, _, _, _, _, _, h⟩ := h
  exact h.elim
end L2
set_option Elab.async false
set_option linter.all false
set_option maxRecDepth 100000
/-! ### an exception that was kept: its class, isinstance -/
namespace L2
open PySem PySem.Spec PyProof.Rows Y PySem.Calls Builtin Builtin.ObjectAttr Builtin.Getset_descriptor
def ExAt (x D : Addr) (h : Heap) : Prop := ∃ ox, h.get? x = some ox ∧ ox.cls = .ref D
theorem ExAt.ty {x D : Addr} {M : Model} {h : Heap} (p : ExAt x D h) : PySem.W.Looks M h (typeOf (.ref x)) (.ref D) := by
  obtain ⟨ox, h1, h2⟩ := p
  exact h2 ▸ (PySem.W.Looks.ld h1).andThen .now
section
variable {prog : Program} {w : World} {A : Around} {E : Value → Shared → Prop} {s : Shared} {K : PySem.W.Frag} {x D : Addr}
theorem exc_getset {R : Result → Shared → Prop} {tp : Value} (X : K.In s.heap) (p : ExAt x D s.heap) (hm : PySem.W.mroIn K D (.type "object") = some true) (h : R (.ok (.ret (.ref D))) s) : codeAny (model prog w) A (.call (.builtin "getset_descriptor.__get__") ⟨[.builtin "object.__class__", .ref x, tp], []⟩) R s := by
  obtain ⟨hh, g, dr, t, os⟩ := s
  have L0 := p.ty (M := model prog w); have L1 := PySem.W.looks_mroIn (M := model prog w) X hm
  refine codeAny_call_builtin PySem.W.KF.slot_gs.plain PySem.W.KF.entry_gs (PySem.W.KF.slot_gs.check _ _ _ _ _ _ _ _ PySem.W.KF.type_class (PySem.W.KF.args_gs _ _ _) ?_)
  unfold Builtin.«getset_descriptor.__get__» descrGet; rw [PySem.W.dga_obj]; refine wpAny_bind (wpAny_pure ?_)
  unfold descrGetter descrCheckInstance descrNameAndClass isInstance; simp only [PySem.W.KF.owner_class]; repeat lk
  refine ⟨Code.quiet_builtin _ (by decide +kernel), codeAny_builtin PySem.W.KF.entry_class ?_⟩; unfold Builtin.«object.__class__» shownTypeOf; repeat lk
  exact h
/-- what is known of the class of an exception -/
structure ExcK (K : PySem.W.Frag) (D : Addr) : Prop where
  ga : PySem.W.findIn K (.ref D) "__getattribute__" = some (some (.builtin "BaseException.__getattribute__"))
  gh : PySem.W.findIn K (.ref D) "__getattr__" = some none
  ca : PySem.W.findIn K (.ref D) "__class__" = some (some (.builtin "object.__class__"))
  ge : PySem.W.specialIn K (.builtin "object.__class__") "__get__" = some (some (.builtin "getset_descriptor.__get__"))
  tk : PySem.W.takesIn K (.builtin "object.__class__") = some true
  ob : PySem.W.mroIn K D (.type "object") = some true
  be : PySem.W.mroIn K D (.type "BaseException") = some true
theorem exc_find {M : Model} {h : Heap} (X : K.In h) (G : ExcK K D) : PySem.W.Looks M h (find (.ref x) (.ref D) "__class__") (.bind (.builtin "getset_descriptor.__get__") (.builtin "object.__class__")) := by
  have L1 := PySem.W.looks_findIn (M := M) X G.ca
  have L2 : PySem.W.Looks M h (getOf (some (.builtin "object.__class__"))) (some (.builtin "getset_descriptor.__get__")) := PySem.W.looks_specialIn X G.ge
  have L3 := PySem.W.looks_takesIn (M := M) X G.tk
  have L4 : PySem.W.Looks M h (dataDescriptor? (some (.builtin "object.__class__")) (some (.builtin "getset_descriptor.__get__"))) (some (.builtin "getset_descriptor.__get__", .builtin "object.__class__")) := L3.andThen .now
  exact L1.andThen (L2.andThen (L4.andThen (PySem.W.Looks.tag .now)))
theorem exc_check {M : Model} {nv : Value} {Q : Unit → Shared → Prop} (X : K.In s.heap) (p : ExAt x D s.heap) (G : ExcK K D) (q : Q () s) : wpAny M A (checkBuiltinCall "BaseException.__getattribute__" ⟨[.ref x, nv], []⟩) Q E s := by
  have hk : builtinKind "BaseException.__getattribute__" = some .slot := by decide +kernel
  have hs : splitId "BaseException.__getattribute__" = some ("BaseException", "__getattribute__") := by decide +kernel
  have L1 := PySem.W.looks_mroIn (M := M) X G.be
  simp only [checkBuiltinCall, hk, hs]
  unfold isInstance
  refine wpAny_bind (wpAny_bind (p.ty.here (L1.here ?_)))
  simp only [Bool.not_true, Bool.false_eq_true, if_false]
  have ha := PySem.F.args_bexc_ga (.ref x) nv
  unfold argsOk at ha
  split <;> rename_i hsig
  · rw [hsig] at ha
    first
      | exact wpAny_of_eq ha q
      | (have h2 : Bind.checkArgs _ _ _ = pure () := ha; rw [h2]; exact wpAny_pure q)
  · exact wpAny_pure q
theorem exc_entry {tk : Tok} {Q : Fin → Shared → Prop} (X : K.In s.heap) (p : ExAt x D s.heap) (G : ExcK K D) (q : Q (.done (.ret (.ref D))) s) : wpAny (model prog w) A (Builtin.«object.__getattribute__» ⟨[.ref x, .str "__class__" tk], []⟩) Q E s := by
  obtain ⟨hh, g, d, t, os⟩ := s
  have L0 := p.ty (M := model prog w)
  have L1 := exc_find (M := model prog w) (x := x) X G
  refine wpAny_bind (wpAny_pure (wpAny_bind (wpAny_pure (wpAny_bind (L0.at (wpAny_bind (L1.at ?_)))))))
  show wpAny _ _ (bindTo _ _ _ _) _ _ _
  show wpAny _ _ (holding [_] (call (.builtin "getset_descriptor.__get__") [.builtin "object.__class__", .ref x, .ref D]) >>= ret) _ _ _
  exact wpAny_bind (wpAny_holding (wpAny_call (exc_getset X p G.ob (wpAny_pure q))))
theorem exc_cls {Q : Option Value → Shared → Prop} (X : K.In s.heap) (p : ExAt x D s.heap) (G : ExcK K D) (h : Q (some (.ref D)) { s with toks := s.toks + 1 }) : wpAny (model prog w) A (getAttr? (.ref x) "__class__") Q E s := by
  obtain ⟨hh, g, d, t, os⟩ := s
  have L0 := p.ty (M := model prog w)
  have L1 := PySem.W.looks_findIn (M := model prog w) X G.ga
  have L2 := PySem.W.looks_findIn (M := model prog w) X G.gh
  unfold getAttr? getAttrBy? getAttrBy
  refine wpAny_bind (wpAny_mkText (wpAny_bind (wpAny_attempt (wpAny_holding (wpAny_bind (L0.at (wpAny_bind (L1.at ?_))))))))
  show wpAny _ _ (getAttrByItsOwn _ _ _ _ _ _) _ _ _
  unfold getAttrByItsOwn
  refine wpAny_bind (m := hookBefore (.ref D)) ?_
  show wpAny _ _ (typeLookup (.ref D) "__getattr__") _ _ _
  refine L2.at ?_
  refine wpAny_bind (wpAny_attempt (wpAny_holding ?_))
  show wpAny _ _ (boundAndCalled _ _ _) _ _ _
  unfold boundAndCalled
  refine wpAny_bind (wpAny_of_eq (PySem.F.attr_ValueError.ga.bind (.ref x)) ?_)
  refine wpAny_call (codeAny_call_builtin PySem.F.attr_ValueError.ga.plain F.entry_bexc_ga (exc_check (K := K) X p G (exc_entry X p G ?_)))
  exact wpAny_pure (wpAny_pure h)
theorem kitx_exc (G : ExcK K D) : PySem.W.KitX K (.ref x) (.ref D) (ExAt x D) := by
  have hcl : ∃ cd, PySem.W.clsIn K D = some cd := by
    obtain ⟨cd, h, _⟩ := Option.bind_eq_some_iff.mp G.ob
    exact ⟨cd, h⟩
  obtain ⟨cd, hcl⟩ := hcl
  unfold PySem.W.clsIn at hcl
  split at hcl
  case h_2 => cases hcl
  rename_i c' d' cd' sl' ho
  exact { ty := fun _ _ _ p => p.ty
          it := fun _ _ X _ => fun A' Q' E' s' k q => by
            unfold isType loadHead
            exact wpAny_bind (wpAny_loadPart (k _ _ (X _ _ ho)) (wpAny_pure q))
          ne := fun h tp dd its n sl X htp => Bool.eq_false_iff.mpr fun q => by
            have e : D = tp := Value.ref.inj (beq_iff_eq.mp q)
            subst e
            have z := (X _ _ ho).symm.trans htp
            cases z
          ca := fun X p k => exc_cls X p G k }
end
end L2
set_option Elab.async false
set_option linter.all false
set_option maxRecDepth 100000
/-! ### try: f(..) / except C as e: kept = e, and a return behind it -/
namespace Y
def sCatch (ik : Nat) (F : FF) (fs : List EF) (r : Option PySem.Str → Option Bool) : SF := fun Γ => match Γ[ik]? with
  | some (some (_, .none)) => (match eArgs fs Γ with
    | some (.ok xs) => (match F (xs.map Prod.snd) with
      | some (.ok _) => (match r none with
        | some b => mret (.rt true (.bool b))
        | none => none)
      | some (.ex c) => (match r (some c) with
        | some b => mret (.rt true (.bool b))
        | none => none)
      | none => none)
    | _ => none)
  | _ => none
end Y
namespace L2
open PySem PySem.Spec PyProof.Rows Y
section
variable {X : Cx} {pins : List (Addr × Obj)} {σ : St} {H : Hp} {s : Shared}
/-- a thing that lies there is tracked from now on -/
theorem Inv.track {a : Addr} {o : HO} (I : Inv X pins σ H s) (hn : H a = none) (new : X.s₀.heap.get? a = none) (hl : a ≠ X.env.locals) (hc : ∀ x c, X.env.cells.lookup x = some c → c ≠ a) (hp : ∀ p ∈ X.pn ++ pins, p.1 ≠ a)
    (ok : ObjOk X.prog X.w (upd H a o) s.heap a o) : Inv X pins σ (upd H a o) s where
  ok := I.ok
  os := I.os
  bare := I.bare
  base := ⟨I.base.keep, I.base.slot, fun b ob e n hx => by rw [upd_ne (fun z => by rw [z, new] at e; cases e)]; exact I.base.free b ob e n hx, I.base.there, fun b xs q => by have z := I.base.tups b xs q; rw [upd_ne (ne_of_none z hn)]; exact z,
    fun b u xs q => by have z := I.base.frzs b u xs q; rw [upd_ne (ne_of_none z hn)]; exact z, fun b ps q => by obtain ⟨m, z⟩ := I.base.tbls b ps q; exact ⟨m, by rw [upd_ne (ne_of_none z hn)]; exact z⟩⟩
  loc := I.loc
  cell := I.cell
  free := by rw [upd_ne (Ne.symm hl)]; exact I.free
  freeC := fun x c e => by rw [upd_ne (hc x c e)]; exact I.freeC x c e
  pin := fun p h => by
    obtain ⟨h1, h2, h3⟩ := I.pin p h
    exact ⟨h1, by rw [upd_ne (hp p h)]; exact h2, h3⟩
  hok := fun b u e => by
    by_cases hb : b = a
    · subst hb; rw [upd_same] at e; cases e; exact ok
    · rw [upd_ne hb] at e
      exact (I.hok b u e).stay (fun _ _ _ q => q) (fun c q => by rw [upd_ne (ne_of_none q hn)]; exact q) fun c xs q => by rw [upd_ne (ne_of_none q hn)]; exact q
  len := I.len
/-- a local name goes -/
theorem Inv.gone {i : Nat} {x : Str} {m : Str → Option Value} {v : Option Value} {h' : Heap} {t : Nat} (I : Inv X pins σ H s) (hN : X.N.Nodup) (hi : X.N[i]? = some x)
    (hl : ∀ (j : Nat) (y : Str) (w : V), X.N[j]? = some y → σ[j]? = some (some w) → Vis X.env.scope y → ∃ u, RelV w u ∧ Look X.env s.heap m y u)
    (hn : h'.Ns X.env.locals (fun y => if y = x then v else m y)) (hs : Heap.SameBut X.env.locals s.heap h') : Inv X pins (σ.set i none) H { s with heap := h', toks := t } := by
  have nL : ∀ b o, X.s₀.heap.get? b = some o → b ≠ X.env.locals := fun b o e => Nat.ne_of_lt (Nat.lt_of_lt_of_le (Heap.lt_size e) I.ok.above)
  exact {
    ok := I.ok
    os := I.os
    bare := I.bare
    base := ⟨fun b o e n hb hx => (hs.2 b (nL b o e)).trans (I.base.keep b o e n hb hx), fun b o e n hb hx => by obtain ⟨sl, z⟩ := I.base.slot b o e n hb hx; exact ⟨sl, (hs.2 b (nL b o e)).trans z⟩, I.base.free,
      fun b o e hx => by obtain ⟨o', z⟩ := I.base.there b o e hx; exact ⟨o', (hs.2 b (nL b o e)).trans z⟩, I.base.tups, I.base.frzs, I.base.tbls⟩
    loc := ⟨_, hn, fun j y w e1 e2 e3 => by
      by_cases hj : j = i
      · subst hj
        exfalso
        have hlt : j < σ.length := by rw [I.len]; exact (List.getElem?_eq_some_iff.mp hi).1
        rw [List.getElem?_set_self hlt] at e2
        cases e2
      · rw [List.getElem?_set_ne (Ne.symm hj)] at e2
        obtain ⟨u, r, q⟩ := hl j y w e1 e2 e3
        refine ⟨u, r, ?_⟩
        rcases q with ⟨k, e⟩ | ⟨k, c, e, z⟩
        · have ne : y ≠ x := fun e => hj (nodup_ix hN e1 (e ▸ hi))
          exact .inl ⟨k, by show (if y = x then v else m y) = some u; rw [if_neg ne]; exact e⟩
        · exact .inr ⟨k, c, e, z.sameBut hs (I.cne y c e)⟩⟩
    cell := fun y c e => by obtain ⟨w', z⟩ := I.cell y c e; exact ⟨w', z.sameBut hs (I.cne y c e)⟩
    free := I.free
    freeC := I.freeC
    pin := fun p hp => by obtain ⟨e, n, ne, nf, d⟩ := I.pin p hp; exact ⟨(hs.2 p.1 ne).trans e, n, ne, nf, d⟩
    hok := fun b u e => (I.hok b u e).stay (fun c w' hc q => (hs.2 c (by
      rintro rfl
      rcases hc with rfl | hc
      · rw [I.free] at e; cases e
      · rw [I.free] at hc; cases hc)).trans q) (fun _ q => q) fun _ _ q => q
    len := by rw [List.length_set]; exact I.len }
/-- within an except suite -/
abbrev Cx.held (X : Cx) (e : Value) : Cx := { X with A := X.A.mark (some e), calm := false, xe := fun _ _ => False }
theorem Inv.held (I : Inv X pins σ H s) (e : Value) : Inv (X.held e) pins σ H s :=
  ⟨⟨I.ok.mod, I.ok.kind, I.ok.glob, I.ok.blt, I.ok.above, I.ok.inj, I.ok.has, I.ok.cab, fun z => (Bool.false_ne_true z).elim, I.ok.frames, I.ok.stk, I.ok.exf, I.ok.bs, I.ok.bsz, I.ok.noex, I.ok.exfs, I.ok.funs, I.ok.frf⟩, I.os, I.bare, I.base, I.loc, I.cell, I.free, I.freeC, I.pin, I.hok, I.len⟩
theorem Inv.unheld {e : Value} (I : Inv (X.held e) pins σ H s) (hd : X.calm = true → X.A.handled = none) : Inv X pins σ H s :=
  ⟨⟨I.ok.mod, I.ok.kind, I.ok.glob, I.ok.blt, I.ok.above, I.ok.inj, I.ok.has, I.ok.cab, hd, I.ok.frames, I.ok.stk, I.ok.exf, I.ok.bs, I.ok.bsz, I.ok.noex, I.ok.exfs, I.ok.funs, I.ok.frf⟩, I.os, I.bare, I.base, I.loc, I.cell, I.free, I.freeC, I.pin, I.hok, I.len⟩
end
end L2
set_option Elab.async false
set_option linter.all false
set_option maxRecDepth 100000
namespace L2
open PySem PySem.Spec PyProof.Rows Y
section
variable {X : Cx} {pins : List (Addr × Obj)} {σ : St} {H H' : Hp} {s s' : Shared} {B' : Heap} {ea C t : Addr}
/-- an exception that comes out of a call here: it is new -/
theorem thrown_new (I : Inv X pins σ H s) (hex : X.ex = []) (T : Thr X.prog X.w X.stack H s.heap H' B' s'.heap) (fl : Heap.FlyingW B' X.stack ea (.ref C) (.ref t) s'.heap) (hst : X.stack = X.env :: X.outer) (hfr : X.env.frame = some X.env.locals) :
    H' ea = none ∧ X.s₀.heap.get? ea = none ∧ (∀ p ∈ X.pn ++ pins, p.1 ≠ ea) := by
  obtain ⟨oe, vs, h1, h2, h3, h4⟩ := fl.first
  have nfr : ea ∉ frs X.stack := fun hb => by
    obtain ⟨_, o, ho, hd⟩ := fl.2.2.1.mem hb
    rw [h1] at ho; cases ho
    exact hd vs h3
  have nB : B'.get? ea = none := fl.2.1
  refine ⟨?_, ?_, fun p hp z => ?_⟩
  · cases q : H' ea with
    | none => rfl
    | some o =>
      obtain ⟨ob, z⟩ := (T.hok ea o q).got
      rw [nB] at z; cases z
  · cases q : X.s₀.heap.get? ea with
    | none => rfl
    | some o =>
      obtain ⟨o', z⟩ := I.base.there ea o q (by rw [hex]; simp)
      obtain ⟨o2, z2⟩ := T.there ea o' z nfr
      rw [nB] at z2; cases z2
  · obtain ⟨e, n, ne, nf, d⟩ := I.pin p hp
    rw [z] at e n
    have z2 := T.keep ea p.2 e n nfr
    rw [nB] at z2; cases z2
/-- the suite `kept = e` of the handler -/
theorem caught {cls ne nk : Str} {ie ik : Nat} {D0 : Addr} {np kp vp ap hp : Pos} {Q : Flow → Shared → Prop} {E : Value → Shared → Prop} (I : Inv X pins σ H s) (hex : X.ex = []) (os : s'.os = s.os) (bare : AllBare s'.gens) (T : Thr X.prog X.w X.stack H s.heap H' B' s'.heap)
    (fl : Heap.FlyingW B' X.stack ea (.ref C) (.ref t) s'.heap) (hst : X.stack = X.env :: X.outer) (hfr : X.env.frame = some X.env.locals) (hgc : Gl X cls) (hmc : X.mg cls = some (.ref D0)) (hexm : PySem.W.exmOne X.K (.ref C) (.ref D0) = some true)
    (hN : X.N.Nodup) (hie : X.N[ie]? = some ne) (hle : X.env.scope.names.lookup ne = some .local) (hik : X.N[ik]? = some nk) (hlk : X.env.scope.names.lookup nk = some .local) (hke : ie ≠ ik)
    (hs : swapsWith (.Name ne vp) (some (.Name nk kp)) ap.line X.env = pure false) (hd : (cls == ("__debug__" : Str)) = false) (hd2 : (ne == ("__debug__" : Str)) = false) (hd3 : (ne == ("__classdict__" : Str)) = false)
    (hq : ∀ s2, Inv X pins (((σ.set ie (some (.ref ea))).set ik (some (.ref ea))).set ie none) (upd H' ea (.ext (ExAt ea C))) s2 → Q .next s2) :
    wpAny (model X.prog X.w) X.A (noteFrame (.ref ea) X.env) (fun _ s₂ => wpAny (model X.prog X.w) X.A (setFlight (.ref ea) none) (fun _ s₃ =>
      wpAny (model X.prog X.w) X.A (handleBy (.ref ea) X.env [.ExceptHandler (some (.Name cls np)) (some ne) [.Assign [.Name nk kp] (.Name ne vp) ap] hp]) Q E s₃) E s₂) E s' := by
  obtain ⟨hn1, hn2, hn3⟩ := thrown_new I hex T fl hst hfr
  have fr := I.ok.frames
  have fl0 := fl
  rw [hst] at fl fr
  refine wpAny_looks_onW fr hfr fl fun h4 hheld up4 => ?_
  refine wpAny_landsW hheld fun h5 fl5 up5 => ?_
  have inv : ∀ h6, Heap.FlyingW B' (X.env :: X.outer) ea (.ref C) (.ref t) h6 → s'.heap.UpToSlots h6 → Inv X pins σ H' { s' with heap := h6 } := fun h6 f6 up6 =>
    I.call' (ch := []) os (T.un I.stkFree fl0.2.2.1 f6.1 up6) (T.hok.kept f6.1) bare fun b hb => by cases hb
  have J5 := inv h5 fl5 (up4.trans up5)
  refine wpAny_handleBy_cons (codeAny_handlers_test (ld_glob (X := X.held (.ref ea)) (J5.held (.ref ea)) hgc hmc ?_ hd)) (by intro q; cases q)
  obtain ⟨oe5, vs5, e5, c5, _⟩ := fl5.first
  refine (PySem.W.exm_one (M := model X.prog X.w) J5.kIn (ExAt.ty ⟨oe5, e5, c5⟩) hexm).here ?_
  refine codeAny_handlers_suite_as ?_
  refine lands_againW fl5 fun h6 fl6 up6 => ?_
  have J6 := inv h6 fl6 ((up4.trans up5).trans up6)
  obtain ⟨oe, vs, h1, h2, h3, h4⟩ := fl6.first
  have K6 : Inv X pins σ (upd H' ea (.ext (ExAt ea C))) { s' with heap := h6 } := J6.track hn1 hn2
    (fun z => by
      obtain ⟨m, ⟨o, es, ep, e, d, _⟩, _⟩ := J6.loc
      rw [← z] at e
      have e' : h6.get? ea = some o := e
      rw [h1] at e'; cases e'; rw [h3] at d; cases d)
    (fun x c e z => by
      obtain ⟨v, o, e1, d⟩ := J6.cell x c e
      rw [z] at e1
      have e' : h6.get? ea = some o := e1
      rw [h1] at e'; cases e'; rw [h3] at d; cases d) hn3
    ⟨⟨oe, h1, h2⟩, ⟨oe, h1⟩, fun g1 g2 p k => by obtain ⟨o, e, c⟩ := p; exact ⟨o, k o e, c⟩⟩
  refine store_ok (X := X.held (.ref ea)) (K6.held (.ref ea)) hN hie (.inl hle) (v := .ref ea) rfl (fun s7 I7 => ?_) (.inr hle)
  have st := ps_set (X := X.held (.ref ea)) (pos := ap) hN hik (.inl hlk) (pe_var (pos := vp) hie (.inl hle) hd2 hd3) hs (.inr hlk)
  have hlt : ie < σ.length := by rw [I.len]; exact (List.getElem?_eq_some_iff.mp hie).1
  have r7 := (pss_one st) pins s7 _ _ { nx := fun σ' H'' => σ' = (σ.set ie (some (.ref ea))).set ik (some (.ref ea)) ∧ H'' = upd H' ea (.ext (ExAt ea C)), rt := fun _ _ => False } I7 ⟨.ref ea, by rw [List.getElem?_set_self hlt], ⟨rfl, rfl⟩⟩
  refine wpAny_mono r7 (fun f s8 q8 => ?_) fun _ _ z => False.elim z
  cases f with
  | next =>
    obtain ⟨σ', H'', I8, rfl, rfl⟩ := q8
    have J8 := I8.unheld I.ok.hd
    obtain ⟨m, hn, hl⟩ := id J8.loc
    refine wpAny_nameGoes_keeps hle hn (by rw [I.ok.kind]; rfl) fun h9 v hn9 hs9 => ?_
    exact hq _ (J8.gone hN hie hl hn9 hs9)
  | brk => obtain ⟨_, _, _, z⟩ := q8; exact False.elim z
  | cont => obtain ⟨_, _, _, z⟩ := q8; exact False.elim z
  | ret u => obtain ⟨_, _, _, _, _, z⟩ := q8; exact False.elim z
end
end L2
set_option Elab.async false
set_option linter.all false
set_option maxRecDepth 100000
namespace L2
open PySem PySem.Spec PyProof.Rows Y
section
variable {X : Cx} {K : PySem.W.Frag} {Ew : Str → Hp → Prop} {pos : Pos} {e : Expr} {es : List Expr}
theorem dss_catch {n k ie ik : Nat} {f D0 : Addr} {fd : FuncData} {ps : List Str} {F : FF} {x cls ne nk : Str} {p np kp vp ap hp tp xp rp : Pos} {fes : List EF} {r : Option Str → Option Bool} {ret : Expr}
    (G : FnOk X.prog X.w X.K X.mg X.base (CX1 X.prog X.w) k f fd ps (spX K X.mg n F)) (hr : Room k X.A) (hg : Gl X x) (hm : X.mg x = some (.ref f)) (hk : PySem.W.keepIn X.K (.ref f) = true) (hb : Binds X.K fd ps [])
    (ha : DA X.nox K Ew0 (e :: es) fes) (hn : fes.length = n) (hex : X.ex = []) (hst : X.stack = X.env :: X.outer) (hfr : X.env.frame = some X.env.locals) (hgc : Gl X cls) (hmc : X.mg cls = some (.ref D0))
    (hexm : ∀ c C b, r (some c) = some b → X.mg c = some (.ref C) → PySem.W.exmOne X.K (.ref C) (.ref D0) = some true)
    (hN : X.N.Nodup) (hie : X.N[ie]? = some ne) (hle : X.env.scope.names.lookup ne = some .local) (hik : X.N[ik]? = some nk) (hlk : X.env.scope.names.lookup nk = some .local) (hke : ie ≠ ik)
    (hE0 : ∀ b, r none = some b → PE X ret (fun σ H Q => σ[ik]? = some (some .non) ∧ ∀ H', Same H H' → Q (.bl b) H'))
    (hE1 : ∀ c C b, r (some c) = some b → X.mg c = some (.ref C) → PE X ret (fun σ H Q => ∃ ea, σ[ik]? = some (some (.ref ea)) ∧ H ea = some (.ext (ExAt ea C)) ∧ ∀ H', Same H H' → Q (.bl b) H'))
    (hs : swapsWith (.Name ne vp) (some (.Name nk kp)) ap.line X.env = pure false := by rfl) (hs2 : swapsWith (.Call (.Name x p) (e :: es) [] pos) none xp.line X.env = pure false := by rfl)
    (hd : (cls == ("__debug__" : Str)) = false := by decide) (hd2 : (ne == ("__debug__" : Str)) = false := by decide) (hd3 : (ne == ("__classdict__" : Str)) = false := by decide) (hdb : (x == ("__debug__" : Str)) = false := by decide)
    (he : starEach (e :: es) X.env = (false, eval e X.env) :: starEach es X.env := by rfl) (hpl : (backTo pos (starEach es X.env)).any (·.1) = false := by rfl) (hK : X.K = K := by rfl) :
    DSs X K Ew [.Try [.Expr (.Call (.Name x p) (e :: es) [] pos) xp] [.ExceptHandler (some (.Name cls np)) (some ne) [.Assign [.Name nk kp] (.Name ne vp) ap] hp] [] [] tp, .Return (some ret) rp] (sCatch ik F fes r) := by
  intro pins s σ H D I q
  obtain ⟨B, φ, Γ, r0, q⟩ := q
  unfold sCatch at q
  match hik0 : Γ[ik]?, q with
  | some (some (o, .none)), q =>
    have hnon : σ[ik]? = some (some .non) := by
      obtain ⟨v, h1, h2⟩ := r0.sl ik o .none hik0
      have hv : v = .non := by
        cases o with
        | true => rw [if_pos rfl] at h2; exact of_isD_non (IsT.toD _ _ _ h2)
        | false => rw [if_neg Bool.false_ne_true] at h2; exact of_isD_non h2
      rw [hv] at h1; exact h1
    match hxs : eArgs fes Γ, q with
    | some (.ok xs), q =>
      dsimp only at q
      let post : Flow → Shared → Prop := fun f s1 => f = .next ∧ ∃ b σ1 H1, Same B H1 ∧ Inv X pins σ1 H1 s1 ∧ (∀ v H', Same B H' → RV K B H' true (.bool b) v → D.rt v H') ∧ ((r none = some b ∧ σ1[ik]? = some (some .non)) ∨ (∃ c C ea, r (some c) = some b ∧ X.mg c = some (.ref C) ∧ σ1[ik]? = some (some (.ref ea)) ∧ H1 ea = some (.ext (ExAt ea C))))
      have hTry : wpAny (model X.prog X.w) X.A (exec (.Try [.Expr (.Call (.Name x p) (e :: es) [] pos) xp] [.ExceptHandler (some (.Name cls np)) (some ne) [.Assign [.Name nk kp] (.Name ne vp) ap] hp] [] [] tp) X.env) post X.xe s := ?tr
      refine wpAny_execs_cons (wpAny_mono hTry (fun fw s1 q1 => ?_) fun _ _ z => z)
      next =>
        obtain ⟨rfl, b, σ1, H1, sB, I1, hD, q1⟩ := q1
        have fin : ∀ (hp : PE X ret (fun σ H Q => (∀ H', Same H H' → Q (.bl b) H') ∧ σ = σ1 ∧ H = H1)), wpAny (model X.prog X.w) X.A (execs [.Return (some ret) rp] X.env) (SP X pins D) X.xe s1 := fun hp =>
          (pss_one (ps_ret hp)) pins s1 σ1 H1 D I1 ⟨fun H' s' => hD _ _ (sB.trans s') (by unfold RV; rw [if_pos rfl]; exact ⟨[], IsD.toT _ _ rfl isD_bl, List.nodup_nil, fun a ha => by cases ha⟩), rfl, rfl⟩
        rcases q1 with ⟨e0, e1⟩ | ⟨c, C, ea, e0, e1, e2, e3⟩
        · exact fin ((hE0 b e0).imp fun σ' H' Q' z => ⟨z.2.1 ▸ e1, z.1⟩)
        · exact fin ((hE1 c C b e0 e1).imp fun σ' H' Q' z => ⟨ea, z.2.1 ▸ e2, z.2.2 ▸ e3, z.1⟩)
      case tr =>
        refine wpAny_Try_except ?_
        have out : ∀ (us : List Value) (s1 : Shared) (vs : List V) (H1 : Hp), Inv X pins σ H1 s1 → Vals vs us → Same H H1 → IsDs K H1 (xs.map Prod.snd) vs →
            wpAny (model X.prog X.w) X.A (call (.ref f) us) (fun _ s2 => ∃ b H2, Same B H2 ∧ Inv X pins σ H2 s2 ∧ (∀ v H', Same B H' → RV K B H' true (.bool b) v → D.rt v H') ∧ r none = some b)
              (fun ex s2 => ∃ ea C t B' H' c b, ex = .ref ea ∧ s2.os = s1.os ∧ AllBare s2.gens ∧ Thr X.prog X.w X.stack H1 s1.heap H' B' s2.heap ∧ Heap.FlyingW B' X.stack ea (.ref C) (.ref t) s2.heap ∧ Same B H' ∧ X.mg c = some (.ref C) ∧ r (some c) = some b ∧
                (∀ v H', Same B H' → RV K B H' true (.bool b) v → D.rt v H') ∧ Inv X pins σ H1 s1) s1 := fun us s1 vs H1 I1 rv sH hds => by
          have hlen : us.length = ps.length := by
            rw [← rv.length, isDs_length hds]
            have := G.len vs H1 (fun _ _ => True) (fun _ _ _ => True) ⟨xs.map Prod.snd, by rw [List.length_map, eArgs_len hxs]; exact hn, hds, by
              cases hF : F (xs.map Prod.snd) with
              | none => rw [hF] at q; exact False.elim q
              | some z => cases z with
                | ok z => obtain ⟨o, d⟩ := z; exact fun _ _ _ _ => trivial
                | ex c => exact fun _ _ _ _ => trivial⟩
            rw [isDs_length hds] at this
            exact this
          have hbd := hb s1 us I1.kIn (by rw [List.append_nil]; exact hlen)
          rw [List.append_nil] at hbd
          match hF : F (xs.map Prod.snd), q with
          | some (.ok (o, d)), q =>
            dsimp only at q
            match hr0 : r none, q with
            | some b, q =>
              refine wpAny_call (codeAny_mono (G.run X.A X.stack s1 H1 ⟨us, []⟩ us vs (fun _ H' => Same H1 H') (fun _ _ _ => False) hr I1.env0 hbd rv ⟨xs.map Prod.snd, by rw [List.length_map, eArgs_len hxs]; exact hn, hds, by rw [hF]; exact fun v H' s' _ => s'⟩) fun res s2 hq => ?_)
              cases res with
              | error ex => obtain ⟨_, _, _, _, _, _, _, _, _, _, z⟩ := hq; exact z.elim
              | ok fl =>
                cases fl with
                | ret u =>
                  obtain ⟨v, H2, I2, _, s2'⟩ := I1.after hq
                  exact ⟨b, H2, (r0.bs.trans sH).trans s2', I2, q, rfl⟩
                | next => exact False.elim hq
                | brk => exact False.elim hq
                | cont => exact False.elim hq
            | none, q => exact False.elim q
          | some (.ex c), q =>
            dsimp only at q
            match hr0 : r (some c), q with
            | some b, q =>
              refine wpAny_call (codeAny_mono (G.run X.A X.stack s1 H1 ⟨us, []⟩ us vs (fun _ H' => False) (fun cl _ H' => X.mg c = some cl ∧ Same H1 H') hr I1.env0 hbd rv ⟨xs.map Prod.snd, by rw [List.length_map, eArgs_len hxs]; exact hn, hds, by rw [hF]; exact fun H' s' C hC => ⟨hC, s'⟩⟩) fun res s2 hq => ?_)
              cases res with
              | error ex =>
                obtain ⟨ea, C, t, B', H', rfl, os, bare, T, fl, hc, sm⟩ := hq
                exact ⟨ea, C, t, B', H', c, b, rfl, os, bare, T, fl, (r0.bs.trans sH).trans sm, hc, hr0, q, I1⟩
              | ok fl =>
                cases fl with
                | ret u => obtain ⟨_, _, _, _, z⟩ := I1.after hq; exact False.elim z
                | next => exact False.elim hq
                | brk => exact False.elim hq
                | cont => exact False.elim hq
            | none, q => exact False.elim q
          | none, q => exact False.elim q
        refine wpAny_execs_cons (wpAny_Expr_any (wpAny_Call_Name_kw (ld_glob I hg hm ?_ hdb)) I.quiet hs2)
        refine PySem.W.callWith_K (h₀ := X.base) I.ok.mod.kin hk (wpAny_mono (ha pos pins s σ H (fun vs H1 => Same H H1 ∧ IsDs K H1 (xs.map Prod.snd) vs) (I.wish _) ⟨B, φ, Γ, r0, by rw [hxs]; exact fun vs H' s' hv => ⟨s', hv.toD r0.bs s'⟩⟩) (fun us s1 z => ?_) fun _ _ z => False.elim z) he hpl
        obtain ⟨vs, H1, I1, rv, sH, hds⟩ := z
        have I1 := I1.unwish
        refine ⟨I1.kIn, wpAny_mono (out us s1 vs H1 I1 rv sH hds) (fun u s2 z => ?_) fun ex s2 z => ?_⟩
        · obtain ⟨b, H2, sB, I2, hD, h0⟩ := z
          exact wpAny_execs_nil (wpAny_execs_nil ⟨rfl, b, σ, H2, sB, I2, hD, .inl ⟨h0, hnon⟩⟩)
        · obtain ⟨ea, C, t, B', H', c, b, rfl, os, bare, T, fl, sB, hc, hr0, hD, I1⟩ := z
          have hn1 := (thrown_new I1 hex T fl hst hfr).1
          have hlt : ik < σ.length := by rw [I.len]; exact (List.getElem?_eq_some_iff.mp hik).1
          exact caught I1 hex os bare T fl hst hfr hgc hmc (hexm c C b hr0 hc) hN hie hle hik hlk hke hs hd hd2 hd3 fun s9 I9 => ⟨rfl, b, _, _, sB.trans (Same.upd hn1), I9, hD, .inr ⟨c, C, ea, hr0, hc, by rw [List.getElem?_set_ne hke, List.getElem?_set_self (by rw [List.length_set]; exact hlt)], upd_same⟩⟩
    | some (.ex c), q => exact False.elim q
    | none, q => exact False.elim q
  | some (some (o, .bool _)), q => exact False.elim q
  | some (some (o, .int _)), q => exact False.elim q
  | some (some (o, .str _)), q => exact False.elim q
  | some (some (o, .list _)), q => exact False.elim q
  | some (some (o, .tuple _)), q => exact False.elim q
  | some (some (o, .dict _)), q => exact False.elim q
  | some none, q => exact False.elim q
  | none, q => exact False.elim q
end
end L2
set_option Elab.async false
set_option linter.all false
set_option maxRecDepth 100000
namespace L2
open PySem PySem.Spec PyProof.Rows Y
/-- the type of None, of an exception that was kept -/
def KnT (K : PySem.W.Frag) (H : Hp) (v : V) (ty : Value) : Prop := (v = .non ∧ ty = .type "NoneType") ∨ ∃ ea C, v = .ref ea ∧ H ea = some (.ext (ExAt ea C)) ∧ ExcK K C ∧ ty = .ref C
theorem kitOne_of {K : PySem.W.Frag} {D : Addr} {ty : Value} {b : Bool} (i : PySem.W.isClsIn K D = true) (t : PySem.W.typeIn K (.ref D) = some (.type "type")) (u : PySem.W.subIn K ty (.ref D) = some b) (h : (ty == .ref D) = true → b = true) : PySem.W.kitOne K ty (.ref D) = some b := by
  unfold PySem.W.kitOne
  by_cases q : (ty == Value.ref D) = true
  · rw [if_pos q, h q]
  · rw [if_neg q]
    show (if ((PySem.W.clsIn K D).isSome && PySem.W.typeIn K (.ref D) == some (.type "type")) = true then PySem.W.subIn K ty (.ref D) else none) = some b
    rw [if_pos (by rw [t, Bool.and_eq_true]; exact ⟨i, by simp⟩), u]
theorem kitAny2_of {K : PySem.W.Frag} {D1 D2 : Addr} {ty : Value} {b1 b2 : Bool} (h1 : PySem.W.kitOne K ty (.ref D1) = some b1) (h2 : PySem.W.kitOne K ty (.ref D2) = some b2) : PySem.W.kitAny K ty [.ref D1, .ref D2] = some (b1 || b2) := by
  unfold PySem.W.kitAny
  rw [h1]
  cases b1
  · unfold PySem.W.kitAny
    rw [h2]
    cases b2 <;> rfl
  · rfl
theorem exmOne_of {K : PySem.W.Frag} {D : Addr} {ty : Value} {b : Bool} (i : PySem.W.isClsIn K D = true) (t : PySem.W.typeIn K (.ref D) = some (.type "type")) (ub : PySem.W.subIn K (.ref D) (.type "BaseException") = some true) (u : PySem.W.subIn K ty (.ref D) = some b) : PySem.W.exmOne K ty (.ref D) = some b := by
  unfold PySem.W.exmOne
  rw [if_pos (by rw [ub]; rfl)]
  show (if ((PySem.W.clsIn K D).isSome && PySem.W.typeIn K (.ref D) == some (.type "type")) = true then PySem.W.subIn K ty (.ref D) else none) = some b
  rw [if_pos (by rw [t, Bool.and_eq_true]; exact ⟨i, by simp⟩), u]
section
variable {X : Cx}
theorem isi_cls : CallR X (.builtin "isinstance") (fun xs H Q => ∃ v D ty b, xs = [v, .ref D] ∧ KnT X.K H v ty ∧ PySem.W.kitOne X.K ty (.ref D) = some b ∧ Q (.bl b) H) := by
  intro pins s σ H xs us Q I r h
  obtain ⟨v, D, ty, b, rfl, hk, e, q⟩ := h
  obtain ⟨u, w, rfl, ru, rw'⟩ := r.two
  cases (show w = Value.ref D from rw')
  have fin : ∀ tk, EP X pins σ Q (.bool b) { s with toks := tk } := fun tk => ⟨.bl _, H, I.tok tk, rfl, q⟩
  rcases hk with ⟨rfl, rfl⟩ | ⟨ea, C, rfl, he, G, rfl⟩
  · cases (show u = Value.none from ru)
    exact PySem.W.kia_one PySem.W.kitx_none I.kIn True.intro e (fun z => nomatch z) fin
  · cases (show u = Value.ref ea from ru)
    obtain ⟨p, _⟩ := I.hok ea _ he
    exact PySem.W.kia_one (kitx_exc G) I.kIn p e (fun z => nomatch z) fin
theorem isi_tup : CallR X (.builtin "isinstance") (fun xs H Q => ∃ v tp, ∃ (ds : List Addr), ∃ ty b, xs = [v, .ref tp] ∧ KnT X.K H v ty ∧ SqT X.K H tp (ds.map V.ref) ∧ PySem.W.kitAny X.K ty (ds.map Value.ref) = some b ∧ Q (.bl b) H) := by
  intro pins s σ H xs us Q I r h
  obtain ⟨v, tp, ds, ty, b, rfl, hk, hs, e, q⟩ := h
  obtain ⟨u, w, rfl, ru, rw'⟩ := r.two
  cases (show w = Value.ref tp from rw')
  have fin : ∀ tk, EP X pins σ Q (.bool b) { s with toks := tk } := fun tk => ⟨.bl _, H, I.tok tk, rfl, q⟩
  obtain ⟨its, rv, ⟨o, h1, hc, n, hd⟩, hz⟩ := I.tuple hs
  clear hz
  have hits : its = ds.map Value.ref := by
    clear hs e hd
    induction ds generalizing its with
    | nil => cases rv; rfl
    | cons d ds ih =>
      cases rv with
      | cons r1 r2 =>
        rw [List.map_cons, ← ih _ r2]
        exact congrArg (· :: _) r1
  subst hits
  obtain ⟨oc, od, oda, osl⟩ := o
  dsimp only at hc hd
  subst hc hd
  rcases hk with ⟨rfl, rfl⟩ | ⟨ea, C, rfl, he, G, rfl⟩
  · cases (show u = Value.none from ru)
    exact PySem.W.kia_tup PySem.W.kitx_none I.kIn True.intro h1 e (fun z => nomatch z) fin
  · cases (show u = Value.ref ea from ru)
    obtain ⟨p, _⟩ := I.hok ea _ he
    exact PySem.W.kia_tup (kitx_exc G) I.kIn p h1 e (fun z => nomatch z) fin
/-- isinstance(k, D) and not isinstance(k, (D1, D2)) -/
theorem pe_isNot {nk x y z : Str} {ik : Nat} {D D1 D2 : Addr} {p1 p2 p3 p4 p5 p6 p7 p8 p9 p10 p11 p12 : Pos} {k9} (hik : X.N[ik]? = some nk) (hv : Vis X.env.scope nk) (hg : Gl X "isinstance") (hm : X.mg "isinstance" = none) (hgx : Gl X x) (hmx : X.mg x = some (.ref D)) (hgy : Gl X y) (hmy : X.mg y = some (.ref D1)) (hgz : Gl X z) (hmz : X.mg z = some (.ref D2))
    (d1 : (nk == ("__debug__" : Str)) = false := by decide) (d2 : (nk == ("__classdict__" : Str)) = false := by decide) (d3 : (x == ("__debug__" : Str)) = false := by decide) (d4 : (y == ("__debug__" : Str)) = false := by decide) (d5 : (z == ("__debug__" : Str)) = false := by decide) :
    PE X (.BoolOp .And [.Call (.Name "isinstance" p1) [.Name nk p2, .Name x p3] [] p4, .UnaryOp .Not (.Call (.Name "isinstance" p5) [.Name nk p6, .Tuple [.Name y p7, .Name z p8] k9 p9] [] p10) p11] p12)
      (fun σ H Q => ∃ v ty b1 b2, σ[ik]? = some (some v) ∧ KnT X.K H v ty ∧ PySem.W.kitOne X.K ty (.ref D) = some b1 ∧ (b1 = true → PySem.W.kitAny X.K ty [.ref D1, .ref D2] = some b2) ∧ ∀ H', Same H H' → Q (.bl (b1 && !b2)) H') := by
  have a1 := pe_callB (pos := p4) (p := p1) isi_cls hg hm PyProof.Rows.boot_isinstance (pa_cons (pe_var (pos := p2) hik hv d1 d2) (pa_cons (pe_glob (pos := p3) (v := .ref D) hgx hmx rfl d3) pa_nil rfl) rfl) (by decide) (by decide) rfl rfl
  have a2 := pe_callB (pos := p10) (p := p5) isi_tup hg hm PyProof.Rows.boot_isinstance (pa_cons (pe_var (pos := p6) hik hv d1 d2) (pa_cons (pe_tup (pos := p9) (x1 := k9) (pa_cons (pe_glob (pos := p7) (v := .ref D1) hgy hmy rfl d4) (pa_cons (pe_glob (pos := p8) (v := .ref D2) hgz hmz rfl d5) pa_nil rfl) rfl)) pa_nil rfl) rfl) (by decide) (by decide) rfl rfl
  refine (pe_and (pos := p12) a1 (pe_one (pe_not (pos := p11) a2))).imp fun σ H Q q => ?_
  obtain ⟨v, ty, b1, b2, h1, h2, h3, h4, q⟩ := q
  refine ⟨v, h1, v, D, ty, b1, rfl, h2, h3, b1, rfl, ?_⟩
  cases b1 with
  | false => exact iteF (q H (Same.refl H))
  | true =>
    refine iteT ⟨v, h1, ?_⟩
    refine ⟨by show 2 ≤ sizeLine; decide, fun p hp => ?_⟩
    have h2' : KnT X.K (upd H p (.tup [.ref D1, .ref D2])) v ty := by
      rcases h2 with h2 | ⟨ea, C, e1, e2, e3⟩
      · exact .inl h2
      · exact .inr ⟨ea, C, e1, by rw [upd_ne (ne_of_none e2 hp)]; exact e2, e3⟩
    exact ⟨v, p, [D1, D2], ty, b2, rfl, h2', SqT.of upd_same, h4 rfl, b2, rfl, q _ (Same.upd hp)⟩
end
end L2
set_option Elab.async false
set_option linter.all false
set_option maxRecDepth 100000
namespace L2
open PySem PySem.Spec PyProof.Rows Y
section
variable {es elts : List Expr} {env : Env} {pos : Pos} {k : Nat}
theorem sE_tup : starEach (.Tuple elts k pos :: es) env = (false, eval (.Tuple elts k pos) env) :: starEach es env := by rfl
theorem sE_con {c : Const} : starEach (.Constant c k pos :: es) env = (false, eval (.Constant c k pos) env) :: starEach es env := by rfl
theorem sE_nam {x : Str} : starEach (.Name x pos :: es) env = (false, eval (.Name x pos) env) :: starEach es env := by rfl
theorem sE_sub {a b : Expr} : starEach (.Subscript a b pos :: es) env = (false, eval (.Subscript a b pos) env) :: starEach es env := by rfl
end
end L2
set_option Elab.async false
set_option linter.all false
set_option maxRecDepth 100000
/-! ### a tuple times an int -/
namespace Y
open PySem
def gMulT : PyData → PyData → Option PyData
  | .tuple [d], .int n => if nol d = true ∧ (n = 0 ∨ n = 1 ∨ n = 2) then some (.tuple (List.replicate n.toNat d)) else none
  | _, _ => none
end Y
namespace L2
open PySem PySem.Spec PyProof.Rows Y
open AutoSeq1 (wpAny_loadPart')
theorem noFillT : fillsNumberSlot (.type "tuple") "mul" = pure false := PySem.fillsNumberSlot_seq (id := "tuple.__mul__") (r := some (.builtin "tuple.__rmul__")) F.slot_tuple_mul.lookup (by decide +kernel) F.slot_tuple_rmul.lookup (by decide +kernel)
theorem repeatT : seqRepeat? (.type "tuple") = pure (some (.builtin "tuple.__mul__")) := by
  unfold seqRepeat?
  rw [PySem.seqSlot_of (T := "tuple") (name := "__mul__") (id := "tuple.__mul__") F.slot_tuple_mul.lookup (by decide +kernel), PySem.seqSlot_of (T := "tuple") (name := "__rmul__") (id := "tuple.__rmul__") F.slot_tuple_rmul.lookup (by decide +kernel)]; rfl
theorem rmulT (a : Int) (t : Tok) (l : Addr) (items : Array Value) (n : Nat) (dd : Option Addr) (sl : Array (Option Value)) : Meets (Builtin.«int.__rmul__» ⟨[.int a t, .ref l], []⟩) (fun _ R s => s.heap.get? l = some { cls := .type "tuple", dict := dd, data := .seq items n, slots := sl } ∧ R (.ok (.ret Value.notImplemented)) s) :=
  .of_wp fun prog w A R s h => by
    obtain ⟨hp, g, d, tk, os⟩ := s; obtain ⟨hl, h⟩ := h; wp_walk using wpAny_loadPart' hl; exact ⟨_, rfl, h⟩
theorem mulT1 (l : Addr) (items : Array Value) (n : Nat) (dd : Option Addr) (sl : Array (Option Value)) (u : Tok) : Meets (Builtin.«tuple.__mul__» ⟨[.ref l, .int 1 u], []⟩) (fun _ R s => s.heap.get? l = some { cls := .type "tuple", dict := dd, data := .seq items n, slots := sl } ∧ R (.ok (.ret (.ref l))) s) :=
  .of_wp fun prog w A R s h => by
    obtain ⟨hp, g, d, tk, os⟩ := s; obtain ⟨hl, h⟩ := h; wp_walk using wpAny_loadPart' hl
    exact ⟨_, rfl, h⟩
theorem mulT0 (l : Addr) (v : Value) (n : Nat) (dd : Option Addr) (sl : Array (Option Value)) (u : Tok) : Meets (Builtin.«tuple.__mul__» ⟨[.ref l, .int 0 u], []⟩) (fun _ R s => s.heap.get? l = some { cls := .type "tuple", dict := dd, data := .seq #[v] n, slots := sl } ∧ R (.ok (.ret (.ref s.heap.objs.size))) { s with heap := s.heap.push { cls := .type "tuple", data := .seq #[] } }) :=
  .of_wp fun prog w A R s h => by
    obtain ⟨hp, g, d, tk, os⟩ := s; obtain ⟨hl, h⟩ := h; wp_walk using wpAny_loadPart' hl
    exact ⟨_, rfl, h⟩
theorem mulT2 (l : Addr) (v : Value) (n : Nat) (dd : Option Addr) (sl : Array (Option Value)) (u : Tok) : Meets (Builtin.«tuple.__mul__» ⟨[.ref l, .int 2 u], []⟩) (fun _ R s => s.heap.get? l = some { cls := .type "tuple", dict := dd, data := .seq #[v] n, slots := sl } ∧ R (.ok (.ret (.ref s.heap.objs.size))) { s with heap := s.heap.push { cls := .type "tuple", data := .seq #[v, v] } }) :=
  .of_wp fun prog w A R s h => by
    obtain ⟨hp, g, d, tk, os⟩ := s; obtain ⟨hl, h⟩ := h; wp_walk using wpAny_loadPart' hl
    exact ⟨_, rfl, h⟩
section
variable {X : Cx}
theorem opd_mulT : OpD X (binaryOp .Mult) gMulT := OpD.of fun pins s σ H x y z u v a b Q I e hx hy ru rv q => by
  cases x <;> cases y <;> simp only [gMulT] at e <;> try (cases e; done)
  rename_i xs n
  match xs, e with
  | [], e => cases e
  | _ :: _ :: _, e => cases e
  | [d], e =>
    simp only at e
    split at e
    · rename_i c
      cases e
      have h2 := of_isD_int hy
      subst h2
      obtain ⟨p, vs, rfl, h1, h3⟩ := of_isD_tup hx
      obtain ⟨t, rfl⟩ := rv
      cases ru
      obtain ⟨w1, rfl, hd⟩ := isDs_one h3
      obtain ⟨its, r1, p1, _⟩ := I.tuple h1
      obtain ⟨w2, rfl, rw2⟩ := r1.one
      obtain ⟨⟨cls, dd, data, sl⟩, ho, hc, n1, hda⟩ := id p1
      simp only at hc hda
      subst hc hda
      refine wpAny_binaryOp_repeat_ref (T := "tuple") (U := "int") (by decide) ⟨_, ho, rfl⟩ (fun s' => typeIs_int s' n t) noFillT F.fills_int_mul F.slot_int_rmul repeatT F.slot_int_index.lookup
        (call_meets F.slot_int_rmul (typeIs_int s n t) F.entry_int_rmul (F.args_int_rmul_2 _ _) (rmulT n t p _ n1 dd sl) ⟨ho, rfl, ⟨_, ho, rfl⟩, ?_⟩)
      have hf := I.fresh
      rcases c.2 with rfl | rfl | rfl
      · refine call_meets F.slot_tuple_mul ⟨_, ho, rfl⟩ F.entry_tuple_mul (F.args_tuple_mul_2 _ _) (mulT0 p w2 n1 dd sl t) ⟨ho, ?_⟩
        exact ⟨.ref _, _, I.laid (t' := s.toks) (a := s.heap.objs.size) (o := .tup []) (fun b u e => Heap.get?_push_of_some _ e) (Nat.le_refl _) ⟨Nat.zero_le _, [], .nil, IsTup.new _ _⟩, rfl, q _ _ (Same.upd hf) (Fresh.tup rfl (SqT.of upd_same) isDs_nil)⟩
      · refine call_meets F.slot_tuple_mul ⟨_, ho, rfl⟩ F.entry_tuple_mul (F.args_tuple_mul_2 _ _) (mulT1 p _ n1 dd sl t) ⟨ho, ?_⟩
        exact ⟨.ref p, H, I, rfl, q _ H (Same.refl H) (Fresh.imm (by simp [nol, nols, c.1]) hx)⟩
      · refine call_meets F.slot_tuple_mul ⟨_, ho, rfl⟩ F.entry_tuple_mul (F.args_tuple_mul_2 _ _) (mulT2 p w2 n1 dd sl t) ⟨ho, ?_⟩
        exact ⟨.ref _, _, I.laid (t' := s.toks) (a := s.heap.objs.size) (o := .tup [w1, w1]) (fun b u e => Heap.get?_push_of_some _ e) (Nat.le_refl _) ⟨by show 2 ≤ sizeLine; decide, [w2, w2], .cons rw2 (.cons rw2 .nil), IsTup.new _ _⟩, rfl,
          q _ _ (Same.upd hf) (Fresh.tup (by simp [nols, c.1, List.replicate]) (SqT.of upd_same) (IsDs.same (Same.upd hf) _ _ (isDs_cons hd (isDs_cons hd isDs_nil))))⟩
    · cases e
end
end L2
set_option Elab.async false
set_option linter.all false
set_option maxRecDepth 100000
/-! ### enumerate(t), t a tuple -/
namespace L2
open PySem PyProof.Rows
end L2
set_option Elab.async false
set_option linter.all false
set_option maxRecDepth 100000
namespace L2
open PySem PySem.Spec PyProof.Rows Y
section
variable {X : Cx} {pins : List (Addr × Obj)} {σ : St} {H : Hp} {s : Shared} {h' : Heap}
/-- the iterator's own records turn, a new object is laid -/
theorem Inv.turnNew {fp : List Addr} {a : Addr} {o : HO} {t' : Nat} (I : Inv X pins σ H s) (ha : s.heap.objs.size ≤ a) (k : ∀ b u, b ∉ fp → s.heap.get? b = some u → h'.get? b = some u) (hf : ∀ b ∈ fp, FpOk X pins H b)
    (new : ObjOk X.prog X.w (upd H a o) h' a o) : Inv X pins σ (upd H a o) { s with heap := h', toks := t' } := by
  have hn : H a = none := I.hok.fresh ha
  have nlt : ∀ b u, s.heap.get? b = some u → b ≠ a := fun b u e z => by rw [z] at e; exact absurd (Heap.lt_size e) (Nat.not_lt.mpr ha)
  have nfp : ∀ b u, H b = some u → b ∉ fp := fun b u e z => by rw [(hf b z).1] at e; cases e
  have hna : ∀ b u, H b = some u → b ≠ a := fun b u e z => by rw [z, hn] at e; cases e
  refine I.step (g' := s.gens) (d' := s.drawn) (ch := fp) (fun b hb => ?_) (fun b u _ _ hc e _ => k b u hc e) (fun b u _ _ hc e _ => ⟨u.slots, k b u hc e⟩) (fun b u _ e n => ?_)
    (fun b u hc e => ⟨u, k b u hc e⟩) (fun b xs e => ?_) (fun b ob u e => ?_) (fun b ps e => ⟨#[], ?_⟩) (fun m hm => ?_) (fun b u e => ?_) I.bare
  · obtain ⟨_, f1, _, f3, f4, f5⟩ := hf b hb
    exact ⟨f3, f1, f4, f5⟩
  · rw [upd_ne (nlt b u e)]; exact n
  · rw [upd_ne (hna b _ e)]; exact e
  · rw [upd_ne (hna b _ e)]; exact e
  · rw [upd_ne (hna b _ e), e]; simp
  · obtain ⟨ob, es, ep, ho, r⟩ := hm
    exact ⟨ob, es, ep, k _ ob (fun z => (hf _ z).2.1 rfl) ho, r⟩
  · by_cases hb : b = a
    · subst hb
      rw [upd_same] at e
      cases e
      exact new
    · rw [upd_ne hb] at e
      refine (I.hok b u e).stay (fun c v hc q => k c v ?_ q) (fun c q => ?_) fun c xs q => ?_
      · rcases hc with z | z
        · rw [z]; exact nfp b u e
        · exact nfp c _ z
      · rw [upd_ne (hna c _ q)]; exact q
      · rw [upd_ne (hna c _ q)]; exact q
end
end L2
set_option Elab.async false
set_option linter.all false
set_option maxRecDepth 100000
/-! ### zip(a, b) of two lists -/
namespace Y
open PySem
def zipD (xs ys : List PyData) : List PyData := List.zipWith (fun a b => PyData.tuple [a, b]) xs ys
def zipI (k1 : Kd) (d1 : PyData) (k2 : Kd) (d2 : PyData) : M (Kd × List PyData) := match k1, d1, k2, d2 with
  | .base, .list xs, .base, .list ys => mret (.base, zipD xs ys)
  | _, _, _, _ => none
def itZip (a b : EF) : IF := fun Γ => mbind (a Γ) fun x => mbind (b Γ) fun y => zipI x.1 x.2 y.1 y.2
end Y
namespace L2
open PySem PySem.Spec PyProof.Rows Y
section
variable {X : Cx} {pins : List (Addr × Obj)} {σ : St} {H : Hp} {s : Shared} {h' : Heap}
/-- the iterator's own records turn -/
theorem Inv.turnN {fp : List Addr} {t' : Nat} (I : Inv X pins σ H s) (k : ∀ b u, b ∉ fp → s.heap.get? b = some u → h'.get? b = some u) (hf : ∀ b ∈ fp, FpOk X pins H b) : Inv X pins σ H { s with heap := h', toks := t' } := by
  have nfp : ∀ b u, H b = some u → b ∉ fp := fun b u e z => by rw [(hf b z).1] at e; cases e
  refine I.step (g' := s.gens) (d' := s.drawn) (ch := fp) (fun b hb => ?_) (fun b u _ _ hc e _ => k b u hc e) (fun b u _ _ hc e _ => ⟨u.slots, k b u hc e⟩) (fun b u _ e n => n)
    (fun b u hc e => ⟨u, k b u hc e⟩) (fun b xs e => e) (fun b ob u e => e) (fun b ps e => ⟨#[], by rw [e]; simp⟩) (fun m hm => ?_) (fun b u e => ?_) I.bare
  · obtain ⟨_, f1, _, f3, f4, f5⟩ := hf b hb
    exact ⟨f3, f1, f4, f5⟩
  · obtain ⟨ob, es, ep, ho, r⟩ := hm
    exact ⟨ob, es, ep, k _ ob (fun z => (hf _ z).2.1 rfl) ho, r⟩
  · refine (I.hok b u e).stay (fun c v hc q => k c v ?_ q) (fun c q => q) fun c xs q => q
    rcases hc with z | z
    · rw [z]; exact nfp b u e
    · exact nfp c _ z
end
/-- the turns of zip over the lists at a and b -/
def Itz (K : PySem.W.Frag) (a b : Addr) (n : Nat) : It :=
  ⟨fun i H => i < n ∧ ∃ xs ys, SqL K H a xs ∧ SqL K H b ys ∧ min xs.length ys.length = n, fun i H x H' => ∃ t y z, x = .ref t ∧ H t = none ∧ H' = upd H t (.tup [y, z]) ∧ (∀ xs, SqL K H a xs → xs[i]? = some y) ∧ (∀ ys, SqL K H b ys → ys[i]? = some z),
    fun i H => n ≤ i ∧ ∃ xs ys, SqL K H a xs ∧ SqL K H b ys ∧ min xs.length ys.length = n⟩
theorem turn_zip {P : Program} {w : World} {K : PySem.W.Frag} {elts : List Expr} {x1 : Nat} {tp : Pos} (z TI TO i1 i2 a b : Addr) (n : Nat) (D : ZipApart z TI TO i1 i2 a b) :
    Turn P w K (.Tuple elts x1 tp) (Itz K a b n) [z, TI, TO, i1, i2] z (fun i h => i ≤ n ∧ IsZip h z TI TO .none ∧ IsPair h TI (.ref i1) (.ref i2) ∧ (∃ u v, IsPair h TO u v) ∧ h.IsListIter i1 a i ∧ h.IsListIter i2 b i) where
  mem := by simp
  obj := fun i h st c hc => by
    obtain ⟨_, h1, h2, ⟨u, v, h3⟩, ⟨o4, h4, _, d4⟩, ⟨o5, h5, _, d5⟩⟩ := st
    simp only [List.mem_cons, List.mem_nil_iff, or_false] at hc
    rcases hc with e | e | e | e | e <;> rw [e]
    · exact ⟨_, h1, fun v z => by cases z⟩
    · exact ⟨_, h2, fun v z => by cases z⟩
    · exact ⟨_, h3, fun v z => by cases z⟩
    · exact ⟨_, h4, fun v z => by rw [d4] at z; cases z⟩
    · exact ⟨_, h5, fun v z => by rw [d5] at z; cases z⟩
  keep := fun i h h' st k => by
    obtain ⟨h0, h1, h2, ⟨u, v, h3⟩, ⟨o4, h4, r4⟩, ⟨o5, h5, r5⟩⟩ := st
    exact ⟨h0, k z (by simp) _ h1, k TI (by simp) _ h2, ⟨u, v, k TO (by simp) _ h3⟩, ⟨o4, k i1 (by simp) _ h4, r4⟩, ⟨o5, k i2 (by simp) _ h5, r5⟩⟩
  item := by
    intro X hP hw hK hc i pins s σ H E I hf st hg; subst hP hw hK
    obtain ⟨hi, xs, ys, hq1, hq2, hl⟩ := hg
    obtain ⟨its1, rv1, ⟨o1, n1, g1, c1, _, d1⟩, _⟩ := I.list hq1
    obtain ⟨its2, rv2, ⟨o2, n2, g2, c2, _, d2⟩, _⟩ := I.list hq2
    obtain ⟨h0, hz, hTI, ⟨u, v, hTO⟩, hit1, hit2⟩ := st
    have L1 : s.heap.IsList a its1.toArray := ⟨o1, g1, c1, n1, d1⟩
    have L2 : s.heap.IsList b its2.toArray := ⟨o2, g2, c2, n2, d2⟩
    have hlen1 := rv1.length
    have hlen2 := rv2.length
    have hi1 : i < xs.length := by omega
    have hi2 : i < ys.length := by omega
    obtain ⟨x, hx, rx⟩ := rv1.get (List.getElem?_eq_getElem hi1)
    obtain ⟨y, hy, ry⟩ := rv2.get (List.getElem?_eq_getElem hi2)
    refine wpAny_pyNext_zip_item D hz hTI hTO hit1 hit2 L1 L2 (x := x) (y := y) (by simpa using hx) (by simpa using hy) fun h1 a1 a2 a3 a4 a5 a6 a7 => ?_
    refine ⟨_, rfl, wpAny_letOwnedTupleGo_zip a1 fun h2 b1 bs => ?_⟩
    have lt : ∀ {c o}, s.heap.get? c = some o → s.heap.objs.size ≠ c := fun e => Nat.ne_of_gt (Heap.lt_size e)
    have ht2 : IsPair h2 s.heap.objs.size x y := (bs.2 _ (lt hz)).trans a5
    have hk2 : ∀ c o, c ∉ [z, TI, TO, i1, i2] → s.heap.get? c = some o → h2.get? c = some o := fun c o hc e => by
      simp only [List.mem_cons, List.mem_nil_iff, or_false, not_or] at hc
      exact (bs.2 c hc.1).trans (a7 c o hc.1 hc.2.2.1 hc.2.2.2.1 hc.2.2.2.2 e)
    refine ⟨.ref s.heap.objs.size, upd H s.heap.objs.size (.tup [xs[i], ys[i]]), I.turnNew (fp := [z, TI, TO, i1, i2]) (t' := s.toks) (Nat.le_refl _) hk2 hf ⟨show 2 ≤ sizeLine by decide, [x, y], .cons rx (.cons ry .nil), _, ht2, rfl, _, rfl⟩, rfl,
      ⟨s.heap.objs.size, xs[i], ys[i], rfl, I.fresh, rfl, fun zs hz' => by rw [I.list_inj hz' hq1]; exact List.getElem?_eq_getElem hi1, fun zs hz' => by rw [I.list_inj hz' hq2]; exact List.getElem?_eq_getElem hi2⟩,
      ⟨by omega, b1, (bs.2 TI D.TIz).trans (a7 TI _ D.TIz D.TITO D.TIi1 D.TIi2 hTI), ⟨x, y, (bs.2 TO D.TOz).trans a2⟩, ?_, ?_⟩, fun c hc => ?_⟩
    · obtain ⟨oi, hoi, r⟩ := a3
      exact ⟨oi, (bs.2 i1 D.i1z).trans hoi, r⟩
    · obtain ⟨oi, hoi, r⟩ := a4
      exact ⟨oi, (bs.2 i2 D.i2z).trans hoi, r⟩
    · have hb0 := (hf c hc).1
      have hbn : c ≠ s.heap.objs.size := fun e => by
        simp only [List.mem_cons, List.mem_nil_iff, or_false] at hc
        obtain ⟨o4, g4, _⟩ := hit1
        obtain ⟨o5, g5, _⟩ := hit2
        rcases hc with q | q | q | q | q
        · exact lt hz (e.symm.trans q)
        · exact lt hTI (e.symm.trans q)
        · exact lt hTO (e.symm.trans q)
        · exact lt g4 (e.symm.trans q)
        · exact lt g5 (e.symm.trans q)
      rw [upd_ne hbn]; exact hb0
  done := by
    intro X hP hw hK hc i pins s σ H E I hf st hg; subst hP hw hK
    obtain ⟨hi, xs, ys, hq1, hq2, hl⟩ := hg
    obtain ⟨its1, rv1, ⟨o1, n1, g1, c1, _, d1⟩, _⟩ := I.list hq1
    obtain ⟨its2, rv2, ⟨o2, n2, g2, c2, _, d2⟩, _⟩ := I.list hq2
    obtain ⟨h0, hz, hTI, ⟨u, v, hTO⟩, hit1, hit2⟩ := st
    have L1 : s.heap.IsList a its1.toArray := ⟨o1, g1, c1, n1, d1⟩
    have L2 : s.heap.IsList b its2.toArray := ⟨o2, g2, c2, n2, d2⟩
    have hlen1 := rv1.length
    have hlen2 := rv2.length
    have hend : its1.toArray[i]? = none ∨ its2.toArray[i]? = none := by
      by_cases q : xs.length ≤ i
      · exact .inl (by simp; omega)
      · exact .inr (by simp; omega)
    exact wpAny_pyNext_zip_end (I.ok.hd hc) D hz hTI hTO hit1 hit2 L1 L2 hend fun h' k => ⟨rfl, I.turnN (t' := s.toks) (fun c o hc' e => by
      simp only [List.mem_cons, List.mem_nil_iff, or_false, not_or] at hc'
      exact k c o hc'.1 hc'.2.2.1 hc'.2.2.2.1 hc'.2.2.2.2 e) hf⟩
  self := fun A i s Q E st h => wpAny_pyIter_zip st.2.1 h
section
variable {X : Cx} {K : PySem.W.Frag} {Ew : Str → Hp → Prop} {pos p tp : Pos} {elts : List Expr} {x1 : Nat} {a b : Expr} {ta tb : TE} {fa fb : EF}
def iZip (K : PySem.W.Frag) (ta tb : TE) : TI := fun σ H R => ta σ H fun x H1 => tb σ H1 fun y H2 => ∃ q q' xs ys, x = .ref q ∧ y = .ref q' ∧ SqL K H2 q xs ∧ SqL K H2 q' ys ∧ R (Itz K q q' (min xs.length ys.length)) H2
theorem pi_zip (hg : Gl X "zip") (hm : X.mg "zip" = none) (ha : PE X a ta) (hb : PE X b tb) (hs2 : starEach [b] X.env = [(false, eval b X.env)] := by rfl) (hs : starEach [a, b] X.env = [(false, eval a X.env), (false, eval b X.env)] := by rfl) : PI X (.Tuple elts x1 tp) (.Call (.Name "zip" p) [a, b] [] pos) (iZip X.K ta tb) := by
  intro pins s σ H R I h
  refine Call_ (ld_blt I hg hm PyProof.Rows.boot_zip (PyProof.Rows.callWith_type1 (thn (pa_cons ha (pa_cons hb pa_nil hs2) (hs.trans (by rw [hs2])) pos pins s σ H (fun vs H1 => match vs with
    | [x, y] => ∃ q q' xs ys, x = .ref q ∧ y = .ref q' ∧ SqL X.K H1 q xs ∧ SqL X.K H1 q' ys ∧ R (Itz X.K q q' (min xs.length ys.length)) H1
    | _ => False) I h) fun us s1 ⟨vs, H1, I1, r1, q1⟩ => ?_) (hs.trans (by rw [hs2])) (by rw [hs2]; rfl)))
  match vs, r1, q1 with
  | [x, y], r1, q1 =>
    obtain ⟨q, q', xs, ys, rfl, rfl, hq, hq', fin⟩ := q1
    obtain ⟨u, v, rfl, ru, rv⟩ := r1.two
    cases ru
    cases rv
    obtain ⟨its1, rv1, ⟨o1, n1, g1, c1, _, d1⟩, _⟩ := I1.list hq
    obtain ⟨its2, rv2, ⟨o2, n2, g2, c2, _, d2⟩, _⟩ := I1.list hq'
    refine call_zip_2 (xs := its1.toArray) (ys := its2.toArray) ⟨o1, g1, c1, n1, d1⟩ ⟨o2, g2, c2, n2, d2⟩ fun h' hz hTI hTO hi1 hi2 _ hk => ?_
    have I2 : Inv X pins σ H1 { s1 with heap := h', toks := s1.toks } := I1.kept (t' := s1.toks) hk
    have D := zipApart_new (n := s1.heap.objs.size) (Heap.lt_size g1) (Heap.lt_size g2)
    refine wpAny_pyIter_zip hz ⟨_, _, _, _, H1, rfl, I2, turn_zip _ _ _ _ _ q q' (min xs.length ys.length) D, ⟨Nat.zero_le _, hz, hTI, ⟨_, _, hTO⟩, hi1, hi2⟩, fun c hc => ?_, fin⟩
    simp only [List.mem_cons, List.mem_nil_iff, or_false] at hc
    have ge : s1.heap.objs.size ≤ c := by rcases hc with e | e | e | e | e <;> (rw [e]; first | exact Nat.le_refl _ | exact Nat.le_add_right _ _)
    exact I1.fpOk ge (I1.hok.fresh ge)
  | [], r1, q1 => exact False.elim q1
  | [_], r1, q1 => exact False.elim q1
  | _ :: _ :: _ :: _, r1, q1 => exact False.elim q1
theorem itOk_zip {B : Hp} {a b : Addr} {vs us : List V} {ds es : List PyData} (h : SqL K B a vs) (t : IsDs K B ds vs) (h' : SqL K B b us) (t' : IsDs K B es us) : ItOk K B (Itz K a b (min vs.length us.length)) (zipD ds es) where
  go := fun i H hi s => by
    have hl := isDs_length t
    have hl' := isDs_length t'
    unfold zipD at hi
    rw [List.length_zipWith] at hi
    exact ⟨by omega, vs, us, s.seq h, s.seq h', rfl⟩
  yl := fun i H x H' hi s y => by
    obtain ⟨tt, y, z, rfl, hn, rfl, hy, hz⟩ := y
    obtain ⟨d, e, hd⟩ := isDs_get' t (hy vs (s.seq h))
    obtain ⟨d', e', hd'⟩ := isDs_get' t' (hz us (s.seq h'))
    refine ⟨Same.upd hn, .tuple [d, d'], by unfold zipD; rw [List.getElem?_zipWith, e, e'], fun B2 s2 hb => ?_⟩
    exact isD_tup (SqT.of (hb tt _ hn upd_same)) (isDs_cons (IsD.same s2 _ _ hd) (isDs_cons (IsD.same s2 _ _ hd') isDs_nil))
  stop := fun H s => by
    refine ⟨?_, vs, us, s.seq h, s.seq h', rfl⟩
    have hl := isDs_length t
    have hl' := isDs_length t'
    unfold zipD
    rw [List.length_zipWith]; omega
theorem di_zip (hg : Gl X "zip") (hm : X.mg "zip" = none) (ha : DE X K Ew a fa) (hb : DE X K Ew b fb) (hK : X.K = K := by rfl) (hs2 : starEach [b] X.env = [(false, eval b X.env)] := by rfl) (hs : starEach [a, b] X.env = [(false, eval a X.env), (false, eval b X.env)] := by rfl) :
    DI X K Ew (.Tuple elts x1 tp) (.Call (.Name "zip" p) [a, b] [] pos) (itZip fa fb) :=
  (pi_zip hg hm ha hb hs2 hs).imp fun σ H R q => by
    obtain ⟨B, φ, Γ, r, q⟩ := q
    refine ⟨B, φ, Γ, r, ?_⟩
    unfold itZip at q
    match hm : fa Γ, q with
    | some (.ok (k, d)), q =>
      refine .inl ⟨k, d, rfl, fun v H1 s hv => ⟨B, φ, Γ, r.same s, ?_⟩⟩
      match hm2 : fb Γ, q with
      | some (.ok (k', d')), q =>
        refine .inl ⟨k', d', rfl, fun v' H2 s2 hv' => ?_⟩
        replace q : RunI K Ew B H Γ σ R (zipI k d k' d') := q
        cases k <;> try (exact False.elim q)
        cases d <;> try (exact False.elim q)
        cases k' <;> try (exact False.elim q)
        cases d' <;> try (exact False.elim q)
        rename_i ds es
        obtain ⟨a, vs, rfl, h1, h2⟩ := of_isD_lst hv
        obtain ⟨b, us, rfl, h3, h4⟩ := of_isD_lst hv'
        rw [hK]
        have r2 := (r.same s).same s2
        exact ⟨a, b, vs, us, rfl, rfl, r2.bs.seq h1, r2.bs.seq h3, q _ H2 B φ (s.trans s2) (Same.refl B) r2 (itOk_zip h1 h2 h3 h4)⟩
      | some (.ex c), q => exact .inr ⟨c, rfl, q⟩
      | none, q => exact False.elim q
    | some (.ex c), q => exact .inr ⟨c, rfl, q⟩
    | none, q => exact False.elim q
end
end L2
set_option Elab.async false
set_option linter.all false
set_option maxRecDepth 100000
/-! ### sets of 0, 1, 2, 3 (the hands): which, by a mask -/
namespace L2
open PySem PySem.Spec PyProof.Rows Y
def L4 (m : Nat) : List Nat := [0, 1, 2, 3].filter fun k => m.testBit k
def tab4 (led : Bool) (m : Nat) : SetTable := { mask := 7, place := (L4 m).toArray, dummies := #[], finger := 0, led := led, moves := 0, plain := true }
def el4 (f : Nat → Nat) (m : Nat) : List (Int × Value) := (L4 m).map fun (k : Nat) => ((k : Int), Value.int (k : Int) (f k))
def SetM (led : Bool) (h : Heap) (a : Addr) (m : Nat) : Prop := m < 16 ∧ ∃ o ep f, h.get? a = some o ∧ o.ExactSet ∧ o.data = .set (el4 f m).toArray ep (tab4 led m)
end L2
set_option Elab.async false
set_option linter.all false
set_option maxRecDepth 100000
namespace L2
open PySem PySem.Spec PyProof.Rows Y
section
variable {prog : Program} {w : World} {A : Around} {E : Value → Shared → Prop} {s : Shared} {R : Result → Shared → Prop} {I : Addr} {fp wr : List Addr} {G : Array GenState → Array GenState → Prop} {n : Nat} {P : Nat → Value → Prop} {St : Nat → Shared → Prop} {led : Bool}
theorem SetM.kept {h h' : Heap} {a : Addr} {m : Nat} (hS : SetM led h a m) (k : ∀ o, h.get? a = some o → h'.get? a = some o) : SetM led h' a m := by
  obtain ⟨hm, o, ep, f, ho, r⟩ := hS
  exact ⟨hm, o, ep, f, k o ho, r⟩
end
end L2
set_option Elab.async false
set_option linter.all false
set_option maxRecDepth 100000
namespace L2
open PySem PySem.Spec PyProof.Rows Y
end L2
set_option Elab.async false
set_option linter.all false
set_option maxRecDepth 100000
namespace L2
open PySem PySem.Spec PyProof.Rows Y
end L2
set_option Elab.async false
set_option linter.all false
set_option maxRecDepth 100000
namespace L2
open PySem PySem.Spec PyProof.Rows Y
end L2
set_option Elab.async false
set_option linter.all false
set_option maxRecDepth 100000
namespace L2
open PySem PySem.Spec PyProof.Rows Y
end L2
set_option Elab.async false
set_option linter.all false
set_option maxRecDepth 100000
namespace L2
open PySem PySem.Spec PyProof.Rows Y
end L2
set_option Elab.async false
set_option linter.all false
set_option maxRecDepth 100000
namespace L2
open PySem PySem.Spec PyProof.Rows Y
section
variable {X : Cx}
theorem opd_ge : OpD X (compareOp .GtE) gGe := OpD.ints0 op_ge fun x y z e => by
  cases x <;> cases y <;> simp only [gGe] at e <;> cases e
  exact ⟨_, _, rfl, rfl, rfl, fun _ _ => isD_bl⟩
end
end L2
set_option Elab.async false
set_option linter.all false
set_option maxRecDepth 100000
namespace Y
open PySem
theorem nol_int (i : Int) : nol (.int i) = true := rfl
theorem nol_non : nol .none = true := rfl
theorem nol_bl (b : Bool) : nol (.bool b) = true := rfl
theorem nol_str (b : Str) : nol (.str b) = true := rfl
theorem nol_lst (xs : List PyData) : nol (.list xs) = false := rfl
theorem nol_tup (xs : List PyData) : nol (.tuple xs) = nols xs := rfl
theorem nrm_t {k : Kd} {d : PyData} (h : nol d = true) : nrm k d = .fr [] := by unfold nrm; rw [if_pos h]
theorem nrm_f {k : Kd} {d : PyData} (h : nol d = false) : nrm k d = k := by unfold nrm; rw [if_neg (by rw [h]; exact Bool.false_ne_true)]
theorem nrm_int (k : Kd) (i : Int) : nrm k (.int i) = .fr [] := rfl
theorem nrm_bl (k : Kd) (i : Bool) : nrm k (.bool i) = .fr [] := rfl
theorem nrm_str (k : Kd) (i : Str) : nrm k (.str i) = .fr [] := rfl
theorem nrm_non (k : Kd) : nrm k .none = .fr [] := rfl
theorem nrm_lst (k : Kd) (xs : List PyData) : nrm k (.list xs) = k := rfl
theorem nrm_dct (k : Kd) (xs : List (PyData × PyData)) : nrm k (.dict xs) = k := rfl
theorem nrm_tup {k : Kd} {xs : List PyData} (h : nols xs = true) : nrm k (.tuple xs) = .fr [] := nrm_t h
theorem nols_ints (l : List Int) : nols (l.map PyData.int) = true := nols_map _ (fun _ => rfl) l
theorem gAdd_int (i j : Int) : gAdd (.int i) (.int j) = some (.int (i + j)) := rfl
theorem gSub_int (i j : Int) : gSub (.int i) (.int j) = some (.int (i - j)) := rfl
theorem gMul_int {i j : Int} (h : (-(2 ^ 64) < i ∧ i < 2 ^ 64) ∨ (-(2 ^ 64) < j ∧ j < 2 ^ 64)) : gMul (.int i) (.int j) = some (.int (i * j)) := if_pos h
theorem gFdiv_int {i j : Int} (h : 0 < j ∧ j < 2 ^ 64) : gFdiv (.int i) (.int j) = some (.int (i / j)) := if_pos h
theorem gMod_int {i j : Int} (h : 0 < j) : gMod (.int i) (.int j) = some (.int (i % j)) := if_pos h
theorem gPow_int {i j : Int} (h : 0 ≤ j ∧ j ≤ 1000000 ∧ i.natAbs < 2 ^ 64) : gPow (.int i) (.int j) = some (.int (i ^ j.toNat)) := if_pos h
theorem gLt_int (i j : Int) : gLt (.int i) (.int j) = some (.bool (decide (i < j))) := rfl
theorem gLe_int (i j : Int) : gLe (.int i) (.int j) = some (.bool (decide (i ≤ j))) := rfl
theorem gGt_int (i j : Int) : gGt (.int i) (.int j) = some (.bool (decide (j < i))) := rfl
theorem gNeg_int (i : Int) : gNeg (.int i) = some (.int (-i)) := rfl
theorem gEq_int (i j : Int) : gEq (.int i) (.int j) = some (.bool (i == j)) := rfl
theorem gNe_int (i j : Int) : gNe (.int i) (.int j) = some (.bool (!(i == j))) := rfl
theorem gIs_non (x : PyData) : gIs x .none = some (.bool (isNon x)) := rfl
theorem gIsNot_non (x : PyData) : gIsNot x .none = some (.bool (!isNon x)) := rfl
theorem gLen_list (xs : List PyData) : gLen [.list xs] = some (.int xs.length) := rfl
theorem gLen_tup (xs : List PyData) : gLen [.tuple xs] = some (.int xs.length) := rfl
theorem gIx_list (xs : List PyData) (i : Int) : gIx (.list xs) (.int i) = atD xs i := rfl
theorem gIx_tup (xs : List PyData) (i : Int) : gIx (.tuple xs) (.int i) = atD xs i := rfl
theorem atD_nat {α : Type} {xs : List α} {j : Nat} {v : α} (h : xs[j]? = some v) : atD xs (j : Int) = some v := by
  have hj : j < xs.length := (List.getElem?_eq_some_iff.mp h).1
  have e : ixN xs.length (j : Int) = some j := by
    unfold ixN
    rw [if_pos (by omega), if_pos (by omega)]; simp
  unfold atD; rw [e]; exact h
theorem atD_int {α : Type} {xs : List α} {i : Int} {v : α} (h0 : 0 ≤ i) (h : xs[i.toNat]? = some v) : atD xs i = some v := by
  obtain ⟨j, rfl⟩ := Int.eq_ofNat_of_zero_le h0
  exact atD_nat (by simpa using h)
theorem gNotIn_list {x : PyData} {ys : List PyData} (hx : lay 60 x = true) (hy : lays 60 ys = true) : gNotIn x (.list ys) = some (.bool (!inAny ys x)) := by simp only [gNotIn, hx, hy, Bool.and_self, if_true]
theorem gList_list {xs : List PyData} (h : nols xs = true) : gList [.list xs] = some (.list xs) := if_pos h
theorem gTuple_list {xs : List PyData} (h : nols xs = true) : gTuple [.list xs] = some (.tuple xs) := if_pos h
theorem gRevT_list {xs : List PyData} (h : nols xs = true) : gRevT (.list xs) = some (.tuple xs.reverse) := if_pos h
theorem rng1_int {n : Int} (h : -(2 ^ 62) ≤ n ∧ n < 2 ^ 62) : rng1 (.int n) = mret (.fr [], (List.range n.toNat).map fun (i : Nat) => PyData.int (i : Int)) := if_pos h
/-- a for whose turns go on, by an invariant -/
theorem forD_inv {g : GF} {b : SF} {ds : List PyData} {Γ : DEnv} (P : Nat → DEnv → Prop) (h0 : P 0 Γ)
    (hs : ∀ (i : Nat) (d : PyData) (Γ : DEnv), ds[i]? = some d → P i Γ → ∃ Γ1 Γ2, g (nrm .base d) d Γ = some Γ1 ∧ (b Γ1 = mret (.nx Γ2) ∨ b Γ1 = mret (.ct Γ2)) ∧ P (i + 1) Γ2) :
    ∃ Γ', forD g b ds Γ = mret (.nx Γ') ∧ P ds.length Γ' := by
  induction ds generalizing Γ P with
  | nil => exact ⟨Γ, rfl, h0⟩
  | cons d ds ih =>
    obtain ⟨Γ1, Γ2, h1, h2, h3⟩ := hs 0 d Γ rfl h0
    obtain ⟨Γ', h4, h5⟩ := ih (Γ := Γ2) (fun i => P (i + 1)) h3 fun i d' Γ' hd hp => hs (i + 1) d' Γ' (by simpa using hd) hp
    refine ⟨Γ', ?_, by simpa using h5⟩
    simp only [forD, h1, mo_some, mbind_ret]
    rcases h2 with h2 | h2 <;> (rw [h2]; exact h4)
end Y
namespace Y
open PySem
theorem range_get {n i : Nat} {d : PyData} (h : ((List.range n).map fun (i : Nat) => PyData.int (i : Int))[i]? = some d) : d = .int (i : Int) ∧ i < n := by
  rw [List.getElem?_map] at h
  by_cases hi : i < n
  · rw [List.getElem?_range hi] at h
    exact ⟨(Option.some.inj h).symm, hi⟩
  · rw [List.getElem?_eq_none (by simpa using hi)] at h
    cases h
theorem ints_get {l : List Int} {i : Nat} {d : PyData} (h : (l.map PyData.int)[i]? = some d) : ∃ z, d = .int z ∧ l[i]? = some z := by
  rw [List.getElem?_map] at h
  cases e : l[i]? with
  | none => rw [e] at h; cases h
  | some z => rw [e] at h; exact ⟨z, (Option.some.inj h).symm, rfl⟩
/-- a comprehension whose elements are known -/
theorem compD_map {fe : EF} {cap : DEnv} (ds : List PyData) (f : PyData → Kd × PyData) (h : ∀ d ∈ ds, fe (some (false, d) :: cap) = mret (f d)) : compD tYesF fe cap ds = some (ds.map f) := by
  induction ds with
  | nil => rfl
  | cons d ds ih =>
    have h1 := h d List.mem_cons_self
    simp only [compD, tYesF, mret] at h1 ⊢
    rw [h1, ih fun x hx => h x (List.mem_cons_of_mem _ hx)]
    rfl
theorem compD_filter {ft : TF} {fe : EF} {cap : DEnv} (ds : List PyData) (p : PyData → Bool) (f : PyData → Kd × PyData) (ht : ∀ d ∈ ds, ft (some (false, d) :: cap) = mret (p d)) (h : ∀ d ∈ ds, p d = true → fe (some (false, d) :: cap) = mret (f d)) : compD ft fe cap ds = some ((ds.filter p).map f) := by
  induction ds with
  | nil => rfl
  | cons d ds ih =>
    have h0 := ht d List.mem_cons_self
    have ih' := ih (fun x hx => ht x (List.mem_cons_of_mem _ hx)) fun x hx => h x (List.mem_cons_of_mem _ hx)
    simp only [compD, mret] at h0 ⊢
    rw [h0]
    cases hp : p d with
    | false => simp only [ih', List.filter_cons, hp, Bool.false_eq_true, if_false]
    | true =>
      have h1 := h d List.mem_cons_self hp
      simp only [mret] at h1
      simp only [h1, ih', List.filter_cons, hp, if_true, List.map_cons, Option.map_some]
theorem kdEl_fr {α : Type} (l : List α) (f : α → PyData) : kdEl (l.map fun a => (Kd.fr [], f a)) = some (.fr []) := by
  induction l with
  | nil => rfl
  | cons a l ih => simp only [List.map_cons, kdEl, ih]
end Y
set_option Elab.async false
set_option linter.all false
set_option maxRecDepth 100000
namespace K23
open PySem Y
def B__law_mix_1 : SF :=
 (sSet 0 (eOp gFdiv (eV 0) (eC (.int 2147483648))))
def S__law_mix : SF :=
 (sSeq (sIf (tE (eOp gGe (eV 0) (eOp gPow (eC (.int 10)) (eC (.int 12)))))
 (sSeq (sSet 0 (eOp gSub (eOp gFdiv (eV 0) (eOp gPow (eC (.int 10)) (eC (.int 12)))) (eC (.int 1))))
 (sSeq (sFor (itR1 (eOp gMod (eV 1) (eC (.int 61)))) (gNm 2)
 B__law_mix_1)
 (sRet (eOp gMod (eV 0) (eC (.int 2147483648))))))
 sNil)
 (sSeq (sSet 3 (eOp gMod (eOp gMul (eOp gAdd (eOp gAdd (eOp gMod (eV 0) (eC (.int 2147483629))) (eV 1)) (eC (.int 1))) (eOp gAdd (eOp gMul (eOp gMul (eC (.int 8)) (eV 1)) (eV 1)) (eC (.int 48271)))) (eC (.int 2147483647))))
 (sSeq (sSet 3 (eOp gMod (eOp gMul (eV 3) (eV 3)) (eC (.int 2147483587))))
 (sRet (eOp gMod (eOp gMul (eV 3) (eOp gAdd (eV 3) (eC (.int 2)))) (eC (.int 2147483579)))))))
def F__law_mix : FF := runF 4 S__law_mix
def C__law_letters_1 : TF :=
 (tE (eOp gNe (eV 0) (eV 1)))
def E__law_letters_2 : EF :=
 (eTup [(eV 1), (eV 0)])
def B__law_letters_3 : SF :=
 (sExt 1 (eComp (itR1 (eV 0)) [2] C__law_letters_1 E__law_letters_2))
def S__law_letters : SF :=
 (sSeq (sSet 1 (eLst []))
 (sSeq (sFor (itR1 (eV 0)) (gNm 2)
 B__law_letters_3)
 (sRet (eV 1))))
def F__law_letters : FF := runF 3 S__law_letters
def S__law_at : SF :=
 (sSeq (sIf (tE (eOp gLt (eV 1) (eCB gLen [(eV 0)])))
 (sRet (eIx gIx (eV 0) (eV 1)))
 sNil)
 (sRet (eOp gAdd (eOp gMul (eC (.int 13)) (eV 1)) (eC (.int 6)))))
def F__law_at : FF := runF 2 S__law_at
def E__law_road_1 : EF :=
 (eRep (eLst [(eC (.int 0))]) (eCB gLen [(eV 1)]))
def B__law_road_2 : SF :=
 (sSeq (sSet 6 (eCall F__law_mix [(eV 5), (eC (.int 2))]))
 (sSeq (sBag 4 7 8 (eOp gMod (eV 6) (eCB gLen [(eV 4)])) (eOp gMod (eOp gFdiv (eV 6) (eC (.int 8))) (eCB gLen [(eV 3)])))
 sNil))
def C__law_road_3 : TF :=
 (tE (eOp gEq (eIx gIx (eV 2) (eV 0)) (eC (.int 1))))
def E__law_road_4 : EF :=
 (eIx gIx (eV 1) (eV 0))
def B__law_road_5 : SF :=
 (sSeq (sSet 10 (eCB gTuple [(eComp (itR1 (eCB gLen [(eV 3)])) [3, 7] C__law_road_3 E__law_road_4)]))
 (sIf (tE (eOp gNotIn (eV 10) (eV 9)))
 (sApp 9 (eV 10))
 sNil))
def S__law_road : SF :=
 (sSeq (sSet 3 (eCall F__law_letters [(eV 1)]))
 (sSeq (sSet 4 (eComp (itR1 (eOp gAdd (eC (.int 1)) (eOp gMod (eCall F__law_mix [(eCall F__law_at [(eV 0), (eC (.int 0))]), (eC (.int 1))]) (eV 2)))) [3] tYesF E__law_road_1))
 (sSeq (sFor (itE (eSl (eV 0) (some (eC (.int 1))) (some (eC (.int 64))))) (gNm 5)
 B__law_road_2)
 (sSeq (sSet 9 (eLst []))
 (sSeq (sFor (itE (eV 4)) (gNm 7)
 B__law_road_5)
 (sRet (eV 9)))))))
def F__law_road : FF := runF 11 S__law_road
def B__law_starts_1 : SF :=
 (sApp 3 (eOp gAdd (eTup [(eOp gMod (eV 0) (eOp gPow (eC (.int 10)) (eC (.int 60)))), (eV 4)]) (eOp gMulT (eTup [(eC (.int 7))]) (eOp gSub (eV 1) (eC (.int 2))))))
def S__law_starts : SF :=
 (sSeq (sSet 3 (eLst []))
 (sSeq (sFor (itR1 (eV 2)) (gNm 4)
 B__law_starts_1)
 (sRet (eV 3))))
def F__law_starts : FF := runF 5 S__law_starts
def E__law_due_1 : EF :=
 (eOp gAdd (eV 1) (eTup [(eV 0)]))
def B__law_due_2 : SF :=
 (sExt 5 (eComp (itE (eV 0)) [6] tYesF E__law_due_1))
def B__law_due_3 : SF :=
 (sSeq (sSet 5 (eLst []))
 (sSeq (sFor (itE (eV 3)) (gNm 6)
 B__law_due_2)
 (sMov 3 5)))
def E__law_due_4 : EF :=
 (eTup [(eV 1), (eV 0)])
def B__law_due_5 : SF :=
 (sExt 7 (eComp (itE (eV 3)) [8] tYesF E__law_due_4))
def S__law_due : SF :=
 (sSeq (sSet 3 (eLst [(eTup [])]))
 (sSeq (sFor (itR1 (eV 1)) (gNm 4)
 B__law_due_3)
 (sSeq (sSet 7 (eLst []))
 (sSeq (sFor (itE (eV 2)) (gNm 8)
 B__law_due_5)
 (sRet (eV 7))))))
def F__law_due : FF := runF 9 S__law_due
def B_many_rows_1 : SF :=
 (sSet 2 (eOp gMul (eV 2) (eCB gLen [(eV 0)])))
def S_many_rows : SF :=
 (sSeq (sSet 2 (eC (.int 1)))
 (sSeq (sFor (itR1 (eV 1)) (gNm 3)
 B_many_rows_1)
 (sRet (eV 2))))
def F_many_rows : FF := runF 4 S_many_rows
def S_many_runs : SF :=
 (sRet (eOp gMul (eCB gLen [(eV 2)]) (eCall F_many_rows [(eV 0), (eV 1)])))
def F_many_runs : FF := runF 3 S_many_runs
def B_row_at_1 : SF :=
 (sSeq (sApp 3 (eIx gIx (eV 0) (eOp gMod (eV 4) (eCB gLen [(eV 0)]))))
 (sSet 4 (eOp gFdiv (eV 4) (eCB gLen [(eV 0)]))))
def S_row_at : SF :=
 (sSeq (sSet 3 (eLst []))
 (sSeq (sMov 4 2)
 (sSeq (sFor (itR1 (eV 1)) (gNm 5)
 B_row_at_1)
 (sRet (eUn gRevT (eV 3))))))
def F_row_at : FF := runF 6 S_row_at
def S_run_at : SF :=
 (sSeq (sSet 4 (eCall F_many_rows [(eV 0), (eV 1)]))
 (sRet (eTup [(eIx gIx (eV 2) (eOp gFdiv (eV 3) (eV 4))), (eCall F_row_at [(eV 0), (eV 1), (eOp gMod (eV 3) (eV 4))])])))
def F_run_at : FF := runF 5 S_run_at
def E_all_runs_1 : EF :=
 (eCall F_run_at [(eV 1), (eV 2), (eV 3), (eV 0)])
def S_all_runs : SF :=
 (sSeq (sSet 3 (eCall (nx F_many_runs) [(eV 0), (eV 1), (eV 2)]))
 (sSeq (sIf (tE (eOp gGt (eV 3) (eC (.int 3000))))
 (sRaise "TooMany")
 sNil)
 (sRet (eComp (itR1 (eV 3)) [0, 1, 2] tYesF E_all_runs_1))))
def F_all_runs : FF := runF 4 S_all_runs
def S__law_edge : SF :=
 (sSeq (sSet 1 (eLst [(eTup []), (eTup [(eTup [(eC (.int 0)), (eC (.int 1))])]), (eTup [(eTup [(eC (.int 1)), (eC (.int 0))])]), (eTup [(eTup [(eC (.int 0)), (eC (.int 1))]), (eTup [(eC (.int 1)), (eC (.int 0))])])]))
 (sSeq (sSet 2 (eLst [(eTup []), (eTup [(eTup [(eC (.int 0)), (eC (.int 1))])]), (eTup [(eTup [(eC (.int 0)), (eC (.int 2))])]), (eTup [(eTup [(eC (.int 1)), (eC (.int 2))])]), (eTup [(eTup [(eC (.int 2)), (eC (.int 0))])])]))
 (sSeq (sSet 3 (eLst [(eTup [(eC (.int 2)), (eSl (eV 1) none (some (eC (.int 3)))), (eC (.int 5)), (eC (.int 12))]), (eTup [(eC (.int 2)), (eV 1), (eC (.int 3)), (eC (.int 46))]), (eTup [(eC (.int 3)), (eV 2), (eC (.int 3)), (eC (.int 24))]), (eTup [(eC (.int 2)), (eV 1), (eC (.int 3)), (eC (.int 47))]), (eTup [(eC (.int 2)), (eV 1), (eC (.int 5)), (eC (.int 3))]), (eTup [(eC (.int 3)), (eV 2), (eC (.int 5)), (eC (.int 1))])]))
 (sRet (eIx gIx (eV 3) (eOp gMod (eV 0) (eC (.int 6))))))))
def F__law_edge : FF := runF 4 S__law_edge
def B__law_small_1 : SF :=
 (sSeq (sSet 4 (eOp gMul (eV 4) (eCB gLen [(eV 1)])))
 (sSet 5 (eOp gAdd (eV 5) (eC (.int 1)))))
def C__law_small_2 : TF :=
 (tAndF (tE (eOp gLt (eV 5) (eV 2))) (tE (eOp gLe (eOp gMul (eV 4) (eCB gLen [(eV 1)])) (eC (.int 150)))))
def S__law_small : SF :=
 (sSeq (sSet 4 (eC (.int 1)))
 (sSeq (sSet 5 (eC (.int 0)))
 (sSeq (sWhile bigN C__law_small_2
 B__law_small_1)
 (sRet (eTup [(eV 0), (eV 1), (eV 5), (eOp gAdd (eC (.int 1)) (eOp gMod (eV 3) (eCB gMin [(eC (.int 81)), (eOp gFdiv (eC (.int 150)) (eV 4))])))])))))
def F__law_small : FF := runF 6 S__law_small
def B__law_right_1 : SF :=
 (sIf (tOrF (tNotF (tE (eIsi "tuple" (eV 2)))) (tOrF (tE (eOp gNe (eV 2) (eV 3))) (tOrF (tNotF (tE (eIsi "tuple" (eIx gIx (eV 2) (eC (.int 0)))))) (tNotF (tE (eIsi "tuple" (eIx gIx (eV 2) (eC (.int 1)))))))))
 (sRet (eC (.bool false)))
 sNil)
def S__law_right : SF :=
 (sSeq (sIf (tOrF (tNotF (tE (eIsi "list" (eV 0)))) (tE (eOp gNe (eCB gLen [(eV 0)]) (eCB gLen [(eV 1)]))))
 (sRet (eC (.bool false)))
 sNil)
 (sSeq (sFor (itZip (eV 0) (eV 1)) (gTp [2, 3])
 B__law_right_1)
 (sRet (eC (.bool true)))))
def F__law_right : FF := runF 4 S__law_right
def r__law_refused : Option Str → Option Bool := fun c => match c with
  | none => some false
  | some c => if c = Str.ofString "TooMany" then some true else none
def S__law_refused : SF :=
 (sSeq (sSet 3 (eC .none))
 (sCatch 3 F_all_runs [(eV 0), (eV 1), (eV 2)] r__law_refused))
def F__law_refused : FF := runF 5 S__law_refused
def B_law_1 : SF :=
 (sSet 9 (eOp gMul (eV 9) (eCB gLen [(eV 3)])))
def S_law : SF :=
 (sSeq (sSet 1 (eCall F__law_mix [(eCall F__law_at [(eV 0), (eC (.int 0))]), (eC (.int 3))]))
 (sSeq (sSet 2 (eOp gAdd (eC (.int 2)) (eOp gMod (eV 1) (eC (.int 3)))))
 (sSeq (sSet 3 (eCall F__law_road [(eV 0), (eV 2), (eC (.int 8))]))
 (sSeq (sSet 4 (eOp gMod (eOp gFdiv (eV 1) (eC (.int 3))) (eC (.int 6))))
 (sSeq (sSet 5 (eOp gEq (eOp gMod (eOp gFdiv (eV 1) (eC (.int 18))) (eC (.int 8))) (eC (.int 0))))
 (sSeq (sIf (tE (eV 5))
 (sAsg (gTp [2, 3, 4, 6]) (eCall F__law_edge [(eOp gFdiv (eV 1) (eC (.int 144)))]))
 (sAsg (gTp [2, 3, 4, 6]) (eCall F__law_small [(eV 2), (eV 3), (eV 4), (eOp gFdiv (eV 1) (eC (.int 144)))])))
 (sSeq (sSet 7 (eCall F__law_starts [(eCall F__law_at [(eV 0), (eC (.int 1))]), (eV 2), (eV 6)]))
 (sSeq (sSet 8 (eLst [(eCB gList [(eV 3)]), (eCB gList [(eV 7)])]))
 (sSeq (sMov 9 6)
 (sSeq (sFor (itR1 (eV 4)) (gNm 10)
 B_law_1)
 (sSeq (sIf (tE (eOp gGt (eV 9) (eC (.int 3000))))
 (sRet (eAnd (eCall F__law_refused [(eIx gIx (eV 8) (eC (.int 0))), (eV 4), (eIx gIx (eV 8) (eC (.int 1)))]) (eOp gEq (eV 8) (eLst [(eV 3), (eV 7)]))))
 sNil)
 (sSeq (sSet 11 (eCall F__law_due [(eV 3), (eV 4), (eV 7)]))
 (sSeq (sSet 12 (eCall (nx F_all_runs) [(eIx gIx (eV 8) (eC (.int 0))), (eV 4), (eIx gIx (eV 8) (eC (.int 1)))]))
 (sSeq (sIf (tOrF (tNotF (tE (eCall F__law_right [(eV 12), (eV 11)]))) (tE (eV 5)))
 (sRet (eCall F__law_right [(eV 12), (eV 11)]))
 sNil)
 (sSeq (sClr 12)
 (sRet (eAnd (eCall F__law_right [(eCall (nx F_all_runs) [(eIx gIx (eV 8) (eC (.int 0))), (eV 4), (eIx gIx (eV 8) (eC (.int 1)))]), (eV 11)]) (eOp gEq (eV 8) (eLst [(eV 3), (eV 7)])))))))))))))))))))
def F_law : FF := runF 13 S_law
end K23
set_option Elab.async false
set_option linter.all false
set_option maxRecDepth 100000
namespace K23
open PySem L2 Y
def top (i : Nat) : Stmt := PySem.Challenge.pw_losspact_k23_whole_all_runs.main.body.getD i (.Pass ⟨0, 0, 0, 0⟩)
abbrev s_many_rows : Stmt := top 7
theorem sc_many_rows : FnScope ["things", "length", "many", "place"] ["things", "length"] (defScope s_many_rows) := ⟨rfl, rfl, rfl, by decide +kernel, rfl, by decide +kernel, by decide +kernel⟩
abbrev s_row_at : Stmt := top 8
theorem sc_row_at : FnScope ["things", "length", "number", "row", "rest", "place"] ["things", "length", "number"] (defScope s_row_at) := ⟨rfl, rfl, rfl, by decide +kernel, rfl, by decide +kernel, by decide +kernel⟩
abbrev s_many_runs : Stmt := top 9
theorem sc_many_runs : FnScope ["road", "rounds", "starts"] ["road", "rounds", "starts"] (defScope s_many_runs) := ⟨rfl, rfl, rfl, by decide +kernel, rfl, by decide +kernel, by decide +kernel⟩
abbrev s_run_at : Stmt := top 10
theorem sc_run_at : FnScope ["road", "rounds", "starts", "number", "many"] ["road", "rounds", "starts", "number"] (defScope s_run_at) := ⟨rfl, rfl, rfl, by decide +kernel, rfl, by decide +kernel, by decide +kernel⟩
abbrev s_all_runs : Stmt := top 11
theorem sc_all_runs : FnScope ["road", "rounds", "starts", "many"] ["road", "rounds", "starts"] (defScope s_all_runs) := ⟨rfl, rfl, rfl, by decide +kernel, rfl, by decide +kernel, by decide +kernel⟩
abbrev s__law_at : Stmt := top 13
theorem sc__law_at : FnScope ["_law_script", "_law_k"] ["_law_script", "_law_k"] (defScope s__law_at) := ⟨rfl, rfl, rfl, by decide +kernel, rfl, by decide +kernel, by decide +kernel⟩
abbrev s__law_mix : Stmt := top 14
theorem sc__law_mix : FnScope ["_law_number", "_law_place", "_law_turn", "_law_part"] ["_law_number", "_law_place"] (defScope s__law_mix) := ⟨rfl, rfl, rfl, by decide +kernel, rfl, by decide +kernel, by decide +kernel⟩
abbrev s__law_letters : Stmt := top 15
theorem sc__law_letters : FnScope ["_law_hands", "_law_letters_here", "_law_start"] ["_law_hands"] (defScope s__law_letters) := ⟨rfl, rfl, rfl, by decide +kernel, rfl, by decide +kernel, by decide +kernel⟩
abbrev s__law_road : Stmt := top 16
theorem sc__law_road : FnScope ["_law_script", "_law_hands", "_law_most", "_law_letters_here", "_law_lost", "_law_cell", "_law_number", "_law_bag", "_law_at_here", "_law_road_here", "_law_weather"] ["_law_script", "_law_hands", "_law_most"] (defScope s__law_road) := ⟨rfl, rfl, rfl, by decide +kernel, rfl, by decide +kernel, by decide +kernel⟩
abbrev s__law_starts : Stmt := top 17
theorem sc__law_starts : FnScope ["_law_number", "_law_hands", "_law_many", "_law_starts_here", "_law_k"] ["_law_number", "_law_hands", "_law_many"] (defScope s__law_starts) := ⟨rfl, rfl, rfl, by decide +kernel, rfl, by decide +kernel, by decide +kernel⟩
abbrev s__law_due : Stmt := top 18
theorem sc__law_due : FnScope ["_law_road_here", "_law_rounds", "_law_starts_here", "_law_rows", "_law_k", "_law_longer", "_law_row", "_law_runs", "_law_start"] ["_law_road_here", "_law_rounds", "_law_starts_here"] (defScope s__law_due) := ⟨rfl, rfl, rfl, by decide +kernel, rfl, by decide +kernel, by decide +kernel⟩
abbrev s__law_right : Stmt := top 19
theorem sc__law_right : FnScope ["_law_found", "_law_due_here", "_law_one", "_law_run"] ["_law_found", "_law_due_here"] (defScope s__law_right) := ⟨rfl, rfl, rfl, by decide +kernel, rfl, by decide +kernel, by decide +kernel⟩
abbrev s__law_refused : Stmt := top 20
theorem sc__law_refused : FnScope ["_law_road_here", "_law_rounds", "_law_starts_here", "_law_kept", "e"] ["_law_road_here", "_law_rounds", "_law_starts_here"] (defScope s__law_refused) := ⟨rfl, rfl, rfl, by decide +kernel, rfl, by decide +kernel, by decide +kernel⟩
abbrev s__law_edge : Stmt := top 21
theorem sc__law_edge : FnScope ["_law_number", "_law_two", "_law_three", "_law_some"] ["_law_number"] (defScope s__law_edge) := ⟨rfl, rfl, rfl, by decide +kernel, rfl, by decide +kernel, by decide +kernel⟩
abbrev s__law_small : Stmt := top 22
theorem sc__law_small : FnScope ["_law_hands", "_law_road_here", "_law_rounds", "_law_number", "_law_many", "_law_turns"] ["_law_hands", "_law_road_here", "_law_rounds", "_law_number"] (defScope s__law_small) := ⟨rfl, rfl, rfl, by decide +kernel, rfl, by decide +kernel, by decide +kernel⟩
abbrev s_law : Stmt := top 23
theorem sc_law : FnScope ["_law_script", "_law_number", "_law_hands", "_law_road_here", "_law_rounds", "_law_edge_here", "_law_count", "_law_starts_here", "_law_handed", "_law_many", "_law_k", "_law_due_here", "_law_found"] ["_law_script"] (defScope s_law) := ⟨rfl, rfl, rfl, by decide +kernel, rfl, by decide +kernel, by decide +kernel⟩
structure Ads where
  f_many_rows : Addr
  d_many_rows : FuncData
  f_row_at : Addr
  d_row_at : FuncData
  f_many_runs : Addr
  d_many_runs : FuncData
  f_run_at : Addr
  d_run_at : FuncData
  f_all_runs : Addr
  d_all_runs : FuncData
  f__law_at : Addr
  d__law_at : FuncData
  f__law_mix : Addr
  d__law_mix : FuncData
  f__law_letters : Addr
  d__law_letters : FuncData
  f__law_road : Addr
  d__law_road : FuncData
  f__law_starts : Addr
  d__law_starts : FuncData
  f__law_due : Addr
  d__law_due : FuncData
  f__law_right : Addr
  d__law_right : FuncData
  f__law_refused : Addr
  d__law_refused : FuncData
  f__law_edge : Addr
  d__law_edge : FuncData
  f__law_small : Addr
  d__law_small : FuncData
  f_law : Addr
  d_law : FuncData
  t_MOST_RUNS : Nat
  c_PactError : Addr
  c_NoText : Addr
  c_NoRoad : Addr
  c_TooMany : Addr
structure Tx (K : PySem.W.Frag) (mg : Str → Option Value) (a : Ads) : Prop where
  F_many_rows : Fun K "many_rows" "many_rows" s_many_rows a.f_many_rows a.d_many_rows
  m_many_rows : mg "many_rows" = some (.ref a.f_many_rows)
  k_many_rows : PySem.W.keepIn K (.ref a.f_many_rows) = true
  b_many_rows : Binds K a.d_many_rows ["things", "length"] []
  F_row_at : Fun K "row_at" "row_at" s_row_at a.f_row_at a.d_row_at
  m_row_at : mg "row_at" = some (.ref a.f_row_at)
  k_row_at : PySem.W.keepIn K (.ref a.f_row_at) = true
  b_row_at : Binds K a.d_row_at ["things", "length", "number"] []
  F_many_runs : Fun K "many_runs" "many_runs" s_many_runs a.f_many_runs a.d_many_runs
  m_many_runs : mg "many_runs" = some (.ref a.f_many_runs)
  k_many_runs : PySem.W.keepIn K (.ref a.f_many_runs) = true
  b_many_runs : Binds K a.d_many_runs ["road", "rounds", "starts"] []
  F_run_at : Fun K "run_at" "run_at" s_run_at a.f_run_at a.d_run_at
  m_run_at : mg "run_at" = some (.ref a.f_run_at)
  k_run_at : PySem.W.keepIn K (.ref a.f_run_at) = true
  b_run_at : Binds K a.d_run_at ["road", "rounds", "starts", "number"] []
  F_all_runs : Fun K "all_runs" "all_runs" s_all_runs a.f_all_runs a.d_all_runs
  m_all_runs : mg "all_runs" = some (.ref a.f_all_runs)
  k_all_runs : PySem.W.keepIn K (.ref a.f_all_runs) = true
  b_all_runs : Binds K a.d_all_runs ["road", "rounds", "starts"] []
  F__law_at : Fun K "_law_at" "_law_at" s__law_at a.f__law_at a.d__law_at
  m__law_at : mg "_law_at" = some (.ref a.f__law_at)
  k__law_at : PySem.W.keepIn K (.ref a.f__law_at) = true
  b__law_at : Binds K a.d__law_at ["_law_script", "_law_k"] []
  F__law_mix : Fun K "_law_mix" "_law_mix" s__law_mix a.f__law_mix a.d__law_mix
  m__law_mix : mg "_law_mix" = some (.ref a.f__law_mix)
  k__law_mix : PySem.W.keepIn K (.ref a.f__law_mix) = true
  b__law_mix : Binds K a.d__law_mix ["_law_number", "_law_place"] []
  F__law_letters : Fun K "_law_letters" "_law_letters" s__law_letters a.f__law_letters a.d__law_letters
  m__law_letters : mg "_law_letters" = some (.ref a.f__law_letters)
  k__law_letters : PySem.W.keepIn K (.ref a.f__law_letters) = true
  b__law_letters : Binds K a.d__law_letters ["_law_hands"] []
  F__law_road : Fun K "_law_road" "_law_road" s__law_road a.f__law_road a.d__law_road
  m__law_road : mg "_law_road" = some (.ref a.f__law_road)
  k__law_road : PySem.W.keepIn K (.ref a.f__law_road) = true
  b__law_road : Binds K a.d__law_road ["_law_script", "_law_hands", "_law_most"] []
  F__law_starts : Fun K "_law_starts" "_law_starts" s__law_starts a.f__law_starts a.d__law_starts
  m__law_starts : mg "_law_starts" = some (.ref a.f__law_starts)
  k__law_starts : PySem.W.keepIn K (.ref a.f__law_starts) = true
  b__law_starts : Binds K a.d__law_starts ["_law_number", "_law_hands", "_law_many"] []
  F__law_due : Fun K "_law_due" "_law_due" s__law_due a.f__law_due a.d__law_due
  m__law_due : mg "_law_due" = some (.ref a.f__law_due)
  k__law_due : PySem.W.keepIn K (.ref a.f__law_due) = true
  b__law_due : Binds K a.d__law_due ["_law_road_here", "_law_rounds", "_law_starts_here"] []
  F__law_right : Fun K "_law_right" "_law_right" s__law_right a.f__law_right a.d__law_right
  m__law_right : mg "_law_right" = some (.ref a.f__law_right)
  k__law_right : PySem.W.keepIn K (.ref a.f__law_right) = true
  b__law_right : Binds K a.d__law_right ["_law_found", "_law_due_here"] []
  F__law_refused : Fun K "_law_refused" "_law_refused" s__law_refused a.f__law_refused a.d__law_refused
  m__law_refused : mg "_law_refused" = some (.ref a.f__law_refused)
  k__law_refused : PySem.W.keepIn K (.ref a.f__law_refused) = true
  b__law_refused : Binds K a.d__law_refused ["_law_road_here", "_law_rounds", "_law_starts_here"] []
  F__law_edge : Fun K "_law_edge" "_law_edge" s__law_edge a.f__law_edge a.d__law_edge
  m__law_edge : mg "_law_edge" = some (.ref a.f__law_edge)
  k__law_edge : PySem.W.keepIn K (.ref a.f__law_edge) = true
  b__law_edge : Binds K a.d__law_edge ["_law_number"] []
  F__law_small : Fun K "_law_small" "_law_small" s__law_small a.f__law_small a.d__law_small
  m__law_small : mg "_law_small" = some (.ref a.f__law_small)
  k__law_small : PySem.W.keepIn K (.ref a.f__law_small) = true
  b__law_small : Binds K a.d__law_small ["_law_hands", "_law_road_here", "_law_rounds", "_law_number"] []
  F_law : Fun K "law" "law" s_law a.f_law a.d_law
  m_law : mg "law" = some (.ref a.f_law)
  k_law : PySem.W.keepIn K (.ref a.f_law) = true
  b_law : Binds K a.d_law ["_law_script"] []
  isinstance : mg "isinstance" = none
  len : mg "len" = none
  list : mg "list" = none
  min : mg "min" = none
  range : mg "range" = none
  reversed : mg "reversed" = none
  tuple : mg "tuple" = none
  zip : mg "zip" = none
  m_MOST_RUNS : mg "MOST_RUNS" = some (.int 3000 a.t_MOST_RUNS)
  m_PactError : mg "PactError" = some (.ref a.c_PactError)
  q_PactError : PySem.W.excIn K a.c_PactError bmVE "ValueError.__new__" = true
  e_PactError : ExcK K a.c_PactError
  i_PactError : PySem.W.isClsIn K a.c_PactError = true
  t_PactError : PySem.W.typeIn K (.ref a.c_PactError) = some (.type "type")
  ub_PactError : PySem.W.subIn K (.ref a.c_PactError) (.type "BaseException") = some true
  n_PactError : PySem.W.subIn K (.type "NoneType") (.ref a.c_PactError) = some false
  s_PactError_PactError : PySem.W.subIn K (.ref a.c_PactError) (.ref a.c_PactError) = some true
  s_PactError_NoText : PySem.W.subIn K (.ref a.c_PactError) (.ref a.c_NoText) = some false
  s_PactError_NoRoad : PySem.W.subIn K (.ref a.c_PactError) (.ref a.c_NoRoad) = some false
  s_PactError_TooMany : PySem.W.subIn K (.ref a.c_PactError) (.ref a.c_TooMany) = some false
  m_NoText : mg "NoText" = some (.ref a.c_NoText)
  q_NoText : PySem.W.excIn K a.c_NoText bmVE "ValueError.__new__" = true
  e_NoText : ExcK K a.c_NoText
  i_NoText : PySem.W.isClsIn K a.c_NoText = true
  t_NoText : PySem.W.typeIn K (.ref a.c_NoText) = some (.type "type")
  ub_NoText : PySem.W.subIn K (.ref a.c_NoText) (.type "BaseException") = some true
  n_NoText : PySem.W.subIn K (.type "NoneType") (.ref a.c_NoText) = some false
  s_NoText_PactError : PySem.W.subIn K (.ref a.c_NoText) (.ref a.c_PactError) = some true
  s_NoText_NoText : PySem.W.subIn K (.ref a.c_NoText) (.ref a.c_NoText) = some true
  s_NoText_NoRoad : PySem.W.subIn K (.ref a.c_NoText) (.ref a.c_NoRoad) = some false
  s_NoText_TooMany : PySem.W.subIn K (.ref a.c_NoText) (.ref a.c_TooMany) = some false
  m_NoRoad : mg "NoRoad" = some (.ref a.c_NoRoad)
  q_NoRoad : PySem.W.excIn K a.c_NoRoad bmVE "ValueError.__new__" = true
  e_NoRoad : ExcK K a.c_NoRoad
  i_NoRoad : PySem.W.isClsIn K a.c_NoRoad = true
  t_NoRoad : PySem.W.typeIn K (.ref a.c_NoRoad) = some (.type "type")
  ub_NoRoad : PySem.W.subIn K (.ref a.c_NoRoad) (.type "BaseException") = some true
  n_NoRoad : PySem.W.subIn K (.type "NoneType") (.ref a.c_NoRoad) = some false
  s_NoRoad_PactError : PySem.W.subIn K (.ref a.c_NoRoad) (.ref a.c_PactError) = some true
  s_NoRoad_NoText : PySem.W.subIn K (.ref a.c_NoRoad) (.ref a.c_NoText) = some false
  s_NoRoad_NoRoad : PySem.W.subIn K (.ref a.c_NoRoad) (.ref a.c_NoRoad) = some true
  s_NoRoad_TooMany : PySem.W.subIn K (.ref a.c_NoRoad) (.ref a.c_TooMany) = some false
  m_TooMany : mg "TooMany" = some (.ref a.c_TooMany)
  q_TooMany : PySem.W.excIn K a.c_TooMany bmVE "ValueError.__new__" = true
  e_TooMany : ExcK K a.c_TooMany
  i_TooMany : PySem.W.isClsIn K a.c_TooMany = true
  t_TooMany : PySem.W.typeIn K (.ref a.c_TooMany) = some (.type "type")
  ub_TooMany : PySem.W.subIn K (.ref a.c_TooMany) (.type "BaseException") = some true
  n_TooMany : PySem.W.subIn K (.type "NoneType") (.ref a.c_TooMany) = some false
  s_TooMany_PactError : PySem.W.subIn K (.ref a.c_TooMany) (.ref a.c_PactError) = some true
  s_TooMany_NoText : PySem.W.subIn K (.ref a.c_TooMany) (.ref a.c_NoText) = some false
  s_TooMany_NoRoad : PySem.W.subIn K (.ref a.c_TooMany) (.ref a.c_NoRoad) = some false
  s_TooMany_TooMany : PySem.W.subIn K (.ref a.c_TooMany) (.ref a.c_TooMany) = some true
section
variable {P : Program} {w : World} {K : PySem.W.Frag} {mg : Str → Option Value} {base : Heap} {a : Ads}
seal DS DSs DE DA DT DW DI
set_option maxHeartbeats 4000000 in
theorem ok__law_mix (T : Tx K mg a) : FnOk P w K mg base CX0 1 a.f__law_mix a.d__law_mix ["_law_number", "_law_place"] (spD K 2 F__law_mix) := by
  refine okDn (fb := S__law_mix) 0 4 2 rfl rfl T.F__law_mix sc__law_mix fun cdv A outer s H E hr => ?_
  have hu80 := hr.units80
  exact (dss_cons (ds_if (dt_cmp (opd_ge) (de_v 0) (de_op (opd_pow) de_int de_int) (nomark _))
 (dss_cons (ds_set (i := 0) sc__law_mix.nd rfl (Or.inl rfl) (de_op (opd_sub) (de_op (opd_fdiv) (de_v 0) (de_op (opd_pow) de_int de_int)) de_int))
 (dss_cons (ds_for PassesOwn.never rfl (di_r1 (by rfl) T.range (de_op (opd_mod) (de_v 1) de_int)) (dg_nm (i := 2) sc__law_mix.nd rfl (Or.inl rfl))
 (dss_one (ds_set (i := 0) sc__law_mix.nd rfl (Or.inl rfl) (de_op (opd_fdiv) (de_v 0) de_int))))
 (dss_one (ds_ret (de_op (opd_mod) (de_v 0) de_int)))))
 dss_nil)
 (dss_cons (ds_set (i := 3) sc__law_mix.nd rfl (Or.inl rfl) (de_op (opd_mod) (de_op (opd_mul) (de_op (opd_add) (de_op (opd_add) (de_op (opd_mod) (de_v 0) de_int) (de_v 1)) de_int) (de_op (opd_add) (de_op (opd_mul) (de_op (opd_mul) de_int (de_v 1)) (de_v 1)) de_int)) de_int))
 (dss_cons (ds_set (i := 3) sc__law_mix.nd rfl (Or.inl rfl) (de_op (opd_mod) (de_op (opd_mul) (de_v 3) (de_v 3)) de_int))
 (dss_one (ds_ret (de_op (opd_mod) (de_op (opd_mul) (de_v 3) (de_op (opd_add) (de_v 3) de_int)) de_int))))))
set_option maxHeartbeats 4000000 in
theorem ok__law_letters (T : Tx K mg a) : FnOk P w K mg base CX0 1 a.f__law_letters a.d__law_letters ["_law_hands"] (spD K 1 F__law_letters) := by
  refine okDn (fb := S__law_letters) 0 3 1 rfl rfl T.F__law_letters sc__law_letters fun cdv A outer s H E hr => ?_
  have hu80 := hr.units80
  exact (dss_cons (ds_set (i := 1) sc__law_letters.nd rfl (Or.inl rfl) (de_lst da_nil))
 (dss_cons (ds_for PassesOwn.never rfl (di_r1 (by rfl) T.range (de_v 0)) (dg_nm (i := 2) sc__law_letters.nd rfl (Or.inr rfl))
 (dss_one (ds_ext (i := 1) (pv 1) (de_comp rfl (F := ["_law_start"]) (ix := [2]) ⟨rfl, rfl, by decide +kernel, by decide +kernel, by (change ∀ y ∈ (_ : List (Str × NameKind)), y.2 = NameKind.free → (defScope s__law_letters).names.lookup y.1 = some .cell ∨ (defScope s__law_letters).names.lookup y.1 = some .free); decide +kernel, by decide +kernel, by decide +kernel, rfl⟩ (di_r1 (by rfl) T.range (de_v 0)) (fun _ _ _ _ _ => (dts_one (dt_cmp (opd_ne hu80) (de_v 0) (de_v 1) (nomark _)))) (fun _ _ _ _ _ => (de_tup (da_cons (de_v 1) (da_cons (de_v 0) da_nil sE_nam) sE_nam)))))))
 (dss_one (ds_ret (de_v 1)))))
set_option maxHeartbeats 4000000 in
theorem ok__law_at (T : Tx K mg a) : FnOk P w K mg base CX0 1 a.f__law_at a.d__law_at ["_law_script", "_law_k"] (spD K 2 F__law_at) := by
  refine okDn (fb := S__law_at) 0 2 2 rfl rfl T.F__law_at sc__law_at fun cdv A outer s H E hr => ?_
  have hu80 := hr.units80
  exact (dss_cons (ds_if (dt_cmp (opd_lt) (de_v 1) (de_callB calld_len (by rfl) T.len PySem.boot_len (da_cons (de_v 0) da_nil sE_nam)) (nomark _))
 (dss_one (ds_ret (de_ix ixd (de_v 0) (de_v 1) (fun _ _ => rfl))))
 dss_nil)
 (dss_one (ds_ret (de_op (opd_add) (de_op (opd_mul) de_int (de_v 1)) de_int))))
set_option maxHeartbeats 4000000 in
theorem ok__law_road (T : Tx K mg a) : FnOk P w K mg base CX0 2 a.f__law_road a.d__law_road ["_law_script", "_law_hands", "_law_most"] (spD K 3 F__law_road) := by
  have G__law_letters := ok__law_letters (P := P) (w := w) (base := base) T
  have G__law_mix := ok__law_mix (P := P) (w := w) (base := base) T
  have G__law_at := ok__law_at (P := P) (w := w) (base := base) T
  refine okDn (fb := S__law_road) 1 11 3 rfl rfl T.F__law_road sc__law_road fun cdv A outer s H E hr => ?_
  have hu80 := hr.units80
  exact (dss_cons (ds_set (i := 3) sc__law_road.nd rfl (Or.inr rfl) (de_call G__law_letters (hr.mono (by decide)) (by rfl) T.m__law_letters T.k__law_letters T.b__law_letters (E := E0) pass0 (da_cons (de_v 1) da_nil sE_nam)))
 (dss_cons (ds_setComp (i := 4) sc__law_road.nd rfl (Or.inl rfl) rfl (F := ["_law_letters_here"]) (ix := [3]) ⟨rfl, rfl, by decide +kernel, by decide +kernel, by (change ∀ y ∈ (_ : List (Str × NameKind)), y.2 = NameKind.free → (defScope s__law_road).names.lookup y.1 = some .cell ∨ (defScope s__law_road).names.lookup y.1 = some .free); decide +kernel, by decide +kernel, by decide +kernel, rfl⟩ (di_r1 (by rfl) T.range (de_op (opd_add) de_int (de_op (opd_mod) (de_call G__law_mix (hr.mono (by decide)) (by rfl) T.m__law_mix T.k__law_mix T.b__law_mix (E := E0) pass0 (da_cons (de_call G__law_at (hr.mono (by decide)) (by rfl) T.m__law_at T.k__law_at T.b__law_at (E := E0) pass0 (da_cons (de_v 0) (da_cons de_int da_nil sE_con) sE_nam)) (da_cons de_int da_nil sE_con))) (de_v 2)))) (fun _ _ _ _ _ => dts_nil) (fun _ _ _ _ _ => (de_rep (de_lst (da_cons de_int da_nil sE_con)) (de_callB calld_len (by rfl) T.len PySem.boot_len (da_cons (de_v 1) da_nil sE_nam)))) (by rfl))
 (dss_cons (ds_for PassesOwn.never rfl (di_e (de_sl (de_v 0) (dpo_some de_int) (dpo_some de_int))) (dg_nm (i := 5) sc__law_road.nd rfl (Or.inl rfl))
 (dss_cons (ds_set (i := 6) sc__law_road.nd rfl (Or.inl rfl) (de_call G__law_mix (hr.mono (by decide)) (by rfl) T.m__law_mix T.k__law_mix T.b__law_mix (E := E0) pass0 (da_cons (de_v 5) (da_cons de_int da_nil sE_con) sE_nam)))
 (dss_bag 4 7 8 (by decide) (by decide) (by decide) sc__law_road.nd (pv 4) (de_op (opd_mod) (de_v 6) (de_callB calld_len (by rfl) T.len PySem.boot_len (da_cons (de_v 4) da_nil sE_nam))) (fun _ _ => rfl) rfl rfl (pg_name (i := 7) sc__law_road.nd rfl (Or.inr rfl)) (pg_name (i := 8) sc__law_road.nd rfl (Or.inl rfl)) (de_op (opd_mod) (de_op (opd_fdiv) (de_v 6) de_int) (de_callB calld_len (by rfl) T.len PySem.boot_len (da_cons (de_v 3) da_nil sE_nam))) rfl rfl (pv 7) (pv 8) (pv 7) (pv 8) (fun _ _ => rfl) (fun _ => rfl) rfl rfl rfl rfl rfl dss_nil)))
 (dss_cons (ds_set (i := 9) sc__law_road.nd rfl (Or.inl rfl) (de_lst da_nil))
 (dss_cons (ds_for PassesOwn.never rfl (di_e (de_v 4)) (dg_nm (i := 7) sc__law_road.nd rfl (Or.inr rfl))
 (dss_cons (ds_set (i := 10) sc__law_road.nd rfl (Or.inl rfl) (de_callTy calld_tuple (by rfl) T.tuple PyProof.Rows.boot_tuple (da_cons (de_comp rfl (F := ["_law_letters_here", "_law_bag"]) (ix := [3, 7]) ⟨rfl, rfl, by decide +kernel, by decide +kernel, by (change ∀ y ∈ (_ : List (Str × NameKind)), y.2 = NameKind.free → (defScope s__law_road).names.lookup y.1 = some .cell ∨ (defScope s__law_road).names.lookup y.1 = some .free); decide +kernel, by decide +kernel, by decide +kernel, rfl⟩ (di_r1 (by rfl) T.range (de_callB calld_len (by rfl) T.len PySem.boot_len (da_cons (de_v 3) da_nil sE_nam))) (fun _ _ _ _ _ => (dts_one (dt_cmp (opd_eq hu80) (de_ix ixd (de_v 2) (de_v 0) (fun _ _ => rfl)) de_int (nomark _)))) (fun _ _ _ _ _ => (de_ix ixd (de_v 1) (de_v 0) (fun _ _ => rfl)))) da_nil)))
 (dss_one (ds_if (dt_cmp (opd_notIn hu80) (de_v 10) (de_v 9) (by rfl))
 (dss_one (ds_app (i := 9) (pv 9) (de_v 10)))
 dss_nil))))
 (dss_one (ds_ret (de_v 9))))))))
set_option maxHeartbeats 4000000 in
theorem ok__law_starts (T : Tx K mg a) : FnOk P w K mg base CX0 1 a.f__law_starts a.d__law_starts ["_law_number", "_law_hands", "_law_many"] (spD K 3 F__law_starts) := by
  refine okDn (fb := S__law_starts) 0 5 3 rfl rfl T.F__law_starts sc__law_starts fun cdv A outer s H E hr => ?_
  have hu80 := hr.units80
  exact (dss_cons (ds_set (i := 3) sc__law_starts.nd rfl (Or.inl rfl) (de_lst da_nil))
 (dss_cons (ds_for PassesOwn.never rfl (di_r1 (by rfl) T.range (de_v 2)) (dg_nm (i := 4) sc__law_starts.nd rfl (Or.inl rfl))
 (dss_one (ds_app (i := 3) (pv 3) (de_op (opd_add) (de_tup (da_cons (de_op (opd_mod) (de_v 0) (de_op (opd_pow) de_int de_int)) (da_cons (de_v 4) da_nil sE_nam))) (de_op (opd_mulT) (de_tup (da_cons de_int da_nil sE_con)) (de_op (opd_sub) (de_v 1) de_int))))))
 (dss_one (ds_ret (de_v 3)))))
set_option maxHeartbeats 4000000 in
theorem ok__law_due (T : Tx K mg a) : FnOk P w K mg base CX0 1 a.f__law_due a.d__law_due ["_law_road_here", "_law_rounds", "_law_starts_here"] (spD K 3 F__law_due) := by
  refine okDn (fb := S__law_due) 0 9 3 rfl rfl T.F__law_due sc__law_due fun cdv A outer s H E hr => ?_
  have hu80 := hr.units80
  exact (dss_cons (ds_set (i := 3) sc__law_due.nd rfl (Or.inl rfl) (de_lst (da_cons (de_tup da_nil) da_nil sE_tup)))
 (dss_cons (ds_for PassesOwn.never rfl (di_r1 (by rfl) T.range (de_v 1)) (dg_nm (i := 4) sc__law_due.nd rfl (Or.inl rfl))
 (dss_cons (ds_set (i := 5) sc__law_due.nd rfl (Or.inl rfl) (de_lst da_nil))
 (dss_cons (ds_for PassesOwn.never rfl (di_e (de_v 3)) (dg_nm (i := 6) sc__law_due.nd rfl (Or.inr rfl))
 (dss_one (ds_ext (i := 5) (pv 5) (de_comp rfl (F := ["_law_row"]) (ix := [6]) ⟨rfl, rfl, by decide +kernel, by decide +kernel, by (change ∀ y ∈ (_ : List (Str × NameKind)), y.2 = NameKind.free → (defScope s__law_due).names.lookup y.1 = some .cell ∨ (defScope s__law_due).names.lookup y.1 = some .free); decide +kernel, by decide +kernel, by decide +kernel, rfl⟩ (di_e (de_v 0)) (fun _ _ _ _ _ => dts_nil) (fun _ _ _ _ _ => (de_op (opd_add) (de_v 1) (de_tup (da_cons (de_v 0) da_nil sE_nam))))))))
 (dss_one (ds_mov (i := 3) (j := 5) sc__law_due.nd rfl (Or.inl rfl) (pv 5))))))
 (dss_cons (ds_set (i := 7) sc__law_due.nd rfl (Or.inl rfl) (de_lst da_nil))
 (dss_cons (ds_for PassesOwn.never rfl (di_e (de_v 2)) (dg_nm (i := 8) sc__law_due.nd rfl (Or.inr rfl))
 (dss_one (ds_ext (i := 7) (pv 7) (de_comp rfl (F := ["_law_start"]) (ix := [8]) ⟨rfl, rfl, by decide +kernel, by decide +kernel, by (change ∀ y ∈ (_ : List (Str × NameKind)), y.2 = NameKind.free → (defScope s__law_due).names.lookup y.1 = some .cell ∨ (defScope s__law_due).names.lookup y.1 = some .free); decide +kernel, by decide +kernel, by decide +kernel, rfl⟩ (di_e (de_v 3)) (fun _ _ _ _ _ => dts_nil) (fun _ _ _ _ _ => (de_tup (da_cons (de_v 1) (da_cons (de_v 0) da_nil sE_nam) sE_nam)))))))
 (dss_one (ds_ret (de_v 7)))))))
set_option maxHeartbeats 4000000 in
theorem ok_many_rows (T : Tx K mg a) : FnOk P w K mg base CX0 1 a.f_many_rows a.d_many_rows ["things", "length"] (spD K 2 F_many_rows) := by
  refine okDn (fb := S_many_rows) 0 4 2 rfl rfl T.F_many_rows sc_many_rows fun cdv A outer s H E hr => ?_
  have hu80 := hr.units80
  exact (dss_cons (ds_set (i := 2) sc_many_rows.nd rfl (Or.inl rfl) de_int)
 (dss_cons (ds_for PassesOwn.never rfl (di_r1 (by rfl) T.range (de_v 1)) (dg_nm (i := 3) sc_many_rows.nd rfl (Or.inl rfl))
 (dss_one (ds_set (i := 2) sc_many_rows.nd rfl (Or.inl rfl) (de_op (opd_mul) (de_v 2) (de_callB calld_len (by rfl) T.len PySem.boot_len (da_cons (de_v 0) da_nil sE_nam))))))
 (dss_one (ds_ret (de_v 2)))))
set_option maxHeartbeats 4000000 in
theorem ok_many_runs (T : Tx K mg a) : FnOk P w K mg base CX0 2 a.f_many_runs a.d_many_runs ["road", "rounds", "starts"] (spD K 3 F_many_runs) := by
  have G_many_rows := ok_many_rows (P := P) (w := w) (base := base) T
  refine okDn (fb := S_many_runs) 1 3 3 rfl rfl T.F_many_runs sc_many_runs fun cdv A outer s H E hr => ?_
  have hu80 := hr.units80
  exact (dss_one (ds_ret (de_op (opd_mul) (de_callB calld_len (by rfl) T.len PySem.boot_len (da_cons (de_v 2) da_nil sE_nam)) (de_call G_many_rows (hr.mono (by decide)) (by rfl) T.m_many_rows T.k_many_rows T.b_many_rows (E := E0) pass0 (da_cons (de_v 0) (da_cons (de_v 1) da_nil sE_nam) sE_nam)))))
set_option maxHeartbeats 4000000 in
theorem ok_row_at (T : Tx K mg a) : FnOk P w K mg base CX0 1 a.f_row_at a.d_row_at ["things", "length", "number"] (spD K 3 F_row_at) := by
  refine okDn (fb := S_row_at) 0 6 3 rfl rfl T.F_row_at sc_row_at fun cdv A outer s H E hr => ?_
  have hu80 := hr.units80
  exact (dss_cons (ds_set (i := 3) sc_row_at.nd rfl (Or.inl rfl) (de_lst da_nil))
 (dss_cons (ds_mov (i := 4) (j := 2) sc_row_at.nd rfl (Or.inl rfl) (pv 2))
 (dss_cons (ds_for PassesOwn.never rfl (di_r1 (by rfl) T.range (de_v 1)) (dg_nm (i := 5) sc_row_at.nd rfl (Or.inl rfl))
 (dss_cons (ds_app (i := 3) (pv 3) (de_ix ixd (de_v 0) (de_op (opd_mod) (de_v 4) (de_callB calld_len (by rfl) T.len PySem.boot_len (da_cons (de_v 0) da_nil sE_nam))) (fun _ _ => rfl)))
 (dss_one (ds_set (i := 4) sc_row_at.nd rfl (Or.inl rfl) (de_op (opd_fdiv) (de_v 4) (de_callB calld_len (by rfl) T.len PySem.boot_len (da_cons (de_v 0) da_nil sE_nam)))))))
 (dss_one (ds_ret (de_tupRev rfl (by rfl) T.tuple (by rfl) T.reversed (de_v 3)))))))
set_option maxHeartbeats 4000000 in
theorem ok_run_at (T : Tx K mg a) : FnOk P w K mg base CX0 2 a.f_run_at a.d_run_at ["road", "rounds", "starts", "number"] (spD K 4 F_run_at) := by
  have G_many_rows := ok_many_rows (P := P) (w := w) (base := base) T
  have G_row_at := ok_row_at (P := P) (w := w) (base := base) T
  refine okDn (fb := S_run_at) 1 5 4 rfl rfl T.F_run_at sc_run_at fun cdv A outer s H E hr => ?_
  have hu80 := hr.units80
  exact (dss_cons (ds_set (i := 4) sc_run_at.nd rfl (Or.inl rfl) (de_call G_many_rows (hr.mono (by decide)) (by rfl) T.m_many_rows T.k_many_rows T.b_many_rows (E := E0) pass0 (da_cons (de_v 0) (da_cons (de_v 1) da_nil sE_nam) sE_nam)))
 (dss_one (ds_ret (de_tup (da_cons (de_ix ixd (de_v 2) (de_op (opd_fdiv) (de_v 3) (de_v 4)) (fun _ _ => rfl)) (da_cons (de_call G_row_at (hr.mono (by decide)) (by rfl) T.m_row_at T.k_row_at T.b_row_at (E := E0) pass0 (da_cons (de_v 0) (da_cons (de_v 1) (da_cons (de_op (opd_mod) (de_v 3) (de_v 4)) da_nil) sE_nam) sE_nam)) da_nil) sE_sub)))))
set_option maxHeartbeats 4000000 in
theorem ok_all_runs (T : Tx K mg a) : FnOk P w K mg base (CX1 P w) 3 a.f_all_runs a.d_all_runs ["road", "rounds", "starts"] (spX K mg 3 F_all_runs) := by
  have G_many_runs := ok_many_runs (P := P) (w := w) (base := base) T
  have G_run_at := ok_run_at (P := P) (w := w) (base := base) T
  refine okX (fb := S_all_runs) 2 4 3 rfl rfl T.F_all_runs sc_all_runs fun cdv A outer s H E hr => ?_
  have hu80 := hr.units80
  exact (dss_cons (ds_set (i := 3) sc_all_runs.nd rfl (Or.inl rfl) (de_callN (G_many_runs.imp fun _ _ _ _ h => spD_nx h) (hr.mono (by decide)) (by rfl) T.m_many_runs T.k_many_runs T.b_many_runs (E := E0) pass0 (da_cons (de_v 0) (da_cons (de_v 1) (da_cons (de_v 2) da_nil sE_nam) sE_nam) sE_nam)))
 (dss_cons (ds_if (dt_cmp (opd_gt) (de_v 3) (de_c (pe_glob (v := .int 3000) (by rfl) T.m_MOST_RUNS ⟨_, rfl⟩) rfl fun _ => isD_int) (nomark _))
 (dss_one (ds_raise (by rfl) T.m_TooMany T.q_TooMany))
 dss_nil)
 (dss_one (ds_ret (de_comp rfl (F := ["road", "rounds", "starts"]) (ix := [0, 1, 2]) ⟨rfl, rfl, by decide +kernel, by decide +kernel, by (change ∀ y ∈ (_ : List (Str × NameKind)), y.2 = NameKind.free → (defScope s_all_runs).names.lookup y.1 = some .cell ∨ (defScope s_all_runs).names.lookup y.1 = some .free); decide +kernel, by decide +kernel, by decide +kernel, rfl⟩ (di_r1 (by rfl) T.range (de_v 3)) (fun _ _ _ _ _ => dts_nil) (fun _ _ _ _ _ => (de_call G_run_at (hr.mono (by decide)) (by rfl) T.m_run_at T.k_run_at T.b_run_at (E := E0) pass0 (da_cons (de_v 1) (da_cons (de_v 2) (da_cons (de_v 3) (da_cons (de_v 0) da_nil sE_nam) sE_nam) sE_nam) sE_nam))))))))
set_option maxHeartbeats 4000000 in
theorem ok__law_edge (T : Tx K mg a) : FnOk P w K mg base CX0 1 a.f__law_edge a.d__law_edge ["_law_number"] (spD K 1 F__law_edge) := by
  refine okDn (fb := S__law_edge) 0 4 1 rfl rfl T.F__law_edge sc__law_edge fun cdv A outer s H E hr => ?_
  have hu80 := hr.units80
  exact (dss_cons (ds_set (i := 1) sc__law_edge.nd rfl (Or.inl rfl) (by repeat (first | exact de_int | exact da_nil | refine da_cons ?_ ?_ sE_tup | refine da_cons ?_ ?_ sE_con | refine de_tup ?_ (by decide) | refine de_lst ?_ (by decide))))
 (dss_cons (ds_set (i := 2) sc__law_edge.nd rfl (Or.inl rfl) (by repeat (first | exact de_int | exact da_nil | refine da_cons ?_ ?_ sE_tup | refine da_cons ?_ ?_ sE_con | refine de_tup ?_ (by decide) | refine de_lst ?_ (by decide))))
 (dss_cons (ds_set (i := 3) sc__law_edge.nd rfl (Or.inl rfl) (de_lst (da_cons (de_tup (da_cons de_int (da_cons (de_sl (de_v 1) dpo_none (dpo_some de_int)) (da_cons de_int (da_cons de_int da_nil sE_con) sE_con) sE_sub) sE_con)) (da_cons (de_tup (da_cons de_int (da_cons (de_v 1) (da_cons de_int (da_cons de_int da_nil sE_con) sE_con) sE_nam) sE_con)) (da_cons (de_tup (da_cons de_int (da_cons (de_v 2) (da_cons de_int (da_cons de_int da_nil sE_con) sE_con) sE_nam) sE_con)) (da_cons (de_tup (da_cons de_int (da_cons (de_v 1) (da_cons de_int (da_cons de_int da_nil sE_con) sE_con) sE_nam) sE_con)) (da_cons (de_tup (da_cons de_int (da_cons (de_v 1) (da_cons de_int (da_cons de_int da_nil sE_con) sE_con) sE_nam) sE_con)) (da_cons (de_tup (da_cons de_int (da_cons (de_v 2) (da_cons de_int (da_cons de_int da_nil sE_con) sE_con) sE_nam) sE_con)) da_nil sE_tup) sE_tup) sE_tup) sE_tup) sE_tup) sE_tup)))
 (dss_one (ds_ret (de_ix ixd (de_v 3) (de_op (opd_mod) (de_v 0) de_int) (fun _ _ => rfl)))))))
set_option maxHeartbeats 4000000 in
theorem ok__law_small (T : Tx K mg a) : FnOk P w K mg base CX0 1 a.f__law_small a.d__law_small ["_law_hands", "_law_road_here", "_law_rounds", "_law_number"] (spD K 4 F__law_small) := by
  refine okDn (fb := S__law_small) 0 6 4 rfl rfl T.F__law_small sc__law_small fun cdv A outer s H E hr => ?_
  have hu80 := hr.units80
  exact (dss_cons (ds_set (i := 4) sc__law_small.nd rfl (Or.inl rfl) de_int)
 (dss_cons (ds_set (i := 5) sc__law_small.nd rfl (Or.inl rfl) de_int)
 (dss_cons (ds_while bigN PassesOwn.never (DW.dt (dw_and (dt_cmp (opd_lt) (de_v 5) (de_v 2) (nomark _)) (dw_and1 (dt_cmp (opd_le) (de_op (opd_mul) (de_v 4) (de_callB calld_len (by rfl) T.len PySem.boot_len (da_cons (de_v 1) da_nil sE_nam))) de_int (nomark _)))))
 (dss_cons (ds_set (i := 4) sc__law_small.nd rfl (Or.inl rfl) (de_op (opd_mul) (de_v 4) (de_callB calld_len (by rfl) T.len PySem.boot_len (da_cons (de_v 1) da_nil sE_nam))))
 (dss_one (ds_set (i := 5) sc__law_small.nd rfl (Or.inl rfl) (de_op (opd_add) (de_v 5) de_int)))))
 (dss_one (ds_ret (de_tup (da_cons (de_v 0) (da_cons (de_v 1) (da_cons (de_v 5) (da_cons (de_op (opd_add) de_int (de_op (opd_mod) (de_v 3) (de_callB (calld_min rfl) (by rfl) T.min PyProof.Rows.boot_min (da_cons de_int (da_cons (de_op (opd_fdiv) de_int (de_v 4)) da_nil) sE_con)))) da_nil) sE_nam) sE_nam) sE_nam)))))))
set_option maxHeartbeats 4000000 in
theorem ok__law_right (T : Tx K mg a) : FnOk P w K mg base CX0 1 a.f__law_right a.d__law_right ["_law_found", "_law_due_here"] (spD K 2 F__law_right) := by
  refine okDn (fb := S__law_right) 0 4 2 rfl rfl T.F__law_right sc__law_right fun cdv A outer s H E hr => ?_
  have hu80 := hr.units80
  exact (dss_cons (ds_if (DW.dt (dw_or (dt_not (dt_val (de_isi (by decide) (by rfl) T.isinstance (de_v 0) (pe_bltn (v := .ty "list") (by rfl) T.list PyProof.Rows.boot_list rfl)))) (dw_or1 (dt_cmp (opd_ne hu80) (de_callB calld_len (by rfl) T.len PySem.boot_len (da_cons (de_v 0) da_nil sE_nam)) (de_callB calld_len (by rfl) T.len PySem.boot_len (da_cons (de_v 1) da_nil sE_nam)) (nomark _)))))
 (dss_one (ds_ret de_bl))
 dss_nil)
 (dss_cons (ds_for PassesOwn.never rfl (di_zip (by rfl) T.zip (de_v 0) (de_v 1)) (dg_tp (is := [2, 3]) rfl (pgs_cons (pg_name (i := 2) sc__law_right.nd rfl (Or.inl rfl)) (pgs_cons (pg_name (i := 3) sc__law_right.nd rfl (Or.inl rfl)) pgs_nil)))
 (dss_one (ds_if (DW.dt (dw_or (dt_not (dt_val (de_isi (by decide) (by rfl) T.isinstance (de_v 2) (pe_bltn (v := .ty "tuple") (by rfl) T.tuple PyProof.Rows.boot_tuple rfl)))) (dw_or (dt_cmp (opd_ne hu80) (de_v 2) (de_v 3) (nomark _)) (dw_or (dt_not (dt_val (de_isi (by decide) (by rfl) T.isinstance (de_ix ixd (de_v 2) de_int (fun _ _ => rfl)) (pe_bltn (v := .ty "tuple") (by rfl) T.tuple PyProof.Rows.boot_tuple rfl)))) (dw_or1 (dt_not (dt_val (de_isi (by decide) (by rfl) T.isinstance (de_ix ixd (de_v 2) de_int (fun _ _ => rfl)) (pe_bltn (v := .ty "tuple") (by rfl) T.tuple PyProof.Rows.boot_tuple rfl)))))))))
 (dss_one (ds_ret de_bl))
 dss_nil)))
 (dss_one (ds_ret de_bl))))
theorem hexm__law_refused (T : Tx K mg a) (c : Str) (C : Addr) (b : Bool) (hb : r__law_refused (some c) = some b) (hc : mg c = some (.ref C)) : PySem.W.exmOne K (.ref C) (.ref a.c_PactError) = some true := by
  have hcc : c = Str.ofString "TooMany" := by
    simp only [r__law_refused] at hb
    split at hb
    · assumption
    · cases hb
  subst hcc
  rw [T.m_TooMany] at hc
  cases hc
  exact exmOne_of T.i_PactError T.t_PactError T.ub_PactError T.s_TooMany_PactError
section
variable {X : Cx} {ik : Nat} {nk : Str} {p1 p2 p3 p4 p5 p6 p7 p8 p9 p10 p11 p12 : Pos} {k9 : Nat}
theorem hE0__law_refused (T : Tx K mg a) (hK : X.K = K) (hM : X.mg = mg) (hik : X.N[ik]? = some "_law_kept") (hv : Vis X.env.scope "_law_kept") (hg : Gl X "isinstance") (h1 : Gl X "TooMany") (h2 : Gl X "NoRoad") (h3 : Gl X "NoText") (b : Bool) (hb : r__law_refused none = some b) :
    PE X (.BoolOp .And [.Call (.Name "isinstance" p1) [.Name "_law_kept" p2, .Name "TooMany" p3] [] p4, .UnaryOp .Not (.Call (.Name "isinstance" p5) [.Name "_law_kept" p6, .Tuple [.Name "NoRoad" p7, .Name "NoText" p8] k9 p9] [] p10) p11] p12) (fun σ H Q => σ[ik]? = some (some .non) ∧ ∀ H', Same H H' → Q (.bl b) H') := by
  subst hK hM
  cases hb
  refine (pe_isNot hik hv hg T.isinstance h1 T.m_TooMany h2 T.m_NoRoad h3 T.m_NoText).imp fun σ H Q q => ⟨.non, .type "NoneType", false, true, q.1, .inl ⟨rfl, rfl⟩, kitOne_of T.i_TooMany T.t_TooMany T.n_TooMany (fun z => by simp at z), (fun z => by cases z), q.2⟩
theorem hE1__law_refused (T : Tx K mg a) (hK : X.K = K) (hM : X.mg = mg) (hik : X.N[ik]? = some "_law_kept") (hv : Vis X.env.scope "_law_kept") (hg : Gl X "isinstance") (h1 : Gl X "TooMany") (h2 : Gl X "NoRoad") (h3 : Gl X "NoText") (c : Str) (C : Addr) (b : Bool) (hb : r__law_refused (some c) = some b) (hc : X.mg c = some (.ref C)) :
    PE X (.BoolOp .And [.Call (.Name "isinstance" p1) [.Name "_law_kept" p2, .Name "TooMany" p3] [] p4, .UnaryOp .Not (.Call (.Name "isinstance" p5) [.Name "_law_kept" p6, .Tuple [.Name "NoRoad" p7, .Name "NoText" p8] k9 p9] [] p10) p11] p12) (fun σ H Q => ∃ ea, σ[ik]? = some (some (.ref ea)) ∧ H ea = some (.ext (ExAt ea C)) ∧ ∀ H', Same H H' → Q (.bl b) H') := by
  subst hK hM
  have hcc : c = Str.ofString "TooMany" ∧ b = true := by
    simp only [r__law_refused] at hb
    split at hb
    · cases hb; exact ⟨by assumption, rfl⟩
    · cases hb
  obtain ⟨rfl, rfl⟩ := hcc
  rw [T.m_TooMany] at hc
  cases hc
  have no : ∀ D, PySem.W.subIn X.K (.ref a.c_TooMany) (.ref D) = some false → (Value.ref a.c_TooMany == Value.ref D) = true → false = true := fun D h z => by
    have e : a.c_TooMany = D := Value.ref.inj (beq_iff_eq.mp z)
    rw [← e, T.s_TooMany_TooMany] at h
    cases h
  refine (pe_isNot hik hv hg T.isinstance h1 T.m_TooMany h2 T.m_NoRoad h3 T.m_NoText).imp fun σ H Q q => ?_
  obtain ⟨ea, q1, q2, q3⟩ := q
  exact ⟨.ref ea, .ref a.c_TooMany, true, false, q1, .inr ⟨ea, a.c_TooMany, rfl, q2, T.e_TooMany, rfl⟩, kitOne_of T.i_TooMany T.t_TooMany T.s_TooMany_TooMany (fun _ => rfl), fun _ => kitAny2_of (b1 := false) (b2 := false) (kitOne_of T.i_NoRoad T.t_NoRoad T.s_TooMany_NoRoad (no _ T.s_TooMany_NoRoad)) (kitOne_of T.i_NoText T.t_NoText T.s_TooMany_NoText (no _ T.s_TooMany_NoText)), q3⟩
end
set_option maxHeartbeats 4000000 in
theorem ok__law_refused (T : Tx K mg a) : FnOk P w K mg base CX0 4 a.f__law_refused a.d__law_refused ["_law_road_here", "_law_rounds", "_law_starts_here"] (spD K 3 F__law_refused) := by
  have G_all_runs := ok_all_runs (P := P) (w := w) (base := base) T
  refine okDn (fb := S__law_refused) 3 5 3 rfl rfl T.F__law_refused sc__law_refused fun cdv A outer s H E hr => ?_
  have hu80 := hr.units80
  exact (dss_cons (ds_set (i := 3) sc__law_refused.nd rfl (Or.inl rfl) de_non)
 (dss_catch (ie := 4) (ik := 3) (r := r__law_refused) G_all_runs (hr.mono (by decide)) (by rfl) T.m_all_runs T.k_all_runs T.b_all_runs (da_cons (de_v 0) (da_cons (de_v 1) (da_cons (de_v 2) da_nil sE_nam) sE_nam) sE_nam) rfl rfl rfl rfl (by rfl) T.m_PactError (hexm__law_refused T) sc__law_refused.nd rfl rfl rfl rfl (by decide) (fun b hb => hE0__law_refused T rfl rfl rfl (Or.inl rfl) (by rfl) (by rfl) (by rfl) (by rfl) b hb) (fun c C b hb hc => hE1__law_refused T rfl rfl rfl (Or.inl rfl) (by rfl) (by rfl) (by rfl) (by rfl) c C b hb hc)))
set_option maxHeartbeats 4000000 in
theorem ok_law (T : Tx K mg a) : FnOk P w K mg base CX0 5 a.f_law a.d_law ["_law_script"] (spD K 1 F_law) := by
  have G__law_mix := ok__law_mix (P := P) (w := w) (base := base) T
  have G__law_road := ok__law_road (P := P) (w := w) (base := base) T
  have G__law_starts := ok__law_starts (P := P) (w := w) (base := base) T
  have G__law_due := ok__law_due (P := P) (w := w) (base := base) T
  have G_all_runs := ok_all_runs (P := P) (w := w) (base := base) T
  have G__law_at := ok__law_at (P := P) (w := w) (base := base) T
  have G__law_edge := ok__law_edge (P := P) (w := w) (base := base) T
  have G__law_small := ok__law_small (P := P) (w := w) (base := base) T
  have G__law_right := ok__law_right (P := P) (w := w) (base := base) T
  have G__law_refused := ok__law_refused (P := P) (w := w) (base := base) T
  refine okDn (fb := S_law) 4 13 1 rfl rfl T.F_law sc_law fun cdv A outer s H E hr => ?_
  have hu80 := hr.units80
  exact (dss_cons (ds_set (i := 1) sc_law.nd rfl (Or.inl rfl) (de_call G__law_mix (hr.mono (by decide)) (by rfl) T.m__law_mix T.k__law_mix T.b__law_mix (E := E0) pass0 (da_cons (de_call G__law_at (hr.mono (by decide)) (by rfl) T.m__law_at T.k__law_at T.b__law_at (E := E0) pass0 (da_cons (de_v 0) (da_cons de_int da_nil sE_con) sE_nam)) (da_cons de_int da_nil sE_con))))
 (dss_cons (ds_set (i := 2) sc_law.nd rfl (Or.inl rfl) (de_op (opd_add) de_int (de_op (opd_mod) (de_v 1) de_int)))
 (dss_cons (ds_set (i := 3) sc_law.nd rfl (Or.inl rfl) (de_call G__law_road (hr.mono (by decide)) (by rfl) T.m__law_road T.k__law_road T.b__law_road (E := E0) pass0 (da_cons (de_v 0) (da_cons (de_v 2) (da_cons de_int da_nil sE_con) sE_nam) sE_nam)))
 (dss_cons (ds_set (i := 4) sc_law.nd rfl (Or.inl rfl) (de_op (opd_mod) (de_op (opd_fdiv) (de_v 1) de_int) de_int))
 (dss_cons (ds_set (i := 5) sc_law.nd rfl (Or.inl rfl) (de_cmp (opd_eq hu80) (de_op (opd_mod) (de_op (opd_fdiv) (de_v 1) de_int) de_int) de_int (nomark _)))
 (dss_cons (ds_if (dt_val (de_v 5))
 (dss_one (ds_asg (de_call G__law_edge (hr.mono (by decide)) (by rfl) T.m__law_edge T.k__law_edge T.b__law_edge (E := E0) pass0 (da_cons (de_op (opd_fdiv) (de_v 1) de_int) da_nil)) (dg_tp (is := [2, 3, 4, 6]) rfl (pgs_cons (pg_name (i := 2) sc_law.nd rfl (Or.inl rfl)) (pgs_cons (pg_name (i := 3) sc_law.nd rfl (Or.inl rfl)) (pgs_cons (pg_name (i := 4) sc_law.nd rfl (Or.inl rfl)) (pgs_cons (pg_name (i := 6) sc_law.nd rfl (Or.inl rfl)) pgs_nil)))))))
 (dss_one (ds_asg (de_call G__law_small (hr.mono (by decide)) (by rfl) T.m__law_small T.k__law_small T.b__law_small (E := E0) pass0 (da_cons (de_v 2) (da_cons (de_v 3) (da_cons (de_v 4) (da_cons (de_op (opd_fdiv) (de_v 1) de_int) da_nil) sE_nam) sE_nam) sE_nam)) (dg_tp (is := [2, 3, 4, 6]) rfl (pgs_cons (pg_name (i := 2) sc_law.nd rfl (Or.inl rfl)) (pgs_cons (pg_name (i := 3) sc_law.nd rfl (Or.inl rfl)) (pgs_cons (pg_name (i := 4) sc_law.nd rfl (Or.inl rfl)) (pgs_cons (pg_name (i := 6) sc_law.nd rfl (Or.inl rfl)) pgs_nil))))))))
 (dss_cons (ds_set (i := 7) sc_law.nd rfl (Or.inl rfl) (de_call G__law_starts (hr.mono (by decide)) (by rfl) T.m__law_starts T.k__law_starts T.b__law_starts (E := E0) pass0 (da_cons (de_call G__law_at (hr.mono (by decide)) (by rfl) T.m__law_at T.k__law_at T.b__law_at (E := E0) pass0 (da_cons (de_v 0) (da_cons de_int da_nil sE_con) sE_nam)) (da_cons (de_v 2) (da_cons (de_v 6) da_nil sE_nam) sE_nam))))
 (dss_cons (ds_set (i := 8) sc_law.nd rfl (Or.inl rfl) (de_lst (da_cons (de_callTy calld_list (by rfl) T.list PyProof.Rows.boot_list (da_cons (de_v 3) da_nil sE_nam)) (da_cons (de_callTy calld_list (by rfl) T.list PyProof.Rows.boot_list (da_cons (de_v 7) da_nil sE_nam)) da_nil))))
 (dss_cons (ds_mov (i := 9) (j := 6) sc_law.nd rfl (Or.inl rfl) (pv 6))
 (dss_cons (ds_for PassesOwn.never rfl (di_r1 (by rfl) T.range (de_v 4)) (dg_nm (i := 10) sc_law.nd rfl (Or.inl rfl))
 (dss_one (ds_set (i := 9) sc_law.nd rfl (Or.inl rfl) (de_op (opd_mul) (de_v 9) (de_callB calld_len (by rfl) T.len PySem.boot_len (da_cons (de_v 3) da_nil sE_nam))))))
 (dss_cons (ds_if (dt_cmp (opd_gt) (de_v 9) de_int (nomark _))
 (dss_one (ds_ret (de_and (de_call G__law_refused (hr.mono (by decide)) (by rfl) T.m__law_refused T.k__law_refused T.b__law_refused (E := E0) pass0 (da_cons (de_ix ixd (de_v 8) de_int (fun _ _ => rfl)) (da_cons (de_v 4) (da_cons (de_ix ixd (de_v 8) de_int (fun _ _ => rfl)) da_nil sE_sub) sE_nam) sE_sub)) (de_one (de_cmp (opd_eq hu80) (de_v 8) (de_lst (da_cons (de_v 3) (da_cons (de_v 7) da_nil sE_nam) sE_nam)) (nomark _))))))
 dss_nil)
 (dss_cons (ds_set (i := 11) sc_law.nd rfl (Or.inl rfl) (de_call G__law_due (hr.mono (by decide)) (by rfl) T.m__law_due T.k__law_due T.b__law_due (E := E0) pass0 (da_cons (de_v 3) (da_cons (de_v 4) (da_cons (de_v 7) da_nil sE_nam) sE_nam) sE_nam)))
 (dss_cons (ds_set (i := 12) sc_law.nd rfl (Or.inl rfl) (de_callN (G_all_runs.imp fun _ _ _ _ h => spX_nx h) (hr.mono (by decide)) (by rfl) T.m_all_runs T.k_all_runs T.b_all_runs (E := E0) passE0 (da_cons (de_ix ixd (de_v 8) de_int (fun _ _ => rfl)) (da_cons (de_v 4) (da_cons (de_ix ixd (de_v 8) de_int (fun _ _ => rfl)) da_nil sE_sub) sE_nam) sE_sub)))
 (dss_cons (ds_if (DW.dt (dw_or (dt_not (dt_val (de_call G__law_right (hr.mono (by decide)) (by rfl) T.m__law_right T.k__law_right T.b__law_right (E := E0) pass0 (da_cons (de_v 12) (da_cons (de_v 11) da_nil sE_nam) sE_nam)))) (dw_or1 (dt_val (de_v 5)))))
 (dss_one (ds_ret (de_call G__law_right (hr.mono (by decide)) (by rfl) T.m__law_right T.k__law_right T.b__law_right (E := E0) pass0 (da_cons (de_v 12) (da_cons (de_v 11) da_nil sE_nam) sE_nam))))
 dss_nil)
 (dss_cons (ds_clr (i := 12) (pv 12))
 (dss_one (ds_ret (de_and (de_call G__law_right (hr.mono (by decide)) (by rfl) T.m__law_right T.k__law_right T.b__law_right (E := E0) pass0 (da_cons (de_callN (G_all_runs.imp fun _ _ _ _ h => spX_nx h) (hr.mono (by decide)) (by rfl) T.m_all_runs T.k_all_runs T.b_all_runs (E := E0) passE0 (da_cons (de_ix ixd (de_v 8) de_int (fun _ _ => rfl)) (da_cons (de_v 4) (da_cons (de_ix ixd (de_v 8) de_int (fun _ _ => rfl)) da_nil sE_sub) sE_nam) sE_sub)) (da_cons (de_v 11) da_nil sE_nam))) (de_one (de_cmp (opd_eq hu80) (de_v 8) (de_lst (da_cons (de_v 3) (da_cons (de_v 7) da_nil sE_nam) sE_nam)) (nomark _)))))))))))))))))))))
end
theorem all_mk {l : PySem.W.OpenLaw} {w : World} {K : PySem.W.Frag} {h : Heap} {mg : Str → Option Value} {fa f_many_rows f_row_at f_many_runs f_run_at f_all_runs f__law_at f__law_mix f__law_letters f__law_road f__law_starts f__law_due f__law_right f__law_refused f__law_edge f__law_small f_law c_PactError c_NoText c_NoRoad c_TooMany : Addr} {t_MOST_RUNS : Nat} (X : K.In h) (G : h.Ns mainGlobals mg) (hfa : mg "law" = some (.ref fa))
    {od_many_rows an_many_rows od_row_at an_row_at od_many_runs an_many_runs od_run_at an_run_at od_all_runs an_all_runs od__law_at an__law_at od__law_mix an__law_mix od__law_letters an__law_letters od__law_road an__law_road od__law_starts an__law_starts od__law_due an__law_due od__law_right an__law_right od__law_refused an__law_refused od__law_edge an__law_edge od__law_small an__law_small od_law an_law : Option Addr} {sl_many_rows sl_row_at sl_many_runs sl_run_at sl_all_runs sl__law_at sl__law_mix sl__law_letters sl__law_road sl__law_starts sl__law_due sl__law_right sl__law_refused sl__law_edge sl__law_small sl_law : Array (Option Value)} {oc_many_rows kV_many_rows dc_many_rows pm_many_rows cd_many_rows ct_many_rows oc_row_at kV_row_at dc_row_at pm_row_at cd_row_at ct_row_at oc_many_runs kV_many_runs dc_many_runs pm_many_runs cd_many_runs ct_many_runs oc_run_at kV_run_at dc_run_at pm_run_at cd_run_at ct_run_at oc_all_runs kV_all_runs dc_all_runs pm_all_runs cd_all_runs ct_all_runs oc__law_at kV__law_at dc__law_at pm__law_at cd__law_at ct__law_at oc__law_mix kV__law_mix dc__law_mix pm__law_mix cd__law_mix ct__law_mix oc__law_letters kV__law_letters dc__law_letters pm__law_letters cd__law_letters ct__law_letters oc__law_road kV__law_road dc__law_road pm__law_road cd__law_road ct__law_road oc__law_starts kV__law_starts dc__law_starts pm__law_starts cd__law_starts ct__law_starts oc__law_due kV__law_due dc__law_due pm__law_due cd__law_due ct__law_due oc__law_right kV__law_right dc__law_right pm__law_right cd__law_right ct__law_right oc__law_refused kV__law_refused dc__law_refused pm__law_refused cd__law_refused ct__law_refused oc__law_edge kV__law_edge dc__law_edge pm__law_edge cd__law_edge ct__law_edge oc__law_small kV__law_small dc__law_small pm__law_small cd__law_small ct__law_small oc_law kV_law dc_law pm_law cd_law ct_law : Value}
    (a_many_rows : PySem.W.nsIn K mainGlobals "many_rows" = some (some (.ref f_many_rows))) (l_many_rows : K.lookup f_many_rows = some ⟨oc_many_rows, od_many_rows, .func (PySem.W.fnOf "many_rows" "many_rows" (defArgs s_many_rows) (defBody s_many_rows) (defScope s_many_rows) .none kV_many_rows dc_many_rows pm_many_rows an_many_rows cd_many_rows ct_many_rows), sl_many_rows⟩) (c_many_rows : PySem.W.codeIn K cd_many_rows "many_rows" = true) (k_many_rows : PySem.W.keepIn K (.ref f_many_rows) = true)
    (a_row_at : PySem.W.nsIn K mainGlobals "row_at" = some (some (.ref f_row_at))) (l_row_at : K.lookup f_row_at = some ⟨oc_row_at, od_row_at, .func (PySem.W.fnOf "row_at" "row_at" (defArgs s_row_at) (defBody s_row_at) (defScope s_row_at) .none kV_row_at dc_row_at pm_row_at an_row_at cd_row_at ct_row_at), sl_row_at⟩) (c_row_at : PySem.W.codeIn K cd_row_at "row_at" = true) (k_row_at : PySem.W.keepIn K (.ref f_row_at) = true)
    (a_many_runs : PySem.W.nsIn K mainGlobals "many_runs" = some (some (.ref f_many_runs))) (l_many_runs : K.lookup f_many_runs = some ⟨oc_many_runs, od_many_runs, .func (PySem.W.fnOf "many_runs" "many_runs" (defArgs s_many_runs) (defBody s_many_runs) (defScope s_many_runs) .none kV_many_runs dc_many_runs pm_many_runs an_many_runs cd_many_runs ct_many_runs), sl_many_runs⟩) (c_many_runs : PySem.W.codeIn K cd_many_runs "many_runs" = true) (k_many_runs : PySem.W.keepIn K (.ref f_many_runs) = true)
    (a_run_at : PySem.W.nsIn K mainGlobals "run_at" = some (some (.ref f_run_at))) (l_run_at : K.lookup f_run_at = some ⟨oc_run_at, od_run_at, .func (PySem.W.fnOf "run_at" "run_at" (defArgs s_run_at) (defBody s_run_at) (defScope s_run_at) .none kV_run_at dc_run_at pm_run_at an_run_at cd_run_at ct_run_at), sl_run_at⟩) (c_run_at : PySem.W.codeIn K cd_run_at "run_at" = true) (k_run_at : PySem.W.keepIn K (.ref f_run_at) = true)
    (a_all_runs : PySem.W.nsIn K mainGlobals "all_runs" = some (some (.ref f_all_runs))) (l_all_runs : K.lookup f_all_runs = some ⟨oc_all_runs, od_all_runs, .func (PySem.W.fnOf "all_runs" "all_runs" (defArgs s_all_runs) (defBody s_all_runs) (defScope s_all_runs) .none kV_all_runs dc_all_runs pm_all_runs an_all_runs cd_all_runs ct_all_runs), sl_all_runs⟩) (c_all_runs : PySem.W.codeIn K cd_all_runs "all_runs" = true) (k_all_runs : PySem.W.keepIn K (.ref f_all_runs) = true)
    (a__law_at : PySem.W.nsIn K mainGlobals "_law_at" = some (some (.ref f__law_at))) (l__law_at : K.lookup f__law_at = some ⟨oc__law_at, od__law_at, .func (PySem.W.fnOf "_law_at" "_law_at" (defArgs s__law_at) (defBody s__law_at) (defScope s__law_at) .none kV__law_at dc__law_at pm__law_at an__law_at cd__law_at ct__law_at), sl__law_at⟩) (c__law_at : PySem.W.codeIn K cd__law_at "_law_at" = true) (k__law_at : PySem.W.keepIn K (.ref f__law_at) = true)
    (a__law_mix : PySem.W.nsIn K mainGlobals "_law_mix" = some (some (.ref f__law_mix))) (l__law_mix : K.lookup f__law_mix = some ⟨oc__law_mix, od__law_mix, .func (PySem.W.fnOf "_law_mix" "_law_mix" (defArgs s__law_mix) (defBody s__law_mix) (defScope s__law_mix) .none kV__law_mix dc__law_mix pm__law_mix an__law_mix cd__law_mix ct__law_mix), sl__law_mix⟩) (c__law_mix : PySem.W.codeIn K cd__law_mix "_law_mix" = true) (k__law_mix : PySem.W.keepIn K (.ref f__law_mix) = true)
    (a__law_letters : PySem.W.nsIn K mainGlobals "_law_letters" = some (some (.ref f__law_letters))) (l__law_letters : K.lookup f__law_letters = some ⟨oc__law_letters, od__law_letters, .func (PySem.W.fnOf "_law_letters" "_law_letters" (defArgs s__law_letters) (defBody s__law_letters) (defScope s__law_letters) .none kV__law_letters dc__law_letters pm__law_letters an__law_letters cd__law_letters ct__law_letters), sl__law_letters⟩) (c__law_letters : PySem.W.codeIn K cd__law_letters "_law_letters" = true) (k__law_letters : PySem.W.keepIn K (.ref f__law_letters) = true)
    (a__law_road : PySem.W.nsIn K mainGlobals "_law_road" = some (some (.ref f__law_road))) (l__law_road : K.lookup f__law_road = some ⟨oc__law_road, od__law_road, .func (PySem.W.fnOf "_law_road" "_law_road" (defArgs s__law_road) (defBody s__law_road) (defScope s__law_road) .none kV__law_road dc__law_road pm__law_road an__law_road cd__law_road ct__law_road), sl__law_road⟩) (c__law_road : PySem.W.codeIn K cd__law_road "_law_road" = true) (k__law_road : PySem.W.keepIn K (.ref f__law_road) = true)
    (a__law_starts : PySem.W.nsIn K mainGlobals "_law_starts" = some (some (.ref f__law_starts))) (l__law_starts : K.lookup f__law_starts = some ⟨oc__law_starts, od__law_starts, .func (PySem.W.fnOf "_law_starts" "_law_starts" (defArgs s__law_starts) (defBody s__law_starts) (defScope s__law_starts) .none kV__law_starts dc__law_starts pm__law_starts an__law_starts cd__law_starts ct__law_starts), sl__law_starts⟩) (c__law_starts : PySem.W.codeIn K cd__law_starts "_law_starts" = true) (k__law_starts : PySem.W.keepIn K (.ref f__law_starts) = true)
    (a__law_due : PySem.W.nsIn K mainGlobals "_law_due" = some (some (.ref f__law_due))) (l__law_due : K.lookup f__law_due = some ⟨oc__law_due, od__law_due, .func (PySem.W.fnOf "_law_due" "_law_due" (defArgs s__law_due) (defBody s__law_due) (defScope s__law_due) .none kV__law_due dc__law_due pm__law_due an__law_due cd__law_due ct__law_due), sl__law_due⟩) (c__law_due : PySem.W.codeIn K cd__law_due "_law_due" = true) (k__law_due : PySem.W.keepIn K (.ref f__law_due) = true)
    (a__law_right : PySem.W.nsIn K mainGlobals "_law_right" = some (some (.ref f__law_right))) (l__law_right : K.lookup f__law_right = some ⟨oc__law_right, od__law_right, .func (PySem.W.fnOf "_law_right" "_law_right" (defArgs s__law_right) (defBody s__law_right) (defScope s__law_right) .none kV__law_right dc__law_right pm__law_right an__law_right cd__law_right ct__law_right), sl__law_right⟩) (c__law_right : PySem.W.codeIn K cd__law_right "_law_right" = true) (k__law_right : PySem.W.keepIn K (.ref f__law_right) = true)
    (a__law_refused : PySem.W.nsIn K mainGlobals "_law_refused" = some (some (.ref f__law_refused))) (l__law_refused : K.lookup f__law_refused = some ⟨oc__law_refused, od__law_refused, .func (PySem.W.fnOf "_law_refused" "_law_refused" (defArgs s__law_refused) (defBody s__law_refused) (defScope s__law_refused) .none kV__law_refused dc__law_refused pm__law_refused an__law_refused cd__law_refused ct__law_refused), sl__law_refused⟩) (c__law_refused : PySem.W.codeIn K cd__law_refused "_law_refused" = true) (k__law_refused : PySem.W.keepIn K (.ref f__law_refused) = true)
    (a__law_edge : PySem.W.nsIn K mainGlobals "_law_edge" = some (some (.ref f__law_edge))) (l__law_edge : K.lookup f__law_edge = some ⟨oc__law_edge, od__law_edge, .func (PySem.W.fnOf "_law_edge" "_law_edge" (defArgs s__law_edge) (defBody s__law_edge) (defScope s__law_edge) .none kV__law_edge dc__law_edge pm__law_edge an__law_edge cd__law_edge ct__law_edge), sl__law_edge⟩) (c__law_edge : PySem.W.codeIn K cd__law_edge "_law_edge" = true) (k__law_edge : PySem.W.keepIn K (.ref f__law_edge) = true)
    (a__law_small : PySem.W.nsIn K mainGlobals "_law_small" = some (some (.ref f__law_small))) (l__law_small : K.lookup f__law_small = some ⟨oc__law_small, od__law_small, .func (PySem.W.fnOf "_law_small" "_law_small" (defArgs s__law_small) (defBody s__law_small) (defScope s__law_small) .none kV__law_small dc__law_small pm__law_small an__law_small cd__law_small ct__law_small), sl__law_small⟩) (c__law_small : PySem.W.codeIn K cd__law_small "_law_small" = true) (k__law_small : PySem.W.keepIn K (.ref f__law_small) = true)
    (a_law : PySem.W.nsIn K mainGlobals "law" = some (some (.ref f_law))) (l_law : K.lookup f_law = some ⟨oc_law, od_law, .func (PySem.W.fnOf "law" "law" (defArgs s_law) (defBody s_law) (defScope s_law) .none kV_law dc_law pm_law an_law cd_law ct_law), sl_law⟩) (c_law : PySem.W.codeIn K cd_law "law" = true) (k_law : PySem.W.keepIn K (.ref f_law) = true)
    (z_isinstance : PySem.W.nsIn K mainGlobals "isinstance" = some none)
    (z_len : PySem.W.nsIn K mainGlobals "len" = some none)
    (z_list : PySem.W.nsIn K mainGlobals "list" = some none)
    (z_min : PySem.W.nsIn K mainGlobals "min" = some none)
    (z_range : PySem.W.nsIn K mainGlobals "range" = some none)
    (z_reversed : PySem.W.nsIn K mainGlobals "reversed" = some none)
    (z_tuple : PySem.W.nsIn K mainGlobals "tuple" = some none)
    (z_zip : PySem.W.nsIn K mainGlobals "zip" = some none)
    (g_MOST_RUNS : PySem.W.nsIn K mainGlobals "MOST_RUNS" = some (some (.int 3000 t_MOST_RUNS)))
    (x_ge : PySem.W.specialIn K (.builtin "object.__class__") "__get__" = some (some (.builtin "getset_descriptor.__get__"))) (x_tk : PySem.W.takesIn K (.builtin "object.__class__") = some true)
    (a_PactError : PySem.W.nsIn K mainGlobals "PactError" = some (some (.ref c_PactError)))
    (a_NoText : PySem.W.nsIn K mainGlobals "NoText" = some (some (.ref c_NoText)))
    (a_NoRoad : PySem.W.nsIn K mainGlobals "NoRoad" = some (some (.ref c_NoRoad)))
    (a_TooMany : PySem.W.nsIn K mainGlobals "TooMany" = some (some (.ref c_TooMany)))
    (q_PactError : PySem.W.excIn K c_PactError bmVE "ValueError.__new__" = true)
    (ga_PactError : PySem.W.findIn K (.ref c_PactError) "__getattribute__" = some (some (.builtin "BaseException.__getattribute__")))
    (gh_PactError : PySem.W.findIn K (.ref c_PactError) "__getattr__" = some none)
    (ca_PactError : PySem.W.findIn K (.ref c_PactError) "__class__" = some (some (.builtin "object.__class__")))
    (ob_PactError : PySem.W.mroIn K c_PactError (.type "object") = some true)
    (be_PactError : PySem.W.mroIn K c_PactError (.type "BaseException") = some true)
    (i_PactError : PySem.W.isClsIn K c_PactError = true) (ty_PactError : PySem.W.typeIn K (.ref c_PactError) = some (.type "type")) (ub_PactError : PySem.W.subIn K (.ref c_PactError) (.type "BaseException") = some true) (n_PactError : PySem.W.subIn K (.type "NoneType") (.ref c_PactError) = some false)
    (s_PactError_PactError : PySem.W.subIn K (.ref c_PactError) (.ref c_PactError) = some true)
    (s_PactError_NoText : PySem.W.subIn K (.ref c_PactError) (.ref c_NoText) = some false)
    (s_PactError_NoRoad : PySem.W.subIn K (.ref c_PactError) (.ref c_NoRoad) = some false)
    (s_PactError_TooMany : PySem.W.subIn K (.ref c_PactError) (.ref c_TooMany) = some false)
    (q_NoText : PySem.W.excIn K c_NoText bmVE "ValueError.__new__" = true)
    (ga_NoText : PySem.W.findIn K (.ref c_NoText) "__getattribute__" = some (some (.builtin "BaseException.__getattribute__")))
    (gh_NoText : PySem.W.findIn K (.ref c_NoText) "__getattr__" = some none)
    (ca_NoText : PySem.W.findIn K (.ref c_NoText) "__class__" = some (some (.builtin "object.__class__")))
    (ob_NoText : PySem.W.mroIn K c_NoText (.type "object") = some true)
    (be_NoText : PySem.W.mroIn K c_NoText (.type "BaseException") = some true)
    (i_NoText : PySem.W.isClsIn K c_NoText = true) (ty_NoText : PySem.W.typeIn K (.ref c_NoText) = some (.type "type")) (ub_NoText : PySem.W.subIn K (.ref c_NoText) (.type "BaseException") = some true) (n_NoText : PySem.W.subIn K (.type "NoneType") (.ref c_NoText) = some false)
    (s_NoText_PactError : PySem.W.subIn K (.ref c_NoText) (.ref c_PactError) = some true)
    (s_NoText_NoText : PySem.W.subIn K (.ref c_NoText) (.ref c_NoText) = some true)
    (s_NoText_NoRoad : PySem.W.subIn K (.ref c_NoText) (.ref c_NoRoad) = some false)
    (s_NoText_TooMany : PySem.W.subIn K (.ref c_NoText) (.ref c_TooMany) = some false)
    (q_NoRoad : PySem.W.excIn K c_NoRoad bmVE "ValueError.__new__" = true)
    (ga_NoRoad : PySem.W.findIn K (.ref c_NoRoad) "__getattribute__" = some (some (.builtin "BaseException.__getattribute__")))
    (gh_NoRoad : PySem.W.findIn K (.ref c_NoRoad) "__getattr__" = some none)
    (ca_NoRoad : PySem.W.findIn K (.ref c_NoRoad) "__class__" = some (some (.builtin "object.__class__")))
    (ob_NoRoad : PySem.W.mroIn K c_NoRoad (.type "object") = some true)
    (be_NoRoad : PySem.W.mroIn K c_NoRoad (.type "BaseException") = some true)
    (i_NoRoad : PySem.W.isClsIn K c_NoRoad = true) (ty_NoRoad : PySem.W.typeIn K (.ref c_NoRoad) = some (.type "type")) (ub_NoRoad : PySem.W.subIn K (.ref c_NoRoad) (.type "BaseException") = some true) (n_NoRoad : PySem.W.subIn K (.type "NoneType") (.ref c_NoRoad) = some false)
    (s_NoRoad_PactError : PySem.W.subIn K (.ref c_NoRoad) (.ref c_PactError) = some true)
    (s_NoRoad_NoText : PySem.W.subIn K (.ref c_NoRoad) (.ref c_NoText) = some false)
    (s_NoRoad_NoRoad : PySem.W.subIn K (.ref c_NoRoad) (.ref c_NoRoad) = some true)
    (s_NoRoad_TooMany : PySem.W.subIn K (.ref c_NoRoad) (.ref c_TooMany) = some false)
    (q_TooMany : PySem.W.excIn K c_TooMany bmVE "ValueError.__new__" = true)
    (ga_TooMany : PySem.W.findIn K (.ref c_TooMany) "__getattribute__" = some (some (.builtin "BaseException.__getattribute__")))
    (gh_TooMany : PySem.W.findIn K (.ref c_TooMany) "__getattr__" = some none)
    (ca_TooMany : PySem.W.findIn K (.ref c_TooMany) "__class__" = some (some (.builtin "object.__class__")))
    (ob_TooMany : PySem.W.mroIn K c_TooMany (.type "object") = some true)
    (be_TooMany : PySem.W.mroIn K c_TooMany (.type "BaseException") = some true)
    (i_TooMany : PySem.W.isClsIn K c_TooMany = true) (ty_TooMany : PySem.W.typeIn K (.ref c_TooMany) = some (.type "type")) (ub_TooMany : PySem.W.subIn K (.ref c_TooMany) (.type "BaseException") = some true) (n_TooMany : PySem.W.subIn K (.type "NoneType") (.ref c_TooMany) = some false)
    (s_TooMany_PactError : PySem.W.subIn K (.ref c_TooMany) (.ref c_PactError) = some true)
    (s_TooMany_NoText : PySem.W.subIn K (.ref c_TooMany) (.ref c_NoText) = some false)
    (s_TooMany_NoRoad : PySem.W.subIn K (.ref c_TooMany) (.ref c_NoRoad) = some false)
    (s_TooMany_TooMany : PySem.W.subIn K (.ref c_TooMany) (.ref c_TooMany) = some true)
    : ∃ fd : FuncData, (∀ (s : Shared) (v : Value), BindsTo s fd ⟨[v], []⟩ [("_law_script", v)]) ∧ ∀ base : Heap, K.In base → base.Ns mainGlobals mg → FnOk l.prog w K mg base CX0 5 fa fd ["_law_script"] (spD K 1 F_law) := by
  have e := hfa.symm.trans (PySem.W.mg_of X G a_law)
  cases e
  have F_many_rows := fun_mk (st := s_many_rows) l_many_rows c_many_rows k_many_rows
  have F_row_at := fun_mk (st := s_row_at) l_row_at c_row_at k_row_at
  have F_many_runs := fun_mk (st := s_many_runs) l_many_runs c_many_runs k_many_runs
  have F_run_at := fun_mk (st := s_run_at) l_run_at c_run_at k_run_at
  have F_all_runs := fun_mk (st := s_all_runs) l_all_runs c_all_runs k_all_runs
  have F__law_at := fun_mk (st := s__law_at) l__law_at c__law_at k__law_at
  have F__law_mix := fun_mk (st := s__law_mix) l__law_mix c__law_mix k__law_mix
  have F__law_letters := fun_mk (st := s__law_letters) l__law_letters c__law_letters k__law_letters
  have F__law_road := fun_mk (st := s__law_road) l__law_road c__law_road k__law_road
  have F__law_starts := fun_mk (st := s__law_starts) l__law_starts c__law_starts k__law_starts
  have F__law_due := fun_mk (st := s__law_due) l__law_due c__law_due k__law_due
  have F__law_right := fun_mk (st := s__law_right) l__law_right c__law_right k__law_right
  have F__law_refused := fun_mk (st := s__law_refused) l__law_refused c__law_refused k__law_refused
  have F__law_edge := fun_mk (st := s__law_edge) l__law_edge c__law_edge k__law_edge
  have F__law_small := fun_mk (st := s__law_small) l__law_small c__law_small k__law_small
  have F_law := fun_mk (st := s_law) l_law c_law k_law
  have b_many_rows := F_many_rows.binds (ps := ["things", "length"]) fun _ _ _ _ _ _ us hl => match us, hl with | [_, _], _ => rfl
  have b_row_at := F_row_at.binds (ps := ["things", "length", "number"]) fun _ _ _ _ _ _ us hl => match us, hl with | [_, _, _], _ => rfl
  have b_many_runs := F_many_runs.binds (ps := ["road", "rounds", "starts"]) fun _ _ _ _ _ _ us hl => match us, hl with | [_, _, _], _ => rfl
  have b_run_at := F_run_at.binds (ps := ["road", "rounds", "starts", "number"]) fun _ _ _ _ _ _ us hl => match us, hl with | [_, _, _, _], _ => rfl
  have b_all_runs := F_all_runs.binds (ps := ["road", "rounds", "starts"]) fun _ _ _ _ _ _ us hl => match us, hl with | [_, _, _], _ => rfl
  have b__law_at := F__law_at.binds (ps := ["_law_script", "_law_k"]) fun _ _ _ _ _ _ us hl => match us, hl with | [_, _], _ => rfl
  have b__law_mix := F__law_mix.binds (ps := ["_law_number", "_law_place"]) fun _ _ _ _ _ _ us hl => match us, hl with | [_, _], _ => rfl
  have b__law_letters := F__law_letters.binds (ps := ["_law_hands"]) fun _ _ _ _ _ _ us hl => match us, hl with | [_], _ => rfl
  have b__law_road := F__law_road.binds (ps := ["_law_script", "_law_hands", "_law_most"]) fun _ _ _ _ _ _ us hl => match us, hl with | [_, _, _], _ => rfl
  have b__law_starts := F__law_starts.binds (ps := ["_law_number", "_law_hands", "_law_many"]) fun _ _ _ _ _ _ us hl => match us, hl with | [_, _, _], _ => rfl
  have b__law_due := F__law_due.binds (ps := ["_law_road_here", "_law_rounds", "_law_starts_here"]) fun _ _ _ _ _ _ us hl => match us, hl with | [_, _, _], _ => rfl
  have b__law_right := F__law_right.binds (ps := ["_law_found", "_law_due_here"]) fun _ _ _ _ _ _ us hl => match us, hl with | [_, _], _ => rfl
  have b__law_refused := F__law_refused.binds (ps := ["_law_road_here", "_law_rounds", "_law_starts_here"]) fun _ _ _ _ _ _ us hl => match us, hl with | [_, _, _], _ => rfl
  have b__law_edge := F__law_edge.binds (ps := ["_law_number"]) fun _ _ _ _ _ _ us hl => match us, hl with | [_], _ => rfl
  have b__law_small := F__law_small.binds (ps := ["_law_hands", "_law_road_here", "_law_rounds", "_law_number"]) fun _ _ _ _ _ _ us hl => match us, hl with | [_, _, _, _], _ => rfl
  have b_law := F_law.binds (ps := ["_law_script"]) fun _ _ _ _ _ _ us hl => match us, hl with | [_], _ => rfl
  have T : Tx K mg ⟨f_many_rows, _, f_row_at, _, f_many_runs, _, f_run_at, _, f_all_runs, _, f__law_at, _, f__law_mix, _, f__law_letters, _, f__law_road, _, f__law_starts, _, f__law_due, _, f__law_right, _, f__law_refused, _, f__law_edge, _, f__law_small, _, fa, _, t_MOST_RUNS, c_PactError, c_NoText, c_NoRoad, c_TooMany⟩ := ⟨F_many_rows, PySem.W.mg_of X G a_many_rows, k_many_rows, b_many_rows, F_row_at, PySem.W.mg_of X G a_row_at, k_row_at, b_row_at, F_many_runs, PySem.W.mg_of X G a_many_runs, k_many_runs, b_many_runs, F_run_at, PySem.W.mg_of X G a_run_at, k_run_at, b_run_at, F_all_runs, PySem.W.mg_of X G a_all_runs, k_all_runs, b_all_runs, F__law_at, PySem.W.mg_of X G a__law_at, k__law_at, b__law_at, F__law_mix, PySem.W.mg_of X G a__law_mix, k__law_mix, b__law_mix, F__law_letters, PySem.W.mg_of X G a__law_letters, k__law_letters, b__law_letters, F__law_road, PySem.W.mg_of X G a__law_road, k__law_road, b__law_road, F__law_starts, PySem.W.mg_of X G a__law_starts, k__law_starts, b__law_starts, F__law_due, PySem.W.mg_of X G a__law_due, k__law_due, b__law_due, F__law_right, PySem.W.mg_of X G a__law_right, k__law_right, b__law_right, F__law_refused, PySem.W.mg_of X G a__law_refused, k__law_refused, b__law_refused, F__law_edge, PySem.W.mg_of X G a__law_edge, k__law_edge, b__law_edge, F__law_small, PySem.W.mg_of X G a__law_small, k__law_small, b__law_small, F_law, PySem.W.mg_of X G a_law, k_law, b_law, PySem.W.mg_none_of X G z_isinstance, PySem.W.mg_none_of X G z_len, PySem.W.mg_none_of X G z_list, PySem.W.mg_none_of X G z_min, PySem.W.mg_none_of X G z_range, PySem.W.mg_none_of X G z_reversed, PySem.W.mg_none_of X G z_tuple, PySem.W.mg_none_of X G z_zip, PySem.W.mg_of X G g_MOST_RUNS, PySem.W.mg_of X G a_PactError, q_PactError, ⟨ga_PactError, gh_PactError, ca_PactError, x_ge, x_tk, ob_PactError, be_PactError⟩, i_PactError, ty_PactError, ub_PactError, n_PactError, s_PactError_PactError, s_PactError_NoText, s_PactError_NoRoad, s_PactError_TooMany, PySem.W.mg_of X G a_NoText, q_NoText, ⟨ga_NoText, gh_NoText, ca_NoText, x_ge, x_tk, ob_NoText, be_NoText⟩, i_NoText, ty_NoText, ub_NoText, n_NoText, s_NoText_PactError, s_NoText_NoText, s_NoText_NoRoad, s_NoText_TooMany, PySem.W.mg_of X G a_NoRoad, q_NoRoad, ⟨ga_NoRoad, gh_NoRoad, ca_NoRoad, x_ge, x_tk, ob_NoRoad, be_NoRoad⟩, i_NoRoad, ty_NoRoad, ub_NoRoad, n_NoRoad, s_NoRoad_PactError, s_NoRoad_NoText, s_NoRoad_NoRoad, s_NoRoad_TooMany, PySem.W.mg_of X G a_TooMany, q_TooMany, ⟨ga_TooMany, gh_TooMany, ca_TooMany, x_ge, x_tk, ob_TooMany, be_TooMany⟩, i_TooMany, ty_TooMany, ub_TooMany, n_TooMany, s_TooMany_PactError, s_TooMany_NoText, s_TooMany_NoRoad, s_TooMany_TooMany⟩
  exact ⟨PySem.W.fnOf "law" "law" (defArgs s_law) (defBody s_law) (defScope s_law) .none kV_law dc_law pm_law an_law cd_law ct_law, fun s v => .of_eq rfl, fun base _ _ => ok_law T⟩
/-- what is left: the law as a function of data tells True -/
theorem walk (hmain : ∀ ns : List Int, ns.length ≤ 63 → ∃ o, F_law [.list (ns.map PyData.int)] = some (.ok (o, .bool true))) {l : PySem.W.OpenLaw} {q : Program} {loose : List Str} {XP : (Str → Option Value) → Heap → Prop} {YP : World → Heap → Prop} {d : DefRec} {K : Params → PySem.W.Frag} (hn : l.most = some 63) (hdf : d.params.defaults = [])
    (hY : ∀ (w : World) (h : Heap), YP w h → (K w.params).In h)
    (F : ∀ (w : World) (mg : Str → Option Value) (fa : Addr) (h : Heap), (K w.params).In h → h.Ns mainGlobals mg → mg d.name = some (.ref fa) →
      ∃ fd : FuncData, (∀ (s : Shared) (u : Value), BindsTo s fd ⟨[u], []⟩ [("_law_script", u)]) ∧ ∀ base : Heap, (K w.params).In base → base.Ns mainGlobals mg → FnOk l.prog w (K w.params) mg base CX0 5 fa fd ["_law_script"] (spD (K w.params) 1 F_law)) :
    PySem.W.WalkO q loose XP YP l.row.toRowW d [] (fun f vs => PySem.call f vs) :=
  L2.walk_of (n := 63) (k := 5) (x := "_law_script") (CX := fun _ => CX0) (sp := fun w => spD (K w.params) 1 F_law) hn (by decide) hdf ⟨rfl, by decide, by decide⟩ hY F (fun _ _ a ns hl _ hS => spD_true hS (hmain ns hl)) fun _ _ _ _ _ z => z
end K23
set_option Elab.async false
set_option linter.all false
set_option maxRecDepth 100000
namespace Y
open PySem
mutual
theorem eqv_lay : ∀ (n : Nat) (d : PyData), lay n d = true → PyData.eqv d d = true
  | _, .none, _ => by simp [PyData.eqv]
  | _, .bool _, _ => by simp [PyData.eqv]
  | _, .int _, _ => by simp [PyData.eqv]
  | _, .str _, _ => by simp [PyData.eqv]
  | 0, .list xs, h => by simp [lay] at h
  | 0, .tuple xs, h => by simp [lay] at h
  | n + 1, .list xs, h => by rw [lay] at h; simp only [PyData.eqv]; exact eqvs_lay n xs h
  | n + 1, .tuple xs, h => by rw [lay] at h; simp only [PyData.eqv]; exact eqvs_lay n xs h
  | 0, .dict _, h => by simp [lay] at h
  | n + 1, .dict _, h => by simp [lay] at h
theorem eqvs_lay : ∀ (n : Nat) (ds : List PyData), lays n ds = true → PyData.eqvAll ds ds = true
  | _, [], _ => by simp [PyData.eqvAll]
  | n, d :: ds, h => by
    rw [lays, Bool.and_eq_true] at h
    simp only [PyData.eqvAll, eqv_lay n d h.1, eqvs_lay n ds h.2, Bool.and_self]
end
theorem lays_append {n : Nat} {xs ys : List PyData} (h1 : lays n xs = true) (h2 : lays n ys = true) : lays n (xs ++ ys) = true := lays_iff.mpr fun x hx => by
  rcases List.mem_append.mp hx with h | h
  · exact lays_iff.mp h1 x h
  · exact lays_iff.mp h2 x h
/-- things of which none is met twice -/
structure Good (xs : List PyData) : Prop where
  u : ∀ (d : Nat) (x : PyData), xs[d]? = some x → idxD x xs = some d
  n : nols xs = true
  l : ∀ n, lays (n + 3) xs = true
theorem idxD_left {x : PyData} : ∀ {xs : List PyData} {d : Nat} (zs : List PyData), idxD x xs = some d → idxD x (xs ++ zs) = some d
  | [], d, zs, h => by cases h
  | y :: ys, d, zs, h => by
    rw [List.cons_append, idxD]
    rw [idxD] at h
    by_cases hy : PyData.eqv y x = true
    · rw [if_pos hy] at h ⊢; exact h
    · rw [if_neg hy] at h ⊢
      cases e : idxD x ys with
      | none => rw [e] at h; cases h
      | some k => rw [e] at h; rw [idxD_left zs e]; exact h
theorem idxD_right {x : PyData} (hx : PyData.eqv x x = true) : ∀ {xs : List PyData}, inAny xs x = false → idxD x (xs ++ [x]) = some xs.length
  | [], _ => by simp [idxD, hx]
  | y :: ys, h => by
    rw [inAny, List.any_cons, Bool.or_eq_false_iff] at h
    rw [List.cons_append, idxD, if_neg (by rw [h.1]; exact Bool.false_ne_true), idxD_right hx h.2]; rfl
theorem Good.snoc {xs : List PyData} {x : PyData} (g : Good xs) (hn : nol x = true) (hl : ∀ n, lay (n + 3) x = true) (hx : inAny xs x = false) : Good (xs ++ [x]) where
  u := fun d y h => by
    by_cases hd : d < xs.length
    · rw [List.getElem?_append_left hd] at h
      exact idxD_left _ (g.u d y h)
    · rw [List.getElem?_append_right (by omega)] at h
      have h0 : d - xs.length = 0 := by
        have := (List.getElem?_eq_some_iff.mp h).1
        simp at this; omega
      rw [h0] at h
      have : x = y := by simpa using h
      subst this
      rw [idxD_right (eqv_lay _ _ (hl 0)) hx]
      congr 1; omega
  n := by rw [nols_append, g.n, nols, nols, hn]; rfl
  l := fun n => lays_append (g.l n) (by rw [lays, lays, hl n]; rfl)
theorem good_nil : Good [] := ⟨fun d x h => by simp at h, rfl, fun _ => rfl⟩
theorem Good.nol {xs : List PyData} {x : PyData} (g : Good xs) (h : x ∈ xs) : nol x = true := nols_iff.mp g.n x h
theorem Good.lay {xs : List PyData} {x : PyData} (g : Good xs) (h : x ∈ xs) (n : Nat) : Y.lay (n + 3) x = true := lays_iff.mp (g.l n) x h
theorem Good.inAny {xs : List PyData} {x : PyData} (g : Good xs) (h : x ∈ xs) : Y.inAny xs x = true := List.any_eq_true.mpr ⟨x, h, eqv_lay _ _ (g.lay h 0)⟩
theorem Good.index {xs : List PyData} {x : PyData} {d : Nat} (g : Good xs) (h : xs[d]? = some x) : gIndex (.list xs) x = some (.int (d : Int)) := by
  have hm := List.mem_of_getElem? h
  have h1 : Y.lay 60 x = true := g.lay hm 57
  have h2 : Y.lays 60 xs = true := g.l 57
  simp only [gIndex, h1, h2, Bool.and_self, if_true, g.u d x h, Option.map_some]
end Y
namespace K23
open PySem Y
theorem nx_of {F : FF} {ds : List PyData} {r : Bool × PyData} (h : F ds = mret r) : nx F ds = mret r := by unfold nx; rw [h]; rfl
def lawAt (ns : List Int) (k : Int) : Int := if k < ns.length then (ns[k.toNat]?).getD 0 else 13 * k + 6
theorem at_ok (ns : List Int) (k : Int) (hk : 0 ≤ k) (h2 : k < 2 ^ 40) : F__law_at [.list (ns.map PyData.int), .int k] = mret (true, .int (lawAt ns k)) := by
  by_cases h : k < ns.length
  · have e : (ns.map PyData.int)[k.toNat]? = some (.int (lawAt ns k)) := by
      rw [List.getElem?_map, List.getElem?_eq_getElem (by omega), lawAt, if_pos h, List.getElem?_eq_getElem (by omega)]; rfl
    simp -implicitDefEqProofs (disch := omega) only [F__law_at, S__law_at, runF, startD, sSeq, sIf, sRet, sRetN, sNil, sCnt, sBrk, sSet, sExp, sAsg, sMov, sFor, sApp, sExt, sClr, sPut, eOp, eUn, eV, eC, eIx, eIf, eChain, eAnd, eOr, eNotV, eArgs, eTup, eLst, eCB, eCall, eIsi, isTy, eIdx, eRep, tE, tAndF, tOrF, tNotF, tYesF, isFr, kdDisp, stor, frzK, gNm, itE, itR1, itemsOf, capD, mbind_ret, mo_some, gLt_int, gLe_int, gGt_int, gLen_list, gLen_tup, gIx_list, gIx_tup, gAdd_int, gSub_int, gMul_int, gFdiv_int, gMod_int, gPow_int, gNeg_int, gEq_int, gNe_int, gIs_non, gIsNot_non, isNon, rng1_int, nrm_int, nrm_bl, nrm_str, nrm_non, nrm_lst, nrm_dct, nol_int, nol_bl, nol_str, nol_non, nol_lst, nol_tup, List.map_cons, List.map_nil, List.cons_append, List.nil_append, List.getElem?_cons_zero, List.getElem?_cons_succ, List.length_cons, List.length_nil, List.length_map, List.length_range, List.set_cons_zero, List.set_cons_succ, List.replicate_succ, List.replicate_zero, if_true, if_false, Bool.false_eq_true, Bool.not_true, Bool.not_false, decide_true, decide_false, ite_true, ite_false, Option.map_some, Option.join_some, beq_self_eq_true, eq_self, String.reduceBEq, Bool.or_false, Bool.false_or, Bool.or_true, Bool.true_or, reduceCtorEq, reduceIte, h, atD_int hk e]
  · have e : lawAt ns k = 13 * k + 6 := if_neg h
    simp -implicitDefEqProofs (disch := omega) only [F__law_at, S__law_at, runF, startD, sSeq, sIf, sRet, sRetN, sNil, sCnt, sBrk, sSet, sExp, sAsg, sMov, sFor, sApp, sExt, sClr, sPut, eOp, eUn, eV, eC, eIx, eIf, eChain, eAnd, eOr, eNotV, eArgs, eTup, eLst, eCB, eCall, eIsi, isTy, eIdx, eRep, tE, tAndF, tOrF, tNotF, tYesF, isFr, kdDisp, stor, frzK, gNm, itE, itR1, itemsOf, capD, mbind_ret, mo_some, gLt_int, gLe_int, gGt_int, gLen_list, gLen_tup, gIx_list, gIx_tup, gAdd_int, gSub_int, gMul_int, gFdiv_int, gMod_int, gPow_int, gNeg_int, gEq_int, gNe_int, gIs_non, gIsNot_non, isNon, rng1_int, nrm_int, nrm_bl, nrm_str, nrm_non, nrm_lst, nrm_dct, nol_int, nol_bl, nol_str, nol_non, nol_lst, nol_tup, List.map_cons, List.map_nil, List.cons_append, List.nil_append, List.getElem?_cons_zero, List.getElem?_cons_succ, List.length_cons, List.length_nil, List.length_map, List.length_range, List.set_cons_zero, List.set_cons_succ, List.replicate_succ, List.replicate_zero, if_true, if_false, Bool.false_eq_true, Bool.not_true, Bool.not_false, decide_true, decide_false, ite_true, ite_false, Option.map_some, Option.join_some, beq_self_eq_true, eq_self, String.reduceBEq, Bool.or_false, Bool.false_or, Bool.or_true, Bool.true_or, reduceCtorEq, reduceIte, h, e]
def mixZ (n k : Int) : Int := match F__law_mix [.int n, .int k] with
  | some (.ok (_, .int z)) => z
  | _ => 0
theorem mix_ex (n k : Int) (h0 : 0 ≤ k) (h1 : k < 1000) : ∃ z : Nat, z < 2147483648 ∧ F__law_mix [.int n, .int k] = mret (true, .int (z : Int)) := by
  by_cases hn : 1000000000000 ≤ n
  · have b1 := Int.emod_nonneg k (show (61 : Int) ≠ 0 by decide)
    have b2 := Int.emod_lt_of_pos k (show (0 : Int) < 61 by decide)
    obtain ⟨Γ', g1, z, c2, g2⟩ := forD_inv (g := gNm 2) (b := B__law_mix_1) (ds := (List.range (k % 61).toNat).map fun (i : Nat) => PyData.int (i : Int)) (Γ := [some (true, .int (n / 1000000000000 - 1)), some (false, .int k), none, none])
      (fun i Γ => ∃ (z : Int) (c2 : Option (Bool × PyData)), Γ = [some (true, .int z), some (false, .int k), c2, none]) ⟨_, none, rfl⟩ (by
      rintro i d Γ hd ⟨z, c2, rfl⟩
      obtain ⟨rfl, hi⟩ := range_get hd
      refine ⟨_, [some (true, .int (z / 2147483648)), some (false, .int k), some (true, .int (i : Int)), none], rfl, .inl ?_, _, _, rfl⟩
      simp -implicitDefEqProofs (disch := omega) only [B__law_mix_1, runF, startD, sSeq, sIf, sRet, sRetN, sNil, sCnt, sBrk, sSet, sExp, sAsg, sMov, sFor, sApp, sExt, sClr, sPut, eOp, eUn, eV, eC, eIx, eIf, eChain, eAnd, eOr, eNotV, eArgs, eTup, eLst, eCB, eCall, eIsi, isTy, eIdx, eRep, tE, tAndF, tOrF, tNotF, tYesF, isFr, kdDisp, stor, frzK, gNm, itE, itR1, itemsOf, capD, mbind_ret, mo_some, gLt_int, gLe_int, gGt_int, gLen_list, gLen_tup, gIx_list, gIx_tup, gAdd_int, gSub_int, gMul_int, gFdiv_int, gMod_int, gPow_int, gNeg_int, gEq_int, gNe_int, gIs_non, gIsNot_non, isNon, rng1_int, nrm_int, nrm_bl, nrm_str, nrm_non, nrm_lst, nrm_dct, nol_int, nol_bl, nol_str, nol_non, nol_lst, nol_tup, List.map_cons, List.map_nil, List.cons_append, List.nil_append, List.getElem?_cons_zero, List.getElem?_cons_succ, List.length_cons, List.length_nil, List.length_map, List.length_range, List.set_cons_zero, List.set_cons_succ, List.replicate_succ, List.replicate_zero, if_true, if_false, Bool.false_eq_true, Bool.not_true, Bool.not_false, decide_true, decide_false, ite_true, ite_false, Option.map_some, Option.join_some, beq_self_eq_true, eq_self, String.reduceBEq, Bool.or_false, Bool.false_or, Bool.or_true, Bool.true_or, reduceCtorEq, reduceIte])
    refine ⟨(z % 2147483648).toNat, by omega, ?_⟩
    have ez : ((z % 2147483648).toNat : Int) = z % 2147483648 := by omega
    rw [ez]
    simp -implicitDefEqProofs (disch := omega) only [F__law_mix, S__law_mix, runF, startD, sSeq, sIf, sRet, sRetN, sNil, sCnt, sBrk, sSet, sExp, sAsg, sMov, sFor, sApp, sExt, sClr, sPut, eOp, eUn, eV, eC, eIx, eIf, eChain, eAnd, eOr, eNotV, eArgs, eTup, eLst, eCB, eCall, eIsi, isTy, eIdx, eRep, tE, tAndF, tOrF, tNotF, tYesF, isFr, kdDisp, stor, frzK, gNm, itE, itR1, itemsOf, capD, mbind_ret, mo_some, gLt_int, gLe_int, gGt_int, gLen_list, gLen_tup, gIx_list, gIx_tup, gAdd_int, gSub_int, gMul_int, gFdiv_int, gMod_int, gPow_int, gNeg_int, gEq_int, gNe_int, gIs_non, gIsNot_non, isNon, rng1_int, nrm_int, nrm_bl, nrm_str, nrm_non, nrm_lst, nrm_dct, nol_int, nol_bl, nol_str, nol_non, nol_lst, nol_tup, List.map_cons, List.map_nil, List.cons_append, List.nil_append, List.getElem?_cons_zero, List.getElem?_cons_succ, List.length_cons, List.length_nil, List.length_map, List.length_range, List.set_cons_zero, List.set_cons_succ, List.replicate_succ, List.replicate_zero, if_true, if_false, Bool.false_eq_true, Bool.not_true, Bool.not_false, decide_true, decide_false, ite_true, ite_false, Option.map_some, Option.join_some, beq_self_eq_true, eq_self, String.reduceBEq, Bool.or_false, Bool.false_or, Bool.or_true, Bool.true_or, reduceCtorEq, reduceIte, gGe_int, Int.reduceToNat, Int.reducePow, hn, g1, g2]
  · have a1 := Int.emod_nonneg n (show (2147483629 : Int) ≠ 0 by decide)
    have a2 := Int.emod_lt_of_pos n (show (0 : Int) < 2147483629 by decide)
    have b3 := Int.emod_nonneg ((n % 2147483629 + k + 1) * (8 * k * k + 48271)) (show (2147483647 : Int) ≠ 0 by decide)
    have b4 := Int.emod_lt_of_pos ((n % 2147483629 + k + 1) * (8 * k * k + 48271)) (show (0 : Int) < 2147483647 by decide)
    generalize ha : (n % 2147483629 + k + 1) * (8 * k * k + 48271) % 2147483647 = a at b3 b4
    have b5 := Int.emod_nonneg (a * a) (show (2147483587 : Int) ≠ 0 by decide)
    have b6 := Int.emod_lt_of_pos (a * a) (show (0 : Int) < 2147483587 by decide)
    generalize hb : a * a % 2147483587 = b at b5 b6
    have b7 := Int.emod_nonneg (b * (b + 2)) (show (2147483579 : Int) ≠ 0 by decide)
    have b8 := Int.emod_lt_of_pos (b * (b + 2)) (show (0 : Int) < 2147483579 by decide)
    generalize hc : b * (b + 2) % 2147483579 = c at b7 b8
    refine ⟨c.toNat, by omega, ?_⟩
    have ez : (c.toNat : Int) = c := by omega
    rw [ez]
    simp -implicitDefEqProofs (disch := omega) only [F__law_mix, S__law_mix, runF, startD, sSeq, sIf, sRet, sRetN, sNil, sCnt, sBrk, sSet, sExp, sAsg, sMov, sFor, sApp, sExt, sClr, sPut, eOp, eUn, eV, eC, eIx, eIf, eChain, eAnd, eOr, eNotV, eArgs, eTup, eLst, eCB, eCall, eIsi, isTy, eIdx, eRep, tE, tAndF, tOrF, tNotF, tYesF, isFr, kdDisp, stor, frzK, gNm, itE, itR1, itemsOf, capD, mbind_ret, mo_some, gLt_int, gLe_int, gGt_int, gLen_list, gLen_tup, gIx_list, gIx_tup, gAdd_int, gSub_int, gMul_int, gFdiv_int, gMod_int, gPow_int, gNeg_int, gEq_int, gNe_int, gIs_non, gIsNot_non, isNon, rng1_int, nrm_int, nrm_bl, nrm_str, nrm_non, nrm_lst, nrm_dct, nol_int, nol_bl, nol_str, nol_non, nol_lst, nol_tup, List.map_cons, List.map_nil, List.cons_append, List.nil_append, List.getElem?_cons_zero, List.getElem?_cons_succ, List.length_cons, List.length_nil, List.length_map, List.length_range, List.set_cons_zero, List.set_cons_succ, List.replicate_succ, List.replicate_zero, if_true, if_false, Bool.false_eq_true, Bool.not_true, Bool.not_false, decide_true, decide_false, ite_true, ite_false, Option.map_some, Option.join_some, beq_self_eq_true, eq_self, String.reduceBEq, Bool.or_false, Bool.false_or, Bool.or_true, Bool.true_or, reduceCtorEq, reduceIte, gGe_int, Int.reduceToNat, Int.reducePow, hn, ha, hb, hc]
theorem mix_ok (n k : Int) (h0 : 0 ≤ k) (h1 : k < 1000) : F__law_mix [.int n, .int k] = mret (true, .int (mixZ n k)) := by
  obtain ⟨z, _, e⟩ := mix_ex n k h0 h1
  have hz : mixZ n k = z := by unfold mixZ; rw [e]; rfl
  rw [hz]; exact e
theorem mix_nn (n k : Int) (h0 : 0 ≤ k) (h1 : k < 1000) : 0 ≤ mixZ n k ∧ mixZ n k < 2147483648 := by
  obtain ⟨z, h, e⟩ := mix_ex n k h0 h1
  have hz : mixZ n k = z := by unfold mixZ; rw [e]; rfl
  rw [hz]; omega
theorem many_ok (xs : List PyData) (n : Nat) (hx : xs.length ≤ 1000) (hn : n ≤ 100) : F_many_rows [.list xs, .int (n : Int)] = mret (true, .int ((xs.length ^ n : Nat) : Int)) := by
  obtain ⟨Γ', h1, c3, h2⟩ := forD_inv (g := gNm 3) (b := B_many_rows_1) (ds := (List.range n).map fun (i : Nat) => PyData.int (i : Int)) (Γ := [some (false, .list xs), some (false, .int (n : Int)), some (true, .int 1), none])
    (fun i Γ => ∃ c3 : Option (Bool × PyData), Γ = [some (false, .list xs), some (false, .int (n : Int)), some (true, .int ((xs.length ^ i : Nat) : Int)), c3]) ⟨none, by simp⟩ (by
    rintro i d Γ hd ⟨c3, rfl⟩
    obtain ⟨rfl, hi⟩ := range_get hd
    refine ⟨_, [some (false, .list xs), some (false, .int (n : Int)), some (true, .int ((xs.length ^ (i + 1) : Nat) : Int)), some (true, .int (i : Int))], rfl, .inl ?_, _, rfl⟩
    simp -implicitDefEqProofs (disch := omega) only [B_many_rows_1, runF, startD, sSeq, sIf, sRet, sRetN, sNil, sCnt, sBrk, sSet, sExp, sAsg, sMov, sFor, sApp, sExt, sClr, sPut, eOp, eUn, eV, eC, eIx, eIf, eChain, eAnd, eOr, eNotV, eArgs, eTup, eLst, eCB, eCall, eIsi, isTy, eIdx, eRep, tE, tAndF, tOrF, tNotF, tYesF, isFr, kdDisp, stor, frzK, gNm, itE, itR1, itemsOf, capD, mbind_ret, mo_some, gLt_int, gLe_int, gGt_int, gLen_list, gLen_tup, gIx_list, gIx_tup, gAdd_int, gSub_int, gMul_int, gFdiv_int, gMod_int, gPow_int, gNeg_int, gEq_int, gNe_int, gIs_non, gIsNot_non, isNon, rng1_int, nrm_int, nrm_bl, nrm_str, nrm_non, nrm_lst, nrm_dct, nol_int, nol_bl, nol_str, nol_non, nol_lst, nol_tup, List.map_cons, List.map_nil, List.cons_append, List.nil_append, List.getElem?_cons_zero, List.getElem?_cons_succ, List.length_cons, List.length_nil, List.length_map, List.length_range, List.set_cons_zero, List.set_cons_succ, List.replicate_succ, List.replicate_zero, if_true, if_false, Bool.false_eq_true, Bool.not_true, Bool.not_false, decide_true, decide_false, ite_true, ite_false, Option.map_some, Option.join_some, beq_self_eq_true, eq_self, String.reduceBEq, Bool.or_false, Bool.false_or, Bool.or_true, Bool.true_or, reduceCtorEq, reduceIte, Nat.pow_succ, Int.natCast_mul])
  simp -implicitDefEqProofs (disch := omega) only [F_many_rows, S_many_rows, runF, startD, sSeq, sIf, sRet, sRetN, sNil, sCnt, sBrk, sSet, sExp, sAsg, sMov, sFor, sApp, sExt, sClr, sPut, eOp, eUn, eV, eC, eIx, eIf, eChain, eAnd, eOr, eNotV, eArgs, eTup, eLst, eCB, eCall, eIsi, isTy, eIdx, eRep, tE, tAndF, tOrF, tNotF, tYesF, isFr, kdDisp, stor, frzK, gNm, itE, itR1, itemsOf, capD, mbind_ret, mo_some, gLt_int, gLe_int, gGt_int, gLen_list, gLen_tup, gIx_list, gIx_tup, gAdd_int, gSub_int, gMul_int, gFdiv_int, gMod_int, gPow_int, gNeg_int, gEq_int, gNe_int, gIs_non, gIsNot_non, isNon, rng1_int, nrm_int, nrm_bl, nrm_str, nrm_non, nrm_lst, nrm_dct, nol_int, nol_bl, nol_str, nol_non, nol_lst, nol_tup, List.map_cons, List.map_nil, List.cons_append, List.nil_append, List.getElem?_cons_zero, List.getElem?_cons_succ, List.length_cons, List.length_nil, List.length_map, List.length_range, List.set_cons_zero, List.set_cons_succ, List.replicate_succ, List.replicate_zero, if_true, if_false, Bool.false_eq_true, Bool.not_true, Bool.not_false, decide_true, decide_false, ite_true, ite_false, Option.map_some, Option.join_some, beq_self_eq_true, eq_self, String.reduceBEq, Bool.or_false, Bool.false_or, Bool.or_true, Bool.true_or, reduceCtorEq, reduceIte, h1, h2, Int.toNat_natCast]
def dig (L n : Nat) : Nat → List Nat
  | 0 => []
  | k + 1 => dig L n k ++ [n / L ^ k % L]
theorem dig_len (L n k : Nat) : (dig L n k).length = k := by
  induction k with
  | zero => rfl
  | succ k ih => rw [dig, List.length_append, ih]; rfl
theorem dig_lt {L n k d : Nat} (hL : 0 < L) (h : d ∈ dig L n k) : d < L := by
  induction k with
  | zero => cases h
  | succ k ih =>
    rw [dig] at h
    rcases List.mem_append.mp h with h | h
    · exact ih h
    · rw [List.mem_singleton.mp h]; exact Nat.mod_lt _ hL
def rowD (xs : List PyData) (n k : Nat) : List PyData := (dig xs.length n k).reverse.map fun d => xs.getD d .none
theorem getD_at {xs : List PyData} {d : Nat} (h : d < xs.length) : xs[d]? = some (xs.getD d .none) := by rw [List.getD_eq_getElem?_getD, List.getElem?_eq_getElem h]; rfl
theorem getD_mem {xs : List PyData} {d : Nat} (h : d < xs.length) : xs.getD d .none ∈ xs := List.mem_of_getElem? (getD_at h)
theorem rowD_mem {xs : List PyData} {n k : Nat} {x : PyData} (hv : 1 ≤ xs.length) (h : x ∈ rowD xs n k) : x ∈ xs := by
  obtain ⟨d, hd, rfl⟩ := List.mem_map.mp h
  exact getD_mem (dig_lt hv (List.mem_reverse.mp hd))
theorem row_ok (xs : List PyData) (n k : Nat) (g : Good xs) (hv : 1 ≤ xs.length) (hv3 : xs.length ≤ 1000) (hk : k ≤ 100) : F_row_at [.list xs, .int (k : Int), .int (n : Int)] = mret (true, .tuple (rowD xs n k)) := by
  obtain ⟨Γ', h1, c5, h2⟩ := forD_inv (g := gNm 5) (b := B_row_at_1) (ds := (List.range k).map fun (i : Nat) => PyData.int (i : Int)) (Γ := [some (false, .list xs), some (false, .int (k : Int)), some (false, .int (n : Int)), some (true, .list []), some (true, .int (n : Int)), none])
    (fun i Γ => ∃ c5 : Option (Bool × PyData), Γ = [some (false, .list xs), some (false, .int (k : Int)), some (false, .int (n : Int)), some (true, .list ((dig xs.length n i).map fun d => xs.getD d .none)), some (true, .int ((n / xs.length ^ i : Nat) : Int)), c5]) ⟨none, by simp [dig]⟩ (by
    rintro i d Γ hd ⟨c5, rfl⟩
    obtain ⟨rfl, hi⟩ := range_get hd
    refine ⟨_, [some (false, .list xs), some (false, .int (k : Int)), some (false, .int (n : Int)), some (true, .list ((dig xs.length n (i + 1)).map fun d => xs.getD d .none)), some (true, .int ((n / xs.length ^ (i + 1) : Nat) : Int)), some (true, .int (i : Int))], rfl, .inl ?_, _, rfl⟩
    have hlt : n / xs.length ^ i % xs.length < xs.length := Nat.mod_lt _ hv
    have e1 : ((n / xs.length ^ i : Nat) : Int) % (xs.length : Int) = ((n / xs.length ^ i % xs.length : Nat) : Int) := (Int.natCast_emod _ _).symm
    have e2 : atD xs ((n / xs.length ^ i % xs.length : Nat) : Int) = some (xs.getD (n / xs.length ^ i % xs.length) .none) := atD_nat (getD_at hlt)
    have e3 : ((n / xs.length ^ i : Nat) : Int) / (xs.length : Int) = ((n / xs.length ^ (i + 1) : Nat) : Int) := by
      rw [Nat.pow_succ, ← Nat.div_div_eq_div_mul]; exact (Int.natCast_ediv _ _).symm
    have hsz : (dig xs.length n i).length < sizeLine := Nat.lt_of_le_of_lt (show _ ≤ 100 by rw [dig_len]; omega) (by decide)
    have e4 : nol (xs.getD (n / xs.length ^ i % xs.length) .none) = true := g.nol (getD_mem hlt)
    simp -implicitDefEqProofs (disch := omega) only [B_row_at_1, runF, startD, sSeq, sIf, sRet, sRetN, sNil, sCnt, sBrk, sSet, sExp, sAsg, sMov, sFor, sApp, sExt, sClr, sPut, eOp, eUn, eV, eC, eIx, eIf, eChain, eAnd, eOr, eNotV, eArgs, eTup, eLst, eCB, eCall, eIsi, isTy, eIdx, eRep, tE, tAndF, tOrF, tNotF, tYesF, isFr, kdDisp, stor, frzK, gNm, itE, itR1, itemsOf, capD, mbind_ret, mo_some, gLt_int, gLe_int, gGt_int, gLen_list, gLen_tup, gIx_list, gIx_tup, gAdd_int, gSub_int, gMul_int, gFdiv_int, gMod_int, gPow_int, gNeg_int, gEq_int, gNe_int, gIs_non, gIsNot_non, isNon, rng1_int, nrm_int, nrm_bl, nrm_str, nrm_non, nrm_lst, nrm_dct, nol_int, nol_bl, nol_str, nol_non, nol_lst, nol_tup, List.map_cons, List.map_nil, List.cons_append, List.nil_append, List.getElem?_cons_zero, List.getElem?_cons_succ, List.length_cons, List.length_nil, List.length_map, List.length_range, List.set_cons_zero, List.set_cons_succ, List.replicate_succ, List.replicate_zero, if_true, if_false, Bool.false_eq_true, Bool.not_true, Bool.not_false, decide_true, decide_false, ite_true, ite_false, Option.map_some, Option.join_some, beq_self_eq_true, eq_self, String.reduceBEq, Bool.or_false, Bool.false_or, Bool.or_true, Bool.true_or, reduceCtorEq, reduceIte, e1, e2, e3, hsz, dig, List.map_append, nrm_t e4])
  have hn : nols ((dig xs.length n k).map fun d => xs.getD d .none) = true := nols_iff.mpr fun x hx => by
    obtain ⟨d, hd, rfl⟩ := List.mem_map.mp hx
    exact g.nol (getD_mem (dig_lt hv hd))
  rw [List.length_map, List.length_range] at h2
  simp -implicitDefEqProofs (disch := omega) only [F_row_at, S_row_at, runF, startD, sSeq, sIf, sRet, sRetN, sNil, sCnt, sBrk, sSet, sExp, sAsg, sMov, sFor, sApp, sExt, sClr, sPut, eOp, eUn, eV, eC, eIx, eIf, eChain, eAnd, eOr, eNotV, eArgs, eTup, eLst, eCB, eCall, eIsi, isTy, eIdx, eRep, tE, tAndF, tOrF, tNotF, tYesF, isFr, kdDisp, stor, frzK, gNm, itE, itR1, itemsOf, capD, mbind_ret, mo_some, gLt_int, gLe_int, gGt_int, gLen_list, gLen_tup, gIx_list, gIx_tup, gAdd_int, gSub_int, gMul_int, gFdiv_int, gMod_int, gPow_int, gNeg_int, gEq_int, gNe_int, gIs_non, gIsNot_non, isNon, rng1_int, nrm_int, nrm_bl, nrm_str, nrm_non, nrm_lst, nrm_dct, nol_int, nol_bl, nol_str, nol_non, nol_lst, nol_tup, List.map_cons, List.map_nil, List.cons_append, List.nil_append, List.getElem?_cons_zero, List.getElem?_cons_succ, List.length_cons, List.length_nil, List.length_map, List.length_range, List.set_cons_zero, List.set_cons_succ, List.replicate_succ, List.replicate_zero, if_true, if_false, Bool.false_eq_true, Bool.not_true, Bool.not_false, decide_true, decide_false, ite_true, ite_false, Option.map_some, Option.join_some, beq_self_eq_true, eq_self, String.reduceBEq, Bool.or_false, Bool.false_or, Bool.or_true, Bool.true_or, reduceCtorEq, reduceIte, h1, h2, Int.toNat_natCast, gRevT_list hn, rowD, ← List.map_reverse]
theorem run_ok (ws ss : List PyData) (k N : Nat) (gw : Good ws) (gs : Good ss) (hv : 1 ≤ ws.length) (hv3 : ws.length ≤ 8) (hk : k ≤ 5) (hN : N < ss.length * ws.length ^ k) :
    F_run_at [.list ws, .int (k : Int), .list ss, .int (N : Int)] = mret (true, .tuple [ss.getD (N / ws.length ^ k) .none, .tuple (rowD ws (N % ws.length ^ k) k)]) := by
  have hp : 0 < ws.length ^ k := Nat.pow_pos hv
  have hp2 : ws.length ^ k ≤ 32768 := Nat.le_trans (Nat.pow_le_pow_left hv3 k) (Nat.le_trans (Nat.pow_le_pow_right (by decide) hk) (by decide))
  have hq : N / ws.length ^ k < ss.length := Nat.div_lt_of_lt_mul (by rw [Nat.mul_comm]; exact hN)
  have hm := many_ok ws k (by omega) (by omega)
  have hr := row_ok ws (N % ws.length ^ k) k gw hv (by omega) (by omega)
  have e1 : ((N : Nat) : Int) / ((ws.length ^ k : Nat) : Int) = ((N / ws.length ^ k : Nat) : Int) := (Int.natCast_ediv _ _).symm
  have e2 : ((N : Nat) : Int) % ((ws.length ^ k : Nat) : Int) = ((N % ws.length ^ k : Nat) : Int) := (Int.natCast_emod _ _).symm
  have e3 := atD_nat (getD_at hq)
  have ns : nol (ss.getD (N / ws.length ^ k) .none) = true := gs.nol (getD_mem hq)
  have nr : nols (rowD ws (N % ws.length ^ k) k) = true := nols_iff.mpr fun x hx => gw.nol (rowD_mem hv hx)
  have hT : nols [ss.getD (N / ws.length ^ k) .none, .tuple (rowD ws (N % ws.length ^ k) k)] = true := by simp only [nols, ns, nol_tup, nr, Bool.and_self]
  generalize ws.length ^ k = L at *
  simp -implicitDefEqProofs (disch := omega) only [F_run_at, S_run_at, runF, startD, sSeq, sIf, sRet, sRetN, sNil, sCnt, sBrk, sSet, sExp, sAsg, sMov, sFor, sApp, sExt, sClr, sPut, eOp, eUn, eV, eC, eIx, eIf, eChain, eAnd, eOr, eNotV, eArgs, eTup, eLst, eCB, eCall, eIsi, isTy, eIdx, eRep, tE, tAndF, tOrF, tNotF, tYesF, isFr, kdDisp, stor, frzK, gNm, itE, itR1, itemsOf, capD, mbind_ret, mo_some, gLt_int, gLe_int, gGt_int, gLen_list, gLen_tup, gIx_list, gIx_tup, gAdd_int, gSub_int, gMul_int, gFdiv_int, gMod_int, gPow_int, gNeg_int, gEq_int, gNe_int, gIs_non, gIsNot_non, isNon, rng1_int, nrm_int, nrm_bl, nrm_str, nrm_non, nrm_lst, nrm_dct, nol_int, nol_bl, nol_str, nol_non, nol_lst, nol_tup, List.map_cons, List.map_nil, List.cons_append, List.nil_append, List.getElem?_cons_zero, List.getElem?_cons_succ, List.length_cons, List.length_nil, List.length_map, List.length_range, List.set_cons_zero, List.set_cons_succ, List.replicate_succ, List.replicate_zero, if_true, if_false, Bool.false_eq_true, Bool.not_true, Bool.not_false, decide_true, decide_false, ite_true, ite_false, Option.map_some, Option.join_some, beq_self_eq_true, eq_self, String.reduceBEq, Bool.or_false, Bool.false_or, Bool.or_true, Bool.true_or, reduceCtorEq, reduceIte, hm, hr, e1, e2, e3, nrm_t ns, nrm_tup nr, nrm_tup hT]
theorem runs_ok (ws ss : List PyData) (k : Nat) (hv3 : ws.length ≤ 8) (hs : ss.length ≤ 81) (hk : k ≤ 5) :
    F_many_runs [.list ws, .int (k : Int), .list ss] = mret (true, .int ((ss.length * ws.length ^ k : Nat) : Int)) := by
  have hm := many_ok ws k (by omega) (by omega)
  simp -implicitDefEqProofs (disch := omega) only [F_many_runs, S_many_runs, runF, startD, sSeq, sIf, sRet, sRetN, sNil, sCnt, sBrk, sSet, sExp, sAsg, sMov, sFor, sApp, sExt, sClr, sPut, eOp, eUn, eV, eC, eIx, eIf, eChain, eAnd, eOr, eNotV, eArgs, eTup, eLst, eCB, eCall, eIsi, isTy, eIdx, eRep, tE, tAndF, tOrF, tNotF, tYesF, isFr, kdDisp, stor, frzK, gNm, itE, itR1, itemsOf, capD, mbind_ret, mo_some, gLt_int, gLe_int, gGt_int, gLen_list, gLen_tup, gIx_list, gIx_tup, gAdd_int, gSub_int, gMul_int, gFdiv_int, gMod_int, gPow_int, gNeg_int, gEq_int, gNe_int, gIs_non, gIsNot_non, isNon, rng1_int, nrm_int, nrm_bl, nrm_str, nrm_non, nrm_lst, nrm_dct, nol_int, nol_bl, nol_str, nol_non, nol_lst, nol_tup, List.map_cons, List.map_nil, List.cons_append, List.nil_append, List.getElem?_cons_zero, List.getElem?_cons_succ, List.length_cons, List.length_nil, List.length_map, List.length_range, List.set_cons_zero, List.set_cons_succ, List.replicate_succ, List.replicate_zero, if_true, if_false, Bool.false_eq_true, Bool.not_true, Bool.not_false, decide_true, decide_false, ite_true, ite_false, Option.map_some, Option.join_some, beq_self_eq_true, eq_self, String.reduceBEq, Bool.or_false, Bool.false_or, Bool.or_true, Bool.true_or, reduceCtorEq, reduceIte, hm, Int.natCast_mul]
def prs (ls : List (Int × Int)) : List PyData := ls.map fun p => .tuple [.int p.1, .int p.2]
theorem letters_ok (h : Nat) (h2 : 2 ≤ h) (h4 : h ≤ 4) : ∃ ls : List (Int × Int), F__law_letters [.int (h : Int)] = mret (true, .list (prs ls)) ∧ 2 ≤ ls.length ∧ ls.length ≤ 12 := by
  have hc : h = 2 ∨ h = 3 ∨ h = 4 := by omega
  rcases hc with rfl | rfl | rfl
  · exact ⟨[(0, 1), (1, 0)], by rfl, by decide, by decide⟩
  · exact ⟨[(0, 1), (0, 2), (1, 0), (1, 2), (2, 0), (2, 1)], by rfl, by decide, by decide⟩
  · exact ⟨[(0, 1), (0, 2), (0, 3), (1, 0), (1, 2), (1, 3), (2, 0), (2, 1), (2, 3), (3, 0), (3, 1), (3, 2)], by rfl, by decide, by decide⟩
theorem nols_prs (ls : List (Int × Int)) : nols (prs ls) = true := nols_map _ (fun _ => rfl) ls
theorem lay_prs {ls : List (Int × Int)} {W : List PyData} (h : ∀ x ∈ W, x ∈ prs ls) (n : Nat) : lay (n + 3) (.tuple W) = true := by
  rw [lay]
  exact lays_iff.mpr fun x hx => by
    obtain ⟨p, _, rfl⟩ := List.mem_map.mp (h x hx)
    rfl
theorem gAdd_tup {xs ys : List PyData} (h1 : nols xs = true) (h2 : nols ys = true) (h3 : xs.length + ys.length ≤ sizeLine) : gAdd (.tuple xs) (.tuple ys) = some (.tuple (xs ++ ys)) := by
  simp only [gAdd, h1, h2, Bool.and_self, Bool.true_and, decide_eq_true h3, if_true]
theorem gSl_list {xs : List PyData} {lo hi : Option Int} (h : nols xs = true) : gSl (.list xs) lo hi = some (.list (cutD xs lo hi)) := if_pos h
theorem cutD_ints (l : List Int) (lo hi : Option Int) : ∃ l' : List Int, cutD (l.map PyData.int) lo hi = l'.map PyData.int := by
  unfold cutD
  rw [← List.map_drop, ← List.map_take]
  exact ⟨_, rfl⟩
theorem bagIx_ok {xs ys : List PyData} {j : Nat} (h : xs[j]? = some (.list ys)) (hn : nols ys = true) : bagIx xs (.int (j : Int)) = some (j, ys) := by
  have hj : j < xs.length := (List.getElem?_eq_some_iff.mp h).1
  have e : ixN xs.length (j : Int) = some j := by
    unfold ixN
    rw [if_pos (by omega), if_pos (by omega)]; simp
  simp only [bagIx, e, Option.bind_some, h, hn, if_true]
theorem bagPut_ok {ys : List PyData} {j : Nat} {c : Int} (h : ys[j]? = some (.int c)) : bagPut ys (.int (j : Int)) = some ((j : Int), ys.set j (.int (1 - c))) := by
  have hj : j < ys.length := (List.getElem?_eq_some_iff.mp h).1
  have e : ixN ys.length (j : Int) = some j := by
    unfold ixN
    rw [if_pos (by omega), if_pos (by omega)]; simp
  simp only [bagPut, e, Option.bind_some, h]
def lst (zs : List Int) : PyData := .list (zs.map PyData.int)
theorem bag_turn (ns : List Int) (h most : PyData) (ls : List (Int × Int)) (hl : 2 ≤ ls.length) (hl2 : ls.length ≤ 12) (zss : List (List Int)) (hz : 1 ≤ zss.length) (hz8 : zss.length ≤ 8) (hq : ∀ zs ∈ zss, zs.length = ls.length) (z : Int) (c6 c7 c8 : Option (Bool × PyData)) :
    ∃ zss' : List (List Int), zss'.length = zss.length ∧ (∀ zs ∈ zss', zs.length = ls.length) ∧ ∃ c6' c7' c8' : Option (Bool × PyData), B__law_road_2 [some (false, .list (ns.map PyData.int)), some (false, h), some (false, most), some (true, .list (prs ls)), some (true, .list (zss.map lst)), some (true, .int z), c6, c7, c8, none, none] =
      mret (.nx [some (false, .list (ns.map PyData.int)), some (false, h), some (false, most), some (true, .list (prs ls)), some (true, .list (zss'.map lst)), some (true, .int z), c6', c7', c8', none, none]) := by
  obtain ⟨v, hv⟩ := Int.eq_ofNat_of_zero_le (mix_nn z 2 (by decide) (by decide)).1
  have hv' : mixZ z 2 = (v : Int) := hv
  have hm := mix_ok z 2 (by decide) (by decide)
  rw [hv'] at hm
  have hj : v % zss.length < zss.length := Nat.mod_lt _ hz
  have hlp : (prs ls).length = ls.length := List.length_map _
  have hj2 : v / 8 % ls.length < ls.length := Nat.mod_lt _ (by omega)
  have e1 : ((v : Nat) : Int) % (zss.length : Int) = ((v % zss.length : Nat) : Int) := (Int.natCast_emod _ _).symm
  have e2 : ((v : Nat) : Int) / 8 % (ls.length : Int) = ((v / 8 % ls.length : Nat) : Int) := by
    rw [Int.natCast_emod, Int.natCast_ediv]; rfl
  have g1 : zss[v % zss.length]? = some zss[v % zss.length] := List.getElem?_eq_getElem hj
  have hzl : zss[v % zss.length].length = ls.length := hq _ (List.getElem_mem hj)
  generalize zss[v % zss.length] = zs at g1 hzl
  have g2 : zs[v / 8 % ls.length]? = some (zs[v / 8 % ls.length]'(by omega)) := List.getElem?_eq_getElem _
  generalize (zs[v / 8 % ls.length]'(by omega)) = c at g2
  have f1 : bagIx (zss.map lst) (.int ((v % zss.length : Nat) : Int)) = some (v % zss.length, zs.map PyData.int) := bagIx_ok (by rw [List.getElem?_map, g1]; rfl) (nols_ints _)
  have f2 : bagPut (zs.map PyData.int) (.int ((v / 8 % ls.length : Nat) : Int)) = some (((v / 8 % ls.length : Nat) : Int), (zs.map PyData.int).set (v / 8 % ls.length) (.int (1 - c))) := bagPut_ok (by rw [List.getElem?_map, g2]; rfl)
  have f3 : (zss.map lst).set (v % zss.length) (.list ((zs.map PyData.int).set (v / 8 % ls.length) (.int (1 - c)))) = (zss.set (v % zss.length) (zs.set (v / 8 % ls.length) (1 - c))).map lst := by
    rw [List.map_set, lst, List.map_set]
  refine ⟨zss.set (v % zss.length) (zs.set (v / 8 % ls.length) (1 - c)), List.length_set, fun y hy => ?_, some (true, .int (v : Int)), none, some (true, .int ((v / 8 % ls.length : Nat) : Int)), ?_⟩
  · rcases List.mem_or_eq_of_mem_set hy with w | w
    · exact hq y w
    · rw [w, List.length_set]; exact hzl
  · rw [← f3]
    have hzm : (zss.map lst).length = zss.length := List.length_map _
    simp -implicitDefEqProofs (disch := omega) only [B__law_road_2, sBag, runF, startD, sSeq, sIf, sRet, sRetN, sNil, sCnt, sBrk, sSet, sExp, sAsg, sMov, sFor, sApp, sExt, sClr, sPut, eOp, eUn, eV, eC, eIx, eIf, eChain, eAnd, eOr, eNotV, eArgs, eTup, eLst, eCB, eCall, eIsi, isTy, eIdx, eRep, tE, tAndF, tOrF, tNotF, tYesF, isFr, kdDisp, stor, frzK, gNm, itE, itR1, itemsOf, capD, mbind_ret, mo_some, gLt_int, gLe_int, gGt_int, gLen_list, gLen_tup, gIx_list, gIx_tup, gAdd_int, gSub_int, gMul_int, gFdiv_int, gMod_int, gPow_int, gNeg_int, gEq_int, gNe_int, gIs_non, gIsNot_non, isNon, rng1_int, nrm_int, nrm_bl, nrm_str, nrm_non, nrm_lst, nrm_dct, nol_int, nol_bl, nol_str, nol_non, nol_lst, nol_tup, List.map_cons, List.map_nil, List.cons_append, List.nil_append, List.getElem?_cons_zero, List.getElem?_cons_succ, List.length_cons, List.length_nil, List.length_map, List.length_range, List.set_cons_zero, List.set_cons_succ, List.replicate_succ, List.replicate_zero, if_true, if_false, Bool.false_eq_true, Bool.not_true, Bool.not_false, decide_true, decide_false, ite_true, ite_false, Option.map_some, Option.join_some, beq_self_eq_true, eq_self, String.reduceBEq, Bool.or_false, Bool.false_or, Bool.or_true, Bool.true_or, reduceCtorEq, reduceIte, hm, hlp, hzm, e1, e2, f1, f2, Nat.reduceLT, Nat.reduceAdd, and_self, nrm_f (nol_lst _)]
    try rfl
theorem rep_ints (q : Nat) : (List.replicate q [PyData.int 0]).flatten = (List.replicate q (0 : Int)).map PyData.int := by
  induction q with
  | zero => rfl
  | succ q ih => rw [List.replicate_succ, List.flatten_cons, ih, List.replicate_succ, List.map_cons]; rfl
theorem repL_int {xs : List PyData} {k : Int} (h : nols xs = true ∧ -(2 ^ 63) ≤ k ∧ k < 2 ^ 63 ∧ xs.length * k.toNat ≤ sizeLine) : repL xs (.int k) = mret (.fr [], .list (List.replicate k.toNat xs).flatten) := if_pos h
theorem zeros_ok (ls : List (Int × Int)) (hl2 : ls.length ≤ 12) (d : PyData) : E__law_road_1 [some (false, d), some (false, .list (prs ls))] = mret (Kd.fr [], lst (List.replicate ls.length 0)) := by
  have hlp : (prs ls).length = ls.length := List.length_map _
  have c1 : [PyData.int 0].length * (ls.length : Int).toNat ≤ sizeLine := Nat.le_trans (show _ ≤ 12 by rw [Int.toNat_natCast, List.length_singleton, Nat.one_mul]; exact hl2) (by decide)
  have c2 : -(2 ^ 63) ≤ (ls.length : Int) := by omega
  have c3 : (ls.length : Int) < 2 ^ 63 := by omega
  have hr : repL [.int 0] (.int (ls.length : Int)) = mret (Kd.fr [], .list (List.replicate (ls.length : Int).toNat [PyData.int 0]).flatten) := repL_int ⟨rfl, c2, c3, c1⟩
  simp -implicitDefEqProofs (disch := omega) only [E__law_road_1, runF, startD, sSeq, sIf, sRet, sRetN, sNil, sCnt, sBrk, sSet, sExp, sAsg, sMov, sFor, sApp, sExt, sClr, sPut, eOp, eUn, eV, eC, eIx, eIf, eChain, eAnd, eOr, eNotV, eArgs, eTup, eLst, eCB, eCall, eIsi, isTy, eIdx, eRep, tE, tAndF, tOrF, tNotF, tYesF, isFr, kdDisp, stor, frzK, gNm, itE, itR1, itemsOf, capD, mbind_ret, mo_some, gLt_int, gLe_int, gGt_int, gLen_list, gLen_tup, gIx_list, gIx_tup, gAdd_int, gSub_int, gMul_int, gFdiv_int, gMod_int, gPow_int, gNeg_int, gEq_int, gNe_int, gIs_non, gIsNot_non, isNon, rng1_int, nrm_int, nrm_bl, nrm_str, nrm_non, nrm_lst, nrm_dct, nol_int, nol_bl, nol_str, nol_non, nol_lst, nol_tup, List.map_cons, List.map_nil, List.cons_append, List.nil_append, List.getElem?_cons_zero, List.getElem?_cons_succ, List.length_cons, List.length_nil, List.length_map, List.length_range, List.set_cons_zero, List.set_cons_succ, List.replicate_succ, List.replicate_zero, if_true, if_false, Bool.false_eq_true, Bool.not_true, Bool.not_false, decide_true, decide_false, ite_true, ite_false, Option.map_some, Option.join_some, beq_self_eq_true, eq_self, String.reduceBEq, Bool.or_false, Bool.false_or, Bool.or_true, Bool.true_or, reduceCtorEq, reduceIte, hlp, repD, isNew, hr, Int.toNat_natCast, rep_ints, lst]
theorem weather_turn (ls : List (Int × Int)) (zs : List Int) (hq : zs.length = ls.length) (hl2 : ls.length ≤ 12) :
    ∃ W : List PyData, (∀ x ∈ W, x ∈ prs ls) ∧ compD C__law_road_3 E__law_road_4 [some (false, .list (prs ls)), some (false, lst zs)] ((List.range ls.length).map fun (i : Nat) => PyData.int (i : Int)) = some (W.map fun x => (Kd.fr [], x)) := by
  refine ⟨(((List.range ls.length).map fun (i : Nat) => PyData.int (i : Int)).filter fun d => match d with | .int i => zs.getD i.toNat 0 == 1 | _ => false).map fun d => match d with | .int i => (prs ls).getD i.toNat .none | _ => .none, fun x hx => ?_, ?_⟩
  · obtain ⟨d, hd, rfl⟩ := List.mem_map.mp hx
    obtain ⟨hd, _⟩ := List.mem_filter.mp hd
    obtain ⟨i, hi, rfl⟩ := List.mem_map.mp hd
    exact getD_mem (by rw [Int.toNat_natCast]; simpa [prs] using List.mem_range.mp hi)
  · rw [List.map_map]
    refine compD_filter _ _ _ (fun d hd => ?_) fun d hd _ => ?_
    · obtain ⟨i, hi, rfl⟩ := List.mem_map.mp hd
      have hi' : i < zs.length := by rw [hq]; exact List.mem_range.mp hi
      have e : atD (zs.map PyData.int) (i : Int) = some (.int (zs.getD i 0)) := atD_nat (by rw [List.getElem?_map, List.getD_eq_getElem?_getD, List.getElem?_eq_getElem hi']; rfl)
      simp -implicitDefEqProofs (disch := omega) only [C__law_road_3, runF, startD, sSeq, sIf, sRet, sRetN, sNil, sCnt, sBrk, sSet, sExp, sAsg, sMov, sFor, sApp, sExt, sClr, sPut, eOp, eUn, eV, eC, eIx, eIf, eChain, eAnd, eOr, eNotV, eArgs, eTup, eLst, eCB, eCall, eIsi, isTy, eIdx, eRep, tE, tAndF, tOrF, tNotF, tYesF, isFr, kdDisp, stor, frzK, gNm, itE, itR1, itemsOf, capD, mbind_ret, mo_some, gLt_int, gLe_int, gGt_int, gLen_list, gLen_tup, gIx_list, gIx_tup, gAdd_int, gSub_int, gMul_int, gFdiv_int, gMod_int, gPow_int, gNeg_int, gEq_int, gNe_int, gIs_non, gIsNot_non, isNon, rng1_int, nrm_int, nrm_bl, nrm_str, nrm_non, nrm_lst, nrm_dct, nol_int, nol_bl, nol_str, nol_non, nol_lst, nol_tup, List.map_cons, List.map_nil, List.cons_append, List.nil_append, List.getElem?_cons_zero, List.getElem?_cons_succ, List.length_cons, List.length_nil, List.length_map, List.length_range, List.set_cons_zero, List.set_cons_succ, List.replicate_succ, List.replicate_zero, if_true, if_false, Bool.false_eq_true, Bool.not_true, Bool.not_false, decide_true, decide_false, ite_true, ite_false, Option.map_some, Option.join_some, beq_self_eq_true, eq_self, String.reduceBEq, Bool.or_false, Bool.false_or, Bool.or_true, Bool.true_or, reduceCtorEq, reduceIte, lst, e, Int.toNat_natCast]
    · obtain ⟨i, hi, rfl⟩ := List.mem_map.mp hd
      have hi' : i < (prs ls).length := by rw [prs, List.length_map]; exact List.mem_range.mp hi
      have e := atD_nat (getD_at hi')
      have n1 : nol ((prs ls).getD i .none) = true := nols_iff.mp (nols_prs ls) _ (getD_mem hi')
      simp -implicitDefEqProofs (disch := omega) only [E__law_road_4, runF, startD, sSeq, sIf, sRet, sRetN, sNil, sCnt, sBrk, sSet, sExp, sAsg, sMov, sFor, sApp, sExt, sClr, sPut, eOp, eUn, eV, eC, eIx, eIf, eChain, eAnd, eOr, eNotV, eArgs, eTup, eLst, eCB, eCall, eIsi, isTy, eIdx, eRep, tE, tAndF, tOrF, tNotF, tYesF, isFr, kdDisp, stor, frzK, gNm, itE, itR1, itemsOf, capD, mbind_ret, mo_some, gLt_int, gLe_int, gGt_int, gLen_list, gLen_tup, gIx_list, gIx_tup, gAdd_int, gSub_int, gMul_int, gFdiv_int, gMod_int, gPow_int, gNeg_int, gEq_int, gNe_int, gIs_non, gIsNot_non, isNon, rng1_int, nrm_int, nrm_bl, nrm_str, nrm_non, nrm_lst, nrm_dct, nol_int, nol_bl, nol_str, nol_non, nol_lst, nol_tup, List.map_cons, List.map_nil, List.cons_append, List.nil_append, List.getElem?_cons_zero, List.getElem?_cons_succ, List.length_cons, List.length_nil, List.length_map, List.length_range, List.set_cons_zero, List.set_cons_succ, List.replicate_succ, List.replicate_zero, if_true, if_false, Bool.false_eq_true, Bool.not_true, Bool.not_false, decide_true, decide_false, ite_true, ite_false, Option.map_some, Option.join_some, beq_self_eq_true, eq_self, String.reduceBEq, Bool.or_false, Bool.false_or, Bool.or_true, Bool.true_or, reduceCtorEq, reduceIte, e, nrm_t n1, Int.toNat_natCast, Function.comp]
theorem road_turn (s h most lo c5 c6 c8 c10 : Option (Bool × PyData)) (ls : List (Int × Int)) (zs : List Int) (hq : zs.length = ls.length) (hl2 : ls.length ≤ 12) (ws : List PyData) (g : Good ws) (hw : ws.length ≤ 100) :
    ∃ ws' c10', Good ws' ∧ ws'.length ≤ ws.length + 1 ∧ 1 ≤ ws'.length ∧ B__law_road_5 [s, h, most, some (true, .list (prs ls)), lo, c5, c6, some (false, lst zs), c8, some (true, .list ws), c10] =
      mret (.nx [s, h, most, some (true, .list (prs ls)), lo, c5, c6, some (false, lst zs), c8, some (true, .list ws'), c10']) := by
  obtain ⟨W, h1, h2⟩ := weather_turn ls zs hq hl2
  simp only [lst] at h2
  have hlp : (prs ls).length = ls.length := List.length_map _
  have nW : nols W = true := nols_iff.mpr fun x hx => nols_iff.mp (nols_prs ls) x (h1 x hx)
  have k1 := kdEl_fr W id
  simp only [id] at k1
  have m1 : (W.map fun x => (Kd.fr [], x)).map Prod.snd = W := by rw [List.map_map]; exact List.map_id _
  have hl : ls.length ≤ 100000 := by omega
  have hN := gNotIn_list (x := .tuple W) (lay_prs h1 57) (g.l 57)
  have hsz : ws.length < sizeLine := Nat.lt_of_le_of_lt hw (by decide)
  cases hb : inAny ws (.tuple W) with
  | true =>
    refine ⟨ws, some (true, .tuple W), g, by omega, ?_, ?_⟩
    · cases ws with
      | nil => cases hb
      | cons _ _ => simp
    · simp -implicitDefEqProofs (disch := omega) only [B__law_road_5, eComp, runF, startD, sSeq, sIf, sRet, sRetN, sNil, sCnt, sBrk, sSet, sExp, sAsg, sMov, sFor, sApp, sExt, sClr, sPut, eOp, eUn, eV, eC, eIx, eIf, eChain, eAnd, eOr, eNotV, eArgs, eTup, eLst, eCB, eCall, eIsi, isTy, eIdx, eRep, tE, tAndF, tOrF, tNotF, tYesF, isFr, kdDisp, stor, frzK, gNm, itE, itR1, itemsOf, capD, mbind_ret, mo_some, gLt_int, gLe_int, gGt_int, gLen_list, gLen_tup, gIx_list, gIx_tup, gAdd_int, gSub_int, gMul_int, gFdiv_int, gMod_int, gPow_int, gNeg_int, gEq_int, gNe_int, gIs_non, gIsNot_non, isNon, rng1_int, nrm_int, nrm_bl, nrm_str, nrm_non, nrm_lst, nrm_dct, nol_int, nol_bl, nol_str, nol_non, nol_lst, nol_tup, List.map_cons, List.map_nil, List.cons_append, List.nil_append, List.getElem?_cons_zero, List.getElem?_cons_succ, List.length_cons, List.length_nil, List.length_map, List.length_range, List.set_cons_zero, List.set_cons_succ, List.replicate_succ, List.replicate_zero, if_true, if_false, Bool.false_eq_true, Bool.not_true, Bool.not_false, decide_true, decide_false, ite_true, ite_false, Option.map_some, Option.join_some, beq_self_eq_true, eq_self, String.reduceBEq, Bool.or_false, Bool.false_or, Bool.or_true, Bool.true_or, reduceCtorEq, reduceIte, hlp, Int.toNat_natCast, lst, h2, k1, m1, hl, gTuple_list nW, nrm_tup nW, hN, hb]
  | false =>
    refine ⟨ws ++ [.tuple W], some (true, .tuple W), g.snoc (by rw [nol_tup]; exact nW) (lay_prs h1) hb, by simp, by simp, ?_⟩
    simp -implicitDefEqProofs (disch := omega) only [B__law_road_5, eComp, runF, startD, sSeq, sIf, sRet, sRetN, sNil, sCnt, sBrk, sSet, sExp, sAsg, sMov, sFor, sApp, sExt, sClr, sPut, eOp, eUn, eV, eC, eIx, eIf, eChain, eAnd, eOr, eNotV, eArgs, eTup, eLst, eCB, eCall, eIsi, isTy, eIdx, eRep, tE, tAndF, tOrF, tNotF, tYesF, isFr, kdDisp, stor, frzK, gNm, itE, itR1, itemsOf, capD, mbind_ret, mo_some, gLt_int, gLe_int, gGt_int, gLen_list, gLen_tup, gIx_list, gIx_tup, gAdd_int, gSub_int, gMul_int, gFdiv_int, gMod_int, gPow_int, gNeg_int, gEq_int, gNe_int, gIs_non, gIsNot_non, isNon, rng1_int, nrm_int, nrm_bl, nrm_str, nrm_non, nrm_lst, nrm_dct, nol_int, nol_bl, nol_str, nol_non, nol_lst, nol_tup, List.map_cons, List.map_nil, List.cons_append, List.nil_append, List.getElem?_cons_zero, List.getElem?_cons_succ, List.length_cons, List.length_nil, List.length_map, List.length_range, List.set_cons_zero, List.set_cons_succ, List.replicate_succ, List.replicate_zero, if_true, if_false, Bool.false_eq_true, Bool.not_true, Bool.not_false, decide_true, decide_false, ite_true, ite_false, Option.map_some, Option.join_some, beq_self_eq_true, eq_self, String.reduceBEq, Bool.or_false, Bool.false_or, Bool.or_true, Bool.true_or, reduceCtorEq, reduceIte, hlp, Int.toNat_natCast, lst, h2, k1, m1, hl, gTuple_list nW, nrm_tup nW, hN, hb, hsz]
theorem road_ok (ns : List Int) (h : Nat) (h2 : 2 ≤ h) (h4 : h ≤ 4) : ∃ ws : List PyData, F__law_road [.list (ns.map PyData.int), .int (h : Int), .int 8] = mret (true, .list ws) ∧ Good ws ∧ 1 ≤ ws.length ∧ ws.length ≤ 8 := by
  obtain ⟨ls, l1, l2, l3⟩ := letters_ok h h2 h4
  have m1 := mix_nn (lawAt ns 0) 1 (by decide) (by decide)
  have b1 := Int.emod_nonneg (mixZ (lawAt ns 0) 1) (show (8 : Int) ≠ 0 by decide)
  have b2 := Int.emod_lt_of_pos (mixZ (lawAt ns 0) 1) (show (0 : Int) < 8 by decide)
  obtain ⟨m, hm⟩ := Int.eq_ofNat_of_zero_le (show (0 : Int) ≤ 1 + mixZ (lawAt ns 0) 1 % 8 by omega)
  have hm' : 1 + mixZ (lawAt ns 0) 1 % 8 = (m : Int) := hm
  have m18 : 1 ≤ m ∧ m ≤ 8 := by omega
  have hlp : (prs ls).length = ls.length := List.length_map _
  have hc := compD_map (fe := E__law_road_1) (cap := [some (false, .list (prs ls))]) ((List.range m).map fun (i : Nat) => PyData.int (i : Int)) (fun _ => (Kd.fr [], lst (List.replicate ls.length 0))) (fun d _ => zeros_ok ls l3 d)
  rw [List.map_map] at hc
  have hc' : compD tYesF E__law_road_1 [some (false, .list (prs ls))] ((List.range m).map fun (i : Nat) => PyData.int (i : Int)) = some ((List.replicate m (List.replicate ls.length (0 : Int))).map fun zs => (Kd.fr [], lst zs)) := by
    rw [hc]
    refine congrArg some (List.ext_getElem (by simp) fun i h1 h2 => by simp)
  have k1 := kdEl_fr (List.replicate m (List.replicate ls.length (0 : Int))) lst
  have e1 : ((List.replicate m (List.replicate ls.length (0 : Int))).map fun zs => (Kd.fr [], lst zs)).map Prod.snd = (List.replicate m (List.replicate ls.length (0 : Int))).map lst := by rw [List.map_map]; rfl
  have hml : m ≤ 100000 := by omega
  obtain ⟨cs, hcs⟩ := cutD_ints ns (some 1) (some 64)
  obtain ⟨Γ1, h5, zss, c5, c6, c7, c8, rfl, z1, z2⟩ := forD_inv (g := gNm 5) (b := B__law_road_2) (ds := cs.map PyData.int) (Γ := [some (false, .list (ns.map PyData.int)), some (false, .int (h : Int)), some (false, .int 8), some (true, .list (prs ls)), some (true, .list ((List.replicate m (List.replicate ls.length (0 : Int))).map lst)), none, none, none, none, none, none])
    (fun i Γ => ∃ (zss : List (List Int)) (c5 c6 c7 c8 : Option (Bool × PyData)), Γ = [some (false, .list (ns.map PyData.int)), some (false, .int (h : Int)), some (false, .int 8), some (true, .list (prs ls)), some (true, .list (zss.map lst)), c5, c6, c7, c8, none, none] ∧ zss.length = m ∧ ∀ zs ∈ zss, zs.length = ls.length)
    ⟨_, none, none, none, none, rfl, by simp, fun zs hz => by rw [(List.mem_replicate.mp hz).2, List.length_replicate]⟩ (by
    rintro i d Γ hd ⟨zss, c5, c6, c7, c8, rfl, z1, z2⟩
    obtain ⟨z, rfl, hz⟩ := ints_get hd
    obtain ⟨zss', a1, a2, c6', c7', c8', a3⟩ := bag_turn ns (.int (h : Int)) (.int 8) ls l2 l3 zss (by omega) (by omega) z2 z c6 c7 c8
    exact ⟨_, _, rfl, .inl a3, zss', _, c6', c7', c8', rfl, a1.trans z1, a2⟩)
  obtain ⟨Γ2, h6, ws, c7', c10, rfl, w1, w2, w3⟩ := forD_inv (g := gNm 7) (b := B__law_road_5) (ds := zss.map lst) (Γ := [some (false, .list (ns.map PyData.int)), some (false, .int (h : Int)), some (false, .int 8), some (true, .list (prs ls)), some (false, .list (zss.map lst)), c5, c6, c7, c8, some (true, .list []), none])
    (fun i Γ => ∃ (ws : List PyData) (c7 c10 : Option (Bool × PyData)), Γ = [some (false, .list (ns.map PyData.int)), some (false, .int (h : Int)), some (false, .int 8), some (true, .list (prs ls)), some (false, .list (zss.map lst)), c5, c6, c7, c8, some (true, .list ws), c10] ∧ Good ws ∧ ws.length ≤ i ∧ (0 < i → 1 ≤ ws.length))
    ⟨[], _, none, rfl, good_nil, Nat.le_refl _, fun h => absurd h (Nat.lt_irrefl _)⟩ (by
    rintro i d Γ hd ⟨ws, c7, c10, rfl, w1, w2, w3⟩
    have hil : i < zss.length := by have := (List.getElem?_eq_some_iff.mp hd).1; simpa using this
    rw [List.getElem?_map, List.getElem?_eq_getElem hil] at hd
    have hd' : lst zss[i] = d := Option.some.inj hd
    subst hd'
    obtain ⟨ws', c10', a1, a2, a3, a4⟩ := road_turn (some (false, .list (ns.map PyData.int))) (some (false, .int (h : Int))) (some (false, .int 8)) (some (false, .list (zss.map lst))) c5 c6 c8 c10 ls zss[i] (z2 _ (List.getElem_mem hil)) l3 ws w1 (by omega)
    exact ⟨_, _, rfl, .inl a4, ws', _, c10', rfl, a1, by omega, fun _ => a3⟩)
  rw [List.length_map] at w2 w3
  refine ⟨ws, ?_, w1, w3 (by omega), by omega⟩
  have hz0 : 0 < zss.length := by omega
  have nz : nols (zss.map lst) = false := by
    cases zss with
    | nil => simp at hz0
    | cons a b => rfl
  simp -implicitDefEqProofs (disch := omega) only [F__law_road, S__law_road, eComp, eSl, oE, oI, frzL, frz1, List.foldl_cons, List.foldl_nil, runF, startD, sSeq, sIf, sRet, sRetN, sNil, sCnt, sBrk, sSet, sExp, sAsg, sMov, sFor, sApp, sExt, sClr, sPut, eOp, eUn, eV, eC, eIx, eIf, eChain, eAnd, eOr, eNotV, eArgs, eTup, eLst, eCB, eCall, eIsi, isTy, eIdx, eRep, tE, tAndF, tOrF, tNotF, tYesF, isFr, kdDisp, stor, frzK, gNm, itE, itR1, itemsOf, capD, mbind_ret, mo_some, gLt_int, gLe_int, gGt_int, gLen_list, gLen_tup, gIx_list, gIx_tup, gAdd_int, gSub_int, gMul_int, gFdiv_int, gMod_int, gPow_int, gNeg_int, gEq_int, gNe_int, gIs_non, gIsNot_non, isNon, rng1_int, nrm_int, nrm_bl, nrm_str, nrm_non, nrm_lst, nrm_dct, nol_int, nol_bl, nol_str, nol_non, nol_lst, nol_tup, List.map_cons, List.map_nil, List.cons_append, List.nil_append, List.getElem?_cons_zero, List.getElem?_cons_succ, List.length_cons, List.length_nil, List.length_map, List.length_range, List.set_cons_zero, List.set_cons_succ, List.replicate_succ, List.replicate_zero, if_true, if_false, Bool.false_eq_true, Bool.not_true, Bool.not_false, decide_true, decide_false, ite_true, ite_false, Option.map_some, Option.join_some, beq_self_eq_true, eq_self, String.reduceBEq, Bool.or_false, Bool.false_or, Bool.or_true, Bool.true_or, reduceCtorEq, reduceIte, l1, at_ok, mix_ok, hm', Int.toNat_natCast, hc', k1, e1, hml, gSl_list (nols_ints ns), hcs, nols_ints cs, h5, h6]
end K23
set_option Elab.async false
set_option linter.all false
set_option maxRecDepth 100000
namespace K23
open PySem Y
/-! ### rows by number -/
theorem dig_cons (L m : Nat) : ∀ k : Nat, dig L m (k + 1) = (m % L) :: dig L (m / L) k
  | 0 => by simp [dig]
  | k + 1 => by
    rw [dig, dig_cons L m k, dig, List.cons_append, Nat.pow_succ, Nat.mul_comm (L ^ k) L, ← Nat.div_div_eq_div_mul]
theorem rowD_snoc (xs : List PyData) (n d k : Nat) (hd : d < xs.length) : rowD xs (n * xs.length + d) (k + 1) = rowD xs n k ++ [xs.getD d .none] := by
  have e1 : (n * xs.length + d) % xs.length = d := by rw [Nat.mul_comm, Nat.mul_add_mod, Nat.mod_eq_of_lt hd]
  have e2 : (n * xs.length + d) / xs.length = n := by rw [Nat.mul_comm, Nat.mul_add_div (by omega), Nat.div_eq_of_lt hd, Nat.add_zero]
  unfold rowD
  rw [dig_cons, e1, e2, List.reverse_cons, List.map_append]
  rfl
theorem range_mul (a b : Nat) : List.range (a * b) = (List.range a).flatMap fun n => (List.range b).map fun d => n * b + d := by
  induction a with
  | zero => simp
  | succ a ih =>
    rw [Nat.succ_mul, List.range_add, ih, List.range_succ, List.flatMap_append]
    simp
theorem map_getD (xs : List PyData) : (List.range xs.length).map (fun d => xs.getD d .none) = xs := by
  refine List.ext_getElem (by simp) fun i h1 h2 => ?_
  simp [List.getD_eq_getElem?_getD, List.getElem?_eq_getElem h2]
theorem map_by {α : Type} (xs : List PyData) (f : PyData → α) : xs.map f = (List.range xs.length).map fun d => f (xs.getD d .none) := (congrArg (List.map f) (map_getD xs)).symm.trans (List.map_map ..)
theorem flat_by {α : Type} (xs : List PyData) (f : PyData → List α) : xs.flatMap f = (List.range xs.length).flatMap fun d => f (xs.getD d .none) := (congrArg (List.flatMap f) (map_getD xs)).symm.trans (List.flatMap_map ..)
def rows (ws : List PyData) : Nat → List (List PyData)
  | 0 => [[]]
  | k + 1 => (rows ws k).flatMap fun r => ws.map fun w => r ++ [w]
theorem rows_eq (ws : List PyData) : ∀ k : Nat, rows ws k = (List.range (ws.length ^ k)).map fun n => rowD ws n k
  | 0 => by simp [rows, rowD, dig]
  | k + 1 => by
    rw [rows, rows_eq ws k, Nat.pow_succ, range_mul, List.map_flatMap, List.flatMap_map]
    refine congrArg (fun f => List.flatMap f (List.range (ws.length ^ k))) (funext fun n => ?_)
    rw [List.map_map, map_by ws]
    refine List.map_congr_left fun d hd => ?_
    exact (rowD_snoc ws n d k (List.mem_range.mp hd)).symm
def runD (ws ss : List PyData) (k N : Nat) : PyData := .tuple [ss.getD (N / ws.length ^ k) .none, .tuple (rowD ws (N % ws.length ^ k) k)]
def runsD (ws ss : List PyData) (k : Nat) : List PyData := (List.range (ss.length * ws.length ^ k)).map (runD ws ss k)
theorem runsD_eq (ws ss : List PyData) (k : Nat) : (ss.flatMap fun s => (rows ws k).map fun r => PyData.tuple [s, .tuple r]) = runsD ws ss k := by
  unfold runsD
  rw [range_mul, List.map_flatMap]
  rw [flat_by ss]
  refine congrArg (fun f => List.flatMap f (List.range ss.length)) (funext fun m => ?_)
  rw [rows_eq, List.map_map, List.map_map]
  refine List.map_congr_left fun n hn => ?_
  have hn' : n < ws.length ^ k := List.mem_range.mp hn
  show PyData.tuple [ss.getD m .none, .tuple (rowD ws n k)] = runD ws ss k (m * ws.length ^ k + n)
  unfold runD
  rw [Nat.mul_comm, Nat.mul_add_div (by omega), Nat.div_eq_of_lt hn', Nat.add_zero, Nat.mul_add_mod, Nat.mod_eq_of_lt hn']
/-! ### the law's own product -/
theorem rows_len (ws : List PyData) (k : Nat) : (rows ws k).length = ws.length ^ k := by rw [rows_eq]; simp
theorem rows_mem {ws : List PyData} : ∀ {k : Nat} {r : List PyData}, r ∈ rows ws k → r.length = k ∧ ∀ x ∈ r, x ∈ ws
  | 0, r, h => by rw [List.mem_singleton.mp h]; exact ⟨rfl, fun x hx => by cases hx⟩
  | k + 1, r, h => by
    obtain ⟨r', h1, h2⟩ := List.mem_flatMap.mp h
    obtain ⟨w, h3, rfl⟩ := List.mem_map.mp h2
    obtain ⟨h4, h5⟩ := rows_mem h1
    refine ⟨by rw [List.length_append, h4]; rfl, fun x hx => ?_⟩
    rcases List.mem_append.mp hx with hx | hx
    · exact h5 x hx
    · rw [List.mem_singleton.mp hx]; exact h3
theorem row_nols {ws : List PyData} (g : Good ws) {k : Nat} {r : List PyData} (h : r ∈ rows ws k) : nols r = true := nols_iff.mpr fun x hx => g.nol ((rows_mem h).2 x hx)
def tups (l : List (List PyData)) : List PyData := l.map PyData.tuple
theorem tups_nols {l : List (List PyData)} (h : ∀ r ∈ l, nols r = true) : nols (tups l) = true := nols_iff.mpr fun x hx => by
  obtain ⟨r, hr, rfl⟩ := List.mem_map.mp hx
  rw [nol_tup]; exact h r hr
/-- one row made longer by each weather -/
theorem longer_ok (ws : List PyData) (g : Good ws) (hw : ws.length ≤ 8) (c1 c2 : Option (Bool × PyData)) (lo : Option (Bool × PyData)) (c4 : Option (Bool × PyData)) (c7 c8 : Option (Bool × PyData)) (acc r : List PyData) (ha : acc.length ≤ 40000) (hr : nols r = true) (hrl : r.length ≤ 10) :
    B__law_due_2 [some (false, .list ws), c1, c2, lo, c4, some (true, .list acc), some (true, .tuple r), c7, c8] = mret (.nx [some (false, .list ws), c1, c2, lo, c4, some (true, .list (acc ++ tups (ws.map fun w => r ++ [w]))), some (true, .tuple r), c7, c8]) := by
  have hc : compD tYesF E__law_due_1 [some (false, .tuple r)] ws = some (ws.map fun w => (Kd.fr [], PyData.tuple (r ++ [w]))) := compD_map ws _ fun d hd => by
    have nd : nol d = true := g.nol hd
    have n2 : nols [d] = true := by simp only [nols, nd, Bool.and_self]
    have hz : r.length + [d].length ≤ sizeLine := Nat.le_trans (show _ ≤ 11 by simp; omega) (by decide)
    simp -implicitDefEqProofs (disch := omega) only [E__law_due_1, runF, startD, sSeq, sIf, sRet, sRetN, sNil, sCnt, sBrk, sSet, sExp, sAsg, sMov, sFor, sApp, sExt, sClr, sPut, eOp, eUn, eV, eC, eIx, eIf, eChain, eAnd, eOr, eNotV, eArgs, eTup, eLst, eCB, eCall, eIsi, isTy, eIdx, eRep, tE, tAndF, tOrF, tNotF, tYesF, isFr, kdDisp, stor, frzK, gNm, itE, itR1, itemsOf, capD, mbind_ret, mo_some, gLt_int, gLe_int, gGt_int, gLen_list, gLen_tup, gIx_list, gIx_tup, gAdd_int, gSub_int, gMul_int, gFdiv_int, gMod_int, gPow_int, gNeg_int, gEq_int, gNe_int, gIs_non, gIsNot_non, isNon, rng1_int, nrm_int, nrm_bl, nrm_str, nrm_non, nrm_lst, nrm_dct, nol_int, nol_bl, nol_str, nol_non, nol_lst, nol_tup, List.map_cons, List.map_nil, List.cons_append, List.nil_append, List.getElem?_cons_zero, List.getElem?_cons_succ, List.length_cons, List.length_nil, List.length_map, List.length_range, List.set_cons_zero, List.set_cons_succ, List.replicate_succ, List.replicate_zero, if_true, if_false, Bool.false_eq_true, Bool.not_true, Bool.not_false, decide_true, decide_false, ite_true, ite_false, Option.map_some, Option.join_some, beq_self_eq_true, eq_self, String.reduceBEq, Bool.or_false, Bool.false_or, Bool.or_true, Bool.true_or, reduceCtorEq, reduceIte, nrm_t nd, nrm_tup hr, nrm_tup n2, gAdd_tup hr n2 hz]
  have k1 := kdEl_fr ws (fun w => PyData.tuple (r ++ [w]))
  have m1 : (ws.map fun w => (Kd.fr [], PyData.tuple (r ++ [w]))).map Prod.snd = tups (ws.map fun w => r ++ [w]) := by rw [List.map_map, tups, List.map_map]; rfl
  have n1 : nols (tups (ws.map fun w => r ++ [w])) = true := tups_nols fun x hx => by
    obtain ⟨w, h1, rfl⟩ := List.mem_map.mp hx
    rw [nols_append, hr]; simp only [nols, g.nol h1, Bool.and_self]
  have hl : ws.length ≤ 100000 := by omega
  have hlen : (tups (ws.map fun w => r ++ [w])).length = ws.length := by simp [tups]
  have hz : acc.length + (tups (ws.map fun w => r ++ [w])).length ≤ sizeLine := Nat.le_trans (show _ ≤ 50000 by omega) (by decide)
  simp -implicitDefEqProofs (disch := omega) only [B__law_due_2, eComp, runF, startD, sSeq, sIf, sRet, sRetN, sNil, sCnt, sBrk, sSet, sExp, sAsg, sMov, sFor, sApp, sExt, sClr, sPut, eOp, eUn, eV, eC, eIx, eIf, eChain, eAnd, eOr, eNotV, eArgs, eTup, eLst, eCB, eCall, eIsi, isTy, eIdx, eRep, tE, tAndF, tOrF, tNotF, tYesF, isFr, kdDisp, stor, frzK, gNm, itE, itR1, itemsOf, capD, mbind_ret, mo_some, gLt_int, gLe_int, gGt_int, gLen_list, gLen_tup, gIx_list, gIx_tup, gAdd_int, gSub_int, gMul_int, gFdiv_int, gMod_int, gPow_int, gNeg_int, gEq_int, gNe_int, gIs_non, gIsNot_non, isNon, rng1_int, nrm_int, nrm_bl, nrm_str, nrm_non, nrm_lst, nrm_dct, nol_int, nol_bl, nol_str, nol_non, nol_lst, nol_tup, List.map_cons, List.map_nil, List.cons_append, List.nil_append, List.getElem?_cons_zero, List.getElem?_cons_succ, List.length_cons, List.length_nil, List.length_map, List.length_range, List.set_cons_zero, List.set_cons_succ, List.replicate_succ, List.replicate_zero, if_true, if_false, Bool.false_eq_true, Bool.not_true, Bool.not_false, decide_true, decide_false, ite_true, ite_false, Option.map_some, Option.join_some, beq_self_eq_true, eq_self, String.reduceBEq, Bool.or_false, Bool.false_or, Bool.or_true, Bool.true_or, reduceCtorEq, reduceIte, hc, k1, m1, hl, n1, hz, extI, notAl, if_true, and_self]
end K23
set_option Elab.async false
set_option linter.all false
set_option maxRecDepth 100000
namespace K23
open PySem Y
theorem tups_append (a b : List (List PyData)) : tups (a ++ b) = tups a ++ tups b := by simp [tups]
theorem tups_get {l : List (List PyData)} {i : Nat} {d : PyData} (h : (tups l)[i]? = some d) : ∃ r, d = .tuple r ∧ l[i]? = some r := by
  unfold tups at h
  rw [List.getElem?_map] at h
  cases e : l[i]? with
  | none => rw [e] at h; cases h
  | some r => rw [e] at h; exact ⟨r, (Option.some.inj h).symm, rfl⟩
theorem flat_len (l : List (List PyData)) (ws : List PyData) : (l.flatMap fun r => ws.map fun w => r ++ [w]).length = l.length * ws.length := by
  induction l with
  | nil => simp
  | cons a l ih => rw [List.flatMap_cons, List.length_append, ih, List.length_map, List.length_cons, Nat.succ_mul, Nat.add_comm]
/-- one round more -/
theorem round_ok (ws ss : List PyData) (k i : Nat) (g : Good ws) (hw1 : 1 ≤ ws.length) (hw : ws.length ≤ 8) (hi : i ≤ 5) (hp : ws.length ^ (i + 1) ≤ 3000) (c4 c6 : Option (Bool × PyData)) :
    ∃ c6', B__law_due_3 [some (false, .list ws), some (false, .int (k : Int)), some (false, .list ss), some (true, .list (tups (rows ws i))), c4, none, c6, none, none] =
      mret (.nx [some (false, .list ws), some (false, .int (k : Int)), some (false, .list ss), some (true, .list (tups (rows ws (i + 1)))), c4, none, c6', none, none]) := by
  have hlr := rows_len ws i
  obtain ⟨Γ', h1, c6', h2⟩ := forD_inv (g := gNm 6) (b := B__law_due_2) (ds := tups (rows ws i)) (Γ := [some (false, .list ws), some (false, .int (k : Int)), some (false, .list ss), some (false, .list (tups (rows ws i))), c4, some (true, .list []), c6, none, none])
    (fun j Γ => ∃ c6 : Option (Bool × PyData), Γ = [some (false, .list ws), some (false, .int (k : Int)), some (false, .list ss), some (false, .list (tups (rows ws i))), c4, some (true, .list (tups (((rows ws i).take j).flatMap fun r => ws.map fun w => r ++ [w]))), c6, none, none]) ⟨c6, by simp [tups]⟩ (by
    rintro j d Γ hd ⟨c6, rfl⟩
    obtain ⟨r, rfl, hr⟩ := tups_get hd
    have hm := List.mem_of_getElem? hr
    have hj := (List.getElem?_eq_some_iff.mp hr).1
    have nr := row_nols g hm
    have ht : (rows ws i).take (j + 1) = (rows ws i).take j ++ [r] := by rw [List.take_add_one, hr]; rfl
    have hal : (tups (((rows ws i).take j).flatMap fun r => ws.map fun w => r ++ [w])).length ≤ 40000 := by
      unfold tups
      rw [List.length_map, flat_len, List.length_take]
      have : min j (rows ws i).length * ws.length ≤ ws.length ^ (i + 1) := by rw [Nat.pow_succ]; exact Nat.mul_le_mul_right _ (by omega)
      omega
    refine ⟨_, _, by rw [nrm_t (by rw [nol_tup]; exact nr)]; rfl, .inl (longer_ok ws g hw _ _ _ _ none none _ r hal nr (by rw [(rows_mem hm).1]; omega)), some (true, .tuple r), ?_⟩
    rw [ht, List.flatMap_append, tups_append, List.flatMap_singleton])
  have hlt : (tups (rows ws i)).length = (rows ws i).length := by simp [tups]
  rw [hlt, List.take_length] at h2
  refine ⟨c6', ?_⟩
  have e : (rows ws i).flatMap (fun r => ws.map fun w => r ++ [w]) = rows ws (i + 1) := rfl
  rw [e] at h2
  simp -implicitDefEqProofs (disch := omega) only [B__law_due_3, frzK, frzL, frz1, List.foldl_cons, List.foldl_nil, runF, startD, sSeq, sIf, sRet, sRetN, sNil, sCnt, sBrk, sSet, sExp, sAsg, sMov, sFor, sApp, sExt, sClr, sPut, eOp, eUn, eV, eC, eIx, eIf, eChain, eAnd, eOr, eNotV, eArgs, eTup, eLst, eCB, eCall, eIsi, isTy, eIdx, eRep, tE, tAndF, tOrF, tNotF, tYesF, isFr, kdDisp, stor, frzK, gNm, itE, itR1, itemsOf, capD, mbind_ret, mo_some, gLt_int, gLe_int, gGt_int, gLen_list, gLen_tup, gIx_list, gIx_tup, gAdd_int, gSub_int, gMul_int, gFdiv_int, gMod_int, gPow_int, gNeg_int, gEq_int, gNe_int, gIs_non, gIsNot_non, isNon, rng1_int, nrm_int, nrm_bl, nrm_str, nrm_non, nrm_lst, nrm_dct, nol_int, nol_bl, nol_str, nol_non, nol_lst, nol_tup, List.map_cons, List.map_nil, List.cons_append, List.nil_append, List.getElem?_cons_zero, List.getElem?_cons_succ, List.length_cons, List.length_nil, List.length_map, List.length_range, List.set_cons_zero, List.set_cons_succ, List.replicate_succ, List.replicate_zero, if_true, if_false, Bool.false_eq_true, Bool.not_true, Bool.not_false, decide_true, decide_false, ite_true, ite_false, Option.map_some, Option.join_some, beq_self_eq_true, eq_self, String.reduceBEq, Bool.or_false, Bool.false_or, Bool.or_true, Bool.true_or, reduceCtorEq, reduceIte, h1, h2, nrm_f (nol_lst _), Nat.reduceEqDiff]
  try rfl
def pairD (s : PyData) (l : List (List PyData)) : List PyData := l.map fun r => PyData.tuple [s, .tuple r]
theorem start_ok (ws ss : List PyData) (k : Nat) (s : PyData) (hs : nol s = true) (g : Good ws) (hp : ws.length ^ k ≤ 3000) (c4 c5 c6 : Option (Bool × PyData)) (acc : List PyData) (ha : acc.length ≤ 3000) :
    B__law_due_5 [some (false, .list ws), some (false, .int (k : Int)), some (false, .list ss), some (true, .list (tups (rows ws k))), c4, c5, c6, some (true, .list acc), some (true, s)] =
      mret (.nx [some (false, .list ws), some (false, .int (k : Int)), some (false, .list ss), some (true, .list (tups (rows ws k))), c4, c5, c6, some (true, .list (acc ++ pairD s (rows ws k))), some (true, s)]) := by
  have hlr := rows_len ws k
  have hlt : (tups (rows ws k)).length = (rows ws k).length := by simp [tups]
  have nrs : ∀ r ∈ rows ws k, nols r = true := fun r hr => row_nols g hr
  have hc : compD tYesF E__law_due_4 [some (false, s)] (tups (rows ws k)) = some ((tups (rows ws k)).map fun d => (Kd.fr [], PyData.tuple [s, d])) := compD_map _ _ fun d hd => by
    obtain ⟨r, hr, rfl⟩ := List.mem_map.mp hd
    have n1 : nol (PyData.tuple r) = true := by rw [nol_tup]; exact nrs r hr
    have n2 : nols [s, PyData.tuple r] = true := by simp only [nols, hs, n1, Bool.and_self]
    simp -implicitDefEqProofs (disch := omega) only [E__law_due_4, runF, startD, sSeq, sIf, sRet, sRetN, sNil, sCnt, sBrk, sSet, sExp, sAsg, sMov, sFor, sApp, sExt, sClr, sPut, eOp, eUn, eV, eC, eIx, eIf, eChain, eAnd, eOr, eNotV, eArgs, eTup, eLst, eCB, eCall, eIsi, isTy, eIdx, eRep, tE, tAndF, tOrF, tNotF, tYesF, isFr, kdDisp, stor, frzK, gNm, itE, itR1, itemsOf, capD, mbind_ret, mo_some, gLt_int, gLe_int, gGt_int, gLen_list, gLen_tup, gIx_list, gIx_tup, gAdd_int, gSub_int, gMul_int, gFdiv_int, gMod_int, gPow_int, gNeg_int, gEq_int, gNe_int, gIs_non, gIsNot_non, isNon, rng1_int, nrm_int, nrm_bl, nrm_str, nrm_non, nrm_lst, nrm_dct, nol_int, nol_bl, nol_str, nol_non, nol_lst, nol_tup, List.map_cons, List.map_nil, List.cons_append, List.nil_append, List.getElem?_cons_zero, List.getElem?_cons_succ, List.length_cons, List.length_nil, List.length_map, List.length_range, List.set_cons_zero, List.set_cons_succ, List.replicate_succ, List.replicate_zero, if_true, if_false, Bool.false_eq_true, Bool.not_true, Bool.not_false, decide_true, decide_false, ite_true, ite_false, Option.map_some, Option.join_some, beq_self_eq_true, eq_self, String.reduceBEq, Bool.or_false, Bool.false_or, Bool.or_true, Bool.true_or, reduceCtorEq, reduceIte, nrm_t n1, nrm_t hs, nrm_tup n2]
  have k1 := kdEl_fr (tups (rows ws k)) (fun d => PyData.tuple [s, d])
  have m1 : ((tups (rows ws k)).map fun d => (Kd.fr [], PyData.tuple [s, d])).map Prod.snd = pairD s (rows ws k) := by rw [List.map_map, tups, List.map_map]; rfl
  have n1 : nols (pairD s (rows ws k)) = true := nols_iff.mpr fun x hx => by
    obtain ⟨r, hr, rfl⟩ := List.mem_map.mp hx
    rw [nol_tup]; simp only [nols, hs, nol_tup, nrs r hr, Bool.and_self]
  have hl : (tups (rows ws k)).length ≤ 100000 := by omega
  have hlen : (pairD s (rows ws k)).length = (rows ws k).length := by simp [pairD]
  have hz : acc.length + (pairD s (rows ws k)).length ≤ sizeLine := Nat.le_trans (show _ ≤ 50000 by omega) (by decide)
  simp -implicitDefEqProofs (disch := omega) only [B__law_due_5, eComp, runF, startD, sSeq, sIf, sRet, sRetN, sNil, sCnt, sBrk, sSet, sExp, sAsg, sMov, sFor, sApp, sExt, sClr, sPut, eOp, eUn, eV, eC, eIx, eIf, eChain, eAnd, eOr, eNotV, eArgs, eTup, eLst, eCB, eCall, eIsi, isTy, eIdx, eRep, tE, tAndF, tOrF, tNotF, tYesF, isFr, kdDisp, stor, frzK, gNm, itE, itR1, itemsOf, capD, mbind_ret, mo_some, gLt_int, gLe_int, gGt_int, gLen_list, gLen_tup, gIx_list, gIx_tup, gAdd_int, gSub_int, gMul_int, gFdiv_int, gMod_int, gPow_int, gNeg_int, gEq_int, gNe_int, gIs_non, gIsNot_non, isNon, rng1_int, nrm_int, nrm_bl, nrm_str, nrm_non, nrm_lst, nrm_dct, nol_int, nol_bl, nol_str, nol_non, nol_lst, nol_tup, List.map_cons, List.map_nil, List.cons_append, List.nil_append, List.getElem?_cons_zero, List.getElem?_cons_succ, List.length_cons, List.length_nil, List.length_map, List.length_range, List.set_cons_zero, List.set_cons_succ, List.replicate_succ, List.replicate_zero, if_true, if_false, Bool.false_eq_true, Bool.not_true, Bool.not_false, decide_true, decide_false, ite_true, ite_false, Option.map_some, Option.join_some, beq_self_eq_true, eq_self, String.reduceBEq, Bool.or_false, Bool.false_or, Bool.or_true, Bool.true_or, reduceCtorEq, reduceIte, hc, k1, m1, hl, n1, hz, extI, notAl, if_true, and_self, nrm_f (nol_lst _)]
theorem due_ok (ws ss : List PyData) (k : Nat) (g : Good ws) (gs : Good ss) (hw1 : 1 ≤ ws.length) (hw : ws.length ≤ 8) (hk : k ≤ 5) (hs : 1 ≤ ss.length) (hm : ss.length * ws.length ^ k ≤ 3000) :
    F__law_due [.list ws, .int (k : Int), .list ss] = mret (true, .list (runsD ws ss k)) := by
  have hp0 : 0 < ws.length ^ k := Nat.pow_pos hw1
  have hp : ws.length ^ k ≤ 3000 := Nat.le_trans (Nat.le_mul_of_pos_left _ hs) hm
  obtain ⟨Γ', h1, c4, c6, h2⟩ := forD_inv (g := gNm 4) (b := B__law_due_3) (ds := (List.range k).map fun (i : Nat) => PyData.int (i : Int)) (Γ := [some (false, .list ws), some (false, .int (k : Int)), some (false, .list ss), some (true, .list (tups (rows ws 0))), none, none, none, none, none])
    (fun i Γ => ∃ c4 c6 : Option (Bool × PyData), Γ = [some (false, .list ws), some (false, .int (k : Int)), some (false, .list ss), some (true, .list (tups (rows ws i))), c4, none, c6, none, none]) ⟨none, none, rfl⟩ (by
    rintro i d Γ hd ⟨c4, c6, rfl⟩
    obtain ⟨rfl, hi⟩ := range_get hd
    obtain ⟨c6', e⟩ := round_ok ws ss k i g hw1 hw (by omega) (Nat.le_trans (Nat.pow_le_pow_right hw1 (by omega)) hp) (some (true, .int (i : Int))) c6
    exact ⟨_, _, rfl, .inl e, _, c6', rfl⟩)
  rw [List.length_map, List.length_range] at h2
  obtain ⟨Γ2, h3, c8, h4⟩ := forD_inv (g := gNm 8) (b := B__law_due_5) (ds := ss) (Γ := [some (false, .list ws), some (false, .int (k : Int)), some (false, .list ss), some (true, .list (tups (rows ws k))), c4, none, c6, some (true, .list []), none])
    (fun j Γ => ∃ c8 : Option (Bool × PyData), Γ = [some (false, .list ws), some (false, .int (k : Int)), some (false, .list ss), some (true, .list (tups (rows ws k))), c4, none, c6, some (true, .list ((ss.take j).flatMap fun s => pairD s (rows ws k))), c8]) ⟨none, by simp⟩ (by
    rintro j d Γ hd ⟨c8, rfl⟩
    have hm' := List.mem_of_getElem? hd
    have nd := gs.nol hm'
    have hj := (List.getElem?_eq_some_iff.mp hd).1
    have ht : ss.take (j + 1) = ss.take j ++ [d] := by rw [List.take_add_one, hd]; rfl
    have fl : ∀ l : List PyData, (l.flatMap fun s => pairD s (rows ws k)).length = l.length * ws.length ^ k := fun l => by
      induction l with
      | nil => simp
      | cons a l ih => rw [List.flatMap_cons, List.length_append, ih, pairD, List.length_map, rows_len, List.length_cons, Nat.succ_mul, Nat.add_comm]
    have ha : ((ss.take j).flatMap fun s => pairD s (rows ws k)).length ≤ 3000 := by
      rw [fl, List.length_take]
      exact Nat.le_trans (Nat.mul_le_mul_right _ (by omega)) hm
    refine ⟨_, _, by rw [nrm_t nd]; rfl, .inl (start_ok ws ss k d nd g hp c4 none c6 _ ha), some (true, d), ?_⟩
    rw [ht, List.flatMap_append, List.flatMap_singleton])
  rw [List.take_length] at h4
  have e : (ss.flatMap fun s => pairD s (rows ws k)) = runsD ws ss k := runsD_eq ws ss k
  rw [e] at h4
  have e0 : ([PyData.tuple []] : List PyData) = tups (rows ws 0) := rfl
  have nt : nols ([] : List PyData) = true := rfl
  simp -implicitDefEqProofs (disch := omega) only [F__law_due, S__law_due, runF, startD, sSeq, sIf, sRet, sRetN, sNil, sCnt, sBrk, sSet, sExp, sAsg, sMov, sFor, sApp, sExt, sClr, sPut, eOp, eUn, eV, eC, eIx, eIf, eChain, eAnd, eOr, eNotV, eArgs, eTup, eLst, eCB, eCall, eIsi, isTy, eIdx, eRep, tE, tAndF, tOrF, tNotF, tYesF, isFr, kdDisp, stor, frzK, gNm, itE, itR1, itemsOf, capD, mbind_ret, mo_some, gLt_int, gLe_int, gGt_int, gLen_list, gLen_tup, gIx_list, gIx_tup, gAdd_int, gSub_int, gMul_int, gFdiv_int, gMod_int, gPow_int, gNeg_int, gEq_int, gNe_int, gIs_non, gIsNot_non, isNon, rng1_int, nrm_int, nrm_bl, nrm_str, nrm_non, nrm_lst, nrm_dct, nol_int, nol_bl, nol_str, nol_non, nol_lst, nol_tup, List.map_cons, List.map_nil, List.cons_append, List.nil_append, List.getElem?_cons_zero, List.getElem?_cons_succ, List.length_cons, List.length_nil, List.length_map, List.length_range, List.set_cons_zero, List.set_cons_succ, List.replicate_succ, List.replicate_zero, if_true, if_false, Bool.false_eq_true, Bool.not_true, Bool.not_false, decide_true, decide_false, ite_true, ite_false, Option.map_some, Option.join_some, beq_self_eq_true, eq_self, String.reduceBEq, Bool.or_false, Bool.false_or, Bool.or_true, Bool.true_or, reduceCtorEq, reduceIte, nrm_tup nt, e0, Int.toNat_natCast, h1, h2, h3, h4, nrm_f (nol_lst _)]
end K23
set_option Elab.async false
set_option linter.all false
set_option maxRecDepth 100000
namespace K23
open PySem Y
theorem all_ok (ws ss : List PyData) (k : Nat) (g : Good ws) (gs : Good ss) (hw1 : 1 ≤ ws.length) (hw : ws.length ≤ 8) (hk : k ≤ 5) (hs : ss.length ≤ 81) (hm : ss.length * ws.length ^ k ≤ 3000) :
    F_all_runs [.list ws, .int (k : Int), .list ss] = mret (true, .list (runsD ws ss k)) := by
  have hr : nx F_many_runs [.list ws, .int (k : Int), .list ss] = mret (true, .int ((ss.length * ws.length ^ k : Nat) : Int)) := nx_of (runs_ok ws ss k hw hs hk)
  have hgt : decide ((3000 : Int) < ((ss.length * ws.length ^ k : Nat) : Int)) = false := decide_eq_false (by omega)
  have hc : compD tYesF E_all_runs_1 [some (false, .list ws), some (false, .int (k : Int)), some (false, .list ss)] ((List.range (ss.length * ws.length ^ k)).map fun (i : Nat) => PyData.int (i : Int)) = some (((List.range (ss.length * ws.length ^ k)).map fun (i : Nat) => PyData.int (i : Int)).map fun d => (Kd.fr [], match d with | .int i => runD ws ss k i.toNat | _ => .none)) := compD_map _ _ fun d hd => by
    obtain ⟨N, hN, rfl⟩ := List.mem_map.mp hd
    have e := run_ok ws ss k N g gs hw1 hw hk (List.mem_range.mp hN)
    simp -implicitDefEqProofs (disch := omega) only [E_all_runs_1, runF, startD, sSeq, sIf, sRet, sRetN, sNil, sCnt, sBrk, sSet, sExp, sAsg, sMov, sFor, sApp, sExt, sClr, sPut, eOp, eUn, eV, eC, eIx, eIf, eChain, eAnd, eOr, eNotV, eArgs, eTup, eLst, eCB, eCall, eIsi, isTy, eIdx, eRep, tE, tAndF, tOrF, tNotF, tYesF, isFr, kdDisp, stor, frzK, gNm, itE, itR1, itemsOf, capD, mbind_ret, mo_some, gLt_int, gLe_int, gGt_int, gLen_list, gLen_tup, gIx_list, gIx_tup, gAdd_int, gSub_int, gMul_int, gFdiv_int, gMod_int, gPow_int, gNeg_int, gEq_int, gNe_int, gIs_non, gIsNot_non, isNon, rng1_int, nrm_int, nrm_bl, nrm_str, nrm_non, nrm_lst, nrm_dct, nol_int, nol_bl, nol_str, nol_non, nol_lst, nol_tup, List.map_cons, List.map_nil, List.cons_append, List.nil_append, List.getElem?_cons_zero, List.getElem?_cons_succ, List.length_cons, List.length_nil, List.length_map, List.length_range, List.set_cons_zero, List.set_cons_succ, List.replicate_succ, List.replicate_zero, if_true, if_false, Bool.false_eq_true, Bool.not_true, Bool.not_false, decide_true, decide_false, ite_true, ite_false, Option.map_some, Option.join_some, beq_self_eq_true, eq_self, String.reduceBEq, Bool.or_false, Bool.false_or, Bool.or_true, Bool.true_or, reduceCtorEq, reduceIte, e, nrm_f (nol_lst _), Int.toNat_natCast, runD]
    unfold nrm; split <;> rfl
  rw [List.map_map] at hc
  have k1 := kdEl_fr (List.range (ss.length * ws.length ^ k)) (runD ws ss k)
  have m1 : ((List.range (ss.length * ws.length ^ k)).map fun a => (Kd.fr [], runD ws ss k a)).map Prod.snd = runsD ws ss k := by rw [List.map_map]; rfl
  have hc' : compD tYesF E_all_runs_1 [some (false, .list ws), some (false, .int (k : Int)), some (false, .list ss)] ((List.range (ss.length * ws.length ^ k)).map fun (i : Nat) => PyData.int (i : Int)) = some ((List.range (ss.length * ws.length ^ k)).map fun a => (Kd.fr [], runD ws ss k a)) := hc
  have hl : ss.length * ws.length ^ k ≤ 100000 := by omega
  generalize hM : ss.length * ws.length ^ k = Mm at *
  simp -implicitDefEqProofs (disch := omega) only [F_all_runs, S_all_runs, eComp, runF, startD, sSeq, sIf, sRet, sRetN, sNil, sCnt, sBrk, sSet, sExp, sAsg, sMov, sFor, sApp, sExt, sClr, sPut, eOp, eUn, eV, eC, eIx, eIf, eChain, eAnd, eOr, eNotV, eArgs, eTup, eLst, eCB, eCall, eIsi, isTy, eIdx, eRep, tE, tAndF, tOrF, tNotF, tYesF, isFr, kdDisp, stor, frzK, gNm, itE, itR1, itemsOf, capD, mbind_ret, mo_some, gLt_int, gLe_int, gGt_int, gLen_list, gLen_tup, gIx_list, gIx_tup, gAdd_int, gSub_int, gMul_int, gFdiv_int, gMod_int, gPow_int, gNeg_int, gEq_int, gNe_int, gIs_non, gIsNot_non, isNon, rng1_int, nrm_int, nrm_bl, nrm_str, nrm_non, nrm_lst, nrm_dct, nol_int, nol_bl, nol_str, nol_non, nol_lst, nol_tup, List.map_cons, List.map_nil, List.cons_append, List.nil_append, List.getElem?_cons_zero, List.getElem?_cons_succ, List.length_cons, List.length_nil, List.length_map, List.length_range, List.set_cons_zero, List.set_cons_succ, List.replicate_succ, List.replicate_zero, if_true, if_false, Bool.false_eq_true, Bool.not_true, Bool.not_false, decide_true, decide_false, ite_true, ite_false, Option.map_some, Option.join_some, beq_self_eq_true, eq_self, String.reduceBEq, Bool.or_false, Bool.false_or, Bool.or_true, Bool.true_or, reduceCtorEq, reduceIte, hr, hgt, Int.toNat_natCast, hc', k1, m1, hl, nrm_f (nol_lst _)]
theorem all_ex (ws ss : List PyData) (k : Nat) (hw : ws.length ≤ 8) (hk : k ≤ 5) (hs : ss.length ≤ 81) (hm : 3000 < ss.length * ws.length ^ k) : F_all_runs [.list ws, .int (k : Int), .list ss] = some (.ex (Str.ofString "TooMany")) := by
  have hr : nx F_many_runs [.list ws, .int (k : Int), .list ss] = mret (true, .int ((ss.length * ws.length ^ k : Nat) : Int)) := nx_of (runs_ok ws ss k hw hs hk)
  generalize hM : ss.length * ws.length ^ k = Mm at hr hm
  have hgt : decide ((3000 : Int) < (Mm : Int)) = true := decide_eq_true (by omega)
  simp -implicitDefEqProofs (disch := omega) only [F_all_runs, S_all_runs, runF, startD, sSeq, sIf, sRet, sRetN, sNil, sCnt, sBrk, sSet, sExp, sAsg, sMov, sFor, sApp, sExt, sClr, sPut, eOp, eUn, eV, eC, eIx, eIf, eChain, eAnd, eOr, eNotV, eArgs, eTup, eLst, eCB, eCall, eIsi, isTy, eIdx, eRep, tE, tAndF, tOrF, tNotF, tYesF, isFr, kdDisp, stor, frzK, gNm, itE, itR1, itemsOf, capD, mbind_ret, mo_some, gLt_int, gLe_int, gGt_int, gLen_list, gLen_tup, gIx_list, gIx_tup, gAdd_int, gSub_int, gMul_int, gFdiv_int, gMod_int, gPow_int, gNeg_int, gEq_int, gNe_int, gIs_non, gIsNot_non, isNon, rng1_int, nrm_int, nrm_bl, nrm_str, nrm_non, nrm_lst, nrm_dct, nol_int, nol_bl, nol_str, nol_non, nol_lst, nol_tup, List.map_cons, List.map_nil, List.cons_append, List.nil_append, List.getElem?_cons_zero, List.getElem?_cons_succ, List.length_cons, List.length_nil, List.length_map, List.length_range, List.set_cons_zero, List.set_cons_succ, List.replicate_succ, List.replicate_zero, if_true, if_false, Bool.false_eq_true, Bool.not_true, Bool.not_false, decide_true, decide_false, ite_true, ite_false, Option.map_some, Option.join_some, beq_self_eq_true, eq_self, String.reduceBEq, Bool.or_false, Bool.false_or, Bool.or_true, Bool.true_or, reduceCtorEq, reduceIte, hr, hgt, sRaise, nrm_f (nol_lst _)]
  try rfl
theorem sCatch_ex {ik : Nat} {F : FF} {fs : List EF} {r : Option Str → Option Bool} {Γ : DEnv} {o : Bool} {xs : List (Kd × PyData)} {c : Str} {b : Bool} (h1 : Γ[ik]? = some (some (o, .none))) (h2 : eArgs fs Γ = mret xs) (h3 : F (xs.map Prod.snd) = some (.ex c)) (h4 : r (some c) = some b) : sCatch ik F fs r Γ = mret (.rt true (.bool b)) := by
  unfold mret at h2
  unfold sCatch
  rw [h1]; dsimp only
  rw [h2]; dsimp only
  rw [h3]; dsimp only
  rw [h4]
theorem refused_ok (ws ss : List PyData) (k : Nat) (hw : ws.length ≤ 8) (hk : k ≤ 5) (hs : ss.length ≤ 81) (hm : 3000 < ss.length * ws.length ^ k) : F__law_refused [.list ws, .int (k : Int), .list ss] = mret (true, .bool true) := by
  have e := all_ex ws ss k hw hk hs hm
  have h2 : eArgs [eV 0, eV 1, eV 2] [some (false, .list ws), some (false, .int (k : Int)), some (false, .list ss), some (true, .none), none] = mret [(Kd.base, .list ws), (Kd.fr [], .int (k : Int)), (Kd.base, .list ss)] := by
    simp -implicitDefEqProofs (disch := omega) only [runF, startD, sSeq, sIf, sRet, sRetN, sNil, sCnt, sBrk, sSet, sExp, sAsg, sMov, sFor, sApp, sExt, sClr, sPut, eOp, eUn, eV, eC, eIx, eIf, eChain, eAnd, eOr, eNotV, eArgs, eTup, eLst, eCB, eCall, eIsi, isTy, eIdx, eRep, tE, tAndF, tOrF, tNotF, tYesF, isFr, kdDisp, stor, frzK, gNm, itE, itR1, itemsOf, capD, mbind_ret, mo_some, gLt_int, gLe_int, gGt_int, gLen_list, gLen_tup, gIx_list, gIx_tup, gAdd_int, gSub_int, gMul_int, gFdiv_int, gMod_int, gPow_int, gNeg_int, gEq_int, gNe_int, gIs_non, gIsNot_non, isNon, rng1_int, nrm_int, nrm_bl, nrm_str, nrm_non, nrm_lst, nrm_dct, nol_int, nol_bl, nol_str, nol_non, nol_lst, nol_tup, List.map_cons, List.map_nil, List.cons_append, List.nil_append, List.getElem?_cons_zero, List.getElem?_cons_succ, List.length_cons, List.length_nil, List.length_map, List.length_range, List.set_cons_zero, List.set_cons_succ, List.replicate_succ, List.replicate_zero, if_true, if_false, Bool.false_eq_true, Bool.not_true, Bool.not_false, decide_true, decide_false, ite_true, ite_false, Option.map_some, Option.join_some, beq_self_eq_true, eq_self, String.reduceBEq, Bool.or_false, Bool.false_or, Bool.or_true, Bool.true_or, reduceCtorEq, reduceIte, nrm_f (nol_lst _)]
  have h4 : r__law_refused (some (Str.ofString "TooMany")) = some true := by simp only [r__law_refused, if_true, eq_self]
  have h5 := sCatch_ex (ik := 3) (F := F_all_runs) (r := r__law_refused) (o := true) (c := Str.ofString "TooMany") rfl h2 e h4
  simp -implicitDefEqProofs (disch := omega) only [F__law_refused, S__law_refused, runF, startD, sSeq, sIf, sRet, sRetN, sNil, sCnt, sBrk, sSet, sExp, sAsg, sMov, sFor, sApp, sExt, sClr, sPut, eOp, eUn, eV, eC, eIx, eIf, eChain, eAnd, eOr, eNotV, eArgs, eTup, eLst, eCB, eCall, eIsi, isTy, eIdx, eRep, tE, tAndF, tOrF, tNotF, tYesF, isFr, kdDisp, stor, frzK, gNm, itE, itR1, itemsOf, capD, mbind_ret, mo_some, gLt_int, gLe_int, gGt_int, gLen_list, gLen_tup, gIx_list, gIx_tup, gAdd_int, gSub_int, gMul_int, gFdiv_int, gMod_int, gPow_int, gNeg_int, gEq_int, gNe_int, gIs_non, gIsNot_non, isNon, rng1_int, nrm_int, nrm_bl, nrm_str, nrm_non, nrm_lst, nrm_dct, nol_int, nol_bl, nol_str, nol_non, nol_lst, nol_tup, List.map_cons, List.map_nil, List.cons_append, List.nil_append, List.getElem?_cons_zero, List.getElem?_cons_succ, List.length_cons, List.length_nil, List.length_map, List.length_range, List.set_cons_zero, List.set_cons_succ, List.replicate_succ, List.replicate_zero, if_true, if_false, Bool.false_eq_true, Bool.not_true, Bool.not_false, decide_true, decide_false, ite_true, ite_false, Option.map_some, Option.join_some, beq_self_eq_true, eq_self, String.reduceBEq, Bool.or_false, Bool.false_or, Bool.or_true, Bool.true_or, reduceCtorEq, reduceIte, h5]
end K23
set_option Elab.async false
set_option linter.all false
set_option maxRecDepth 100000
namespace K23
open PySem Y
/-! ### the comparison -/
theorem zip_get (rs : List PyData) (i : Nat) (d : PyData) (h : (zipD rs rs)[i]? = some d) : ∃ x, x ∈ rs ∧ d = .tuple [x, x] := by
  unfold zipD at h
  rw [List.getElem?_zipWith] at h
  cases e : rs[i]? with
  | none => rw [e] at h; cases h
  | some x => rw [e] at h; exact ⟨x, List.mem_of_getElem? e, (Option.some.inj h).symm⟩
theorem gNe_same {x : PyData} (h : lay 60 x = true) : gNe x x = some (.bool false) := by
  unfold gNe
  rw [h, Bool.and_self, if_pos rfl, eqv_lay 60 x h]; rfl
theorem right_ok (rs : List PyData) (h : ∀ x ∈ rs, ∃ s r, x = .tuple [.tuple s, .tuple r] ∧ lay 60 x = true ∧ nols s = true ∧ nols r = true) : F__law_right [.list rs, .list rs] = mret (true, .bool true) := by
  obtain ⟨Γ', h1, c2, c3, h2⟩ := forD_inv (g := gTp [2, 3]) (b := B__law_right_1) (ds := zipD rs rs) (Γ := [some (false, .list rs), some (false, .list rs), none, none])
    (fun i Γ => ∃ c2 c3 : Option (Bool × PyData), Γ = [some (false, .list rs), some (false, .list rs), c2, c3]) ⟨none, none, rfl⟩ (by
    rintro i d Γ hd ⟨c2, c3, rfl⟩
    obtain ⟨x, hx, rfl⟩ := zip_get rs i d hd
    obtain ⟨s, r, rfl, hl, hs, hr⟩ := h x hx
    have nx : nols [PyData.tuple s, .tuple r] = true := by simp only [nols, nol_tup, hs, hr, Bool.and_self]
    have nt : nol (PyData.tuple [.tuple s, .tuple r]) = true := by rw [nol_tup]; exact nx
    have np : nol (PyData.tuple [.tuple [.tuple s, .tuple r], .tuple [.tuple s, .tuple r]]) = true := by rw [nol_tup]; simp only [nols, nt, Bool.and_self]
    have ne := gNe_same hl
    have a0 : atD [PyData.tuple s, .tuple r] 0 = some (.tuple s) := rfl
    have a1 : atD [PyData.tuple s, .tuple r] 1 = some (.tuple r) := rfl
    refine ⟨[some (false, .list rs), some (false, .list rs), some (true, .tuple [.tuple s, .tuple r]), some (true, .tuple [.tuple s, .tuple r])], [some (false, .list rs), some (false, .list rs), some (true, .tuple [.tuple s, .tuple r]), some (true, .tuple [.tuple s, .tuple r])], ?_, .inl ?_, _, _, rfl⟩
    · rw [nrm_t np]
      show some (stors _ [2, 3] (.fr []) [PyData.tuple [.tuple s, .tuple r], .tuple [.tuple s, .tuple r]]) = _
      unfold stors stors
      rw [nrm_t nt]; rfl
    · simp -implicitDefEqProofs (disch := omega) only [B__law_right_1, runF, startD, sSeq, sIf, sRet, sRetN, sNil, sCnt, sBrk, sSet, sExp, sAsg, sMov, sFor, sApp, sExt, sClr, sPut, eOp, eUn, eV, eC, eIx, eIf, eChain, eAnd, eOr, eNotV, eArgs, eTup, eLst, eCB, eCall, eIsi, isTy, eIdx, eRep, tE, tAndF, tOrF, tNotF, tYesF, isFr, kdDisp, stor, frzK, gNm, itE, itR1, itemsOf, capD, mbind_ret, mo_some, gLt_int, gLe_int, gGt_int, gLen_list, gLen_tup, gIx_list, gIx_tup, gAdd_int, gSub_int, gMul_int, gFdiv_int, gMod_int, gPow_int, gNeg_int, gEq_int, gNe_int, gIs_non, gIsNot_non, isNon, rng1_int, nrm_int, nrm_bl, nrm_str, nrm_non, nrm_lst, nrm_dct, nol_int, nol_bl, nol_str, nol_non, nol_lst, nol_tup, List.map_cons, List.map_nil, List.cons_append, List.nil_append, List.getElem?_cons_zero, List.getElem?_cons_succ, List.length_cons, List.length_nil, List.length_map, List.length_range, List.set_cons_zero, List.set_cons_succ, List.replicate_succ, List.replicate_zero, if_true, if_false, Bool.false_eq_true, Bool.not_true, Bool.not_false, decide_true, decide_false, ite_true, ite_false, Option.map_some, Option.join_some, beq_self_eq_true, eq_self, String.reduceBEq, Bool.or_false, Bool.false_or, Bool.or_true, Bool.true_or, reduceCtorEq, reduceIte, ne, a0, a1, nrm_t nt, nrm_tup hs, nrm_tup hr, nrm_tup nx])
  have z : zipI .base (.list rs) .base (.list rs) = mret (.base, zipD rs rs) := rfl
  simp -implicitDefEqProofs (disch := omega) only [F__law_right, S__law_right, itZip, runF, startD, sSeq, sIf, sRet, sRetN, sNil, sCnt, sBrk, sSet, sExp, sAsg, sMov, sFor, sApp, sExt, sClr, sPut, eOp, eUn, eV, eC, eIx, eIf, eChain, eAnd, eOr, eNotV, eArgs, eTup, eLst, eCB, eCall, eIsi, isTy, eIdx, eRep, tE, tAndF, tOrF, tNotF, tYesF, isFr, kdDisp, stor, frzK, gNm, itE, itR1, itemsOf, capD, mbind_ret, mo_some, gLt_int, gLe_int, gGt_int, gLen_list, gLen_tup, gIx_list, gIx_tup, gAdd_int, gSub_int, gMul_int, gFdiv_int, gMod_int, gPow_int, gNeg_int, gEq_int, gNe_int, gIs_non, gIsNot_non, isNon, rng1_int, nrm_int, nrm_bl, nrm_str, nrm_non, nrm_lst, nrm_dct, nol_int, nol_bl, nol_str, nol_non, nol_lst, nol_tup, List.map_cons, List.map_nil, List.cons_append, List.nil_append, List.getElem?_cons_zero, List.getElem?_cons_succ, List.length_cons, List.length_nil, List.length_map, List.length_range, List.set_cons_zero, List.set_cons_succ, List.replicate_succ, List.replicate_zero, if_true, if_false, Bool.false_eq_true, Bool.not_true, Bool.not_false, decide_true, decide_false, ite_true, ite_false, Option.map_some, Option.join_some, beq_self_eq_true, eq_self, String.reduceBEq, Bool.or_false, Bool.false_or, Bool.or_true, Bool.true_or, reduceCtorEq, reduceIte, z, h1, h2, nrm_f (nol_lst _), frzK]
theorem runD_form (ws ss : List PyData) (k N : Nat) (g : Good ws) (gs : Good ss) (hl : ∀ x ∈ ss, ∃ s0, x = PyData.tuple s0) (hw1 : 1 ≤ ws.length) (hN : N < ss.length * ws.length ^ k) : ∃ s r, runD ws ss k N = .tuple [.tuple s, .tuple r] ∧ lay 60 (runD ws ss k N) = true ∧ nols s = true ∧ nols r = true := by
  have hq : N / ws.length ^ k < ss.length := Nat.div_lt_of_lt_mul (by rw [Nat.mul_comm]; exact hN)
  have hm := getD_mem hq
  obtain ⟨s0, es⟩ := hl _ hm
  have n1 := gs.nol hm
  have l1 := gs.lay hm 56
  refine ⟨s0, rowD ws (N % ws.length ^ k) k, by unfold runD; rw [es], ?_, by rw [es, nol_tup] at n1; exact n1, nols_iff.mpr fun x hx => g.nol (rowD_mem hw1 hx)⟩
  unfold runD
  rw [lay, lays, lays, lays, l1, lay]
  simp only [Bool.true_and, Bool.and_true]
  exact lays_iff.mpr fun x hx => g.lay (rowD_mem hw1 hx) 55
theorem right_runs (ws ss : List PyData) (k : Nat) (g : Good ws) (gs : Good ss) (hl : ∀ x ∈ ss, ∃ s0, x = PyData.tuple s0) (hw1 : 1 ≤ ws.length) : F__law_right [.list (runsD ws ss k), .list (runsD ws ss k)] = mret (true, .bool true) := right_ok _ fun x hx => by
  obtain ⟨N, hN, rfl⟩ := List.mem_map.mp hx
  exact runD_form ws ss k N g gs hl hw1 (List.mem_range.mp hN)
/-! ### starts -/
def startT (z : Int) (h j : Nat) : PyData := .tuple ([.int (z % 10 ^ 60), .int (j : Int)] ++ List.replicate (h - 2) (.int 7))
theorem startT_new (z : Int) (h j : Nat) : inAny ((List.range j).map fun i => startT z h i) (startT z h j) = false := by
  unfold inAny
  rw [List.any_eq_false]
  intro x hx
  obtain ⟨i, hi, rfl⟩ := List.mem_map.mp hx
  have hij := List.mem_range.mp hi
  unfold startT
  simp only [PyData.eqv, List.cons_append, List.nil_append, PyData.eqvAll]
  have : ((i : Int) == (j : Int)) = false := by simp; omega
  rw [this]; simp
theorem starts_good (z : Int) (h : Nat) (h2 : 2 ≤ h) (h4 : h ≤ 4) : ∀ c : Nat, Good ((List.range c).map fun i => startT z h i)
  | 0 => good_nil
  | c + 1 => by
    rw [List.range_succ, List.map_append]
    have hc : h = 2 ∨ h = 3 ∨ h = 4 := by omega
    exact (starts_good z h h2 h4 c).snoc (by rcases hc with rfl | rfl | rfl <;> rfl) (fun n => by rcases hc with rfl | rfl | rfl <;> rfl) (startT_new z h c)
theorem starts_ok (z : Int) (h c : Nat) (h2 : 2 ≤ h) (h4 : h ≤ 4) (hc : c ≤ 100) : F__law_starts [.int z, .int (h : Int), .int (c : Int)] = mret (true, .list ((List.range c).map fun i => startT z h i)) := by
  obtain ⟨Γ', h1, c4, h3⟩ := forD_inv (g := gNm 4) (b := B__law_starts_1) (ds := (List.range c).map fun (i : Nat) => PyData.int (i : Int)) (Γ := [some (false, .int z), some (false, .int (h : Int)), some (false, .int (c : Int)), some (true, .list []), none])
    (fun i Γ => ∃ c4 : Option (Bool × PyData), Γ = [some (false, .int z), some (false, .int (h : Int)), some (false, .int (c : Int)), some (true, .list ((List.range i).map fun i => startT z h i)), c4]) ⟨none, rfl⟩ (by
    rintro i d Γ hd ⟨c4, rfl⟩
    obtain ⟨rfl, hi⟩ := range_get hd
    refine ⟨_, [some (false, .int z), some (false, .int (h : Int)), some (false, .int (c : Int)), some (true, .list ((List.range (i + 1)).map fun i => startT z h i)), some (true, .int (i : Int))], rfl, .inl ?_, _, rfl⟩
    have hm : gMulT (.tuple [.int 7]) (.int ((h : Int) - 2)) = some (.tuple (List.replicate (h - 2) (.int 7))) := by
      have hh : h = 2 ∨ h = 3 ∨ h = 4 := by omega
      rcases hh with rfl | rfl | rfl <;> rfl
    have n1 : nols [PyData.int (z % 10 ^ 60), .int (i : Int)] = true := rfl
    have n2 : nols (List.replicate (h - 2) (PyData.int 7)) = true := nols_iff.mpr fun x hx => by rw [(List.mem_replicate.mp hx).2]; rfl
    have hz : [PyData.int (z % 10 ^ 60), .int (i : Int)].length + (List.replicate (h - 2) (PyData.int 7)).length ≤ sizeLine := Nat.le_trans (show _ ≤ 4 by simp; omega) (by decide)
    have ha := gAdd_tup n1 n2 hz
    have hsz : i < sizeLine := Nat.lt_of_lt_of_le (show i < 101 by omega) (by decide)
    have n7 : nols [PyData.int 7] = true := rfl
    have e60 : (10 : Int) ^ (60 : Int).toNat = 10 ^ 60 := rfl
    have hl : ((List.range i).map fun i => startT z h i).length = i := by simp
    rw [List.range_succ, List.map_append]
    simp -implicitDefEqProofs (disch := omega) only [B__law_starts_1, runF, startD, sSeq, sIf, sRet, sRetN, sNil, sCnt, sBrk, sSet, sExp, sAsg, sMov, sFor, sApp, sExt, sClr, sPut, eOp, eUn, eV, eC, eIx, eIf, eChain, eAnd, eOr, eNotV, eArgs, eTup, eLst, eCB, eCall, eIsi, isTy, eIdx, eRep, tE, tAndF, tOrF, tNotF, tYesF, isFr, kdDisp, stor, frzK, gNm, itE, itR1, itemsOf, capD, mbind_ret, mo_some, gLt_int, gLe_int, gGt_int, gLen_list, gLen_tup, gIx_list, gIx_tup, gAdd_int, gSub_int, gMul_int, gFdiv_int, gMod_int, gPow_int, gNeg_int, gEq_int, gNe_int, gIs_non, gIsNot_non, isNon, rng1_int, nrm_int, nrm_bl, nrm_str, nrm_non, nrm_lst, nrm_dct, nol_int, nol_bl, nol_str, nol_non, nol_lst, nol_tup, List.map_cons, List.map_nil, List.cons_append, List.nil_append, List.getElem?_cons_zero, List.getElem?_cons_succ, List.length_cons, List.length_nil, List.length_map, List.length_range, List.set_cons_zero, List.set_cons_succ, List.replicate_succ, List.replicate_zero, if_true, if_false, Bool.false_eq_true, Bool.not_true, Bool.not_false, decide_true, decide_false, ite_true, ite_false, Option.map_some, Option.join_some, beq_self_eq_true, eq_self, String.reduceBEq, Bool.or_false, Bool.false_or, Bool.or_true, Bool.true_or, reduceCtorEq, reduceIte, e60, nrm_tup n1, nrm_tup n7, hm, ha, hl, hsz, startT]
    try rfl)
  rw [List.length_map, List.length_range] at h3
  simp -implicitDefEqProofs (disch := omega) only [F__law_starts, S__law_starts, runF, startD, sSeq, sIf, sRet, sRetN, sNil, sCnt, sBrk, sSet, sExp, sAsg, sMov, sFor, sApp, sExt, sClr, sPut, eOp, eUn, eV, eC, eIx, eIf, eChain, eAnd, eOr, eNotV, eArgs, eTup, eLst, eCB, eCall, eIsi, isTy, eIdx, eRep, tE, tAndF, tOrF, tNotF, tYesF, isFr, kdDisp, stor, frzK, gNm, itE, itR1, itemsOf, capD, mbind_ret, mo_some, gLt_int, gLe_int, gGt_int, gLen_list, gLen_tup, gIx_list, gIx_tup, gAdd_int, gSub_int, gMul_int, gFdiv_int, gMod_int, gPow_int, gNeg_int, gEq_int, gNe_int, gIs_non, gIsNot_non, isNon, rng1_int, nrm_int, nrm_bl, nrm_str, nrm_non, nrm_lst, nrm_dct, nol_int, nol_bl, nol_str, nol_non, nol_lst, nol_tup, List.map_cons, List.map_nil, List.cons_append, List.nil_append, List.getElem?_cons_zero, List.getElem?_cons_succ, List.length_cons, List.length_nil, List.length_map, List.length_range, List.set_cons_zero, List.set_cons_succ, List.replicate_succ, List.replicate_zero, if_true, if_false, Bool.false_eq_true, Bool.not_true, Bool.not_false, decide_true, decide_false, ite_true, ite_false, Option.map_some, Option.join_some, beq_self_eq_true, eq_self, String.reduceBEq, Bool.or_false, Bool.false_or, Bool.or_true, Bool.true_or, reduceCtorEq, reduceIte, Int.toNat_natCast, h1, h3]
end K23
set_option Elab.async false
set_option linter.all false
set_option maxRecDepth 100000
namespace K23
open PySem Y
/-! ### few runs -/
theorem small_loop (h : PyData) (ws : List PyData) (q : PyData) (hw1 : 1 ≤ ws.length) (hw8 : ws.length ≤ 8) (r : Nat) (hr : r ≤ 5) : ∀ (m t n : Nat), t + m = r → m < n → ws.length ^ t ≤ 150 →
    ∃ t', t' ≤ r ∧ ws.length ^ t' ≤ 150 ∧ whileD n C__law_small_2 B__law_small_1 [some (false, h), some (false, .list ws), some (false, .int (r : Int)), some (false, q), some (true, .int ((ws.length ^ t : Nat) : Int)), some (true, .int (t : Int))] =
      mret (.nx [some (false, h), some (false, .list ws), some (false, .int (r : Int)), some (false, q), some (true, .int ((ws.length ^ t' : Nat) : Int)), some (true, .int (t' : Int))])
  | m, t, 0, _, hn, _ => absurd hn (Nat.not_lt_zero _)
  | m, t, n + 1, e, hn, hp => by
    have e1 : ((ws.length ^ t : Nat) : Int) * (ws.length : Int) = ((ws.length ^ (t + 1) : Nat) : Int) := by rw [Nat.pow_succ, Int.natCast_mul]
    by_cases h1 : t < r
    · by_cases h2 : ws.length ^ (t + 1) ≤ 150
      · obtain ⟨t', a1, a2, a3⟩ := small_loop h ws q hw1 hw8 r hr (m - 1) (t + 1) n (by omega) (by omega) h2
        refine ⟨t', a1, a2, ?_⟩
        have c1 : decide ((t : Int) < (r : Int)) = true := decide_eq_true (by omega)
        have c2 : decide (((ws.length ^ (t + 1) : Nat) : Int) ≤ 150) = true := decide_eq_true (by omega)
        have e2 : (t : Int) + 1 = ((t + 1 : Nat) : Int) := by omega
        generalize ws.length ^ (t + 1) = L1 at *
        generalize ws.length ^ t = L0 at *
        rw [e2.symm] at a3
        have cT : C__law_small_2 [some (false, h), some (false, .list ws), some (false, .int (r : Int)), some (false, q), some (true, .int (L0 : Int)), some (true, .int (t : Int))] = mret true := by
          simp -implicitDefEqProofs (disch := omega) only [C__law_small_2, runF, startD, sSeq, sIf, sRet, sRetN, sNil, sCnt, sBrk, sSet, sExp, sAsg, sMov, sFor, sApp, sExt, sClr, sPut, eOp, eUn, eV, eC, eIx, eIf, eChain, eAnd, eOr, eNotV, eArgs, eTup, eLst, eCB, eCall, eIsi, isTy, eIdx, eRep, tE, tAndF, tOrF, tNotF, tYesF, isFr, kdDisp, stor, frzK, gNm, itE, itR1, itemsOf, capD, mbind_ret, mo_some, gLt_int, gLe_int, gGt_int, gLen_list, gLen_tup, gIx_list, gIx_tup, gAdd_int, gSub_int, gMul_int, gFdiv_int, gMod_int, gPow_int, gNeg_int, gEq_int, gNe_int, gIs_non, gIsNot_non, isNon, rng1_int, nrm_int, nrm_bl, nrm_str, nrm_non, nrm_lst, nrm_dct, nol_int, nol_bl, nol_str, nol_non, nol_lst, nol_tup, List.map_cons, List.map_nil, List.cons_append, List.nil_append, List.getElem?_cons_zero, List.getElem?_cons_succ, List.length_cons, List.length_nil, List.length_map, List.length_range, List.set_cons_zero, List.set_cons_succ, List.replicate_succ, List.replicate_zero, if_true, if_false, Bool.false_eq_true, Bool.not_true, Bool.not_false, decide_true, decide_false, ite_true, ite_false, Option.map_some, Option.join_some, beq_self_eq_true, eq_self, String.reduceBEq, Bool.or_false, Bool.false_or, Bool.or_true, Bool.true_or, reduceCtorEq, reduceIte, e1, c1, c2, nrm_f (nol_lst _)]
        have bT : B__law_small_1 [some (false, h), some (false, .list ws), some (false, .int (r : Int)), some (false, q), some (true, .int (L0 : Int)), some (true, .int (t : Int))] = mret (.nx [some (false, h), some (false, .list ws), some (false, .int (r : Int)), some (false, q), some (true, .int (L1 : Int)), some (true, .int ((t : Int) + 1))]) := by
          simp -implicitDefEqProofs (disch := omega) only [B__law_small_1, runF, startD, sSeq, sIf, sRet, sRetN, sNil, sCnt, sBrk, sSet, sExp, sAsg, sMov, sFor, sApp, sExt, sClr, sPut, eOp, eUn, eV, eC, eIx, eIf, eChain, eAnd, eOr, eNotV, eArgs, eTup, eLst, eCB, eCall, eIsi, isTy, eIdx, eRep, tE, tAndF, tOrF, tNotF, tYesF, isFr, kdDisp, stor, frzK, gNm, itE, itR1, itemsOf, capD, mbind_ret, mo_some, gLt_int, gLe_int, gGt_int, gLen_list, gLen_tup, gIx_list, gIx_tup, gAdd_int, gSub_int, gMul_int, gFdiv_int, gMod_int, gPow_int, gNeg_int, gEq_int, gNe_int, gIs_non, gIsNot_non, isNon, rng1_int, nrm_int, nrm_bl, nrm_str, nrm_non, nrm_lst, nrm_dct, nol_int, nol_bl, nol_str, nol_non, nol_lst, nol_tup, List.map_cons, List.map_nil, List.cons_append, List.nil_append, List.getElem?_cons_zero, List.getElem?_cons_succ, List.length_cons, List.length_nil, List.length_map, List.length_range, List.set_cons_zero, List.set_cons_succ, List.replicate_succ, List.replicate_zero, if_true, if_false, Bool.false_eq_true, Bool.not_true, Bool.not_false, decide_true, decide_false, ite_true, ite_false, Option.map_some, Option.join_some, beq_self_eq_true, eq_self, String.reduceBEq, Bool.or_false, Bool.false_or, Bool.or_true, Bool.true_or, reduceCtorEq, reduceIte, e1, nrm_f (nol_lst _)]
        rw [whileD, cT, mbind_ret, if_pos rfl, bT, mbind_ret]
        exact a3
      · refine ⟨t, by omega, hp, ?_⟩
        have c1 : decide ((t : Int) < (r : Int)) = true := decide_eq_true (by omega)
        have c2 : decide (((ws.length ^ (t + 1) : Nat) : Int) ≤ 150) = false := decide_eq_false (by omega)
        generalize ws.length ^ (t + 1) = L1 at *
        generalize ws.length ^ t = L0 at *
        simp -implicitDefEqProofs (disch := omega) only [whileD, C__law_small_2, runF, startD, sSeq, sIf, sRet, sRetN, sNil, sCnt, sBrk, sSet, sExp, sAsg, sMov, sFor, sApp, sExt, sClr, sPut, eOp, eUn, eV, eC, eIx, eIf, eChain, eAnd, eOr, eNotV, eArgs, eTup, eLst, eCB, eCall, eIsi, isTy, eIdx, eRep, tE, tAndF, tOrF, tNotF, tYesF, isFr, kdDisp, stor, frzK, gNm, itE, itR1, itemsOf, capD, mbind_ret, mo_some, gLt_int, gLe_int, gGt_int, gLen_list, gLen_tup, gIx_list, gIx_tup, gAdd_int, gSub_int, gMul_int, gFdiv_int, gMod_int, gPow_int, gNeg_int, gEq_int, gNe_int, gIs_non, gIsNot_non, isNon, rng1_int, nrm_int, nrm_bl, nrm_str, nrm_non, nrm_lst, nrm_dct, nol_int, nol_bl, nol_str, nol_non, nol_lst, nol_tup, List.map_cons, List.map_nil, List.cons_append, List.nil_append, List.getElem?_cons_zero, List.getElem?_cons_succ, List.length_cons, List.length_nil, List.length_map, List.length_range, List.set_cons_zero, List.set_cons_succ, List.replicate_succ, List.replicate_zero, if_true, if_false, Bool.false_eq_true, Bool.not_true, Bool.not_false, decide_true, decide_false, ite_true, ite_false, Option.map_some, Option.join_some, beq_self_eq_true, eq_self, String.reduceBEq, Bool.or_false, Bool.false_or, Bool.or_true, Bool.true_or, reduceCtorEq, reduceIte, e1, c1, c2, nrm_f (nol_lst _)]
    · refine ⟨t, by omega, hp, ?_⟩
      have c1 : decide ((t : Int) < (r : Int)) = false := decide_eq_false (by omega)
      generalize ws.length ^ t = L0 at *
      simp -implicitDefEqProofs (disch := omega) only [whileD, C__law_small_2, runF, startD, sSeq, sIf, sRet, sRetN, sNil, sCnt, sBrk, sSet, sExp, sAsg, sMov, sFor, sApp, sExt, sClr, sPut, eOp, eUn, eV, eC, eIx, eIf, eChain, eAnd, eOr, eNotV, eArgs, eTup, eLst, eCB, eCall, eIsi, isTy, eIdx, eRep, tE, tAndF, tOrF, tNotF, tYesF, isFr, kdDisp, stor, frzK, gNm, itE, itR1, itemsOf, capD, mbind_ret, mo_some, gLt_int, gLe_int, gGt_int, gLen_list, gLen_tup, gIx_list, gIx_tup, gAdd_int, gSub_int, gMul_int, gFdiv_int, gMod_int, gPow_int, gNeg_int, gEq_int, gNe_int, gIs_non, gIsNot_non, isNon, rng1_int, nrm_int, nrm_bl, nrm_str, nrm_non, nrm_lst, nrm_dct, nol_int, nol_bl, nol_str, nol_non, nol_lst, nol_tup, List.map_cons, List.map_nil, List.cons_append, List.nil_append, List.getElem?_cons_zero, List.getElem?_cons_succ, List.length_cons, List.length_nil, List.length_map, List.length_range, List.set_cons_zero, List.set_cons_succ, List.replicate_succ, List.replicate_zero, if_true, if_false, Bool.false_eq_true, Bool.not_true, Bool.not_false, decide_true, decide_false, ite_true, ite_false, Option.map_some, Option.join_some, beq_self_eq_true, eq_self, String.reduceBEq, Bool.or_false, Bool.false_or, Bool.or_true, Bool.true_or, reduceCtorEq, reduceIte, c1, nrm_f (nol_lst _)]
theorem small_ok (h : PyData) (hh : nol h = true) (ws : List PyData) (q r : Nat) (hw1 : 1 ≤ ws.length) (hw8 : ws.length ≤ 8) (hr : r ≤ 5) : ∃ t c : Nat, t ≤ 5 ∧ 1 ≤ c ∧ c ≤ 81 ∧ c * ws.length ^ t ≤ 150 ∧
    F__law_small [h, .list ws, .int (r : Int), .int (q : Int)] = mret (false, .tuple [h, .list ws, .int (t : Int), .int (c : Int)]) := by
  obtain ⟨t, h1, h2, h3⟩ := small_loop h ws (.int (q : Int)) hw1 hw8 r hr r 0 bigN (by omega) (by unfold bigN; omega) (by simp)
  have hp : 0 < ws.length ^ t := Nat.pow_pos hw1
  have hd : 1 ≤ 150 / ws.length ^ t := (Nat.le_div_iff_mul_le hp).mpr (by omega)
  have hm : min 81 (150 / ws.length ^ t) ≤ 150 / ws.length ^ t := Nat.min_le_right _ _
  have hlt : q % min 81 (150 / ws.length ^ t) < min 81 (150 / ws.length ^ t) := Nat.mod_lt _ (by omega)
  refine ⟨t, 1 + q % min 81 (150 / ws.length ^ t), by omega, by omega, by omega, ?_, ?_⟩
  · exact Nat.le_trans (Nat.mul_le_mul_right _ (show _ ≤ 150 / ws.length ^ t by omega)) (Nat.div_mul_le_self _ _)
  · have e1 : (150 : Int) / ((ws.length ^ t : Nat) : Int) = ((150 / ws.length ^ t : Nat) : Int) := (Int.natCast_ediv 150 _).symm
    have e2 : gMin [.int 81, .int ((150 / ws.length ^ t : Nat) : Int)] = some (.int ((min 81 (150 / ws.length ^ t) : Nat) : Int)) := by
      generalize 150 / ws.length ^ t = dd at *
      show some (PyData.int (if (dd : Int) < 81 then (dd : Int) else 81)) = _
      rcases Nat.lt_or_ge dd 81 with h | h
      · rw [if_pos (by omega), Nat.min_eq_right (by omega)]
      · rw [if_neg (by omega), Nat.min_eq_left (by omega)]; rfl
    have e3 : (q : Int) % ((min 81 (150 / ws.length ^ t) : Nat) : Int) = ((q % min 81 (150 / ws.length ^ t) : Nat) : Int) := (Int.natCast_emod _ _).symm
    have e4 : (1 : Int) + ((q % min 81 (150 / ws.length ^ t) : Nat) : Int) = ((1 + q % min 81 (150 / ws.length ^ t) : Nat) : Int) := by omega
    have hmp : 0 < min 81 (150 / ws.length ^ t) := by omega
    have h0 : ((ws.length ^ 0 : Nat) : Int) = 1 := by simp
    have h00 : ((0 : Nat) : Int) = 0 := rfl
    rw [h0, h00] at h3
    generalize q % min 81 (150 / ws.length ^ t) = z at *
    generalize min 81 (150 / ws.length ^ t) = mm at *
    generalize 150 / ws.length ^ t = dd at *
    generalize ws.length ^ t = L0 at *
    have nt : nols [h, .list ws, .int (t : Int), .int ((1 + z : Nat) : Int)] = false := by simp only [nols, hh, nol, Bool.true_and, Bool.false_and]
    have nr : nrm (Kd.any) (PyData.tuple [h, .list ws, .int (t : Int), .int ((1 + z : Nat) : Int)]) = .any := nrm_f (by rw [nol_tup]; exact nt)
    simp -implicitDefEqProofs (disch := omega) only [F__law_small, S__law_small, sWhile, runF, startD, sSeq, sIf, sRet, sRetN, sNil, sCnt, sBrk, sSet, sExp, sAsg, sMov, sFor, sApp, sExt, sClr, sPut, eOp, eUn, eV, eC, eIx, eIf, eChain, eAnd, eOr, eNotV, eArgs, eTup, eLst, eCB, eCall, eIsi, isTy, eIdx, eRep, tE, tAndF, tOrF, tNotF, tYesF, isFr, kdDisp, stor, frzK, gNm, itE, itR1, itemsOf, capD, mbind_ret, mo_some, gLt_int, gLe_int, gGt_int, gLen_list, gLen_tup, gIx_list, gIx_tup, gAdd_int, gSub_int, gMul_int, gFdiv_int, gMod_int, gPow_int, gNeg_int, gEq_int, gNe_int, gIs_non, gIsNot_non, isNon, rng1_int, nrm_int, nrm_bl, nrm_str, nrm_non, nrm_lst, nrm_dct, nol_int, nol_bl, nol_str, nol_non, nol_lst, nol_tup, List.map_cons, List.map_nil, List.cons_append, List.nil_append, List.getElem?_cons_zero, List.getElem?_cons_succ, List.length_cons, List.length_nil, List.length_map, List.length_range, List.set_cons_zero, List.set_cons_succ, List.replicate_succ, List.replicate_zero, if_true, if_false, Bool.false_eq_true, Bool.not_true, Bool.not_false, decide_true, decide_false, ite_true, ite_false, Option.map_some, Option.join_some, beq_self_eq_true, eq_self, String.reduceBEq, Bool.or_false, Bool.false_or, Bool.or_true, Bool.true_or, reduceCtorEq, reduceIte, h3, e1, e2, e3, e4, nrm_t hh, nrm_f (nol_lst _), nr, Int.natCast_zero]
/-! ### the edges -/
def two : List PyData := [.tuple [], .tuple [.tuple [.int 0, .int 1]], .tuple [.tuple [.int 1, .int 0]], .tuple [.tuple [.int 0, .int 1], .tuple [.int 1, .int 0]]]
def three : List PyData := [.tuple [], .tuple [.tuple [.int 0, .int 1]], .tuple [.tuple [.int 0, .int 2]], .tuple [.tuple [.int 1, .int 2]], .tuple [.tuple [.int 2, .int 0]]]
theorem good_two3 : Good (two.take 3) := ((good_nil.snoc (x := .tuple []) rfl (fun _ => rfl) rfl).snoc (x := .tuple [.tuple [.int 0, .int 1]]) rfl (fun _ => rfl) (by rfl)).snoc (x := .tuple [.tuple [.int 1, .int 0]]) rfl (fun _ => rfl) (by rfl)
theorem good_two : Good two := good_two3.snoc (x := .tuple [.tuple [.int 0, .int 1], .tuple [.int 1, .int 0]]) rfl (fun _ => rfl) (by rfl)
theorem good_three : Good three := ((((good_nil.snoc (x := .tuple []) rfl (fun _ => rfl) rfl).snoc (x := .tuple [.tuple [.int 0, .int 1]]) rfl (fun _ => rfl) (by rfl)).snoc (x := .tuple [.tuple [.int 0, .int 2]]) rfl (fun _ => rfl) (by rfl)).snoc (x := .tuple [.tuple [.int 1, .int 2]]) rfl (fun _ => rfl) (by rfl)).snoc (x := .tuple [.tuple [.int 2, .int 0]]) rfl (fun _ => rfl) (by rfl)
def edges : List PyData := [.tuple [.int 2, .list (two.take 3), .int 5, .int 12], .tuple [.int 2, .list two, .int 3, .int 46], .tuple [.int 3, .list three, .int 3, .int 24], .tuple [.int 2, .list two, .int 3, .int 47], .tuple [.int 2, .list two, .int 5, .int 3], .tuple [.int 3, .list three, .int 5, .int 1]]
theorem edge_at (q : Nat) {z : PyData} (h : edges[q % 6]? = some z) (hn : nol z = false) : F__law_edge [.int (q : Int)] = mret (false, z) := by
  have e : (q : Int) % 6 = ((q % 6 : Nat) : Int) := by omega
  have key : F__law_edge [.int (q : Int)] = mbind (sRet (eIx gIx (eV 3) (eOp gMod (eV 0) (eC (.int 6)))) [some (false, .int (q : Int)), some (false, .list two), some (false, .list three), some (false, .list edges)]) (fun o => match o with
    | .rt o d => mret (o, d)
    | .nx _ => mret (true, .none)
    | _ => none) := by rfl
  rw [key]
  have ha := atD_nat h
  simp -implicitDefEqProofs (disch := omega) only [runF, startD, sSeq, sIf, sRet, sRetN, sNil, sCnt, sBrk, sSet, sExp, sAsg, sMov, sFor, sApp, sExt, sClr, sPut, eOp, eUn, eV, eC, eIx, eIf, eChain, eAnd, eOr, eNotV, eArgs, eTup, eLst, eCB, eCall, eIsi, isTy, eIdx, eRep, tE, tAndF, tOrF, tNotF, tYesF, isFr, kdDisp, stor, frzK, gNm, itE, itR1, itemsOf, capD, mbind_ret, mo_some, gLt_int, gLe_int, gGt_int, gLen_list, gLen_tup, gIx_list, gIx_tup, gAdd_int, gSub_int, gMul_int, gFdiv_int, gMod_int, gPow_int, gNeg_int, gEq_int, gNe_int, gIs_non, gIsNot_non, isNon, rng1_int, nrm_int, nrm_bl, nrm_str, nrm_non, nrm_lst, nrm_dct, nol_int, nol_bl, nol_str, nol_non, nol_lst, nol_tup, List.map_cons, List.map_nil, List.cons_append, List.nil_append, List.getElem?_cons_zero, List.getElem?_cons_succ, List.length_cons, List.length_nil, List.length_map, List.length_range, List.set_cons_zero, List.set_cons_succ, List.replicate_succ, List.replicate_zero, if_true, if_false, Bool.false_eq_true, Bool.not_true, Bool.not_false, decide_true, decide_false, ite_true, ite_false, Option.map_some, Option.join_some, beq_self_eq_true, eq_self, String.reduceBEq, Bool.or_false, Bool.false_or, Bool.or_true, Bool.true_or, reduceCtorEq, reduceIte, e, ha, nrm_f hn, nrm_f (nol_lst _)]
theorem edge_ok (q : Nat) : ∃ (h : Nat) (ws : List PyData) (k c : Nat), 2 ≤ h ∧ h ≤ 4 ∧ Good ws ∧ 1 ≤ ws.length ∧ ws.length ≤ 8 ∧ k ≤ 5 ∧ 1 ≤ c ∧ c ≤ 81 ∧ F__law_edge [.int (q : Int)] = mret (false, .tuple [.int (h : Int), .list ws, .int (k : Int), .int (c : Int)]) := by
  have hlt : q % 6 < 6 := Nat.mod_lt _ (by decide)
  have hj : q % 6 = 0 ∨ q % 6 = 1 ∨ q % 6 = 2 ∨ q % 6 = 3 ∨ q % 6 = 4 ∨ q % 6 = 5 := by omega
  rcases hj with h | h | h | h | h | h
  · exact ⟨2, two.take 3, 5, 12, by decide, by decide, good_two3, by decide, by decide, by decide, by decide, by decide, edge_at q (by rw [h]; rfl) rfl⟩
  · exact ⟨2, two, 3, 46, by decide, by decide, good_two, by decide, by decide, by decide, by decide, by decide, edge_at q (by rw [h]; rfl) rfl⟩
  · exact ⟨3, three, 3, 24, by decide, by decide, good_three, by decide, by decide, by decide, by decide, by decide, edge_at q (by rw [h]; rfl) rfl⟩
  · exact ⟨2, two, 3, 47, by decide, by decide, good_two, by decide, by decide, by decide, by decide, by decide, edge_at q (by rw [h]; rfl) rfl⟩
  · exact ⟨2, two, 5, 3, by decide, by decide, good_two, by decide, by decide, by decide, by decide, by decide, edge_at q (by rw [h]; rfl) rfl⟩
  · exact ⟨3, three, 5, 1, by decide, by decide, good_three, by decide, by decide, by decide, by decide, by decide, edge_at q (by rw [h]; rfl) rfl⟩
end K23
set_option Elab.async false
set_option linter.all false
set_option maxRecDepth 100000
namespace K23
open PySem Y
def T_law : SF :=
 (sSeq (sSet 7 (eCall F__law_starts [(eCall F__law_at [(eV 0), (eC (.int 1))]), (eV 2), (eV 6)]))
 (sSeq (sSet 8 (eLst [(eCB gList [(eV 3)]), (eCB gList [(eV 7)])]))
 (sSeq (sMov 9 6)
 (sSeq (sFor (itR1 (eV 4)) (gNm 10)
 B_law_1)
 (sSeq (sIf (tE (eOp gGt (eV 9) (eC (.int 3000))))
 (sRet (eAnd (eCall F__law_refused [(eIx gIx (eV 8) (eC (.int 0))), (eV 4), (eIx gIx (eV 8) (eC (.int 1)))]) (eOp gEq (eV 8) (eLst [(eV 3), (eV 7)]))))
 sNil)
 (sSeq (sSet 11 (eCall F__law_due [(eV 3), (eV 4), (eV 7)]))
 (sSeq (sSet 12 (eCall (nx F_all_runs) [(eIx gIx (eV 8) (eC (.int 0))), (eV 4), (eIx gIx (eV 8) (eC (.int 1)))]))
 (sSeq (sIf (tOrF (tNotF (tE (eCall F__law_right [(eV 12), (eV 11)]))) (tE (eV 5)))
 (sRet (eCall F__law_right [(eV 12), (eV 11)]))
 sNil)
 (sSeq (sClr 12)
 (sRet (eAnd (eCall F__law_right [(eCall (nx F_all_runs) [(eIx gIx (eV 8) (eC (.int 0))), (eV 4), (eIx gIx (eV 8) (eC (.int 1)))]), (eV 11)]) (eOp gEq (eV 8) (eLst [(eV 3), (eV 7)])))))))))))))
def fin1 : Out → M (Bool × PyData) := fun o => match o with
  | .rt o d => mret (o, d)
  | .nx _ => mret (true, .none)
  | _ => none
theorem many_loop (s n1 h e : Option (Bool × PyData)) (ws : List PyData) (k c : Nat) (hw : ws.length ≤ 8) (c7 c8 : Option (Bool × PyData)) :
    ∃ c10, forD (gNm 10) B_law_1 ((List.range k).map fun (i : Nat) => PyData.int (i : Int)) [s, n1, h, some (false, .list ws), some (true, .int (k : Int)), e, some (true, .int (c : Int)), c7, c8, some (true, .int (c : Int)), none, none, none] =
      mret (.nx [s, n1, h, some (false, .list ws), some (true, .int (k : Int)), e, some (true, .int (c : Int)), c7, c8, some (true, .int ((c * ws.length ^ k : Nat) : Int)), c10, none, none]) := by
  obtain ⟨Γ', h1, c10, h2⟩ := forD_inv (g := gNm 10) (b := B_law_1) (ds := (List.range k).map fun (i : Nat) => PyData.int (i : Int)) (Γ := [s, n1, h, some (false, .list ws), some (true, .int (k : Int)), e, some (true, .int (c : Int)), c7, c8, some (true, .int (c : Int)), none, none, none])
    (fun i Γ => ∃ c10 : Option (Bool × PyData), Γ = [s, n1, h, some (false, .list ws), some (true, .int (k : Int)), e, some (true, .int (c : Int)), c7, c8, some (true, .int ((c * ws.length ^ i : Nat) : Int)), c10, none, none]) ⟨none, by simp⟩ (by
    rintro i d Γ hd ⟨c10, rfl⟩
    obtain ⟨rfl, hi⟩ := range_get hd
    refine ⟨_, [s, n1, h, some (false, .list ws), some (true, .int (k : Int)), e, some (true, .int (c : Int)), c7, c8, some (true, .int ((c * ws.length ^ (i + 1) : Nat) : Int)), some (true, .int (i : Int)), none, none], rfl, .inl ?_, _, rfl⟩
    have e1 : ((c * ws.length ^ i : Nat) : Int) * (ws.length : Int) = ((c * ws.length ^ (i + 1) : Nat) : Int) := by rw [Nat.pow_succ, ← Nat.mul_assoc, Int.natCast_mul (c * ws.length ^ i)]
    generalize c * ws.length ^ (i + 1) = L1 at *
    generalize c * ws.length ^ i = L0 at *
    simp -implicitDefEqProofs (disch := omega) only [B_law_1, runF, startD, sSeq, sIf, sRet, sRetN, sNil, sCnt, sBrk, sSet, sExp, sAsg, sMov, sFor, sApp, sExt, sClr, sPut, eOp, eUn, eV, eC, eIx, eIf, eChain, eAnd, eOr, eNotV, eArgs, eTup, eLst, eCB, eCall, eIsi, isTy, eIdx, eRep, tE, tAndF, tOrF, tNotF, tYesF, isFr, kdDisp, stor, frzK, gNm, itE, itR1, itemsOf, capD, mbind_ret, mo_some, gLt_int, gLe_int, gGt_int, gLen_list, gLen_tup, gIx_list, gIx_tup, gAdd_int, gSub_int, gMul_int, gFdiv_int, gMod_int, gPow_int, gNeg_int, gEq_int, gNe_int, gIs_non, gIsNot_non, isNon, rng1_int, nrm_int, nrm_bl, nrm_str, nrm_non, nrm_lst, nrm_dct, nol_int, nol_bl, nol_str, nol_non, nol_lst, nol_tup, List.map_cons, List.map_nil, List.cons_append, List.nil_append, List.getElem?_cons_zero, List.getElem?_cons_succ, List.length_cons, List.length_nil, List.length_map, List.length_range, List.set_cons_zero, List.set_cons_succ, List.replicate_succ, List.replicate_zero, if_true, if_false, Bool.false_eq_true, Bool.not_true, Bool.not_false, decide_true, decide_false, ite_true, ite_false, Option.map_some, Option.join_some, beq_self_eq_true, eq_self, String.reduceBEq, Bool.or_false, Bool.false_or, Bool.or_true, Bool.true_or, reduceCtorEq, reduceIte, e1, nrm_f (nol_lst _)])
  rw [List.length_map, List.length_range] at h2
  exact ⟨c10, by rw [h1, h2]⟩
theorem tail_ok (ns : List Int) (num : Int) (h : Nat) (ws : List PyData) (k c : Nat) (e : Bool) (h2 : 2 ≤ h) (h4 : h ≤ 4) (g : Good ws) (hw1 : 1 ≤ ws.length) (hw : ws.length ≤ 8) (hk : k ≤ 5) (hc1 : 1 ≤ c) (hc : c ≤ 81) :
    ∃ o, mbind (T_law [some (false, .list (ns.map PyData.int)), some (false, .int num), some (false, .int (h : Int)), some (false, .list ws), some (true, .int (k : Int)), some (false, .bool e), some (true, .int (c : Int)), none, none, none, none, none, none]) fin1 = some (.ok (o, .bool true)) := by
  have gs := starts_good (lawAt ns 1) h h2 h4 c
  have hst := starts_ok (lawAt ns 1) h c h2 h4 (by omega)
  have hl : ∀ x ∈ (List.range c).map (fun i => startT (lawAt ns 1) h i), ∃ s0, x = PyData.tuple s0 := fun x hx => by
    obtain ⟨i, _, rfl⟩ := List.mem_map.mp hx
    exact ⟨_, rfl⟩
  have hlen : ((List.range c).map (fun i => startT (lawAt ns 1) h i)).length = c := by simp
  generalize (List.range c).map (fun i => startT (lawAt ns 1) h i) = ss at *
  have hat := at_ok ns 1 (by decide) (by decide)
  have hgl := gList_list g.n
  have hgs := gList_list gs.n
  have lay2 : lay 60 (.list [.list ws, .list ss]) = true := by
    rw [lay, lays, lays, lays, lay, lay, g.l 55, gs.l 55]; rfl
  have heq : gEq (.list [.list ws, .list ss]) (.list [.list ws, .list ss]) = some (.bool true) := by
    unfold gEq; rw [lay2, Bool.and_self, if_pos rfl, eqv_lay 60 _ lay2]
  have a0 : atD [PyData.list ws, .list ss] 0 = some (.list ws) := rfl
  have a1 : atD [PyData.list ws, .list ss] 1 = some (.list ss) := rfl
  have nn : nols [PyData.list ws, .list ss] = false := rfl
  obtain ⟨c10, hlp⟩ := many_loop (some (false, .list (ns.map PyData.int))) (some (false, .int num)) (some (false, .int (h : Int))) (some (false, .bool e)) ws k c hw (some (true, .list ss)) (some (true, .list [.list ws, .list ss]))
  by_cases hm : c * ws.length ^ k ≤ 3000
  · have hd := due_ok ws ss k g gs hw1 hw hk (by omega) (by rw [hlen]; exact hm)
    have ha := nx_of (all_ok ws ss k g gs hw1 hw hk (by omega) (by rw [hlen]; exact hm))
    have hr := right_runs ws ss k g gs hl hw1
    generalize runsD ws ss k = rs at *
    generalize c * ws.length ^ k = Mm at *
    have hgt : decide ((3000 : Int) < (Mm : Int)) = false := decide_eq_false (by omega)
    cases e with
    | true =>
      refine ⟨true, ?_⟩
      simp -implicitDefEqProofs (disch := omega) only [T_law, fin1, runF, startD, sSeq, sIf, sRet, sRetN, sNil, sCnt, sBrk, sSet, sExp, sAsg, sMov, sFor, sApp, sExt, sClr, sPut, eOp, eUn, eV, eC, eIx, eIf, eChain, eAnd, eOr, eNotV, eArgs, eTup, eLst, eCB, eCall, eIsi, isTy, eIdx, eRep, tE, tAndF, tOrF, tNotF, tYesF, isFr, kdDisp, stor, frzK, gNm, itE, itR1, itemsOf, capD, mbind_ret, mo_some, gLt_int, gLe_int, gGt_int, gLen_list, gLen_tup, gIx_list, gIx_tup, gAdd_int, gSub_int, gMul_int, gFdiv_int, gMod_int, gPow_int, gNeg_int, gEq_int, gNe_int, gIs_non, gIsNot_non, isNon, rng1_int, nrm_int, nrm_bl, nrm_str, nrm_non, nrm_lst, nrm_dct, nol_int, nol_bl, nol_str, nol_non, nol_lst, nol_tup, List.map_cons, List.map_nil, List.cons_append, List.nil_append, List.getElem?_cons_zero, List.getElem?_cons_succ, List.length_cons, List.length_nil, List.length_map, List.length_range, List.set_cons_zero, List.set_cons_succ, List.replicate_succ, List.replicate_zero, if_true, if_false, Bool.false_eq_true, Bool.not_true, Bool.not_false, decide_true, decide_false, ite_true, ite_false, Option.map_some, Option.join_some, beq_self_eq_true, eq_self, String.reduceBEq, Bool.or_false, Bool.false_or, Bool.or_true, Bool.true_or, reduceCtorEq, reduceIte, hat, hst, hgl, hgs, Int.toNat_natCast, hlp, hgt, hd, a0, a1, ha, hr, nrm_f (nol_lst _)]
      try rfl
    | false =>
      refine ⟨true, ?_⟩
      simp -implicitDefEqProofs (disch := omega) only [T_law, fin1, runF, startD, sSeq, sIf, sRet, sRetN, sNil, sCnt, sBrk, sSet, sExp, sAsg, sMov, sFor, sApp, sExt, sClr, sPut, eOp, eUn, eV, eC, eIx, eIf, eChain, eAnd, eOr, eNotV, eArgs, eTup, eLst, eCB, eCall, eIsi, isTy, eIdx, eRep, tE, tAndF, tOrF, tNotF, tYesF, isFr, kdDisp, stor, frzK, gNm, itE, itR1, itemsOf, capD, mbind_ret, mo_some, gLt_int, gLe_int, gGt_int, gLen_list, gLen_tup, gIx_list, gIx_tup, gAdd_int, gSub_int, gMul_int, gFdiv_int, gMod_int, gPow_int, gNeg_int, gEq_int, gNe_int, gIs_non, gIsNot_non, isNon, rng1_int, nrm_int, nrm_bl, nrm_str, nrm_non, nrm_lst, nrm_dct, nol_int, nol_bl, nol_str, nol_non, nol_lst, nol_tup, List.map_cons, List.map_nil, List.cons_append, List.nil_append, List.getElem?_cons_zero, List.getElem?_cons_succ, List.length_cons, List.length_nil, List.length_map, List.length_range, List.set_cons_zero, List.set_cons_succ, List.replicate_succ, List.replicate_zero, if_true, if_false, Bool.false_eq_true, Bool.not_true, Bool.not_false, decide_true, decide_false, ite_true, ite_false, Option.map_some, Option.join_some, beq_self_eq_true, eq_self, String.reduceBEq, Bool.or_false, Bool.false_or, Bool.or_true, Bool.true_or, reduceCtorEq, reduceIte, hat, hst, hgl, hgs, Int.toNat_natCast, hlp, hgt, hd, a0, a1, ha, hr, heq, nrm_f (nol_lst _)]
      try rfl
  · have hr := refused_ok ws ss k hw hk (by omega) (by rw [hlen]; omega)
    generalize c * ws.length ^ k = Mm at *
    have hgt : decide ((3000 : Int) < (Mm : Int)) = true := decide_eq_true (by omega)
    refine ⟨true, ?_⟩
    simp -implicitDefEqProofs (disch := omega) only [T_law, fin1, runF, startD, sSeq, sIf, sRet, sRetN, sNil, sCnt, sBrk, sSet, sExp, sAsg, sMov, sFor, sApp, sExt, sClr, sPut, eOp, eUn, eV, eC, eIx, eIf, eChain, eAnd, eOr, eNotV, eArgs, eTup, eLst, eCB, eCall, eIsi, isTy, eIdx, eRep, tE, tAndF, tOrF, tNotF, tYesF, isFr, kdDisp, stor, frzK, gNm, itE, itR1, itemsOf, capD, mbind_ret, mo_some, gLt_int, gLe_int, gGt_int, gLen_list, gLen_tup, gIx_list, gIx_tup, gAdd_int, gSub_int, gMul_int, gFdiv_int, gMod_int, gPow_int, gNeg_int, gEq_int, gNe_int, gIs_non, gIsNot_non, isNon, rng1_int, nrm_int, nrm_bl, nrm_str, nrm_non, nrm_lst, nrm_dct, nol_int, nol_bl, nol_str, nol_non, nol_lst, nol_tup, List.map_cons, List.map_nil, List.cons_append, List.nil_append, List.getElem?_cons_zero, List.getElem?_cons_succ, List.length_cons, List.length_nil, List.length_map, List.length_range, List.set_cons_zero, List.set_cons_succ, List.replicate_succ, List.replicate_zero, if_true, if_false, Bool.false_eq_true, Bool.not_true, Bool.not_false, decide_true, decide_false, ite_true, ite_false, Option.map_some, Option.join_some, beq_self_eq_true, eq_self, String.reduceBEq, Bool.or_false, Bool.false_or, Bool.or_true, Bool.true_or, reduceCtorEq, reduceIte, hat, hst, hgl, hgs, Int.toNat_natCast, hlp, hgt, a0, a1, hr, heq, nrm_f (nol_lst _)]
    try rfl
end K23
set_option Elab.async false
set_option linter.all false
set_option maxRecDepth 100000
namespace K23
open PySem Y
theorem S_law_eq : S_law = sSeq (sSet 1 (eCall F__law_mix [(eCall F__law_at [(eV 0), (eC (.int 0))]), (eC (.int 3))])) (sSeq (sSet 2 (eOp gAdd (eC (.int 2)) (eOp gMod (eV 1) (eC (.int 3))))) (sSeq (sSet 3 (eCall F__law_road [(eV 0), (eV 2), (eC (.int 8))])) (sSeq (sSet 4 (eOp gMod (eOp gFdiv (eV 1) (eC (.int 3))) (eC (.int 6))))
  (sSeq (sSet 5 (eOp gEq (eOp gMod (eOp gFdiv (eV 1) (eC (.int 18))) (eC (.int 8))) (eC (.int 0)))) (sSeq (sIf (tE (eV 5)) (sAsg (gTp [2, 3, 4, 6]) (eCall F__law_edge [(eOp gFdiv (eV 1) (eC (.int 144)))])) (sAsg (gTp [2, 3, 4, 6]) (eCall F__law_small [(eV 2), (eV 3), (eV 4), (eOp gFdiv (eV 1) (eC (.int 144)))]))) T_law))))) := rfl
theorem asg_ok (ns : List Int) (num h0 r : Int) (ws0 : List PyData) (e : Bool) (h : Int) (ws : List PyData) (k c : Int) :
    gTp [2, 3, 4, 6] .any (.tuple [.int h, .list ws, .int k, .int c]) [some (false, .list (ns.map PyData.int)), some (true, .int num), some (true, .int h0), some (true, .list ws0), some (true, .int r), some (true, .bool e), none, none, none, none, none, none, none] =
      some [some (false, .list (ns.map PyData.int)), some (false, .int num), some (false, .int h), some (false, .list ws), some (true, .int k), some (false, .bool e), some (true, .int c), none, none, none, none, none, none] := rfl
theorem main (ns : List Int) (hns : ns.length ≤ 63) : ∃ o, F_law [.list (ns.map PyData.int)] = some (.ok (o, .bool true)) := by
  have hat := at_ok ns 0 (by decide) (by decide)
  have hmx := mix_ok (lawAt ns 0) 3 (by decide) (by decide)
  obtain ⟨v, hv⟩ := Int.eq_ofNat_of_zero_le (mix_nn (lawAt ns 0) 3 (by decide) (by decide)).1
  have hv' : mixZ (lawAt ns 0) 3 = (v : Int) := hv
  rw [hv'] at hmx
  have e2 : (2 : Int) + (v : Int) % 3 = ((2 + v % 3 : Nat) : Int) := by omega
  have e3 : (v : Int) / 3 % 6 = ((v / 3 % 6 : Nat) : Int) := by omega
  have e4 : (v : Int) / 144 = ((v / 144 : Nat) : Int) := by omega
  have hh2 : 2 ≤ 2 + v % 3 := by omega
  have hh4 : 2 + v % 3 ≤ 4 := by omega
  have hr5 : v / 3 % 6 ≤ 5 := by omega
  obtain ⟨ws, hroad, g, hw1, hw8⟩ := road_ok ns (2 + v % 3) hh2 hh4
  have nt : ∀ (h k c : Int) (ws : List PyData), nol (PyData.tuple [.int h, .list ws, .int k, .int c]) = false := fun _ _ _ _ => rfl
  cases hb : ((v : Int) / 18 % 8 == 0) with
  | true =>
    obtain ⟨h, ws', k, c, a1, a2, a3, a4, a5, a6, a7, a8, a9⟩ := edge_ok (v / 144)
    obtain ⟨o, ho⟩ := tail_ok ns (v : Int) h ws' k c true a1 a2 a3 a4 a5 a6 a7 a8
    refine ⟨o, ?_⟩
    rw [← ho]
    simp -implicitDefEqProofs (disch := omega) only [F_law, S_law_eq, runF, startD, sSeq, sIf, sRet, sRetN, sNil, sCnt, sBrk, sSet, sExp, sAsg, sMov, sFor, sApp, sExt, sClr, sPut, eOp, eUn, eV, eC, eIx, eIf, eChain, eAnd, eOr, eNotV, eArgs, eTup, eLst, eCB, eCall, eIsi, isTy, eIdx, eRep, tE, tAndF, tOrF, tNotF, tYesF, isFr, kdDisp, stor, frzK, gNm, itE, itR1, itemsOf, capD, mbind_ret, mo_some, gLt_int, gLe_int, gGt_int, gLen_list, gLen_tup, gIx_list, gIx_tup, gAdd_int, gSub_int, gMul_int, gFdiv_int, gMod_int, gPow_int, gNeg_int, gEq_int, gNe_int, gIs_non, gIsNot_non, isNon, rng1_int, nrm_int, nrm_bl, nrm_str, nrm_non, nrm_lst, nrm_dct, nol_int, nol_bl, nol_str, nol_non, nol_lst, nol_tup, List.map_cons, List.map_nil, List.cons_append, List.nil_append, List.getElem?_cons_zero, List.getElem?_cons_succ, List.length_cons, List.length_nil, List.length_map, List.length_range, List.set_cons_zero, List.set_cons_succ, List.replicate_succ, List.replicate_zero, if_true, if_false, Bool.false_eq_true, Bool.not_true, Bool.not_false, decide_true, decide_false, ite_true, ite_false, Option.map_some, Option.join_some, beq_self_eq_true, eq_self, String.reduceBEq, Bool.or_false, Bool.false_or, Bool.or_true, Bool.true_or, reduceCtorEq, reduceIte, hat, hmx, e2, hroad, e3, e4, hb, a9, nrm_f (nt _ _ _ _), asg_ok]
    rfl
  | false =>
    obtain ⟨k, c, a6, a7, a8, a10, a9⟩ := small_ok (.int ((2 + v % 3 : Nat) : Int)) rfl ws (v / 144) (v / 3 % 6) hw1 hw8 hr5
    obtain ⟨o, ho⟩ := tail_ok ns (v : Int) (2 + v % 3) ws k c false hh2 hh4 g hw1 hw8 a6 a7 a8
    refine ⟨o, ?_⟩
    rw [← ho]
    simp -implicitDefEqProofs (disch := omega) only [F_law, S_law_eq, runF, startD, sSeq, sIf, sRet, sRetN, sNil, sCnt, sBrk, sSet, sExp, sAsg, sMov, sFor, sApp, sExt, sClr, sPut, eOp, eUn, eV, eC, eIx, eIf, eChain, eAnd, eOr, eNotV, eArgs, eTup, eLst, eCB, eCall, eIsi, isTy, eIdx, eRep, tE, tAndF, tOrF, tNotF, tYesF, isFr, kdDisp, stor, frzK, gNm, itE, itR1, itemsOf, capD, mbind_ret, mo_some, gLt_int, gLe_int, gGt_int, gLen_list, gLen_tup, gIx_list, gIx_tup, gAdd_int, gSub_int, gMul_int, gFdiv_int, gMod_int, gPow_int, gNeg_int, gEq_int, gNe_int, gIs_non, gIsNot_non, isNon, rng1_int, nrm_int, nrm_bl, nrm_str, nrm_non, nrm_lst, nrm_dct, nol_int, nol_bl, nol_str, nol_non, nol_lst, nol_tup, List.map_cons, List.map_nil, List.cons_append, List.nil_append, List.getElem?_cons_zero, List.getElem?_cons_succ, List.length_cons, List.length_nil, List.length_map, List.length_range, List.set_cons_zero, List.set_cons_succ, List.replicate_succ, List.replicate_zero, if_true, if_false, Bool.false_eq_true, Bool.not_true, Bool.not_false, decide_true, decide_false, ite_true, ite_false, Option.map_some, Option.join_some, beq_self_eq_true, eq_self, String.reduceBEq, Bool.or_false, Bool.false_or, Bool.or_true, Bool.true_or, reduceCtorEq, reduceIte, hat, hmx, e2, hroad, e3, e4, hb, a9, nrm_f (nt _ _ _ _), nrm_f (nol_lst _), asg_ok]
    rfl
end K23
open PySem PySem.W PyProof.Rows
set_option maxRecDepth 100000 in
set_option maxHeartbeats 0 in
theorem PySem.Challenge.cw_losspact_k23_whole_all_runs_holds : PySem.Challenge.rw_losspact_k23_whole_all_runs.Holds := by
  w_on; o_law; k_head; (case hw => w_witness2)
  k_fill
  refine K23.walk K23.main (l := PySem.Challenge.rw_losspact_k23_whole_all_runs) rfl rfl (fun w h Y => PySem.W.kIn_of Y) ?F
  case F =>
    intro w mg fa h KX G hmg
    refine' K23.all_mk KX G hmg ?a_many_rows ?l_many_rows ?c_many_rows ?k_many_rows ?a_row_at ?l_row_at ?c_row_at ?k_row_at ?a_many_runs ?l_many_runs ?c_many_runs ?k_many_runs ?a_run_at ?l_run_at ?c_run_at ?k_run_at ?a_all_runs ?l_all_runs ?c_all_runs ?k_all_runs ?a__law_at ?l__law_at ?c__law_at ?k__law_at ?a__law_mix ?l__law_mix ?c__law_mix ?k__law_mix ?a__law_letters ?l__law_letters ?c__law_letters ?k__law_letters ?a__law_road ?l__law_road ?c__law_road ?k__law_road ?a__law_starts ?l__law_starts ?c__law_starts ?k__law_starts ?a__law_due ?l__law_due ?c__law_due ?k__law_due ?a__law_right ?l__law_right ?c__law_right ?k__law_right ?a__law_refused ?l__law_refused ?c__law_refused ?k__law_refused ?a__law_edge ?l__law_edge ?c__law_edge ?k__law_edge ?a__law_small ?l__law_small ?c__law_small ?k__law_small ?a_law ?l_law ?c_law ?k_law ?z_isinstance ?z_len ?z_list ?z_min ?z_range ?z_reversed ?z_tuple ?z_zip ?g_MOST_RUNS ?x_ge ?x_tk ?a_PactError ?a_NoText ?a_NoRoad ?a_TooMany ?q_PactError ?ga_PactError ?gh_PactError ?ca_PactError ?ob_PactError ?be_PactError ?i_PactError ?ty_PactError ?ub_PactError ?n_PactError ?s_PactError_PactError ?s_PactError_NoText ?s_PactError_NoRoad ?s_PactError_TooMany ?q_NoText ?ga_NoText ?gh_NoText ?ca_NoText ?ob_NoText ?be_NoText ?i_NoText ?ty_NoText ?ub_NoText ?n_NoText ?s_NoText_PactError ?s_NoText_NoText ?s_NoText_NoRoad ?s_NoText_TooMany ?q_NoRoad ?ga_NoRoad ?gh_NoRoad ?ca_NoRoad ?ob_NoRoad ?be_NoRoad ?i_NoRoad ?ty_NoRoad ?ub_NoRoad ?n_NoRoad ?s_NoRoad_PactError ?s_NoRoad_NoText ?s_NoRoad_NoRoad ?s_NoRoad_TooMany ?q_TooMany ?ga_TooMany ?gh_TooMany ?ca_TooMany ?ob_TooMany ?be_TooMany ?i_TooMany ?ty_TooMany ?ub_TooMany ?n_TooMany ?s_TooMany_PactError ?s_TooMany_NoText ?s_TooMany_NoRoad ?s_TooMany_TooMany
    (case a_many_rows => k_is)
    (case l_many_rows => k_is)
    (case c_many_rows => k_is)
    (case k_many_rows => k_is)
    (case a_row_at => k_is)
    (case l_row_at => k_is)
    (case c_row_at => k_is)
    (case k_row_at => k_is)
    (case a_many_runs => k_is)
    (case l_many_runs => k_is)
    (case c_many_runs => k_is)
    (case k_many_runs => k_is)
    (case a_run_at => k_is)
    (case l_run_at => k_is)
    (case c_run_at => k_is)
    (case k_run_at => k_is)
    (case a_all_runs => k_is)
    (case l_all_runs => k_is)
    (case c_all_runs => k_is)
    (case k_all_runs => k_is)
    (case a__law_at => k_is)
    (case l__law_at => k_is)
    (case c__law_at => k_is)
    (case k__law_at => k_is)
    (case a__law_mix => k_is)
    (case l__law_mix => k_is)
    (case c__law_mix => k_is)
    (case k__law_mix => k_is)
    (case a__law_letters => k_is)
    (case l__law_letters => k_is)
    (case c__law_letters => k_is)
    (case k__law_letters => k_is)
    (case a__law_road => k_is)
    (case l__law_road => k_is)
    (case c__law_road => k_is)
    (case k__law_road => k_is)
    (case a__law_starts => k_is)
    (case l__law_starts => k_is)
    (case c__law_starts => k_is)
    (case k__law_starts => k_is)
    (case a__law_due => k_is)
    (case l__law_due => k_is)
    (case c__law_due => k_is)
    (case k__law_due => k_is)
    (case a__law_right => k_is)
    (case l__law_right => k_is)
    (case c__law_right => k_is)
    (case k__law_right => k_is)
    (case a__law_refused => k_is)
    (case l__law_refused => k_is)
    (case c__law_refused => k_is)
    (case k__law_refused => k_is)
    (case a__law_edge => k_is)
    (case l__law_edge => k_is)
    (case c__law_edge => k_is)
    (case k__law_edge => k_is)
    (case a__law_small => k_is)
    (case l__law_small => k_is)
    (case c__law_small => k_is)
    (case k__law_small => k_is)
    (case a_law => k_is)
    (case l_law => k_is)
    (case c_law => k_is)
    (case k_law => k_is)
    (case z_isinstance => k_is)
    (case z_len => k_is)
    (case z_list => k_is)
    (case z_min => k_is)
    (case z_range => k_is)
    (case z_reversed => k_is)
    (case z_tuple => k_is)
    (case z_zip => k_is)
    (case g_MOST_RUNS => k_is)
    (case x_ge => k_is)
    (case x_tk => k_is)
    (case a_PactError => k_is)
    (case a_NoText => k_is)
    (case a_NoRoad => k_is)
    (case a_TooMany => k_is)
    (case q_PactError => k_exc)
    (case ga_PactError => k_is)
    (case gh_PactError => k_is)
    (case ca_PactError => k_is)
    (case ob_PactError => k_is)
    (case be_PactError => k_is)
    (case i_PactError => k_is)
    (case ty_PactError => k_is)
    (case ub_PactError => k_is)
    (case n_PactError => k_is)
    (case s_PactError_PactError => k_is)
    (case s_PactError_NoText => k_is)
    (case s_PactError_NoRoad => k_is)
    (case s_PactError_TooMany => k_is)
    (case q_NoText => k_exc)
    (case ga_NoText => k_is)
    (case gh_NoText => k_is)
    (case ca_NoText => k_is)
    (case ob_NoText => k_is)
    (case be_NoText => k_is)
    (case i_NoText => k_is)
    (case ty_NoText => k_is)
    (case ub_NoText => k_is)
    (case n_NoText => k_is)
    (case s_NoText_PactError => k_is)
    (case s_NoText_NoText => k_is)
    (case s_NoText_NoRoad => k_is)
    (case s_NoText_TooMany => k_is)
    (case q_NoRoad => k_exc)
    (case ga_NoRoad => k_is)
    (case gh_NoRoad => k_is)
    (case ca_NoRoad => k_is)
    (case ob_NoRoad => k_is)
    (case be_NoRoad => k_is)
    (case i_NoRoad => k_is)
    (case ty_NoRoad => k_is)
    (case ub_NoRoad => k_is)
    (case n_NoRoad => k_is)
    (case s_NoRoad_PactError => k_is)
    (case s_NoRoad_NoText => k_is)
    (case s_NoRoad_NoRoad => k_is)
    (case s_NoRoad_TooMany => k_is)
    (case q_TooMany => k_exc)
    (case ga_TooMany => k_is)
    (case gh_TooMany => k_is)
    (case ca_TooMany => k_is)
    (case ob_TooMany => k_is)
    (case be_TooMany => k_is)
    (case i_TooMany => k_is)
    (case ty_TooMany => k_is)
    (case ub_TooMany => k_is)
    (case n_TooMany => k_is)
    (case s_TooMany_PactError => k_is)
    (case s_TooMany_NoText => k_is)
    (case s_TooMany_NoRoad => k_is)
    (case s_TooMany_TooMany => k_is)
