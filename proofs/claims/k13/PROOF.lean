import PyProof.Rows.All
import Wide.All
import OpenK.AllK
import Wide.FinOn
import Lean
import PyProof.EqAt
import PyProof.EqKinds
import PyProof.TupleCall
import PyProof.NeKinds
import PyProof.FactsAll.set_1
import PyProof.FactsAll.tuple_2
import PyProof.FactsAll.str_7
import PyProof.ReprRoads
import PyProof.ReprLen
import PyProof.FitsInt
import PyProof.CallStr
import KE.KIntText
import PyProof.Conv_int_bool
import PyProof.PureStr
import KE.KRevSl
import PyProof.StrLawsIn
import PySem.Challenge.RW_meetdesks_k13_texts_of_no_machine
set_option Elab.async false
set_option linter.all false
set_option maxRecDepth 100000
/-! THE HAND LAYER, for ints, bools, texts, own classes, LISTS and tuples (index, slices, in, append, pop ..), calls, loops. Paste it whole ahead of your own text; what your proof does not reach may be deleted. -/
namespace L2
open PySem PySem.Spec PyProof.Rows

/-- a key: an int or a str -/
abbrev Key := Sum Int Str
def keyIs : Key → Value → Bool
  | .inl k, v => Value.isInt k v
  | .inr x, v => Value.isStrOf x v
def keyH (w : World) : Key → Int
  | .inl k => hashInt k
  | .inr x => hashStr w x
theorem keyIs_shape : ∀ {k : Key} {v : Value}, keyIs k v = true → (∃ i t, k = Sum.inl i ∧ v = Value.int i t) ∨ (∃ x t, k = Sum.inr x ∧ v = Value.str x t)
  | .inl i, v, h => by
    obtain ⟨t, e⟩ := Value.isInt_shape (k := i) (v := v) h
    exact .inl ⟨i, t, rfl, e⟩
  | .inr x, v, h => by
    obtain ⟨t, e⟩ := Value.isStrOf_shape (x := x) (v := v) h
    exact .inr ⟨x, t, rfl, e⟩
theorem keyIs_int (i : Int) (t : Tok) : keyIs (.inl i) (.int i t) = true := by simp [keyIs, Value.isInt]
theorem keyIs_str (x : Str) (t : Tok) : keyIs (.inr x) (.str x t) = true := by simp [keyIs, Value.isStrOf]
theorem key_ll (a b : Int) : decide ((Sum.inl a : Key) = Sum.inl b) = (a == b) := by
  by_cases e : a = b
  · subst e; simp
  · have h : ¬ (Sum.inl a : Key) = Sum.inl b := fun q => e (Sum.inl.inj q)
    rw [decide_eq_false h]
    exact (beq_eq_false_iff_ne.mpr e).symm
theorem key_rr (a b : Str) : decide ((Sum.inr a : Key) = Sum.inr b) = decide (a = b) := by
  by_cases e : a = b
  · subst e; simp
  · have h : ¬ (Sum.inr a : Key) = Sum.inr b := fun q => e (Sum.inr.inj q)
    rw [decide_eq_false h, decide_eq_false e]
theorem key_lr (a : Int) (b : Str) : decide ((Sum.inl a : Key) = Sum.inr b) = false := decide_eq_false (fun q => nomatch q)
theorem key_rl (a : Str) (b : Int) : decide ((Sum.inr a : Key) = Sum.inl b) = false := decide_eq_false (fun q => nomatch q)

def mixKind (prog : Program) (w : World) : PySem.KeyKind prog w Key where
  is := keyIs
  hash := keyH w
  inj := fun v a b ha hb => by
    rcases keyIs_shape ha with ⟨i, t, rfl, rfl⟩ | ⟨x, t, rfl, rfl⟩
    · rcases keyIs_shape hb with ⟨j, u, rfl, e⟩ | ⟨y, u, rfl, e⟩
      · injection e with e1 _; rw [e1]
      · exact nomatch e
    · rcases keyIs_shape hb with ⟨j, u, rfl, e⟩ | ⟨y, u, rfl, e⟩
      · exact nomatch e
      · injection e with e1 _; rw [e1]
  byValue := fun k v h => by
    rcases keyIs_shape h with ⟨i, t, rfl, rfl⟩ | ⟨x, t, rfl, rfl⟩ <;> rfl
  pyHash := fun hv h => by
    rcases keyIs_shape hv with ⟨i, t, rfl, rfl⟩ | ⟨x, t, rfl, rfl⟩
    · exact wpAny_pyHash_int h
    · exact wpAny_pyHash_str h
  eqBool := fun hu hv h => by
    rcases keyIs_shape hu with ⟨i, t, rfl, rfl⟩ | ⟨x, t, rfl, rfl⟩
    · rcases keyIs_shape hv with ⟨j, u, rfl, rfl⟩ | ⟨y, u, rfl, rfl⟩
      · rw [key_ll] at h; exact wpAny_eqBool_int h
      · rw [key_lr] at h; exact SeqAt.EqAt.int_str i t y u _ _ _ _ h
    · rcases keyIs_shape hv with ⟨j, u, rfl, rfl⟩ | ⟨y, u, rfl, rfl⟩
      · rw [key_rl] at h; exact SeqAt.EqAt.str_int x t j u _ _ _ _ h
      · rw [key_rr] at h; exact wpAny_eqBool_str h
  «strs» := fun k x t v h => by
    rcases keyIs_shape h with ⟨i, u, rfl, e⟩ | ⟨y, u, rfl, e⟩
    · exact nomatch e
    · injection e with e1 _
      subst e1
      cases v <;> rfl

theorem mixKind_int (prog : Program) (w : World) (i : Int) (t : Tok) : (mixKind prog w).is (.inl i) (.int i t) = true := keyIs_int i t
theorem mixKind_str (prog : Program) (w : World) (x : Str) (t : Tok) : (mixKind prog w).is (.inr x) (.str x t) = true := keyIs_str x t
end L2

namespace L2
open PySem PySem.Spec PyProof.Rows

/-- a value, without the heap -/
inductive V where
  | non | bl (b : Bool) | int (i : Int) | str (x : Str) | byt (b : Array UInt8) | flt (b : UInt64) | ref (a : Addr) | ty (n : String)
  deriving DecidableEq

def RelV : V → Value → Prop
  | .non, u => u = Value.none
  | .bl b, u => u = Value.bool b
  | .int i, u => ∃ t, u = Value.int i t
  | .str x, u => ∃ t, u = Value.str x t
  | .byt b, u => ∃ t, u = Value.bytes b t
  | .flt b, u => ∃ t, u = Value.float b t
  | .ref a, u => u = Value.ref a
  | .ty n, u => u = Value.type n

abbrev Vals : List V → List Value → Prop := Paired RelV
theorem Vals.length {xs : List V} {us : List Value} (r : Vals xs us) : xs.length = us.length := Paired.length r
theorem Vals.get : ∀ {xs : List V} {us : List Value} {i : Nat} {x : V}, Vals xs us → xs[i]? = some x → ∃ u, us[i]? = some u ∧ RelV x u
  | _, _, _, _, .nil, e => by simp at e
  | _, _, 0, _, .cons r _, e => by simp at e; subst e; exact ⟨_, rfl, r⟩
  | _, _, i + 1, x, .cons _ t, e => by
    obtain ⟨u, h1, h2⟩ := Vals.get (i := i) (x := x) t (by simpa using e)
    exact ⟨u, by simpa using h1, h2⟩
theorem Vals.set {x : V} {u : Value} (r : RelV x u) : ∀ {xs : List V} {us : List Value} (i : Nat), Vals xs us → Vals (xs.set i x) (us.set i u)
  | _, _, _, .nil => .nil
  | _, _, 0, .cons _ t => .cons r t
  | _, _, i + 1, .cons q t => .cons q (Vals.set r i t)
theorem Vals.append {xs ys : List V} {us ws : List Value} (h : Vals xs us) (s : Vals ys ws) : Vals (xs ++ ys) (us ++ ws) := by
  induction h with
  | nil => exact s
  | cons r t ih => exact .cons r ih
theorem Vals.take : ∀ {xs : List V} {us : List Value} (n : Nat), Vals xs us → Vals (xs.take n) (us.take n)
  | _, _, 0, _ => .nil
  | _, _, _ + 1, .nil => .nil
  | _, _, n + 1, .cons r t => .cons r (Vals.take n t)
theorem Vals.drop : ∀ {xs : List V} {us : List Value} (n : Nat), Vals xs us → Vals (xs.drop n) (us.drop n)
  | _, _, 0, r => r
  | _, _, _ + 1, .nil => .nil
  | _, _, n + 1, .cons _ t => Vals.drop n t
def RelO : Option V → Option Value → Prop
  | some v, some u => RelV v u
  | none, none => True
  | _, _ => False
def KV {κ : Type} : List (κ × V) → List (κ × Value) → Prop := Paired fun (p : κ × V) (q : κ × Value) => p.1 = q.1 ∧ RelV p.2 q.2

/-- a key of a dict (00_mix): an int or a text -/
def kV : Key → V
  | .inl i => .int i
  | .inr x => .str x

/-- what stands at a tracked address -/
inductive HO where
  /-- a list -/
  | lst (xs : List V)
  /-- a tuple (never changes) -/
  | tup (xs : List V)
  /-- a dict whose keys are ints and texts; one whose keys are tuples of ints and texts (the empty one is both) -/
  | dK (kvs : List (Key × V)) | dT (kvs : List (List Key × V))
  /-- a set of ints: its members, its size -/
  | set (S : Int → Bool) (n : Nat)
  /-- an instance of the class at C, its dict at dx, its attributes -/
  | ins (C dx : Addr) (fs : List (Str × V))
  /-- the dict of the instance at x -/
  | own (x : Addr)
  /-- the dict of an exception -/
  | xd (fs : List (Str × V))
  /-- a bound method, f of x -/
  | met (f x : Addr)
  /-- a range object lo, lo + 1, .. below hi -/
  | rng (lo hi : Int)
  /-- a thing that is known to the object (the script; a dict while a loop walks it): read, never written while it is so -/
  | frz (o : Obj) (u : HO)
  /-- a code object's table -/
  | tbl (ps : Array Value)
  /-- any other thing, by what is true of its one object (a def of one's own: SetO a S n := HO.ext fun h => ..) -/
  | ext (φ : Heap → Prop)

abbrev Hp := Addr → Option HO
def upd (H : Hp) (a : Addr) (o : HO) : Hp := fun b => if b = a then some o else H b
theorem upd_same {H : Hp} {a : Addr} {o : HO} : upd H a o a = some o := by unfold upd; rw [if_pos rfl]
theorem upd_ne {H : Hp} {a b : Addr} {o : HO} (h : b ≠ a) : upd H a o b = H b := by unfold upd; rw [if_neg h]
/-- two objects of different content stand apart -/
theorem ne_of {H : Hp} {a b : Addr} {o u : HO} (h : H a = some o) (h' : H b = some u) (d : o ≠ u) : a ≠ b := by
  intro e; subst e; rw [h] at h'; exact d (Option.some.inj h')
theorem ne_of_none {H : Hp} {a b : Addr} {o : HO} (h : H a = some o) (h' : H b = none) : a ≠ b := by
  intro e; subst e; rw [h] at h'; cases h'

section
variable (P : Program) (w : World)
def ObjOk (H : Hp) (h : Heap) (a : Addr) : HO → Prop
  | .lst xs => xs.length ≤ sizeLine ∧ ∃ (its : List Value) (n : Nat), Vals xs its ∧ h.get? a = some { cls := .type "list", data := .seq its.toArray n }
  | .tup xs => xs.length ≤ sizeLine ∧ ∃ its : List Value, Vals xs its ∧ IsTup h a its.toArray
  | .dK kvs => kvs.length ≤ sizeLine ∧ (a == sysModules) = false ∧ ∃ vs, KV kvs vs ∧ h.DictOf (mixKind P w) a vs
  | .dT kvs => kvs.length ≤ sizeLine ∧ (a == sysModules) = false ∧ ∃ xs : List (List Key × Addr × Value),
      Paired (fun (p : List Key × V) (q : List Key × Addr × Value) => p.1 = q.1 ∧ H q.2.1 = some (.tup (p.1.map kV)) ∧ RelV p.2 q.2.2) kvs xs ∧
      ∃ o es ep, h.get? a = some o ∧ o.ExactDict ∧ o.data = .dict es ep ∧ es.toList = xs.map (entryOfKey (tupleKind (mixKind P w))) ∧ (xs.map (·.1)).Nodup
  | .set S n => h.SetOf (intKind P w) a S n
  | .ins C dx fs => H dx = some (.own a) ∧ fs.length ≤ 1000 ∧ dx ≠ a ∧ h.get? a = some (PySem.W.instObj C dx) ∧
      ∃ mA, h.Ns1 dx mA ∧ (∀ f, RelO (fs.lookup f) (mA f)) ∧ PySem.Within mA (fs.map (·.1))
  | .own _ => ∃ o, h.get? a = some o
  | .xd fs => ∃ mA, h.Ns1 a mA ∧ ∀ f, RelO (fs.lookup f) (mA f)
  | .rng lo hi => ∃ t u v, h.get? a = some { cls := .type "range", data := .fields #[.int lo t, .int hi u, .int 1 v] }
  | .frz o u => h.get? a = some o ∧ ObjOk H h a u
  | .tbl ps => h.get? a = some { cls := .none, data := .fields ps }
  | .met f x => h.get? a = some (PySem.W.methodObj (.ref f) (.ref x))
  | .ext φ => φ h ∧ (∃ o, h.get? a = some o) ∧ ∀ h1 h2 : Heap, φ h1 → (∀ o, h1.get? a = some o → h2.get? a = some o) → φ h2
/-- the abstract heap is held -/
def HOk (H : Hp) (h : Heap) : Prop := ∀ a o, H a = some o → ObjOk P w H h a o
end

section
variable {P : Program} {w : World} {H H' : Hp} {h h' : Heap} {a : Addr} {o : HO}
theorem ObjOk.lt (x : ObjOk P w H h a o) : a < h.objs.size := by
  cases o with
  | lst xs => obtain ⟨_, _, _, _, e⟩ := x; exact Heap.lt_size e
  | tup xs => obtain ⟨_, _, _, p⟩ := x; exact p.lt
  | dK kvs => obtain ⟨_, _, _, _, o, _, _, e, _⟩ := x; exact Heap.lt_size e
  | dT kvs => obtain ⟨_, _, _, _, o, _, _, e, _⟩ := x; exact Heap.lt_size e
  | set S n => obtain ⟨o, _, _, _, e, _⟩ := x; exact Heap.lt_size e
  | ins C dx fs => obtain ⟨_, _, _, e, _⟩ := x; exact Heap.lt_size e
  | own y => obtain ⟨_, e⟩ := x; exact Heap.lt_size e
  | xd fs => obtain ⟨_, ⟨_, _, _, e, _⟩, _⟩ := x; exact Heap.lt_size e
  | rng lo hi => obtain ⟨_, _, _, e⟩ := x; exact Heap.lt_size e
  | frz ob u => obtain ⟨e, _⟩ := x; exact Heap.lt_size e
  | tbl ps => exact Heap.lt_size (show h.get? a = some _ from x)
  | met f y => exact Heap.lt_size (show h.get? a = some _ from x)
  | ext φ => obtain ⟨_, ⟨_, e⟩, _⟩ := x; exact Heap.lt_size e
theorem Paired.mapP {α β : Type} {F G : α → β → Prop} {l₁ : List α} {l₂ : List β} (h : Paired F l₁ l₂) (f : ∀ a b, F a b → G a b) : Paired G l₁ l₂ := by
  induction h with
  | nil => exact .nil
  | cons r t ih => exact .cons (f _ _ r) ih
/-- what an object's description leans on: its own object, its own dict, the tuples -/
theorem ObjOk.stay (x : ObjOk P w H h a o) (k : ∀ b u, (b = a ∨ H b = some (.own a)) → h.get? b = some u → h'.get? b = some u)
    (ho : ∀ b, H b = some (.own a) → H' b = some (.own a)) (ht : ∀ b xs, H b = some (.tup xs) → H' b = some (.tup xs)) : ObjOk P w H' h' a o := by
  induction o with
  | lst xs => obtain ⟨z, its, n, r, e⟩ := x; exact ⟨z, its, n, r, k _ _ (.inl rfl) e⟩
  | tup xs => obtain ⟨z, its, r, ob, e, c⟩ := x; exact ⟨z, its, r, ob, k _ _ (.inl rfl) e, c⟩
  | dK kvs => obtain ⟨z, y, vs, r, ob, es, ep, e, c⟩ := x; exact ⟨z, y, vs, r, ob, es, ep, k _ _ (.inl rfl) e, c⟩
  | dT kvs =>
    obtain ⟨z, y, xs, r, ob, es, ep, e, c⟩ := x
    exact ⟨z, y, xs, Paired.mapP r fun p q z => ⟨z.1, ht _ _ z.2.1, z.2.2⟩, ob, es, ep, k _ _ (.inl rfl) e, c⟩
  | set S n => obtain ⟨ob, es, ep, t, e, c⟩ := x; exact ⟨ob, es, ep, t, k _ _ (.inl rfl) e, c⟩
  | ins C dx fs =>
    obtain ⟨d, z, ne, e, mA, ⟨od, es, ep, e2, c⟩, r⟩ := x
    exact ⟨ho _ d, z, ne, k _ _ (.inl rfl) e, mA, ⟨od, es, ep, k _ _ (.inr d) e2, c⟩, r⟩
  | own y => obtain ⟨ob, e⟩ := x; exact ⟨ob, k _ _ (.inl rfl) e⟩
  | xd fs => obtain ⟨mA, ⟨od, es, ep, e, c⟩, r⟩ := x; exact ⟨mA, ⟨od, es, ep, k _ _ (.inl rfl) e, c⟩, r⟩
  | rng lo hi => obtain ⟨t, u, v, e⟩ := x; exact ⟨t, u, v, k _ _ (.inl rfl) e⟩
  | frz ob u ih => obtain ⟨e, q⟩ := x; exact ⟨k _ _ (.inl rfl) e, ih q⟩
  | tbl ps =>
    have e : h.get? a = some { cls := .none, data := .fields ps } := x
    show h'.get? a = some { cls := .none, data := .fields ps }
    exact k a _ (.inl rfl) e
  | met f y =>
    have e : h.get? a = some (PySem.W.methodObj (.ref f) (.ref y)) := x
    show h'.get? a = some (PySem.W.methodObj (.ref f) (.ref y))
    exact k a _ (.inl rfl) e
  | ext φ => obtain ⟨p, ⟨o, e⟩, st⟩ := x; exact ⟨st _ _ p fun o q => k _ _ (.inl rfl) q, ⟨o, k _ _ (.inl rfl) e⟩, st⟩
theorem HOk.lt (x : HOk P w H h) (e : H a = some o) : a < h.objs.size := (x a o e).lt
theorem HOk.fresh (x : HOk P w H h) (e : h.objs.size ≤ a) : H a = none := by
  cases q : H a with
  | none => rfl
  | some u => exact absurd (Nat.lt_of_lt_of_le (x.lt q) e) (Nat.lt_irrefl _)
/-- every object of the heap is kept -/
theorem HOk.kept (x : HOk P w H h) (k : ∀ b u, h.get? b = some u → h'.get? b = some u) : HOk P w H h' := fun a o e =>
  (x a o e).stay (fun b u _ q => k b u q) (fun _ q => q) fun _ _ q => q
/-- a new object is laid and tracked -/
theorem HOk.laid (x : HOk P w H h) (k : ∀ b u, h.get? b = some u → h'.get? b = some u) (hp : h.objs.size ≤ a) (new : ObjOk P w (upd H a o) h' a o) : HOk P w (upd H a o) h' := fun b u e => by
  have hn := x.fresh hp
  by_cases hb : b = a
  · subst hb; rw [upd_same] at e; cases e; exact new
  · rw [upd_ne hb] at e
    exact (x b u e).stay (fun c v _ q => k c v q) (fun c q => by rw [upd_ne (ne_of_none q hn)]; exact q) fun c xs q => by rw [upd_ne (ne_of_none q hn)]; exact q
end

/-- what may be read as u: it is u, or a known u -/
def Rd (H : Hp) (a : Addr) (u : HO) : Prop := H a = some u ∨ ∃ o, H a = some (.frz o u)
theorem Rd.ok {P : Program} {w : World} {H : Hp} {h : Heap} {a : Addr} {u : HO} (r : Rd H a u) (x : HOk P w H h) : ObjOk P w H h a u := by
  rcases r with r | ⟨o, r⟩
  · exact x a u r
  · obtain ⟨_, q⟩ := x a _ r
    exact q
/-- what may be written -/
def Mut : Option HO → Prop
  | some (.lst _) => True
  | some (.dK _) => True
  | some (.dT _) => True
  | some (.set _ _) => True
  | some (.ins _ _ _) => True
  | some (.ext _) => True
  | _ => False
section
variable {P : Program} {w : World} {H : Hp} {h h' : Heap} {x e : Addr} {o' : HO}
/-- the object at e is changed: x itself, or the dict of the instance x -/
theorem HOk.write (ok : HOk P w H h) (mu : Mut (H x)) (he : e = x ∨ H e = some (.own x)) (k : ∀ b u, b ≠ e → h.get? b = some u → h'.get? b = some u) (heo : ∃ u, h'.get? e = some u)
    (new : ObjOk P w (upd H x o') h' x o') : HOk P w (upd H x o') h' := fun b u q => by
  have nown : ∀ c y, H c = some (.own y) → c ≠ x := fun c y r z => by subst z; rw [r] at mu; exact mu
  have ntup : ∀ c xs, H c = some (.tup xs) → c ≠ x := fun c xs r z => by subst z; rw [r] at mu; exact mu
  by_cases hb : b = x
  · subst hb; rw [upd_same] at q; cases q; exact new
  · rw [upd_ne hb] at q
    by_cases hbe : b = e
    · have q' : H b = some (.own x) := by
        rcases he with z | z
        · exact absurd (hbe.trans z) hb
        · rw [hbe]; exact z
      rw [q] at q'; cases q'
      obtain ⟨v, hv⟩ := heo
      exact ⟨v, by rw [hbe]; exact hv⟩
    · refine (ok b u q).stay (fun c v hc r => k c v ?_ r) (fun c r => by rw [upd_ne (nown c b r)]; exact r) fun c xs r => by rw [upd_ne (ntup c xs r)]; exact r
      rcases hc with rfl | hc
      · exact hbe
      · rintro rfl
        rcases he with z | z
        · exact nown c b hc z
        · rw [hc] at z; cases z; exact hb rfl
end

/-! ### kept unless tracked; of the frames at fs (the callers') the slots may change (an exception that passes writes there); of the records at ex (iterators) nothing is said -/
structure Un (fs ex : List Addr) (H H' : Hp) (h h' : Heap) : Prop where
  keep : ∀ b o, h.get? b = some o → H b = none → b ∉ fs → b ∉ ex → h'.get? b = some o
  slot : ∀ b o, h.get? b = some o → H b = none → b ∈ fs → b ∉ ex → ∃ sl, h'.get? b = some { o with slots := sl }
  free : ∀ b o, h.get? b = some o → H b = none → b ∉ ex → H' b = none
  there : ∀ b o, h.get? b = some o → b ∉ ex → ∃ o', h'.get? b = some o'
  tups : ∀ b xs, H b = some (.tup xs) → H' b = some (.tup xs)
  frzs : ∀ b o u, H b = some (.frz o u) → H' b = some (.frz o u)
  tbls : ∀ b ps, H b = some (.tbl ps) → ∃ more, H' b = some (.tbl (ps ++ more))
section
variable {fs fs' ex ex' : List Addr} {H H1 H2 : Hp} {h h1 h2 h' : Heap} {a x e : Addr} {o : HO}
theorem Un.any (u : Un fs ex H H1 h h1) {b : Addr} {ob : Obj} (q : h.get? b = some ob) (n : H b = none) (hx : b ∉ ex) : ∃ sl, h1.get? b = some { ob with slots := sl } := by
  by_cases hb : b ∈ fs
  · exact u.slot b ob q n hb hx
  · exact ⟨ob.slots, u.keep b ob q n hb hx⟩
theorem Un.kept (k : ∀ b u, h.get? b = some u → h'.get? b = some u) : Un fs ex H H h h' :=
  ⟨fun b ob q _ _ _ => k b ob q, fun b ob q _ _ _ => ⟨ob.slots, k b ob q⟩, fun _ _ _ n _ => n, fun b ob q _ => ⟨ob, k b ob q⟩, fun _ _ q => q, fun _ _ _ q => q, fun _ ps q => ⟨#[], by rw [q]; simp⟩⟩
theorem Un.refl : Un fs ex H H h h := Un.kept fun _ _ q => q
theorem Un.laid (k : ∀ b u, h.get? b = some u → h'.get? b = some u) (hp : h.objs.size ≤ a) (hn : H a = none) : Un fs ex H (upd H a o) h h' where
  keep := fun b u q _ _ _ => k b u q
  slot := fun b u q _ _ _ => ⟨u.slots, k b u q⟩
  free := fun b u q n _ => by rw [upd_ne (Nat.ne_of_lt (Nat.lt_of_lt_of_le (Heap.lt_size q) hp))]; exact n
  there := fun b u q _ => ⟨u, k b u q⟩
  tups := fun b xs q => by rw [upd_ne (ne_of_none q hn)]; exact q
  frzs := fun b u xs q => by rw [upd_ne (ne_of_none q hn)]; exact q
  tbls := fun b ps q => ⟨#[], by rw [upd_ne (ne_of_none q hn), q]; simp⟩
theorem Un.write (mu : Mut (H x)) (he : e = x ∨ H e = some (.own x)) (k : ∀ b u, b ≠ e → h.get? b = some u → h'.get? b = some u) (heo : ∃ u, h'.get? e = some u) : Un fs ex H (upd H x o) h h' := by
  have hx : ∀ b, H b = none → b ≠ x := fun b n z => by subst z; rw [n] at mu; exact mu
  have hb : ∀ b, H b = none → b ≠ e := fun b n z => by
    subst z
    rcases he with r | r
    · exact hx b n r
    · rw [n] at r; cases r
  have hm : ∀ b u, H b = some u → ¬ Mut (some u) → b ≠ x := fun b u q nm z => by subst z; rw [q] at mu; exact nm mu
  refine ⟨fun b u q n _ _ => k b u (hb b n) q, fun b u q n _ _ => ⟨u.slots, k b u (hb b n) q⟩, fun b u q n _ => by rw [upd_ne (hx b n)]; exact n, fun b u q _ => ?_,
    fun b xs q => by rw [upd_ne (hm b _ q fun z => z)]; exact q, fun b u xs q => by rw [upd_ne (hm b _ q fun z => z)]; exact q, fun b ps q => ⟨#[], by rw [upd_ne (hm b _ q fun z => z), q]; simp⟩⟩
  by_cases hbe : b = e
  · subst hbe; exact heo
  · exact ⟨u, k b u hbe q⟩
end

/-! ### the heap without what is tracked -/
def trk (h : Heap) (H : Hp) : List Addr := (List.range h.objs.size).filter fun a => (H a).isSome
def hidT (h : Heap) (H : Hp) : Heap := PySem.W.hideAll h (trk h H)
theorem hidT_size (h : Heap) (H : Hp) : (hidT h H).objs.size = h.objs.size := PySem.W.hideAll_size _ _
theorem hidT_get {h : Heap} {H : Hp} {b : Addr} {o : Obj} (e : h.get? b = some o) (n : H b = none) : (hidT h H).get? b = some o :=
  PySem.W.hideAll_get _ e fun hm => by
    have q : (H b).isSome = true := (List.mem_filter.mp hm).2
    rw [n] at q; simp at q
theorem of_hidT {h : Heap} {H : Hp} {b : Addr} {o : Obj} (e : (hidT h H).get? b = some o) : h.get? b = some o ∧ H b = none := by
  have e' : h.get? b = some o := PySem.W.of_hideAll (trk h H) e
  refine ⟨e', ?_⟩
  cases q : H b with
  | none => rfl
  | some x =>
    have hm : b ∈ trk h H := List.mem_filter.mpr ⟨List.mem_range.mpr (Heap.lt_size e'), by simp [q]⟩
    have z : (hidT h H).get? b = none := PySem.W.hideAll_none (trk h H) hm
    rw [z] at e; cases e

/-! ### OpenK's ledger, filled with every new object but one -/
def allNews (g h : Heap) (L : Addr) : List (Addr × Obj) := (List.range h.objs.size).filterMap fun a => if a = L ∨ (g.get? a).isSome = true then none else (h.get? a).map fun o => (a, o)
def rest (g h : Heap) (L d : Addr) : List (Addr × Obj) := (allNews g h L).filter fun p => decide (p.1 ≠ d)
end L2

namespace L2
open PySem PySem.Spec PyProof.Rows

/-- the module's facts, over the base: the heap at the law's entry without what is tracked there -/
structure Mod (K : PySem.W.Frag) (mg : Str → Option Value) (base : Heap) : Prop where
  kin : K.In base
  glob : base.Ns mainGlobals mg
  blt : ∃ mb, base.Ns builtinsNs mb ∧ ∀ x : Str, x ≠ "__name__" → mb x = bootBuiltins x
  nolimit : base.NoLimit

/-- the context: a def's body (or a comprehension's block) running. base: fixed through the whole law; s₀, H₀: the entry; outer: the frames whose slots others may change (a def's callers); stack: all frames that run;
   ex: iterators that were made ahead of the entry and are walked here (a comprehension's); fn: the names whose cells were made at the entry (a def: all; a comprehension's block: its own); calm: not within an except suite; pn: pins that every state bears; xe: what is wanted of an exception that leaves the code -/
structure Cx where
  prog : Program
  w : World
  K : PySem.W.Frag
  mg : Str → Option Value
  base : Heap
  A : Around
  N : List Str
  s₀ : Shared
  H₀ : Hp
  env : Env
  outer : List Env
  stack : List Env
  ex : List Addr
  fn : Str → Bool
  calm : Bool
  pn : List (Addr × Obj)
  xe : Value → Shared → Prop
/-- the callers' frames -/
def frs (l : List Env) : List Addr := l.filterMap (·.frame)
abbrev Cx.fs (X : Cx) : List Addr := frs X.outer

def Vis (sc : Scope) (x : Str) : Prop := sc.names.lookup x = some .local ∨ sc.names.lookup x = some .cell ∨ sc.names.lookup x = some .free
def Loc (sc : Scope) (x : Str) : Prop := sc.names.lookup x = some .local ∨ sc.names.lookup x = some .cell
def Look (env : Env) (h : Heap) (m : Str → Option Value) (x : Str) (u : Value) : Prop :=
  (env.kindOf x = some .local ∧ m x = some u) ∨ ((env.kindOf x = some .cell ∨ env.kindOf x = some .free) ∧ ∃ c, env.cells.lookup x = some c ∧ h.IsCell c (some u))

structure Cx.Ok (X : Cx) : Prop where
  mod : Mod X.K X.mg X.base
  kind : X.env.scope.kind = .function
  glob : X.env.globals = mainGlobals
  blt : X.env.builtins = builtinsNs
  above : X.s₀.heap.objs.size ≤ X.env.locals
  inj : ∀ x y c, X.env.cells.lookup x = some c → X.env.cells.lookup y = some c → x = y
  has : ∀ x, (X.env.kindOf x = some .cell ∨ X.env.kindOf x = some .free) → ∃ c, X.env.cells.lookup x = some c
  cab : ∀ x c, X.fn x = true → X.env.cells.lookup x = some c → X.s₀.heap.objs.size ≤ c
  hd : X.calm = true → X.A.handled = none
  frames : X.A.frames = some X.stack
  stk : X.stack = X.outer ∨ (X.stack = X.env :: X.outer ∧ X.env.frame = some X.env.locals)
  exf : ∀ b ∈ X.ex, b ≠ X.env.locals ∧ ∀ x c, X.env.cells.lookup x = some c → c ≠ b
  bs : ∀ b o, X.base.get? b = some o → X.s₀.heap.get? b = some o ∧ X.H₀ b = none
  bsz : X.base.objs.size ≤ X.s₀.heap.objs.size
  noex : ∀ b o, X.base.get? b = some o → b ∉ X.ex
  exfs : ∀ b ∈ X.ex, b ∉ X.fs
  funs : X.s₀.heap.FunFrames X.base X.outer
  frf : ∀ b ∈ X.fs, X.H₀ b = none

structure Inv (X : Cx) (pins : List (Addr × Obj)) (σ : List (Option V)) (H : Hp) (s : Shared) : Prop where
  ok : X.Ok
  os : s.os = X.s₀.os
  bare : AllBare s.gens
  base : Un X.fs X.ex X.H₀ H X.s₀.heap s.heap
  loc : ∃ m, s.heap.Ns X.env.locals m ∧ ∀ (i : Nat) (x : Str) (v : V), X.N[i]? = some x → σ[i]? = some (some v) → Vis X.env.scope x → ∃ u, RelV v u ∧ Look X.env s.heap m x u
  cell : ∀ x c, X.env.cells.lookup x = some c → ∃ v, s.heap.IsCell c v
  free : H X.env.locals = none
  freeC : ∀ x c, X.env.cells.lookup x = some c → H c = none
  pin : ∀ p ∈ X.pn ++ pins, s.heap.get? p.1 = some p.2 ∧ H p.1 = none ∧ p.1 ≠ X.env.locals ∧ p.1 ∉ X.fs ∧ ∀ v, p.2.data ≠ .cell v
  hok : HOk X.prog X.w H s.heap
  len : σ.length = X.N.length

section
variable {X : Cx} {pins : List (Addr × Obj)} {σ : List (Option V)} {H H' : Hp} {s : Shared} {h' : Heap}

theorem Cx.Ok.nofr (ok : X.Ok) {b : Addr} {o : Obj} (e : X.base.get? b = some o) : b ∉ X.fs := fun hb => by
  have := (ok.funs.mem hb).1
  rw [e] at this; cases this
theorem Inv.bs (I : Inv X pins σ H s) : ∀ b o, X.base.get? b = some o → s.heap.get? b = some o ∧ H b = none := fun b o e =>
  ⟨I.base.keep b o (I.ok.bs b o e).1 (I.ok.bs b o e).2 (I.ok.nofr e) (I.ok.noex b o e), I.base.free b o (I.ok.bs b o e).1 (I.ok.bs b o e).2 (I.ok.noex b o e)⟩
theorem Inv.bk (I : Inv X pins σ H s) : ∀ b o, X.base.get? b = some o → s.heap.get? b = some o := fun b o e => (I.bs b o e).1
theorem Inv.mod (I : Inv X pins σ H s) : Mod X.K X.mg X.base := I.ok.mod
theorem Inv.kIn (I : Inv X pins σ H s) : X.K.In s.heap := I.ok.mod.kin.keeps I.bk
theorem Inv.lt (I : Inv X pins σ H s) : X.env.locals < s.heap.objs.size := let ⟨_, hn, _⟩ := I.loc; hn.lt
theorem Inv.sz (I : Inv X pins σ H s) : X.s₀.heap.objs.size ≤ s.heap.objs.size := Nat.le_trans I.ok.above (Nat.le_of_lt I.lt)
theorem Inv.nofs (I : Inv X pins σ H s) {a : Addr} (h : s.heap.objs.size ≤ a) : a ∉ X.fs := fun hb => by
  obtain ⟨_, o, ho, _⟩ := I.ok.funs.mem hb
  exact absurd (Nat.lt_of_lt_of_le (Heap.lt_size ho) (Nat.le_trans I.sz h)) (Nat.lt_irrefl _)
theorem Inv.cne (I : Inv X pins σ H s) : ∀ x c, X.env.cells.lookup x = some c → c ≠ X.env.locals := fun x c e z => by
  obtain ⟨v, o, ho, hd⟩ := I.cell x c e
  obtain ⟨m, ⟨o', es, ep, ho', hd', _⟩, _⟩ := I.loc
  rw [z, ho'] at ho; cases ho; rw [hd'] at hd; cases hd
theorem Inv.funs (I : Inv X pins σ H s) : s.heap.FunFrames X.base X.outer := by
  have all : ∀ (l : List Env), (∀ b ∈ frs l, b ∈ X.fs) → X.s₀.heap.FunFrames X.base l → s.heap.FunFrames X.base l := by
    intro l
    induction l with
    | nil => intro _ _; trivial
    | cons env r ih =>
      intro hs hl
      obtain ⟨hk, ⟨L, o, hf, hn, ho, hd⟩, hr⟩ := hl
      have hL : L ∈ X.fs := hs L (by unfold frs; rw [List.filterMap_cons, hf]; exact List.mem_cons_self)
      obtain ⟨sl, e⟩ := I.base.slot L o ho (I.ok.frf L hL) hL fun z => I.ok.exfs L z hL
      exact ⟨hk, ⟨L, _, hf, hn, e, hd⟩, ih (fun b hb => hs b (by unfold frs; rw [List.filterMap_cons, hf]; exact List.mem_cons_of_mem _ hb)) hr⟩
  exact all X.outer (fun _ hb => hb) I.ok.funs

/-- the frames that run, for a call -/
theorem Inv.stack (I : Inv X pins σ H s) : s.heap.FunFrames X.base X.stack := by
  rcases I.ok.stk with e | ⟨e, hf⟩
  · rw [e]; exact I.funs
  · rw [e]
    obtain ⟨m, hn, _⟩ := I.loc
    refine .cons (by rw [I.ok.kind]; decide) hf hn ?_ I.funs
    exact Heap.get?_none_of_le (Nat.le_trans I.ok.bsz I.ok.above)
theorem Inv.stkSub (I : Inv X pins σ H s) : ∀ b ∈ frs X.stack, b ∈ X.env.locals :: X.fs := fun b hb => by
  rcases I.ok.stk with e | ⟨e, hf⟩
  · rw [e] at hb; exact List.mem_cons_of_mem _ hb
  · rw [e] at hb
    unfold frs at hb
    rw [List.filterMap_cons, hf] at hb
    exact hb
theorem Inv.stkFree (I : Inv X pins σ H s) : ∀ b ∈ frs X.stack, H b = none := fun b hb => by
  rcases List.mem_cons.mp (I.stkSub b hb) with e | hb
  · rw [e]; exact I.free
  · obtain ⟨_, o, ho, _⟩ := I.ok.funs.mem hb
    exact I.base.free b o ho (I.ok.frf b hb) fun z => I.ok.exfs b z hb

/-- THE STEP: the untracked objects but the frame and the records at ch are kept (the callers' frames up to slots), the frame's map is kept, the new abstract heap is held -/
theorem Inv.step {g' : Array GenState} {t' : Nat} {d' : Drawn} {ch : List Addr} (I : Inv X pins σ H s)
    (hch : ∀ b ∈ ch, (b ∈ X.ex ∨ X.s₀.heap.objs.size ≤ b) ∧ b ≠ X.env.locals ∧ (∀ x c, X.env.cells.lookup x = some c → c ≠ b) ∧ ∀ p ∈ X.pn ++ pins, p.1 ≠ b)
    (keep : ∀ b o, b ≠ X.env.locals → b ∉ X.fs → b ∉ ch → s.heap.get? b = some o → H b = none → h'.get? b = some o)
    (slot : ∀ b o, b ≠ X.env.locals → b ∈ X.fs → b ∉ ch → s.heap.get? b = some o → H b = none → ∃ sl, h'.get? b = some { o with slots := sl }) (free : ∀ b o, b ∉ ch → s.heap.get? b = some o → H b = none → H' b = none)
    (there : ∀ b o, b ∉ ch → s.heap.get? b = some o → ∃ o', h'.get? b = some o')
    (tups : ∀ b xs, H b = some (.tup xs) → H' b = some (.tup xs)) (frzs : ∀ b o u, H b = some (.frz o u) → H' b = some (.frz o u)) (tbls : ∀ b ps, H b = some (.tbl ps) → ∃ more, H' b = some (.tbl (ps ++ more)))
    (ns : ∀ m, s.heap.Ns X.env.locals m → h'.Ns X.env.locals m) (hok : HOk X.prog X.w H' h') (hg : AllBare g') :
    Inv X pins σ H' { s with heap := h', gens := g', drawn := d', toks := t' } := by
  have neL : ∀ b o, X.s₀.heap.get? b = some o → b ≠ X.env.locals := fun b o e => Nat.ne_of_lt (Nat.lt_of_lt_of_le (Heap.lt_size e) I.ok.above)
  have neC : ∀ b o, X.s₀.heap.get? b = some o → b ∉ X.ex → b ∉ ch := fun b o e hx hb => by
    rcases (hch b hb).1 with z | z
    · exact hx z
    · exact absurd (Nat.lt_of_lt_of_le (Heap.lt_size e) z) (Nat.lt_irrefl _)
  have cellK : ∀ x c, X.env.cells.lookup x = some c → ∀ v, s.heap.IsCell c v → h'.IsCell c v := fun x c e v ⟨o, ho, hd⟩ => by
    have nch : c ∉ ch := fun z => (hch c z).2.2.1 x c e rfl
    by_cases hc : c ∈ X.fs
    · obtain ⟨sl, q⟩ := slot c o (I.cne x c e) hc nch ho (I.freeC x c e)
      exact ⟨_, q, hd⟩
    · exact ⟨o, keep c o (I.cne x c e) hc nch ho (I.freeC x c e), hd⟩
  refine ⟨I.ok, I.os, hg, ⟨fun b o e n hb hx => ?_, fun b o e n hb hx => ?_, fun b o e n hx => ?_, fun b o e hx => ?_, fun b xs e => tups b xs (I.base.tups b xs e), fun b o xs e => frzs b o xs (I.base.frzs b o xs e), fun b ps e => ?_⟩, ?_, fun x c e => ?_, ?_, fun x c e => ?_, fun p hp => ?_, hok, I.len⟩
  · exact keep b o (neL b o e) hb (neC b o e hx) (I.base.keep b o e n hb hx) (I.base.free b o e n hx)
  · obtain ⟨sl, e1⟩ := I.base.slot b o e n hb hx
    obtain ⟨sl', e2⟩ := slot b _ (neL b o e) hb (neC b o e hx) e1 (I.base.free b o e n hx)
    exact ⟨sl', e2⟩
  · obtain ⟨o', e1⟩ := I.base.there b o e hx
    exact free b o' (neC b o e hx) e1 (I.base.free b o e n hx)
  · obtain ⟨o', e1⟩ := I.base.there b o e hx
    exact there b o' (neC b o e hx) e1
  · obtain ⟨m1, e1⟩ := I.base.tbls b ps e
    obtain ⟨m2, e2⟩ := tbls b _ e1
    exact ⟨m1 ++ m2, by rw [e2, Array.append_assoc]⟩
  · obtain ⟨m, hn, hl⟩ := I.loc
    refine ⟨m, ns m hn, fun i x v e1 e2 e3 => ?_⟩
    obtain ⟨u, r, l⟩ := hl i x v e1 e2 e3
    refine ⟨u, r, ?_⟩
    rcases l with l | ⟨k, c, e, z⟩
    · exact .inl l
    · exact .inr ⟨k, c, e, cellK x c e _ z⟩
  · obtain ⟨v, z⟩ := I.cell x c e
    exact ⟨v, cellK x c e v z⟩
  · obtain ⟨m, ⟨o, _, _, ho, _⟩, _⟩ := I.loc
    exact free _ o (fun z => (hch _ z).2.1 rfl) ho I.free
  · obtain ⟨v, o, ho, hd⟩ := I.cell x c e
    exact free c o (fun z => (hch c z).2.2.1 x c e rfl) ho (I.freeC x c e)
  · obtain ⟨e, n, ne, nf, d⟩ := I.pin p hp
    have nch : p.1 ∉ ch := fun z => (hch p.1 z).2.2.2 p hp rfl
    exact ⟨keep p.1 p.2 ne nf nch e n, free p.1 p.2 nch e n, ne, nf, d⟩
/-- .. where the frame's own object is kept too -/
theorem Inv.un {t' : Nat} (I : Inv X pins σ H s) (u : Un X.fs [] H H' s.heap h') (hok : HOk X.prog X.w H' h') : Inv X pins σ H' { s with heap := h', toks := t' } := by
  obtain ⟨m, ⟨o, es, ep, ho, r⟩, _⟩ := id I.loc
  obtain ⟨sl, hL⟩ := u.any ho I.free (by simp)
  exact I.step (g' := s.gens) (d' := s.drawn) (ch := []) (fun _ z => nomatch z) (fun b o _ hb _ e n => u.keep b o e n hb (by simp)) (fun b o _ hb _ e n => u.slot b o e n hb (by simp)) (fun b o _ e n => u.free b o e n (by simp)) (fun b o _ e => u.there b o e (by simp)) u.tups u.frzs u.tbls (fun m' hm => by
    obtain ⟨o', es', ep', ho', r'⟩ := hm
    rw [ho] at ho'; cases ho'
    exact ⟨_, es', ep', hL, r'⟩) hok I.bare
/-- behind a call (or a comprehension's block): the slots of this frame may have changed too, the records at ch may have turned -/
theorem Inv.call {g' : Array GenState} {t' : Nat} {d' : Drawn} {ch : List Addr} (I : Inv X pins σ H s) (u : Un (frs X.stack) ch H H' s.heap h') (hok : HOk X.prog X.w H' h') (hg : AllBare g')
    (hch : ∀ b ∈ ch, (b ∈ X.ex ∨ X.s₀.heap.objs.size ≤ b) ∧ b ≠ X.env.locals ∧ (∀ x c, X.env.cells.lookup x = some c → c ≠ b) ∧ ∀ p ∈ X.pn ++ pins, p.1 ≠ b) :
    Inv X pins σ H' { s with heap := h', gens := g', drawn := d', toks := t' } := by
  obtain ⟨m, ⟨o, es, ep, ho, r⟩, _⟩ := id I.loc
  obtain ⟨sl, hL⟩ := u.any ho I.free fun z => (hch _ z).2.1 rfl
  exact I.step (ch := ch) hch (fun b o hL hb hc e n => u.keep b o e n (fun z => (List.mem_cons.mp (I.stkSub b z)).elim hL hb) hc) (fun b o _ _ hc e n => u.any e n hc) (fun b o hc e n => u.free b o e n hc) (fun b o hc e => u.there b o e hc) u.tups u.frzs u.tbls (fun m' hm => by
    obtain ⟨o', es', ep', ho', r'⟩ := hm
    rw [ho] at ho'; cases ho'
    exact ⟨_, es', ep', hL, r'⟩) hok hg
/-- an untracked record of ours (an iterator) has turned -/
theorem Inv.turned {t' : Nat} {it : Addr} (I : Inv X pins σ H s) (k : ∀ b o, b ≠ it → s.heap.get? b = some o → h'.get? b = some o) (hn : H it = none) (hL : it ≠ X.env.locals)
    (h1 : it ∈ X.ex ∨ X.s₀.heap.objs.size ≤ it) (h2 : ∀ x c, X.env.cells.lookup x = some c → c ≠ it) (h3 : ∀ p ∈ X.pn ++ pins, p.1 ≠ it) : Inv X pins σ H { s with heap := h', toks := t' } := by
  have nit : ∀ b u, H b = some u → b ≠ it := fun b u e z => by rw [z, hn] at e; cases e
  refine I.step (g' := s.gens) (d' := s.drawn) (ch := [it]) (fun b hb => ?_) (fun b o _ _ hc e _ => k b o (fun z => hc (by simp [z])) e) (fun b o _ _ hc e _ => ⟨o.slots, k b o (fun z => hc (by simp [z])) e⟩) (fun _ _ _ _ n => n)
    (fun b o hc e => ⟨o, k b o (fun z => hc (by simp [z])) e⟩) (fun _ _ e => e) (fun _ _ _ e => e) (fun b ps e => ⟨#[], by rw [e]; simp⟩) (fun m hm => ?_) (fun b u e => ?_) I.bare
  · have e : b = it := by simpa using hb
    subst e
    exact ⟨h1, hL, h2, h3⟩
  · obtain ⟨o, es, ep, ho, r⟩ := hm
    exact ⟨o, es, ep, k _ o (Ne.symm hL) ho, r⟩
  · refine (I.hok b u e).stay (fun c v hc q => k c v ?_ q) (fun _ q => q) fun _ _ q => q
    rcases hc with z | z
    · rw [z]; exact nit b u e
    · exact nit c _ z
theorem Inv.tok (I : Inv X pins σ H s) (t : Nat) : Inv X pins σ H { s with toks := t } := I.un (h' := s.heap) (t' := t) Un.refl I.hok
/-- all objects kept -/
theorem Inv.kept {t' : Nat} (I : Inv X pins σ H s) (k : ∀ b u, s.heap.get? b = some u → h'.get? b = some u) : Inv X pins σ H { s with heap := h', toks := t' } := I.un (Un.kept k) (I.hok.kept k)
/-- a new object laid and tracked -/
theorem Inv.laid {a : Addr} {o : HO} {t' : Nat} (I : Inv X pins σ H s) (k : ∀ b u, s.heap.get? b = some u → h'.get? b = some u) (hp : s.heap.objs.size ≤ a) (new : ObjOk X.prog X.w (upd H a o) h' a o) :
    Inv X pins σ (upd H a o) { s with heap := h', toks := t' } := I.un (Un.laid k hp (I.hok.fresh hp)) (I.hok.laid k hp new)
/-- an object written -/
theorem Inv.write {x e : Addr} {o : HO} {t' : Nat} (I : Inv X pins σ H s) (mu : Mut (H x)) (he : e = x ∨ H e = some (.own x)) (k : ∀ b u, b ≠ e → s.heap.get? b = some u → h'.get? b = some u) (heo : ∃ u, h'.get? e = some u)
    (new : ObjOk X.prog X.w (upd H x o) h' x o) : Inv X pins σ (upd H x o) { s with heap := h', toks := t' } := I.un (Un.write mu he k heo) (I.hok.write mu he k heo new)
theorem Inv.pins_of {pins' : List (Addr × Obj)} (I : Inv X pins σ H s) (h : ∀ p ∈ pins', s.heap.get? p.1 = some p.2 ∧ H p.1 = none ∧ p.1 ≠ X.env.locals ∧ p.1 ∉ X.fs ∧ ∀ v, p.2.data ≠ .cell v) : Inv X pins' σ H s :=
  ⟨I.ok, I.os, I.bare, I.base, I.loc, I.cell, I.free, I.freeC, fun p hp => (List.mem_append.mp hp).elim (fun z => I.pin p (List.mem_append_left _ z)) (h p), I.hok, I.len⟩

theorem nodup_ix {N : List Str} (hN : N.Nodup) {i j : Nat} {x : Str} (a : N[i]? = some x) (b : N[j]? = some x) : i = j := by
  obtain ⟨h1, e1⟩ := List.getElem?_eq_some_iff.mp a
  obtain ⟨h2, e2⟩ := List.getElem?_eq_some_iff.mp b
  exact (List.getElem_inj hN).mp (e1.trans e2.symm)

/-- a name is stored; what changed -/
theorem store_ok2 {M : Model} {A : Around} {E : Value → Shared → Prop} {i : Nat} {x : Str} {v : V} {u : Value} {Q : Unit → Shared → Prop} (I : Inv X pins σ H s) (hN : X.N.Nodup) (hi : X.N[i]? = some x) (hx : Loc X.env.scope x) (r : RelV v u)
    (h : ∀ s', Inv X pins (σ.set i (some v)) H s' → (∃ a, Heap.SameBut a s.heap s'.heap ∧ (a = X.env.locals ∨ X.env.cells.lookup x = some a)) → Q () s') (hf : X.fn x = true ∨ X.env.scope.names.lookup x = some .local := by first | exact .inl rfl | exact .inr rfl | assumption) : wpAny M A (storeName X.env x u) Q E s := by
  obtain ⟨m, hn, hl⟩ := id I.loc
  have hcls : (X.env.scope.kind == .class || (X.env.scope.kind == .module && X.env.locals != X.env.globals)) = false := by rw [I.ok.kind]; rfl
  have hiσ : i < σ.length := by rw [I.len]; exact (List.getElem?_eq_some_iff.mp hi).1
  have cne := I.cne
  have tracked : ∀ {a : Addr} {h' : Heap}, (∃ o, s.heap.get? a = some o ∧ H a = none) → Heap.SameBut a s.heap h' → HOk X.prog X.w H h' := fun {a h'} ha hs b ob e => by
    obtain ⟨_, _, hfree⟩ := ha
    refine (I.hok b ob e).stay (fun c w' hc q => (hs.2 c ?_).trans q) (fun _ q => q) fun _ _ q => q
    rintro rfl
    rcases hc with rfl | hc
    · rw [hfree] at e; cases e
    · rw [hfree] at hc; cases hc
  rcases hx with hk | hk
  · refine wpAny_storeName_local hk hn (fun h' hn' hs => ?_) hcls
    obtain ⟨oL, _, _, hoL, _⟩ := id hn
    refine h _ ⟨I.ok, I.os, I.bare, ⟨fun b o e n hb hx => ?_, fun b o e n hb hx => ?_, I.base.free, fun b o e hx => ?_, I.base.tups, I.base.frzs, I.base.tbls⟩, ⟨_, hn', fun j y v' e1 e2 e3 => ?_⟩, fun y c e => ?_, I.free, I.freeC, fun p hp => ?_, tracked ⟨oL, hoL, I.free⟩ hs, by simpa using I.len⟩ ⟨_, hs, .inl rfl⟩
    · exact (hs.2 b (Nat.ne_of_lt (Nat.lt_of_lt_of_le (Heap.lt_size e) I.ok.above))).trans (I.base.keep b o e n hb hx)
    · obtain ⟨sl, e1⟩ := I.base.slot b o e n hb hx
      exact ⟨sl, (hs.2 b (Nat.ne_of_lt (Nat.lt_of_lt_of_le (Heap.lt_size e) I.ok.above))).trans e1⟩
    · obtain ⟨o', e1⟩ := I.base.there b o e hx
      exact ⟨o', (hs.2 b (Nat.ne_of_lt (Nat.lt_of_lt_of_le (Heap.lt_size e) I.ok.above))).trans e1⟩
    · by_cases hj : j = i
      · subst hj
        rw [hi] at e1; cases e1
        rw [List.getElem?_set_self hiσ] at e2
        cases e2
        exact ⟨u, r, .inl ⟨hk, by simp⟩⟩
      · rw [List.getElem?_set_ne (Ne.symm hj)] at e2
        obtain ⟨u', r', q⟩ := hl j y v' e1 e2 e3
        refine ⟨u', r', ?_⟩
        rcases q with ⟨k, e⟩ | ⟨k, c, e, z⟩
        · refine .inl ⟨k, ?_⟩
          have : y ≠ x := fun e => hj (nodup_ix hN e1 (e ▸ hi))
          simp [this, e]
        · exact .inr ⟨k, c, e, z.sameBut hs (cne y c e)⟩
    · obtain ⟨w', z⟩ := I.cell y c e
      exact ⟨w', z.sameBut hs (cne y c e)⟩
    · obtain ⟨e, n, ne, nf, d⟩ := I.pin p hp
      exact ⟨(hs.2 p.1 ne).trans e, n, ne, nf, d⟩
  · have hfn : X.fn x = true := by
      rcases hf with z | z
      · exact z
      · rw [z] at hk; cases hk
    obtain ⟨c, hc⟩ := I.ok.has x (.inl hk)
    obtain ⟨w', z⟩ := I.cell x c hc
    refine wpAny_storeName_cell I.ok.kind hk hc z (fun h' hc' hs => ?_)
    obtain ⟨oc, hoc, hocd⟩ := id z
    refine h { s with heap := h' } ⟨I.ok, I.os, I.bare, ⟨fun b o e n hb hx => ?_, fun b o e n hb hx => ?_, I.base.free, fun b o e hx => ?_, I.base.tups, I.base.frzs, I.base.tbls⟩, ⟨m, hn.sameBut hs (Ne.symm (cne x c hc)), fun j y v' e1 e2 e3 => ?_⟩, fun y c' e => ?_, I.free, I.freeC, fun p hp => ?_, tracked ⟨oc, hoc, I.freeC x c hc⟩ hs, by simpa using I.len⟩ ⟨c, hs, .inr hc⟩
    · exact (hs.2 b (Nat.ne_of_lt (Nat.lt_of_lt_of_le (Heap.lt_size e) (I.ok.cab x c hfn hc)))).trans (I.base.keep b o e n hb hx)
    · obtain ⟨sl, e1⟩ := I.base.slot b o e n hb hx
      exact ⟨sl, (hs.2 b (Nat.ne_of_lt (Nat.lt_of_lt_of_le (Heap.lt_size e) (I.ok.cab x c hfn hc)))).trans e1⟩
    · obtain ⟨o', e1⟩ := I.base.there b o e hx
      exact ⟨o', (hs.2 b (Nat.ne_of_lt (Nat.lt_of_lt_of_le (Heap.lt_size e) (I.ok.cab x c hfn hc)))).trans e1⟩
    · by_cases hj : j = i
      · subst hj
        rw [hi] at e1; cases e1
        rw [List.getElem?_set_self hiσ] at e2
        cases e2
        exact ⟨u, r, .inr ⟨.inl hk, c, hc, hc'⟩⟩
      · rw [List.getElem?_set_ne (Ne.symm hj)] at e2
        obtain ⟨u', r', q⟩ := hl j y v' e1 e2 e3
        refine ⟨u', r', ?_⟩
        rcases q with q | ⟨k, c', e, z'⟩
        · exact .inl q
        · refine .inr ⟨k, c', e, z'.sameBut hs ?_⟩
          rintro rfl
          exact hj (nodup_ix hN e1 (I.ok.inj _ _ _ e hc ▸ hi))
    · by_cases hcc : c' = c
      · subst hcc; exact ⟨_, hc'⟩
      · obtain ⟨w2, z2⟩ := I.cell y c' e
        exact ⟨w2, z2.sameBut hs hcc⟩
    · obtain ⟨e, n, ne, nf, d⟩ := I.pin p hp
      refine ⟨(hs.2 p.1 ?_).trans e, n, ne, nf, d⟩
      intro q
      rw [q, hoc] at e
      have q' : oc = p.2 := Option.some.inj e
      exact d w' (by rw [← q']; exact hocd)
theorem store_ok {M : Model} {A : Around} {E : Value → Shared → Prop} {i : Nat} {x : Str} {v : V} {u : Value} {Q : Unit → Shared → Prop} (I : Inv X pins σ H s) (hN : X.N.Nodup) (hi : X.N[i]? = some x) (hx : Loc X.env.scope x) (r : RelV v u)
    (h : ∀ s', Inv X pins (σ.set i (some v)) H s' → Q () s') (hf : X.fn x = true ∨ X.env.scope.names.lookup x = some .local := by first | exact .inl rfl | exact .inr rfl | assumption) : wpAny M A (storeName X.env x u) Q E s :=
  store_ok2 I hN hi hx r (fun s' I' _ => h s' I') hf
/-- behind a call or a block, the state as it is -/
theorem Inv.call' {s' : Shared} {ch : List Addr} (I : Inv X pins σ H s) (ho : s'.os = s.os) (u : Un (frs X.stack) ch H H' s.heap s'.heap) (hok : HOk X.prog X.w H' s'.heap) (hg : AllBare s'.gens)
    (hch : ∀ b ∈ ch, (b ∈ X.ex ∨ X.s₀.heap.objs.size ≤ b) ∧ b ≠ X.env.locals ∧ (∀ x c, X.env.cells.lookup x = some c → c ≠ b) ∧ ∀ p ∈ X.pn ++ pins, p.1 ≠ b) : Inv X pins σ H' s' := by
  obtain ⟨h', g', d', t', o'⟩ := s'
  have e : o' = s.os := ho
  subst e
  exact I.call (g' := g') (t' := t') (d' := d') u hok hg hch
end

/-! ### the judgements -/
/-- an exception: its class, its own dict's address (where it has one), the abstract heap behind it -/
abbrev XK := Value → Option Addr → Hp → Prop
abbrev St := List (Option V)
abbrev VK := V → Hp → Prop
/-- an expression's reading; a test's; an argument list's -/
abbrev TE := St → Hp → VK → Prop
abbrev TT := St → Hp → (Bool → Hp → Prop) → Prop
abbrev TA := St → Hp → (List V → Hp → Prop) → Prop
/-- what is wanted behind a statement -/
structure Ends where
  nx : St → Hp → Prop
  rt : VK
  bk : St → Hp → Prop := fun _ _ => False
  ct : St → Hp → Prop := fun _ _ => False
abbrev TS := Ends → St → Hp → Prop

def EP (X : Cx) (pins : List (Addr × Obj)) (σ : St) (Q : VK) (u : Value) (s' : Shared) : Prop := ∃ v H', Inv X pins σ H' s' ∧ RelV v u ∧ Q v H'
def TP (X : Cx) (pins : List (Addr × Obj)) (σ : St) (Q : Bool → Hp → Prop) (b : Bool) (s' : Shared) : Prop := ∃ H', Inv X pins σ H' s' ∧ Q b H'
def AP (X : Cx) (pins : List (Addr × Obj)) (σ : St) (Q : List V → Hp → Prop) (us : List Value) (s' : Shared) : Prop := ∃ vs H', Inv X pins σ H' s' ∧ Vals vs us ∧ Q vs H'
def SP (X : Cx) (pins : List (Addr × Obj)) (D : Ends) (f : Flow) (s' : Shared) : Prop :=
  match f with
  | .next => ∃ σ' H', Inv X pins σ' H' s' ∧ D.nx σ' H'
  | .brk => ∃ σ' H', Inv X pins σ' H' s' ∧ D.bk σ' H'
  | .cont => ∃ σ' H', Inv X pins σ' H' s' ∧ D.ct σ' H'
  | .ret u => ∃ v σ' H', Inv X pins σ' H' s' ∧ RelV v u ∧ D.rt v H'

def PE (X : Cx) (e : Expr) (t : TE) : Prop :=
  ∀ (pins : List (Addr × Obj)) (s : Shared) (σ : St) (H : Hp) (Q : VK), Inv X pins σ H s → t σ H Q → wpAny (model X.prog X.w) X.A (eval e X.env) (EP X pins σ Q) X.xe s
def PT (X : Cx) (e : Expr) (t : TT) : Prop :=
  ∀ (pins : List (Addr × Obj)) (s : Shared) (σ : St) (H : Hp) (Q : Bool → Hp → Prop), Inv X pins σ H s → t σ H Q → wpAny (model X.prog X.w) X.A (isTrue e X.env (eval e X.env)) (TP X pins σ Q) X.xe s
/-- a test whatever its 'whole' is (and, or) -/
def PW (X : Cx) (e : Expr) (t : TT) : Prop :=
  ∀ (whole : Sem Value) (pins : List (Addr × Obj)) (s : Shared) (σ : St) (H : Hp) (Q : Bool → Hp → Prop), Inv X pins σ H s → t σ H Q → wpAny (model X.prog X.w) X.A (isTrue e X.env whole) (TP X pins σ Q) X.xe s
theorem PW.pt {X : Cx} {e : Expr} {t : TT} (h : PW X e t) : PT X e t := h _
/-- an argument list (no star), from the left -/
def PA (X : Cx) (es : List Expr) (t : TA) : Prop :=
  ∀ (pos : Pos) (pins : List (Addr × Obj)) (s : Shared) (σ : St) (H : Hp) (Q : List V → Hp → Prop), Inv X pins σ H s → t σ H Q → wpAny (model X.prog X.w) X.A (spliced (backTo pos (starEach es X.env))) (AP X pins σ Q) X.xe s
def PS (X : Cx) (st : Stmt) (t : TS) : Prop :=
  ∀ (pins : List (Addr × Obj)) (s : Shared) (σ : St) (H : Hp) (D : Ends), Inv X pins σ H s → t D σ H → wpAny (model X.prog X.w) X.A (exec st X.env) (SP X pins D) X.xe s
def PSs (X : Cx) (st : List Stmt) (t : TS) : Prop :=
  ∀ (pins : List (Addr × Obj)) (s : Shared) (σ : St) (H : Hp) (D : Ends), Inv X pins σ H s → t D σ H → wpAny (model X.prog X.w) X.A (execs st X.env) (SP X pins D) X.xe s
/-- weaken the end -/
theorem thn {α : Type} {t : Sem α} {Q Q' : α → Shared → Prop} {M : Model} {A : Around} {E : Value → Shared → Prop} {s : Shared} (h : wpAny M A t Q E s) (hQ : ∀ a s, Q a s → Q' a s) : wpAny M A t Q' E s := wpAny_mono h hQ fun _ _ x => x
end L2

namespace L2
open PySem PySem.Spec PyProof.Rows
section
variable {X : Cx}

/-- two expressions in a row -/
theorem bin {a b : Expr} {ta tb : TE} (ha : PE X a ta) (hb : PE X b tb) {pins : List (Addr × Obj)} {s : Shared} {σ : St} {H : Hp} {R : V → V → Hp → Prop} (I : Inv X pins σ H s) (h : ta σ H fun x H1 => tb σ H1 fun y H2 => R x y H2)
    {α : Type} {Q : α → Shared → Prop} {f : Value → Value → Sem α}
    (hf : ∀ v u s2 x y H2, Inv X pins σ H2 s2 → RelV x v → RelV y u → R x y H2 → wpAny (model X.prog X.w) X.A (f v u) Q X.xe s2) :
    wpAny (model X.prog X.w) X.A (eval a X.env) (fun v s₁ => wpAny (model X.prog X.w) X.A (eval b X.env) (fun u s₂ => wpAny (model X.prog X.w) X.A (f v u) Q X.xe s₂) X.xe s₁) X.xe s := by
  refine thn (ha pins s σ H _ I h) fun v s1 ⟨x, H1, I1, r1, q1⟩ => ?_
  refine thn (hb pins s1 σ H1 _ I1 q1) fun u s2 ⟨y, H2, I2, r2, q2⟩ => ?_
  exact hf v u s2 x y H2 I2 r1 r2 q2

/-! ### names and constants -/
def tVar (i : Nat) : TE := fun σ H Q => ∃ v, σ[i]? = some (some v) ∧ Q v H
def tC (v : V) : TE := fun _ H Q => Q v H
theorem pe_var {i : Nat} {x : Str} {pos : Pos} (hN : X.N[i]? = some x) (hv : Vis X.env.scope x) (hd : (x == ("__debug__" : Str)) = false := by decide) (hcd : (x == ("__classdict__" : Str)) = false := by decide) : PE X (.Name x pos) (tVar i) := by
  intro pins s σ H Q I h
  obtain ⟨v, e, h⟩ := h
  obtain ⟨m, hn, hl⟩ := I.loc
  obtain ⟨u, r, l⟩ := hl i x v hN e hv
  have fin : EP X pins σ Q u s := ⟨v, H, I, r, h⟩
  rcases l with ⟨hk, hm⟩ | ⟨hk, c, hc, hcell⟩
  · exact wpAny_Name (wpAny_loadName_local I.ok.kind hk hn hm fin) hd
  · rcases hk with hk | hk
    · exact wpAny_Name (wpAny_loadName_cell I.ok.kind hk hc hcell fin) hd
    · exact wpAny_Name (wpAny_loadName_free I.ok.kind hk hc hcell fin hcd) hd
theorem pe_int {i j pos} : PE X (.Constant (.int i) j pos) (tC (.int i)) := fun _ _ _ H _ I h => wpAny_Constant_int ⟨.int i, H, I.tok _, ⟨_, rfl⟩, h⟩
theorem pe_bl {b j pos} : PE X (.Constant (.bool b) j pos) (tC (.bl b)) := fun _ _ _ H _ I h => Constant_bool ⟨.bl b, H, I, rfl, h⟩
theorem pe_non {j pos} : PE X (.Constant .none j pos) (tC .non) := fun _ _ _ H _ I h => Constant_none ⟨.non, H, I, rfl, h⟩
theorem pe_str {x j pos} : PE X (.Constant (.str x) j pos) (tC (.str x)) := fun _ _ _ H _ I h => Calls.Constant_str ⟨.str x, H, I.tok _, ⟨_, rfl⟩, h⟩

/-- a global name of the def -/
def Gl (X : Cx) (x : Str) : Prop := X.env.kindOf x = some .globalImplicit
theorem ld_glob {E : Value → Shared → Prop} {pins : List (Addr × Obj)} {s : Shared} {σ : St} {H : Hp} {x : Str} {u : Value} {pos : Pos} {Q : Value → Shared → Prop} (I : Inv X pins σ H s) (hg : Gl X x) (hm : X.mg x = some u) (h : Q u s)
    (hd : (x == ("__debug__" : Str)) = false := by decide) : wpAny (model X.prog X.w) X.A (eval (.Name x pos) X.env) Q E s :=
  Calls.Name_function_global I.ok.kind hg (Calls.loadGlobal_global (by rw [I.ok.glob]; exact I.mod.glob.keeps I.bk) hm h) hd
theorem ld_blt {E : Value → Shared → Prop} {pins : List (Addr × Obj)} {s : Shared} {σ : St} {H : Hp} {x : Str} {u : Value} {pos : Pos} {Q : Value → Shared → Prop} (I : Inv X pins σ H s) (hg : Gl X x) (hm : X.mg x = none) (hv : bootBuiltins x = some u) (h : Q u s)
    (hn : x ≠ "__name__" := by decide) (hd : (x == ("__debug__" : Str)) = false := by decide) : wpAny (model X.prog X.w) X.A (eval (.Name x pos) X.env) Q E s := by
  obtain ⟨mb, h1, h2⟩ := I.mod.blt
  exact Calls.Name_function_global I.ok.kind hg (Calls.loadGlobal_builtin (by rw [I.ok.glob]; exact I.mod.glob.keeps I.bk) hm (by rw [I.ok.blt]; exact h1.keeps I.bk) ((h2 x hn).trans hv) h) hd
/-- a module's constant, a class, a function, as a value -/
theorem pe_glob {x : Str} {v : V} {u : Value} {pos : Pos} (hg : Gl X x) (hm : X.mg x = some u) (r : RelV v u) (hd : (x == ("__debug__" : Str)) = false := by decide) : PE X (.Name x pos) (tC v) :=
  fun _ _ _ H _ I h => ld_glob I hg hm ⟨v, H, I, r, h⟩ hd
theorem pe_bltn {x : Str} {v : V} {u : Value} {pos : Pos} (hg : Gl X x) (hm : X.mg x = none) (hv : bootBuiltins x = some u) (r : RelV v u) (hn : x ≠ "__name__" := by decide) (hd : (x == ("__debug__" : Str)) = false := by decide) : PE X (.Name x pos) (tC v) :=
  fun _ _ _ H _ I h => ld_blt I hg hm hv ⟨v, H, I, r, h⟩ hn hd

/-! ### arithmetic -/
variable {a b : Expr} {ta tb : TE} {pos : Pos}
/-! ### comparisons -/
def PC (X : Cx) (op : CmpOp) (a b : Expr) (t : TE) : Prop :=
  ∀ (pins : List (Addr × Obj)) (s : Shared) (σ : St) (H : Hp) (Q : VK), Inv X pins σ H s → t σ H Q →
    wpAny (model X.prog X.w) X.A (eval a X.env) (fun v s₁ => wpAny (model X.prog X.w) X.A (eval b X.env) (fun u s₂ => wpAny (model X.prog X.w) X.A (compareOp op v u) (EP X pins σ Q) X.xe s₂) X.xe s₁) X.xe s
/-- a comparison as a value, as a test -/
def tB (t : TE) : TT := fun σ H Q => t σ H fun x H1 => ∃ c, x = .bl c ∧ Q c H1
theorem pt_cmp {op : CmpOp} {t : TE} (h : PC X op a b t) (h1 : behindInMarks op b = false := by first | exact nobehind _ (by decide) (by decide) | rfl) : PT X (.Compare a [op] [b] pos) (tB t) := by
  intro pins s σ H Q I hw
  refine wpAny_isTrue_Compare1 (thn (h pins s σ H _ I hw) fun v s1 h1 => thn h1 fun u s2 h2 => thn h2 fun c s3 ⟨x, H1, I1, r1, q1⟩ => ?_) h1
  obtain ⟨d, rfl, q⟩ := q1
  cases r1
  exact wpAny_truthy_bool ⟨H1, I1, q⟩
/-- an expression whose value is a bool, as a test -/
theorem pt_val {e : Expr} {t : TE} (h : PE X e t) (he : ∀ whole, isTrue e X.env whole = (do let v ← whole; standAt e.pos; holding [v] (truthy v)) := by intro _; rfl) : PT X e (tB t) := by
  intro pins s σ H Q I hw
  refine isTrue_plain (thn (h pins s σ H _ I hw) fun v s1 ⟨x, H1, I1, r1, q1⟩ => ?_) (he _)
  obtain ⟨d, rfl, q⟩ := q1
  cases r1
  exact wpAny_truthy_bool ⟨H1, I1, q⟩

/-! ### and, or, not -/
variable {tA tB' : TT} {rest : List Expr}
def tAnd (t u : TT) : TT := fun σ H Q => t σ H fun c H1 => if c = true then u σ H1 Q else Q false H1
def tOr (t u : TT) : TT := fun σ H Q => t σ H fun c H1 => if c = true then Q true H1 else u σ H1 Q
def tNot (t : TT) : TT := fun σ H Q => t σ H fun c H1 => Q (!c) H1
theorem pw_and1 (ha : PT X a tA) : PW X (.BoolOp .And [a] pos) tA := by
  intro wh pins s σ H Q I h
  refine isTrue_and (thn (ha pins s σ H Q I h) fun c s1 e => ?_)
  cases c with
  | true => exact isTrue_and_nil e
  | false => exact e
theorem pw_or1 (ha : PT X a tA) : PW X (.BoolOp .Or [a] pos) tA := by
  intro wh pins s σ H Q I h
  refine isTrue_or (thn (ha pins s σ H Q I h) fun c s1 e => ?_)
  cases c with
  | false => exact isTrue_or_nil e
  | true => exact e
theorem pw_and (ha : PT X a tA) (hb : PW X (.BoolOp .And (b :: rest) pos) tB') : PW X (.BoolOp .And (a :: b :: rest) pos) (tAnd tA tB') := by
  intro wh pins s σ H Q I h
  refine isTrue_and (thn (ha pins s σ H _ I h) fun c s1 ⟨H1, I1, q1⟩ => ?_)
  cases c with
  | true => exact hb wh pins s1 σ H1 Q I1 q1
  | false => exact ⟨H1, I1, q1⟩
theorem pw_or (ha : PT X a tA) (hb : PW X (.BoolOp .Or (b :: rest) pos) tB') : PW X (.BoolOp .Or (a :: b :: rest) pos) (tOr tA tB') := by
  intro wh pins s σ H Q I h
  refine isTrue_or (thn (ha pins s σ H _ I h) fun c s1 ⟨H1, I1, q1⟩ => ?_)
  cases c with
  | true => exact ⟨H1, I1, q1⟩
  | false => exact hb wh pins s1 σ H1 Q I1 q1
theorem pt_not (ha : PT X a tA) : PT X (.UnaryOp .Not a pos) (tNot tA) := by
  intro pins s σ H Q I h
  exact isTrue_not (ha pins s σ H (fun c H1 => Q (!c) H1) I h)
/-- .. as values (bools) -/
def tAndV (ta tb : TE) : TE := fun σ H Q => ta σ H fun x H1 => ∃ c, x = .bl c ∧ if c = true then tb σ H1 Q else Q (.bl false) H1
def tOrV (ta tb : TE) : TE := fun σ H Q => ta σ H fun x H1 => ∃ c, x = .bl c ∧ if c = true then Q (.bl true) H1 else tb σ H1 Q
theorem pe_one {op} {t : TE} (h : PE X a t) : PE X (.BoolOp op [a] pos) t := fun pins s σ H Q I hw => BoolOp_one (h pins s σ H Q I hw)
theorem pe_and (ha : PE X a ta) (hb : PE X (.BoolOp .And (b :: rest) pos) tb) : PE X (.BoolOp .And (a :: b :: rest) pos) (tAndV ta tb) := by
  intro pins s σ H Q I h
  refine BoolOp_and (thn (ha pins s σ H _ I h) fun v s1 ⟨x, H1, I1, r1, q1⟩ => ?_)
  obtain ⟨c, rfl, q1⟩ := q1
  cases r1
  refine wpAny_truthy_bool ?_
  cases c with
  | true => exact hb pins s1 σ H1 Q I1 q1
  | false => exact ⟨.bl false, H1, I1, rfl, q1⟩
theorem pe_or (ha : PE X a ta) (hb : PE X (.BoolOp .Or (b :: rest) pos) tb) : PE X (.BoolOp .Or (a :: b :: rest) pos) (tOrV ta tb) := by
  intro pins s σ H Q I h
  refine BoolOp_or (thn (ha pins s σ H _ I h) fun v s1 ⟨x, H1, I1, r1, q1⟩ => ?_)
  obtain ⟨c, rfl, q1⟩ := q1
  cases r1
  refine wpAny_truthy_bool ?_
  cases c with
  | false => exact hb pins s1 σ H1 Q I1 q1
  | true => exact ⟨.bl true, H1, I1, rfl, q1⟩
end
end L2

namespace L2
open PySem PySem.Spec PyProof.Rows

/-! ### a list, a tuple that is read: tracked, frozen, or an object of the module -/
def SqL (K : PySem.W.Frag) (H : Hp) (a : Addr) (xs : List V) : Prop :=
  Rd H a (.lst xs) ∨
    ∃ (o : Obj) (its : Array Value) (n : Nat), K.lookup a = some o ∧ o.cls = .type "list" ∧ o.dict = none ∧ o.data = .seq its n ∧ its.size ≤ sizeLine ∧ Vals xs its.toList
def SqT (K : PySem.W.Frag) (H : Hp) (a : Addr) (xs : List V) : Prop :=
  Rd H a (.tup xs) ∨
    ∃ (o : Obj) (its : Array Value) (n : Nat), K.lookup a = some o ∧ o.cls = .type "tuple" ∧ o.data = .seq its n ∧ its.size ≤ sizeLine ∧ Vals xs its.toList
def absV : Value → Option V
  | .none => some .non
  | .bool b => some (.bl b)
  | .int i _ => some (.int i)
  | .str x _ => some (.str x)
  | .bytes b _ => some (.byt b)
  | .float b _ => some (.flt b)
  | .ref a => some (.ref a)
  | .type n => some (.ty n)
  | _ => none
theorem RelV.abs {x : V} {u : Value} (r : RelV x u) : absV u = some x := by
  cases x with
  | non => cases r; rfl
  | bl _ => cases r; rfl
  | int _ => obtain ⟨t, rfl⟩ := r; rfl
  | str _ => obtain ⟨t, rfl⟩ := r; rfl
  | byt _ => obtain ⟨t, rfl⟩ := r; rfl
  | flt _ => obtain ⟨t, rfl⟩ := r; rfl
  | ref _ => cases r; rfl
  | ty _ => cases r; rfl
theorem RelV.inj {x y : V} {u : Value} (r : RelV x u) (q : RelV y u) : x = y := Option.some.inj (r.abs.symm.trans q.abs)
theorem Vals.inj {xs ys : List V} {us : List Value} (h : Vals xs us) : Vals ys us → xs = ys := by
  induction h generalizing ys with
  | nil => intro q; cases q; rfl
  | cons r t ih => intro q; cases q with | cons r' t' => rw [r.inj r', ih t']
section
variable {X : Cx} {pins : List (Addr × Obj)} {σ : St} {H : Hp} {s : Shared} {a : Addr} {xs ys : List V}
theorem SqL.of {K : PySem.W.Frag} (h : H a = some (.lst xs)) : SqL K H a xs := .inl (.inl h)
theorem SqT.of {K : PySem.W.Frag} (h : H a = some (.tup xs)) : SqT K H a xs := .inl (.inl h)
theorem Inv.list (I : Inv X pins σ H s) (h : SqL X.K H a xs) : ∃ its : List Value, Vals xs its ∧ PlainL s.heap a its.toArray ∧ xs.length ≤ sizeLine := by
  rcases h with h | ⟨o, its, n, hk, hc, hd, hs, hz, r⟩
  · obtain ⟨z, its, n, r, e⟩ := h.ok I.hok
    exact ⟨its, r, ⟨_, n, e, rfl, rfl, rfl⟩, z⟩
  · refine ⟨its.toList, r, ⟨o, n, I.kIn a o hk, hc, hd, by simpa using hs⟩, ?_⟩
    have e := r.length
    simp only [Array.length_toList] at e
    omega
theorem Inv.tuple (I : Inv X pins σ H s) (h : SqT X.K H a xs) : ∃ its : List Value, Vals xs its ∧ IsTup s.heap a its.toArray ∧ xs.length ≤ sizeLine := by
  rcases h with h | ⟨o, its, n, hk, hc, hs, hz, r⟩
  · obtain ⟨z, its, r, p⟩ := h.ok I.hok
    exact ⟨its, r, p, z⟩
  · refine ⟨its.toList, r, ⟨o, I.kIn a o hk, hc, n, by simpa using hs⟩, ?_⟩
    have e := r.length
    simp only [Array.length_toList] at e
    omega
theorem Inv.list_inj (I : Inv X pins σ H s) (h : SqL X.K H a xs) (h' : SqL X.K H a ys) : xs = ys := by
  obtain ⟨its, r, ⟨o, n, e, _, _, d⟩, _⟩ := I.list h
  obtain ⟨its', r', ⟨o', n', e', _, _, d'⟩, _⟩ := I.list h'
  rw [e] at e'; cases e'
  rw [d] at d'
  injection d' with d1 _
  have : its = its' := by simpa using congrArg Array.toList d1
  subst this
  exact r.inj r'
end

/-! ### another wish about exceptions -/
abbrev Cx.wish (X : Cx) (E : Value → Shared → Prop) : Cx := { X with xe := E }
/-- no exception leaves -/
abbrev Cx.nox (X : Cx) : Cx := X.wish fun _ _ => False
theorem Cx.Ok.wish {X : Cx} (ok : X.Ok) (E : Value → Shared → Prop) : (X.wish E).Ok :=
  ⟨ok.mod, ok.kind, ok.glob, ok.blt, ok.above, ok.inj, ok.has, ok.cab, ok.hd, ok.frames, ok.stk, ok.exf, ok.bs, ok.bsz, ok.noex, ok.exfs, ok.funs, ok.frf⟩
theorem Cx.Ok.unwish {X : Cx} {E : Value → Shared → Prop} (ok : (X.wish E).Ok) : X.Ok :=
  ⟨ok.mod, ok.kind, ok.glob, ok.blt, ok.above, ok.inj, ok.has, ok.cab, ok.hd, ok.frames, ok.stk, ok.exf, ok.bs, ok.bsz, ok.noex, ok.exfs, ok.funs, ok.frf⟩
section
variable {X : Cx} {pins : List (Addr × Obj)} {σ : St} {H : Hp} {s : Shared} {E : Value → Shared → Prop}
theorem Inv.wish (I : Inv X pins σ H s) (E : Value → Shared → Prop) : Inv (X.wish E) pins σ H s := ⟨I.ok.wish E, I.os, I.bare, I.base, I.loc, I.cell, I.free, I.freeC, I.pin, I.hok, I.len⟩
theorem Inv.unwish (I : Inv (X.wish E) pins σ H s) : Inv X pins σ H s := ⟨I.ok.unwish, I.os, I.bare, I.base, I.loc, I.cell, I.free, I.freeC, I.pin, I.hok, I.len⟩
theorem SP.unwish {D : Ends} {f : Flow} {s' : Shared} (h : SP (X.wish E) pins D f s') : SP X pins D f s' := by
  cases f with
  | next => obtain ⟨σ', H', I, q⟩ := h; exact ⟨σ', H', I.unwish, q⟩
  | brk => obtain ⟨σ', H', I, q⟩ := h; exact ⟨σ', H', I.unwish, q⟩
  | cont => obtain ⟨σ', H', I, q⟩ := h; exact ⟨σ', H', I.unwish, q⟩
  | ret u => obtain ⟨v, σ', H', I, r, q⟩ := h; exact ⟨v, σ', H', I.unwish, r, q⟩
theorem PSs.nox {st : List Stmt} {t : TS} (h : PSs X.nox st t) : PSs X st t := fun pins s σ H D I hw =>
  wpAny_mono (h pins s σ H D (I.wish _) hw) (fun _ _ q => q.unwish) fun _ _ z => False.elim z
end

/-! ### blocks and small statements -/
section
variable {X : Cx} {st : Stmt} {rest : List Stmt} {t u : TS} {e : Expr} {te : TE} {pos : Pos}
def tNext : TS := fun D σ H => D.nx σ H
def tSeq (t u : TS) : TS := fun D σ H => t { D with nx := u D } σ H
theorem pss_nil : PSs X [] tNext := fun _ _ σ H _ I h => wpAny_execs_nil ⟨σ, H, I, h⟩
theorem pss_cons (h1 : PS X st t) (h2 : PSs X rest u) : PSs X (st :: rest) (tSeq t u) := by
  intro pins s σ H D I h
  refine wpAny_execs_cons (thn (h1 pins s σ H { D with nx := u D } I h) fun f s1 q => ?_)
  cases f with
  | next =>
    obtain ⟨σ', H', I', q⟩ := q
    exact h2 pins s1 σ' H' D I' q
  | ret v => exact q
  | brk => exact q
  | cont => exact q
theorem pss_one (h1 : PS X st t) : PSs X [st] t := by
  intro pins s σ H D I h
  refine wpAny_execs_cons (thn (h1 pins s σ H D I h) fun f s1 q => ?_)
  cases f with
  | next => exact wpAny_execs_nil q
  | ret v => exact q
  | brk => exact q
  | cont => exact q
/-- in a def's body nothing is shown -/
theorem Inv.quiet {pins : List (Addr × Obj)} {σ : St} {H : Hp} {s : Shared} (I : Inv X pins σ H s) : interactive X.env = false := by simp [interactive, I.ok.kind]
/-- an expression whose value is dropped -/
def tDrop (te : TE) : TS := fun D σ H => te σ H fun _ H1 => D.nx σ H1
theorem ps_expr (he : PE X e te) (hs : swapsWith e none pos.line X.env = pure false := by rfl) : PS X (.Expr e pos) (tDrop te) := by
  intro pins s σ H D I h
  exact wpAny_Expr_any (thn (he pins s σ H _ I h) fun v s1 ⟨x, H1, I1, r1, q1⟩ => ⟨σ, H1, I1, q1⟩) I.quiet hs
def tRet (te : TE) : TS := fun D σ H => te σ H D.rt
theorem ps_ret (he : PE X e te) : PS X (.Return (some e) pos) (tRet te) := by
  intro pins s σ H D I h
  exact wpAny_Return_some (thn (he pins s σ H _ I h) fun v s1 ⟨x, H1, I1, r1, q1⟩ => ⟨x, σ, H1, I1, r1, q1⟩)
def tIfS (c : TT) (t u : TS) : TS := fun D σ H => c σ H fun b H1 => if b = true then t D σ H1 else u D σ H1
theorem ps_if {c : Expr} {a b : List Stmt} {tc : TT} (hc : PT X c tc) (ha : PSs X a t) (hb : PSs X b u) : PS X (.If c a b pos) (tIfS tc t u) := by
  intro pins s σ H D I h
  refine wpAny_If (thn (hc pins s σ H _ I h) fun d s1 ⟨H1, I1, q1⟩ => ?_)
  cases d with
  | true => exact ha pins s1 σ H1 D I1 q1
  | false => exact hb pins s1 σ H1 D I1 q1
end

/-! ### targets -/
abbrev TG := V → St → Hp → (St → Hp → Prop) → Prop
abbrev TGs := List V → St → Hp → (St → Hp → Prop) → Prop
def PG (X : Cx) (target : Expr) (t : TG) : Prop :=
  ∀ (pins : List (Addr × Obj)) (s : Shared) (σ : St) (H : Hp) (v : V) (u : Value) (Q : St → Hp → Prop), Inv X pins σ H s → RelV v u → t v σ H Q →
    wpAny (model X.prog X.w) X.A (assign target X.env u) (fun _ s' => ∃ σ' H', Inv X pins σ' H' s' ∧ Q σ' H') X.xe s
/-- several targets, one after another -/
def PGs (X : Cx) (ts : List Expr) (t : TGs) : Prop :=
  ∀ (pins : List (Addr × Obj)) (s : Shared) (σ : St) (H : Hp) (vs : List V) (us : List Value) (Q : St → Hp → Prop), Inv X pins σ H s → Vals vs us → t vs σ H Q →
    wpAny (model X.prog X.w) X.A (assignInOrder ((assignEach ts X.env).map (·.2)) us) (fun _ s' => ∃ σ' H', Inv X pins σ' H' s' ∧ Q σ' H') X.xe s
/-- o[i] = v, by values -/
abbrev TSet := V → V → V → Hp → (Hp → Prop) → Prop
def PSet (X : Cx) (t : TSet) : Prop :=
  ∀ (pins : List (Addr × Obj)) (s : Shared) (σ : St) (H : Hp) (o i v : V) (ov iv u : Value) (Q : Hp → Prop), Inv X pins σ H s → RelV o ov → RelV i iv → RelV v u → t o i v H Q →
    wpAny (model X.prog X.w) X.A (setItem ov iv u) (fun _ s' => ∃ H', Inv X pins σ H' s' ∧ Q H') X.xe s
section
variable {X : Cx} {pos : Pos}
def gName (i : Nat) : TG := fun v σ H Q => Q (σ.set i (some v)) H
theorem pg_name {i : Nat} {x : Str} (hN : X.N.Nodup) (hi : X.N[i]? = some x) (hx : Loc X.env.scope x) (hf : X.fn x = true ∨ X.env.scope.names.lookup x = some .local := by first | exact .inl rfl | exact .inr rfl | assumption) : PG X (.Name x pos) (gName i) := by
  intro pins s σ H v u Q I r h
  exact wpAny_assign_Name (store_ok I hN hi hx r (fun s' I' => ⟨_, H, I', h⟩) hf)
def gNil : TGs := fun vs σ H Q => vs = [] ∧ Q σ H
def gCons (t : TG) (u : TGs) : TGs := fun vs σ H Q => ∃ v r, vs = v :: r ∧ t v σ H fun σ' H' => u r σ' H' Q
theorem pgs_nil : PGs X [] gNil := by
  intro pins s σ H vs us Q I r h
  obtain ⟨e, h⟩ := h
  subst e
  cases r
  exact assignInOrder_nil ⟨σ, H, I, h⟩
theorem pgs_cons {e : Expr} {es : List Expr} {t : TG} {u : TGs} (h1 : PG X e t) (h2 : PGs X es u)
    (hs : (assignEach (e :: es) X.env).map (·.2) = assign e X.env :: (assignEach es X.env).map (·.2) := by rfl) : PGs X (e :: es) (gCons t u) := by
  intro pins s σ H vs us Q I r h
  obtain ⟨v, vr, e1, h⟩ := h
  subst e1
  cases r with
  | cons r rr =>
    rw [hs]
    refine assignInOrder_cons (thn (h1 pins s σ H _ _ _ I r h) fun _ s1 ⟨σ1, H1, I1, q1⟩ => ?_)
    exact h2 pins s1 σ1 H1 _ _ Q I1 rr q1
/-- (a, b, ..) = a tuple of that length -/
def gTup (K : PySem.W.Frag) (n : Nat) (t : TGs) : TG := fun v σ H Q => ∃ a xs, v = .ref a ∧ SqT K H a xs ∧ xs.length = n ∧ t xs σ H Q
theorem pg_tup {es : List Expr} {k : Nat} {t : TGs} {n : Nat} (hc : X.calm = true) (h : PGs X es t)
    (hn : (assignEach es X.env).length = n := by rfl) (hst : (assignEach es X.env).findIdx? (·.1) = none := by rfl) : PG X (.Tuple es k pos) (gTup X.K n t) := by
  intro pins s σ H v u Q I r hw
  obtain ⟨a, xs, e1, hq, hl, hw⟩ := hw
  subst e1
  cases r
  obtain ⟨its, rv, ht, hz⟩ := I.tuple hq
  refine assign_Tuple_tuple (I.ok.hd hc) ht (by simp [hn, ← hl, rv.length]) hst fun h' hx => ?_
  have I1 : Inv X pins σ H { s with heap := h' } := I.kept (t' := s.toks) fun b o e => hx b o (Nat.ne_of_lt (Heap.lt_size e)) e
  exact h pins _ σ H xs _ Q I1 (by simpa using rv) hw
/-- o[i] = .. -/
def gSub (to ti : TE) (t : TSet) : TG := fun v σ H Q => to σ H fun o H1 => ti σ H1 fun i H2 => t o i v H2 fun H3 => Q σ H3
theorem pg_sub {o i : Expr} {to ti : TE} {t : TSet} (ho : PE X o to) (hi : PE X i ti) (hs : PSet X t)
    (ha : ∀ v, assign (.Subscript o i pos) X.env v = (do
      let ov ← holding [v] (eval o X.env)
      let iv ← holding [v, ov] (eval i X.env)
      standAt pos
      holding [v, ov, iv] (setItem ov iv v)
      release [v, ov, iv] []) := by intro _; rfl) : PG X (.Subscript o i pos) (gSub to ti t) := by
  intro pins s σ H v u Q I r h
  rw [ha]
  refine wpAny_bind (wpAny_holding (thn (ho pins s σ H _ I h) fun ov s1 ⟨x, H1, I1, r1, q1⟩ => ?_))
  refine wpAny_bind (wpAny_holding (thn (hi pins s1 σ H1 _ I1 q1) fun iv s2 ⟨y, H2, I2, r2, q2⟩ => ?_))
  refine wpAny_bind (wpAny_standAt (wpAny_bind (wpAny_holding (thn (hs pins s2 σ H2 x y v ov iv u _ I2 r1 r2 r q2) fun _ s3 ⟨H3, I3, q3⟩ => ?_))))
  exact wpAny_release ⟨σ, H3, I3, q3⟩
/-- target = value -/
def tAsg (te : TE) (g : TG) : TS := fun D σ H => te σ H fun x H1 => g x σ H1 D.nx
theorem ps_asg {tg e : Expr} {te : TE} {g : TG} (he : PE X e te) (hg : PG X tg g) (hs : swapsWithSole [tg] e pos.line X.env = pure false := by rfl) (hw : swappedStores [tg] e X.env = pure none := by rfl)
    (h1 : (assignEach [tg] X.env).map (·.2) = [assign tg X.env] := by rfl) : PS X (.Assign [tg] e pos) (tAsg te g) := by
  intro pins s σ H D I h
  refine wpAny_Assign_stores (thn (he pins s σ H _ I h) fun v s1 ⟨x, H1, I1, r1, q1⟩ => ?_) hs hw
  rw [h1]
  exact thn (hg pins s1 σ H1 x v _ I1 r1 q1) fun _ s2 q => q
/-- name = value -/
theorem ps_set {i : Nat} {x : Str} {e : Expr} {te : TE} {pos' : Pos} (hN : X.N.Nodup) (hi : X.N[i]? = some x) (hx : Loc X.env.scope x) (he : PE X e te) (hs : swapsWith e (some (.Name x pos')) pos.line X.env = pure false := by rfl) (hf : X.fn x = true ∨ X.env.scope.names.lookup x = some .local := by first | exact .inl rfl | exact .inr rfl | assumption) :
    PS X (.Assign [.Name x pos'] e pos) (tAsg te (gName i)) := by
  intro pins s σ H D I h
  refine wpAny_Assign_Name (thn (he pins s σ H _ I h) fun v s1 ⟨y, H1, I1, r1, q1⟩ => ?_) hs
  exact store_ok I1 hN hi hx r1 (fun s2 I2 => ⟨_, H1, I2, q1⟩) hf
/-- a, b = x, y with plain local names: stored from the right; the pair itself is not tracked (the opening rows as in PyProof/Rows/TupAssign.lean:23) -/
def tPar (i j : Nat) (ta : TA) : TS := fun D σ H => ta σ H fun vs H1 => ∃ v w, vs = [v, w] ∧ D.nx ((σ.set i (some v)).set j (some w)) H1
theorem ps_par {i j : Nat} {x y : Str} {a b : Expr} {ta : TA} {px py pt : Pos} {kt k2 pt2} (hc : X.calm = true) (hN : X.N.Nodup) (hi : X.N[i]? = some x) (hj : X.N[j]? = some y) (hij : i ≠ j)
    (hx : X.env.scope.names.lookup x = some .local) (hy : X.env.scope.names.lookup y = some .local) (ha : PA X [a, b] ta)
    (hw : swappedStores [.Tuple [.Name x px, .Name y py] kt pt] (.Tuple [a, b] k2 pt2) X.env = pure (some [x, y]))
    (hs : swapsWithSole [.Tuple [.Name x px, .Name y py] kt pt] (.Tuple [a, b] k2 pt2) pos.line X.env = pure false := by rfl) :
    PS X (.Assign [.Tuple [.Name x px, .Name y py] kt pt] (.Tuple [a, b] k2 pt2) pos) (tPar i j ta) := by
  intro pins s σ H D I h
  rw [exec_Assign_arm]
  refine wpAny_bind (wpAny_standAt ?_)
  rw [hs]
  refine wpAny_bind (wpAny_pure ?_)
  rw [if_neg (by decide)]
  refine wpAny_bind (Tuple_ (thn (ha _ pins s σ H _ I h) fun us s1 ⟨vs, H1, I1, r1, q1⟩ => ?_))
  obtain ⟨v, w, e1, q1⟩ := q1
  subst e1
  obtain ⟨u1, u2, rfl, rv, rw'⟩ : ∃ u1 u2, us = [u1, u2] ∧ RelV v u1 ∧ RelV w u2 := by
    cases r1 with
    | cons p q =>
      cases q with
      | cons p' q' =>
        cases q'
        exact ⟨_, _, rfl, p, p'⟩
  refine wpAny_newObj_type ?_ (by show 2 ≤ sizeLine; decide)
  have I2 : Inv X pins σ H1 { s1 with heap := s1.heap.push { cls := .type "tuple", data := .seq [u1, u2].toArray } } := I1.kept (t' := s1.toks) fun b o e => Heap.get?_push_of_some _ e
  rw [hw]
  refine wpAny_bind (wpAny_pure ?_)
  show wpAny (model X.prog X.w) X.A (do rule "assign.swapped-stores"; let items ← unpackItems (.ref s1.heap.objs.size) 2 none; assignInOrder [fun v => bindName X.env y v, fun v => bindName X.env x v] items.reverse; pure Flow.next) _ _ _
  refine wpAny_bind (wpAny_rule (wpAny_bind (unpackItems_tuple (items := #[u1, u2]) (I.ok.hd hc) (IsTup.new s1.heap _) fun h' hx' => ?_)))
  have I3 := I2.kept (h' := h') (t' := s1.toks) fun b o e => hx' b o (Nat.ne_of_lt (Heap.lt_size e)) e
  show wpAny _ _ (assignInOrder [fun v => bindName X.env y v, fun v => bindName X.env x v] [u2, u1] >>= fun _ => pure Flow.next) _ _ _
  refine wpAny_bind (assignInOrder_cons (wpAny_bindName (store_ok I3 hN hj (.inl hy) rw' (fun s2 I4 => ?_) (.inr hy))))
  refine assignInOrder_cons (wpAny_bindName (store_ok I4 hN hi (.inl hx) rv (fun s3 I5 => assignInOrder_nil (wpAny_pure ?_)) (.inr hx)))
  rw [List.set_comm _ _ (Ne.symm hij)] at I5
  exact ⟨_, H1, I5, q1⟩
end

/-! ### while -/
section
variable {X : Cx} {pos : Pos}
end

/-! ### what a loop or a comprehension walks -/
/-- at turn i: it yields x (the heap may grow), or it stops -/
structure It where
  go : Nat → Hp → Prop
  yld : Nat → Hp → V → Hp → Prop
  stop : Nat → Hp → Prop
/-- the iterator's own objects may turn: they are not the frame's, not pinned, younger than the entry (or a comprehension's own) -/
def FpOk (X : Cx) (pins : List (Addr × Obj)) (H : Hp) (b : Addr) : Prop :=
  H b = none ∧ b ≠ X.env.locals ∧ b ∉ X.fs ∧ (b ∈ X.ex ∨ X.s₀.heap.objs.size ≤ b) ∧ (∀ x c, X.env.cells.lookup x = some c → c ≠ b) ∧ ∀ p ∈ X.pn ++ pins, p.1 ≠ b
theorem Inv.fpOk {X : Cx} {pins : List (Addr × Obj)} {σ : St} {H H' : Hp} {s : Shared} {b : Addr} (I : Inv X pins σ H s) (hb : s.heap.objs.size ≤ b) (hn : H' b = none) : FpOk X pins H' b := by
  refine ⟨hn, Nat.ne_of_gt (Nat.lt_of_lt_of_le I.lt hb), I.nofs hb, .inr (Nat.le_trans I.sz hb), fun x c e z => ?_, fun p hp z => ?_⟩
  · obtain ⟨v, q⟩ := I.cell x c e
    exact absurd (Nat.lt_of_lt_of_le q.lt (by rw [z]; exact hb)) (Nat.lt_irrefl _)
  · exact absurd (Nat.lt_of_lt_of_le (Heap.lt_size (I.pin p hp).1) (by rw [z]; exact hb)) (Nat.lt_irrefl _)
structure Turn (P : Program) (w : World) (K : PySem.W.Frag) (tg : Expr) (J : It) (fp : List Addr) (it : Addr) (tn : Nat → Heap → Prop) : Prop where
  mem : it ∈ fp
  obj : ∀ i h, tn i h → ∀ b ∈ fp, ∃ o, h.get? b = some o ∧ ∀ v, o.data ≠ .cell v
  keep : ∀ i h h', tn i h → (∀ b ∈ fp, ∀ o, h.get? b = some o → h'.get? b = some o) → tn i h'
  item : ∀ (X : Cx), X.prog = P → X.w = w → X.K = K → X.calm = true → ∀ (i : Nat) (pins : List (Addr × Obj)) (s : Shared) (σ : St) (H : Hp) (E : Value → Shared → Prop), Inv X pins σ H s → (∀ b ∈ fp, FpOk X pins H b) → tn i s.heap → J.go i H →
    wpAny (model P w) X.A (pyNext (.ref it)) (fun r s1 => ∃ u, r = some u ∧
      wpAny (model P w) X.A (letOwnedTupleGo tg (.ref it) u) (fun _ s2 => ∃ x H', Inv X pins σ H' s2 ∧ RelV x u ∧ J.yld i H x H' ∧ tn (i + 1) s2.heap ∧ ∀ b ∈ fp, H' b = none) E s1) E s
  done : ∀ (X : Cx), X.prog = P → X.w = w → X.K = K → X.calm = true → ∀ (i : Nat) (pins : List (Addr × Obj)) (s : Shared) (σ : St) (H : Hp) (E : Value → Shared → Prop), Inv X pins σ H s → (∀ b ∈ fp, FpOk X pins H b) → tn i s.heap → J.stop i H →
    wpAny (model P w) X.A (pyNext (.ref it)) (fun r s1 => r = none ∧ Inv X pins σ H s1) E s
  self : ∀ (A : Around) (i : Nat) (s : Shared) (Q : Value → Shared → Prop) (E : Value → Shared → Prop), tn i s.heap → Q (.ref it) s → wpAny (model P w) A (pyIter (.ref it)) Q E s
abbrev TI := St → Hp → (It → Hp → Prop) → Prop
/-- an iterator has come -/
def PIE (X : Cx) (pins : List (Addr × Obj)) (σ : St) (tg : Expr) (R : It → Hp → Prop) (itv : Value) (s2 : Shared) : Prop :=
  ∃ (it : Addr) (fp : List Addr) (tn : Nat → Heap → Prop) (J : It) (H' : Hp), itv = .ref it ∧ Inv X pins σ H' s2 ∧ Turn X.prog X.w X.K tg J fp it tn ∧ tn 0 s2.heap ∧ (∀ b ∈ fp, FpOk X pins H' b) ∧ R J H'
def PI (X : Cx) (tg iter : Expr) (wi : TI) : Prop :=
  ∀ (pins : List (Addr × Obj)) (s : Shared) (σ : St) (H : Hp) (R : It → Hp → Prop), Inv X pins σ H s → wi σ H R →
    wpAny (model X.prog X.w) X.A (eval iter X.env) (fun v s1 => wpAny (model X.prog X.w) X.A (pyIter v) (PIE X pins σ tg R) X.xe s1) X.xe s

/-- the step ahead of the store is nothing for an iterator that keeps no tuple -/
theorem go_of {M : Model} {A : Around} {E : Value → Shared → Prop} {s : Shared} {tg : Expr} {it : Addr} {u : Value} {o : Obj} {n : String} {vs : Array Value} {Q : Unit → Shared → Prop} (ho : s.heap.get? it = some o) (hc : o.cls = .type n) (hd : o.data = .fields vs)
    (hn : ["enumerate", "zip", "dict_itemiterator", "dict_reverseitemiterator", "odict_iterator", "itertools.zip_longest", "itertools.pairwise"].contains n = false) (hQ : Q () s) : wpAny M A (letOwnedTupleGo tg (.ref it) u) Q E s := by
  unfold letOwnedTupleGo
  cases tg <;> first
    | exact wpAny_pure hQ
    | (cases u <;> first
        | exact wpAny_pure hQ
        | (refine wpAny_bind (wpAny_load ho ?_)
           rw [hc, hd]
           show wpAny M A (if (["enumerate", "zip", "dict_itemiterator", "dict_reverseitemiterator", "odict_iterator", "itertools.zip_longest", "itertools.pairwise"].contains n && vs[0]? == some (rawInt _)) = true then _ else _) Q E s
           rw [if_neg (by intro h; rw [hn, Bool.false_and] at h; cases h)]
           exact wpAny_pure hQ))

/-- the list at a, as it stands at each turn (a loop may append to it) -/
def Itl (K : PySem.W.Frag) (a : Addr) : It :=
  ⟨fun i H => ∃ xs x, SqL K H a xs ∧ xs[i]? = some x, fun i H x H' => H' = H ∧ ∀ xs, SqL K H a xs → xs[i]? = some x, fun i H => ∃ xs, SqL K H a xs ∧ xs.length ≤ i⟩
/-- lo, lo + 1, .. (n of them) -/
def Itr (lo : Int) (n : Nat) : It := ⟨fun i _ => i < n, fun i H x H' => H' = H ∧ x = .int (lo + i), fun i _ => n ≤ i⟩
theorem turn_list {P : Program} {w : World} {K : PySem.W.Frag} {tg : Expr} (a it : Addr) : Turn P w K tg (Itl K a) [it] it (fun i h => h.IsListIter it a i) where
  mem := by simp
  obj := fun i h st b hb => by
    have e : b = it := by simpa using hb
    subst e
    obtain ⟨o, e, c, d⟩ := st
    exact ⟨o, e, fun v z => by rw [d] at z; cases z⟩
  keep := fun i h h' st k => st.at fun o e => k it (by simp) o e
  item := by
    intro X hP hw hK hc i pins s σ H E I hf st hg
    subst hP hw hK
    obtain ⟨xs, x, hq, hx⟩ := hg
    obtain ⟨its, rv, p, hz⟩ := I.list hq
    obtain ⟨u, hu, ru⟩ := rv.get hx
    obtain ⟨f0, f1, f2, f3, f4, f5⟩ := hf it (by simp)
    refine wpAny_pyNext_list_item st p.isList (x := u) (by simpa using hu) fun h' st' sb => ?_
    have I1 : Inv X pins σ H { s with heap := h' } := I.turned (t' := s.toks) (fun b o hb e => (sb.2 b hb).trans e) f0 f1 f3 f4 f5
    obtain ⟨o, e, c, d⟩ := id st'
    exact ⟨u, rfl, go_of (s := { s with heap := h' }) e c d (by decide) ⟨x, H, I1, ru, ⟨rfl, fun ys hy => by rw [I.list_inj hy hq]; exact hx⟩, st', fun b hb => (hf b hb).1⟩⟩
  done := by
    intro X hP hw hK hc i pins s σ H E I hf st hg
    subst hP hw hK
    obtain ⟨xs, hq, hx⟩ := hg
    obtain ⟨its, rv, p, hz⟩ := I.list hq
    obtain ⟨f0, f1, f2, f3, f4, f5⟩ := hf it (by simp)
    have hl := rv.length
    exact wpAny_pyNext_list_end (I.ok.hd hc) st p.isList (by simp; omega) fun h' eb => ⟨rfl, I.turned (t' := s.toks) (fun b o hb e => eb b o hb e) f0 f1 f3 f4 f5⟩
  self := fun _ _ _ _ _ st h => wpAny_pyIter_listiter st h
theorem turn_range {P : Program} {w : World} {K : PySem.W.Frag} {tg : Expr} (it : Addr) (lo : Int) (n : Nat) : Turn P w K tg (Itr lo n) [it] it (fun i h => IsRangeIter h it (lo + (i : Nat) * 1) ((n : Int) - (i : Nat)) 1) where
  mem := by simp
  obj := fun i h st b hb => by
    have e : b = it := by simpa using hb
    subst e
    exact ⟨_, st, fun v z => by
      have z' : Data.fields _ = Data.cell v := z
      cases z'⟩
  keep := fun i h h' st k => k it (by simp) _ st
  item := by
    intro X hP hw hK hc i pins s σ H E I hf st hg
    subst hP hw hK
    obtain ⟨f0, f1, f2, f3, f4, f5⟩ := hf it (by simp)
    have W := Walks.range (prog := X.prog) (w := X.w) (I.ok.hd hc) it lo 1 n
    refine W.item i s _ _ hg st fun v h' tk hv st' kk => ?_
    obtain ⟨t, rfl⟩ := hv
    have I1 : Inv X pins σ H { s with heap := h', toks := tk } := I.turned (fun b o hb e => kk b o (by simpa using hb) e) f0 f1 f3 f4 f5
    refine ⟨_, rfl, go_of (s := { s with heap := h', toks := tk }) (n := "range_iterator") st' rfl rfl (by decide) ⟨.int (lo + i), H, I1, ⟨t, ?_⟩, ⟨rfl, rfl⟩, st', fun b hb => (hf b hb).1⟩⟩
    rw [Int.mul_one]
  done := by
    intro X hP hw hK hc i pins s σ H E I hf st hg
    subst hP hw hK
    obtain ⟨f0, f1, f2, f3, f4, f5⟩ := hf it (by simp)
    exact wpAny_pyNext_range_end (I.ok.hd hc) st (by have : n ≤ i := hg; omega) fun h' eb => ⟨rfl, I.turned (t' := s.toks) (fun b o hb e => eb b o hb e) f0 f1 f3 f4 f5⟩
  self := fun _ _ _ _ _ st h => wpAny_pyIter_rangeiter st h
end L2

namespace L2
open PySem PySem.Spec PyProof.Rows
section
variable {X : Cx} {tg : Expr}
def iList (K : PySem.W.Frag) (tl : TE) : TI := fun σ H R => tl σ H fun x H1 => ∃ a, x = .ref a ∧ (∃ xs, SqL K H1 a xs) ∧ R (Itl K a) H1
theorem pi_list {l : Expr} {tl : TE} (hl : PE X l tl) : PI X tg l (iList X.K tl) := by
  intro pins s σ H R I h
  refine thn (hl pins s σ H _ I h) fun v s1 ⟨x, H1, I1, r1, q1⟩ => ?_
  obtain ⟨a, e, ⟨xs, hq⟩, q⟩ := q1
  subst e
  cases r1
  obtain ⟨its, rv, p, hz⟩ := I1.list hq
  refine wpAny_pyIter_list p.isList ?_
  refine ⟨s1.heap.objs.size, [s1.heap.objs.size], _, _, H1, rfl, I1.kept (t' := s1.toks) fun b o e => Heap.get?_push_of_some _ e, turn_list a _, ⟨_, Heap.get?_push_size _ rfl, rfl, rfl⟩, fun b hb => ?_, q⟩
  have e : b = s1.heap.objs.size := by simpa using hb
  subst e
  exact I1.fpOk (Nat.le_refl _) (I1.hok.fresh (Nat.le_refl _))
/-- a range object just made, walked -/
theorem range_it {pins : List (Addr × Obj)} {σ : St} {H : Hp} {s : Shared} {R : It → Hp → Prop} {E : Value → Shared → Prop} {lo hi : Int} {t u v : Tok} {tk : Nat} (I : Inv X pins σ H s) (h1 : -(2 ^ 62) ≤ lo) (h2 : lo < 2 ^ 62) (h3 : -(2 ^ 62) ≤ hi) (h4 : hi < 2 ^ 62)
    (q : R (Itr lo (hi - lo).toNat) H) : wpAny (model X.prog X.w) X.A (pyIter (.ref s.heap.objs.size)) (PIE X pins σ tg R) E { s with heap := s.heap.push { cls := .type "range", data := .fields #[.int lo t, .int hi u, .int 1 v] }, toks := tk } := by
  refine wpAny_pyIter_range (IsRange.new ..) (small_one h1 h2 h3 h4) ?_
  have I1 : Inv X pins σ H { s with heap := s.heap.push { cls := .type "range", data := .fields #[.int lo t, .int hi u, .int 1 v] }, toks := tk } := I.kept fun b o e => Heap.get?_push_of_some _ e
  refine ⟨(s.heap.push { cls := .type "range", data := .fields #[.int lo t, .int hi u, .int 1 v] }).objs.size, [(s.heap.push { cls := .type "range", data := .fields #[.int lo t, .int hi u, .int 1 v] }).objs.size], _, _, H, rfl,
    I1.kept (t' := tk) fun b o e => Heap.get?_push_of_some _ e, turn_range _ lo (hi - lo).toNat, ?_, fun b hb => ?_, q⟩
  · have e1 : lo + ((0 : Nat) : Int) * 1 = lo := by simp
    have e2 : (((hi - lo).toNat : Nat) : Int) - ((0 : Nat) : Int) = Builtin.Range.rangeSize lo hi 1 := by rw [rangeSize_one]; split <;> omega
    show IsRangeIter _ _ (lo + ((0 : Nat) : Int) * 1) ((((hi - lo).toNat : Nat) : Int) - ((0 : Nat) : Int)) 1
    rw [e1, e2]
    exact Heap.get?_push_size _ rfl
  · have e : b = (s.heap.push { cls := .type "range", data := .fields #[.int lo t, .int hi u, .int 1 v] }).objs.size := by simpa using hb
    subst e
    exact I1.fpOk (Nat.le_refl _) (I1.hok.fresh (Nat.le_refl _))
def iRng1 (ta : TA) : TI := fun σ H R => ta σ H fun vs H1 => ∃ j : Int, vs = [.int j] ∧ -(2 ^ 62) ≤ j ∧ j < 2 ^ 62 ∧ R (Itr 0 j.toNat) H1
theorem pi_range1 {a : Expr} {ta : TA} {p pos : Pos} (hg : Gl X "range") (hm : X.mg "range" = none) (ha : PA X [a] ta) (hs : starEach [a] X.env = [(false, eval a X.env)] := by rfl) : PI X tg (.Call (.Name "range" p) [a] [] pos) (iRng1 ta) := by
  intro pins s σ H R I h
  refine Call_ (ld_blt I hg hm boot_range (PyProof.Rows.callWith_type1 (thn (ha pos pins s σ H _ I h) fun us s1 ⟨vs, H1, I1, r1, q1⟩ => ?_) hs rfl))
  obtain ⟨j, e, q1, q2, q⟩ := q1
  subst e
  cases r1 with
  | cons r rr =>
    cases rr
    obtain ⟨t, rfl⟩ := r
    exact call_range_1 (range_it I1 (by omega) (by omega) q1 q2 (by simpa using q))
/-! ### for -/
/-- W: the invariant by the turn and a measure; N: what the body is to reach -/
def tFor (wi : TI) (g : TG) (tb : TS) : TS := fun D σ H => wi σ H fun J H1 => ∃ W : Nat → Nat → St → Hp → Prop, (∃ m, W 0 m σ H1) ∧ ∀ i m σ H, W i m σ H →
  (J.stop i H ∧ D.nx σ H) ∨ (J.go i H ∧ ∃ N : St → Hp → Prop, (∀ σ' H', N σ' H' → ∃ m', m' < m ∧ W (i + 1) m' σ' H') ∧ ∀ x H', J.yld i H x H' → g x σ H' fun σ2 H2 => tb { D with nx := N, ct := N, bk := D.nx } σ2 H2)
/-- the records at fp as they stand -/
def pinsAt (fp : List Addr) (h : Heap) : List (Addr × Obj) := fp.filterMap fun b => (h.get? b).map fun o => (b, o)
theorem mem_pinsAt {fp : List Addr} {h : Heap} {b : Addr} {o : Obj} (hb : b ∈ fp) (e : h.get? b = some o) : (b, o) ∈ pinsAt fp h := List.mem_filterMap.mpr ⟨b, hb, by rw [e]; rfl⟩
theorem of_pinsAt {fp : List Addr} {h : Heap} {p : Addr × Obj} (hp : p ∈ pinsAt fp h) : p.1 ∈ fp ∧ h.get? p.1 = some p.2 := by
  obtain ⟨b, hb, e⟩ := List.mem_filterMap.mp hp
  cases q : h.get? b with
  | none => rw [q] at e; cases e
  | some o =>
    rw [q] at e
    have e' : (b, o) = p := Option.some.inj e
    subst e'
    exact ⟨hb, q⟩
theorem Inv.pinned {pins : List (Addr × Obj)} {σ : St} {H : Hp} {s : Shared} {fp : List Addr} (I : Inv X pins σ H s) (hf : ∀ b ∈ fp, FpOk X pins H b) (ho : ∀ b ∈ fp, ∃ o, s.heap.get? b = some o ∧ ∀ v, o.data ≠ .cell v) : Inv X (pins ++ pinsAt fp s.heap) σ H s :=
  I.pins_of fun p hp => (List.mem_append.mp hp).elim (fun z => I.pin p (List.mem_append_right _ z)) fun z => by
    obtain ⟨hb, e⟩ := of_pinsAt z
    obtain ⟨f0, f1, f2, _⟩ := hf p.1 hb
    obtain ⟨o, e', d⟩ := ho p.1 hb
    rw [e] at e'; cases e'
    exact ⟨e, f0, f1, f2, d⟩
theorem Inv.unpinned {pins pl : List (Addr × Obj)} {σ : St} {H : Hp} {s : Shared} (I : Inv X (pins ++ pl) σ H s) : Inv X pins σ H s := I.pins_of fun p hp => I.pin p (List.mem_append_right _ (List.mem_append_left _ hp))
theorem ps_for {iter : Expr} {body : List Stmt} {wi : TI} {g : TG} {tb : TS} {pos : Pos} (hp : PassesOwn (model X.prog X.w) X.A X.env X.xe) (hc : X.calm = true) (hi : PI X tg iter wi) (hg : PG X tg g) (hb : PSs X body tb)
    (hs : ∀ x, foldedSetIterable iter X.env x = pure x := by intro _; rfl) : PS X (.For tg iter body [] pos) (tFor wi g tb) := by
  intro pins s σ H D I h
  refine wpAny_For (thn (hi pins s σ H _ I h) fun v s1 h1 => thn h1 fun itv s2 h2 => ?_) hs
  obtain ⟨it, fp, tn, J, H2, e, I2, T, st2, f2, W, ⟨m0, w0⟩, turn⟩ := h2
  subst e
  -- what stays true of the iterator's objects through the loop
  have stat : ∀ {H' : Hp}, (∀ b ∈ fp, H' b = none) → ∀ b ∈ fp, FpOk X pins H' b := fun hn b hb => ⟨hn b hb, (f2 b hb).2⟩
  refine codeAny_forLoop_any (fun n s' => ∃ i σ' H', Inv X pins σ' H' s' ∧ tn i s'.heap ∧ (∀ b ∈ fp, H' b = none) ∧ W i n σ' H') ?_ m0 ⟨0, σ, H2, I2, st2, fun b hb => (f2 b hb).1, w0⟩
  rintro n s3 ⟨i, σ3, H3, I3, st3, fr3, w3⟩
  rcases turn i n σ3 H3 w3 with ⟨stop, qn⟩ | ⟨go, N, hN, step⟩
  · refine wpAny_passesOwn hp (thn (T.done X rfl rfl rfl hc i pins s3 σ3 H3 X.xe I3 (stat fr3) st3 stop) fun r s4 ⟨hr, I4⟩ => ?_)
    subst hr
    exact wpAny_execs_nil ⟨σ3, H3, I4, qn⟩
  · refine wpAny_passesOwn hp (thn (T.item X rfl rfl rfl hc i pins s3 σ3 H3 X.xe I3 (stat fr3) st3 go) fun r s4 ⟨u, hr, h4⟩ => ?_)
    subst hr
    refine wpAny_passesOwn hp (thn h4 fun _ s5 ⟨x, H5, I5, r5, y5, st5, fr5⟩ => ?_)
    have I5' := I5.pinned (stat fr5) (T.obj _ _ st5)
    refine wpAny_passesOwn hp (thn (hg _ s5 σ3 H5 x u _ I5' r5 (step x H5 y5)) fun _ s6 ⟨σ6, H6, I6, q6⟩ => ?_)
    refine wpAny_passesOwn hp (thn (hb _ s6 σ6 H6 _ I6 q6) fun f s7 q7 => ?_)
    have again : ∀ {σ7 : St} {H7 : Hp}, Inv X (pins ++ pinsAt fp s5.heap) σ7 H7 s7 → N σ7 H7 → ∃ m, m < n ∧ ∃ i σ' H', Inv X pins σ' H' s7 ∧ tn i s7.heap ∧ (∀ b ∈ fp, H' b = none) ∧ W i m σ' H' := fun {σ7 H7} I7 n7 => by
      obtain ⟨m', hm, w7⟩ := hN σ7 H7 n7
      refine ⟨m', hm, i + 1, σ7, H7, I7.unpinned, T.keep _ _ _ st5 fun b hb o e => (I7.pin (b, o) (List.mem_append_right _ (List.mem_append_right _ (mem_pinsAt hb e)))).1, fun b hb => ?_, w7⟩
      obtain ⟨o, e, d⟩ := T.obj _ _ st5 b hb
      exact (I7.pin (b, o) (List.mem_append_right _ (List.mem_append_right _ (mem_pinsAt hb e)))).2.1
    cases f with
    | next => obtain ⟨σ7, H7, I7, n7⟩ := q7; exact again I7 n7
    | cont => obtain ⟨σ7, H7, I7, n7⟩ := q7; exact again I7 n7
    | brk => obtain ⟨σ7, H7, I7, q7⟩ := q7; exact ⟨σ7, H7, I7.unpinned, q7⟩
    | ret v => obtain ⟨x7, σ7, H7, I7, r7, q7⟩ := q7; exact ⟨x7, σ7, H7, I7.unpinned, r7, q7⟩
end

/-! ### the forms one uses -/
/-- over a list that the body leaves as it is -/
theorem for_list {K : PySem.W.Frag} {a : Addr} {xs : List V} {g : TG} {tb : TS} {D : Ends} {σ : St} {H : Hp} (Pv : Nat → St → Hp → Prop) (h0 : Pv 0 σ H) (hl : ∀ i σ H, i ≤ xs.length → Pv i σ H → SqL K H a xs)
    (hs : ∀ i x σ H, xs[i]? = some x → Pv i σ H → g x σ H fun σ2 H2 => tb { D with nx := Pv (i + 1), ct := Pv (i + 1), bk := D.nx } σ2 H2) (hd : ∀ σ H, Pv xs.length σ H → D.nx σ H) :
    ∃ W : Nat → Nat → St → Hp → Prop, (∃ m, W 0 m σ H) ∧ ∀ i m σ H, W i m σ H →
      ((Itl K a).stop i H ∧ D.nx σ H) ∨ ((Itl K a).go i H ∧ ∃ N : St → Hp → Prop, (∀ σ' H', N σ' H' → ∃ m', m' < m ∧ W (i + 1) m' σ' H') ∧ ∀ x H', (Itl K a).yld i H x H' → g x σ H' fun σ2 H2 => tb { D with nx := N, ct := N, bk := D.nx } σ2 H2) := by
  refine ⟨fun i m σ H => m = xs.length - i ∧ i ≤ xs.length ∧ Pv i σ H, ⟨xs.length, by simp, Nat.zero_le _, h0⟩, ?_⟩
  rintro i m σ H ⟨rfl, hi, p⟩
  have q := hl i σ H hi p
  by_cases hlt : i < xs.length
  · refine .inr ⟨⟨xs, xs[i], q, by simp [hlt]⟩, Pv (i + 1), fun σ' H' p' => ⟨xs.length - (i + 1), by omega, rfl, hlt, p'⟩, fun x H' y => ?_⟩
    obtain ⟨e, y⟩ := y
    subst e
    exact hs i x σ _ (y xs q) p
  · have e : i = xs.length := by omega
    subst e
    exact .inl ⟨⟨xs, q, Nat.le_refl _⟩, hd σ H p⟩
theorem for_range {lo : Int} {n : Nat} {g : TG} {tb : TS} {D : Ends} {σ : St} {H : Hp} (Pv : Nat → St → Hp → Prop) (h0 : Pv 0 σ H)
    (hs : ∀ i σ H, i < n → Pv i σ H → g (.int (lo + i)) σ H fun σ2 H2 => tb { D with nx := Pv (i + 1), ct := Pv (i + 1), bk := D.nx } σ2 H2) (hd : ∀ σ H, Pv n σ H → D.nx σ H) :
    ∃ W : Nat → Nat → St → Hp → Prop, (∃ m, W 0 m σ H) ∧ ∀ i m σ H, W i m σ H →
      ((Itr lo n).stop i H ∧ D.nx σ H) ∨ ((Itr lo n).go i H ∧ ∃ N : St → Hp → Prop, (∀ σ' H', N σ' H' → ∃ m', m' < m ∧ W (i + 1) m' σ' H') ∧ ∀ x H', (Itr lo n).yld i H x H' → g x σ H' fun σ2 H2 => tb { D with nx := N, ct := N, bk := D.nx } σ2 H2) := by
  refine ⟨fun i m σ H => m = n - i ∧ i ≤ n ∧ Pv i σ H, ⟨n, by simp, Nat.zero_le _, h0⟩, ?_⟩
  rintro i m σ H ⟨rfl, hi, p⟩
  by_cases hlt : i < n
  · refine .inr ⟨hlt, Pv (i + 1), fun σ' H' p' => ⟨n - (i + 1), by omega, rfl, hlt, p'⟩, fun x H' y => ?_⟩
    obtain ⟨e, y⟩ := y
    subst e y
    exact hs i σ _ hlt p
  · have e : i = n := by omega
    subst e
    exact .inl ⟨Nat.le_refl _, hd σ H p⟩
end L2

namespace L2
open PySem PySem.Spec PyProof.Rows

abbrev R2 := V → V → Hp → VK → Prop
/-- a two-place operation on values: f is binaryOp op, inplaceOp op or compareOp op -/
def OpR (X : Cx) (f : Value → Value → Sem Value) (r : R2) : Prop :=
  ∀ (pins : List (Addr × Obj)) (s : Shared) (σ : St) (H : Hp) (x y : V) (v u : Value) (Q : VK), Inv X pins σ H s → RelV x v → RelV y u → r x y H Q →
    wpAny (model X.prog X.w) X.A (f v u) (EP X pins σ Q) X.xe s
/-- a call of a value that is known (a builtin, a type) with values -/
def CallR (X : Cx) (f : Value) (r : List V → Hp → VK → Prop) : Prop :=
  ∀ (pins : List (Addr × Obj)) (s : Shared) (σ : St) (H : Hp) (xs : List V) (us : List Value) (Q : VK), Inv X pins σ H s → Vals xs us → r xs H Q →
    wpAny (model X.prog X.w) X.A (call f us) (EP X pins σ Q) X.xe s
/-- a value's truth -/
def TruR (X : Cx) (r : V → Hp → (Bool → Hp → Prop) → Prop) : Prop :=
  ∀ (pins : List (Addr × Obj)) (s : Shared) (σ : St) (H : Hp) (x : V) (v : Value) (Q : Bool → Hp → Prop), Inv X pins σ H s → RelV x v → r x H Q →
    wpAny (model X.prog X.w) X.A (truthy v) (TP X pins σ Q) X.xe s

def tOp (r : R2) (ta tb : TE) : TE := fun σ H Q => ta σ H fun x H1 => tb σ H1 fun y H2 => r x y H2 Q
/-- ints in, under C, and a value out -/
def rI (C : Int → Int → Prop) (g : Int → Int → V) : R2 := fun x y H Q => ∃ i j, x = .int i ∧ y = .int j ∧ C i j ∧ Q (g i j) H
def rI0 (g : Int → Int → V) : R2 := fun x y H Q => ∃ i j, x = .int i ∧ y = .int j ∧ Q (g i j) H
section
variable {X : Cx} {a b c : Expr} {ta tb tc : TE} {pos : Pos}

theorem binT (ha : PE X a ta) (hb : PE X b tb) {pins : List (Addr × Obj)} {s : Shared} {σ : St} {H : Hp} {R : V → V → Hp → Prop} (I : Inv X pins σ H s)
    (h : ta σ H fun x H1 => tb σ H1 fun y H2 => R x y H2) {Q : Value → Shared → Prop} {f : Value → Value → Sem Value}
    (hf : ∀ v u s2 x y H2, Inv X pins σ H2 s2 → RelV x v → RelV y u → R x y H2 → wpAny (model X.prog X.w) X.A (f v u) Q X.xe s2) :
    wpAny (model X.prog X.w) X.A (eval a X.env) (fun v s₁ => wpAny (model X.prog X.w) X.A (eval b X.env) (fun u s₂ => wpAny (model X.prog X.w) X.A (f v u) Q X.xe s₂) X.xe s₁) X.xe s := by
  refine thn (ha pins s σ H _ I h) fun v s1 ⟨x, H1, I1, r1, q1⟩ => ?_
  refine thn (hb pins s1 σ H1 _ I1 q1) fun u s2 ⟨y, H2, I2, r2, q2⟩ => ?_
  exact hf v u s2 x y H2 I2 r1 r2 q2

theorem pe_op {op : Operator} {r : R2} (ho : OpR X (binaryOp op) r) (ha : PE X a ta) (hb : PE X b tb) : PE X (.BinOp a op b pos) (tOp r ta tb) := by
  intro pins s σ H Q I h
  exact wpAny_BinOp (binT ha hb I h fun v u s2 x y H2 I2 rx ry q => ho pins s2 σ H2 x y v u Q I2 rx ry q)
/-! ### ints -/
theorem opI {f : Value → Value → Sem Value} {C : Int → Int → Prop} {g : Int → Int → Int}
    (rule : ∀ (i j : Int) (t u : Tok) (s : Shared) (Q : Value → Shared → Prop) (E : Value → Shared → Prop), C i j → Q (.int (g i j) s.toks) { s with toks := s.toks + 1 } → wpAny (model X.prog X.w) X.A (f (.int i t) (.int j u)) Q E s) :
    OpR X f (rI C fun i j => .int (g i j)) := by
  intro pins s σ H x y v u Q I rx ry h
  obtain ⟨i, j, rfl, rfl, hc, q⟩ := h
  obtain ⟨t, rfl⟩ := rx
  obtain ⟨t', rfl⟩ := ry
  exact rule i j t t' s _ _ hc ⟨.int (g i j), H, I.tok _, ⟨_, rfl⟩, q⟩
theorem opI0 {f : Value → Value → Sem Value} {g : Int → Int → Int}
    (rule : ∀ (i j : Int) (t u : Tok) (s : Shared) (Q : Value → Shared → Prop) (E : Value → Shared → Prop), Q (.int (g i j) s.toks) { s with toks := s.toks + 1 } → wpAny (model X.prog X.w) X.A (f (.int i t) (.int j u)) Q E s) :
    OpR X f (rI0 fun i j => .int (g i j)) := by
  intro pins s σ H x y v u Q I rx ry h
  obtain ⟨i, j, rfl, rfl, q⟩ := h
  obtain ⟨t, rfl⟩ := rx
  obtain ⟨t', rfl⟩ := ry
  exact rule i j t t' s _ _ ⟨.int (g i j), H, I.tok _, ⟨_, rfl⟩, q⟩
theorem opB0 {f : Value → Value → Sem Value} {g : Int → Int → Bool}
    (rule : ∀ (i j : Int) (t u : Tok) (s : Shared) (Q : Value → Shared → Prop) (E : Value → Shared → Prop), Q (.bool (g i j)) s → wpAny (model X.prog X.w) X.A (f (.int i t) (.int j u)) Q E s) :
    OpR X f (rI0 fun i j => .bl (g i j)) := by
  intro pins s σ H x y v u Q I rx ry h
  obtain ⟨i, j, rfl, rfl, q⟩ := h
  obtain ⟨t, rfl⟩ := rx
  obtain ⟨t', rfl⟩ := ry
  exact rule i j t t' s _ _ ⟨.bl (g i j), H, I, rfl, q⟩

def CPow (i j : Int) : Prop := 0 ≤ j ∧ j ≤ 1000000 ∧ i.natAbs < 2 ^ 64
def CMul (i j : Int) : Prop := (-(2 ^ 64) < i ∧ i < 2 ^ 64) ∨ (-(2 ^ 64) < j ∧ j < 2 ^ 64)
theorem CMul.ok {i j : Int} (h : CMul i j) : IntMulOk i j := by
  rcases h with ⟨h1, h2⟩ | ⟨h1, h2⟩
  · exact .of_left (intBits_le_64 h1 h2)
  · exact .of_right (intBits_le_64 h1 h2)
theorem op_add : OpR X (binaryOp .Add) (rI0 fun i j => .int (i + j)) := opI0 fun _ _ _ _ _ _ _ q => add_int q
theorem op_mul : OpR X (binaryOp .Mult) (rI CMul fun i j => .int (i * j)) := opI fun _ _ _ _ _ _ _ hc q => mul_int q hc.ok
/-- % by a positive divisor of any size -/
theorem op_mod : OpR X (binaryOp .Mod) (rI (fun _ j => 0 < j) fun i j => .int (i % j)) := opI fun i j _ _ _ _ _ hc q => by
  have h1 : (0 : Int) < j := hc
  exact mod_int' (by omega) (by rw [Int.fmod_eq_emod_of_nonneg i (by omega)]; exact q)
theorem op_pow : OpR X (binaryOp .Pow) (rI CPow fun i j => .int (i ^ j.toNat)) := opI fun _ _ _ _ _ _ _ hc q => pow_int_small hc.1 hc.2.1 hc.2.2 q
/-! ### bools among ints: n += (a < b) -/
end

/-! ### comparisons -/
/-- the scalars that == tells apart as data does -/
def scal : V → V → Bool
  | .non, .non => true | .non, .int _ => true | .int _, .non => true | .non, .bl _ => true | .bl _, .non => true | .non, .str _ => true | .str _, .non => true
  | .int _, .int _ => true | .bl _, .bl _ => true | .str _, .str _ => true | .byt _, .byt _ => true
  | .int _, .str _ => true | .str _, .int _ => true | .bl _, .str _ => true | .str _, .bl _ => true
  | _, _ => false
def rEq : R2 := fun x y H Q => scal x y = true ∧ Q (.bl (decide (x = y))) H
def rNe : R2 := fun x y H Q => scal x y = true ∧ Q (.bl (!decide (x = y))) H

theorem dec_int {i j : Int} : decide (V.int i = V.int j) = (i == j) := by
  rw [Bool.eq_iff_iff]
  simp
theorem dec_bl {i j : Bool} : decide (V.bl i = V.bl j) = (i == j) := by
  rw [Bool.eq_iff_iff]
  simp
theorem dec_str {i j : Str} : decide (V.str i = V.str j) = (i == j) := by
  rw [Bool.eq_iff_iff]
  simp
theorem dec_byt {i j : Array UInt8} : decide (V.byt i = V.byt j) = (i.toList == j.toList) := by
  rw [Bool.eq_iff_iff]
  cases i
  cases j
  simp

section
variable {X : Cx} {a b c : Expr} {ta tb tc : TE} {pos : Pos}
theorem fin_bl {pins : List (Addr × Obj)} {σ : St} {H : Hp} {s : Shared} {Q : VK} {k k' : Bool} (I : Inv X pins σ H s) (q : Q (.bl k) H) (e : k = k') : EP X pins σ Q (.bool k') s := by
  subst e
  exact ⟨.bl k, H, I, rfl, q⟩
theorem op_eq : OpR X (compareOp .Eq) rEq := by
  intro pins s σ H x y v u Q I rx ry h
  obtain ⟨hs, q⟩ := h
  cases x with
  | non =>
    cases rx
    cases y with
    | non => cases ry; exact PySem.EqNone.eq_none_none (fin_bl I q (by simp))
    | bl j => cases ry; exact PySem.EqNone.eq_none_bool (fin_bl I q (by simp))
    | int j => obtain ⟨t', rfl⟩ := ry; exact PySem.EqNone.eq_none_int (fin_bl I q (by simp))
    | str j => obtain ⟨t', rfl⟩ := ry; exact PySem.EqNone.eq_none_str (fin_bl I q (by simp))
    | _ => exact absurd (show false = true from hs) Bool.false_ne_true
  | bl i =>
    cases rx
    cases y with
    | non => cases ry; exact PySem.EqNone.eq_bool_none (fin_bl I q (by simp))
    | bl j => cases ry; exact eq_bool (fin_bl I q dec_bl)
    | str j => obtain ⟨t', rfl⟩ := ry; exact PySem.EqMixed.eq_bool_str (fin_bl I q (by simp))
    | _ => exact absurd (show false = true from hs) Bool.false_ne_true
  | int i =>
    obtain ⟨t, rfl⟩ := rx
    cases y with
    | non => cases ry; exact PySem.EqNone.eq_int_none (fin_bl I q (by simp))
    | int j => obtain ⟨t', rfl⟩ := ry; exact eq_int (fin_bl I q dec_int)
    | str j => obtain ⟨t', rfl⟩ := ry; exact PySem.EqMixed.eq_int_str (fin_bl I q (by simp))
    | _ => exact absurd (show false = true from hs) Bool.false_ne_true
  | str i =>
    obtain ⟨t, rfl⟩ := rx
    cases y with
    | non => cases ry; exact PySem.EqNone.eq_str_none (fin_bl I q (by simp))
    | bl j => cases ry; exact PySem.EqMixed.eq_str_bool (fin_bl I q (by simp))
    | int j => obtain ⟨t', rfl⟩ := ry; exact PySem.EqMixed.eq_str_int (fin_bl I q (by simp))
    | str j => obtain ⟨t', rfl⟩ := ry; exact eq_str (fin_bl I q dec_str)
    | _ => exact absurd (show false = true from hs) Bool.false_ne_true
  | byt i =>
    obtain ⟨t, rfl⟩ := rx
    cases y with
    | byt j => obtain ⟨t', rfl⟩ := ry; exact PySem.W.eq_bytes (fin_bl I q dec_byt)
    | _ => exact absurd (show false = true from hs) Bool.false_ne_true
  | _ => cases y <;> exact absurd (show false = true from hs) Bool.false_ne_true
theorem op_ne : OpR X (compareOp .NotEq) rNe := by
  intro pins s σ H x y v u Q I rx ry h
  obtain ⟨hs, q⟩ := h
  cases x with
  | non =>
    cases rx
    cases y with
    | non => cases ry; exact PySem.EqNone.ne_none_none (fin_bl I q (by simp))
    | bl j => cases ry; exact PySem.EqNone.ne_none_bool (fin_bl I q (by simp))
    | int j => obtain ⟨t', rfl⟩ := ry; exact PySem.EqNone.ne_none_int (fin_bl I q (by simp))
    | str j => obtain ⟨t', rfl⟩ := ry; exact PySem.EqNone.ne_none_str (fin_bl I q (by simp))
    | _ => exact absurd (show false = true from hs) Bool.false_ne_true
  | bl i =>
    cases rx
    cases y with
    | non => cases ry; exact PySem.EqNone.ne_bool_none (fin_bl I q (by simp))
    | bl j => cases ry; exact ne_bool (fin_bl I q (congrArg not dec_bl))
    | str j => obtain ⟨t', rfl⟩ := ry; exact PySem.EqMixed.ne_bool_str (fin_bl I q (by simp))
    | _ => exact absurd (show false = true from hs) Bool.false_ne_true
  | int i =>
    obtain ⟨t, rfl⟩ := rx
    cases y with
    | non => cases ry; exact PySem.EqNone.ne_int_none (fin_bl I q (by simp))
    | int j => obtain ⟨t', rfl⟩ := ry; exact ne_int (fin_bl I q (congrArg not dec_int))
    | str j => obtain ⟨t', rfl⟩ := ry; exact PySem.EqMixed.ne_int_str (fin_bl I q (by simp))
    | _ => exact absurd (show false = true from hs) Bool.false_ne_true
  | str i =>
    obtain ⟨t, rfl⟩ := rx
    cases y with
    | non => cases ry; exact PySem.EqNone.ne_str_none (fin_bl I q (by simp))
    | bl j => cases ry; exact PySem.EqMixed.ne_str_bool (fin_bl I q (by simp))
    | int j => obtain ⟨t', rfl⟩ := ry; exact PySem.EqMixed.ne_str_int (fin_bl I q (by simp))
    | str j => obtain ⟨t', rfl⟩ := ry; exact ne_str (fin_bl I q (congrArg not dec_str))
    | _ => exact absurd (show false = true from hs) Bool.false_ne_true
  | byt i =>
    obtain ⟨t, rfl⟩ := rx
    cases y with
    | byt j => obtain ⟨t', rfl⟩ := ry; exact PySem.W.ne_bytes (fin_bl I q (congrArg not dec_byt))
    | _ => exact absurd (show false = true from hs) Bool.false_ne_true
  | _ => cases y <;> exact absurd (show false = true from hs) Bool.false_ne_true

theorem op_lt : OpR X (compareOp .Lt) (rI0 fun i j => .bl (decide (i < j))) := opB0 fun _ _ _ _ _ _ _ q => lt_int q
theorem op_le : OpR X (compareOp .LtE) (rI0 fun i j => .bl (decide (i ≤ j))) := opB0 fun _ _ _ _ _ _ _ q => le_int q
theorem op_gt : OpR X (compareOp .Gt) (rI0 fun i j => .bl (decide (j < i))) := opB0 fun _ _ _ _ _ _ _ q => gt_int q
theorem op_ge : OpR X (compareOp .GtE) (rI0 fun i j => .bl (decide (j ≤ i))) := opB0 fun _ _ _ _ _ _ _ q => ge_int q
/-- the one string within the other -/
theorem op_in_str : OpR X (compareOp .In) (fun x y H Q => ∃ i j, x = .str i ∧ y = .str j ∧ Q (.bl (!(Builtin.Str.occurrences j i 0 j.length 1).isEmpty)) H) := by
  intro pins s σ H x y v u Q I rx ry h
  obtain ⟨i, j, rfl, rfl, q⟩ := h
  obtain ⟨t, rfl⟩ := rx
  obtain ⟨t', rfl⟩ := ry
  exact in_str (fin_bl I q rfl)

/-- is None, is not None: the right side a value none -/
theorem op_isN : OpR X (compareOp .Is) (fun x y H Q => y = .non ∧ Q (.bl (decide (x = .non))) H) := by
  intro pins s σ H x y v u Q I rx ry h
  obtain ⟨rfl, q⟩ := h
  cases ry
  refine is_none_gen (fin_bl I q ?_)
  cases x <;> first
    | (cases rx; rfl)
    | (obtain ⟨t, rfl⟩ := rx; rfl)
theorem nomark (b : Expr) {op : CmpOp} (h : op ≠ .In := by decide) (h2 : op ≠ .NotIn := by decide) : behindInMarks op b = false := by
  have e1 : (op == CmpOp.In) = false := by cases op <;> first | rfl | exact absurd rfl h
  have e2 : (op == CmpOp.NotIn) = false := by cases op <;> first | rfl | exact absurd rfl h2
  cases b <;> simp [behindInMarks, e1, e2]
/-- a comparison as a value; hm: nomark b, or (for in, not in) by with_unfolding_all rfl -/
theorem pe_cmpR {op : CmpOp} {r : R2} (ho : OpR X (compareOp op) r) (ha : PE X a ta) (hb : PE X b tb) (hm : behindInMarks op b = false) : PE X (.Compare a [op] [b] pos) (tOp r ta tb) := by
  intro pins s σ H Q I h
  exact wpAny_Compare1 (binT ha hb I h fun v u s2 x y H2 I2 rx ry q => ho pins s2 σ H2 x y v u Q I2 rx ry q) hm
/-- a reading of a value as a test -/
def tTest (t : TE) : TT := fun σ H Q => t σ H fun x H' => ∃ k, x = .bl k ∧ Q k H'
theorem pt_cmpR {op : CmpOp} {r : R2} (ho : OpR X (compareOp op) r) (ha : PE X a ta) (hb : PE X b tb) (hm : behindInMarks op b = false) : PT X (.Compare a [op] [b] pos) (tTest (tOp r ta tb)) := by
  intro pins s σ H Q I h
  refine wpAny_isTrue_Compare1 (thn (ha pins s σ H _ I h) fun v s1 ⟨x, H1, I1, r1, q1⟩ => thn (hb pins s1 σ H1 _ I1 q1) fun u s2 ⟨y, H2, I2, r2, q2⟩ =>
    thn (ho pins s2 σ H2 x y v u _ I2 r1 r2 q2) fun c s3 ⟨z, H3, I3, r3, k, e, q3⟩ => ?_) hm
  subst e
  cases r3
  exact wpAny_truthy_bool ⟨H3, I3, q3⟩
/-- a op1 b op2 c -/
def tChain (r r' : R2) (ta tb tc : TE) : TE := fun σ H Q => ta σ H fun x H1 => tb σ H1 fun y H2 => r x y H2 fun z H3 => ∃ k, z = .bl k ∧
  (if k = true then tc σ H3 fun w' H4 => r' y w' H4 Q else Q (.bl false) H3)
theorem pe_chain {op op' : CmpOp} {r r' : R2} (ho : OpR X (compareOp op) r) (ho' : OpR X (compareOp op') r') (ha : PE X a ta) (hb : PE X b tb) (hc : PE X c tc)
    (hm : lastMarks [op, op'] [b, c] = false := by with_unfolding_all rfl) : PE X (.Compare a [op, op'] [b, c] pos) (tChain r r' ta tb tc) := by
  intro pins s σ H Q I h
  refine Compare_chain (thn (ha pins s σ H _ I h) fun v s1 ⟨x, H1, I1, r1, q1⟩ => chain_link (thn (hb pins s1 σ H1 _ I1 q1) fun u s2 ⟨y, H2, I2, r2, q2⟩ =>
    thn (ho pins s2 σ H2 x y v u _ I2 r1 r2 q2) fun d s3 ⟨z, H3, I3, r3, k, e, q3⟩ => ?_)) hm
  subst e
  cases r3
  refine wpAny_truthy_bool ?_
  cases k with
  | false => exact ite_ff ⟨.bl false, H3, I3, rfl, q3⟩
  | true => exact ite_tt (chain_last (thn (hc pins s3 σ H3 _ I3 q3) fun w' s4 ⟨z', H4, I4, r4, q4⟩ => ho' pins s4 σ H4 y z' u w' Q I4 r2 r4 q4))
theorem pt_chain {op op' : CmpOp} {r r' : R2} (ho : OpR X (compareOp op) r) (ho' : OpR X (compareOp op') r') (ha : PE X a ta) (hb : PE X b tb) (hc : PE X c tc)
    (hm : lastMarks [op, op'] [b, c] = false := by with_unfolding_all rfl) : PT X (.Compare a [op, op'] [b, c] pos) (tTest (tChain r r' ta tb tc)) := by
  intro pins s σ H Q I h
  refine isTrue_chain (thn (ha pins s σ H _ I h) fun v s1 ⟨x, H1, I1, r1, q1⟩ => test_link (thn (hb pins s1 σ H1 _ I1 q1) fun u s2 ⟨y, H2, I2, r2, q2⟩ =>
    thn (ho pins s2 σ H2 x y v u _ I2 r1 r2 q2) fun d s3 ⟨z, H3, I3, r3, k, e, q3⟩ => ?_)) hm
  subst e
  cases r3
  refine wpAny_truthy_bool ?_
  cases k with
  | false =>
    obtain ⟨k', e', q'⟩ := q3
    cases e'
    exact ite_ff ⟨H3, I3, q'⟩
  | true =>
    refine ite_tt (test_last (thn (hc pins s3 σ H3 _ I3 q3) fun w' s4 ⟨z', H4, I4, r4, q4⟩ => thn (ho' pins s4 σ H4 y z' u w' _ I4 r2 r4 q4) fun d' s5 ⟨z2, H5, I5, r5, k2, e2, q5⟩ => ?_))
    subst e2
    cases r5
    exact wpAny_truthy_bool ⟨H5, I5, q5⟩

/-! ### truth -/
/-- a value's truth by the abstract heap -/
def TruV (K : PySem.W.Frag) (x : V) (H : Hp) (k : Bool) : Prop :=
  match x with
  | .non => k = false
  | .bl b => k = b
  | .int i => k = (i != 0)
  | .str y => y.length ≤ sizeLine ∧ k = ((y.length : Int) != 0)
  | .byt y => y.size ≤ sizeLine ∧ k = ((y.size : Int) != 0)
  | .ref p => (∃ xs, SqL K H p xs ∧ k = !xs.isEmpty) ∨ (∃ xs, SqT K H p xs ∧ k = !xs.isEmpty) ∨ ∃ kvs, H p = some (.dK kvs) ∧ k = !kvs.isEmpty
  | _ => False
theorem isEmpty_kv {κ : Type} {kvs : List (κ × V)} {vs : List (κ × Value)} (r : KV kvs vs) : (!vs.isEmpty) = !kvs.isEmpty := by
  cases r <;> rfl
theorem isEmpty_of {xs : List V} {its : List Value} (r : Vals xs its) : (!its.toArray.isEmpty) = !xs.isEmpty := by
  cases r <;> simp
theorem line63 : (sizeLine : Nat) < 2 ^ 63 := by rw [sizeLine_eq]; decide
theorem tru_ok : TruR X (fun x H Q => ∃ k, TruV X.K x H k ∧ Q k H) := by
  intro pins s σ H x v Q I rx h
  obtain ⟨k, e, q⟩ := h
  have hl := line63
  have hs : sizeLine = 16777216 := sizeLine_eq
  cases x with
  | non =>
    cases rx
    have e' : k = false := e
    subst e'
    exact truthy_none ⟨H, I, q⟩
  | bl b =>
    cases rx
    have e' : k = b := e
    subst e'
    exact wpAny_truthy_bool ⟨H, I, q⟩
  | int i =>
    obtain ⟨t, rfl⟩ := rx
    have e' : k = (i != 0) := e
    subst e'
    exact PySem.P.truthy_int ⟨H, I, q⟩
  | str y =>
    obtain ⟨t, rfl⟩ := rx
    obtain ⟨hy, e'⟩ : y.length ≤ sizeLine ∧ k = ((y.length : Int) != 0) := e
    subst e'
    exact PySem.P.truthy_str (by omega) ⟨H, I.tok _, q⟩
  | byt y =>
    obtain ⟨t, rfl⟩ := rx
    obtain ⟨hy, e'⟩ : y.size ≤ sizeLine ∧ k = ((y.size : Int) != 0) := e
    subst e'
    exact PySem.W.truthy_bytes (by omega) ⟨H, I.tok _, q⟩
  | ref p =>
    cases rx
    have e' : (∃ xs, SqL X.K H p xs ∧ k = !xs.isEmpty) ∨ (∃ xs, SqT X.K H p xs ∧ k = !xs.isEmpty) ∨ ∃ kvs, H p = some (.dK kvs) ∧ k = !kvs.isEmpty := e
    rcases e' with ⟨xs, hx, e'⟩ | ⟨xs, hx, e'⟩ | ⟨kvs, hx, e'⟩
    · subst e'
      obtain ⟨its, r, pl, hz⟩ := I.list hx
      have hlen := r.length
      exact wpAny_truthy_list pl.isList (by simp only [List.size_toArray]; omega) ⟨H, I.tok _, by rw [isEmpty_of r]; exact q⟩
    · subst e'
      obtain ⟨its, r, pl, hz⟩ := I.tuple hx
      have hlen := r.length
      exact truthy_tuple pl (by simp only [List.size_toArray]; omega) ⟨H, I.tok _, by rw [isEmpty_of r]; exact q⟩
    · subst e'
      obtain ⟨hz, hS, vs, r, m⟩ : kvs.length ≤ sizeLine ∧ (p == sysModules) = false ∧ ∃ vs, KV kvs vs ∧ s.heap.DictOf (mixKind X.prog X.w) p vs := I.hok p _ hx
      have hlen : kvs.length = vs.length := Paired.length r
      exact wpAny_truthy_dict hS m (by omega) ⟨H, I.tok _, by rw [isEmpty_kv r]; exact q⟩
  | _ => exact (show False from e).elim
/-- any expression whose test is its value's truth (a name, a call, a subscript, a field ..: he by fun _ => rfl) -/
theorem pt_truth (ha : PE X a ta) (he : ∀ whole, isTrue a X.env whole = (do let v ← whole; standAt a.pos; holding [v] (truthy v))) :
    PT X a (fun σ H Q => ta σ H fun x H' => ∃ k, TruV X.K x H' k ∧ Q k H') := by
  intro pins s σ H Q I h
  exact isTrue_plain (thn (ha pins s σ H _ I h) fun v s1 ⟨x, H1, I1, r1, q1⟩ => tru_ok pins s1 σ H1 x v Q I1 r1 q1) (he _)

/-! ### strs and bytes -/
theorem op_add_str : OpR X (binaryOp .Add) (fun x y H Q => ∃ i j, x = .str i ∧ y = .str j ∧ i.length + j.length ≤ sizeLine ∧ Q (.str (i ++ j)) H) := by
  intro pins s σ H x y v u Q I rx ry h
  obtain ⟨i, j, rfl, rfl, hz, q⟩ := h
  obtain ⟨t, rfl⟩ := rx
  obtain ⟨t', rfl⟩ := ry
  exact add_str (fun t' tk => ⟨.str (i ++ j), H, I.tok _, ⟨_, rfl⟩, q⟩) hz
/-! ### scalar builtins, by CallR -/
theorem vals1 {x : V} {us : List Value} (r : Vals [x] us) : ∃ u, us = [u] ∧ RelV x u := by
  cases r with
  | cons r1 r2 => cases r2; exact ⟨_, rfl, r1⟩
theorem vals2 {x y : V} {us : List Value} (r : Vals [x, y] us) : ∃ u w', us = [u, w'] ∧ RelV x u ∧ RelV y w' := by
  cases r with
  | cons r1 r2 =>
    cases r2 with
    | cons r3 r4 => cases r4; exact ⟨_, _, rfl, r1, r3⟩
theorem call_max2 (hc : X.calm = true) : CallR X (.builtin "max") (fun xs H Q => ∃ i j, xs = [.int i, .int j] ∧ Q (.int (if j > i then j else i)) H) := by
  intro pins s σ H xs us Q I r h
  obtain ⟨i, j, rfl, q⟩ := h
  obtain ⟨u, w', rfl, ⟨t, rfl⟩, ⟨t', rfl⟩⟩ := vals2 r
  refine max_two_ints (I.ok.hd hc) fun h' tk k => ⟨_, H, I.kept k, ?_, q⟩
  by_cases hj : j > i
  · rw [if_pos hj, if_pos hj]; exact ⟨_, rfl⟩
  · rw [if_neg hj, if_neg hj]; exact ⟨_, rfl⟩
theorem call_min2 (hc : X.calm = true) : CallR X (.builtin "min") (fun xs H Q => ∃ i j, xs = [.int i, .int j] ∧ Q (.int (if j < i then j else i)) H) := by
  intro pins s σ H xs us Q I r h
  obtain ⟨i, j, rfl, q⟩ := h
  obtain ⟨u, w', rfl, ⟨t, rfl⟩, ⟨t', rfl⟩⟩ := vals2 r
  refine min_two_ints (I.ok.hd hc) fun h' tk k => ⟨_, H, I.kept k, ?_, q⟩
  by_cases hj : j < i
  · rw [if_pos hj, if_pos hj]; exact ⟨_, rfl⟩
  · rw [if_neg hj, if_neg hj]; exact ⟨_, rfl⟩
end
end L2

namespace L2
open PySem PySem.Spec PyProof.Rows

/-! ### an instance, its attributes a map -/
structure ObjM (h : Heap) (x dx C : Addr) (mA : Str → Option Value) : Prop where
  obj : h.get? x = some (PySem.W.instObj C dx)
  ns : h.Ns1 dx mA
  ne : dx ≠ x

theorem lookIn_ns {h : Heap} {dx : Addr} {mA : Str → Option Value} (n : h.Ns1 dx mA) : ∃ od, h.get? dx = some od ∧ ∀ name, PySem.W.lookIn name od = some (mA name) := by
  obtain ⟨o, es, ep, ho, hd, hk, _, hm⟩ := n
  refine ⟨o, ho, fun name => ?_⟩
  have e := hm name
  unfold nsFind findBy at e
  rw [← Array.find?_toList] at e
  unfold PySem.W.lookIn
  rw [hd]
  dsimp only
  split
  · rename_i y q
    rw [q] at e
    exact congrArg some e
  · rename_i q
    rw [q] at e
    have a : es.toList.any (·.refKey) = false := by
      rw [List.any_eq_false]
      intro y hy
      obtain ⟨z, t, hkey⟩ := hk y (Array.mem_toList_iff.mp hy)
      simp [DictEntry.refKey, hkey]
    have a' : ¬ es.toList.any (·.refKey) = true := by rw [a]; exact Bool.false_ne_true
    rw [if_neg a']
    exact congrArg some e

theorem ObjM.look {h : Heap} {x dx C : Addr} {mA : Str → Option Value} (I : ObjM h x dx C mA) : ∃ od, PySem.W.InstAt h x (PySem.W.instObj C dx) C (some od) ∧ ∀ name, PySem.W.lookIn name od = some (mA name) :=
  let ⟨od, ho, hl⟩ := lookIn_ns I.ns
  ⟨od, ⟨I.obj, rfl, rfl, ho⟩, hl⟩

section
variable {prog : Program} {w : World} {A : Around} {E : Value → Shared → Prop} {s : Shared} {K : PySem.W.Frag} {x dx C f : Addr} {mA : Str → Option Value} {name : Str} {v : Value}

theorem get_map {expr : Bool} {Q : Value → Shared → Prop} (X : K.In s.heap) (I : ObjM s.heap x dx C mA) (hg : PySem.W.plainGet K C name = true) (hh : PySem.W.hasDictIn K C = true)
    (ha : PySem.W.findIn K (.ref C) name = some none) (hv : mA name = some v) (hv' : PySem.W.handedIn v = true) (h : Q v { s with toks := s.toks + 1 }) :
    wpAny (model prog w) A (getAttr (.ref x) name expr) Q E s := by
  obtain ⟨od, J, hl⟩ := I.look
  exact PySem.W.get_value X J (PySem.W.plainGet_of hg).1 (PySem.W.findObj_own hh ha rfl (by rw [hl, hv])) hv' h

theorem set_map {ns : List Str} {Q : Unit → Shared → Prop} (X : K.In s.heap) (I : ObjM s.heap x dx C mA)
    (hs : PySem.W.findIn K (.ref C) "__setattr__" = some (some (.builtin "object.__setattr__"))) (hp : PySem.W.plainOver K C = true) (ht : PySem.W.takerIn K C name = some none) (hh : PySem.W.hasDictIn K C = true)
    (hw : PySem.Within mA ns) (hsz : ns.length ≤ sizeLine)
    (h : ∀ h', ObjM h' x dx C (fun y => if y = name then some v else mA y) → Heap.SameBut dx s.heap h' → Q () { s with heap := h', toks := s.toks + 2 }) :
    wpAny (model prog w) A (setAttr (.ref x) name v) Q E s := by
  obtain ⟨od, J, hl⟩ := I.look
  refine PySem.W.set_plain X J hs (PySem.W.osa_open (s := { s with toks := s.toks + 1 }) (r := none) X J hp ht fun b => ?_)
  obtain ⟨cd, hc, hd'⟩ := PySem.W.any_some hh
  have hx : s.heap.get? x = some ⟨.ref C, some dx, .plain, #[]⟩ := I.obj
  refine wpAny_bind (wpAny_pure (wpAny_bind (wpAny_bind (wpAny_loadPart hx (wpAny_bind (PySem.W.Looks.here (s := { s with toks := s.toks + 1 }) (PySem.W.looks_clsIn X hc) ?_))))))
  rw [hd']
  refine wpAny_pure (a := some dx) (wpAny_bind (wpAny_pure (wpAny_bind ?_)))
  refine wpAny_nsSet1 (s := { s with toks := s.toks + 1 }) I.ns fun h' hn2 hs2 => ?_
  obtain ⟨oD, esD, epD, hoD, hdD, hcD⟩ := hn2.count (PySem.Within.cons name v hw)
  refine wpAny_bind (wpAny_lookBehind hoD (by rw [hdD]; exact pastItsLine_dict (Nat.le_trans hcD (by rw [List.length_cons]; omega))) ?_)
  exact wpAny_pure (h _ ⟨(hs2.2 _ (Ne.symm I.ne)).trans I.obj, hn2, I.ne⟩ hs2)

/-- C(..): the dict at the heap's end, the instance behind it; then its __init__ -/
theorem make_map {R : Result → Shared → Prop} {vs : List Value} {kw : List (Str × Value)} (X : K.In s.heap) (hm : PySem.W.makesIn K C = true)
    (hi : PySem.W.findIn K (.ref C) "__init__" = some (some (.ref f))) (hf : PySem.W.typeIn K (.ref f) = some (.type "function"))
    (h : codeAny (model prog w) (A.under (.builtin "type.__call__" ⟨.ref C :: vs, kw⟩)) (.call (.ref f) ⟨.ref (s.heap.objs.size + 1) :: vs, kw⟩) (PySem.W.InitBack (s.heap.objs.size + 1) R)
      { s with heap := (s.heap.push PySem.W.emptyDict).push (PySem.W.instObj C s.heap.objs.size) }) :
    codeAny (model prog w) A (.call (.ref C) ⟨vs, kw⟩) R s := by
  obtain ⟨hh, g, d, t, os⟩ := s
  exact PySem.W.make_core (PySem.W.makes_of X hm) (PySem.W.looks_findIn X hi) (fun self => PySem.W.bind_fn X self hf) (.inl rfl) h
end

/-! ### the attributes as a list of pairs -/
def putF (f : Str) (v : V) : List (Str × V) → List (Str × V)
  | [] => [(f, v)]
  | (g, x) :: r => if g = f then (g, v) :: r else (g, x) :: putF f v r
theorem lookup_putF (f g : Str) (v : V) : ∀ fs : List (Str × V), (putF f v fs).lookup g = if g = f then some v else fs.lookup g
  | [] => by
    show List.lookup g [(f, v)] = _
    by_cases h : g = f
    · have hb : (g == f) = true := beq_iff_eq.mpr h
      simp only [List.lookup, hb, if_pos h]
    · have hb : (g == f) = false := beq_eq_false_iff_ne.mpr h
      simp only [List.lookup, hb, if_neg h]
  | (k, x) :: r => by
    have ih := lookup_putF f g v r
    rw [show putF f v ((k, x) :: r) = (if k = f then (k, v) :: r else (k, x) :: putF f v r) from rfl]
    by_cases hk : k = f
    · rw [if_pos hk]
      by_cases h : g = k
      · have hb : (g == k) = true := beq_iff_eq.mpr h
        simp only [List.lookup, hb, if_pos (h.trans hk)]
      · have hb : (g == k) = false := beq_eq_false_iff_ne.mpr h
        simp only [List.lookup, hb, if_neg (fun e : g = f => h (e.trans hk.symm))]
    · rw [if_neg hk]
      by_cases h : g = k
      · have hb : (g == k) = true := beq_iff_eq.mpr h
        simp only [List.lookup, hb, if_neg (fun e : g = f => hk (h.symm.trans e))]
      · have hb : (g == k) = false := beq_eq_false_iff_ne.mpr h
        simp only [List.lookup, hb]
        exact ih
theorem keys_putF (f : Str) (v : V) : ∀ fs : List (Str × V), f ∈ (putF f v fs).map (·.1) ∧ ∀ g, g ∈ fs.map (·.1) → g ∈ (putF f v fs).map (·.1)
  | [] => ⟨by simp [putF], fun g h => by simp at h⟩
  | (k, x) :: r => by
    obtain ⟨i1, i2⟩ := keys_putF f v r
    rw [show putF f v ((k, x) :: r) = (if k = f then (k, v) :: r else (k, x) :: putF f v r) from rfl]
    by_cases hk : k = f
    · rw [if_pos hk]
      subst hk
      exact ⟨by simp, fun g h => by simpa using h⟩
    · rw [if_neg hk]
      refine ⟨?_, fun g h => ?_⟩
      · rw [List.map_cons]
        exact List.mem_cons_of_mem _ i1
      · rw [List.map_cons] at h ⊢
        rcases List.mem_cons.mp h with e | e
        · exact List.mem_cons.mpr (.inl e)
        · exact List.mem_cons_of_mem _ (i2 g e)
theorem length_putF (f : Str) (v : V) : ∀ fs : List (Str × V), (putF f v fs).length ≤ fs.length + 1
  | [] => by simp [putF]
  | (k, x) :: r => by
    have ih := length_putF f v r
    rw [show putF f v ((k, x) :: r) = (if k = f then (k, v) :: r else (k, x) :: putF f v r) from rfl]
    by_cases hk : k = f
    · rw [if_pos hk, List.length_cons, List.length_cons]; omega
    · rw [if_neg hk, List.length_cons, List.length_cons]; omega

theorem RelO.some_of {v : V} {o : Option Value} (r : RelO (some v) o) : ∃ u, o = some u ∧ RelV v u := by
  cases o with
  | none => exact (show False from r).elim
  | some u => exact ⟨u, rfl, r⟩
theorem handed_of {v : V} {u : Value} (r : RelV v u) : PySem.W.handedIn u = true := by
  cases v with
  | non => cases (show u = Value.none from r); rfl
  | bl b => cases (show u = Value.bool b from r); rfl
  | int i => obtain ⟨t, e⟩ := (show ∃ t, u = Value.int i t from r); cases e; rfl
  | str x => obtain ⟨t, e⟩ := (show ∃ t, u = Value.str x t from r); cases e; rfl
  | byt b => obtain ⟨t, e⟩ := (show ∃ t, u = Value.bytes b t from r); cases e; rfl
  | flt b => obtain ⟨t, e⟩ := (show ∃ t, u = Value.float b t from r); cases e; rfl
  | ref a => cases (show u = Value.ref a from r); rfl
  | ty n => cases (show u = Value.type n from r); rfl

section
variable {P : Program} {w : World} {H H' : Hp} {h h' : Heap} {a C dx : Addr} {fs fs' : List (Str × V)}
theorem ins_get (hok : HOk P w H h) (e : H a = some (.ins C dx fs)) : ∃ mA, ObjM h a dx C mA ∧ (∀ f, RelO (fs.lookup f) (mA f)) ∧ PySem.Within mA (fs.map (·.1)) ∧ fs.length ≤ 1000 ∧ H dx = some (.own a) := by
  obtain ⟨d, z, ne, ob, mA, n, r, q⟩ := (show ObjOk P w H h a (.ins C dx fs) from hok a _ e)
  exact ⟨mA, ⟨ob, n, ne⟩, r, q, z, d⟩
end

/-! ### what of the text a class must have -/
structure Cls (K : PySem.W.Frag) (C : Addr) : Prop where
  pg : PySem.W.plainGet K C Str.empty = true
  hd : PySem.W.hasDictIn K C = true
  po : PySem.W.plainOver K C = true
  sa : PySem.W.findIn K (.ref C) "__setattr__" = some (some (.builtin "object.__setattr__"))
theorem Cls.get {K : PySem.W.Frag} {C : Addr} (c : Cls K C) (f : Str) : PySem.W.plainGet K C f = true := c.pg
/-- no class of it has the name -/
def NoAttr (K : PySem.W.Frag) (C : Addr) (f : Str) : Prop := PySem.W.findIn K (.ref C) f = some none
theorem NoAttr.taker {K : PySem.W.Frag} {C : Addr} {f : Str} (n : NoAttr K C f) : PySem.W.takerIn K C f = some none := by
  unfold PySem.W.takerIn
  rw [show PySem.W.findIn K (.ref C) f = some none from n]
  rfl
section
variable {X : Cx} {pins : List (Addr × Obj)} {σ : St} {H : Hp} {s : Shared} {a C dx : Addr} {fs : List (Str × V)} {f : Str} {v : V} {A : Around} {E : Value → Shared → Prop}

theorem getattr_ok {b : Bool} {Q : Value → Shared → Prop} (I : Inv X pins σ H s) (e : H a = some (.ins C dx fs)) (c : Cls X.K C) (n : NoAttr X.K C f) (l : fs.lookup f = some v)
    (h : ∀ u s', Inv X pins σ H s' → RelV v u → Q u s') : wpAny (model X.prog X.w) A (getAttr (.ref a) f b) Q E s := by
  obtain ⟨mA, O, r, _, _, _⟩ := ins_get I.hok e
  obtain ⟨u, hu, ru⟩ := RelO.some_of (v := v) (o := mA f) (by rw [← l]; exact r f)
  exact get_map I.kIn O (c.get f) c.hd n hu (handed_of ru) (h u _ (I.tok _) ru)

theorem setattr_ok {y : V} {u : Value} {Q : Unit → Shared → Prop} (I : Inv X pins σ H s) (e : H a = some (.ins C dx fs)) (c : Cls X.K C) (n : NoAttr X.K C f) (hl : fs.length < 1000) (ry : RelV y u)
    (h : ∀ s', Inv X pins σ (upd H a (.ins C dx (putF f y fs))) s' → Q () s') : wpAny (model X.prog X.w) A (setAttr (.ref a) f u) Q E s := by
  obtain ⟨mA, O, r, wi, _, ho⟩ := ins_get I.hok e
  have hz : (fs.map (·.1)).length ≤ sizeLine := by rw [List.length_map, sizeLine_eq]; omega
  refine set_map I.kIn O c.sa c.po n.taker c.hd wi hz fun h' O' sb => h _ ?_
  have hd : ∃ o, h'.get? dx = some o := let ⟨o, _, _, e', _⟩ := O'.ns; ⟨o, e'⟩
  refine I.write (x := a) (e := dx) (by rw [e]; exact True.intro) (.inr ho) (fun b q hb z => (sb.2 b hb).trans z) hd ?_
  refine ⟨by rw [upd_ne O.ne]; exact ho, ?_, O.ne, O'.obj, _, O'.ns, fun g => ?_, fun g hg => ?_⟩
  · have := length_putF f y fs; omega
  · show RelO ((putF f y fs).lookup g) (if g = f then some u else mA g)
    rw [lookup_putF]
    by_cases q : g = f
    · rw [if_pos q, if_pos q]; exact ry
    · rw [if_neg q, if_neg q]; exact r g
  · by_cases q : g = f
    · rw [q]; exact (keys_putF f y fs).1
    · refine (keys_putF f y fs).2 g (wi g fun z => hg ?_)
      show (if g = f then some u else mA g) = none
      rw [if_neg q]; exact z

/-- a new instance, tracked, without attributes -/
theorem Inv.made (I : Inv X pins σ H s) : Inv X pins σ (upd (upd H s.heap.objs.size (.own (s.heap.objs.size + 1))) (s.heap.objs.size + 1) (.ins C s.heap.objs.size []))
    { s with heap := (s.heap.push PySem.W.emptyDict).push (PySem.W.instObj C s.heap.objs.size) } := by
  have e1 : (s.heap.push PySem.W.emptyDict).get? s.heap.objs.size = some PySem.W.emptyDict := Heap.get?_push_size s.heap rfl
  have e2 : ((s.heap.push PySem.W.emptyDict).push (PySem.W.instObj C s.heap.objs.size)).get? (s.heap.objs.size + 1) = some (PySem.W.instObj C s.heap.objs.size) := by
    have := Heap.get?_push_size (s.heap.push PySem.W.emptyDict) (o := PySem.W.instObj C s.heap.objs.size) rfl
    rwa [Heap.size_push] at this
  have e3 : (s.heap.push PySem.W.emptyDict).Ns s.heap.objs.size (fun _ => none) := ⟨PySem.W.emptyDict, #[], _, e1, rfl, (fun e he => absurd he (by simp)), fun _ => rfl⟩
  have I1 := I.laid (a := s.heap.objs.size) (o := .own (s.heap.objs.size + 1)) (h' := s.heap.push PySem.W.emptyDict) (t' := s.toks) (fun b u q => Heap.get?_push_of_some _ q) (Nat.le_refl _) ⟨_, e1⟩
  refine I1.laid (a := s.heap.objs.size + 1) (o := .ins C s.heap.objs.size []) (t' := s.toks) (fun b u q => Heap.get?_push_of_some _ q) (Nat.le_of_eq (Heap.size_push _ _)) ?_
  have ne : s.heap.objs.size ≠ s.heap.objs.size + 1 := Nat.ne_of_lt (Nat.lt_succ_self _)
  refine ⟨by rw [upd_ne ne, upd_same], Nat.zero_le _, ne, e2, fun _ => none, (Heap.Ns1.of_empty e3).at fun o q => Heap.get?_push_of_some _ q, fun _ => True.intro, fun y hy => absurd rfl hy⟩

/-- e.f where nothing but the object is asked: through attributeBase (super) and the last hold -/
theorem attr_of {prog : Program} {w : World} {env : Env} {e : Expr} {f : Str} {pos : Pos} {s : Shared} {Q : Value → Shared → Prop} (hb : attributeBase e f env (eval e env) = eval e env)
    (h : wpAny (model prog w) A (eval e env) (fun o s₁ => wpAny (model prog w) A (getAttr o f true) Q E s₁) E s) : wpAny (model prog w) A (eval (.Attribute e f pos) env) Q E s :=
  Attribute_any_ h (by rw [arm_eval_Attribute, hb])
end

/-! ### readings and rules -/
/-- e.f, an attribute of the instance -/
def tFld (K : PySem.W.Frag) (ta : TE) (f : Str) : TE := fun σ H Q => ta σ H fun x H1 => ∃ a C dx fs v, x = .ref a ∧ H1 a = some (.ins C dx fs) ∧ Cls K C ∧ NoAttr K C f ∧ fs.lookup f = some v ∧ Q v H1
/-- e.f = value -/
def sFld (K : PySem.W.Frag) (ta tv : TE) (f : Str) : TS := fun D σ H => tv σ H fun y H1 => ta σ H1 fun x H2 => ∃ a C dx fs, x = .ref a ∧ H2 a = some (.ins C dx fs) ∧ Cls K C ∧ NoAttr K C f ∧ fs.length < 1000 ∧
  D.nx σ (upd H2 a (.ins C dx (putF f y fs)))
section
variable {X : Cx} {o e value : Expr} {f : Str} {pos pos' tpos : Pos} {ta tv : TE}
theorem pe_fld (he : PE X e ta) (hb : attributeBase e f X.env (eval e X.env) = eval e X.env) : PE X (.Attribute e f pos) (tFld X.K ta f) := by
  intro pins s σ H Q I h
  refine attr_of hb (thn (he pins s σ H _ I h) fun u s1 ⟨x, H1, I1, rx, a, C, dx, fs, v, ex, ea, c, n, l, q⟩ => ?_)
  subst ex
  obtain rfl : u = Value.ref a := rx
  exact getattr_ok I1 ea c n l fun u' s2 I2 ru => ⟨v, H1, I2, ru, q⟩
theorem ps_fld (ha : PE X o ta) (hv : PE X value tv) (hs : swapsWith value (some (.Attribute o f pos')) pos.line X.env = pure false) : PS X (.Assign [.Attribute o f pos'] value pos) (sFld X.K ta tv f) := by
  intro pins s σ H D I h
  refine plainObj_wpAny_Assign_Attribute (thn (hv pins s σ H _ I h) fun u s1 ⟨y, H1, I1, ry, q⟩ => thn (ha pins s1 σ H1 _ I1 q) fun ov s2 ⟨x, H2, I2, rx, a, C, dx, fs, ex, ea, c, n, l, q2⟩ => ?_) hs
  subst ex
  obtain rfl : ov = Value.ref a := rx
  exact setattr_ok I2 ea c n l ry fun s3 I3 => ⟨σ, _, I3, q2⟩
end

/-! ### isinstance -/
section
variable {X : Cx} {pins : List (Addr × Obj)} {σ : St} {H : Hp} {s : Shared} {A : Around} {E : Value → Shared → Prop} {Q : Value → Shared → Prop} {c : Value} {b : Bool}
/-- the type of a value, as the fragment's deciders take it; for an instance its class -/
inductive TyOf (K : PySem.W.Frag) (H : Hp) : V → Value → Prop where
  | non : TyOf K H .non (.type "NoneType")
  | bl (x : Bool) : TyOf K H (.bl x) (.type "bool")
  | int (i : Int) : TyOf K H (.int i) (.type "int")
  | str (x : Str) : TyOf K H (.str x) (.type "str")
  | flt (x : UInt64) : TyOf K H (.flt x) (.type "float")
  | lst {a : Addr} {xs : List V} (e : H a = some (.lst xs)) : TyOf K H (.ref a) (.type "list")
  | frz {a : Addr} {o : Obj} {xs : List V} (e : H a = some (.frz o (.lst xs))) : TyOf K H (.ref a) (.type "list")
  | tup {a : Addr} {xs : List V} (e : H a = some (.tup xs)) : TyOf K H (.ref a) (.type "tuple")
  | dK {a : Addr} {kvs : List (Key × V)} (e : H a = some (.dK kvs)) : TyOf K H (.ref a) (.type "dict")
  | dT {a : Addr} {kvs : List (List Key × V)} (e : H a = some (.dT kvs)) : TyOf K H (.ref a) (.type "dict")
  | ins {a C dx : Addr} {fs : List (Str × V)} (e : H a = some (.ins C dx fs)) (cl : Cls K C) (ha : PySem.W.findIn K (.ref C) "__class__" = some (some (.builtin "object.__class__")))
      (hn : PySem.W.specialIn K (.builtin "object.__class__") "__get__" = some (some (.builtin "getset_descriptor.__get__"))) (htk : PySem.W.takesIn K (.builtin "object.__class__") = some true)
      (hm : PySem.W.mroIn K C (.type "object") = some true) : TyOf K H (.ref a) (.ref C)
/-- isinstance(x, c) for one class c, a built-in or an own one: kitOne's answer -/
theorem isinst_ok {x : V} {u t : Value} (I : Inv X pins σ H s) (rx : RelV x u) (ty : TyOf X.K H x t) (e : PySem.W.kitOne X.K t c = some b) (h : ∀ tk, Q (.bool b) { s with toks := tk }) :
    wpAny (model X.prog X.w) A (call (.builtin "isinstance") [u, c]) Q E s := by
  cases ty with
  | non => cases (show u = Value.none from rx); exact PySem.W.kia_one PySem.W.kitx_none I.kIn True.intro e (fun z => nomatch z) h
  | bl y => cases (show u = Value.bool y from rx); exact PySem.W.kia_one PySem.W.kitx_bool I.kIn True.intro e (fun z => nomatch z) h
  | int i => obtain ⟨t, q⟩ := (show ∃ t, u = Value.int i t from rx); cases q; exact PySem.W.kia_one PySem.W.kitx_int I.kIn True.intro e (fun z => nomatch z) h
  | str y => obtain ⟨t, q⟩ := (show ∃ t, u = Value.str y t from rx); cases q; exact PySem.W.kia_one PySem.W.kitx_str I.kIn True.intro e (fun z => nomatch z) h
  | flt y => obtain ⟨t, q⟩ := (show ∃ t, u = Value.float y t from rx); cases q; exact PySem.W.kia_one PySem.W.kitx_float I.kIn True.intro e (fun z => nomatch z) h
  | @lst a xs ea =>
    cases (show u = Value.ref a from rx)
    obtain ⟨_, _, n, _, h1⟩ := (show ObjOk X.prog X.w H s.heap a (.lst xs) from I.hok a _ ea)
    exact PySem.W.kia_one PySem.W.kitx_list I.kIn ⟨_, h1, rfl⟩ e (fun z => nomatch z) h
  | @frz a ob xs ea =>
    cases (show u = Value.ref a from rx)
    obtain ⟨_, _, _, n, _, h1⟩ := (show ObjOk X.prog X.w H s.heap a (.frz ob (.lst xs)) from I.hok a _ ea)
    exact PySem.W.kia_one PySem.W.kitx_list I.kIn ⟨_, h1, rfl⟩ e (fun z => nomatch z) h
  | @tup a xs ea =>
    cases (show u = Value.ref a from rx)
    obtain ⟨_, _, _, p⟩ := (show ObjOk X.prog X.w H s.heap a (.tup xs) from I.hok a _ ea)
    obtain ⟨o, h1, h2, _⟩ := p
    exact PySem.W.kia_one PySem.W.kitx_tuple I.kIn ⟨o, h1, h2⟩ e (fun z => nomatch z) h
  | @dK a kvs ea =>
    cases (show u = Value.ref a from rx)
    obtain ⟨_, _, vs, _, p⟩ := (show ObjOk X.prog X.w H s.heap a (.dK kvs) from I.hok a _ ea)
    obtain ⟨o, es, ep, h1, h2, _⟩ := p
    exact PySem.W.kia_one PySem.W.kitx_dict I.kIn ⟨o, h1, h2.1⟩ e (fun z => nomatch z) h
  | @dT a kvs ea =>
    cases (show u = Value.ref a from rx)
    obtain ⟨_, _, xs, _, o, es, ep, h1, h2, _⟩ := (show ObjOk X.prog X.w H s.heap a (.dT kvs) from I.hok a _ ea)
    exact PySem.W.kia_one PySem.W.kitx_dict I.kIn ⟨o, h1, h2.1⟩ e (fun z => nomatch z) h
  | @ins a C dx fs ea cl ha hn htk hm =>
    cases (show u = Value.ref a from rx)
    obtain ⟨mA, O, _⟩ := ins_get I.hok ea
    obtain ⟨od, J, _⟩ := O.look
    exact PySem.W.kia_one (PySem.W.kitx_own (cl.get _) cl.hd ha hn htk hm) I.kIn J e (fun z => nomatch z) h
end
end L2

namespace L2
open PySem PySem.Spec PyProof.Rows

/-! ### room -/
structure Room (k : Nat) (A : Around) : Prop where
  hd : A.handled = none
  dp : A.depth + 3 * k + 5 < recursionLimit
  un : A.units + 16 * k + 200 < cLine
  gd : A.guards = some []
theorem Room.mono {j k : Nat} {A : Around} (r : Room k A) (h : j ≤ k) : Room j A := ⟨r.hd, Nat.lt_of_le_of_lt (Nat.add_le_add_right (Nat.add_le_add_left (Nat.mul_le_mul_left 3 h) _) 5) r.dp, Nat.lt_of_le_of_lt (Nat.add_le_add_right (Nat.add_le_add_left (Nat.mul_le_mul_left 16 h) _) 200) r.un, r.gd⟩
theorem lt3 {a k b c d m n : Nat} (z : c + d ≤ m) (h : a + m * (k + 1) + b < n) : a + c + m * k + b < n := by
  refine Nat.lt_of_le_of_lt (Nat.add_le_add_right ?_ b) h
  rw [Nat.mul_succ, Nat.add_assoc a, Nat.add_comm c]
  exact Nat.add_le_add_left (Nat.add_le_add_left (Nat.le_trans (Nat.le_add_right _ _) z) _) a
theorem Room.deeper {k : Nat} {A : Around} (r : Room (k + 1) A) (env : Env) : Room k (A.deeper env) :=
  ⟨r.hd, lt3 (d := 0) (by decide) r.dp, lt3 (d := 0) (by decide) r.un, r.gd⟩
theorem make_depth {A : Around} {C : Addr} {us : List Value} {kw : List (Str × Value)} : (A.under (.builtin "type.__call__" ⟨.ref C :: us, kw⟩)).depth = A.depth + 1 := by
  first | rfl | simp [Around.under, Code.weight, Code.isCreation, Code.isGuard, Code.isCaller, Code.frames, Code.isFrame, guardIds]
theorem make_units {A : Around} {C : Addr} {us : List Value} {kw : List (Str × Value)} : (A.under (.builtin "type.__call__" ⟨.ref C :: us, kw⟩)).units = A.units + 1 := by
  first | rfl | simp [Around.under, Code.cUnits, Code.frames, Code.isFrame]
theorem make_guards {A : Around} {C : Addr} {us : List Value} {kw : List (Str × Value)} : (A.under (.builtin "type.__call__" ⟨.ref C :: us, kw⟩)).guards = A.guards := by
  first | rfl | simp [Around.under, Code.guards, Code.isGuard, pushGuards, guardIds]
theorem Room.make {k : Nat} {A : Around} (r : Room (k + 1) A) (C : Addr) (us : List Value) (kw : List (Str × Value)) : Room k (A.under (.builtin "type.__call__" ⟨.ref C :: us, kw⟩)) :=
  ⟨r.hd, by have := r.dp; rw [make_depth]; omega, by have := r.un; rw [make_units]; omega, by rw [make_guards]; exact r.gd⟩
theorem Room.depth {k : Nat} {A : Around} (r : Room k A) : A.depth < recursionLimit := by have := r.dp; omega
theorem Room.units {k : Nat} {A : Around} (r : Room k A) : A.units + 64 < cLine := by have := r.un; omega
/-! ### argument lists and displays -/
def tNil : TA := fun _ H Q => Q [] H
def tCons (ta : TE) (tr : TA) : TA := fun σ H Q => ta σ H fun x H1 => tr σ H1 fun xs H2 => Q (x :: xs) H2
section
variable {X : Cx} {e : Expr} {es : List Expr} {te : TE} {t : TA} {pos : Pos}
theorem pa_nil : PA X [] tNil := fun _ _ _ _ H Q I h => Calls.spliced_nil ⟨[], H, I, .nil, h⟩
theorem pa_cons (ha : PE X e te) (hr : PA X es t) (hs : starEach (e :: es) X.env = (false, eval e X.env) :: starEach es X.env := by rfl) : PA X (e :: es) (tCons te t) := by
  intro pos pins s σ H Q I h
  rw [hs]
  show wpAny _ _ (spliced ((false, eval e X.env) :: backTo pos (starEach es X.env))) _ _ s
  refine Calls.spliced_cons (thn (ha pins s σ H _ I h) fun u s1 ⟨x, H1, I1, r1, q1⟩ => ?_)
  exact thn (hr pos pins s1 σ H1 _ I1 q1) fun us s2 ⟨xs, H2, I2, r2, q2⟩ => ⟨x :: xs, H2, I2, .cons r1 r2, q2⟩

/-- a tuple, a list of written items -/
def tTup (t : TA) : TE := fun σ H Q => t σ H fun xs H1 => xs.length ≤ sizeLine ∧ ∀ p, H1 p = none → Q (.ref p) (upd H1 p (.tup xs))
def tLst (t : TA) : TE := fun σ H Q => t σ H fun xs H1 => xs.length ≤ sizeLine ∧ ∀ p, H1 p = none → Q (.ref p) (upd H1 p (.lst xs))
theorem pe_tup {x1} (h : PA X es t) : PE X (.Tuple es x1 pos) (tTup t) := by
  intro pins s σ H Q I hq
  refine wpAny_Tuple_spliced (thn (h pos pins s σ H _ I hq) fun us s1 ⟨xs, H1, I1, r, z, q⟩ => ⟨by rw [← r.length]; exact z, ?_⟩)
  have hf : H1 s1.heap.objs.size = none := I1.hok.fresh (Nat.le_refl _)
  refine ⟨.ref s1.heap.objs.size, upd H1 s1.heap.objs.size (.tup xs), I1.laid (t' := s1.toks) (fun b u e => Heap.get?_push_of_some _ e) (Nat.le_refl _) ?_, rfl, q _ hf⟩
  exact ⟨z, us, r, ⟨_, Heap.get?_push_size _ rfl, rfl, _, rfl⟩⟩
theorem pe_lst (h : PA X es t) : PE X (.List es pos) (tLst t) := by
  intro pins s σ H Q I hq
  refine wpAny_List_spliced (thn (h pos pins s σ H _ I hq) fun us s1 ⟨xs, H1, I1, r, z, q⟩ => ⟨by rw [← r.length]; exact z, ?_⟩)
  have hf : H1 s1.heap.objs.size = none := I1.hok.fresh (Nat.le_refl _)
  refine ⟨.ref s1.heap.objs.size, upd H1 s1.heap.objs.size (.lst xs), I1.laid (t' := s1.toks) (fun b u e => Heap.get?_push_of_some _ e) (Nat.le_refl _) ?_, rfl, q _ hf⟩
  exact ⟨z, us, 0, r, Heap.get?_push_size _ rfl⟩
end

/-! ### what a def promises -/
/-- a def's promise: the bound arguments in the parameters' order, the heap, the wanted end, the wanted exception -/
abbrev Sp := List V → Hp → VK → XK → Prop
/-- how an exception lies behind a call (file 08 gives it): the callers' frames, abstract heap and state ahead of the call, the wish, the exception, the state -/
abbrev CXT := List Env → Hp → Shared → XK → Value → Shared → Prop

/-- the state at a call -/
structure Env0 (P : Program) (w : World) (K : PySem.W.Frag) (mg : Str → Option Value) (base : Heap) (A : Around) (outer : List Env) (s : Shared) (H : Hp) : Prop where
  frames : A.frames = some outer
  mod : Mod K mg base
  bs : ∀ b o, base.get? b = some o → s.heap.get? b = some o ∧ H b = none
  bsz : base.objs.size ≤ s.heap.objs.size
  funs : s.heap.FunFrames base outer
  frf : ∀ b ∈ frs outer, H b = none
  hok : HOk P w H s.heap
  bare : AllBare s.gens
/-- a call's end -/
def CE (outer : List Env) (P : Program) (w : World) (H : Hp) (s : Shared) (Q : VK) (u : Value) (s' : Shared) : Prop :=
  ∃ v H', s'.os = s.os ∧ AllBare s'.gens ∧ Un (frs outer) [] H H' s.heap s'.heap ∧ HOk P w H' s'.heap ∧ RelV v u ∧ Q v H'
def CR (CX : CXT) (outer : List Env) (P : Program) (w : World) (H : Hp) (s : Shared) (Q : VK) (E : XK) (r : Result) (s' : Shared) : Prop :=
  match r with
  | .ok (.ret u) => CE outer P w H s Q u s'
  | .ok _ => False
  | .error e => CX outer H s E e s'
structure FnOk (P : Program) (w : World) (K : PySem.W.Frag) (mg : Str → Option Value) (base : Heap) (CX : CXT) (k : Nat) (f : Addr) (fd : FuncData) (ps : List Str) (sp : Sp) : Prop where
  len : ∀ vs H Q E, sp vs H Q E → vs.length = ps.length
  run : ∀ (A : Around) (outer : List Env) (s : Shared) (H : Hp) (args : Args) (us : List Value) (vs : List V) (Q : VK) (E : XK), Room k A → Env0 P w K mg base A outer s H → BindsTo s fd args (ps.zip us) → Vals vs us → sp vs H Q E →
    codeAny (model P w) A (.call (.ref f) args) (CR CX outer P w H s Q E) s
theorem FnOk.mono {P : Program} {w : World} {K : PySem.W.Frag} {mg : Str → Option Value} {base : Heap} {CX : CXT} {j k : Nat} {f : Addr} {fd : FuncData} {ps : List Str} {sp : Sp} (F : FnOk P w K mg base CX j f fd ps sp) (h : j ≤ k) :
    FnOk P w K mg base CX k f fd ps sp := ⟨F.len, fun A outer s H args us vs Q E hr => F.run A outer s H args us vs Q E (hr.mono h)⟩
theorem Env0.make {P : Program} {w : World} {K : PySem.W.Frag} {mg : Str → Option Value} {base : Heap} {A : Around} {outer : List Env} {s : Shared} {H : Hp} (e : Env0 P w K mg base A outer s H) (C : Addr) (us : List Value) (kw : List (Str × Value)) :
    Env0 P w K mg base (A.under (.builtin "type.__call__" ⟨.ref C :: us, kw⟩)) outer s H := ⟨by first | exact e.frames | (simpa [Around.under, Code.envs, Code.isFrame, pushEnvs] using e.frames), e.mod, e.bs, e.bsz, e.funs, e.frf, e.hok, e.bare⟩
section
variable {X : Cx} {pins : List (Addr × Obj)} {σ : St} {H : Hp} {s s' : Shared}
/-- from a body: what a callee wants -/
theorem Inv.env0 (I : Inv X pins σ H s) : Env0 X.prog X.w X.K X.mg X.base X.A X.stack s H :=
  ⟨I.ok.frames, I.ok.mod, I.bs, Nat.le_trans I.ok.bsz I.sz, I.stack, I.stkFree, I.hok, I.bare⟩
/-- behind a call -/
theorem Inv.after {Q : VK} {u : Value} (I : Inv X pins σ H s) (h : CE X.stack X.prog X.w H s Q u s') : EP X pins σ Q u s' := by
  obtain ⟨v, H', os, bare, un, hok, r, q⟩ := h
  obtain ⟨hh, g, d, t, os'⟩ := s'
  obtain rfl : os' = s.os := os
  exact ⟨v, H', I.call (h' := hh) (g' := g) (d' := d) (t' := t) (ch := []) un hok bare (fun b z => absurd z (by simp)), r, q⟩
end

/-! ### calls -/
/-- f(..): the written arguments, then the defaults dvs; E: what is wanted of an exception -/
def tCall (sp : Sp) (dvs : List V) (E : XK) (t : TA) : TE := fun σ H Q => t σ H fun vs H1 => sp (vs ++ dvs) H1 Q E
/-- C(..): a new instance and its dict, then __init__ -/
def tMake (C : Addr) (sp : Sp) (dvs : List V) (E : XK) (t : TA) : TE := fun σ H Q => t σ H fun vs H1 => ∀ x dx, H1 x = none → H1 dx = none → dx ≠ x →
  sp (.ref x :: (vs ++ dvs)) (upd (upd H1 dx (.own x)) x (.ins C dx [])) (fun v H2 => v = .non ∧ Q (.ref x) H2) E

/-- how the parameters are bound: us the positional arguments, kw the keywords' values by name, ds the defaults that fill up -/
def Binds (K : PySem.W.Frag) (fd : FuncData) (ps : List Str) (ds : List Value) : Prop :=
  ∀ (s : Shared) (us : List Value), K.In s.heap → (us ++ ds).length = ps.length → BindsTo s fd ⟨us, []⟩ (ps.zip (us ++ ds))
/-- every parameter is given -/
theorem Binds.all {K : PySem.W.Frag} {fd : FuncData} {ps : List Str} (h : ∀ us : List Value, us.length = ps.length → bindArgs fd ⟨us, []⟩ = pure (ps.zip us)) : Binds K fd ps [] := fun s us _ hl => by
  rw [List.append_nil] at hl ⊢
  exact .of_eq (h us hl)

/-- an exception of a callee reaches what this body wants of exceptions -/
def Passes (CX : CXT) (X : Cx) (E : XK) : Prop := ∀ (pins : List (Addr × Obj)) (σ : St) (H : Hp) (s : Shared) (e : Value) (s' : Shared), Inv X pins σ H s → CX X.stack H s E e s' → X.xe e s'

section
variable {X : Cx} {CX : CXT} {k : Nat} {f C : Addr} {fd : FuncData} {ps : List Str} {sp : Sp} {dvs : List V} {ds : List Value} {E : XK} {x m : Str} {p pos apos : Pos} {e o : Expr} {es : List Expr} {ta : TE} {t : TA}

/-- the callee runs -/
theorem run_fn {pins : List (Addr × Obj)} {σ : St} {H : Hp} {s : Shared} {Q : VK} {us : List Value} {vs : List V} (F : FnOk X.prog X.w X.K X.mg X.base CX k f fd ps sp) (hr : Room k X.A) (hb : Binds X.K fd ps ds) (hd : Vals dvs ds) (hx : Passes CX X E)
    (I : Inv X pins σ H s) (r : Vals vs us) (h : sp (vs ++ dvs) H Q E) : wpAny (model X.prog X.w) X.A (call (.ref f) us) (EP X pins σ Q) X.xe s := by
  have r2 : Vals (vs ++ dvs) (us ++ ds) := r.append hd
  have hl : (us ++ ds).length = ps.length := by rw [← r2.length]; exact F.len _ _ _ _ h
  refine wpAny_call (codeAny_mono (F.run X.A X.stack s H ⟨us, []⟩ (us ++ ds) (vs ++ dvs) Q E hr I.env0 (hb s us I.kIn hl) r2 h) fun r s' hq => ?_)
  cases r with
  | error e => exact hx pins σ H s e s' I hq
  | ok fl =>
    cases fl with
    | ret u => exact I.after hq
    | next => exact False.elim hq
    | brk => exact False.elim hq
    | cont => exact False.elim hq

theorem pe_call (F : FnOk X.prog X.w X.K X.mg X.base CX k f fd ps sp) (hr : Room k X.A) (hg : Gl X x) (hm : X.mg x = some (.ref f)) (hk : PySem.W.keepIn X.K (.ref f) = true) (hb : Binds X.K fd ps ds) (hd : Vals dvs ds) (hx : Passes CX X E)
    (ha : PA X (e :: es) t) (hdb : (x == ("__debug__" : Str)) = false := by decide) (he : starEach (e :: es) X.env = (false, eval e X.env) :: starEach es X.env := by rfl) (hpl : (backTo pos (starEach es X.env)).any (·.1) = false := by rfl) :
    PE X (.Call (.Name x p) (e :: es) [] pos) (tCall sp dvs E t) := by
  intro pins s σ H Q I h
  refine wpAny_Call_Name_kw (ld_glob I hg hm ?_ hdb)
  refine PySem.W.callWith_K (h₀ := X.base) I.ok.mod.kin hk (thn (ha pos pins s σ H _ I h) fun us s1 ⟨vs, H1, I1, r, q⟩ => ⟨I1.kIn, ?_⟩) he hpl
  exact run_fn F hr hb hd hx I1 r q
theorem pe_call0 (F : FnOk X.prog X.w X.K X.mg X.base CX k f fd ps sp) (hr : Room k X.A) (hg : Gl X x) (hm : X.mg x = some (.ref f)) (hk : PySem.W.keepIn X.K (.ref f) = true) (hb : Binds X.K fd ps ds) (hd : Vals dvs ds) (hx : Passes CX X E)
    (hdb : (x == ("__debug__" : Str)) = false := by decide) : PE X (.Call (.Name x p) [] [] pos) (tCall sp dvs E tNil) := by
  intro pins s σ H Q I h
  refine wpAny_Call_Name_kw (ld_glob I hg hm ?_ hdb)
  exact PySem.W.callWith_K0 I.kIn hk (run_fn (us := []) F hr hb hd hx I .nil h)

/-- what a class must have to be made -/
structure Mk (K : PySem.W.Frag) (C f : Addr) : Prop where
  makes : PySem.W.makesIn K C = true
  init : PySem.W.findIn K (.ref C) "__init__" = some (some (.ref f))
  fn : PySem.W.isFn K (.ref f) = true
  kp : PySem.W.keepIn K (.ref C) = true

theorem run_make {pins : List (Addr × Obj)} {σ : St} {H : Hp} {s : Shared} {Q : VK} {us : List Value} {vs : List V} (M : Mk X.K C f) (F : FnOk X.prog X.w X.K X.mg X.base CX k f fd ps sp) (hr : Room (k + 1) X.A) (hb : Binds X.K fd ps ds) (hd : Vals dvs ds)
    (hx : Passes CX X E) (I : Inv X pins σ H s) (r : Vals vs us)
    (h : ∀ x dx, H x = none → H dx = none → dx ≠ x → sp (.ref x :: (vs ++ dvs)) (upd (upd H dx (.own x)) x (.ins C dx [])) (fun v H2 => v = .non ∧ Q (.ref x) H2) E) :
    wpAny (model X.prog X.w) X.A (call (.ref C) us) (EP X pins σ Q) X.xe s := by
  have hq := h (s.heap.objs.size + 1) s.heap.objs.size (I.hok.fresh (Nat.le_succ _)) (I.hok.fresh (Nat.le_refl _)) (Nat.ne_of_lt (Nat.lt_succ_self _))
  have I2 := Inv.made (C := C) I
  have r2 : Vals (V.ref (s.heap.objs.size + 1) :: (vs ++ dvs)) (Value.ref (s.heap.objs.size + 1) :: (us ++ ds)) := .cons rfl (r.append hd)
  have hl : (Value.ref (s.heap.objs.size + 1) :: us ++ ds).length = ps.length := by
    have e := r2.length
    rw [F.len _ _ _ _ hq] at e
    exact e.symm
  refine wpAny_call (make_map (f := f) I.kIn M.makes M.init (beq_iff_eq.mp M.fn) (codeAny_mono (F.run _ X.stack _ _ ⟨Value.ref (s.heap.objs.size + 1) :: us, []⟩ (Value.ref (s.heap.objs.size + 1) :: (us ++ ds)) _ _ E (hr.make C us [])
    (I2.env0.make C us []) (hb _ (Value.ref (s.heap.objs.size + 1) :: us) I2.kIn hl) r2 hq) fun r s' hq' => ?_))
  cases r with
  | error e => exact hx pins σ _ _ e s' I2 hq'
  | ok fl =>
    cases fl with
    | ret u =>
      obtain ⟨v, H', I3, rv, ev, q3⟩ := I2.after hq'
      subst ev
      exact ⟨rv, ⟨V.ref (s.heap.objs.size + 1), H', I3, rfl, q3⟩⟩
    | next => exact False.elim hq'
    | brk => exact False.elim hq'
    | cont => exact False.elim hq'
theorem pe_make (M : Mk X.K C f) (F : FnOk X.prog X.w X.K X.mg X.base CX k f fd ps sp) (hr : Room (k + 1) X.A) (hg : Gl X x) (hm : X.mg x = some (.ref C)) (hb : Binds X.K fd ps ds) (hd : Vals dvs ds) (hx : Passes CX X E)
    (ha : PA X (e :: es) t) (hdb : (x == ("__debug__" : Str)) = false := by decide) (he : starEach (e :: es) X.env = (false, eval e X.env) :: starEach es X.env := by rfl) (hpl : (backTo pos (starEach es X.env)).any (·.1) = false := by rfl) :
    PE X (.Call (.Name x p) (e :: es) [] pos) (tMake C sp dvs E t) := by
  intro pins s σ H Q I h
  refine wpAny_Call_Name_kw (ld_glob I hg hm ?_ hdb)
  refine PySem.W.callWith_K (h₀ := X.base) I.ok.mod.kin M.kp (thn (ha pos pins s σ H _ I h) fun us s1 ⟨vs, H1, I1, r, q⟩ => ⟨I1.kIn, ?_⟩) he hpl
  exact run_make M F hr hb hd hx I1 r q
end

/-! ### keywords -/
/-- the values of the keywords, from the left -/
def PK (X : Cx) (kws : List Keyword) (t : TA) : Prop :=
  ∀ (pos : Pos) (pins : List (Addr × Obj)) (s : Shared) (σ : St) (H : Hp) (Q : List V → Hp → Prop), Inv X pins σ H s → t σ H Q → wpAny (model X.prog X.w) X.A (evalAll ((backToKw pos (keywordEach kws X.env)).map (·.2))) (AP X pins σ Q) X.xe s
section
variable {X : Cx} {CX : CXT} {k : Nat} {f C : Addr} {fd : FuncData} {ps ks : List Str} {sp : Sp} {E : XK} {x m : Str} {p pos apos kpos : Pos} {e o : Expr} {es : List Expr} {kws : List Keyword} {te ta : TE} {t tk : TA} {nm : Option Str}
theorem pk_nil : PK X [] tNil := fun _ _ _ _ H Q I h => wpAny_evalAll_nil ⟨[], H, I, .nil, h⟩
theorem pk_cons (ha : PE X e te) (hr : PK X kws t) : PK X (⟨nm, e, kpos⟩ :: kws) (tCons te t) := by
  intro pos pins s σ H Q I h
  show wpAny _ _ (evalAll ((do let v ← eval e X.env; standAt pos; pure v) :: (backToKw pos (keywordEach kws X.env)).map (·.2))) _ _ s
  refine wpAny_evalAll_cons (wpAny_bind (thn (ha pins s σ H _ I h) fun u s1 ⟨x, H1, I1, r1, q1⟩ => wpAny_bind (wpAny_standAt (wpAny_pure ?_))))
  exact thn (hr pos pins s1 σ H1 _ I1 q1) fun us s2 ⟨xs, H2, I2, r2, q2⟩ => ⟨x :: xs, H2, I2, .cons r1 r2, q2⟩

variable {g : List Value → List Value → List Value} {gV : List V → List V → List V}
end

/-! ### a def's body keeps its promise -/
/-- names: the parameters first -/
structure FnScope (N P : List Str) (sc : Scope) : Prop where
  kind : sc.kind = .function
  co : sc.isCoroutine = false
  gen : sc.isGenerator = false
  nd : N.Nodup
  pre : N.take P.length = P
  par : ∀ x ∈ P, sc.names.lookup x = some .local ∨ sc.names.lookup x = some .cell
  nofree : ∀ y ∈ sc.names, y.2 ≠ .free

theorem bindL_out {kindOf : Str → Option NameKind} {x : Str} : ∀ {binds : List (Str × Value)} {m : Str → Option Value}, (∀ v, (x, v) ∉ binds) → bindL kindOf binds m x = m x
  | [], _, _ => rfl
  | (n, v) :: r, m, h => by
    unfold bindL
    rw [bindL_out fun w hw => h w (List.mem_cons_of_mem _ hw)]
    split
    · have : x ≠ n := by rintro rfl; exact h v List.mem_cons_self
      simp [this]
    · rfl
theorem bindC_out {kindOf : Str → Option NameKind} {x : Str} : ∀ {binds : List (Str × Value)} {m : Str → Option Value}, (∀ v, (x, v) ∉ binds) → bindC kindOf binds m x = m x
  | [], _, _ => rfl
  | (n, v) :: r, m, h => by
    unfold bindC
    rw [bindC_out fun w hw => h w (List.mem_cons_of_mem _ hw)]
    split
    · rfl
    · have : x ≠ n := by rintro rfl; exact h v List.mem_cons_self
      simp [this]
theorem bindL_get {kindOf : Str → Option NameKind} {x : Str} {v : Value} : ∀ {P : List Str} {vs : List Value} {i : Nat} {m : Str → Option Value}, P.Nodup → P[i]? = some x → vs[i]? = some v → kindOf x = some .local →
    bindL kindOf (P.zip vs) m x = some v
  | [], _, _, _, _, h, _, _ => by simp at h
  | _ :: _, [], _, _, _, _, h, _ => by simp at h
  | p :: P, w :: vs, 0, m, nd, h1, h2, hk => by
    simp at h1 h2; subst h1; subst h2
    show bindL kindOf ((p, w) :: P.zip vs) m p = _
    unfold bindL
    rw [bindL_out fun v hv => (List.nodup_cons.mp nd).1 (List.of_mem_zip hv).1, if_pos hk]
    simp
  | p :: P, w :: vs, i + 1, m, nd, h1, h2, hk => by
    show bindL kindOf ((p, w) :: P.zip vs) m x = _
    unfold bindL
    exact bindL_get (i := i) (List.nodup_cons.mp nd).2 (by simpa using h1) (by simpa using h2) hk
theorem bindC_get {kindOf : Str → Option NameKind} {x : Str} {v : Value} : ∀ {P : List Str} {vs : List Value} {i : Nat} {m : Str → Option Value}, P.Nodup → P[i]? = some x → vs[i]? = some v → kindOf x ≠ some .local →
    bindC kindOf (P.zip vs) m x = some v
  | [], _, _, _, _, h, _, _ => by simp at h
  | _ :: _, [], _, _, _, _, h, _ => by simp at h
  | p :: P, w :: vs, 0, m, nd, h1, h2, hk => by
    simp at h1 h2; subst h1; subst h2
    show bindC kindOf ((p, w) :: P.zip vs) m p = _
    unfold bindC
    rw [bindC_out fun v hv => (List.nodup_cons.mp nd).1 (List.of_mem_zip hv).1, if_neg hk]
    simp
  | p :: P, w :: vs, i + 1, m, nd, h1, h2, hk => by
    show bindC kindOf ((p, w) :: P.zip vs) m x = _
    unfold bindC
    exact bindC_get (i := i) (List.nodup_cons.mp nd).2 (by simpa using h1) (by simpa using h2) hk

/-- the names' values at the entry -/
def start (N : List Str) (vs : List V) : St := vs.map some ++ List.replicate (N.length - vs.length) none

/-- the context of a def's body, at its entry; an exception leaves the frame, then lies as CX says -/
def cxOf (CX : CXT) (P : Program) (w : World) (K : PySem.W.Frag) (mg : Str → Option Value) (base : Heap) (N : List Str) (qual : Str) (scope : Scope) (f : Addr) (cd : Value) (A : Around) (outer : List Env) (s : Shared) (H : Hp) (E : XK) : Cx where
  prog := P
  w := w
  K := K
  mg := mg
  base := base
  A := A.deeper (envOfC qual scope s.heap.objs.size f cd)
  N := N
  s₀ := s
  H₀ := H
  env := envOfC qual scope s.heap.objs.size f cd
  outer := outer
  stack := envOfC qual scope s.heap.objs.size f cd :: outer
  ex := []
  calm := true
  fn := fun _ => true
  pn := []
  xe := fun e s' => wpAny (model P w) (A.deeper (envOfC qual scope s.heap.objs.size f cd)) (leaving (envOfC qual scope s.heap.objs.size f cd) e) (fun _ s'' => CX outer H s E e s'') (fun e' s'' => CX outer H s E e' s'') s'

theorem cell_has {sc : Scope} {n : Nat} {x : Str} (h : sc.names.lookup x = some .cell) : ∃ c, (cellsFrom n sc.names []).lookup x = some c := by
  have q := PySem.W.cellsFrom_some sc.names n [] (.inl h)
  exact Option.isSome_iff_exists.mp q

theorem inv_start {CX : CXT} {P : Program} {w : World} {K : PySem.W.Frag} {mg : Str → Option Value} {base : Heap} {N ps : List Str} {qual : Str} {scope : Scope} {f : Addr} {cd : Value} {A : Around} {outer : List Env} {s s1 : Shared} {H : Hp} {E : XK} {us : List Value} {vs : List V}
    (S : FnScope N ps scope) (hd : A.handled = none) (e0 : Env0 P w K mg base A outer s H) (hl : vs.length = ps.length) (r : Vals vs us)
    (x : InCallC s s.heap.objs.size (bindL (envOfC qual scope s.heap.objs.size f cd).kindOf (ps.zip us) fun _ => none) (cellsFrom (s.heap.objs.size + 1) scope.names []) (bindC (envOfC qual scope s.heap.objs.size f cd).kindOf (ps.zip us) fun _ => none) s1) :
    Inv (cxOf CX P w K mg base N qual scope f cd A outer s H E) [] (start N vs) H s1 := by
  have hpl : ps.length ≤ N.length := by have := congrArg List.length S.pre; rw [List.length_take] at this; omega
  obtain ⟨h1, tk, rfl, hk⟩ := x.done
  have noA : ∀ b : Addr, b ∉ (cxOf CX P w K mg base N qual scope f cd A outer s H E).ex := fun b z => absurd (show b ∈ ([] : List Addr) from z) (by simp)
  refine ⟨⟨e0.mod, S.kind, rfl, rfl, Nat.le_refl _, fun y z c h1 h2 => ?_, fun y hy => ?_, fun y c _ h => ?_, fun _ => hd, Around.frames_deeper e0.frames, .inr ⟨rfl, rfl⟩, fun b z => absurd z (noA b), e0.bs, e0.bsz, fun b _ _ => noA b, fun b z => absurd z (noA b), e0.funs, e0.frf⟩,
    rfl, e0.bare, Un.kept hk, ⟨_, x.toInCall.ns, fun i y v h1 h2 h3 => ?_⟩, fun y c h => ⟨_, x.cell y c h⟩, e0.hok.fresh (Nat.le_refl _), fun y c h => ?_, fun p hp => absurd (show p ∈ ([] : List (Addr × Obj)) from hp) (by simp), e0.hok.kept hk, ?_⟩
  · exact name_of_addr x.apart (PySem.mem_of_lookup h1) (PySem.mem_of_lookup h2)
  · have hy : scope.names.lookup y = some .cell ∨ scope.names.lookup y = some .free := hy
    rcases hy with hy | hy
    · exact cell_has hy
    · exact absurd rfl (S.nofree _ (PySem.mem_of_lookup hy))
  · exact Nat.le_of_lt (x.above y c (PySem.mem_of_lookup h))
  · have hi : i < vs.length := by
      unfold start at h2
      by_cases hi : i < vs.length
      · exact hi
      · rw [List.getElem?_append_right (by simpa using hi)] at h2
        rw [List.getElem?_replicate] at h2
        split at h2 <;> cases h2
    have ha : vs[i]? = some v := by
      unfold start at h2
      rw [List.getElem?_append_left (by simpa using hi), List.getElem?_map] at h2
      cases e : vs[i]? with
      | none => rw [e] at h2; cases h2
      | some a => rw [e] at h2; cases h2; rfl
    obtain ⟨u, hu, rv⟩ := r.get ha
    have hp : ps[i]? = some y := by
      rw [← S.pre, List.getElem?_take_of_lt (by omega)]; exact h1
    have ndP : ps.Nodup := by rw [← S.pre]; exact S.nd.sublist (List.take_sublist _ _)
    refine ⟨u, rv, ?_⟩
    rcases S.par y (List.mem_of_getElem? hp) with k | k
    · exact .inl ⟨k, bindL_get ndP hp hu k⟩
    · obtain ⟨c, e⟩ := cell_has (n := s.heap.objs.size + 1) k
      refine .inr ⟨.inl k, c, e, ?_⟩
      have q := x.cell y c e
      rw [bindC_get ndP hp hu (by show scope.names.lookup y ≠ _; rw [k]; decide)] at q
      exact q
  · exact e0.hok.fresh (Nat.le_of_lt (x.above y c (PySem.mem_of_lookup h)))
  · unfold start
    show _ = N.length
    rw [List.length_append, List.length_map, List.length_replicate]
    omega

/-- THE RULE: a def (or a method) of the text, by its body. The body's reading t is chosen for each entry; it is run at the parameters' values -/
theorem fn_of {CX : CXT} {P : Program} {w : World} {K : PySem.W.Frag} {mg : Str → Option Value} {base : Heap} {k : Nat} {f : Addr} {name qual : Str} {params : Arguments} {body : List Stmt} {scope : Scope} {dV kV doc pm cdv ct oc : Value} {an od : Option Addr}
    {osl : Array (Option Value)} {N ps : List Str} {sp : Sp} (lk : K.lookup f = some ⟨oc, od, .func (PySem.W.fnOf name qual params body scope dV kV doc pm an cdv ct), osl⟩) (hcd : PySem.W.codeIn K cdv qual = true) (S : FnScope N ps scope)
    (len : ∀ vs H Q E, sp vs H Q E → vs.length = ps.length)
    (hbody : ∀ (A : Around) (outer : List Env) (s : Shared) (H : Hp) (vs : List V) (Q : VK) (E : XK), Room k (A.deeper (envOfC qual scope s.heap.objs.size f cdv)) → sp vs H Q E →
      ∃ t, PSs (cxOf CX P w K mg base N qual scope f cdv A outer s H E) body t ∧ t { nx := fun _ H' => Q .non H', rt := Q } (start N vs) H) :
    FnOk P w K mg base CX (k + 1) f (PySem.W.fnOf name qual params body scope dV kV doc pm an cdv ct) ps sp := by
  refine ⟨len, fun A outer s H args us vs Q E hr e0 hb r hsp => ?_⟩
  have hl := len _ _ _ _ hsp
  have KX : K.In s.heap := e0.mod.kin.keeps fun b o e => (e0.bs b o e).1
  have lim : s.heap.NoLimit := e0.mod.nolimit.keeps fun b o e => (e0.bs b o e).1
  have hkind : ∀ y ∈ ps.zip us, scope.names.lookup y.1 = some .local ∨ (scope.names.lookup y.1 = some .cell ∧ ((cellsFrom (s.heap.objs.size + 1) scope.names []).lookup y.1).isSome = true) := fun ⟨n, v⟩ hy => by
    rcases S.par n (List.of_mem_zip hy).1 with q | q
    · exact .inl q
    · exact .inr ⟨q, PySem.W.cellsFrom_some _ _ _ (.inl q)⟩
  refine codeAny_call_function hr.depth (KX _ _ lk) rfl S.co S.gen rfl (PySem.W.codeRec_of KX hcd) (hb _ _ _ _ ?_)
  refine wpAny_newFunctionEnv_cells S.kind hkind fun env he s1 x => ?_
  subst he
  refine ⟨lim.keeps x.toInCall.keep, codeAny_func ?_⟩
  obtain ⟨t, ht, hq⟩ := hbody A outer s H vs Q E (hr.deeper _) hsp
  have I : Inv (cxOf CX P w K mg base N qual scope f cdv A outer s H E) [] (start N vs) H s1 := inv_start S hr.hd e0 hl r x
  refine wpAny_mono (ht [] s1 (start N vs) H _ I hq) (fun fl s' hs => ?_) fun e s' hs => hs
  have fin : ∀ {σ' : St} {H' : Hp} {v : V} {u : Value}, Inv (cxOf CX P w K mg base N qual scope f cdv A outer s H E) [] σ' H' s' → RelV v u → Q v H' → CE outer P w H s Q u s' :=
    fun {σ' H' v u} J rv q => ⟨v, H', J.os, J.bare, J.base, J.hok, rv, q⟩
  cases fl with
  | ret u =>
    obtain ⟨v, σ', H', J, rv, q⟩ := hs
    exact fin J rv q
  | next =>
    obtain ⟨σ', H', J, q⟩ := hs
    exact fin (v := V.non) (u := Value.none) J rfl q
  | brk =>
    obtain ⟨_, _, _, q⟩ := hs
    exact False.elim q
  | cont =>
    obtain ⟨_, _, _, q⟩ := hs
    exact False.elim q
end L2

namespace L2
open PySem PySem.Spec PyProof.Rows
section
variable {X : Cx} {x : Str} {p pos : Pos} {e : Expr} {es : List Expr} {t : TA} {id T : String} {r : List V → Hp → VK → Prop}

def tCB (r : List V → Hp → VK → Prop) (t : TA) : TE := fun σ H Q => t σ H fun vs H1 => r vs H1 Q
/-- f(e, ..), f a built-in function -/
theorem pe_callB (hc : CallR X (.builtin id) r) (hg : Gl X x) (hm : X.mg x = none) (hv : bootBuiltins x = some (.builtin id)) (ha : PA X (e :: es) t) (hn : x ≠ "__name__" := by decide) (hdb : (x == ("__debug__" : Str)) = false := by decide)
    (he : starEach (e :: es) X.env = (false, eval e X.env) :: starEach es X.env := by rfl) (hpl : (backTo pos (starEach es X.env)).any (·.1) = false := by rfl) : PE X (.Call (.Name x p) (e :: es) [] pos) (tCB r t) := by
  intro pins s σ H Q I h
  refine wpAny_Call_Name_kw (ld_blt I hg hm hv ?_ hn hdb)
  exact PyProof.Rows.callWith_builtin1 (thn (ha pos pins s σ H _ I h) fun us s1 ⟨vs, H1, I1, r1, q1⟩ => hc pins s1 σ H1 vs us Q I1 r1 q1) he hpl
/-- T(e, ..), T a built-in type -/
theorem pe_callTy (hc : CallR X (.type T) r) (hg : Gl X x) (hm : X.mg x = none) (hv : bootBuiltins x = some (.type T)) (ha : PA X (e :: es) t) (hn : x ≠ "__name__" := by decide) (hdb : (x == ("__debug__" : Str)) = false := by decide)
    (he : starEach (e :: es) X.env = (false, eval e X.env) :: starEach es X.env := by rfl) (hpl : (backTo pos (starEach es X.env)).any (·.1) = false := by rfl) : PE X (.Call (.Name x p) (e :: es) [] pos) (tCB r t) := by
  intro pins s σ H Q I h
  refine wpAny_Call_Name_kw (ld_blt I hg hm hv ?_ hn hdb)
  exact PyProof.Rows.callWith_type1 (thn (ha pos pins s σ H _ I h) fun us s1 ⟨vs, H1, I1, r1, q1⟩ => hc pins s1 σ H1 vs us Q I1 r1 q1) he hpl
/-- T() -/
theorem pe_callTy0 (hc : CallR X (.type T) r) (hg : Gl X x) (hm : X.mg x = none) (hv : bootBuiltins x = some (.type T)) (hn : x ≠ "__name__" := by decide) (hdb : (x == ("__debug__" : Str)) = false := by decide) :
    PE X (.Call (.Name x p) [] [] pos) (tCB r tNil) := by
  intro pins s σ H Q I h
  refine wpAny_Call_Name_kw (ld_blt I hg hm hv ?_ hn hdb)
  exact PyProof.Rows.callWith_type0 (hc pins s σ H [] [] Q I .nil h)
end
end L2

namespace HT
open PySem PyProof.Rows

section
open PySem.SeqAt
open PySem.AutoSeq1 (wpAny_loadPart')
open PySem.MeetsSeq PySem.MeetsSeq2 PySem.MeetsSeq3

end

section
variable {prog : Program} {w : World} {A : Around} {E : Value → Shared → Prop} {s : Shared}

/-! ### t[a:b], not the whole -/
/-- a slice's bound as a place among n (d where it is left out) -/
def sIx (n d : Nat) : Option Int → Nat
  | none => d
  | some v => if v < 0 then (v + (n : Int)).toNat else min v.toNat n
theorem sIx_none (n d : Nat) : sIx n d none = d := rfl
theorem sIx_nat (n d k : Nat) : sIx n d (some (k : Int)) = min k n := by
  show (if (k : Int) < 0 then ((k : Int) + (n : Int)).toNat else min (k : Int).toNat n) = min k n
  rw [if_neg (by omega), Int.toNat_natCast]
end
end HT

namespace L2
open PySem PySem.Spec PyProof.Rows

/-! ### the parts of a slice -/
abbrev TO := St → Hp → (Option Int → Hp → Prop) → Prop
/-- a slice's part (left out, or an int) -/
def PO (X : Cx) (e : Option Expr) (t : TO) : Prop :=
  ∀ (pins : List (Addr × Obj)) (s : Shared) (σ : St) (H : Hp) (Q : Option Int → Hp → Prop), Inv X pins σ H s → t σ H Q →
    wpAny (model X.prog X.w) X.A (evalPart e X.env) (fun u s' => ∃ o H', Inv X pins σ H' s' ∧ IsPart u o ∧ Q o H') X.xe s
def tNoPart : TO := fun _ H Q => Q none H
def tPart (t : TE) : TO := fun σ H Q => t σ H fun x H1 => ∃ i, x = .int i ∧ Q (some i) H1

theorem intsAre_of {ns : List Int} : ∀ {us : List Value}, Vals (ns.map V.int) us → IntsAre us ns := by
  induction ns with
  | nil => intro us r; rw [List.map_nil] at r; cases r; exact .nil
  | cons n ns ih =>
    intro us r
    rw [List.map_cons] at r
    cases r with
    | cons r1 r2 =>
      obtain ⟨t, e⟩ := r1
      subst e
      exact .cons n t (ih r2)

section
variable {X : Cx} {e : Expr} {te : TE} {lo hi : Option Expr} {tl th : TO} {pos p2 : Pos}

theorem po_none : PO X none tNoPart := by
  intro pins s σ H Q I h
  rw [evalPart_none]
  exact wpAny_pure ⟨none, H, I, .none, h⟩
theorem po_some (h : PE X e te) : PO X (some e) (tPart te) := by
  intro pins s σ H Q I hw
  rw [evalPart_some]
  refine thn (h pins s σ H _ I hw) fun u s1 ⟨x, H1, I1, r1, q1⟩ => ?_
  obtain ⟨i, rfl, q⟩ := q1
  obtain ⟨t, rfl⟩ := r1
  exact ⟨some i, H1, I1, .int i t, q⟩

/-- what a slice of a value is, by values: the slice object stands at sl -/
def SlR (X : Cx) (r : V → Option Int → Option Int → Hp → VK → Prop) : Prop :=
  ∀ (pins : List (Addr × Obj)) (s : Shared) (σ : St) (H : Hp) (x : V) (v vl vu : Value) (lo hi : Option Int) (sl : Addr) (Q : VK), Inv X pins σ H s → RelV x v → s.heap.IsSliceOf sl vl vu .none → IsPart vl lo → IsPart vu hi → r x lo hi H Q →
    ∃ T id, typeLookup (.type T) "__getitem__" = pure (some (.builtin id)) ∧ s.TypeIs v T ∧ wpAny (model X.prog X.w) X.A (getItem v (.ref sl)) (EP X pins σ Q) X.xe s
def tSl (r : V → Option Int → Option Int → Hp → VK → Prop) (te : TE) (tl th : TO) : TE := fun σ H Q => te σ H fun x H1 => tl σ H1 fun l H2 => th σ H2 fun u H3 => r x l u H3 Q
/-- a[lo:hi], any a -/
theorem pe_slice {r : V → Option Int → Option Int → Hp → VK → Prop} (hr : SlR X r) (he : PE X e te) (hl : PO X lo tl) (hu : PO X hi th) : PE X (.Subscript e (.Slice lo hi none p2) pos) (tSl r te tl th) := by
  intro pins s σ H Q I h
  refine Subscript_ (thn (he pins s σ H _ I h) fun v s1 ⟨x, H1, I1, r1, q1⟩ => ?_)
  refine wpAny_Slice (thn (hl pins s1 σ H1 _ I1 q1) fun vl s2 ⟨l, H2, I2, pl, q2⟩ => thn (hu pins s2 σ H2 _ I2 q2) fun vu s3 ⟨u, H3, I3, pu, q3⟩ => ?_)
  rw [evalPart_none]
  refine wpAny_pure ?_
  have I4 : Inv X pins σ H3 { s3 with heap := s3.heap.push { cls := .type "slice", data := .fields #[vl, vu, .none] } } := I3.kept (t' := s3.toks) fun b ob q => Heap.get?_push_of_some _ q
  obtain ⟨T, id, hT, ht, hg⟩ := hr pins { s3 with heap := s3.heap.push { cls := .type "slice", data := .fields #[vl, vu, .none] } } σ H3 x v vl vu l u s3.heap.objs.size Q I4 r1 (Heap.IsSliceOf.new ..) pl pu q3
  show wpAny (model X.prog X.w) X.A (subscriptTail e (.Slice lo hi none p2) v (.ref s3.heap.objs.size)) (EP X pins σ Q) X.xe { s3 with heap := s3.heap.push { cls := .type "slice", data := .fields #[vl, vu, .none] } }
  exact tail_any (ops := [.ref s3.heap.objs.size, v]) ht hT hg (by with_unfolding_all rfl)

/-- the items of xs[lo:hi] -/
def cutV (xs : List V) (lo hi : Option Int) : List V := (xs.drop (HT.sIx xs.length 0 lo)).take (HT.sIx xs.length xs.length hi - HT.sIx xs.length 0 lo)
theorem cutV_length (xs : List V) (lo hi : Option Int) : (cutV xs lo hi).length ≤ xs.length := by
  unfold cutV
  rw [List.length_take, List.length_drop]
  exact Nat.le_trans (Nat.min_le_right _ _) (Nat.sub_le _ _)
/-! ### t < u, t + u -/
end
end L2

namespace L2
open PySem PySem.Spec PyProof.Rows

/-! ### places -/
/-- the place that an index of any sign means -/
def ixN (n : Nat) (i : Int) : Option Nat := if 0 ≤ i then (if i < n then some i.toNat else none) else if -(n : Int) ≤ i then some (i + n).toNat else none
def atI {α : Type} (xs : List α) (i : Int) : Option α := (ixN xs.length i).bind fun j => xs[j]?
theorem ixN_seq {n : Nat} {i : Int} {j : Nat} (h : ixN n i = some j) : seqIndex? i n = some j ∧ j < n ∧ -(n : Int) ≤ i ∧ i < n := by
  unfold ixN at h
  by_cases h0 : 0 ≤ i
  · rw [if_pos h0] at h
    by_cases h1 : i < n
    · rw [if_pos h1] at h
      have e : i.toNat = j := Option.some.inj h
      exact ⟨by rw [seqIndex_of h0 h1, e], by omega, by omega, h1⟩
    · rw [if_neg h1] at h; cases h
  · rw [if_neg h0] at h
    by_cases h1 : -(n : Int) ≤ i
    · rw [if_pos h1] at h
      have e : (i + n).toNat = j := Option.some.inj h
      exact ⟨by rw [seqIndex_neg (by omega) h1, e], by omega, h1, by omega⟩
    · rw [if_neg h1] at h; cases h
theorem atI_get {α : Type} {xs : List α} {i : Int} {v : α} (h : atI xs i = some v) : ∃ j, seqIndex? i xs.length = some j ∧ xs[j]? = some v ∧ j < xs.length ∧ -(xs.length : Int) ≤ i ∧ i < xs.length := by
  unfold atI at h
  cases e : ixN xs.length i with
  | none => rw [e] at h; cases h
  | some j =>
    rw [e] at h
    obtain ⟨h1, h2, h3, h4⟩ := ixN_seq e
    exact ⟨j, h1, h, h2, h3, h4⟩
theorem atI_nat {α : Type} {xs : List α} {j : Nat} {v : α} (h : xs[j]? = some v) : atI xs (j : Int) = some v := by
  have hj : j < xs.length := (List.getElem?_eq_some_iff.mp h).1
  have e : ixN xs.length (j : Int) = some j := by
    unfold ixN
    rw [if_pos (by omega), if_pos (by omega)]; simp
  unfold atI; rw [e]; exact h
/-! ### what may be subscripted -/
/-- what stands as an index of a plain subscript -/
def PlainIx (b : Expr) : Prop := ∀ o i, subscripted b false o i = operate [o, i] (getItem o i)
/-- a subscript by values -/
def IxR (X : Cx) (r : R2) : Prop :=
  ∀ (value slice : Expr) (pins : List (Addr × Obj)) (s : Shared) (σ : St) (H : Hp) (x y : V) (v u : Value) (Q : VK), Inv X pins σ H s → RelV x v → RelV y u → r x y H Q →
    subscripted slice false v u = operate [v, u] (getItem v u) → wpAny (model X.prog X.w) X.A (subscriptTail value slice v u) (EP X pins σ Q) X.xe s
/-- a call of a builtin's method by values: the receiver, the arguments -/
def MtR (X : Cx) (id : String) (r : V → List V → Hp → VK → Prop) : Prop :=
  ∀ (pins : List (Addr × Obj)) (s : Shared) (σ : St) (H : Hp) (x : V) (xs : List V) (v : Value) (us : List Value) (Q : VK), Inv X pins σ H s → RelV x v → Vals xs us → r x xs H Q →
    wpAny (model X.prog X.w) X.A (call (.builtin id) (v :: us)) (EP X pins σ Q) X.xe s
section
variable {X : Cx} {a b : Expr} {ta tb : TE} {pos : Pos}
/-- a[b] -/
theorem pe_ix {r : R2} (hr : IxR X r) (ha : PE X a ta) (hb : PE X b tb) (hs : PlainIx b) : PE X (.Subscript a b pos) (tOp r ta tb) := by
  intro pins s σ H Q I h
  exact Subscript_ (binT ha hb I h fun v u s2 x y H2 I2 rx ry q => hr a b pins s2 σ H2 x y v u Q I2 rx ry q (hs _ _))

def rIxL (K : PySem.W.Frag) : R2 := fun x y H Q => ∃ p xs i v, x = .ref p ∧ y = .int i ∧ SqL K H p xs ∧ atI xs i = some v ∧ Q v H
def rIxS : R2 := fun x y H Q => ∃ z i c, x = .str z ∧ y = .int i ∧ z.length ≤ sizeLine ∧ atI z.cps.toList i = some c ∧ Q (.str ⟨#[c]⟩) H
theorem ix_list : IxR X (rIxL X.K) := by
  intro value slice pins s σ H x y v u Q I rx ry h hs
  obtain ⟨p, xs, i, z, rfl, rfl, hq, he, q⟩ := h
  cases rx
  obtain ⟨t, rfl⟩ := ry
  obtain ⟨its, r, pl, hz⟩ := I.list hq
  obtain ⟨j, h1, h2, h3, h4, h5⟩ := atI_get he
  obtain ⟨w, ew, rw'⟩ := r.get h2
  have hl := r.length
  have hn := line63
  have fin : EP X pins σ Q w s := ⟨z, H, I, rw', q⟩
  by_cases h0 : 0 ≤ i
  · have hj : i.toNat = j := by
      rw [seqIndex_of h0 h5] at h1
      exact Option.some.inj h1
    exact item_listR pl.isList h0 (by omega) (by rw [hj]; simpa using ew) fin hs
  · have hj : (i + (its.toArray.size : Int)).toNat = j := by
      rw [seqIndex_neg (by omega) h4] at h1
      rw [List.size_toArray, ← hl]
      exact Option.some.inj h1
    exact subscriptTail_builtinR (x := w) pl.isList.typeIs slot_list_getitem.lookup
      (wpAny_getItem_list_neg (Q := fun r s' => r = w ∧ EP X pins σ Q r s') pl.isList (by omega) (by rw [List.size_toArray] <;> omega) (by omega) (by rw [hj]; simpa using ew) ⟨rfl, fin⟩) hs
theorem ix_str : IxR X rIxS := by
  intro value slice pins s σ H x y v u Q I rx ry h hs
  obtain ⟨z, i, c, rfl, rfl, hz, he, q⟩ := h
  obtain ⟨t, rfl⟩ := rx
  obtain ⟨t', rfl⟩ := ry
  obtain ⟨j, h1, h2, h3, h4, h5⟩ := atI_get he
  have hl : z.cps.toList.length = z.length := by simp [Str.length]
  rw [hl] at h1 h4 h5
  have hn := line63
  exact tail_any (typeIs_str s z t) slot_str_getitem.lookup (getItem_str (c := c) (by
    have e1 : decide (i < -(2 ^ 63 : Int)) = false := decide_eq_false (by omega)
    have e2 : decide (i ≥ 2 ^ 63) = false := decide_eq_false (by omega)
    rw [e1, e2, Bool.or_false]) (by rw [h1]; simpa using h2) ⟨.str ⟨#[c]⟩, H, I.tok _, ⟨_, rfl⟩, q⟩) hs
/-! ### xs[i] = v, any sign -/
/-- the list's object behind a store -/
theorem mapSeq_set (its : List Value) (n j : Nat) (u : Value) : Obj.mapSeq (·.setIfInBounds j u) { cls := .type "list", data := .seq its.toArray n } = { cls := .type "list", data := .seq (its.set j u).toArray n } := by
  simp [Obj.mapSeq]
theorem Inv.lst {pins : List (Addr × Obj)} {σ : St} {H : Hp} {s : Shared} {p : Addr} {xs : List V} (I : Inv X pins σ H s) (h : H p = some (.lst xs)) :
    ∃ (its : List Value) (n : Nat), Vals xs its ∧ s.heap.get? p = some { cls := .type "list", data := .seq its.toArray n } ∧ xs.length ≤ sizeLine := by
  obtain ⟨z, its, n, r, e⟩ := I.hok p _ h
  exact ⟨its, n, r, e, z⟩
/-- the list at p is written by an update of its object -/
theorem Inv.lstUpd {pins : List (Addr × Obj)} {σ : St} {H : Hp} {s : Shared} {p : Addr} {xs ys : List V} {its its' : List Value} {n n' : Nat} {f : Obj → Obj} (I : Inv X pins σ H s) (h : H p = some (.lst xs))
    (ho : s.heap.get? p = some { cls := .type "list", data := .seq its.toArray n }) (hf : f { cls := .type "list", data := .seq its.toArray n } = { cls := .type "list", data := .seq its'.toArray n' }) (r : Vals ys its') (hz : ys.length ≤ sizeLine) (t : Nat) :
    Inv X pins σ (upd H p (.lst ys)) { s with heap := s.heap.update p f, toks := t } := by
  have e : (s.heap.update p f).get? p = some { cls := .type "list", data := .seq its'.toArray n' } := by
    rw [Heap.get?_update_self f ho (by rw [hf] <;> rfl), hf]
  refine I.write (x := p) (e := p) (by rw [h]; trivial) (.inl rfl) (fun b u hb q => (Heap.get?_update_other _ _ (Ne.symm hb)).trans q) ⟨_, e⟩ ?_
  exact ⟨hz, its', n', r, e⟩
def rSetL : V → V → V → Hp → (Hp → Prop) → Prop := fun o i v H Q => ∃ p xs k j, o = .ref p ∧ i = .int k ∧ H p = some (.lst xs) ∧ ixN xs.length k = some j ∧ Q (upd H p (.lst (xs.set j v)))
theorem set_list : PSet X rSetL := by
  intro pins s σ H o i v ov iv u Q I ro ri rv h
  obtain ⟨p, xs, k, j, rfl, rfl, hp, hj, q⟩ := h
  cases ro
  obtain ⟨t, rfl⟩ := ri
  obtain ⟨its, n, r, ho, hz⟩ := I.lst hp
  obtain ⟨h1, h2, h3, h4⟩ := ixN_seq hj
  have hl := r.length
  have hn := line63
  have I' : Inv X pins σ (upd H p (.lst (xs.set j v))) { s with heap := s.heap.update p (Obj.mapSeq (·.setIfInBounds j u)) } :=
    I.lstUpd hp ho (mapSeq_set its n j u) (r.set rv j) (by rw [List.length_set]; exact hz) s.toks
  by_cases h0 : 0 ≤ k
  · have hk : k.toNat = j := by
      rw [seqIndex_of h0 h4] at h1
      exact Option.some.inj h1
    exact PySem.W.ki_setAt ho h0 (by omega) (by rw [List.size_toArray, ← hl]; exact h4) (by rw [hk]; exact ⟨_, I', q⟩)
  · have hk : (k + (its.toArray.size : Int)).toNat = j := by
      rw [seqIndex_neg (by omega) h3] at h1
      rw [List.size_toArray, ← hl]
      exact Option.some.inj h1
    exact PySem.W.ki_setBack ho (by omega) (by rw [List.size_toArray, ← hl]; exact h3) (by omega) (by rw [hk]; exact ⟨_, I', q⟩)

/-! ### slices -/
theorem clipB (i : Int) (n : Nat) : max 0 (min (if i < 0 then i + (n : Int) else i) (n : Int)) = (((if i < 0 then (i + (n : Int)).toNat else min i.toNat n) : Nat) : Int) := by
  by_cases h : i < 0
  · rw [if_pos h, if_pos h, Int.min_eq_left (Int.le_trans (Int.add_le_add_right (Int.le_of_lt h) _) (by rw [Int.zero_add]; exact Int.le_refl _)), Int.ofNat_toNat, Int.max_comm]
  · rw [if_neg h, if_neg h]
    cases i with
    | negSucc k => exact absurd (Int.negSucc_lt_zero k) h
    | ofNat k =>
      show max 0 (min (k : Int) (n : Int)) = ((min k n : Nat) : Int)
      rw [Int.min_def, Nat.min_def]
      by_cases q : k ≤ n
      · rw [if_pos q, if_pos (Int.ofNat_le.mpr q)]; exact Int.max_eq_right (Int.natCast_nonneg _)
      · rw [if_neg q, if_neg (fun z => q (Int.ofNat_le.mp z))]; exact Int.max_eq_right (Int.natCast_nonneg _)
theorem slice_bounds (lo hi : Option Int) (n : Nat) : (sliceBounds lo hi none n).1 = ((HT.sIx n 0 lo : Nat) : Int) ∧ (sliceBounds lo hi none n).2.1 = ((HT.sIx n n hi : Nat) : Int) ∧ (sliceBounds lo hi none n).2.2 = 1 := by
  refine ⟨?_, ?_, rfl⟩
  · cases lo with
    | none => rfl
    | some i => exact clipB i n
  · cases hi with
    | none => rfl
    | some i => exact clipB i n
theorem slicePick_cut (its : List Value) (lo hi : Option Int) : slicePick its.toArray lo hi none = ((its.drop (HT.sIx its.length 0 lo)).take (HT.sIx its.length its.length hi - HT.sIx its.length 0 lo)).toArray := by
  obtain ⟨h1, h2, h3⟩ := slice_bounds lo hi its.toArray.size
  unfold slicePick
  rw [h1, h2, h3]
  simp only [sliceRange_one, pick_run, List.size_toArray] <;> rfl
/-- xs[lo:hi] of a list: a new list -/
def rSlL (K : PySem.W.Frag) : V → Option Int → Option Int → Hp → VK → Prop := fun x lo hi H Q => ∃ a xs, x = .ref a ∧ SqL K H a xs ∧ ∀ p, H p = none → Q (.ref p) (upd H p (.lst (cutV xs lo hi)))
theorem sl_list : SlR X (rSlL X.K) := by
  intro pins s σ H x v vl vu lo hi sl Q I rx hs pl pu h
  obtain ⟨a, xs, rfl, hx, q⟩ := h
  cases rx
  obtain ⟨its, r, ht, hz⟩ := I.list hx
  have hlen := r.length
  refine ⟨"list", _, slot_list_getitem.lookup, ht.isList.typeIs, ?_⟩
  refine wpAny_getItem_list_slice ht.isList hs pl pu .none (by simp) ?_ (by rw [List.size_toArray] <;> omega)
  rw [slicePick_cut, ← hlen]
  refine ⟨.ref s.heap.objs.size, _, I.laid (t' := s.toks) (o := .lst (cutV xs lo hi)) (fun b ob q => Heap.get?_push_of_some _ q) (Nat.le_refl _) ?_, rfl, q _ (I.hok.fresh (Nat.le_refl _))⟩
  exact ⟨Nat.le_trans (cutV_length xs lo hi) hz, _, 0, (r.drop (HT.sIx xs.length 0 lo)).take (HT.sIx xs.length xs.length hi - HT.sIx xs.length 0 lo), Heap.get?_push_size _ rfl⟩

/-! ### in, not in: flat items -/
def flatV : V → Bool
  | .non => true
  | .bl _ => true
  | .int _ => true
  | .str _ => true
  | _ => false
/-- == of flat values -/
def eqV : V → V → Bool
  | .non, .non => true
  | .bl a, .bl b => a == b
  | .bl a, .int b => (if a then 1 else 0) == b
  | .int a, .bl b => a == (if b then 1 else 0)
  | .int a, .int b => a == b
  | .str a, .str b => a == b
  | _, _ => false
theorem eqAt_V {A : Around} {s : Shared} {y x : V} {u v : Value} (ry : RelV y u) (rx : RelV x v) (fy : flatV y = true) (fx : flatV x = true) : SeqAt.EqAt A s u v (eqV y x) := by
  cases y with
  | non =>
    cases ry
    cases x with
    | non => cases rx; exact SeqAt.EqAt.same _
    | bl b => cases rx; exact SeqAt.EqAt.none_bool b
    | int b => obtain ⟨t, rfl⟩ := rx; exact SeqAt.EqAt.none_int b t
    | str b => obtain ⟨t, rfl⟩ := rx; exact SeqAt.EqAt.none_str b t
    | _ => exact absurd (show false = true from fx) Bool.false_ne_true
  | bl a =>
    cases ry
    cases x with
    | non => cases rx; exact SeqAt.EqAt.bool_none a
    | bl b => cases rx; exact SeqAt.EqAt.bool_bool a b
    | int b => obtain ⟨t, rfl⟩ := rx; exact SeqAt.EqAt.bool_int a b t
    | str b => obtain ⟨t, rfl⟩ := rx; exact SeqAt.EqAt.bool_str a b t
    | _ => exact absurd (show false = true from fx) Bool.false_ne_true
  | int a =>
    obtain ⟨t', rfl⟩ := ry
    cases x with
    | non => cases rx; exact SeqAt.EqAt.int_none a t'
    | bl b => cases rx; exact SeqAt.EqAt.int_bool a t' b
    | int b => obtain ⟨t, rfl⟩ := rx; exact SeqAt.EqAt.int_int a t' b t
    | str b => obtain ⟨t, rfl⟩ := rx; exact SeqAt.EqAt.int_str a t' b t
    | _ => exact absurd (show false = true from fx) Bool.false_ne_true
  | str a =>
    obtain ⟨t', rfl⟩ := ry
    cases x with
    | non => cases rx; exact SeqAt.EqAt.str_none a t'
    | bl b => cases rx; exact SeqAt.EqAt.str_bool a t' b
    | int b => obtain ⟨t, rfl⟩ := rx; exact SeqAt.EqAt.str_int a t' b t
    | str b => obtain ⟨t, rfl⟩ := rx; exact SeqAt.EqAt.str_str a t' b t
    | _ => exact absurd (show false = true from fx) Bool.false_ne_true
  | _ => exact absurd (show false = true from fy) Bool.false_ne_true
/-- the items' answers, read off the values (a value's own answer does not lean on its token) -/
def eqU (x : V) (u : Value) : Bool := match u with
  | .none => eqV .non x
  | .bool b => eqV (.bl b) x
  | .int i _ => eqV (.int i) x
  | .str z _ => eqV (.str z) x
  | _ => false
theorem eqU_of {x y : V} {u : Value} (r : RelV y u) (f : flatV y = true) : eqU x u = eqV y x := by
  cases y with
  | non => cases r; rfl
  | bl b => cases r; rfl
  | int i => obtain ⟨t, rfl⟩ := r; rfl
  | str z => obtain ⟨t, rfl⟩ := r; rfl
  | _ => exact absurd (show false = true from f) Bool.false_ne_true
theorem any_eqU {x : V} : ∀ {xs : List V} {us : List Value}, Vals xs us → xs.all flatV = true → us.any (eqU x) = xs.any fun y => eqV y x
  | _, _, .nil, _ => rfl
  | y :: xs, u :: us, .cons r t, f => by
    rw [List.all_cons, Bool.and_eq_true] at f
    rw [List.any_cons, List.any_cons, eqU_of r f.1, any_eqU t f.2]
theorem mem_eqAt {A : Around} {s : Shared} {x : V} {v : Value} (rx : RelV x v) (fx : flatV x = true) : ∀ {xs : List V} {us : List Value}, Vals xs us → xs.all flatV = true → ∀ u ∈ us, SeqAt.EqAt A s u v (eqU x u)
  | _, _, .nil, _ => fun u hu => by cases hu
  | y :: xs, u :: us, .cons r t, f => fun u' hu => by
    rw [List.all_cons, Bool.and_eq_true] at f
    rcases List.mem_cons.mp hu with rfl | hu
    · rw [eqU_of r f.1]; exact eqAt_V r rx f.1 fx
    · exact mem_eqAt rx fx t f.2 u' hu
def inV (x : V) (xs : List V) : Bool := xs.any fun y => eqV y x
/-- x in a list or tuple of flat items -/
def rIn (K : PySem.W.Frag) (neg : Bool) : R2 := fun x y H Q => ∃ p xs, y = .ref p ∧ (SqL K H p xs ∨ SqT K H p xs) ∧ flatV x = true ∧ xs.all flatV = true ∧ Q (.bl (if neg then !inV x xs else inV x xs)) H
theorem op_in_seq : OpR X (compareOp .In) (rIn X.K false) := by
  intro pins s σ H x y v u Q I rx ry h
  obtain ⟨p, xs, rfl, hq, fx, fs, q⟩ := h
  cases ry
  rcases hq with hq | hq
  · obtain ⟨its, r, pl, hz⟩ := I.list hq
    refine SeqAt.in_listAt (eqU x) pl.isList (fun w hw => mem_eqAt rx fx r fs w (by simpa using hw)) ⟨.bl _, H, I, rfl, ?_⟩
    rw [show its.toArray.any (eqU x) = its.any (eqU x) by simp, any_eqU r fs]
    exact q
  · obtain ⟨its, r, pl, hz⟩ := I.tuple hq
    refine SeqAt.in_tupleAt (eqU x) pl (fun w hw => mem_eqAt rx fx r fs w (by simpa using hw)) ⟨.bl _, H, I, rfl, ?_⟩
    rw [show its.toArray.any (eqU x) = its.any (eqU x) by simp, any_eqU r fs]
    exact q
theorem op_notIn_seq : OpR X (compareOp .NotIn) (rIn X.K true) := by
  intro pins s σ H x y v u Q I rx ry h
  obtain ⟨p, xs, rfl, hq, fx, fs, q⟩ := h
  cases ry
  rcases hq with hq | hq
  · obtain ⟨its, r, pl, hz⟩ := I.list hq
    refine SeqAt.notIn_listAt (eqU x) pl.isList (fun w hw => mem_eqAt rx fx r fs w (by simpa using hw)) ⟨.bl _, H, I, rfl, ?_⟩
    rw [show its.toArray.any (eqU x) = its.any (eqU x) by simp, any_eqU r fs]
    exact q
  · obtain ⟨its, r, pl, hz⟩ := I.tuple hq
    refine SeqAt.notIn_tupleAt (eqU x) pl (fun w hw => mem_eqAt rx fx r fs w (by simpa using hw)) ⟨.bl _, H, I, rfl, ?_⟩
    rw [show its.toArray.any (eqU x) = its.any (eqU x) by simp, any_eqU r fs]
    exact q
theorem op_notIn_str : OpR X (compareOp .NotIn) (fun x y H Q => ∃ i j, x = .str i ∧ y = .str j ∧ Q (.bl (!(!(Builtin.Str.occurrences j i 0 j.length 1).isEmpty))) H) := by
  intro pins s σ H x y v u Q I rx ry h
  obtain ⟨i, j, rfl, rfl, q⟩ := h
  obtain ⟨t, rfl⟩ := rx
  obtain ⟨t', rfl⟩ := ry
  exact notIn_str ⟨.bl _, H, I, rfl, q⟩

/-! ### len, list(x), tuple(x) of any list or tuple that is read -/
theorem call_len_seq : CallR X (.builtin "len") (fun xs H Q => ∃ p ys, xs = [.ref p] ∧ (SqL X.K H p ys ∨ SqT X.K H p ys) ∧ Q (.int ys.length) H) := by
  intro pins s σ H xs us Q I r h
  obtain ⟨p, ys, rfl, hq, q⟩ := h
  obtain ⟨u, rfl, rx⟩ := vals1 r
  cases rx
  have hn := line63
  rcases hq with hq | hq
  · obtain ⟨its, r', pl, hz⟩ := I.list hq
    have hlen := r'.length
    exact Calls.call_len_list pl.isList (by simp only [List.size_toArray] <;> omega) ⟨.int ys.length, H, I.tok _, ⟨s.toks + 1, by rw [List.size_toArray, hlen]⟩, q⟩
  · obtain ⟨its, r', pl, hz⟩ := I.tuple hq
    have hlen := r'.length
    exact len_tuple pl (by simp only [List.size_toArray] <;> omega) ⟨.int ys.length, H, I.tok _, ⟨s.toks + 1, by rw [List.size_toArray, hlen]⟩, q⟩
theorem call_len_str : CallR X (.builtin "len") (fun xs H Q => ∃ z, xs = [.str z] ∧ z.length ≤ sizeLine ∧ Q (.int z.length) H) := by
  intro pins s σ H xs us Q I r h
  obtain ⟨z, rfl, hz, q⟩ := h
  obtain ⟨u, rfl, t, rfl⟩ := vals1 r
  have hn := line63
  exact len_str (by omega) ⟨.int z.length, H, I.tok _, ⟨_, rfl⟩, q⟩
theorem CallR.or {f : Value} {r r' : List V → Hp → VK → Prop} (h : CallR X f r) (h' : CallR X f r') : CallR X f (fun xs H Q => r xs H Q ∨ r' xs H Q) := by
  intro pins s σ H xs us Q I rs q
  rcases q with q | q
  · exact h pins s σ H xs us Q I rs q
  · exact h' pins s σ H xs us Q I rs q
theorem call_list_of : CallR X (.type "list") (fun xs H Q => ∃ p ys, xs = [.ref p] ∧ (SqL X.K H p ys ∨ SqT X.K H p ys) ∧ ∀ l, H l = none → Q (.ref l) (upd H l (.lst ys))) := by
  intro pins s σ H xs us Q I r h
  obtain ⟨p, ys, rfl, hq, q⟩ := h
  obtain ⟨u, rfl, rx⟩ := vals1 r
  cases rx
  have fin : ∀ (its : List Value), Vals ys its → ys.length ≤ sizeLine → ∀ (h' : Heap) (c' : Nat), (∀ b o', s.heap.get? b = some o' → h'.get? b = some o') →
      h'.get? s.heap.objs.size = some { cls := .type "list", dict := none, data := .seq its.toArray c', slots := #[] } → EP X pins σ Q (.ref s.heap.objs.size) { s with heap := h' } := fun its r' hz h' c' kp e =>
    ⟨.ref s.heap.objs.size, _, I.laid (t' := s.toks) kp (Nat.le_refl _) (show ObjOk X.prog X.w _ h' _ (.lst ys) from ⟨hz, its, c', r', e⟩), rfl, q _ (I.hok.fresh (Nat.le_refl _))⟩
  rcases hq with hq | hq
  · obtain ⟨its, r', pl, hz⟩ := I.list hq
    have hlen := r'.length
    obtain ⟨o, ho, hc, n, hd⟩ := pl.isList
    exact call_list_seq p (.inl rfl) ho hc hd (fun h' c' kp e => fin its r' hz h' c' kp e) (by simp only [List.size_toArray] <;> omega)
  · obtain ⟨its, r', pl, hz⟩ := I.tuple hq
    have hlen := r'.length
    obtain ⟨o, ho, hc, n, hd⟩ := pl
    exact call_list_seq p (.inr rfl) ho hc hd (fun h' c' kp e => fin its r' hz h' c' kp e) (by simp only [List.size_toArray] <;> omega)
theorem call_tuple_of : CallR X (.type "tuple") (fun xs H Q => ∃ p ys, xs = [.ref p] ∧ ((SqL X.K H p ys ∧ ∀ l, H l = none → Q (.ref l) (upd H l (.tup ys))) ∨ (SqT X.K H p ys ∧ Q (.ref p) H))) := by
  intro pins s σ H xs us Q I r h
  obtain ⟨p, ys, rfl, h⟩ := h
  obtain ⟨u, rfl, rx⟩ := vals1 r
  cases rx
  rcases h with ⟨hq, q⟩ | ⟨hq, q⟩
  · obtain ⟨its, r', pl, hz⟩ := I.list hq
    have hlen := r'.length
    refine call_tuple_list pl.isList (fun h' kp => ?_) (by simp only [List.size_toArray] <;> omega)
    have I1 : Inv X pins σ H { s with heap := h' } := I.kept (t' := s.toks) kp
    have I2 : Inv X pins σ (upd H h'.objs.size (.tup ys)) { s with heap := h'.push { cls := .type "tuple", data := .seq its.toArray } } :=
      I1.laid (t' := s.toks) (fun b o e => Heap.get?_push_of_some _ e) (Nat.le_refl _) (show ObjOk X.prog X.w _ _ _ (.tup ys) from ⟨hz, its, r', IsTup.new _ _⟩)
    exact ⟨.ref h'.objs.size, _, I2, rfl, q _ (I1.hok.fresh (Nat.le_refl _))⟩
  · obtain ⟨its, r', pl, hz⟩ := I.tuple hq
    exact call_tuple_same pl ⟨.ref p, H, I, rfl, q⟩

/-! ### the call of a builtin's method: o.m(..) -/
/-- the value is of that builtin type -/
def tyV (K : PySem.W.Frag) (T : String) (x : V) (H : Hp) : Prop := match x with
  | .str _ => T = "str"
  | .int _ => T = "int"
  | .ref p => (T = "list" ∧ ∃ xs, SqL K H p xs) ∨ (T = "tuple" ∧ ∃ o, K.lookup p = some o ∧ o.cls = .type "tuple" ∧ o.dict = none) ∨
      (T = "dict" ∧ ((∃ kvs, H p = some (.dK kvs)) ∨ ∃ kvs, H p = some (.dT kvs))) ∨ (T = "set" ∧ ∃ S n, H p = some (.set S n))
  | _ => False
theorem tyV_is {pins : List (Addr × Obj)} {σ : St} {H : Hp} {s : Shared} {T : String} {x : V} {v : Value} (I : Inv X pins σ H s) (r : RelV x v) (ty : tyV X.K T x H) :
    s.TypeIs v T ∧ ∀ a, v = .ref a → ∃ ob, s.heap.get? a = some ob ∧ ob.dict = none := by
  cases x with
  | str z =>
    obtain ⟨t, rfl⟩ := r
    cases (show T = "str" from ty)
    exact ⟨typeIs_str s z t, fun _ e => nomatch e⟩
  | int i =>
    obtain ⟨t, rfl⟩ := r
    cases (show T = "int" from ty)
    exact ⟨typeIs_int s i t, fun _ e => nomatch e⟩
  | ref p =>
    cases r
    rcases ty with ⟨rfl, xs, hq⟩ | ⟨rfl, o, hk, hc, hd⟩ | ⟨rfl, hk⟩ | ⟨rfl, S, n, hk⟩
    · obtain ⟨its, _, pl, _⟩ := I.list hq
      refine ⟨pl.isList.typeIs, fun a e => ?_⟩
      cases e
      obtain ⟨o, n, e, c, hd, _⟩ := pl
      exact ⟨o, e, hd⟩
    · refine ⟨⟨o, I.kIn p o hk, hc⟩, fun a e => ?_⟩
      cases e
      exact ⟨o, I.kIn _ o hk, hd⟩
    · have z : ∃ o, s.heap.get? p = some o ∧ o.ExactDict := by
        rcases hk with ⟨kvs, hk⟩ | ⟨kvs, hk⟩
        · obtain ⟨_, _, _, _, o, _, _, e, ex, _⟩ := I.hok p _ hk
          exact ⟨o, e, ex⟩
        · obtain ⟨_, _, _, _, o, _, _, e, ex, _⟩ := I.hok p _ hk
          exact ⟨o, e, ex⟩
      obtain ⟨o, e, ex⟩ := z
      refine ⟨⟨o, e, ex.1⟩, fun a e2 => ?_⟩
      cases e2
      exact ⟨o, e, ex.2.1⟩
    · obtain ⟨o, _, _, _, e, ex, _⟩ := I.hok p _ hk
      refine ⟨⟨o, e, ex.1⟩, fun a e2 => ?_⟩
      cases e2
      exact ⟨o, e, ex.2.1⟩
  | _ => exact False.elim ty
def tBM (K : PySem.W.Frag) (T : String) (r : V → List V → Hp → VK → Prop) (to : TE) (t : TA) : TE := fun σ H Q => to σ H fun x H1 => tyV K T x H1 ∧ t σ H1 fun xs H2 => r x xs H2 Q
variable {o e : Expr} {es : List Expr} {to : TE} {t : TA} {name : Str} {apos cpos : Pos} {T id : String} {r : V → List V → Hp → VK → Prop}
theorem pe_bm (pa : PlainAttrs T) (slot : Slot T name id) (hty : typeOf (.builtin id) = pure (.type "method_descriptor")) (hm : MtR X id r) (ho : PE X o to) (ha : PA X (e :: es) t)
    (hbase : attributeBase o name X.env (eval o X.env) = eval o X.env := by rfl)
    (hfew : ((backTo cpos (starEach (e :: es) X.env)).all (fun x => !x.1) && (backToKw cpos (keywordEach [] X.env)).all (fun x => x.1.isSome)
      && decide ((e :: es).length + ([] : List Keyword).length + (if ([] : List Keyword).isEmpty then 0 else 1) < 30)) = true := by rfl)
    (hline : (apos.endLine == cpos.line) = true := by rfl) (hs : starEach (e :: es) X.env = (false, eval e X.env) :: starEach es X.env := by rfl) (hplain : (backTo cpos (starEach es X.env)).any (·.1) = false := by rfl) :
    PE X (.Call (.Attribute o name apos) (e :: es) [] cpos) (tBM X.K T r to t) := by
  intro pins s σ H Q I h
  refine wpAny_Call_method_late hbase hfew hline rfl (thn (ho pins s σ H _ I h) fun v s1 ⟨x, H1, I1, r1, ty, q1⟩ => ?_)
  obtain ⟨h1, h2⟩ := tyV_is I1 r1 ty
  refine ⟨T, id, pa, slot, hty, h1, h2, ?_⟩
  have hA := ha cpos pins s1 σ H1 _ I1 q1
  rw [hs] at hA ⊢
  refine Calls.callWith_builtin (by show (false || (backTo cpos (starEach es X.env)).any (·.1)) = false; rw [hplain] <;> rfl) (Calls.evalArgs_plain ?_)
  exact thn hA fun us s2 ⟨vs, H2, I2, r2, q2⟩ => hm pins s2 σ H2 x vs v us Q I2 r1 r2 q2
/- xs.append(e), list.index on a module's tuple .. are MtR facts of 06m -/
end
end L2

namespace L2
open PySem PySem.Spec PyProof.Rows

def MtM (X : Cx) (id : String) (r : V → List V → Hp → VK → Prop) : Prop :=
  ∀ (pins : List (Addr × Obj)) (s : Shared) (σ : St) (H : Hp) (x : V) (xs : List V) (v : Value) (us : List Value) (Q : VK), Inv X pins σ H s → RelV x v → Vals xs us → r x xs H Q →
    wpAny (model X.prog X.w) X.A (call (.builtin id) (v :: us)) (EP X pins σ Q) X.xe s

/-! ### lists of values -/
theorem Vals.one {x : V} {us : List Value} (h : Vals [x] us) : ∃ u, us = [u] ∧ RelV x u := by
  cases h with | cons r t => cases t; exact ⟨_, rfl, r⟩
theorem Vals.two {x y : V} {us : List Value} (h : Vals [x, y] us) : ∃ u v, us = [u, v] ∧ RelV x u ∧ RelV y v := by
  cases h with | cons r t => obtain ⟨v, e, q⟩ := Vals.one t; exact ⟨_, v, by rw [e], r, q⟩
section
variable {X : Cx} {pins : List (Addr × Obj)} {σ : St} {H : Hp} {s : Shared} {l b : Addr} {xs ys zs : List V}

/-! ### the two steps: a tracked list is rewritten, a new list is laid -/
theorem Inv.lset {its its' : List Value} {n : Nat} {f : Array Value → Array Value} {t' : Nat} (I : Inv X pins σ H s) (hH : H l = some (.lst xs))
    (e : s.heap.get? l = some { cls := .type "list", data := .seq its.toArray n }) (hf : f its.toArray = its'.toArray) (hv : Vals ys its') (hz : ys.length ≤ sizeLine) :
    Inv X pins σ (upd H l (.lst ys)) { s with heap := s.heap.update l (Obj.mapSeq f), toks := t' } := by
  have q := PySem.IsL.update e f
  rw [hf] at q
  refine I.write (x := l) (e := l) (by rw [hH]; exact trivial) (.inl rfl) (fun b' u hb hu => (Heap.get?_update_other s.heap (Obj.mapSeq f) (Ne.symm hb)).trans hu) ⟨_, q⟩ ?_
  exact ⟨hz, its', _, hv, q⟩
theorem Inv.lnew {its : List Value} {t' : Nat} (I : Inv X pins σ H s) (hv : Vals ys its) (hz : ys.length ≤ sizeLine) :
    Inv X pins σ (upd H s.heap.objs.size (.lst ys)) { s with heap := s.heap.push { cls := .type "list", data := .seq its.toArray }, toks := t' } :=
  I.laid (fun _ _ q => Heap.get?_push_of_some _ q) (Nat.le_refl _) ⟨hz, its, 0, hv, Heap.get?_push_size _ rfl⟩
theorem Inv.fresh (I : Inv X pins σ H s) : H s.heap.objs.size = none := I.hok.fresh (Nat.le_refl _)
theorem Inv.lstM (I : Inv X pins σ H s) (hH : H l = some (.lst xs)) : xs.length ≤ sizeLine ∧ ∃ (its : List Value) (n : Nat), Vals xs its ∧ xs.length = its.length ∧ s.heap.get? l = some { cls := .type "list", data := .seq its.toArray n } := by
  obtain ⟨z, its, n, r, e⟩ := I.hok l _ hH
  exact ⟨z, its, n, r, r.length, e⟩

end

section
variable {X : Cx}

/-! ### methods -/
def rAppend : V → List V → Hp → VK → Prop := fun x vs H Q => ∃ l xs y, x = .ref l ∧ vs = [y] ∧ H l = some (.lst xs) ∧ xs.length < sizeLine ∧ Q .non (upd H l (.lst (xs ++ [y])))
theorem mt_append : MtM X "list.append" rAppend := by
  intro pins s σ H x vs v us Q I rx rv h
  obtain ⟨l, xs, y, rfl, rfl, hH, hz, q⟩ := h
  cases rx
  obtain ⟨u, rfl, ru⟩ := rv.one
  obtain ⟨z, its, n, r, hl, e⟩ := I.lstM hH
  refine call_meets F.slot_list_append ⟨_, e, rfl⟩ F.entry_list_append (F.args_list_append_2 _ _) (PySem.list_append l its.toArray n u (by rw [List.size_toArray]; omega)) ⟨e, ?_⟩
  refine ⟨.non, _, I.lset (its' := its ++ [u]) hH e (by simp) (r.append (.cons ru .nil)) ?_, rfl, q⟩
  rw [List.length_append, List.length_singleton]
  omega

/-! ### list + list, list += list, list * int -/
def rCat : R2 := fun x y H Q => ∃ l b xs zs, x = .ref l ∧ y = .ref b ∧ H l = some (.lst xs) ∧ H b = some (.lst zs) ∧ xs.length + zs.length ≤ sizeLine ∧ ∀ p, H p = none → Q (.ref p) (upd H p (.lst (xs ++ zs)))
theorem op_cat : OpR X (binaryOp .Add) rCat := by
  intro pins s σ H x y v u Q I rx ry h
  obtain ⟨l, b, xs, zs, rfl, rfl, hH, hB, hz, q⟩ := h
  cases rx
  cases ry
  obtain ⟨z, its, n, r, hl, e⟩ := I.lstM hH
  obtain ⟨z2, its2, n2, r2, hl2, e2⟩ := I.lstM hB
  refine PySem.P.add_list e e2 ?_ (by rw [List.size_toArray, List.size_toArray]; omega)
  have ea : its.toArray ++ its2.toArray = (its ++ its2).toArray := by simp
  rw [ea]
  exact ⟨.ref _, _, I.lnew (t' := s.toks) (r.append r2) (by rw [List.length_append]; omega), rfl, q _ I.fresh⟩
/-! ### del xs[i] -/
end

/-! ### xs[a:b] = ys -/
section
variable {prog : Program} {w : World} {A : Around} {E : Value → Shared → Prop} {s : Shared}
end

section
variable {X : Cx}
end
end L2

namespace Att
open PySem PySem.W PySem.Calls PyProof.Rows

/-! ### the script -/
theorem ints_of_wellAll {P : Params} {h : Heap} : ∀ (ns : List Int) (vs : List Value), WellAll P h vs (ns.map WData.int) → IntsAre vs ns := by
  intro ns
  induction ns with
  | nil =>
    intro vs w
    rw [List.map_nil] at w
    cases w
    exact .nil
  | cons n ns ih =>
    intro vs w
    rw [List.map_cons] at w
    cases w with
    | cons a b =>
      cases a
      exact .cons _ _ (ih _ b)

theorem script_of {l : OpenLaw} {n : Nat} (hn : l.most = some n) {P : Params} {h : Heap} {args : List WData} {vals : List Value}
    (hpre : l.row.toRowW.claim.pre args = true) (hwl : WellAll P h vals args) :
    ∃ a vs ns, vals = [Value.ref a] ∧ args = [WData.list (ns.map WData.int)] ∧ h.get? a = some { cls := .type "list", data := .seq vs.toArray } ∧ IntsAre vs ns ∧ ns.length ≤ n := by
  have hsh : WShape.hasAll [] args [.list .int] = true := (pre_splitW hpre).1
  have hc : l.pre.holds [] { args := args } = true := (pre_splitW hpre).2
  obtain ⟨d, r, rfl, h1, h2⟩ := hasAllW_cons hsh
  obtain rfl := hasAllW_nil h2
  obtain ⟨xs, rfl, h3⟩ := hasW_list h1
  obtain ⟨ns, rfl⟩ := items_int h3
  have hlen : ns.length ≤ n := by
    unfold OpenLaw.pre at hc
    have h4 : (WTm.not (.lt (.lit (.int (n : Int))) (.len (.arg 0)))).holds [] { args := [.list (ns.map .int)] } = true := by
      have h4 := (holds_andW hc).1
      rw [hn] at h4
      exact h4
    have h5 := condW_of h4 (w_not (w_lt w_lit (w_len_list (w_arg rfl))))
    rw [List.length_map] at h5
    refine Nat.le_of_not_lt fun q => ?_
    have q' : (n : Int) < ((ns.length : Nat) : Int) := by omega
    first
      | (rw [decide_eq_true q'] at h5; exact absurd h5 (by decide))
      | (simp at h5; omega)
  cases hwl with
  | cons w1 w2 =>
    cases w2
    cases w1 with
    | list ho hall => exact ⟨_, _, ns, rfl, rfl, ho, ints_of_wellAll ns _ hall, hlen⟩

theorem post_true (l : OpenLaw) (args : List WData) : l.row.toRowW.claim.post args (.bool true) args = true :=
  postW_of (r := l.row.toRowW) (X := (true == true))
    (show WShape.has [] (.bool true) .bool = true by first | rfl | decide | simp [WShape.has, WShape.arms, WShape.armsAll])
    (show (WTm.eq .res (.lit (.bool true))).value [] { args := args, res := some (.bool true), after := args } = some (.bool (true == true)) from w_eq_bool (w_res rfl) w_lit) rfl

/-! ### the attachment: holds_open's last premise (the goal 'hc' behind k_head) from a wpAny of the law's body -/
/-- the same from a codeAny of the CALL (for a layer whose function contracts speak of calls) -/
theorem attach_call {l : OpenLaw} {n : Nat} {q : Program} {loose : List Str} {XP : (Str → Option Value) → Heap → Prop} {YP : World → Heap → Prop} {d : DefRec}
    (hn : l.most = some n) (hdf : d.params.defaults = [])
    (call : ∀ (w : World) (s₀ s₁ : Shared) (mg mb : Str → Option Value) (fa : Addr) (o : Obj) (pm cd doc : Value) (a : Addr) (vs : List Value) (ns : List Int),
      Ground q loose [] XP w s₀ mg mb s₁.heap → YP w s₁.heap →
      s₁.heap.get? fa = some o → o.data = .func (docDef d.name d.params d.body d.scope pm cd doc) → s₁.heap.CodeRec cd d.name → mg d.name = some (.ref fa) →
      s₁.heap.get? a = some { cls := .type "list", data := .seq vs.toArray } → IntsAre vs ns → ns.length ≤ n → s₁.gens = #[] →
      codeAny (model l.prog w) callerA (.call (.ref fa) ⟨[.ref a], []⟩) (fun r s' => r = .ok (.ret (.bool true)) ∧ OldK s₁.heap s'.heap ∧ s'.os = s₁.os ∧ AllBare s'.gens) s₁) :
    WalkO q loose XP YP l.row.toRowW d [] (fun f vs => PySem.call f vs) := by
  intro w s₀ s₁ mg mb G Y fa o pm cd doc dV kV ho hd hcd hD hmg hg args vals as hpre hlay hrd hwl hlo
  obtain rfl : dV = .none := Dflts.none hD hdf
  obtain rfl : kV = .none := Dflts.noKw hD
  obtain ⟨a, vs, ns, rfl, rfl, hobj, hints, hlen⟩ := script_of hn hpre hwl
  refine enter_call (codeAny_mono (call w s₀ s₁ mg mb fa o pm cd doc a vs ns G Y ho (fd_plain hd) hcd hmg hobj hints hlen hg) fun r s' hq => ?_)
  obtain ⟨rfl, h2, h3, h4⟩ := hq
  exact ⟨.inl ⟨.bool true, .bool true, [], rfl, fun _ => rfl, .bool true, post_true l _, fun _ => ⟨List.Pairwise.nil, fun _ hm => (nomatch hm)⟩⟩, h2, h3, h4⟩

/-! ### rules over ANY heap (no ledger) from facts about the written part K: the library's own take a ledger (News) for what they write -/
section
variable {prog : Program} {w : World} {A : Around} {E : Value → Shared → Prop} {s : Shared} {K : Frag}

/-! the whole heap as the ledger: makes every rule that writes through a ledger a rule over any heap -/
def ledger (h : Heap) (L d : Addr) : List (Addr × Obj) := (List.range h.objs.size).filterMap fun a => if a = L ∨ a = d then none else (h.get? a).map fun o => (a, o)
end
end Att

namespace L2
open PySem PySem.Spec PyProof.Rows

theorem vals_ints : ∀ {vs : List Value} {ns : List Int}, IntsAre vs ns → Vals (ns.map V.int) vs
  | _, _, .nil => .nil
  | _, _, .cons n t h => .cons ⟨t, rfl⟩ (vals_ints h)

/-- nothing is tracked but the script, known to the object (or it is an object of the module) -/
def Only (H : Hp) : Prop := ∀ b, H b = none ∨ ∃ o xs, H b = some (.frz o (.lst xs))

/-- THE HEAD: the law's promise, at the heap behind the top. F, the promise of the law's def, may use that base is part of the heap (so K.In base, base.Ns mainGlobals mg stand in Mod) -/
theorem law_call {P : Program} {w : World} {K : PySem.W.Frag} {mg mb : Str → Option Value} {CX : CXT} {k : Nat} {fa a : Addr} {fd : FuncData} {x : Str} {sp : Sp} {s₁ : Shared} {vs : List Value} {ns : List Int}
    (KX : K.In s₁.heap) (hns : s₁.heap.Ns mainGlobals mg) (hb : s₁.heap.Ns builtinsNs mb) (hbb : ∀ x : Str, x ≠ "__name__" → mb x = bootBuiltins x) (hlim : s₁.heap.NoLimit) (hg : s₁.gens = #[])
    (ha : s₁.heap.get? a = some { cls := .type "list", data := .seq vs.toArray }) (hi : IntsAre vs ns) (hl : ns.length ≤ sizeLine) (hr : Room k callerA)
    (F : ∀ base : Heap, K.In base → base.Ns mainGlobals mg → FnOk P w K mg base CX k fa fd [x] sp) (hbind : ∀ (s : Shared) (u : Value), BindsTo s fd ⟨[u], []⟩ [(x, u)])
    (hsp : ∀ H : Hp, Only H → SqL K H a (ns.map V.int) → sp [.ref a] H (fun v _ => v = .bl true) fun _ _ _ => False)
    (hCX : ∀ H e s', CX [] H s₁ (fun _ _ _ => False) e s' → False) :
    codeAny (model P w) callerA (.call (.ref fa) ⟨[.ref a], []⟩) (fun r s' => r = .ok (.ret (.bool true)) ∧ OldK s₁.heap s'.heap ∧ s'.os = s₁.os ∧ AllBare s'.gens) s₁ := by
  have rv := vals_ints hi
  have lenV := hi.length
  -- from an abstract heap in which nothing but the script may be tracked
  have core : ∀ H : Hp, Only H → SqL K H a (ns.map V.int) → HOk P w H s₁.heap → (∀ b, H b ≠ none → b = a) → (H a ≠ none → K.lookup a = none) →
      codeAny (model P w) callerA (.call (.ref fa) ⟨[.ref a], []⟩) (fun r s' => r = .ok (.ret (.bool true)) ∧ OldK s₁.heap s'.heap ∧ s'.os = s₁.os ∧ AllBare s'.gens) s₁ := by
    intro H hO hS hok hA hK
    have base_of : ∀ {b : Addr} {o : Obj}, s₁.heap.get? b = some o → H b = none → (hidT s₁.heap H).get? b = some o := fun e n => hidT_get e n
    have noA : ∀ {b : Addr} {o : Obj} {es : Array DictEntry} {ep : Nat}, s₁.heap.get? b = some o → o.data = .dict es ep → H b = none := fun {b o es ep} e d => by
      cases q : H b with
      | none => rfl
      | some u =>
        have e' : b = a := hA b (by rw [q]; simp)
        subst e'
        rw [ha] at e; cases e
        have d' : Data.seq vs.toArray _ = Data.dict es ep := d
        cases d'
    have nsK : ∀ {b : Addr} {m : Str → Option Value}, s₁.heap.Ns b m → (hidT s₁.heap H).Ns b m := fun {b m} ⟨o, es, ep, e, d, r⟩ => ⟨o, es, ep, base_of e (noA e d), d, r⟩
    have hKb : K.In (hidT s₁.heap H) := fun b o e => base_of (KX b o e) (by
      cases q : H b with
      | none => rfl
      | some u =>
        have e' : b = a := hA b (by rw [q]; simp)
        subst e'
        rw [hK (by rw [q]; simp)] at e; cases e)
    have hM : Mod K mg (hidT s₁.heap H) := ⟨hKb, nsK hns, ⟨mb, nsK hb, hbb⟩, let ⟨mc, h1, h2⟩ := hlim; ⟨mc, nsK h1, h2⟩⟩
    have e0 : Env0 P w K mg (hidT s₁.heap H) callerA [] s₁ H := ⟨rfl, hM, fun b o e => of_hidT e, Nat.le_of_eq (hidT_size _ _), trivial, fun b hb => absurd (show b ∈ ([] : List Addr) from hb) (by simp), hok, .of_eq hg⟩
    refine codeAny_mono ((F _ hKb (nsK hns)).run callerA [] s₁ H ⟨[.ref a], []⟩ [.ref a] [.ref a] _ _ hr e0 (hbind s₁ (.ref a)) (.cons rfl .nil) (hsp H hO hS)) fun r s' h => ?_
    cases r with
    | error e => exact (hCX H e s' h).elim
    | ok fl =>
      cases fl with
      | next => exact False.elim h
      | brk => exact False.elim h
      | cont => exact False.elim h
      | ret u =>
        obtain ⟨v, H', os, bare, un, hok', r', q⟩ := h
        have q' : v = .bl true := q
        subst q'
        obtain rfl : u = Value.bool true := r'
        refine ⟨rfl, OldK.of_keep fun b o e => ?_, os, bare⟩
        cases q : H b with
        | none => exact un.keep b o e q (by intro z; exact absurd (show b ∈ ([] : List Addr) from z) (by simp)) (by simp)
        | some u =>
          rcases hO b with z | ⟨ob, xs, z⟩
          · rw [q] at z; cases z
          · have z2 := un.frzs b ob _ z
            obtain ⟨e1, _⟩ := hok b _ z
            obtain ⟨e2, _⟩ := hok' b _ z2
            rw [e] at e1; cases e1
            exact e2
  cases hk : K.lookup a with
  | some o =>
    -- the script is one of the module's own objects
    have e := KX a o hk
    rw [ha] at e
    cases e
    refine core (fun _ => none) (fun _ => .inl rfl) (.inr ⟨_, vs.toArray, _, hk, rfl, rfl, rfl, by rw [List.size_toArray, lenV]; exact hl, by simpa using rv⟩) (fun b u z => by have z' : (none : Option HO) = some u := z; cases z') (fun b z => absurd rfl z) fun z => absurd rfl z
  | none =>
    refine core (fun b => if b = a then some (.frz { cls := .type "list", data := .seq vs.toArray } (.lst (ns.map V.int))) else none) (fun b => ?_) (.inl (.inr ⟨{ cls := .type "list", data := .seq vs.toArray }, if_pos rfl⟩)) (fun b u z => ?_) (fun b z => ?_) fun _ => hk
    · by_cases hb : b = a
      · exact .inr ⟨_, _, if_pos hb⟩
      · exact .inl (if_neg hb)
    · by_cases hb : b = a
      · have z' := (if_pos hb).symm.trans z
        cases z'
        subst hb
        exact ⟨ha, by rw [List.length_map]; exact hl, vs, _, rv, ha⟩
      · have z' := (if_neg hb).symm.trans z
        cases z'
    · by_cases hb : b = a
      · exact hb
      · exact absurd (if_neg hb) z
end L2

namespace L2
open PySem PySem.Spec PyProof.Rows

/-- the goal that k_head leaves (case hc), from the law's promise. F gives the function object fd (K's own) once, then the promise over every base -/
theorem walk_of {l : PySem.W.OpenLaw} {n k : Nat} {q : Program} {loose : List Str} {XP : (Str → Option Value) → Heap → Prop} {YP : World → Heap → Prop} {d : DefRec} {K : Params → PySem.W.Frag} {CX : World → CXT} {sp : World → Sp} {x : Str}
    (hn : l.most = some n) (hn2 : n ≤ sizeLine) (hdf : d.params.defaults = []) (hr : Room k callerA)
    (hY : ∀ (w : World) (h : Heap), YP w h → (K w.params).In h)
    (F : ∀ (w : World) (mg : Str → Option Value) (fa : Addr) (h : Heap), (K w.params).In h → h.Ns mainGlobals mg → mg d.name = some (.ref fa) →
      ∃ fd : FuncData, (∀ (s : Shared) (u : Value), BindsTo s fd ⟨[u], []⟩ [(x, u)]) ∧
        ∀ base : Heap, (K w.params).In base → base.Ns mainGlobals mg → FnOk l.prog w (K w.params) mg base (CX w) k fa fd [x] (sp w))
    (hsp : ∀ (w : World) (H : Hp) (a : Addr) (ns : List Int), ns.length ≤ n → Only H → SqL (K w.params) H a (ns.map V.int) → sp w [.ref a] H (fun v _ => v = .bl true) fun _ _ _ => False)
    (hCX : ∀ (w : World) (H : Hp) (s : Shared) (e : Value) (s' : Shared), CX w [] H s (fun _ _ _ => False) e s' → False) :
    PySem.W.WalkO q loose XP YP l.row.toRowW d [] (fun f vs => PySem.call f vs) := by
  refine Att.attach_call hn hdf fun w s₀ s₁ mg mb fa o pm cd doc a vs ns G Y ho hd hcd hmg hobj hints hlen hg => ?_
  have KX := hY w _ Y
  obtain ⟨fd, hb, hF⟩ := F w mg fa _ KX G.T.g hmg
  exact law_call KX G.T.g G.T.b G.T.builtins G.T.nolimit hg hobj hints (Nat.le_trans hlen hn2) hr hF hb (fun H hO hS => hsp w H a ns hlen hO hS) fun H e s' => hCX w H s₁ e s'
end L2

/-! SHORT WORDS over the layer: a def of the text, its body, what a loop and a test want. -/
namespace L2
open PySem PySem.Spec PyProof.Rows

/-! ### the text by places -/
/-- the j-th statement of a class's body -/
def inClass (s : Stmt) (j : Nat) : Stmt := match s with
  | .ClassDef _ _ _ body _ _ _ _ _ _ _ => body.getD j (.Pass ⟨0, 0, 0, 0⟩)
  | _ => .Pass ⟨0, 0, 0, 0⟩
def defArgs (s : Stmt) : Arguments := match s with
  | .FunctionDef _ a _ _ _ _ _ _ _ _ => a
  | _ => { posonlyargs := [], args := [], vararg := none, kwonlyargs := [], kw_defaults := [], kwarg := none, defaults := [] }
def defBody (s : Stmt) : List Stmt := match s with
  | .FunctionDef _ _ b _ _ _ _ _ _ _ => b
  | _ => []
def defScope (s : Stmt) : Scope := match s with
  | .FunctionDef _ _ _ _ _ _ sc _ _ _ => sc
  | _ => { kind := .function, names := [], isGenerator := false, isCoroutine := false }

/-! ### no exception leaves a def -/
abbrev CX0 : CXT := fun _ _ _ _ _ _ => False
abbrev E0 : XK := fun _ _ _ => False
theorem pass0 {X : Cx} : Passes CX0 X E0 := fun _ _ _ _ _ _ _ h => h.elim

/-! ### a def (or method) of the text as it stands behind the top -/
structure Fun (K : PySem.W.Frag) (x qual : Str) (st : Stmt) (f : Addr) (fd : FuncData) : Prop where
  ex : ∃ (oc : Value) (od : Option Addr) (kV doc pm : Value) (an : Option Addr) (cdv ct : Value) (osl : Array (Option Value)),
    fd = PySem.W.fnOf x qual (defArgs st) (defBody st) (defScope st) .none kV doc pm an cdv ct ∧ K.lookup f = some ⟨oc, od, .func fd, osl⟩ ∧ PySem.W.codeIn K cdv qual = true
  kp : PySem.W.keepIn K (.ref f) = true
section
variable {P : Program} {w : World} {K : PySem.W.Frag} {mg : Str → Option Value} {base : Heap}
/-- THE RULE for a def: its body as a term of rules, and the reading of that term -/
theorem Fun.ok {x qual : Str} {st : Stmt} {f : Addr} {fd : FuncData} {N ps : List Str} {k : Nat} {sp : Sp} (F : Fun K x qual st f fd) (S : FnScope N ps (defScope st)) (len : ∀ vs H Q E, sp vs H Q E → vs.length = ps.length)
    (hbody : ∀ (cdv : Value) (A : Around) (outer : List Env) (s : Shared) (H : Hp) (vs : List V) (Q : VK) (E : XK), Room k (A.deeper (envOfC qual (defScope st) s.heap.objs.size f cdv)) → sp vs H Q E →
      ∃ t, PSs (cxOf CX0 P w K mg base N qual (defScope st) f cdv A outer s H E).nox (defBody st) t ∧ t { nx := fun _ H' => Q .non H', rt := Q } (start N vs) H) : FnOk P w K mg base CX0 (k + 1) f fd ps sp := by
  obtain ⟨oc, od, kV, doc, pm, an, cdv, ct, osl, rfl, lk, hcd⟩ := F.ex
  refine fn_of lk hcd S len fun A outer s H vs Q E hr hsp => ?_
  obtain ⟨t, h, q⟩ := hbody cdv A outer s H vs Q E hr hsp
  exact ⟨t, h.nox, q⟩
/-- how its arguments bind (no defaults): h is «fun _ _ _ _ _ _ us hl => match us, hl with | [_, _], _ => rfl», one _ a parameter -/
theorem Fun.binds {x qual : Str} {st : Stmt} {f : Addr} {fd : FuncData} {ps : List Str} (F : Fun K x qual st f fd)
    (h : ∀ (kV doc pm : Value) (an : Option Addr) (cdv ct : Value) (us : List Value), us.length = ps.length → bindArgs (PySem.W.fnOf x qual (defArgs st) (defBody st) (defScope st) .none kV doc pm an cdv ct) ⟨us, []⟩ = pure (ps.zip us)) : Binds K fd ps [] := by
  obtain ⟨oc, od, kV, doc, pm, an, cdv, ct, osl, rfl, lk, hcd⟩ := F.ex
  exact .all (h kV doc pm an cdv ct)
theorem fun_mk {x qual : Str} {st : Stmt} {f : Addr} {oc : Value} {od an : Option Addr} {osl : Array (Option Value)} {kV doc pm cdv ct : Value} (l : K.lookup f = some ⟨oc, od, .func (PySem.W.fnOf x qual (defArgs st) (defBody st) (defScope st) .none kV doc pm an cdv ct), osl⟩)
    (c : PySem.W.codeIn K cdv qual = true) (k : PySem.W.keepIn K (.ref f) = true) : Fun K x qual st f (PySem.W.fnOf x qual (defArgs st) (defBody st) (defScope st) .none kV doc pm an cdv ct) := ⟨⟨oc, od, kV, doc, pm, an, cdv, ct, osl, rfl, l, c⟩, k⟩
end
theorem small1000 {n : Nat} (h : n ≤ 1000) : n < sizeLine := Nat.lt_of_le_of_lt h (by decide)

/-! ### expressions in short: the name that stands in the i-th slot -/
section
variable {X : Cx}
theorem pv (i : Nat) {x : Str} {pos : Pos} (hN : X.N[i]? = some x := by rfl) (hv : Vis X.env.scope x := by first | exact Or.inl rfl | exact Or.inr (Or.inl rfl) | exact Or.inr (Or.inr rfl)) (hd : (x == ("__debug__" : Str)) = false := by decide)
    (hcd : (x == ("__classdict__" : Str)) = false := by decide) : PE X (.Name x pos) (tVar i) := pe_var hN hv hd hcd
end

/-! ### tests -/
theorem iteF {A B : Prop} (h : B) : if false = true then A else B := by
  rw [if_neg Bool.false_ne_true]
  exact h
theorem iteT {A B : Prop} (h : A) : if true = true then A else B := by
  rw [if_pos rfl]
  exact h
theorem ite2 {c A B : Prop} [Decidable c] (h1 : c → A) (h2 : ¬ c → B) : if c then A else B := by
  by_cases h : c
  · rw [if_pos h]
    exact h1 h
  · rw [if_neg h]
    exact h2 h
/-! ### heaps -/
/-- all that was tracked is as it was -/
def Same (H H' : Hp) : Prop := ∀ b o, H b = some o → H' b = some o
theorem Same.refl (H : Hp) : Same H H := fun _ _ h => h
theorem Same.trans {H H1 H2 : Hp} (a : Same H H1) (b : Same H1 H2) : Same H H2 := fun c o h => b c o (a c o h)
theorem Same.free {H H' : Hp} (e : Same H H') {l : Addr} (h : H' l = Option.none) : H l = Option.none := by
  cases q : H l with
  | none => rfl
  | some o =>
    rw [e l o q] at h
    cases h
theorem Same.seq {K : PySem.W.Frag} {H H' : Hp} {a : Addr} {xs : List V} (e : Same H H') (h : SqL K H a xs) : SqL K H' a xs := by
  rcases h with (h | ⟨o, h⟩) | h
  · exact .inl (.inl (e _ _ h))
  · exact .inl (.inr ⟨o, e _ _ h⟩)
  · exact .inr h

end L2

set_option maxHeartbeats 4000000
namespace L2
open PySem PySem.Spec PyProof.Rows

/-! ### a comprehension over one source -/
/-- the tests behind the source, as one -/
def PTs (X : Cx) (cs : List Expr) (t : TT) : Prop :=
  ∀ (pins : List (Addr × Obj)) (s : Shared) (σ : St) (H : Hp) (Q : Bool → Hp → Prop), Inv X pins σ H s → t σ H Q →
    wpAny (model X.prog X.w) X.A (forIn cs true fun c r => if r = true then do let ok ← isTrue c X.env (eval c X.env); pure (ForInStep.yield ok) else pure (ForInStep.yield r)) (TP X pins σ Q) X.xe s
def tYes : TT := fun _ H Q => Q true H
theorem pts_nil {X : Cx} : PTs X [] tYes := fun _ _ _ H _ I h => wpAny_tests_nil ⟨H, I, h⟩
theorem pts_one {X : Cx} {c : Expr} {t : TT} (h : PT X c t) : PTs X [c] t := fun pins s σ H Q I q => wpAny_tests_one (h pins s σ H Q I q)

theorem codeAny_compLoop_own {prog : Program} {w : World} {A : Around} {R : Result → Shared → Prop} {s : Shared} {elt target iter : Expr} {ifs : List Expr} {scope : Scope} {pos : Pos} {it acc : Value} {env : Env} (I : Nat → Shared → Prop)
    (turn : ∀ n s, I n s → wpAny (model prog w) A (pyNext it) (fun r s₁ => match r with
      | none => R (.ok .next) s₁
      | some v => wpAny (model prog w) A (letOwnedTupleGo target it v) (fun _ s₁' => wpAny (model prog w) A (assign target env v) (fun _ s₂ =>
          wpAny (model prog w) A (forIn ifs true fun c r => if r = true then do let ok ← isTrue c env (eval c env); pure (ForInStep.yield ok) else pure (ForInStep.yield r)) (fun ok s₃ =>
            if ok = true then wpAny (model prog w) A (eval elt env) (fun x s₄ =>
              wpAny (model prog w) A (call (.builtin "list.append") [acc, x]) (fun _ s₅ => ∃ m, m < n ∧ I m s₅) (fun _ _ => False) s₄) (fun _ _ => False) s₃
            else ∃ m, m < n ∧ I m s₃) (fun _ _ => False) s₂) (fun _ _ => False) s₁') (fun _ _ => False) s₁) (fun _ _ => False) s)
    (n : Nat) (h : I n s) :
    codeAny (model prog w) A (.compLoop (.ListComp elt [⟨target, iter, ifs, 0⟩] scope pos) 0 it acc env) R s := by
  refine codeAny_loop rfl I (fun n s hI => ?_) n h
  show wpAny _ A ((compTurn (.ListComp elt [⟨target, iter, ifs, 0⟩] scope pos) 0 it acc env).onRaise (fun x => do noteFrame x env; theTreesLotGoes x)) _ _ s
  refine wpAny_noted ?_
  rw [compTurn_list]
  refine wpAny_bind (wpAny_standAt (wpAny_bind (wpAny_mono (turn n s hI) (fun r s₁ h₁ => ?_) fun _ _ h' => h'.elim)))
  cases r with
  | none => exact wpAny_pure h₁
  | some v =>
    refine wpAny_bind (wpAny_mono h₁ (fun _ s₁' h₁' => ?_) fun _ _ h' => h'.elim)
    refine wpAny_bind (wpAny_mono h₁' (fun _ s₂ h₂ => wpAny_bind (wpAny_mono h₂ (fun ok s₃ h₃ => ?_) fun _ _ h' => h'.elim)) fun _ _ h' => h'.elim)
    cases ok with
    | false => exact wpAny_pure ⟨rfl, h₃⟩
    | true =>
      exact wpAny_bind (wpAny_bind (wpAny_mono h₃ (fun x s₄ h₄ => wpAny_bind (wpAny_mono h₄ (fun _ s₅ h₅ => wpAny_pure (wpAny_pure ⟨rfl, h₅⟩)) fun _ _ h' => h'.elim)) fun _ _ h' => h'.elim))

/-- the free names' cells, as a comprehension takes them along -/
def closL (env : Env) : List (Str × NameKind) → List (Str × Addr) → List (Str × Addr)
  | [], cs => cs
  | (n, k) :: r, cs => closL env r (if k == .free then (match env.cells.lookup n with | some a => (n, a) :: cs | none => cs) else cs)
theorem clos_go {env : Env} : ∀ (ns : List (Str × NameKind)) (cs : List (Str × Addr)), (∀ x ∈ ns, x.2 = .free → ∃ c, env.cells.lookup x.1 = some c) →
    (forIn ns cs fun x (r : List (Str × Addr)) => (match x with | (name, kind) => if (kind == .free) = true then do let a ← cellOf env name; pure (ForInStep.yield ((name, a) :: r)) else pure (ForInStep.yield r) : Sem (ForInStep (List (Str × Addr))))) = (pure (closL env ns cs) : Sem (List (Str × Addr)))
  | [], cs, _ => rfl
  | (n, k) :: r, cs, h => by
    have ih := fun cs => clos_go (env := env) r cs fun x hx => h x (List.mem_cons_of_mem _ hx)
    rw [List.forIn_cons]
    unfold closL
    by_cases hk : k = .free
    · subst hk
      obtain ⟨c, e⟩ := h (n, .free) List.mem_cons_self rfl
      have ec : cellOf env n = pure c := by unfold cellOf; rw [e]
      simp only [beq_self_eq_true, if_true, ec, e, pure_bind]
      exact ih _
    · have hb : (k == NameKind.free) = false := by simpa using hk
      simp only [hb, Bool.false_eq_true, if_false, pure_bind]
      exact ih _
theorem clos_eq {scope : Scope} {env : Env} (h : ∀ x ∈ scope.names, x.2 = .free → ∃ c, env.cells.lookup x.1 = some c) : closureFor scope env = pure (closL env scope.names []) := by
  have q := clos_go (env := env) scope.names [] h
  unfold closureFor
  simp only [bind_pure_comp, map_pure, bind_pure] at q ⊢
  first
    | exact q
    | (simpa using q)
theorem closL_sub {env : Env} : ∀ (ns : List (Str × NameKind)) (cs : List (Str × Addr)) (x : Str) (c : Addr), (closL env ns cs).lookup x = some c → env.cells.lookup x = some c ∨ cs.lookup x = some c
  | [], cs, x, c, h => .inr h
  | (n, k) :: r, cs, x, c, h => by
    unfold closL at h
    rcases closL_sub r _ x c h with q | q
    · exact .inl q
    · by_cases hk : k = .free
      · subst hk
        simp only [beq_self_eq_true, if_true] at q
        cases e : env.cells.lookup n with
        | none => rw [e] at q; exact .inr q
        | some a =>
          rw [e] at q
          simp only [List.lookup_cons] at q
          cases hx : x == n with
          | true =>
            rw [hx] at q
            have ex : x = n := by simpa using hx
            subst ex
            have ea : a = c := Option.some.inj q
            subst ea
            exact .inl e
          | false => rw [hx] at q; exact .inr q
      · have hb : (k == NameKind.free) = false := by simpa using hk
        simp only [hb, Bool.false_eq_true, if_false] at q
        exact .inr q
theorem closL_mono {env : Env} : ∀ (ns : List (Str × NameKind)) (cs : List (Str × Addr)) (x : Str), (∃ c, cs.lookup x = some c) → ∃ c, (closL env ns cs).lookup x = some c
  | [], _, _, h => h
  | (n, k) :: r, cs, x, ⟨c, h⟩ => by
    unfold closL
    refine closL_mono r _ x ?_
    by_cases hk : (k == NameKind.free) = true
    · rw [if_pos hk]
      cases e : env.cells.lookup n with
      | none => exact ⟨c, h⟩
      | some a =>
        simp only [List.lookup_cons]
        cases hx : x == n with
        | true => exact ⟨a, rfl⟩
        | false => exact ⟨c, h⟩
    · rw [if_neg hk]; exact ⟨c, h⟩
theorem closL_has {env : Env} : ∀ (ns : List (Str × NameKind)) (cs : List (Str × Addr)) (x : Str), (x, NameKind.free) ∈ ns → (∃ c, env.cells.lookup x = some c) → ∃ c, (closL env ns cs).lookup x = some c
  | [], _, _, h, _ => nomatch h
  | (n, k) :: r, cs, x, h, ⟨c, e⟩ => by
    unfold closL
    rcases List.mem_cons.mp h with z | z
    · have z1 : x = n := congrArg Prod.fst z
      have z2 : NameKind.free = k := congrArg Prod.snd z
      subst z1 z2
      refine closL_mono r _ x ?_
      simp only [beq_self_eq_true, if_true, e, List.lookup_cons]
      exact ⟨c, rfl⟩
    · exact closL_has r _ x z ⟨c, e⟩
theorem mem_of_lookup' {ns : List (Str × NameKind)} {x : Str} {k : NameKind} (h : ns.lookup x = some k) : (x, k) ∈ ns := PySem.mem_of_lookup h

/-- the kinds of the block's names: its own stay local, the free ones are cells or free -/
theorem relabel_look {env : Env} : ∀ (names : List (Str × NameKind)) (x : Str),
    (names.map fun (n, k) => if (k == NameKind.free && env.scope.kind == .function && env.kindOf n == some .cell) then (n, NameKind.cell) else (n, k)).lookup x =
      (names.lookup x).map fun k => if (k == NameKind.free && env.scope.kind == .function && env.kindOf x == some .cell) then NameKind.cell else k
  | [], x => rfl
  | (n, k) :: r, x => by
    have ih := relabel_look (env := env) r x
    rw [List.map_cons]
    show List.lookup x ((if (k == NameKind.free && env.scope.kind == .function && env.kindOf n == some .cell) = true then (n, NameKind.cell) else (n, k)) :: _) = _
    cases hx : x == n with
    | true =>
      have ex : x = n := by simpa using hx
      subst ex
      by_cases hc : (k == NameKind.free && env.scope.kind == .function && env.kindOf x == some .cell) = true
      · rw [if_pos hc]; simp only [List.lookup_cons, beq_self_eq_true, Option.map_some]; rw [if_pos hc]
      · rw [if_neg hc]; simp only [List.lookup_cons, beq_self_eq_true, Option.map_some]; rw [if_neg hc]
    | false =>
      by_cases hc : (k == NameKind.free && env.scope.kind == .function && env.kindOf n == some .cell) = true
      · rw [if_pos hc]; simp only [List.lookup_cons, hx]; exact ih
      · rw [if_neg hc]; simp only [List.lookup_cons, hx]; exact ih

/-- what the text says of a comprehension's scope, its own names and the free ones -/
structure CompScope (own fr : List Str) (scope : Scope) (outer : Scope) : Prop where
  kind : scope.kind = .function
  nocell : ∀ y ∈ scope.names, y.2 ≠ .cell
  names : ∀ y ∈ scope.names, y.2 = .local → scope.names.lookup y.1 = some .local
  nd : (own ++ fr).Nodup
  outs : ∀ y ∈ scope.names, y.2 = .free → outer.names.lookup y.1 = some .cell ∨ outer.names.lookup y.1 = some .free
  frs : ∀ x ∈ fr, scope.names.lookup x = some .free
  owns : ∀ x ∈ own, scope.names.lookup x = some .local

def compCx (X : Cx) (scope : Scope) (C : Addr) (N : List Str) (s : Shared) (H : Hp) (pins : List (Addr × Obj)) (fp : List Addr) : Cx :=
  { X with N := N, s₀ := s, H₀ := H, env := compEnvC scope (closL X.env scope.names []) C X.env, outer := X.stack, stack := X.stack, ex := fp, fn := fun _ => false, pn := X.pn ++ pins, xe := fun _ _ => False }

/-- the block's slots at its start: its own names without a value, the free ones as they stand outside -/
def compSt (n : Nat) (idx : List Nat) (σ : St) : St := List.replicate n none ++ idx.map fun j => (σ[j]?).join
def CompLoop (J : It) (D : Addr) (g : TG) (tc : TT) (te : TE) (Q : VK) (σ0 : St) (H1 : Hp) : Prop := ∃ W : Nat → Nat → List V → St → Hp → Prop, (∃ m, W 0 m [] σ0 (upd H1 D (.lst []))) ∧
  ∀ i m ys σ H, H D = some (.lst ys) → W i m ys σ H → (J.stop i H ∧ Q (.ref D) H) ∨ (J.go i H ∧ ys.length < sizeLine ∧ ∃ N : List V → St → Hp → Prop, (∀ ys' σ' H', N ys' σ' H' → ∃ m', m' < m ∧ W (i + 1) m' ys' σ' H') ∧
    ∀ x H', J.yld i H x H' → g x σ H' fun σ2 H2 => tc σ2 H2 fun b H3 =>
      if b = true then te σ2 H3 fun v H4 => H4 D = some (.lst ys) ∧ N (ys ++ [v]) σ2 (upd H4 D (.lst (ys ++ [v])))
      else H3 D = some (.lst ys) ∧ N ys σ2 H3)
def tComp (wi : TI) (n : Nat) (idx : List Nat) (g : TG) (tc : TT) (te : TE) : TE := fun σ H Q => wi σ H fun J H1 => ∀ D, H1 D = none → CompLoop J D g tc te Q (compSt n idx σ) H1

section
variable {X : Cx}
theorem compCx_ok {scope : Scope} {own fr : List Str} {C : Addr} {pins : List (Addr × Obj)} {σ : St} {H : Hp} {s : Shared} {fp : List Addr} (S : CompScope own fr scope X.env.scope) (I : Inv X pins σ H s) (hf : ∀ b ∈ fp, FpOk X pins H b)
    (hC : s.heap.objs.size ≤ C) (hfC : ∀ b ∈ fp, b ≠ C) : (compCx X scope C (own ++ fr) s H pins fp).Ok := by
  have sub : ∀ x c, (closL X.env scope.names []).lookup x = some c → X.env.cells.lookup x = some c := fun x c e => (closL_sub _ _ x c e).elim id fun z => nomatch z
  have kindEq : ∀ x, (compEnvC scope (closL X.env scope.names []) C X.env).kindOf x = (scope.names.lookup x).map fun k => if (k == NameKind.free && X.env.scope.kind == .function && X.env.kindOf x == some .cell) then NameKind.cell else k := fun x => relabel_look _ x
  refine ⟨I.ok.mod, S.kind, I.ok.glob, I.ok.blt, hC, fun x y c e1 e2 => I.ok.inj x y c (sub x c e1) (sub y c e2), fun x hx => ?_, fun x c z => absurd z Bool.false_ne_true, I.ok.hd, I.ok.frames, .inl rfl, fun b hb => ⟨hfC b hb, fun x c e => (hf b hb).2.2.2.2.1 x c (sub x c e)⟩,
    I.bs, Nat.le_trans I.ok.bsz I.sz, fun b o e hb => ?_, fun b hb z => ?_, I.stack, I.stkFree⟩
  · have hx' : (compEnvC scope (closL X.env scope.names []) C X.env).kindOf x = some .cell ∨ (compEnvC scope (closL X.env scope.names []) C X.env).kindOf x = some .free := hx
    rw [kindEq] at hx'
    cases e : scope.names.lookup x with
    | none => rw [e] at hx'; rcases hx' with z | z <;> cases z
    | some k =>
      have hk : k = .free := by
        rw [e] at hx'
        have nc := S.nocell (x, k) (mem_of_lookup' e)
        cases k with
        | free => rfl
        | cell => exact absurd rfl nc
        | «local» => rcases hx' with z | z <;> simp at z
        | globalImplicit => rcases hx' with z | z <;> simp at z
        | globalExplicit => rcases hx' with z | z <;> simp at z
      subst hk
      have m := mem_of_lookup' e
      refine closL_has _ _ x m ?_
      exact I.ok.has x (S.outs _ m rfl)
  · rcases (hf b hb).2.2.2.1 with z | z
    · exact I.ok.noex b o e z
    · exact absurd (Nat.lt_of_lt_of_le (Heap.lt_size e) (Nat.le_trans I.ok.bsz z)) (Nat.lt_irrefl _)
  · have z' : b ∈ frs X.stack := z
    rcases List.mem_cons.mp (I.stkSub b z') with q | q
    · exact (hf b hb).2.1 q
    · exact (hf b hb).2.2.1 q

theorem compSt_get {own fr : List Str} {idx : List Nat} {σ : St} (hix : idx.length = fr.length) {i : Nat} {x : Str} {v : V} (h1 : (own ++ fr)[i]? = some x) (h2 : (compSt own.length idx σ)[i]? = some (some v)) :
    ∃ (k j : Nat), fr[k]? = some x ∧ idx[k]? = some j ∧ σ[j]? = some (some v) := by
  unfold compSt at h2
  by_cases hi : i < own.length
  · rw [List.getElem?_append_left (by simpa using hi), List.getElem?_replicate] at h2
    split at h2 <;> cases h2
  · rw [List.getElem?_append_right (by simpa using hi)] at h2
    rw [List.getElem?_append_right (by omega)] at h1
    rw [List.length_replicate, List.getElem?_map] at h2
    cases e : idx[i - own.length]? with
    | none => rw [e] at h2; cases h2
    | some j =>
      rw [e] at h2
      have h3 : (σ[j]?).join = some v := Option.some.inj h2
      refine ⟨i - own.length, j, h1, e, ?_⟩
      cases q : σ[j]? with
      | none => rw [q] at h3; cases h3
      | some w => rw [q] at h3; have h4 : w = some v := h3; rw [h4]

/-- the block's entry -/
theorem comp_start {scope : Scope} {own fr : List Str} {idx : List Nat} {pins : List (Addr × Obj)} {σ : St} {H : Hp} {s : Shared} {fp : List Addr} {h4 : Heap} {tk : Nat} {m : Str → Option Value} (S : CompScope own fr scope X.env.scope)
    (hix : idx.length = fr.length) (hat : ∀ (k : Nat) (x : Str) (j : Nat), fr[k]? = some x → idx[k]? = some j → X.N[j]? = some x)
    (I : Inv X pins σ H s) (hf : ∀ b ∈ fp, FpOk X pins H b) (hfs : ∀ b ∈ fp, b < s.heap.objs.size) (hn : h4.Ns s.heap.objs.size m) (hk : ∀ b o, s.heap.get? b = some o → h4.get? b = some o) :
    Inv (compCx X scope s.heap.objs.size (own ++ fr) s H pins fp) [] (compSt own.length idx σ) H { s with heap := h4, toks := tk } := by
  have sub : ∀ x c, (closL X.env scope.names []).lookup x = some c → X.env.cells.lookup x = some c := fun x c e => (closL_sub _ _ x c e).elim id fun z => nomatch z
  have hfC : ∀ b ∈ fp, b ≠ s.heap.objs.size := fun b hb => Nat.ne_of_lt (hfs b hb)
  have ok := compCx_ok (fp := fp) S I hf (Nat.le_refl _) hfC
  refine ⟨ok, rfl, I.bare, Un.kept hk, ⟨m, hn, fun i x v e1 e2 e3 => ?_⟩, fun x c e => ?_, I.hok.fresh (Nat.le_refl _), fun x c e => I.freeC x c (sub x c e), fun p hp => ?_, I.hok.kept hk, ?_⟩
  · obtain ⟨k, j, q1, q2, q3⟩ := compSt_get hix e1 e2
    have hN := hat k x j q1 q2
    have hx := List.mem_of_getElem? q1
    have hfree := S.frs x hx
    have hout := S.outs _ (mem_of_lookup' hfree) rfl
    obtain ⟨m0, _, hl⟩ := I.loc
    obtain ⟨u, ru, lk⟩ := hl j x v hN q3 (hout.elim (fun z => .inr (.inl z)) fun z => .inr (.inr z))
    refine ⟨u, ru, ?_⟩
    have hkind : (compEnvC scope (closL X.env scope.names []) s.heap.objs.size X.env).kindOf x = some .cell ∨ (compEnvC scope (closL X.env scope.names []) s.heap.objs.size X.env).kindOf x = some .free := by
      have q := relabel_look (env := X.env) scope.names x
      rw [hfree] at q
      by_cases hc : (NameKind.free == NameKind.free && X.env.scope.kind == .function && X.env.kindOf x == some .cell) = true
      · refine .inl (q.trans ?_); simp only [Option.map_some]; rw [if_pos hc]
      · refine .inr (q.trans ?_); simp only [Option.map_some]; rw [if_neg hc]
    rcases lk with ⟨kl, _⟩ | ⟨_, c, ec, cc⟩
    · have kl' : X.env.scope.names.lookup x = some .local := kl
      rcases hout with z | z <;> (rw [kl'] at z; cases z)
    · obtain ⟨c', ec'⟩ := closL_has scope.names [] x (mem_of_lookup' hfree) ⟨c, ec⟩
      have e' := sub x c' ec'
      rw [ec] at e'
      cases e'
      obtain ⟨o, ho, hd⟩ := cc
      exact .inr ⟨hkind, c, ec', o, hk c o ho, hd⟩
  · obtain ⟨v, o, ho, hd⟩ := I.cell x c (sub x c e)
    exact ⟨v, o, hk c o ho, hd⟩
  · have hp' : p ∈ X.pn ++ pins := by
      rcases List.mem_append.mp hp with z | z
      · exact z
      · exact nomatch z
    obtain ⟨a1, a2, a3, a4, a5⟩ := I.pin p hp'
    refine ⟨hk _ _ a1, a2, Nat.ne_of_lt (Heap.lt_size a1), fun z => ?_, a5⟩
    rcases List.mem_cons.mp (I.stkSub p.1 z) with q | q
    · exact a3 q
    · exact a4 q
  · show (compSt own.length idx σ).length = (own ++ fr).length
    unfold compSt
    rw [List.length_append, List.length_append, List.length_replicate, List.length_map, hix]

/-- behind the block -/
theorem comp_back {scope : Scope} {N : List Str} {pins : List (Addr × Obj)} {σ σ' : St} {H H' : Hp} {s s' : Shared} {fp : List Addr} {h' : Heap}
    (I : Inv X pins σ H s) (hf : ∀ b ∈ fp, FpOk X pins H b) (J : Inv (compCx X scope s.heap.objs.size N s H pins fp) [] σ' H' s') (hs : Heap.SameBut s.heap.objs.size s'.heap h') :
    Inv X pins σ H' { s' with heap := h' } := by
  have ne : ∀ b o, s.heap.get? b = some o → b ≠ s.heap.objs.size := fun b o e => Nat.ne_of_lt (Heap.lt_size e)
  have hCn : H' s.heap.objs.size = none := J.free
  have u := J.base
  refine I.call' (s' := { s' with heap := h' }) (ch := fp) J.os ⟨fun b o e n hb hx => ?_, fun b o e n hb hx => ?_, u.free, fun b o e hx => ?_, u.tups, u.frzs, u.tbls⟩ (fun b ob e => ?_) J.bare fun b hb => ?_
  · exact (hs.2 b (ne b o e)).trans (u.keep b o e n hb hx)
  · obtain ⟨sl, q⟩ := u.slot b o e n hb hx
    exact ⟨sl, (hs.2 b (ne b o e)).trans q⟩
  · obtain ⟨o', q⟩ := u.there b o e hx
    exact ⟨o', (hs.2 b (ne b o e)).trans q⟩
  · refine (J.hok b ob e).stay (fun c v hc q => (hs.2 c ?_).trans q) (fun _ q => q) fun _ _ q => q
    rintro rfl
    rcases hc with z | z
    · rw [← z, hCn] at e; cases e
    · rw [hCn] at z; cases z
  · obtain ⟨f0, f1, f2, f3, f4, f5⟩ := hf b hb
    exact ⟨f3, f1, f4, f5⟩

/-- the walk of a comprehension's block, whatever its context is -/
theorem comp_core {Y : Cx} {elt tg iter : Expr} {ifs : List Expr} {scope : Scope} {pos : Pos} {it D : Addr} {fp : List Addr} {tn : Nat → Heap → Prop} {J : It} {g : TG} {tc : TT} {te : TE} {Q : Hp → Prop} {W : Nat → Nat → List V → St → Hp → Prop} {R : Result → Shared → Prop} {s0 : Shared} {m0 : Nat}
    (hc : Y.calm = true) (hg : PG Y tg g) (ht : PTs Y ifs tc) (he : PE Y elt te) (hF : ∀ v s, Y.xe v s → False) (T : Turn Y.prog Y.w Y.K tg J fp it tn) (fpC : ∀ {H' : Hp}, (∀ b ∈ fp, H' b = none) → ∀ b ∈ fp, FpOk Y [] H' b)
    (turn : ∀ i m ys σ H, H D = some (.lst ys) → W i m ys σ H → (J.stop i H ∧ Q H) ∨ (J.go i H ∧ ys.length < sizeLine ∧ ∃ N : List V → St → Hp → Prop, (∀ ys' σ' H', N ys' σ' H' → ∃ m', m' < m ∧ W (i + 1) m' ys' σ' H') ∧
      ∀ x H', J.yld i H x H' → g x σ H' fun σ2 H2 => tc σ2 H2 fun b H3 =>
        if b = true then te σ2 H3 fun v H4 => H4 D = some (.lst ys) ∧ N (ys ++ [v]) σ2 (upd H4 D (.lst (ys ++ [v])))
        else H3 D = some (.lst ys) ∧ N ys σ2 H3))
    (done : ∀ s6 σ H, Inv Y [] σ H s6 → Q H → R (.ok .next) s6)
    (h0 : ∃ i ys σ' H', Inv Y [] σ' H' s0 ∧ tn i s0.heap ∧ (∀ b ∈ fp, H' b = none) ∧ H' D = some (.lst ys) ∧ W i m0 ys σ' H') :
    codeAny (model Y.prog Y.w) Y.A (.compLoop (.ListComp elt [⟨tg, iter, ifs, 0⟩] scope pos) 0 (.ref it) (.ref D) Y.env) R s0 := by
  have thnF : ∀ {α : Type} {m : Sem α} {Q Q' : α → Shared → Prop} {s : Shared}, wpAny (model Y.prog Y.w) Y.A m Q Y.xe s → (∀ v s', Q v s' → Q' v s') → wpAny (model Y.prog Y.w) Y.A m Q' (fun _ _ => False) s := fun h k => wpAny_mono h k hF
  refine codeAny_compLoop_own (fun n s' => ∃ i ys σ' H', Inv Y [] σ' H' s' ∧ tn i s'.heap ∧ (∀ b ∈ fp, H' b = none) ∧ H' D = some (.lst ys) ∧ W i n ys σ' H') ?_ m0 h0
  rintro n s5 ⟨i, ys, σ5, H5, I5, st5, fr5, hD5, w5⟩
  rcases turn i n ys σ5 H5 hD5 w5 with ⟨stop, q⟩ | ⟨go, hlen, N, hN, step⟩
  · refine thn (T.done Y rfl rfl rfl hc i [] s5 σ5 H5 _ I5 (fpC fr5) st5 stop) fun r s6 zz => ?_
    obtain ⟨hr, I6⟩ := zz
    subst hr
    exact done s6 σ5 H5 I6 q
  · refine thn (T.item Y rfl rfl rfl hc i [] s5 σ5 H5 _ I5 (fpC fr5) st5 go) fun r s6 zz => ?_
    obtain ⟨u, hr, h6⟩ := zz
    subst hr
    refine thn h6 fun _ s7 zz => ?_
    obtain ⟨x, H7, I7, r7, y7, st7, fr7⟩ := zz
    have I7' := I7.pinned (fpC fr7) (T.obj _ _ st7)
    refine thnF (hg _ s7 σ5 H7 x u _ I7' r7 (step x H7 y7)) fun _ s8 zz => ?_
    obtain ⟨σ8, H8, I8, q8⟩ := zz
    refine thnF (ht _ s8 σ8 H8 _ I8 q8) fun ok s9 zz => ?_
    obtain ⟨H9, I9, q9⟩ := zz
    have again : ∀ {σ' : St} {H' : Hp} {s' : Shared} {ys' : List V}, Inv Y ([] ++ pinsAt fp s7.heap) σ' H' s' → H' D = some (.lst ys') → N ys' σ' H' →
        ∃ m, m < n ∧ ∃ i ys σ' H', Inv Y [] σ' H' s' ∧ tn i s'.heap ∧ (∀ b ∈ fp, H' b = none) ∧ H' D = some (.lst ys) ∧ W i m ys σ' H' := fun {σ' H' s' ys'} I' hD' n' => by
      obtain ⟨m', hm, w'⟩ := hN ys' σ' H' n'
      have pin : ∀ b ∈ fp, ∀ o, s7.heap.get? b = some o → s'.heap.get? b = some o ∧ H' b = none := fun b hb o e => by
        have q := I'.pin (b, o) (List.mem_append_right _ (List.mem_append_right _ (mem_pinsAt hb e)))
        exact ⟨q.1, q.2.1⟩
      refine ⟨m', hm, i + 1, ys', σ', H', I'.unpinned, T.keep _ _ _ st7 fun b hb o e => (pin b hb o e).1, fun b hb => ?_, hD', w'⟩
      obtain ⟨o, e, _⟩ := T.obj _ _ st7 b hb
      exact (pin b hb o e).2
    cases ok with
    | false =>
      have q9' : H9 D = some (.lst ys) ∧ N ys σ8 H9 := by simpa using q9
      simp only [Bool.false_eq_true, if_false]
      exact again I9 q9'.1 q9'.2
    | true =>
      simp only [if_true] at q9 ⊢
      refine thnF (he _ s9 σ8 H9 _ I9 q9) fun xv s10 zz => ?_
      obtain ⟨v, H10, I10, r10, hD10, w10⟩ := zz
      refine thnF (mt_append _ s10 σ8 H10 (.ref D) [v] _ [xv] (fun _ H' => H' = upd H10 D (.lst (ys ++ [v]))) I10 rfl (.cons r10 .nil) ⟨_, ys, v, rfl, rfl, hD10, hlen, rfl⟩) fun _ s11 zz => ?_
      obtain ⟨_, H11, I11, _, e11⟩ := zz
      subst e11
      exact again I11 upd_same w10
theorem pe_comp {elt tg iter : Expr} {ifs : List Expr} {scope : Scope} {own fr : List Str} {idx : List Nat} {wi : TI} {g : TG} {tc : TT} {te : TE} {pos : Pos} (hc : X.calm = true) (S : CompScope own fr scope X.env.scope)
    (hi : PI X tg iter wi) (hg : ∀ C s H pins fp, PG (compCx X scope C (own ++ fr) s H pins fp) tg g) (ht : ∀ C s H pins fp, PTs (compCx X scope C (own ++ fr) s H pins fp) ifs tc) (he : ∀ C s H pins fp, PE (compCx X scope C (own ++ fr) s H pins fp) elt te)
    (hix : idx.length = fr.length := by rfl) (hat : ∀ (k : Nat) (x : Str) (j : Nat), fr[k]? = some x → idx[k]? = some j → X.N[j]? = some x)
    (hs : ∀ x, foldedSetIterable iter X.env x = pure x := by intro _; rfl) : PE X (.ListComp elt [⟨tg, iter, ifs, 0⟩] scope pos) (tComp wi own.length idx g tc te) := by
  intro pins s σ H Q I h
  rw [eval_ListComp]
  have hclos : closureFor scope X.env = pure (closL X.env scope.names []) := clos_eq fun x hx hfree => I.ok.has x.1 (S.outs x hx hfree)
  refine wpAny_comprehension_free (use := none) rfl hs hclos S.kind S.names (thn (hi pins s σ H _ I h) fun v s1 h1 => thn h1 fun itv s2 h2 => ?_)
  obtain ⟨it, fp, tn, J, H2, e, I2, T, st2, f2, h2⟩ := h2
  subst e
  refine wpAny_newObj_type ?_
  obtain ⟨W, ⟨m0, w0⟩, turn⟩ := h2 s2.heap.objs.size I2.fresh
  have I3 : Inv X pins σ (upd H2 s2.heap.objs.size (.lst [])) { s2 with heap := s2.heap.push { cls := .type "list", data := .seq ([] : List Value).toArray }, toks := s2.toks } := I2.lnew .nil (Nat.zero_le _)
  have fpl : ∀ b ∈ fp, b < s2.heap.objs.size := fun b hb => by
    obtain ⟨o, e, _⟩ := T.obj _ _ st2 b hb
    exact Heap.lt_size e
  have f3 : ∀ b ∈ fp, FpOk X pins (upd H2 s2.heap.objs.size (.lst [])) b := fun b hb => ⟨by rw [upd_ne (Nat.ne_of_lt (fpl b hb))]; exact (f2 b hb).1, (f2 b hb).2⟩
  generalize hs3 : ({ s2 with heap := s2.heap.push { cls := .type "list", data := .seq ([] : List Value).toArray }, toks := s2.toks } : Shared) = s3 at I3
  have hsz : s3.heap.objs.size = s2.heap.objs.size + 1 := by rw [← hs3]; exact Heap.size_push _ _
  have st3 : tn 0 s3.heap := T.keep _ _ _ st2 fun b hb o e => by rw [← hs3]; exact Heap.get?_push_of_some _ e
  refine wpAny_newFunctionEnv S.nocell (by intro y hy; simp at hy) (fun h4 hn4 hsb4 => ?_) S.kind
  have hk4 : ∀ b o, s3.heap.get? b = some o → h4.get? b = some o := fun b o e => hsb4.extBut b o (Nat.ne_of_lt (Heap.lt_size e)) (Heap.get?_push_of_some _ e)
  have I4 := comp_start (idx := idx) (tk := s3.toks + ([] : List (Str × Value)).length) S hix hat I3 f3 (fun b hb => by rw [hsz]; exact Nat.lt_succ_of_lt (fpl b hb)) hn4 hk4
  have fpC : ∀ {H' : Hp} (pl : List (Addr × Obj)), (∀ p ∈ pl, ∀ b ∈ fp, p.1 ≠ b) → (∀ b ∈ fp, H' b = none) → ∀ b ∈ fp, FpOk (compCx X scope s3.heap.objs.size (own ++ fr) s3 (upd H2 s2.heap.objs.size (.lst [])) pins fp) pl H' b := fun {H'} pl hpl hn b hb => by
    obtain ⟨g0, g1, g2, g3, g4, g5⟩ := f3 b hb
    refine ⟨hn b hb, ?_, fun z => ?_, .inl hb, fun x c e => g4 x c ((closL_sub _ _ x c e).elim id fun z => nomatch z), fun p hp => ?_⟩
    · show b ≠ s3.heap.objs.size
      exact Nat.ne_of_lt (by rw [hsz]; exact Nat.lt_succ_of_lt (fpl b hb))
    · rcases List.mem_cons.mp (I3.stkSub b z) with q | q
      · exact g1 q
      · exact g2 q
    · rcases List.mem_append.mp hp with q | q
      · exact g5 p q
      · exact hpl p q b hb
  have loop : codeAny (model X.prog X.w) X.A (.compLoop (.ListComp elt [⟨tg, iter, ifs, 0⟩] scope pos) 0 (.ref it) (.ref s2.heap.objs.size) (compEnvC scope (closL X.env scope.names []) s3.heap.objs.size X.env))
      (compPost (model X.prog X.w) X.A X.xe none (EP X pins σ Q) (.ref s2.heap.objs.size) s3.heap.objs.size) { s3 with heap := h4, toks := s3.toks + ([] : List (Str × Value)).length } := by
    refine comp_core (Y := compCx X scope s3.heap.objs.size (own ++ fr) s3 (upd H2 s2.heap.objs.size (.lst [])) pins fp) (W := W) (m0 := m0) hc (hg _ _ _ _ _) (ht _ _ _ _ _) (he _ _ _ _ _) (fun _ _ z => z) T (fun hn => fpC [] (fun _ z => nomatch z) hn) turn (fun s6 σ5 H5 I6 q => ?_) ⟨0, [], _, _, I4, T.keep _ _ _ st3 fun b _ o e => hk4 b o e, fun b hb => (f3 b hb).1, upd_same, w0⟩
    obtain ⟨m6, hn6, _⟩ := id I6.loc
    refine ⟨m6, hn6, fun h' hsb => ?_⟩
    exact ⟨.ref s2.heap.objs.size, H5, comp_back I3 f3 I6 hsb, rfl, q⟩
  exact codeAny_compStart_list loop (T.self _ 0 _ _ _ (T.keep _ _ _ st3 fun b _ o e => hk4 b o e) loop)
end

/-! ### the forms one uses -/
theorem comp_gen {J : It} {n : Nat} {item : Nat → V} {g : TG} {tc : TT} {te : TE} {σ0 : St} {H1 : Hp} {D : Addr} {Q : VK} (Pv : Nat → List V → St → Hp → Prop) (h0 : Pv 0 [] σ0 (upd H1 D (.lst []))) (hn : n ≤ 100000)
    (hgo : ∀ i ys σ H, i < n → Pv i ys σ H → J.go i H ∧ ∀ x H', J.yld i H x H' → H' = H ∧ x = item i) (hst : ∀ ys σ H, Pv n ys σ H → J.stop n H) (hl : ∀ i ys σ H, Pv i ys σ H → ys.length ≤ i)
    (hs : ∀ i ys σ H, i < n → H D = some (.lst ys) → Pv i ys σ H → g (item i) σ H fun σ2 H2 => tc σ2 H2 fun b H3 =>
      if b = true then te σ2 H3 fun v H4 => H4 D = some (.lst ys) ∧ Pv (i + 1) (ys ++ [v]) σ2 (upd H4 D (.lst (ys ++ [v]))) else H3 D = some (.lst ys) ∧ Pv (i + 1) ys σ2 H3)
    (hd : ∀ ys σ H, H D = some (.lst ys) → Pv n ys σ H → Q (.ref D) H) : CompLoop J D g tc te Q σ0 H1 := by
  refine ⟨fun i m ys σ H => m = n - i ∧ i ≤ n ∧ Pv i ys σ H, ⟨n, by simp, Nat.zero_le _, h0⟩, ?_⟩
  rintro i m ys σ H hD ⟨rfl, hi, p⟩
  by_cases hlt : i < n
  · have hz : ys.length < sizeLine := by
      have h1 := hl i ys σ H p
      have h2 : (100000 : Nat) < sizeLine := by rw [sizeLine_eq]; decide
      omega
    obtain ⟨go, yl⟩ := hgo i ys σ H hlt p
    refine .inr ⟨go, hz, Pv (i + 1), fun ys' σ' H' p' => ⟨n - (i + 1), by omega, rfl, hlt, p'⟩, fun x H' y => ?_⟩
    obtain ⟨e1, e2⟩ := yl x H' y
    subst e1 e2
    exact hs i ys σ _ hlt hD p
  · have e : i = n := by omega
    subst e
    exact .inl ⟨hst ys σ H p, hd ys σ H hD p⟩
theorem comp_range {lo : Int} {n : Nat} {g : TG} {tc : TT} {te : TE} {σ0 : St} {H1 : Hp} {D : Addr} {Q : VK} (Pv : Nat → List V → St → Hp → Prop) (h0 : Pv 0 [] σ0 (upd H1 D (.lst []))) (hn : n ≤ 100000) (hl : ∀ i ys σ H, Pv i ys σ H → ys.length ≤ i)
    (hs : ∀ i ys σ H, i < n → H D = some (.lst ys) → Pv i ys σ H → g (.int (lo + i)) σ H fun σ2 H2 => tc σ2 H2 fun b H3 =>
      if b = true then te σ2 H3 fun v H4 => H4 D = some (.lst ys) ∧ Pv (i + 1) (ys ++ [v]) σ2 (upd H4 D (.lst (ys ++ [v]))) else H3 D = some (.lst ys) ∧ Pv (i + 1) ys σ2 H3)
    (hd : ∀ ys σ H, H D = some (.lst ys) → Pv n ys σ H → Q (.ref D) H) : CompLoop (Itr lo n) D g tc te Q σ0 H1 :=
  comp_gen (item := fun i => .int (lo + i)) Pv h0 hn (fun i ys σ H hi _ => ⟨hi, fun x H' y => y⟩) (fun _ _ _ _ => Nat.le_refl _) hl hs hd
theorem comp_list {K : PySem.W.Frag} {a : Addr} {xs : List V} {g : TG} {tc : TT} {te : TE} {σ0 : St} {H1 : Hp} {D : Addr} {Q : VK} (Pv : Nat → List V → St → Hp → Prop) (h0 : Pv 0 [] σ0 (upd H1 D (.lst []))) (hn : xs.length ≤ 100000) (hl : ∀ i ys σ H, Pv i ys σ H → ys.length ≤ i)
    (ha : ∀ i ys σ H, Pv i ys σ H → SqL K H a xs)
    (hs : ∀ i x ys σ H, xs[i]? = some x → H D = some (.lst ys) → Pv i ys σ H → g x σ H fun σ2 H2 => tc σ2 H2 fun b H3 =>
      if b = true then te σ2 H3 fun v H4 => H4 D = some (.lst ys) ∧ Pv (i + 1) (ys ++ [v]) σ2 (upd H4 D (.lst (ys ++ [v]))) else H3 D = some (.lst ys) ∧ Pv (i + 1) ys σ2 H3)
    (hd : ∀ ys σ H, H D = some (.lst ys) → Pv xs.length ys σ H → Q (.ref D) H) : CompLoop (Itl K a) D g tc te Q σ0 H1 := by
  refine comp_gen (n := xs.length) (item := fun i => xs.getD i .non) Pv h0 hn (fun i ys σ H hi p => ?_) (fun ys σ H p => ⟨xs, ha _ _ _ _ p, Nat.le_refl _⟩) hl (fun i ys σ H hi hD p => ?_) hd
  · have e : xs[i]? = some xs[i] := List.getElem?_eq_getElem hi
    refine ⟨⟨xs, xs[i], ha _ _ _ _ p, e⟩, fun x H' y => ⟨y.1, ?_⟩⟩
    have q := y.2 xs (ha _ _ _ _ p)
    rw [List.getD_eq_getElem?_getD, q]; rfl
  · have e : xs[i]? = some (xs.getD i .non) := by rw [List.getD_eq_getElem?_getD, List.getElem?_eq_getElem hi]; rfl
    exact hs i _ ys σ H e hD p
end L2
namespace L2
open PySem PySem.Spec PyProof.Rows
section
variable {X : Cx}
/-! ### // by a greater divisor; join; slices of texts -/
def CDivB (_i j : Int) : Prop := 0 < j ∧ j ≤ 2 ^ 100
theorem log2_small {n : Nat} (h : n ≤ 2 ^ 100) : n.log2 < 9000 := by
  by_cases h0 : n = 0
  · subst h0; decide
  · exact (Nat.log2_lt h0).mpr (Nat.lt_of_le_of_lt h (Nat.pow_lt_pow_right (by decide) (by decide)))
theorem op_fdivB : OpR X (binaryOp .FloorDiv) (rI CDivB fun i j => .int (i / j)) := opI fun i j _ _ _ _ _ hc q => by
  have h1 : (0 : Int) < j := hc.1
  have h2 : j ≤ 2 ^ 100 := hc.2
  have e : j.natAbs ≤ 2 ^ 100 := by
    have : ((j.natAbs : Nat) : Int) ≤ ((2 ^ 100 : Nat) : Int) := by rw [Int.natAbs_of_nonneg (by omega)]; exact h2
    exact Int.ofNat_le.mp this
  exact floordiv_int (by omega) (by rw [Int.fdiv_eq_ediv_of_nonneg i (by omega)]; exact q) (.inl (PyProof.noPylong_of_log2 (log2_small e)))

theorem strsAre_of {ys : List Str} : ∀ {us : List Value}, Vals (ys.map V.str) us → StrsAre us ys := by
  induction ys with
  | nil => intro us h; cases h; exact .nil
  | cons y r ih =>
    intro us h
    cases h with
    | cons a b =>
      obtain ⟨t, rfl⟩ := a
      exact .cons _ _ (ih b)
def rJoin (K : PySem.W.Frag) : V → List V → Hp → VK → Prop := fun x xs H Q => ∃ sep p ys, x = .str sep ∧ xs = [.ref p] ∧ SqL K H p (ys.map V.str) ∧ (ys.map (·.length)).sum + ys.length * sep.length ≤ 16777216 ∧ Q (.str (Txt.join sep ys)) H
theorem mt_join : MtR X "str.join" (rJoin X.K) := by
  intro pins s σ H x xs v us Q I rx rs h
  obtain ⟨sep, p, ys, rfl, rfl, hq, hz, q⟩ := h
  obtain ⟨t, rfl⟩ := rx
  obtain ⟨u, rfl, ru⟩ := rs.one
  cases ru
  obtain ⟨its, r, pl, _⟩ := I.list hq
  exact join_list pl.isList (strsAre_of r) hz fun t' k => ⟨.str (Txt.join sep ys), H, I.tok k, ⟨_, rfl⟩, q⟩

def rSlS : V → Option Int → Option Int → Hp → VK → Prop := fun x lo hi H Q => ∃ z, x = .str z ∧ z.length ≤ sizeLine ∧ Q (.str (Txt.slice z lo hi)) H
theorem sl_str : SlR X rSlS := by
  intro pins s σ H x v vl vu lo hi sl Q I rx hs pl pu h
  obtain ⟨z, rfl, hz, q⟩ := h
  obtain ⟨t, rfl⟩ := rx
  refine ⟨"str", _, F.slot_str_getitem.lookup, typeIs_str _ _ _, ?_⟩
  have fin : ∀ t' k, EP X pins σ Q (.str (Txt.slice z lo hi) t') { s with toks := k } := fun t' k => ⟨.str (Txt.slice z lo hi), H, I.tok k, ⟨_, rfl⟩, q⟩
  cases pl with
  | none =>
    cases pu with
    | none => exact wpAny_getItem_str_slice (l := none) (u := none) (st := none) hs rfl (post_val_or_str ⟨Nat.le_trans (Txt.slice_le z _ _) hz, fun t' k => fin t' k⟩)
    | int j uj => exact wpAny_getItem_str_slice (l := none) (u := some (j, uj)) (st := none) hs rfl (post_val_or_str ⟨Nat.le_trans (Txt.slice_le z _ _) hz, fun t' k => fin t' k⟩)
  | int i ui =>
    cases pu with
    | none => exact wpAny_getItem_str_slice (l := some (i, ui)) (u := none) (st := none) hs rfl (post_val_or_str ⟨Nat.le_trans (Txt.slice_le z _ _) hz, fun t' k => fin t' k⟩)
    | int j uj => exact wpAny_getItem_str_slice (l := some (i, ui)) (u := some (j, uj)) (st := none) hs rfl (post_val_or_str ⟨Nat.le_trans (Txt.slice_le z _ _) hz, fun t' k => fin t' k⟩)

/-! ### records that turn, and a new object beside -/
theorem Inv.turnLaid {pins : List (Addr × Obj)} {σ : St} {H : Hp} {s : Shared} {h' : Heap} {ch : List Addr} {T : Addr} {o : HO} {t' : Nat} (I : Inv X pins σ H s) (hch : ∀ b ∈ ch, FpOk X pins H b) (keep : ∀ b ob, b ∉ ch → s.heap.get? b = some ob → h'.get? b = some ob)
    (hT : s.heap.objs.size ≤ T) (new : ObjOk X.prog X.w (upd H T o) h' T o) : Inv X pins σ (upd H T o) { s with heap := h', toks := t' } := by
  have nT : ∀ b ob, s.heap.get? b = some ob → b ≠ T := fun b ob e => Nat.ne_of_lt (Nat.lt_of_lt_of_le (Heap.lt_size e) hT)
  have fT : H T = none := I.hok.fresh hT
  have nch : ∀ b u, H b = some u → b ∉ ch := fun b u e z => by rw [(hch b z).1] at e; cases e
  refine I.step (g' := s.gens) (d' := s.drawn) (ch := ch) (fun b hb => ?_) (fun b ob _ _ hc e _ => keep b ob hc e) (fun b ob _ _ hc e _ => ⟨ob.slots, keep b ob hc e⟩) (fun b ob _ e n => by rw [upd_ne (nT b ob e)]; exact n)
    (fun b ob hc e => ⟨ob, keep b ob hc e⟩) (fun b xs e => by rw [upd_ne (ne_of_none e fT)]; exact e) (fun b ob u e => by rw [upd_ne (ne_of_none e fT)]; exact e) (fun b ps e => ⟨#[], by rw [upd_ne (ne_of_none e fT), e]; simp⟩) (fun m hm => ?_) (fun b u e => ?_) I.bare
  · obtain ⟨_, f1, _, f3, f4, f5⟩ := hch b hb
    exact ⟨f3, f1, f4, f5⟩
  · obtain ⟨ob, es, ep, ho, r⟩ := hm
    exact ⟨ob, es, ep, keep _ ob (fun z => (hch _ z).2.1 rfl) ho, r⟩
  · by_cases hb : b = T
    · subst hb; rw [upd_same] at e; cases e; exact new
    · rw [upd_ne hb] at e
      refine (I.hok b u e).stay (fun c v hc q => keep c v ?_ q) (fun c q => by rw [upd_ne (ne_of_none q fT)]; exact q) fun c xs q => by rw [upd_ne (ne_of_none q fT)]; exact q
      rcases hc with z | z
      · rw [z]; exact nch b u e
      · exact nch c _ z
theorem Inv.turnedL {pins : List (Addr × Obj)} {σ : St} {H : Hp} {s : Shared} {h' : Heap} {ch : List Addr} {t' : Nat} (I : Inv X pins σ H s) (hch : ∀ b ∈ ch, FpOk X pins H b) (keep : ∀ b ob, b ∉ ch → s.heap.get? b = some ob → h'.get? b = some ob) :
    Inv X pins σ H { s with heap := h', toks := t' } := by
  have nch : ∀ b u, H b = some u → b ∉ ch := fun b u e z => by rw [(hch b z).1] at e; cases e
  refine I.step (g' := s.gens) (d' := s.drawn) (ch := ch) (fun b hb => ?_) (fun b ob _ _ hc e _ => keep b ob hc e) (fun b ob _ _ hc e _ => ⟨ob.slots, keep b ob hc e⟩) (fun b ob _ e n => n)
    (fun b ob hc e => ⟨ob, keep b ob hc e⟩) (fun b xs e => e) (fun b ob u e => e) (fun b ps e => ⟨#[], by rw [e]; simp⟩) (fun m hm => ?_) (fun b u e => ?_) I.bare
  · obtain ⟨_, f1, _, f3, f4, f5⟩ := hch b hb
    exact ⟨f3, f1, f4, f5⟩
  · obtain ⟨ob, es, ep, ho, r⟩ := hm
    exact ⟨ob, es, ep, keep _ ob (fun z => (hch _ z).2.1 rfl) ho, r⟩
  · refine (I.hok b u e).stay (fun c v hc q => keep c v ?_ q) (fun c q => q) fun c xs q => q
    rcases hc with z | z
    · rw [z]; exact nch b u e
    · exact nch c _ z
end

/-! ### the signs of a text -/
def Its (x : Str) : It := ⟨fun i _ => i < x.cps.size, fun i H v H' => H' = H ∧ ∃ c, x.cps[i]? = some c ∧ v = .str ⟨#[c]⟩, fun i _ => x.cps.size ≤ i⟩
theorem strIter_ok {ty : String} {x : Str} {t : Tok} {i : Nat} {h : Heap} {it : Addr} (st : h.IsStrIter it ty x t i) : ∀ b ∈ [it], ∃ o, h.get? b = some o ∧ ∀ v, o.data ≠ .cell v := fun b hb => by
  have e : b = it := by simpa using hb
  subst e
  obtain ⟨o, e, c, d⟩ := st
  exact ⟨o, e, fun v z => by rw [d] at z; cases z⟩
theorem turn_str {P : Program} {w : World} {K : PySem.W.Frag} {y : Str} {p : Pos} (it : Addr) (x : Str) (t : Tok) : Turn P w K (.Name y p) (Its x) [it] it (fun i h => h.IsStrIter it (strIterType x) x t i) where
  mem := by simp
  obj := fun i h st => strIter_ok st
  keep := fun i h h' st k => by
    obtain ⟨o, e, r⟩ := st
    exact ⟨o, k it (by simp) o e, r⟩
  item := by
    intro X hP hw hK hc i pins s σ H E I hf st hg
    subst hP hw hK
    obtain ⟨f0, f1, f2, f3, f4, f5⟩ := hf it (by simp)
    have hlt : i < x.cps.size := hg
    have hi : x.cps[i]? = some x.cps[i] := Array.getElem?_eq_getElem hlt
    have fin : ∀ h', h'.IsStrIter it (strIterType x) x t (i + 1) → Heap.SameBut it s.heap h' → ∃ u, some (Value.str ⟨#[x.cps[i]]⟩ s.toks) = some u ∧
        wpAny (model X.prog X.w) X.A (letOwnedTupleGo (.Name y p) (.ref it) u) (fun _ s2 => ∃ v H', Inv X pins σ H' s2 ∧ RelV v u ∧ (Its x).yld i H v H' ∧ s2.heap.IsStrIter it (strIterType x) x t (i + 1) ∧ ∀ b ∈ [it], H' b = none) E { s with heap := h', toks := s.toks + 1 } := fun h' st' sb => by
      have I1 : Inv X pins σ H { s with heap := h', toks := s.toks + 1 } := I.turned (fun b o hb e => (sb.2 b hb).trans e) f0 f1 f3 f4 f5
      exact ⟨_, rfl, wpAny_pure ⟨.str ⟨#[x.cps[i]]⟩, H, I1, ⟨_, rfl⟩, ⟨rfl, _, hi, rfl⟩, st', fun b hb => (hf b hb).1⟩⟩
    unfold strIterType at st fin ⊢
    cases ha : x.cps.all (· < 128)
    · rw [ha] at st fin
      exact wpAny_pyNext_wide_item st hi fun h' st' sb => fin h' st' sb
    · rw [ha] at st fin
      exact wpAny_pyNext_ascii_item st hi fun h' st' sb => fin h' st' sb
  done := by
    intro X hP hw hK hc i pins s σ H E I hf st hg
    subst hP hw hK
    obtain ⟨f0, f1, f2, f3, f4, f5⟩ := hf it (by simp)
    have hi : x.cps[i]? = none := Array.getElem?_eq_none hg
    have fin : ∀ h', Heap.ExtBut it s.heap h' → (none : Option Value) = none ∧ Inv X pins σ H { s with heap := h' } := fun h' eb => ⟨rfl, I.turned (t' := s.toks) (fun b o hb e => eb b o hb e) f0 f1 f3 f4 f5⟩
    unfold strIterType at st
    cases ha : x.cps.all (· < 128)
    · rw [ha] at st
      exact wpAny_pyNext_wide_end (I.ok.hd hc) st hi fun h' eb => fin h' eb
    · rw [ha] at st
      exact wpAny_pyNext_ascii_end (I.ok.hd hc) st hi fun h' eb => fin h' eb
  self := fun A i s Q E st h => by
    unfold strIterType at st
    cases ha : x.cps.all (· < 128)
    · rw [ha] at st
      exact wpAny_pyIter_striter_wide st h
    · rw [ha] at st
      exact wpAny_pyIter_striter_ascii st h
def iStr (tl : TE) : TI := fun σ H R => tl σ H fun x H1 => ∃ z, x = .str z ∧ R (Its z) H1
theorem pi_str {X : Cx} {y : Str} {p : Pos} {l : Expr} {tl : TE} (hl : PE X l tl) : PI X (.Name y p) l (iStr tl) := by
  intro pins s σ H R I h
  refine thn (hl pins s σ H _ I h) fun v s1 ⟨x, H1, I1, r1, q1⟩ => ?_
  obtain ⟨z, e, q⟩ := q1
  subst e
  obtain ⟨t, rfl⟩ := r1
  refine wpAny_pyIter_strU ?_
  refine ⟨s1.heap.objs.size, [s1.heap.objs.size], _, _, H1, rfl, I1.kept (t' := s1.toks) fun b o e => Heap.get?_push_of_some _ e, turn_str _ z t, ⟨_, Heap.get?_push_size _ rfl, rfl, rfl⟩, fun b hb => ?_, q⟩
  have e : b = s1.heap.objs.size := by simpa using hb
  subst e
  exact I1.fpOk (Nat.le_refl _) (I1.hok.fresh (Nat.le_refl _))
theorem comp_str {z : Str} {g : TG} {tc : TT} {te : TE} {σ0 : St} {H1 : Hp} {D : Addr} {Q : VK} (Pv : Nat → List V → St → Hp → Prop) (h0 : Pv 0 [] σ0 (upd H1 D (.lst []))) (hn : z.cps.size ≤ 100000) (hl : ∀ i ys σ H, Pv i ys σ H → ys.length ≤ i)
    (hs : ∀ i c ys σ H, z.cps[i]? = some c → H D = some (.lst ys) → Pv i ys σ H → g (.str ⟨#[c]⟩) σ H fun σ2 H2 => tc σ2 H2 fun b H3 =>
      if b = true then te σ2 H3 fun v H4 => H4 D = some (.lst ys) ∧ Pv (i + 1) (ys ++ [v]) σ2 (upd H4 D (.lst (ys ++ [v]))) else H3 D = some (.lst ys) ∧ Pv (i + 1) ys σ2 H3)
    (hd : ∀ ys σ H, H D = some (.lst ys) → Pv z.cps.size ys σ H → Q (.ref D) H) : CompLoop (Its z) D g tc te Q σ0 H1 := by
  refine comp_gen (n := z.cps.size) (item := fun i => .str ⟨#[z.cps.getD i 0]⟩) Pv h0 hn (fun i ys σ H hi p => ⟨hi, fun x H' y => ?_⟩) (fun ys σ H p => Nat.le_refl _) hl (fun i ys σ H hi hD p => ?_) hd
  · obtain ⟨e, c, e1, e2⟩ := y
    refine ⟨e, ?_⟩
    rw [e2, Array.getD_eq_getD_getElem?, e1]; rfl
  · have e : z.cps[i]? = some (z.cps.getD i 0) := by rw [Array.getD_eq_getD_getElem?]; simp [hi]
    exact hs i _ ys σ H e hD p

/-! ### enumerate of a list, unpacked at once -/
def Ite (K : PySem.W.Frag) (a : Addr) : It :=
  ⟨fun i H => ∃ xs x, SqL K H a xs ∧ xs[i]? = some x, fun i H v H' => ∃ T, H T = none ∧ v = .ref T ∧ ∀ xs, SqL K H a xs → ∃ x, xs[i]? = some x ∧ H' = upd H T (.tup [.int i, x]), fun i H => ∃ xs, SqL K H a xs ∧ xs.length ≤ i⟩
theorem turn_enum {P : Program} {w : World} {K : PySem.W.Frag} {elts : List Expr} {k : Nat} {pos : Pos} (a e it : Addr) (hne : e ≠ it) : Turn P w K (.Tuple elts k pos) (Ite K a) [e, it] e (fun i h => (∃ old, IsEnum h e it i old) ∧ h.IsListIter it a i) where
  mem := by simp
  obj := fun i h st b hb => by
    obtain ⟨⟨old, he⟩, o, ho, c, d⟩ := st
    rcases List.mem_cons.mp hb with z | z
    · subst z
      exact ⟨_, he, fun v q => by
        have q' : Data.fields _ = Data.cell v := q
        cases q'⟩
    · have z' : b = it := by simpa using z
      subst z'
      exact ⟨o, ho, fun v q => by rw [d] at q; cases q⟩
  keep := fun i h h' st kk => by
    obtain ⟨⟨old, he⟩, hl⟩ := st
    exact ⟨⟨old, kk e (by simp) _ he⟩, hl.at fun o q => kk it (by simp) o q⟩
  item := by
    intro X hP hw hK hc i pins s σ H E I hf st hg
    subst hP hw hK
    obtain ⟨xs, x, hq, hx⟩ := hg
    obtain ⟨⟨old, he⟩, hl⟩ := st
    obtain ⟨its, rv, pl, hz⟩ := I.list hq
    obtain ⟨u, hu, ru⟩ := rv.get hx
    refine wpAny_pyNext_enum_item he hl pl.isList (x := u) (by simpa using hu) hne fun h' eo li tp hsz kk => ?_
    refine ⟨_, rfl, wpAny_letOwnedTupleGo_enum (s := { s with heap := h', toks := s.toks + 1 }) eo fun h2 en sb => ?_⟩
    have hTe : s.heap.objs.size ≠ e := Nat.ne_of_gt (Heap.lt_size he)
    have hs' : h2.get? s.heap.objs.size = some { cls := .type "tuple", data := .seq #[.int i s.toks, u] } := (sb.2 _ hTe).trans tp
    have kp : ∀ b ob, b ∉ [e, it] → s.heap.get? b = some ob → h2.get? b = some ob := fun b ob hb q => by
      have h1 : b ≠ e := fun z => hb (by simp [z])
      have h2' : b ≠ it := fun z => hb (by simp [z])
      exact (sb.2 b h1).trans (kk b ob h1 h2' q)
    have I2 : Inv X pins σ (upd H s.heap.objs.size (.tup [.int i, x])) { s with heap := h2, toks := s.toks + 1 } := I.turnLaid (o := .tup [.int i, x]) (t' := s.toks + 1) hf kp (Nat.le_refl _)
      ⟨by show 2 ≤ sizeLine; rw [sizeLine_eq]; decide, [.int i s.toks, u], .cons ⟨_, rfl⟩ (.cons ru .nil), ⟨_, hs', rfl, _, rfl⟩⟩
    refine ⟨.ref s.heap.objs.size, _, I2, rfl, ⟨_, I.fresh, rfl, fun ys hy => ⟨x, by rw [I.list_inj hy hq]; exact hx, rfl⟩⟩, ⟨⟨_, en⟩, li.extBut sb.extBut (Ne.symm hne)⟩, fun b hb => ?_⟩
    have hlt : b ≠ s.heap.objs.size := by
      obtain ⟨o, ho, _⟩ : ∃ o, s.heap.get? b = some o ∧ True := by
        rcases List.mem_cons.mp hb with z | z
        · subst z; exact ⟨_, he, trivial⟩
        · have z' : b = it := by simpa using z
          subst z'
          obtain ⟨o, ho, _⟩ := hl
          exact ⟨o, ho, trivial⟩
      exact Nat.ne_of_lt (Heap.lt_size ho)
    rw [upd_ne hlt]
    exact (hf b hb).1
  done := by
    intro X hP hw hK hc i pins s σ H E I hf st hg
    subst hP hw hK
    obtain ⟨xs, hq, hx⟩ := hg
    obtain ⟨⟨old, he⟩, hl⟩ := st
    obtain ⟨its, rv, pl, hz⟩ := I.list hq
    have hlen := rv.length
    exact wpAny_pyNext_enum_end (I.ok.hd hc) he hl pl.isList (by simp; omega) fun h' eb => ⟨rfl, I.turnedL (t' := s.toks) hf fun b ob hb q => eb b ob (fun z => hb (by simp [z])) q⟩
  self := fun A i s Q E st h => by
    obtain ⟨⟨old, he⟩, _⟩ := st
    exact wpAny_pyIter_enum he h
def iEnum (K : PySem.W.Frag) (ta : TA) : TI := fun σ H R => ta σ H fun vs H1 => ∃ a, vs = [.ref a] ∧ (∃ xs, SqL K H1 a xs) ∧ R (Ite K a) H1
theorem pi_enum {X : Cx} {elts : List Expr} {k : Nat} {tpos : Pos} {l : Expr} {ta : TA} {p pos : Pos} (hg : Gl X "enumerate") (hm : X.mg "enumerate" = none) (ha : PA X [l] ta) (hs : starEach [l] X.env = [(false, eval l X.env)] := by rfl) :
    PI X (.Tuple elts k tpos) (.Call (.Name "enumerate" p) [l] [] pos) (iEnum X.K ta) := by
  intro pins s σ H R I h
  refine Call_ (ld_blt I hg hm (show bootBuiltins "enumerate" = some (.type "enumerate") by decide +kernel) (PyProof.Rows.callWith_type1 (thn (ha pos pins s σ H _ I h) fun us s1 ⟨vs, H1, I1, r1, q1⟩ => ?_) hs rfl))
  obtain ⟨a, e, ⟨xs, hq⟩, q⟩ := q1
  subst e
  obtain ⟨u, rfl, ru⟩ := r1.one
  cases ru
  obtain ⟨its, rv, pl, hz⟩ := I1.list hq
  refine call_enumerate_list pl.isList fun h' en li hsz kk => ?_
  have hT : (Shared.mk h' s1.gens s1.drawn s1.toks s1.os).TypeIs (.ref (s1.heap.objs.size + 1)) "enumerate" := ⟨_, en, rfl⟩
  have I2 : Inv X pins σ H1 { s1 with heap := h' } := I1.kept (t' := s1.toks) kk
  have T := turn_enum (P := X.prog) (w := X.w) (K := X.K) (elts := elts) (k := k) (pos := tpos) a (s1.heap.objs.size + 1) s1.heap.objs.size (Nat.ne_of_gt (Nat.lt_succ_self _))
  refine T.self X.A 0 { s1 with heap := h' } _ _ ⟨⟨_, en⟩, li⟩ ⟨_, _, _, _, H1, rfl, I2, T, ⟨⟨_, en⟩, li⟩, fun b hb => ?_, q⟩
  have hb' : s1.heap.objs.size ≤ b := by
    rcases List.mem_cons.mp hb with z | z
    · subst z; exact Nat.le_succ _
    · have z' : b = s1.heap.objs.size := by simpa using z
      subst z'; exact Nat.le_refl _
  exact I1.fpOk hb' (I1.hok.fresh hb')
end L2
namespace L2
open PySem PySem.Spec PyProof.Rows
theorem ns_nocell {h : Heap} {a : Addr} {m : Str → Option Value} {o : Obj} (n : h.Ns a m) (e : h.get? a = some o) (v : Option Value) (ev : o.data = .cell v) : False := by
  obtain ⟨o', es, ep, ho, r⟩ := n
  rw [e] at ho
  cases ho
  have hd := r.1
  rw [ev] at hd
  cases hd
section
variable {X : Cx}
/-- x = [..], a comprehension's value that is stored ahead of its names' end -/
theorem ps_setC {i : Nat} {y : Str} {py spos : Pos} {elt tg iter : Expr} {ifs : List Expr} {scope : Scope} {own fr : List Str} {idx : List Nat} {wi : TI} {g : TG} {tc : TT} {te : TE} {pos : Pos} (hN : X.N.Nodup) (hiy : X.N[i]? = some y) (hly : Loc X.env.scope y) (hc : X.calm = true) (S : CompScope own fr scope X.env.scope)
    (hi : PI X tg iter wi) (hg : ∀ C s H pins fp, PG (compCx X scope C (own ++ fr) s H pins fp) tg g) (ht : ∀ C s H pins fp, PTs (compCx X scope C (own ++ fr) s H pins fp) ifs tc) (he : ∀ C s H pins fp, PE (compCx X scope C (own ++ fr) s H pins fp) elt te)
    (hix : idx.length = fr.length := by rfl) (hat : ∀ (k : Nat) (x : Str) (j : Nat), fr[k]? = some x → idx[k]? = some j → X.N[j]? = some x)
    (hs : ∀ x, foldedSetIterable iter X.env x = pure x := by intro _; rfl) (hf : X.fn y = true ∨ X.env.scope.names.lookup y = some .local := by first | exact .inl rfl | exact .inr rfl)
    (hsw : swapsWith (.ListComp elt [⟨tg, iter, ifs, 0⟩] scope pos) (some (.Name y py)) spos.line X.env = pure true := by rfl) : PS X (.Assign [.Name y py] (.ListComp elt [⟨tg, iter, ifs, 0⟩] scope pos) spos) (tAsg (tComp wi own.length idx g tc te) (gName i)) := by
  intro pins s σ H Dn I h
  rw [exec_Assign_Name_used _ _ _ _ hsw]
  refine wpAny_bind (wpAny_standAt (wpAny_bind ?_))
  show wpAny _ X.A (do let _ ← comprehension (.ListComp elt [⟨tg, iter, ifs, 0⟩] scope pos) scope X.env _ (newList []) false (eval iter X.env) (some (assign (.Name y py) X.env))) _ _ s
  have hclos : closureFor scope X.env = pure (closL X.env scope.names []) := clos_eq fun x hx hfree => I.ok.has x.1 (S.outs x hx hfree)
  refine wpAny_bind (wpAny_mono (wpAny_comprehension_free (use := some (assign (.Name y py) X.env)) (Q := fun _ s' => SP X pins Dn .next s') rfl hs hclos S.kind S.names (thn (hi pins s σ H _ I h) fun v s1 h1 => thn h1 fun itv s2 h2 => ?_)) (fun _ s' hq => wpAny_pure (wpAny_pure hq)) fun _ _ e => e)
  obtain ⟨it, fp, tn, J, H2, e, I2, T, st2, f2, h2⟩ := h2
  subst e
  refine wpAny_newObj_type ?_
  obtain ⟨W, ⟨m0, w0⟩, turn⟩ := h2 s2.heap.objs.size I2.fresh
  have I3 : Inv X pins σ (upd H2 s2.heap.objs.size (.lst [])) { s2 with heap := s2.heap.push { cls := .type "list", data := .seq ([] : List Value).toArray }, toks := s2.toks } := I2.lnew .nil (Nat.zero_le _)
  have fpl : ∀ b ∈ fp, b < s2.heap.objs.size := fun b hb => by
    obtain ⟨o, e, _⟩ := T.obj _ _ st2 b hb
    exact Heap.lt_size e
  have f3 : ∀ b ∈ fp, FpOk X pins (upd H2 s2.heap.objs.size (.lst [])) b := fun b hb => ⟨by rw [upd_ne (Nat.ne_of_lt (fpl b hb))]; exact (f2 b hb).1, (f2 b hb).2⟩
  generalize hs3 : ({ s2 with heap := s2.heap.push { cls := .type "list", data := .seq ([] : List Value).toArray }, toks := s2.toks } : Shared) = s3 at I3
  have hsz : s3.heap.objs.size = s2.heap.objs.size + 1 := by rw [← hs3]; exact Heap.size_push _ _
  have st3 : tn 0 s3.heap := T.keep _ _ _ st2 fun b hb o e => by rw [← hs3]; exact Heap.get?_push_of_some _ e
  refine wpAny_newFunctionEnv S.nocell (by intro y hy; simp at hy) (fun h4 hn4 hsb4 => ?_) S.kind
  have hk4 : ∀ b o, s3.heap.get? b = some o → h4.get? b = some o := fun b o e => hsb4.extBut b o (Nat.ne_of_lt (Heap.lt_size e)) (Heap.get?_push_of_some _ e)
  have I4 := comp_start (idx := idx) (tk := s3.toks + ([] : List (Str × Value)).length) S hix hat I3 f3 (fun b hb => by rw [hsz]; exact Nat.lt_succ_of_lt (fpl b hb)) hn4 hk4
  have fpC : ∀ {H' : Hp} (pl : List (Addr × Obj)), (∀ p ∈ pl, ∀ b ∈ fp, p.1 ≠ b) → (∀ b ∈ fp, H' b = none) → ∀ b ∈ fp, FpOk (compCx X scope s3.heap.objs.size (own ++ fr) s3 (upd H2 s2.heap.objs.size (.lst [])) pins fp) pl H' b := fun {H'} pl hpl hn b hb => by
    obtain ⟨g0, g1, g2, g3, g4, g5⟩ := f3 b hb
    refine ⟨hn b hb, ?_, fun z => ?_, .inl hb, fun x c e => g4 x c ((closL_sub _ _ x c e).elim id fun z => nomatch z), fun p hp => ?_⟩
    · show b ≠ s3.heap.objs.size
      exact Nat.ne_of_lt (by rw [hsz]; exact Nat.lt_succ_of_lt (fpl b hb))
    · rcases List.mem_cons.mp (I3.stkSub b z) with q | q
      · exact g1 q
      · exact g2 q
    · rcases List.mem_append.mp hp with q | q
      · exact g5 p q
      · exact hpl p q b hb
  have loop : codeAny (model X.prog X.w) X.A (.compLoop (.ListComp elt [⟨tg, iter, ifs, 0⟩] scope pos) 0 (.ref it) (.ref s2.heap.objs.size) (compEnvC scope (closL X.env scope.names []) s3.heap.objs.size X.env))
      (compPost (model X.prog X.w) X.A X.xe (some (assign (.Name y py) X.env)) (fun _ s' => SP X pins Dn .next s') (.ref s2.heap.objs.size) s3.heap.objs.size) { s3 with heap := h4, toks := s3.toks + ([] : List (Str × Value)).length } := by
    refine comp_core (Y := compCx X scope s3.heap.objs.size (own ++ fr) s3 (upd H2 s2.heap.objs.size (.lst [])) pins fp) (W := W) (m0 := m0) hc (hg _ _ _ _ _) (ht _ _ _ _ _) (he _ _ _ _ _) (fun _ _ z => z) T (fun hn => fpC [] (fun _ z => nomatch z) hn) turn (fun s6 σ5 H5 I6 q => ?_) ⟨0, [], _, _, I4, T.keep _ _ _ st3 fun b _ o e => hk4 b o e, fun b hb => (f3 b hb).1, upd_same, w0⟩
    obtain ⟨m6, hn6, _⟩ := id I6.loc
    have hn6' : s6.heap.Ns s3.heap.objs.size m6 := hn6
    obtain ⟨oC, es, ep, hoC, hrest⟩ := id hn6'
    have I7 : Inv X pins σ H5 s6 := comp_back (h' := s6.heap) I3 f3 I6 (Heap.SameBut.refl ..)
    have hfree : H5 s3.heap.objs.size = none := I6.free
    have I8 : Inv X (pins ++ [(s3.heap.objs.size, oC)]) σ H5 s6 := I7.pins_of fun p hp => (List.mem_append.mp hp).elim (fun z => I7.pin p (List.mem_append_right _ z)) fun z => by
      have e : p = (s3.heap.objs.size, oC) := List.mem_singleton.mp z
      subst e
      exact ⟨hoC, hfree, Nat.ne_of_gt I3.lt, I3.nofs (Nat.le_refl _), fun v ev => ns_nocell hn6' hoC v ev⟩
    refine thn (pg_name (pos := py) hN hiy hly hf _ s6 σ H5 (.ref s2.heap.objs.size) (.ref s2.heap.objs.size) _ I8 rfl q) fun _ s9 ⟨σ9, H9, I9, q9⟩ => ?_
    have hp9 := I9.pin (s3.heap.objs.size, oC) (List.mem_append_right _ (List.mem_append_right _ (List.mem_singleton.mpr rfl)))
    refine ⟨m6, hn6'.at' fun o e => ?_, fun h' hsb => ?_⟩
    · rw [hoC] at e
      cases e
      exact hp9.1
    · refine ⟨σ9, H9, I9.unpinned.turnedL (ch := [s3.heap.objs.size]) (t' := s9.toks) (fun b hb => ?_) fun b ob hb e => ?_, q9⟩
      · rw [List.mem_singleton.mp hb]
        exact I3.fpOk (Nat.le_refl _) hp9.2.1
      · exact hsb.extBut b ob (fun z => hb (List.mem_singleton.mpr z)) e
  exact codeAny_compStart_list loop (T.self _ 0 _ _ _ (T.keep _ _ _ st3 fun b _ o e => hk4 b o e) loop)
end
end L2
namespace L2
open PySem PySem.Spec PyProof.Rows
/-! ### a, b, .. = a list -/
section
variable {prog : Program} {w : World} {A : Around} {E : Value → Shared → Prop}
end
section
variable {X : Cx} {pos : Pos}
/-! ### all of a list of truths -/
theorem all_getD : ∀ bs : List Bool, (List.range bs.length).all (fun i => bs.getD i true) = bs.all id
  | [] => rfl
  | b :: r => by
    rw [List.length_cons, List.range_succ_eq_map, List.all_cons, List.all_map, List.all_cons]
    have ih := all_getD r
    have e : ((fun i => (b :: r).getD i true) ∘ Nat.succ) = fun i => r.getD i true := by
      funext i
      simp
    rw [e, ih]
    rfl
theorem call_allB (hc : X.calm = true) : CallR X (.builtin "all") (fun xs H Q => ∃ (p : Addr) (bs : List Bool), xs = [.ref p] ∧ SqL X.K H p (bs.map V.bl) ∧ Q (.bl (bs.all id)) H) := by
  intro pins s σ H xs us Q I r h
  obtain ⟨p, bs, rfl, hq, q⟩ := h
  obtain ⟨u, rfl, ru⟩ := r.one
  cases ru
  obtain ⟨its, rv, pl, hz⟩ := I.list hq
  have hp : p < s.heap.objs.size := by
    obtain ⟨o, ho, _⟩ := pl.isList
    exact Heap.lt_size ho
  have hlen : its.toArray.size = bs.length := by rw [List.size_toArray, ← rv.length, List.length_map]
  refine call_all_walk (wpAny_pyIter_list pl.isList ⟨s.heap.objs.size, _, _, its.toArray.size, _, _, fun i => bs.getD i true, rfl, Walks.list (show X.A.in1.handled = none from I.ok.hd hc) _ p (Nat.ne_of_lt hp) its.toArray, ⟨⟨_, Heap.get?_push_size _ rfl, rfl, rfl⟩, pl.isList.push _⟩, ?_, ?_⟩)
  · intro i v s' Q' E' hP hQ'
    have hv : its[i]? = some v := by simpa using hP
    have hi : i < its.length := (List.getElem?_eq_some_iff.mp hv).1
    have hi2 : i < bs.length := by rw [← hlen]; simpa using hi
    obtain ⟨u, hu, ru⟩ := rv.get (i := i) (x := V.bl bs[i]) (by rw [List.getElem?_map, List.getElem?_eq_getElem hi2]; rfl)
    rw [hv] at hu
    cases hu
    have e : v = Value.bool bs[i] := ru
    subst e
    refine wpAny_truthy_bool ?_
    have e2 : bs.getD i true = bs[i] := by rw [List.getD_eq_getElem?_getD, List.getElem?_eq_getElem hi2]; rfl
    have hQ2 : Q' (bs.getD i true) s' := hQ'
    rw [e2] at hQ2
    exact hQ2
  · intro h' tk hk
    have I1 : Inv X pins σ H { s with heap := h', toks := tk } := I.kept fun b o e => hk b o (fun z => by
      have z' : b = s.heap.objs.size := by simpa using z
      exact absurd (Heap.lt_size e) (by rw [z']; exact Nat.lt_irrefl _)) (Heap.get?_push_of_some _ e)
    have e : (List.range its.toArray.size).all (fun i => bs.getD i true) = bs.all id := by
      rw [hlen]
      exact all_getD bs
    exact ⟨.bl (bs.all id), H, I1, by rw [e]; rfl, q⟩
end
end L2
namespace L2
open PySem PySem.Spec PyProof.Rows
section
variable {X : Cx}
theorem strs_vals : ∀ {zs : List Str} {us : List Value}, Vals (zs.map V.str) us → StrsAre us zs
  | [], _, .nil => .nil
  | _ :: _, _, .cons ⟨t, e⟩ r => by
    subst e
    exact .cons _ t (strs_vals r)
theorem vals_strs {us : List Value} {zs : List Str} (h : StrsAre us zs) : Vals (zs.map V.str) us := by
  induction h with
  | nil => exact .nil
  | cons _ t r ih => exact .cons ⟨t, rfl⟩ ih
end
end L2
namespace L2
open PySem PySem.Spec PyProof.Rows
section
variable {M : Model} {A : Around} {E : Value → Shared → Prop} {s : Shared}
theorem wpAny_choose {src : Source} {n : Nat} {Q : Nat → Shared → Prop} (hn : n ≠ 0) (h : ∀ i, i < n → ∀ d, Q i { s with drawn := d }) : wpAny M A (choose src n) Q E s := by
  intro Γ p hc
  exact ⟨hn, h _ (Nat.mod_lt _ (Nat.pos_of_ne_zero hn)) _⟩
theorem perm_eraseAt {α : Type} : ∀ (l : List α) (i : Nat) (h : i < l.length), (l[i] :: l.eraseIdx i).Perm l
  | _ :: _, 0, _ => .refl _
  | x :: xs, i + 1, h => by
    simp only [List.getElem_cons_succ, List.eraseIdx_cons_succ]
    exact (List.Perm.swap x _ _).trans (.cons x (perm_eraseAt xs i (by simpa using h)))
theorem wpAny_drawOrder {α : Type} : ∀ (n : Nat) (xs : List α) {Q : List α → Shared → Prop} {s : Shared}, n = xs.length → (∀ ys d, ys.Perm xs → Q ys { s with drawn := d }) → wpAny M A (drawOrder n xs) Q E s
  | 0, xs, Q, s, e, h => by
    have : xs = [] := List.length_eq_zero_iff.mp e.symm
    subst this
    exact wpAny_pure (h [] s.drawn .nil)
  | n + 1, [], Q, s, e, h => by cases e
  | n + 1, x :: xs, Q, s, e, h => by
    refine wpAny_bind (wpAny_choose (by simp) fun i hi d => ?_)
    have hg : (x :: xs)[i]? = some ((x :: xs)[i]) := List.getElem?_eq_getElem hi
    rw [hg]
    refine wpAny_bind (wpAny_drawOrder n _ (by rw [List.length_eraseIdx_of_lt hi]; simp at e ⊢; omega) fun ys d' hp => wpAny_pure (h _ _ ?_))
    exact (List.Perm.cons _ hp).trans (perm_eraseAt _ _ hi)
end
end L2
namespace L2
open PySem PySem.Spec PyProof.Rows
section
variable {P : Program} {w : World} {A : Around} {E : Value → Shared → Prop} {s : Shared}
/-- a set of texts, zs in any order; by the flags its walk is drawn where it has two and more -/
def SetS (P : Program) (w : World) (led : Bool) (h : Heap) (a : Addr) (zs : List Str) : Prop :=
  ∃ o es ep t, h.get? a = some o ∧ o.ExactSet ∧ o.data = .set es ep t ∧ ElemsOf (mixKind P w) es.toList ∧ (∃ us : List Value, (es.toList.map (·.2)).Perm us ∧ StrsAre us zs) ∧ zs.Nodup
    ∧ es.size < scanBound ∧ t.fits es.size = true ∧ t.led = led ∧ (1 ≤ es.size → t.plain = false)
theorem strs_length : ∀ {us : List Value} {zs : List Str}, StrsAre us zs → us.length = zs.length
  | _, _, .nil => rfl
  | _, _, .cons _ _ r => congrArg (· + 1) (strs_length r)
end
end L2
namespace L2
open PySem PySem.Spec PyProof.Rows
/-- how the world has sets led -/
abbrev led0 (w : World) : Bool := !(w.params.followText "set-order")
abbrev setO (w : World) : Obj := { cls := .type "set", dict := none, data := .set #[] 0 (.fresh 0 0 (led0 w)) }
section
variable {P : Program} {w : World} {A : Around} {E : Value → Shared → Prop} {s : Shared}
theorem set_new_led {rest : List Value} {Q₁ : Value → Shared → Prop} (hc : checkBuiltinCall "set.__new__" ⟨.type "set" :: rest, []⟩ = pure ())
    (h : Q₁ (.ref s.heap.objs.size) { s with heap := s.heap.push (setO w) }) : codeAny (model P w) A (.call (.builtin "set.__new__") ⟨.type "set" :: rest, []⟩) (wants Q₁ E) s := by
  refine codeAny_of_tree (show wpAny _ A.in1 (do checkBuiltinCall "set.__new__" ⟨.type "set" :: rest, []⟩; again (.builtin "set.__new__" ⟨.type "set" :: rest, []⟩)) _ _ s from ?_)
  refine wpAny_bind (wpAny_of_eq hc (wpAny_pure ⟨plainId_quiet PySem.F.plain_set_new _, codeAny_builtin PySem.F.entry_set_new ?_⟩))
  rw [PySem.Around.under_plainId PySem.F.plain_set_new _]
  have hsub := PySem.sub_set_self
  obtain ⟨hp, g, d, tk, os⟩ := s
  unfold Builtin.«set.__new__»
  unfold Builtin.Frozenset.newClass
  dsimp only
  wp_walk
  refine wpAny_askSetting (wpAny_pure ?_)
  simp only [newObj]
  exact wpAny_bind (wpAny_alloc (wpAny_pure (wpAny_pure h)))
/-- the texts of a list, each where it comes up first -/
def firstS (l : List Str) : List Str := l.foldl (fun σ v => if v ∈ σ then σ else σ ++ [v]) []
variable {R : Result → Shared → Prop} {I : Addr} {fp wr : List Addr} {G : Array GenState → Array GenState → Prop} {n : Nat} {Pv : Nat → Value → Prop} {St : Nat → Shared → Prop}
end
end L2
namespace L2
open PySem PySem.Spec PyProof.Rows
section
variable {P : Program} {w : World} {A : Around} {E : Value → Shared → Prop} {s : Shared}
end
end L2
namespace L2
open PySem PySem.Spec PyProof.Rows
namespace F
theorem entry_set_iter : entryFor table "set.__iter__" = some Builtin.«frozenset.__iter__» := entryFor_alias (id' := "frozenset.__iter__") (by kernel_rfl) (by first | rfl | decide +kernel) (by decide +kernel) (by kernel_rfl)
theorem slot_setit_next : Slot "set_iterator" "__next__" "set_iterator.__next__" :=
  .of (owner := "set_iterator") (n := "__next__") (by rw [typeLookup_type, builtinLookup_eq_fast]; kernel_rfl) (by decide +kernel) (by decide +kernel) (by decide +kernel)
    (by first | exact .inl (by decide +kernel) | exact .inr (by decide +kernel)) (by rw [isSubtype_type]; kernel_rfl)
theorem entry_setit_next : entryFor table "set_iterator.__next__" = some Builtin.«set_iterator.__next__» := entryFor_of_tree (by kernel_rfl)
theorem args_setit_next (a : Value) : argsOk "set_iterator.__next__" ⟨[a], []⟩ := by unfold argsOk; kernel_rfl
end F
section
variable {P : Program} {w : World} {A : Around} {E : Value → Shared → Prop} {s : Shared}
abbrev setItO (f : Value) (i : Nat) (S : Addr) (n ep : Nat) : Obj := { cls := .type "set_iterator", data := .fields #[f, rawInt i, .ref S, rawInt n, rawInt ep] }
theorem drawn_eq {S : Addr} {o : Obj} {es : Array (Int × Value)} {ep : Nat} {t : SetTable} {Q : Bool → Shared → Prop} (ho : s.heap.get? S = some o) (hd : o.data = .set es ep t) (hf : t.fits es.size = true)
    (h : Q (!(w.params.followText "set-order") && (!t.plain && decide (es.size > 1))) s) : wpAny (model P w) A (setDrawn S) Q E s := by
  unfold setDrawn
  refine wpAny_bind (wpAny_setState_of ho hd hf ?_)
  refine wpAny_bind (wpAny_bind (wpAny_askSetting (wpAny_pure ?_)))
  exact wpAny_pure h
theorem iter_set {S : Addr} {o : Obj} {es : Array (Int × Value)} {ep : Nat} {t : SetTable} {Q : Value → Shared → Prop} (ho : s.heap.get? S = some o) (hex : o.ExactSet) (hd : o.data = .set es ep t) (hf : t.fits es.size = true) (hb : es.size < scanBound)
    (h1 : (!(w.params.followText "set-order") && (!t.plain && decide (es.size > 1))) = false → Q (.ref s.heap.objs.size) { s with heap := s.heap.push (setItO (rawInt 0) 0 S es.size ep) })
    (h2 : (!(w.params.followText "set-order") && (!t.plain && decide (es.size > 1))) = true → ∀ (ps : List Nat) (d : Drawn), ps.Perm (List.range es.size) →
      Q (.ref (s.heap.objs.size + 1)) { s with drawn := d, heap := (s.heap.push { cls := .type "tuple", data := .seq (ps.map fun i : Nat => rawInt i).toArray }).push (setItO (.ref s.heap.objs.size) 0 S es.size ep) }) :
    wpAny (model P w) A (pyIter (.ref S)) Q E s := by
  have hT : s.TypeIs (.ref S) "set" := ⟨o, ho, hex.1⟩
  refine wpAny_pyIter_slot hT PySem.F.slot_set_iter (wpAny_call_entry PySem.F.slot_set_iter hT F.entry_set_iter ?_ (PySem.F.args_set_iter_1 _))
  unfold Builtin.«frozenset.__iter__»
  refine wpAny_bind (show wpAny _ _ (pure S) _ _ _ from wpAny_pure ?_)
  refine wpAny_bind (show wpAny _ _ (setEntries S >>= fun e => pure e.size) _ _ _ from wpAny_bind (show wpAny _ _ (setState S >>= fun e => pure e.1) _ _ _ from wpAny_bind (wpAny_setState_of ho hd hf (wpAny_pure (wpAny_pure ?_)))))
  refine wpAny_bind (drawn_eq ho hd hf ?_)
  cases hq : (!(w.params.followText "set-order") && (!t.plain && decide (es.size > 1)))
  · rw [if_neg (fun z => nomatch z)]
    refine wpAny_bind (wpAny_pure (wpAny_bind (wpAny_setEpoch_of ho hd hf ?_)))
    exact wpAny_bind (wpAny_newObj_type (wpAny_pure ⟨_, rfl, "set_iterator", _, ⟨_, Heap.get?_push_size _ rfl, rfl⟩, F.slot_setit_next.lookup, h1 hq⟩))
  · rw [if_pos rfl]
    refine wpAny_bind (wpAny_drawOrder _ _ (by rw [List.length_range]) fun ps d hp => ?_)
    have hz : (ps.map fun i : Nat => rawInt i).length ≤ sizeLine := by
      rw [List.length_map, hp.length_eq, List.length_range]
      exact fits_of_scanBound hb
    refine wpAny_bind (wpAny_newTuple (wpAny_bind (wpAny_setEpoch_of (Heap.get?_push_of_some _ ho) hd hf ?_)) hz)
    refine wpAny_bind (wpAny_newObj_type (wpAny_pure ⟨_, rfl, "set_iterator", _, ⟨_, Heap.get?_push_size _ rfl, rfl⟩, F.slot_setit_next.lookup, ?_⟩))
    have e : (s.heap.push { cls := .type "tuple", data := .seq (ps.map fun i : Nat => rawInt i).toArray }).objs.size = s.heap.objs.size + 1 := Heap.size_push _ _
    rw [e]
    exact h2 hq ps d hp
end
end L2
namespace L2
open PySem PySem.Spec PyProof.Rows
section
variable {P : Program} {w : World} {A : Around} {E : Value → Shared → Prop} {s : Shared} {I S T : Addr} {i ep : Nat} {es : Array (Int × Value)} {t : SetTable} {o : Obj}
theorem setEntries_of {Q : Array (Int × Value) → Shared → Prop} (ho : s.heap.get? S = some o) (hd : o.data = .set es ep t) (hf : t.fits es.size = true) (h : Q es s) : wpAny (model P w) A (setEntries S) Q E s := by
  unfold setEntries
  exact wpAny_bind (wpAny_setState_of ho hd hf (wpAny_pure h))
theorem next_drawn {places : Array Value} {p : Nat} {pk : Tok} {hx : Int} {x : Value} {n : Nat} {Q : Option Value → Shared → Prop} (hit : s.heap.get? I = some (setItO (.ref T) i S es.size ep)) (ho : s.heap.get? S = some o) (hd : o.data = .set es ep t) (hf : t.fits es.size = true)
    (hT : s.heap.get? T = some { cls := .type "tuple", data := .seq places n }) (hp : places[i]? = some (.int p pk)) (he : es[p]? = some (hx, x))
    (h : ∀ h', h'.get? I = some (setItO (.ref T) (i + 1) S es.size ep) → Heap.SameBut I s.heap h' → Q (some x) { s with heap := h' }) : wpAny (model P w) A (pyNext (.ref I)) Q E s := by
  have hTy : s.TypeIs (.ref I) "set_iterator" := ⟨_, hit, rfl⟩
  unfold pyNext
  refine wpAny_bind (wpAny_attempt (wpAny_callSpecial?_slot (name := Str.ofString "__next__") hTy F.slot_setit_next (wpAny_call_entry F.slot_setit_next hTy F.entry_setit_next ?_ (F.args_setit_next _))))
  unfold Builtin.«set_iterator.__next__»
  refine wpAny_bind (wpAny_pure (wpAny_bind (show wpAny _ _ (fieldsOf (.ref I)) _ _ _ from wpAny_fieldsOf hit rfl ?_)))
  refine (show wpAny _ _ (setEntries S >>= _) _ _ _ from wpAny_bind (setEntries_of ho hd hf ?_))
  rw [if_neg (by simp)]
  refine (show wpAny _ _ (seqItems? (.ref T) >>= _) _ _ _ from wpAny_bind (wpAny_seqItems hT rfl ?_))
  simp only [Int.toNat_natCast, hp]
  refine wpAny_bind (show wpAny _ _ (setState S >>= _) _ _ _ from wpAny_bind (wpAny_setState_of ho hd hf ?_))
  dsimp only
  rw [if_neg (by simp), he]
  exact wpAny_pure (wpAny_bind (wpAny_setField hit rfl (by simp) (wpAny_pure ⟨x, rfl, wpAny_pure (h _ (Heap.get?_update_self _ hit rfl) (Heap.SameBut.update ..))⟩)))
theorem next_drawn_end {places : Array Value} {n : Nat} {Q : Option Value → Shared → Prop} (hh : A.handled = none) (hit : s.heap.get? I = some (setItO (.ref T) i S es.size ep)) (ho : s.heap.get? S = some o) (hd : o.data = .set es ep t) (hf : t.fits es.size = true)
    (hT : s.heap.get? T = some { cls := .type "tuple", data := .seq places n }) (hp : places[i]? = none)
    (h : ∀ h', Heap.ExtBut I s.heap h' → Q none { s with heap := h' }) : wpAny (model P w) A (pyNext (.ref I)) Q E s := by
  have hTy : s.TypeIs (.ref I) "set_iterator" := ⟨_, hit, rfl⟩
  unfold pyNext
  refine wpAny_bind (wpAny_attempt (wpAny_callSpecial?_slot (name := Str.ofString "__next__") hTy F.slot_setit_next (wpAny_call_entry F.slot_setit_next hTy F.entry_setit_next ?_ (F.args_setit_next _))))
  unfold Builtin.«set_iterator.__next__»
  refine wpAny_bind (wpAny_pure (wpAny_bind (show wpAny _ _ (fieldsOf (.ref I)) _ _ _ from wpAny_fieldsOf hit rfl ?_)))
  refine (show wpAny _ _ (setEntries S >>= _) _ _ _ from wpAny_bind (setEntries_of ho hd hf ?_))
  rw [if_neg (by simp)]
  refine (show wpAny _ _ (seqItems? (.ref T) >>= _) _ _ _ from wpAny_bind (wpAny_seqItems hT rfl ?_))
  simp only [Int.toNat_natCast, hp]
  refine wpAny_bind (wpAny_setField hit rfl (by simp) (wpAny_bind (wpAny_setField (Heap.get?_update_self _ hit rfl) rfl (by simp) ?_)))
  refine (show wpAny _ _ (newExc (.type "StopIteration") [] >>= _) _ _ _ from wpAny_bind ?_)
  simp only [newExc, newTuple]
  refine wpAny_bind (wpAny_newObj_type (wpAny_bind (m := firstArgMember _ _) (wpAny_of_eq (a := Value.none) (by first | rfl | (simp only [firstArgMember]; rfl)) (wpAny_newObj_type ?_ (by size_fits)))) (by size_fits))
  simp only [raiseNew]
  refine wpAny_bind (wpAny_handled ?_)
  rw [show A.in1.handled = none from hh]
  refine wpAny_bind (wpAny_pure (wpAny_throw ?_))
  refine wpAny_bind (wpAny_isInstance (T := "StopIteration") (b := true) ⟨_, Heap.get?_push_size _ rfl, rfl⟩ isSubtype_stop ?_)
  refine wpAny_pure (h _ ?_)
  exact ((((Heap.SameBut.update ..).trans (Heap.SameBut.update ..)).extBut.push _).push _)
/-- what the walk of a set that isn't drawn tells next -/
def Nxt (P : Program) (w : World) (o : Obj) (S : Addr) (sl i ep : Nat) (r : Option (Value × Nat)) : Prop :=
  ∀ (A : Around) (E : Value → Shared → Prop) (s : Shared) (Q : Option (Value × Nat) → Shared → Prop), s.heap.get? S = some o → Q r s → wpAny (model P w) A (setNext S sl i ep) Q E s
theorem next_led {sl sl' : Nat} {x : Value} {Q : Option Value → Shared → Prop} (hit : s.heap.get? I = some (setItO (rawInt sl) i S es.size ep)) (ho : s.heap.get? S = some o) (hd : o.data = .set es ep t) (hf : t.fits es.size = true)
    (hx : Nxt P w o S sl i ep (some (x, sl')))
    (h : ∀ h', h'.get? I = some (setItO (rawInt sl') (i + 1) S es.size ep) → Heap.SameBut I s.heap h' → Q (some x) { s with heap := h' }) : wpAny (model P w) A (pyNext (.ref I)) Q E s := by
  have hTy : s.TypeIs (.ref I) "set_iterator" := ⟨_, hit, rfl⟩
  unfold pyNext
  refine wpAny_bind (wpAny_attempt (wpAny_callSpecial?_slot (name := Str.ofString "__next__") hTy F.slot_setit_next (wpAny_call_entry F.slot_setit_next hTy F.entry_setit_next ?_ (F.args_setit_next _))))
  unfold Builtin.«set_iterator.__next__»
  refine wpAny_bind (wpAny_pure (wpAny_bind (show wpAny _ _ (fieldsOf (.ref I)) _ _ _ from wpAny_fieldsOf hit rfl ?_)))
  refine (show wpAny _ _ (setEntries S >>= _) _ _ _ from wpAny_bind (setEntries_of ho hd hf ?_))
  rw [if_neg (by simp)]
  refine (show wpAny _ _ (setNext S (Int.toNat sl) (Int.toNat i) (Int.toNat ep) >>= _) _ _ _ from wpAny_bind ?_)
  rw [Int.toNat_natCast, Int.toNat_natCast, Int.toNat_natCast]
  refine hx _ _ _ _ ho ?_
  refine wpAny_bind (wpAny_setField hit rfl (by simp) (wpAny_bind (wpAny_setField (Heap.get?_update_self _ hit rfl) rfl (by simp) (wpAny_pure ⟨x, rfl, wpAny_pure (h _ (Heap.get?_update_self _ (Heap.get?_update_self _ hit rfl) rfl) ((Heap.SameBut.update ..).trans (Heap.SameBut.update ..)))⟩))))
theorem next_led_end {sl : Nat} {Q : Option Value → Shared → Prop} (hh : A.handled = none) (hit : s.heap.get? I = some (setItO (rawInt sl) i S es.size ep)) (ho : s.heap.get? S = some o) (hd : o.data = .set es ep t) (hf : t.fits es.size = true)
    (hx : Nxt P w o S sl i ep none) (h : ∀ h', Heap.ExtBut I s.heap h' → Q none { s with heap := h' }) : wpAny (model P w) A (pyNext (.ref I)) Q E s := by
  have hTy : s.TypeIs (.ref I) "set_iterator" := ⟨_, hit, rfl⟩
  unfold pyNext
  refine wpAny_bind (wpAny_attempt (wpAny_callSpecial?_slot (name := Str.ofString "__next__") hTy F.slot_setit_next (wpAny_call_entry F.slot_setit_next hTy F.entry_setit_next ?_ (F.args_setit_next _))))
  unfold Builtin.«set_iterator.__next__»
  refine wpAny_bind (wpAny_pure (wpAny_bind (show wpAny _ _ (fieldsOf (.ref I)) _ _ _ from wpAny_fieldsOf hit rfl ?_)))
  refine (show wpAny _ _ (setEntries S >>= _) _ _ _ from wpAny_bind (setEntries_of ho hd hf ?_))
  rw [if_neg (by simp)]
  refine (show wpAny _ _ (setNext S (Int.toNat sl) (Int.toNat i) (Int.toNat ep) >>= _) _ _ _ from wpAny_bind ?_)
  rw [Int.toNat_natCast, Int.toNat_natCast, Int.toNat_natCast]
  refine hx _ _ _ _ ho ?_
  refine wpAny_bind (wpAny_setField hit rfl (by simp) ?_)
  refine (show wpAny _ _ (newExc (.type "StopIteration") [] >>= _) _ _ _ from wpAny_bind ?_)
  simp only [newExc, newTuple]
  refine wpAny_bind (wpAny_newObj_type (wpAny_bind (m := firstArgMember _ _) (wpAny_of_eq (a := Value.none) (by first | rfl | (simp only [firstArgMember]; rfl)) (wpAny_newObj_type ?_ (by size_fits)))) (by size_fits))
  simp only [raiseNew]
  refine wpAny_bind (wpAny_handled ?_)
  rw [show A.in1.handled = none from hh]
  refine wpAny_bind (wpAny_pure (wpAny_throw ?_))
  refine wpAny_bind (wpAny_isInstance (T := "StopIteration") (b := true) ⟨_, Heap.get?_push_size _ rfl, rfl⟩ isSubtype_stop ?_)
  refine wpAny_pure (h _ ?_)
  exact (((Heap.SameBut.update ..).extBut.push _).push _)
end
end L2
namespace L2
open PySem PySem.Spec PyProof.Rows
theorem pick_go {α : Type} (f : Nat → Nat) : ∀ (fuel k : Nat) (left : List α) (out : Array α), left.length = fuel → (pickOrder.go f fuel k left out).toList.Perm (out.toList ++ left)
  | 0, _, left, out, e => by
    obtain rfl : left = [] := List.length_eq_zero_iff.mp e
    rw [List.append_nil]
    exact .refl _
  | fuel + 1, k, left, out, e => by
    have hi : f k % left.length < left.length := Nat.mod_lt _ (by omega)
    unfold pickOrder.go
    rw [List.getElem?_eq_getElem hi]
    refine (pick_go f fuel (k + 1) _ _ (by rw [List.length_eraseIdx_of_lt hi]; omega)).trans ?_
    rw [Array.toList_push, List.append_assoc]
    exact List.Perm.append_left _ (perm_eraseAt left _ hi)
theorem pick_perm {α : Type} (f : Nat → Nat) (xs : Array α) : (pickOrder f xs).toList.Perm xs.toList := by
  have q := pick_go f xs.size 0 xs.toList #[] (by rw [Array.length_toList])
  exact q
section
variable {P : Program} {w : World} {A : Around} {E : Value → Shared → Prop} {s : Shared} {I S T : Addr} {i ep : Nat} {es : Array (Int × Value)} {t : SetTable} {o : Obj}
theorem nxt_text {sl i : Nat} (hw : w.params.followText "set-order" = true) (hd : o.data = .set es ep t) (hf : t.fits es.size = true) :
    Nxt P w o S sl i ep (((pickOrder (w.params.setOrder S ep) es)[i]?).map fun e => (e.2, sl)) := by
  intro A E s Q ho q
  unfold setNext
  refine wpAny_bind (wpAny_setState_of ho hd hf ?_)
  refine wpAny_bind (show wpAny _ _ (ask >>= fun a => pure (a.params.followText "set-order")) _ _ _ from wpAny_bind (wpAny_askSetting (wpAny_pure ?_)))
  dsimp only
  rw [if_pos (show (model P w).w.params.followText "set-order" = true from hw), if_neg (by simp)]
  refine wpAny_bind ?_
  unfold setWalk
  refine wpAny_bind (wpAny_setState_of ho hd hf ?_)
  refine wpAny_bind (show wpAny _ _ (ask >>= fun a => pure (a.params.followText "set-order")) _ _ _ from wpAny_bind (wpAny_askSetting (wpAny_pure ?_)))
  rw [if_pos (show (model P w).w.params.followText "set-order" = true from hw)]
  refine wpAny_bind (wpAny_askSetting (wpAny_pure ?_))
  exact wpAny_pure q
/-- a walk that is told by an oracle: us, in this order -/
structure Led (P : Program) (w : World) (o : Obj) (S : Addr) (ep : Nat) (us : List Value) (sl : Nat → Nat) : Prop where
  item : ∀ i x, us[i]? = some x → Nxt P w o S (sl i) i ep (some (x, sl (i + 1)))
  stop : Nxt P w o S (sl us.length) us.length ep none
  zero : sl 0 = 0
theorem led_text (hw : w.params.followText "set-order" = true) (hd : o.data = .set es ep t) (hf : t.fits es.size = true) : Led P w o S ep ((pickOrder (w.params.setOrder S ep) es).toList.map (·.2)) (fun _ => 0) where
  item := fun i x e => by
    have q := nxt_text (P := P) (S := S) (sl := 0) (i := i) hw hd hf
    rw [List.getElem?_map, Array.getElem?_toList] at e
    obtain ⟨y, e1, rfl⟩ := Option.map_eq_some_iff.mp e
    rw [e1] at q
    exact q
  stop := by
    have q := nxt_text (P := P) (S := S) (sl := 0) (i := ((pickOrder (w.params.setOrder S ep) es).toList.map (·.2)).length) hw hd hf
    rw [Array.getElem?_eq_none (by rw [List.length_map, Array.length_toList]; exact Nat.le_refl _)] at q
    exact q
  zero := rfl
theorem slot_setit_iter : Slot "set_iterator" "__iter__" "set_iterator.__iter__" :=
  .of (owner := "set_iterator") (n := "__iter__") (by rw [typeLookup_type, builtinLookup_eq_fast]; kernel_rfl) (by decide +kernel) (by decide +kernel) (by decide +kernel) (by first | exact .inl (by decide +kernel) | exact .inr (by decide +kernel)) (by rw [isSubtype_type]; kernel_rfl)
theorem entry_setit_iter : entryFor table "set_iterator.__iter__" = some Builtin.«dict_keyiterator.__iter__» := entryFor_alias (id' := "dict_keyiterator.__iter__") (by kernel_rfl) (by first | rfl | decide +kernel) (by decide +kernel) (by kernel_rfl)
theorem args_setit_iter (a : Value) : argsOk "set_iterator.__iter__" ⟨[a], []⟩ := by unfold argsOk; kernel_rfl
theorem self_setit {f : Value} {n : Nat} {Q : Value → Shared → Prop} (hit : s.heap.get? I = some (setItO f i S n ep)) (h : Q (.ref I) s) : wpAny (model P w) A (pyIter (.ref I)) Q E s := by
  have hTy : s.TypeIs (.ref I) "set_iterator" := ⟨_, hit, rfl⟩
  refine wpAny_pyIter_slot hTy slot_setit_iter (wpAny_call_entry slot_setit_iter hTy entry_setit_iter ?_ (args_setit_iter _))
  exact (show wpAny _ _ (ret (.ref I)) _ _ s from wpAny_pure ⟨_, rfl, "set_iterator", _, hTy, F.slot_setit_next.lookup, h⟩)
theorem walk_led {us : List Value} {sl : Nat → Nat} (L : Led P w o S ep us sl) (hh : A.handled = none) (hd : o.data = .set es ep t) (hf : t.fits es.size = true) (hne : S ≠ I) :
    WalksS P w A I [I, S] [I] (fun a b => b = a) us.length (fun i v => us[i]? = some v) (fun i s => s.heap.get? I = some (setItO (rawInt (sl i)) i S es.size ep) ∧ s.heap.get? S = some o) where
  sub := fun b hb => by simp at hb; simp [hb]
  grefl := fun _ => rfl
  gtrans := fun _ _ _ h1 h2 => h2.trans h1
  frame := fun i s h' tk st _ k => ⟨k I (by simp) _ st.1, k S (by simp) _ st.2⟩
  item := fun i s Q E hi st hQ => by
    have e : us[i]? = some us[i] := List.getElem?_eq_getElem hi
    refine next_led st.1 st.2 hd hf (L.item i _ e) fun h' a b => hQ _ _ e ⟨a, (b.2 S hne).trans st.2⟩ ⟨fun c o' hc e' => ?_, rfl, rfl, rfl, Nat.le_refl _⟩
    exact (b.2 c fun z => hc (by simp [z])).trans e'
  done := fun s Q E st hQ => next_led_end hh st.1 st.2 hd hf L.stop fun h' a => hQ _ ⟨fun c o' hc e' => a c o' (fun z => hc (by simp [z])) e', rfl, rfl, rfl, Nat.le_refl _⟩
  self := fun i s Q E st hQ => self_setit st.1 hQ
theorem walk_drawn {places : List Nat} {n : Nat} (hh : A.handled = none) (hd : o.data = .set es ep t) (hf : t.fits es.size = true) (hp : places.Perm (List.range es.size)) (hne : S ≠ I) (hTn : T ≠ I) :
    WalksS P w A I [I, S, T] [I] (fun a b => b = a) places.length (fun i v => (places.map fun p => (es.toList.map (·.2)).getD p .none)[i]? = some v)
      (fun i s => s.heap.get? I = some (setItO (.ref T) i S es.size ep) ∧ s.heap.get? S = some o ∧ s.heap.get? T = some { cls := .type "tuple", data := .seq (places.map fun i : Nat => rawInt i).toArray n }) where
  sub := fun b hb => by simp at hb; simp [hb]
  grefl := fun _ => rfl
  gtrans := fun _ _ _ h1 h2 => h2.trans h1
  frame := fun i s h' tk st _ k => ⟨k I (by simp) _ st.1, k S (by simp) _ st.2.1, k T (by simp) _ st.2.2⟩
  item := fun i s Q E hi st hQ => by
    have e : places[i]? = some places[i] := List.getElem?_eq_getElem hi
    have hlt : places[i] < es.size := List.mem_range.mp (hp.mem_iff.mp (List.getElem_mem hi))
    have e2 : es[places[i]]? = some (es[places[i]].1, es[places[i]].2) := Array.getElem?_eq_getElem hlt
    refine next_drawn (p := places[i]) (pk := 0) (x := es[places[i]].2) st.1 st.2.1 hd hf st.2.2 (by rw [List.getElem?_toArray, List.getElem?_map, e]; rfl) e2 fun h' a b => hQ _ _ ?_ ⟨a, (b.2 S hne).trans st.2.1, (b.2 T hTn).trans st.2.2⟩ ⟨fun c o' hc e' => ?_, rfl, rfl, rfl, Nat.le_refl _⟩
    · rw [List.getElem?_map, e]
      simp [hlt]
    · exact (b.2 c fun z => hc (by simp [z])).trans e'
  done := fun s Q E st hQ => next_drawn_end hh st.1 st.2.1 hd hf st.2.2 (by simp) fun h' a => hQ _ ⟨fun c o' hc e' => a c o' (fun z => hc (by simp [z])) e', rfl, rfl, rfl, Nat.le_refl _⟩
  self := fun i s Q E st hQ => self_setit st.1 hQ
end
end L2
namespace L2
open PySem PySem.Spec PyProof.Rows
theorem set_len_at : typeLookup (.type "set") "__len__" = pure (some (.builtin "set.__len__")) := by rw [typeLookup_type, builtinLookup_eq_fast]; kernel_rfl
section
variable {P : Program} {w : World} {A : Around} {E : Value → Shared → Prop} {s : Shared} {I S T : Addr} {i ep : Nat} {es : Array (Int × Value)} {t : SetTable} {o : Obj}
/-- the hint of a set's length makes no room -/
theorem hint_set {Q : Bool → Shared → Prop} (hT : s.TypeIs (.ref S) "set") (h : Q false s) : wpAny (model P w) A (Builtin.List.listLengthHint (.ref S)) Q E s := by
  unfold Builtin.List.listLengthHint
  refine wpAny_bind (wpAny_specialOf (T := "set") hT set_len_at ?_)
  wp_delta
  refine wpAny_bind (wpAny_isInstance (T := "set") (b := true) hT (by rw [isSubtype_type]; kernel_rfl) ?_)
  exact (show wpAny _ A (typeOf (Value.ref S) >>= _) _ _ _ from wpAny_bind (wpAny_typeOf (T := "set") hT (wpAny_pure h)))
theorem loop_walk {L : Addr} {c0 : Nat} {fp : List Addr} {us : List Value} {St : Nat → Shared → Prop} {s1 : Shared} {R : Result → Shared → Prop} (W : WalksS P w A.in1 I fp [I] (fun a b => b = a) us.length (fun i v => us[i]? = some v) St) (hz : us.length ≤ sizeLine) (st : St 0 s1) (hL : L ∉ fp)
    (hl : s1.heap.get? L = some { cls := .type "list", data := .seq #[] c0 })
    (h : ∀ s' c, (∀ b o, b ≠ L → b ≠ I → s1.heap.get? b = some o → s'.heap.get? b = some o) → s'.gens = s1.gens → s'.os = s1.os → s'.heap.get? L = some { cls := .type "list", dict := none, data := .seq us.toArray c, slots := #[] } → R (.ok (.ret (.ref L))) s') :
    codeAny (model P w) A (.builtin "list.extend.loop" ⟨[.ref L, .ref I, .ref L], []⟩) R s1 := by
  refine codeAny_extend_loopS W hz L hL _ us.length 0 s1 _ _ rfl (Nat.zero_le _) st hl (ItemsOf.nil _) fun s' acc' c' hm hS' hacc => ?_
  have e : acc' = us.toArray := by
    apply Array.toList_inj.mp
    apply List.ext_getElem?
    intro j
    by_cases hj : j < us.length
    · have h0 : j < acc'.size := by rw [hacc.1]; exact hj
      have h1 : acc'[j]? = some acc'[j] := Array.getElem?_eq_getElem h0
      rw [Array.getElem?_toList, h1]
      exact (hacc.2 j _ h1).symm
    · rw [Array.getElem?_toList, Array.getElem?_eq_none (by rw [hacc.1]; omega)]
      simp at hj ⊢
      exact hj
  rw [e] at hS'
  exact h s' c' (fun b o' h1 h2 q => hm.heap b o' (by simp [h1, h2]) q) hm.gens hm.os hS'
theorem collect_set {Q : List Value → Shared → Prop} (hT : s.TypeIs (.ref S) "set")
    (h : wpAny (model P w) A.in1 (pyIter (.ref S)) (fun v s1 => ∃ I, v = .ref I ∧ s1.TypeIs (.ref S) "set" ∧ s1.heap.get? s.heap.objs.size = some { cls := .type "list", data := .seq ([] : List Value).toArray } ∧
        ∀ h' c, (∀ b o, b ≠ s.heap.objs.size → s1.heap.get? b = some o → h'.get? b = some o) → h'.get? s.heap.objs.size = some { cls := .type "list", data := .seq #[] c } →
          codeAny (model P w) A (.builtin "list.extend.loop" ⟨[.ref s.heap.objs.size, .ref I, .ref s.heap.objs.size], []⟩) (fun r s' => ∃ us c, r = .ok (.ret (.ref s.heap.objs.size)) ∧ s'.heap.get? s.heap.objs.size = some { cls := .type "list", dict := none, data := .seq us c, slots := #[] } ∧ Q us.toList s') { s1 with heap := h' }) (fun _ _ => False)
      { s with heap := s.heap.push { cls := .type "list", data := .seq ([] : List Value).toArray } }) :
    wpAny (model P w) A (collect (.ref S)) Q E s := by
  unfold collect
  refine wpAny_bind (wpAny_runValue (codeAny_builtin PySem.F.entry_proto_collect ?_))
  rw [PySem.Around.under_plainId PySem.F.plain_proto_collect _]
  refine (show wpAny _ A.in1 (newList [] >>= fun l => again (.builtin "list.__iadd__" ⟨[l, .ref S], []⟩)) _ _ s from wpAny_bind (wpAny_newObj_type (wpAny_pure ⟨plainId_quiet PySem.F.plain_list_iadd _, codeAny_builtin PySem.F.entry_list_iadd ?_⟩)))
  rw [PySem.Around.under_plainId PySem.F.plain_list_iadd _]
  refine (show wpAny _ A.in1 (Builtin.List.listExtendWith (.ref s.heap.objs.size) (.ref S) (.ref s.heap.objs.size)) _ _ _ from ?_)
  unfold Builtin.List.listExtendWith
  have hT1 : Shared.TypeIs { s with heap := s.heap.push { cls := .type "list", data := .seq ([] : List Value).toArray } } (.ref S) "set" := by
    obtain ⟨o, ho, hc⟩ := hT
    exact ⟨o, Heap.get?_push_of_some _ ho, hc⟩
  have hne : (Builtin.List.listSameRef (.ref s.heap.objs.size) (.ref S) || Value.type "set" == Value.type "list" || Value.type "set" == Value.type "tuple") = false := by
    obtain ⟨o, ho, hc⟩ := hT
    have q : (s.heap.objs.size == S) = false := by
      rw [beq_eq_false_iff_ne]
      exact Nat.ne_of_gt (Heap.lt_size ho)
    have q2 : Builtin.List.listSameRef (.ref s.heap.objs.size) (.ref S) = (s.heap.objs.size == S) := rfl
    rw [q2, q]
    decide
  refine wpAny_bind (wpAny_typeOf (T := "set") hT1 ?_)
  rw [if_neg (by rw [hne]; exact fun z => nomatch z)]
  refine wpAny_bind (wpAny_mono h (fun v s1 ⟨I, e, h1, h5, h2⟩ => ?_) fun _ _ z => z.elim)
  subst e
  refine wpAny_bind (wpAny_holding (hint_set h1 ?_))
  rw [if_pos (by decide)]
  refine wpAny_bind (wpAny_rule (wpAny_bind (show wpAny _ A.in1 (updateSeq s.heap.objs.size (·.push .none) >>= fun _ => updateSeq s.heap.objs.size (·.pop)) _ _ _ from wpAny_bind (wpAny_updateSeq h5 rfl ?_))))
  have g2 := Heap.get?_update_self (Obj.mapSeq (·.push Value.none)) h5 rfl
  refine wpAny_updateSeq (hz := by seq_fits) g2 rfl ?_
  have g3 := Heap.get?_update_self (Obj.mapSeq (·.pop)) g2 rfl
  refine wpAny_pure ⟨plainId_quiet PySem.F.plain_extend_loop _, codeAny_mono (h2 _ _ (fun b o' hb q => (Heap.get?_update_other _ _ (Ne.symm hb)).trans ((Heap.get?_update_other _ _ (Ne.symm hb)).trans q)) g3) fun r s' ⟨us, c, e, h3, h4⟩ => ?_⟩
  subst e
  exact (show wpAny _ A (load s.heap.objs.size >>= _) _ _ s' from wpAny_bind (wpAny_load h3 (wpAny_pure h4)))
end
end L2
namespace L2
open PySem PySem.Spec PyProof.Rows
theorem strs_perm {us us0 : List Value} {zs : List Str} (hp : us.Perm us0) (hs : StrsAre us0 zs) : ∃ zs', StrsAre us zs' ∧ zs'.Perm zs :=
  ⟨us.map strOf, strsAre_map us fun v hv => hs.all v (hp.mem_iff.mp hv), by rw [← hs.strs]; exact hp.map _⟩
theorem range_getD {α : Type} (d : α) : ∀ l : List α, (List.range l.length).map (fun p => l.getD p d) = l := fun l => by
  apply List.ext_getElem?
  intro j
  rw [List.getElem?_map]
  by_cases hj : j < l.length
  · rw [List.getElem?_range hj]; simp [hj]
  · rw [List.getElem?_eq_none (by simp; omega), List.getElem?_eq_none (by omega)]; rfl
section
variable {P : Program} {w : World} {A : Around} {E : Value → Shared → Prop} {s : Shared} {I S T : Addr}
end
end L2
namespace L2
open PySem PySem.Spec PyProof.Rows
section
variable {P : Program} {w : World} {A : Around} {E : Value → Shared → Prop} {s : Shared} {S : Addr}
end
section
variable {X : Cx}
/-- a set of texts on the heap of the layer -/
def SetO (P : Program) (w : World) (a : Addr) (zs : List Str) : HO := .ext fun h => SetS P w (led0 w) h a zs
end
end L2
namespace L2
open PySem PySem.Spec PyProof.Rows
section
variable {P : Program} {w : World} {A : Around} {E : Value → Shared → Prop} {s : Shared}
theorem sub_tup_set : isSubtype (.type "tuple") (.type "set") = pure false := by rw [isSubtype_type]; kernel_rfl
theorem sub_tup_frozen : isSubtype (.type "tuple") (.type "frozenset") = pure false := by rw [isSubtype_type]; kernel_rfl
end
end L2
namespace L2
open PySem PySem.Spec PyProof.Rows
section
variable {P : Program} {w : World} {A : Around} {E : Value → Shared → Prop} {s : Shared} {S : Addr}
theorem call_set0 {Q : Value → Shared → Prop} (h : Q (.ref s.heap.objs.size) { s with heap := s.heap.push (setO w) }) : wpAny (model P w) A (call (.type "set") []) Q E s := by
  obtain ⟨c, tl, hmro⟩ := PySem.F.called_set.mro
  have c1 := PySem.F.called_set.made
  have c2 := PySem.F.called_set.sub
  have c3 := PySem.F.called_set.notType
  have c4 := PySem.F.called_set.canCreate
  have c5 := PySem.F.typeCall_set_0
  refine wpAny_call (codeAny_of_tree (show wpAny _ _ (callAny (.type "set") _) _ _ _ from wpAny_pure ⟨Code.quiet_builtin _ (by decide +kernel), codeAny_builtin PySem.F.entry_type_call ?_⟩))
  rw [PySem.Around.under_plain (weight_type_call_type "set" [] []) rfl]
  repeat (any_goals (first | assumption | wp_step))
  refine codeAny_mono (set_new_led (P := P) (E := E) (rest := []) (Q₁ := fun obj s₁ => obj = .ref s.heap.objs.size ∧ s₁ = { s with heap := s.heap.push (setO w) }) PySem.F.newCall_set_0 ⟨rfl, rfl⟩) fun r s₁ hr => ?_
  cases r with
  | error e => exact hr
  | ok fl =>
    cases fl with
    | ret obj =>
      obtain ⟨rfl, rfl⟩ := hr
      have hS : (s.heap.push (setO w)).get? s.heap.objs.size = some (setO w) := Heap.get?_push_size _ rfl
      have hT : Shared.TypeIs { s with heap := s.heap.push (setO w) } (.ref s.heap.objs.size) "set" := ⟨_, hS, rfl⟩
      have c6 := PySem.F.called_set.init.lookup
      have c7 := PySem.F.called_set.init.bind (.ref s.heap.objs.size)
      repeat (any_goals (first | assumption | wp_step))
      refine codeAny_call_builtin PySem.F.called_set.init.plain PySem.F.entry_set_init (PySem.check_set_init hT ?_)
      unfold Builtin.«set.__init__» noKeywords
      wp_walk
      exact h
    | _ => exact hr.elim
end
section
variable {X : Cx}
end
end L2
namespace L2
open PySem PySem.Spec PyProof.Rows
section
variable {X : Cx} {o e : Expr} {es : List Expr} {to : TE} {t : TA} {name : Str} {apos cpos : Pos} {id : String} {r : V → List V → Hp → VK → Prop}
/-- seen.add(z): pe_bmS PySem.F.slot_set_add PySem.F.type_set_add mt_addS -/
example : Slot "set" "add" "set.add" := PySem.F.slot_set_add
example : typeOf (.builtin "set.add") = pure (.type "method_descriptor") := PySem.F.type_set_add
end
end L2
namespace L2
open PySem PySem.Spec PyProof.Rows
end L2
namespace L2
open PySem PySem.Spec PyProof.Rows

/-! ### lists of pairs as tables -/
section
variable {κ : Type} [DecidableEq κ]
end


/-! ### a tracked dict, its keys ints and texts or tuples of these -/
theorem kV_is {P : Program} {w : World} {k : Key} {u : Value} (r : RelV (kV k) u) : (mixKind P w).is k u = true := by
  cases k with
  | inl i => obtain ⟨t, e⟩ := (show ∃ t, u = Value.int i t from r); subst e; exact mixKind_int P w i t
  | inr x => obtain ⟨t, e⟩ := (show ∃ t, u = Value.str x t from r); subst e; exact mixKind_str P w x t
section
variable {P : Program} {w : World} {H : Hp} {h : Heap} {a : Addr}
end

section
variable {X : Cx} {pins : List (Addr × Obj)} {σ : St} {H : Hp} {s : Shared} {a : Addr} {y v : V} {u r : Value} {o : Option V} {A : Around} {E : Value → Shared → Prop}

end

section
variable {X : Cx} {pins : List (Addr × Obj)} {σ : St} {H : Hp} {s : Shared} {a : Addr} {kvs : List (Key × V)} {k : Key} {u : Value} {A : Around} {E : Value → Shared → Prop}
end


/-! ### readings and rules -/
section
variable {X : Cx} {o i e value : Expr} {pos pos' tpos : Pos} {td ty tv : TE}
end


/-! ### displays -/
section
variable {X : Cx} {pos : Pos}
end

/-! ### methods -/
section
variable {X : Cx} {pins : List (Addr × Obj)} {σ : St} {H : Hp} {s : Shared} {a : Addr} {y d : V} {u r : Value} {o : Option V} {A : Around} {E : Value → Shared → Prop}
end

section
variable {X : Cx} {o e f : Expr} {apos cpos : Pos} {td ty tx : TE}
end

/-! ### dict(d): a copy -/
section
variable {X : Cx} {pins : List (Addr × Obj)} {σ : St} {H : Hp} {s : Shared} {a : Addr} {kvs : List (Key × V)} {A : Around} {E : Value → Shared → Prop}
end


section
variable {X : Cx} {pins : List (Addr × Obj)} {σ : St} {H : Hp} {s : Shared} {a : Addr} {y : V} {u : Value} {A : Around} {E : Value → Shared → Prop}
end
end L2
namespace L2
open PySem PySem.Spec PyProof.Rows
/-! ### comprehensions by what they do at each item -/
abbrev tests (ifs : List Expr) (env : Env) : Sem Bool := forIn ifs true fun c r => if r = true then do let ok ← isTrue c env (eval c env); pure (ForInStep.yield ok) else pure (ForInStep.yield r)
section
variable {prog : Program} {w : World} {A : Around} {R : Result → Shared → Prop} {s : Shared}
end
section
variable {X : Cx}
end
end L2
namespace L2
open PySem PySem.Spec PyProof.Rows
section
variable {X : Cx}
end
/-! ### the forms one uses -/
end L2
namespace L2
open PySem PySem.Spec PyProof.Rows
theorem hu0_of {A : Around} {k : Nat} (hr : Room k A) : A.units < cLine := Nat.lt_of_le_of_lt (Nat.le_add_right _ _) hr.units
section
variable {X : Cx}
/-- isinstance(x, c), x no refusal -/
theorem call_isi2 : CallR X (.builtin "isinstance") (fun xs H Q => ∃ x c cv t b, xs = [x, c] ∧ TyOf X.K H x t ∧ RelV c cv ∧ (∀ u, RelV c u → u = cv) ∧ PySem.W.kitOne X.K t cv = some b ∧ Q (.bl b) H) := by
  intro pins s σ H xs us Q I r h
  obtain ⟨x, c, cv, t, b, rfl, ty, rc, hu, hk, q⟩ := h
  obtain ⟨u1, u2, rfl, r1, r2⟩ := r.two
  obtain rfl := hu _ r2
  exact isinst_ok I r1 ty hk fun tk => ⟨.bl b, H, I.tok tk, rfl, q⟩
end
/-! ### what firstS holds -/
end L2
namespace L2
open PySem PySem.Spec PyProof.Rows PySem.W
open Builtin Builtin.ObjectAttr
/-! ### refusals as objects: own classes, two steps under ValueError -/
abbrev vTail : List Value := [.type "ValueError", .type "Exception", .type "BaseException", .type "object"]
abbrev excObj (C t : Addr) (d : Option Addr) : Obj := { cls := .ref C, dict := d, data := .fields #[.ref t, .none, .none, .none, .bool false, .none] }

section
variable {prog : Program} {w : World} {A : Around} {h : Heap} {g : Array GenState} {d : Drawn} {tk : Nat} {os : OsState}
variable {nm q : Str} {C N : Addr} {bs bm : List Value} {hdct : Bool} {sn : List Str} {sub : List Value} {ab : Bool} {col : Option Bool} {dd : Option Addr} {k0 k1 k2 k3 k5 : Option Value}

theorem xc_check_new {M : Model} {E : Value → Shared → Prop} {rest : List Value} {Q : Unit → Shared → Prop} (hC : h.get? C = some (excClassObj nm q C N bs bm hdct sn sub ab col dd k0 k1 k2 k3 k5 "ValueError.__new__"))
    (hv : (Value.ref C :: bm).contains (.type "ValueError") = true) (hq : Q () ⟨h, g, d, tk, os⟩) : wpAny M A (checkBuiltinCall "ValueError.__new__" ⟨.ref C :: rest, []⟩) Q E ⟨h, g, d, tk, os⟩ := by
  have Fv := PySem.F.excBase_ValueError
  have hst := Fv.noStar
  simp only [checkBuiltinCall, Fv.newKind, Fv.newSplit, Fv.newRow]
  repeat (first | (refine wpAny_isSubtype_exc hC ?_; rw [hv]) | refine wpAny_staticBase_exc hC ?_ | refine wpAny_madeBy_exc hC ?_ | refine wpAny_loadPart_at hC ?_ | simp only [bne_self_eq_false, Bool.false_eq_true, if_false] | wp_step)
  exact hq
theorem xc_new {R : Result → Shared → Prop} {rest : List Value} (hC : h.get? C = some (excClassObj nm q C N bs bm hdct sn sub ab col dd k0 k1 k2 k3 k5 "ValueError.__new__"))
    (hv : (Value.ref C :: bm).contains (.type "ValueError") = true) (ha : (Value.ref C :: bm).contains (.type "AttributeError") = false) (hn : (Value.ref C :: bm).contains (.type "NameError") = false) (hrest : rest.length ≤ sizeLine)
    (hq : R (.ok (.ret (.ref (h.objs.size + 1)))) ⟨(h.push { cls := .type "tuple", data := .seq rest.toArray }).push (excObj C h.objs.size none), g, d, tk, os⟩) :
    codeAny (model prog w) A (.builtin "ValueError.__new__" ⟨.ref C :: rest, []⟩) R ⟨h, g, d, tk, os⟩ := by
  have Fv := PySem.F.excBase_ValueError
  have he := Fv.ends
  refine codeAny_builtinAt Fv.entry ?_
  unfold Builtin.«BaseException.__new__»
  refine PySem.wpAt_bind ?_
  show PySem.wpAt _ _ _ (stack >>= _) _ _ _
  refine PySem.wpAt_bind (PySem.wpAt_stack fun p below => PySem.wpAt_of_wpAny ?_)
  wp_walk
  refine PySem.wpAt_of_wpAny ?_
  rw [Fv.owner]
  repeat (first | with_reducible refine wpAny_madeHere_exc Fv.canon hC ?_ | (with_reducible refine wpAny_isSubtype_exc hC ?_; first | rw [hv] | rw [ha] | rw [hn]) | with_reducible refine wpAny_loadPart_at hC ?_ | wp_step)
  show R _ _
  rw [Heap.size_push]
  exact hq
/-- C(..) with an own __init__ -/
theorem xc_type_call {E : Value → Shared → Prop} {rest : List Value} {fI : Addr} {Q : Fin → Shared → Prop} (hC : h.get? C = some (excClassObj nm q C N bs bm hdct sn sub ab col dd k0 k1 k2 k3 k5 "ValueError.__new__"))
    (hv : (Value.ref C :: bm).contains (.type "ValueError") = true) (ha : (Value.ref C :: bm).contains (.type "AttributeError") = false) (hn : (Value.ref C :: bm).contains (.type "NameError") = false) (hrest : rest.length ≤ sizeLine)
    (hi : Looks (model prog w) h (typeLookup (.ref C) "__init__") (some (.ref fI))) (hb : ∀ self, Looks (model prog w) h (bindSpecial (.ref fI) self) (.ref fI, [self]))
    (hq : wpAny (model prog w) A (call (.ref fI) (.ref (h.objs.size + 1) :: rest)) (fun r s' => r = .none ∧ Q (.done (.ret (.ref (h.objs.size + 1)))) s') E ⟨(h.push { cls := .type "tuple", data := .seq rest.toArray }).push (excObj C h.objs.size none), g, d, tk, os⟩) :
    wpAny (model prog w) A (Builtin.«type.__call__» ⟨.ref C :: rest, []⟩) Q E ⟨h, g, d, tk, os⟩ := by
  have Fv := PySem.F.excBase_ValueError
  repeat (first | (with_reducible refine wpAny_madeBy_exc hC ?_) | (with_reducible refine wpAny_loadPart_at hC ?_) | wp_step)
  refine codeAny_call_builtin_code (Code.quiet_builtin _ Fv.quiet) (xc_check_new hC hv ?_)
  refine xc_new hC hv ha hn hrest ?_
  show wpAny _ _ _ _ _ _
  generalize hH : (h.push { cls := .type "tuple", data := .seq rest.toArray }).push (excObj C h.objs.size none) = H2 at hq ⊢
  have kp : ∀ b o, h.get? b = some o → H2.get? b = some o := fun b o e => by rw [← hH]; exact Heap.get?_push_of_some _ (Heap.get?_push_of_some _ e)
  have hget : H2.get? (h.objs.size + 1) = some (excObj C h.objs.size none) := by
    rw [← hH]
    exact Heap.get?_push_at (by rw [Heap.size_push]) rfl
  have hC2 := kp _ _ hC
  have hself : (Value.ref C :: bm).contains (.ref C) = true := by simp
  unfold isInstance
  repeat (first | with_reducible refine wpAny_loadPart_at hget ?_ | (with_reducible refine wpAny_isSubtype_exc hC2 ?_; rw [hself]) | wp_step)
  show wpAny _ _ (typeLookup (.ref C) _) _ _ _
  refine (hi.keeps kp).at ?_
  refine wpAny_holding (wpAny_bind (((hb _).keeps kp).at ?_))
  refine wpAny_bind (wpAny_mono hq (fun r s' hr => ?_) fun _ _ z => z)
  obtain ⟨rfl, hQ⟩ := hr
  wp_walk
  exact hQ
theorem xc_call {E : Value → Shared → Prop} {rest : List Value} {fI : Addr} {Q : Value → Shared → Prop} (hC : h.get? C = some (excClassObj nm q C N bs bm hdct sn sub ab col dd k0 k1 k2 k3 k5 "ValueError.__new__"))
    (hv : (Value.ref C :: bm).contains (.type "ValueError") = true) (ha : (Value.ref C :: bm).contains (.type "AttributeError") = false) (hn : (Value.ref C :: bm).contains (.type "NameError") = false) (hrest : rest.length ≤ sizeLine)
    (hi : Looks (model prog w) h (typeLookup (.ref C) "__init__") (some (.ref fI))) (hb : ∀ self, Looks (model prog w) h (bindSpecial (.ref fI) self) (.ref fI, [self]))
    (hq : wpAny (model prog w) (A.under (.builtin "type.__call__" ⟨.ref C :: rest, []⟩)) (call (.ref fI) (.ref (h.objs.size + 1) :: rest)) (fun r s' => r = .none ∧ Q (.ref (h.objs.size + 1)) s') E
      ⟨(h.push { cls := .type "tuple", data := .seq rest.toArray }).push (excObj C h.objs.size none), g, d, tk, os⟩) : wpAny (model prog w) A (call (.ref C) rest) Q E ⟨h, g, d, tk, os⟩ := by
  have f1 := tc_lookup
  have f2 := tc_bind (.ref C)
  have hT : (⟨h, g, d, tk, os⟩ : Shared).TypeIs (.ref C) "type" := ⟨_, hC, rfl⟩
  refine wpAny_call (codeAny_of_tree ?_)
  show wpAny _ _ (callAny (.ref C) _) _ _ _
  repeat (any_goals (first | assumption | (with_reducible refine wpAny_loadPart_at hC ?_) | wp_step))
  refine ⟨rfl, ?_⟩
  exact codeAny_call_builtin_at (Code.quiet_builtin _ (by decide +kernel)) entry_typeCall (wpAny_check_type_call_sub hC (xc_type_call hC hv ha hn hrest hi hb hq))
end
end L2
namespace L2
open PySem PySem.Spec PyProof.Rows PySem.W
open Builtin Builtin.ObjectAttr
/-- what of the text a class of refusals must have; M: the base above it -/
structure XC (K : Frag) (C M : Addr) : Prop where
  at_ : ∃ nm q N bs sn sub ab col dd k0 k1 k2 k3 k5, K.lookup C = some (excClassObj nm q C N bs (.ref M :: vTail) true sn sub ab col dd k0 k1 k2 k3 k5 "ValueError.__new__")
  ga : findIn K (.ref C) "__getattribute__" = some (some (.builtin "BaseException.__getattribute__"))
  gb : findIn K (.ref C) "__getattr__" = some none
  hd : hasDictIn K C = true
  sa : findIn K (.ref C) "__setattr__" = some (some (.builtin "object.__setattr__"))
  kc : findIn K (.ref C) "__class__" = some (some (.builtin "object.__class__"))
  kg : specialIn K (.builtin "object.__class__") "__get__" = some (some (.builtin "getset_descriptor.__get__"))
  kt : takesIn K (.builtin "object.__class__") = some true
  mo : mroIn K C (.type "object") = some true
  kp : keepIn K (.ref C) = true
section
variable {prog : Program} {w : World} {A : Around} {E : Value → Shared → Prop} {s : Shared} {K : Frag} {x C M t : Addr} {ox : Obj} {od : Option Obj} {name : Str} {v : Value}
theorem xga_open {fill expr : Bool} {Q : Value → Shared → Prop} {tk : Tok} (X : K.In s.heap) (I : InstAt s.heap x ox C od) (hga : findIn K (.ref C) "__getattribute__" = some (some (.builtin "BaseException.__getattribute__"))) (hk : findIn K (.ref C) "__getattr__" = some none)
    (sub : Looks (model prog w) s.heap (isInstance (.ref x) (.type "BaseException")) true)
    (h : wpAny (model prog w) A.in1 (Builtin.«object.__getattribute__» ⟨[.ref x, .str name tk], []⟩)
      (fun fin s' => match fin with | .done (.ret v) => wpAny (model prog w) A (handedOut v) Q E s' | .done _ => False | .again c' => c'.quiet = true ∧ codeAny (model prog w) A c' (fun r s'' => match r with | .ok (.ret v) => wpAny (model prog w) A (handedOut v) Q E s'' | _ => False) s') (fun _ _ => False) s) :
    wpAny (model prog w) A (getAttrBy (.ref x) (.str name tk) fill expr) Q E s := by
  obtain ⟨hh, g, d, t, os⟩ := s
  have L0 := I.type (M := model prog w)
  have L1 := looks_findIn (M := model prog w) X hga
  have L2 := looks_findIn (M := model prog w) X hk
  have hx2 : (Value.builtin "BaseException.__getattribute__" == Value.builtin "object.__getattribute__") = false := by decide +kernel
  have hx1 : (onTheHeap (Value.ref C) && Value.builtin "BaseException.__getattribute__" == Value.builtin "object.__getattribute__") = false := by rw [hx2]; rfl
  have hx0 : (expr && onTheHeap (Value.builtin "BaseException.__getattribute__")) = false := by cases expr <;> rfl
  unfold getAttrBy
  refine wpAny_holding (wpAny_bind (L0.at (wpAny_bind (L1.at ?_))))
  simp only [hx1, Bool.false_eq_true, if_false]
  unfold getAttrByItsOwn
  refine wpAny_bind (L2.at (wpAny_bind (wpAny_attempt (wpAny_holding ?_))))
  unfold callGetattribute
  rw [hx0]
  simp only [Bool.false_eq_true, if_false]
  unfold boundAndCalled
  rw [PySem.F.excAttr_ValueError.ga.bind]
  refine wpAny_bind (wpAny_pure (wpAny_call ?_))
  refine codeAny_call_builtin PySem.F.excAttr_ValueError.ga.plain PySem.F.entry_bexc_ga (check_slot (i := "BaseException.__getattribute__") (owner := "BaseException") (n := "__getattribute__") (by decide +kernel) (by decide +kernel) sub (PySem.F.args_bexc_ga _ _) ?_)
  refine wpAny_mono h (fun fin s' z => ?_) fun _ _ z => z.elim
  rcases fin with (_ | _ | _ | _) | _
  all_goals first | exact z | exact z.elim | skip
  exact ⟨z.1, codeAny_mono z.2 fun r s'' y => by rcases r with _ | (_ | _ | _ | _) <;> first | exact y | exact y.elim⟩
theorem xga_value {fill expr : Bool} {Q : Value → Shared → Prop} {tk : Tok} (X : K.In s.heap) (I : InstAt s.heap x ox C od) (hga : findIn K (.ref C) "__getattribute__" = some (some (.builtin "BaseException.__getattribute__"))) (hk : findIn K (.ref C) "__getattr__" = some none)
    (sub : Looks (model prog w) s.heap (isInstance (.ref x) (.type "BaseException")) true) (hf : findObj K C od name = some (.value v)) (hh : handedIn v = true) (h : Q v s) : wpAny (model prog w) A (getAttrBy (.ref x) (.str name tk) fill expr) Q E s := by
  refine xga_open X I hga hk sub ?_
  obtain ⟨hh', g, d, t, os⟩ := s
  have L0 := I.type (M := model prog w)
  have L1 := looks_find (M := model prog w) X I hf
  refine wpAny_bind (wpAny_pure (wpAny_bind (wpAny_pure (wpAny_bind (L0.at (wpAny_bind (L1.at ?_)))))))
  refine wpAny_pure ?_
  show wpAny _ _ (handedOut v) _ _ _
  rw [handedOut_of hh]; exact wpAny_pure h
theorem XC.mro {Md : Model} {h : Heap} (X : K.In h) (xc : XC K C M) : Looks Md h (mroOf (.ref C)) (.ref C :: .ref M :: vTail) := by
  obtain ⟨nm, q, N, bs, sn, sub, ab, col, dd, k0, k1, k2, k3, k5, e⟩ := xc.at_
  have hc : clsIn K C = some { name := nm, bases := bs, mro := .ref C :: .ref M :: vTail, ns := N, qualname := q, hasDict := true, slotNames := sn, subclasses := sub, abstract := ab, collection := col, hasDel := false } := by unfold clsIn; rw [e]
  exact (looks_clsIn X hc).andThen .now
theorem XC.isB {Md : Model} {h : Heap} (X : K.In h) (xc : XC K C M) (I : InstAt h x ox C od) : Looks Md h (isInstance (.ref x) (.type "BaseException")) true := by
  have hc : (Value.ref C :: Value.ref M :: vTail).contains (.type "BaseException") = true := by simp [vTail]
  exact I.type.andThen (hc ▸ (xc.mro X).andThen .now)
theorem xc_osa {R : Result → Shared → Prop} {tk : Tok} (X : K.In s.heap) (xc : XC K C M) (I : InstAt s.heap x ox C od) (ha : findIn K (.ref C) name = some none)
    (h : wpAny (model prog w) A.in1 (storeInOwnDict (.ref x) (.ref C) (.str name tk) name v false) (fun fin s' => match fin with | .done f => R (.ok f) s' | .again c' => c'.quiet = true ∧ codeAny (model prog w) A c' R s') (fun e s' => R (.error e) s') s) :
    codeAny (model prog w) A (.call (.builtin "object.__setattr__") ⟨[.ref x, .str name tk, v], []⟩) R s := by
  have SF := PySem.F.store_object
  have sub : Looks (model prog w) s.heap (isInstance (.ref x) (.type "object")) true := I.type.andThen (looks_mroIn X xc.mo)
  refine codeAny_call_builtin SF.slot.plain SF.entry (@check_slot (model prog w) _ _ s "object.__setattr__" "object" "__setattr__" (.ref x) [.str name tk, v] [] _ SF.kind SF.split sub (SF.args _ _ _) ?_)
  rw [osa_eq, refuse_eq]
  refine wpAny_bind (wpAny_bind (I.type.here (wpAny_bind ((xc.mro X).here ?_))))
  rw [refuseLoop_ref, refuseLoop_ref, PySem.F.store_ValueError.passes]
  refine wpAny_pure (wpAny_bind (I.type.here (wpAny_bind ((looks_findIn X ha).here ?_))))
  exact wpAny_bind (wpAny_pure h)
theorem xc_set0 {Q : Unit → Shared → Prop} (X : K.In s.heap) (xc : XC K C M) (hx : s.heap.get? x = some (excObj C t none)) (ha : findIn K (.ref C) name = some none)
    (h : ∀ h', h'.get? x = some (excObj C t (some s.heap.objs.size)) → h'.Ns1 s.heap.objs.size (fun y => if y = name then some v else none) → (∀ b o, b ≠ x → s.heap.get? b = some o → h'.get? b = some o) → Q () { s with heap := h', toks := s.toks + 2 }) :
    wpAny (model prog w) A (setAttr (.ref x) name v) Q E s := by
  have J : InstAt s.heap x (excObj C t none) C none := ⟨hx, rfl, rfl, trivial⟩
  refine set_plain X J xc.sa (xc_osa (s := { s with toks := s.toks + 1 }) X xc J ha ?_)
  obtain ⟨cd, hc, hd'⟩ := any_some xc.hd
  refine wpAny_bind (wpAny_pure (wpAny_bind (wpAny_bind (wpAny_loadPart hx (wpAny_bind (Looks.here (s := { s with toks := s.toks + 1 }) (looks_clsIn X hc) ?_))))))
  rw [hd']
  have hxs : x ≠ s.heap.objs.size := Nat.ne_of_lt (Heap.lt_size hx)
  have hx1 : (s.heap.push { cls := .type "dict", data := .dict #[] }).get? x = some (excObj C t none) := Heap.get?_push_of_some _ hx
  show wpAny _ _ (alloc { cls := .type "dict", data := .dict #[] } >>= _) _ _ _
  refine wpAny_bind (wpAny_alloc ?_)
  refine wpAny_bind (wpAny_update hx1 ?_)
  refine wpAny_pure (wpAny_bind (wpAny_pure (wpAny_bind ?_)))
  have hgd : ((s.heap.push { cls := .type "dict", data := .dict #[] }).update x fun o => { o with dict := some s.heap.objs.size }).get? s.heap.objs.size = some { cls := .type "dict", data := .dict #[] } :=
    (Heap.get?_update_ne _ _ _ _ hxs.symm).trans (Heap.get?_push_at rfl rfl)
  have hnd : ((s.heap.push { cls := .type "dict", data := .dict #[] }).update x fun o => { o with dict := some s.heap.objs.size }).Ns s.heap.objs.size (fun _ => none) := ⟨_, #[], _, hgd, rfl, fun e he => absurd he (by simp), fun _ => rfl⟩
  refine wpAny_nsSet1 (Heap.Ns1.of_empty hnd) fun h' hn' hs => ?_
  obtain ⟨oD, esD, epD, hoD, hdD, hcD⟩ := hn'.count (Within.cons name v Within.nil)
  refine wpAny_bind (wpAny_lookBehind hoD (by rw [hdD]; exact pastItsLine_dict (Nat.le_trans hcD (by rw [List.length_cons, List.length_nil, sizeLine_eq]; decide))) ?_)
  refine wpAny_pure (h h' ((hs.2 x hxs).trans (Heap.get?_update_self _ hx1 rfl)) hn' fun b o hb e => ?_)
  exact (hs.2 b (Nat.ne_of_lt (Heap.lt_size e))).trans ((Heap.get?_update_ne _ _ _ _ hb).trans (Heap.get?_push_of_some _ e))
theorem xc_set1 {Q : Unit → Shared → Prop} {dx : Addr} {mA : Str → Option Value} {ns : List Str} (X : K.In s.heap) (xc : XC K C M) (hx : s.heap.get? x = some (excObj C t (some dx))) (hn : s.heap.Ns1 dx mA) (hne : dx ≠ x) (ha : findIn K (.ref C) name = some none) (hw : Within mA ns) (hsz : ns.length < 1000)
    (h : ∀ h', h'.Ns1 dx (fun y => if y = name then some v else mA y) → Heap.SameBut dx s.heap h' → Q () { s with heap := h', toks := s.toks + 2 }) : wpAny (model prog w) A (setAttr (.ref x) name v) Q E s := by
  obtain ⟨od, hod, _⟩ := lookIn_ns hn
  have J : InstAt s.heap x (excObj C t (some dx)) C (some od) := ⟨hx, rfl, rfl, hod⟩
  refine set_plain X J xc.sa (xc_osa (s := { s with toks := s.toks + 1 }) X xc J ha ?_)
  obtain ⟨cd, hc, hd'⟩ := any_some xc.hd
  refine wpAny_bind (wpAny_pure (wpAny_bind (wpAny_bind (wpAny_loadPart hx (wpAny_bind (Looks.here (s := { s with toks := s.toks + 1 }) (looks_clsIn X hc) ?_))))))
  rw [hd']
  refine wpAny_pure (a := some dx) (wpAny_bind (wpAny_pure (wpAny_bind ?_)))
  refine wpAny_nsSet1 (s := { s with toks := s.toks + 1 }) hn fun h' hn' hs => ?_
  obtain ⟨oD, esD, epD, hoD, hdD, hcD⟩ := hn'.count (Within.cons name v hw)
  refine wpAny_bind (wpAny_lookBehind hoD (by rw [hdD]; exact pastItsLine_dict (Nat.le_trans hcD (by rw [List.length_cons, sizeLine_eq]; omega))) ?_)
  exact wpAny_pure (h h' hn' hs)
end
end L2
namespace L2
open PySem PySem.Spec PyProof.Rows
/-! ### refusals in the abstract heap: the object, and its dict once it has one -/
def ExcO (e C t : Addr) (d : Option Addr) : HO := .ext fun h => h.get? e = some (excObj C t d)
def DctO (dx : Addr) (fs : List (Str × V)) : HO := .ext fun h => fs.length ≤ 900 ∧ ∃ mA, h.Ns1 dx mA ∧ (∀ f, RelO (fs.lookup f) (mA f)) ∧ PySem.Within mA (fs.map (·.1))
/-- the refusal at e, of the class at C, its fields -/
def XAt (H : Hp) (e C : Addr) (fs : List (Str × V)) : Prop := ∃ t, (H e = some (ExcO e C t none) ∧ fs = []) ∨ ∃ dx, H e = some (ExcO e C t (some dx)) ∧ H dx = some (DctO dx fs) ∧ dx ≠ e
theorem excO_ok {P : Program} {w : World} {H : Hp} {h : Heap} {e C t : Addr} {d : Option Addr} (q : h.get? e = some (excObj C t d)) : ObjOk P w H h e (ExcO e C t d) :=
  ⟨q, ⟨_, q⟩, fun _ _ p k => k _ p⟩
theorem dctO_ok {P : Program} {w : World} {H : Hp} {h : Heap} {dx : Addr} {fs : List (Str × V)} {mA : Str → Option Value} (hl : fs.length ≤ 900) (n : h.Ns1 dx mA) (r : ∀ f, RelO (fs.lookup f) (mA f)) (w' : PySem.Within mA (fs.map (·.1))) : ObjOk P w H h dx (DctO dx fs) := by
  refine ⟨⟨hl, mA, n, r, w'⟩, ?_, fun h1 h2 ⟨hl, mA, n, r, w'⟩ k => ?_⟩
  · obtain ⟨o, es, ep, e, _⟩ := n
    exact ⟨o, e⟩
  · obtain ⟨o, es, ep, e, z⟩ := n
    exact ⟨hl, mA, ⟨o, es, ep, k o e, z⟩, r, w'⟩
section
variable {X : Cx} {pins : List (Addr × Obj)} {σ : St} {H : Hp} {s : Shared}
theorem Inv.exc (I : Inv X pins σ H s) {e C t : Addr} {d : Option Addr} (h : H e = some (ExcO e C t d)) : s.heap.get? e = some (excObj C t d) := (I.hok e _ h).1
/-- one object rewritten, a new one beside it -/
theorem Inv.writeLaid {h' : Heap} {x a : Addr} {o1 o2 : HO} {t' : Nat} (I : Inv X pins σ H s) (mu : Mut (H x)) (k : ∀ b u, b ≠ x → s.heap.get? b = some u → h'.get? b = some u) (hx : ∃ u, h'.get? x = some u) (ha : s.heap.objs.size ≤ a)
    (n1 : ObjOk X.prog X.w (upd (upd H x o1) a o2) h' x o1) (n2 : ObjOk X.prog X.w (upd (upd H x o1) a o2) h' a o2) : Inv X pins σ (upd (upd H x o1) a o2) { s with heap := h', toks := t' } := by
  have nx : ∀ b, H b = none → b ≠ x := fun b n z => by subst z; rw [n] at mu; exact mu
  have na : ∀ b ob, s.heap.get? b = some ob → b ≠ a := fun b ob e => Nat.ne_of_lt (Nat.lt_of_lt_of_le (Heap.lt_size e) ha)
  have fa : H a = none := I.hok.fresh ha
  have nm : ∀ b u, H b = some u → ¬ Mut (some u) → b ≠ x := fun b u q nmu z => by subst z; rw [q] at mu; exact nmu mu
  have lift : ∀ b u, H b = some u → ¬ Mut (some u) → upd (upd H x o1) a o2 b = some u := fun b u q nmu => by rw [upd_ne (ne_of_none q fa), upd_ne (nm b u q nmu)]; exact q
  have xa : x ≠ a := fun z => by rw [z, fa] at mu; exact mu
  refine I.step (g' := s.gens) (d' := s.drawn) (ch := []) (fun _ z => nomatch z) (fun b ob _ _ _ e n => k b ob (nx b n) e) (fun b ob _ _ _ e n => ⟨ob.slots, k b ob (nx b n) e⟩) (fun b ob _ e n => by rw [upd_ne (na b ob e), upd_ne (nx b n)]; exact n)
    (fun b ob _ e => ?_) (fun b xs e => lift b _ e fun z => z) (fun b ob u e => lift b _ e fun z => z) (fun b ps e => ⟨#[], by rw [lift b _ e fun z => z]; simp⟩) (fun m hm => ?_) (fun b u e => ?_) I.bare
  · by_cases hb : b = x
    · rw [hb]; exact hx
    · exact ⟨ob, k b ob hb e⟩
  · obtain ⟨ob, es, ep, ho, r⟩ := hm
    exact ⟨ob, es, ep, k _ ob (nx _ I.free) ho, r⟩
  · by_cases hb : b = a
    · rw [hb, upd_same] at e; cases e; rw [hb]; exact n2
    · rw [upd_ne hb] at e
      by_cases hbx : b = x
      · rw [hbx, upd_same] at e; cases e; rw [hbx]; exact n1
      · rw [upd_ne hbx] at e
        refine (I.hok b u e).stay (fun c v hc q => k c v ?_ q) (fun c q => lift c _ q fun z => z) fun c xs q => lift c _ q fun z => z
        rcases hc with z | z
        · rw [z]; exact hbx
        · exact nm c _ z fun z => z
end

section
variable {X : Cx} {C M : Addr}
/-- self.f = v, of a refusal -/
def sFldX (C : Addr) (ta tv : TE) (f : Str) : TS := fun D σ H => tv σ H fun y H1 => ta σ H1 fun x H2 => ∃ e, x = .ref e ∧
  ((∃ t, H2 e = some (ExcO e C t none) ∧ ∀ dx, H2 dx = none → dx ≠ e → D.nx σ (upd (upd H2 e (ExcO e C t (some dx))) dx (DctO dx [(f, y)]))) ∨
   ∃ t dx fs, H2 e = some (ExcO e C t (some dx)) ∧ H2 dx = some (DctO dx fs) ∧ dx ≠ e ∧ fs.length < 900 ∧ D.nx σ (upd H2 dx (DctO dx (putF f y fs))))
theorem ps_fldX {o value : Expr} {f : Str} {ta tv : TE} {pos pos' : Pos} (xc : XC X.K C M) (hf : PySem.W.findIn X.K (.ref C) f = some none) (ha : PE X o ta) (hv : PE X value tv) (hs : swapsWith value (some (.Attribute o f pos')) pos.line X.env = pure false := by rfl) :
    PS X (.Assign [.Attribute o f pos'] value pos) (sFldX C ta tv f) := by
  intro pins s σ H D I h
  refine plainObj_wpAny_Assign_Attribute (thn (hv pins s σ H _ I h) fun v s1 ⟨y, H1, I1, ry, q1⟩ => thn (ha pins s1 σ H1 _ I1 q1) fun u s2 ⟨x, H2, I2, rx, q2⟩ => ?_) hs
  obtain ⟨e, rfl, q2⟩ := q2
  cases rx
  rcases q2 with ⟨t, he, q⟩ | ⟨t, dx, fs, he, hd, hne, hl, q⟩
  · have hx := I2.exc he
    have hxs : s2.heap.objs.size ≠ e := Nat.ne_of_gt (Heap.lt_size hx)
    refine xc_set0 I2.kIn xc hx hf fun h' a1 a2 a3 => ⟨σ, _, I2.writeLaid (o1 := ExcO e C t (some s2.heap.objs.size)) (o2 := DctO s2.heap.objs.size [(f, y)]) (t' := s2.toks + 2) (by rw [he]; exact trivial) a3 ⟨_, a1⟩ (Nat.le_refl _) (excO_ok a1) (dctO_ok (show 1 ≤ 900 by decide) a2 (fun g => ?_) ?_), q _ I2.fresh hxs⟩
    · show RelO (List.lookup g (putF f y [])) _
      rw [lookup_putF]
      by_cases hg : g = f
      · simp only [if_pos hg]; exact ry
      · simp only [if_neg hg]; trivial
    · exact PySem.Within.cons f v PySem.Within.nil
  · have hx := I2.exc he
    obtain ⟨_, mA, hn, hr, hw⟩ := (I2.hok dx _ hd).1
    refine xc_set1 I2.kIn xc hx hn hne hf hw (by rw [List.length_map]; omega) fun h' a1 a2 => ?_
    have hok : ObjOk X.prog X.w (upd H2 dx (DctO dx (putF f y fs))) h' dx (DctO dx (putF f y fs)) := by
      refine dctO_ok (Nat.le_trans (length_putF f y fs) (by omega)) a1 (fun g => ?_) ?_
      · rw [lookup_putF]
        by_cases hg : g = f
        · simp only [if_pos hg]; exact ry
        · simp only [if_neg hg]; exact hr g
      · intro g hg
        have q := (keys_putF f y fs)
        by_cases hgf : g = f
        · rw [hgf]; exact q.1
        · simp only [if_neg hgf] at hg
          exact q.2 g (hw g hg)
    obtain ⟨o', es', ep', e', _⟩ := id a1
    exact ⟨σ, _, I2.write (o := DctO dx (putF f y fs)) (t' := s2.toks + 2) (by rw [hd]; exact trivial) (.inl rfl) (fun b u hb q => (a2.2 b hb).trans q) ⟨_, e'⟩ hok, q⟩
/-- C(..), a refusal with an own __init__ -/
def tMakeX (C : Addr) (sp : Sp) (t : TA) : TE := fun σ H Q => t σ H fun vs H1 => vs.length ≤ 100 ∧ ∀ e u, H1 e = none → H1 u = none → u ≠ e →
  sp (.ref e :: vs) (upd (upd H1 u (.tup vs)) e (ExcO e C u none)) (fun v H2 => v = .non ∧ Q (.ref e) H2) E0
theorem vcont (C M : Addr) : (Value.ref C :: Value.ref M :: vTail).contains (.type "ValueError") = true ∧ (Value.ref C :: Value.ref M :: vTail).contains (.type "AttributeError") = false ∧ (Value.ref C :: Value.ref M :: vTail).contains (.type "NameError") = false := by
  refine ⟨?_, ?_, ?_⟩ <;> simp [vTail]
theorem run_makeX {k : Nat} {f : Addr} {fd : FuncData} {ps : List Str} {sp : Sp} {pins : List (Addr × Obj)} {σ : St} {H : Hp} {s : Shared} {Q : VK} {us : List Value} {vs : List V} (xc : XC X.K C M) (hin : PySem.W.findIn X.K (.ref C) "__init__" = some (some (.ref f))) (hfn : PySem.W.isFn X.K (.ref f) = true)
    (F : FnOk X.prog X.w X.K X.mg X.base CX0 k f fd ps sp) (hr : Room (k + 1) X.A) (hb : Binds X.K fd ps []) (I : Inv X pins σ H s) (r : Vals vs us) (hl : vs.length ≤ 100)
    (h : ∀ e u, H e = none → H u = none → u ≠ e → sp (.ref e :: vs) (upd (upd H u (.tup vs)) e (ExcO e C u none)) (fun v H2 => v = .non ∧ Q (.ref e) H2) E0) :
    wpAny (model X.prog X.w) X.A (call (.ref C) us) (EP X pins σ Q) X.xe s := by
  obtain ⟨nm, q, N, bs, sn, sub, ab, col, dd, k0, k1, k2, k3, k5, e⟩ := xc.at_
  obtain ⟨c1, c2, c3⟩ := vcont C M
  have hz : (100 : Nat) ≤ sizeLine := by rw [sizeLine_eq]; decide
  have hq := h (s.heap.objs.size + 1) s.heap.objs.size (I.hok.fresh (Nat.le_succ _)) I.fresh (Nat.ne_of_lt (Nat.lt_succ_self _))
  have I1 : Inv X pins σ (upd H s.heap.objs.size (.tup vs)) { s with heap := s.heap.push { cls := .type "tuple", data := .seq us.toArray }, toks := s.toks } :=
    I.laid (o := .tup vs) (fun _ _ z => Heap.get?_push_of_some _ z) (Nat.le_refl _) ⟨Nat.le_trans hl hz, us, r, IsTup.new _ _⟩
  have I2 : Inv X pins σ (upd (upd H s.heap.objs.size (.tup vs)) (s.heap.objs.size + 1) (ExcO (s.heap.objs.size + 1) C s.heap.objs.size none))
      { s with heap := (s.heap.push { cls := .type "tuple", data := .seq us.toArray }).push (excObj C s.heap.objs.size none), toks := s.toks } :=
    I1.laid (o := ExcO (s.heap.objs.size + 1) C s.heap.objs.size none) (fun _ _ z => Heap.get?_push_of_some _ z) (by rw [Heap.size_push]; exact Nat.le_refl _) (excO_ok (Heap.get?_push_at (by rw [Heap.size_push]) rfl))
  have r2 : Vals (V.ref (s.heap.objs.size + 1) :: vs) (Value.ref (s.heap.objs.size + 1) :: us) := .cons rfl r
  have hlen : (Value.ref (s.heap.objs.size + 1) :: us).length = ps.length := by rw [← r2.length]; exact F.len _ _ _ _ hq
  obtain ⟨hh, g, d, tk, os⟩ := s
  refine xc_call (I.kIn _ _ e) c1 c2 c3 (by rw [← r.length]; exact Nat.le_trans hl hz) (PySem.W.looks_findIn I.kIn hin) (fun self => PySem.W.bind_fn I.kIn self (beq_iff_eq.mp hfn)) (wpAny_call ?_)
  have bb := hb ⟨_, g, d, tk, os⟩ (Value.ref (hh.objs.size + 1) :: us) I2.kIn (by rw [List.append_nil]; exact hlen)
  rw [List.append_nil] at bb
  refine codeAny_mono (F.run _ X.stack _ _ ⟨Value.ref (hh.objs.size + 1) :: us, []⟩ (Value.ref (hh.objs.size + 1) :: us) _ _ E0 (hr.make C us []) (I2.env0.make C us []) bb r2 hq) fun r s' hq' => ?_
  cases r with
  | error e => exact False.elim hq'
  | ok fl =>
    cases fl with
    | ret u =>
      obtain ⟨v, H', I3, rv, ev, q3⟩ := I2.after hq'
      subst ev
      exact ⟨rv, ⟨V.ref (hh.objs.size + 1), H', I3, rfl, q3⟩⟩
    | next => exact False.elim hq'
    | brk => exact False.elim hq'
    | cont => exact False.elim hq'
theorem pe_makeX {k : Nat} {f : Addr} {fd : FuncData} {ps : List Str} {sp : Sp} {x : Str} {p pos : Pos} {e : Expr} {es : List Expr} {t : TA} (xc : XC X.K C M) (hin : PySem.W.findIn X.K (.ref C) "__init__" = some (some (.ref f))) (hfn : PySem.W.isFn X.K (.ref f) = true)
    (F : FnOk X.prog X.w X.K X.mg X.base CX0 k f fd ps sp) (hr : Room (k + 1) X.A) (hg : Gl X x) (hm : X.mg x = some (.ref C)) (hb : Binds X.K fd ps []) (ha : PA X (e :: es) t)
    (hdb : (x == ("__debug__" : Str)) = false := by decide) (he : starEach (e :: es) X.env = (false, eval e X.env) :: starEach es X.env := by rfl) (hpl : (backTo pos (starEach es X.env)).any (·.1) = false := by rfl) :
    PE X (.Call (.Name x p) (e :: es) [] pos) (tMakeX C sp t) := by
  intro pins s σ H Q I h
  refine wpAny_Call_Name_kw (ld_glob I hg hm ?_ hdb)
  refine PySem.W.callWith_K (h₀ := X.base) I.ok.mod.kin xc.kp (thn (ha pos pins s σ H _ I h) fun us s1 ⟨vs, H1, I1, r, hl, q⟩ => ⟨I1.kIn, ?_⟩) he hpl
  exact run_makeX xc hin hfn F hr hb I1 r hl q
end
end L2
namespace L2
open PySem PySem.Spec PyProof.Rows
/-! ### zip of two lists, unpacked at once -/
def Itz (K : PySem.W.Frag) (a b : Addr) : It :=
  ⟨fun i H => ∃ xs ys x y, SqL K H a xs ∧ SqL K H b ys ∧ xs[i]? = some x ∧ ys[i]? = some y,
   fun i H v H' => ∃ T, H T = none ∧ v = .ref T ∧ ∀ xs ys, SqL K H a xs → SqL K H b ys → ∃ x y, xs[i]? = some x ∧ ys[i]? = some y ∧ H' = upd H T (.tup [x, y]),
   fun i H => ∃ xs ys, SqL K H a xs ∧ SqL K H b ys ∧ (xs.length ≤ i ∨ ys.length ≤ i)⟩
def ZipSt (z TI TO i1 i2 a b : Addr) (i : Nat) (h : Heap) : Prop := IsZip h z TI TO .none ∧ IsPair h TI (.ref i1) (.ref i2) ∧ (∃ p q, IsPair h TO p q) ∧ h.IsListIter i1 a i ∧ h.IsListIter i2 b i
theorem zipSt_obj {z TI TO i1 i2 a b : Addr} {i : Nat} {h : Heap} (st : ZipSt z TI TO i1 i2 a b i h) : ∀ c ∈ [z, TI, TO, i1, i2], ∃ o, h.get? c = some o ∧ ∀ v, o.data ≠ .cell v := fun c hc => by
  obtain ⟨h1, h2, ⟨p, q, h3⟩, ⟨o4, h4, _, d4⟩, ⟨o5, h5, _, d5⟩⟩ := st
  simp only [List.mem_cons, List.not_mem_nil, or_false] at hc
  rcases hc with rfl | rfl | rfl | rfl | rfl
  · exact ⟨_, h1, fun v z => nomatch (show Data.fields _ = Data.cell v from z)⟩
  · exact ⟨_, h2, fun v z => nomatch (show Data.seq _ _ = Data.cell v from z)⟩
  · exact ⟨_, h3, fun v z => nomatch (show Data.seq _ _ = Data.cell v from z)⟩
  · exact ⟨o4, h4, fun v z => by rw [d4] at z; cases z⟩
  · exact ⟨o5, h5, fun v z => by rw [d5] at z; cases z⟩
theorem turn_zip {P : Program} {w : World} {K : PySem.W.Frag} {elts : List Expr} {k : Nat} {pos : Pos} {z TI TO i1 i2 a b : Addr} (D : ZipApart z TI TO i1 i2 a b) : Turn P w K (.Tuple elts k pos) (Itz K a b) [z, TI, TO, i1, i2] z (ZipSt z TI TO i1 i2 a b) where
  mem := by simp
  obj := fun i h st => zipSt_obj st
  keep := fun i h h' st kk => by
    obtain ⟨h1, h2, ⟨p, q, h3⟩, h4, h5⟩ := st
    exact ⟨kk z (by simp) _ h1, kk TI (by simp) _ h2, ⟨p, q, kk TO (by simp) _ h3⟩, h4.at fun o e => kk i1 (by simp) o e, h5.at fun o e => kk i2 (by simp) o e⟩
  item := by
    intro X hP hw hK hc i pins s σ H E I hf st hg
    subst hP hw hK
    have ob := zipSt_obj st
    obtain ⟨xs, ys, x, y, hq1, hq2, hx, hy⟩ := hg
    obtain ⟨h1, h2, ⟨p, q, h3⟩, h4, h5⟩ := st
    obtain ⟨its1, rv1, pl1, hz1⟩ := I.list hq1
    obtain ⟨its2, rv2, pl2, hz2⟩ := I.list hq2
    obtain ⟨u1, hu1, ru1⟩ := rv1.get hx
    obtain ⟨u2, hu2, ru2⟩ := rv2.get hy
    refine wpAny_pyNext_zip_item D h1 h2 h3 h4 h5 pl1.isList pl2.isList (x := u1) (y := u2) (by simpa using hu1) (by simpa using hu2) fun h' a1 a2 a3 a4 a5 a6 kk => ?_
    have hTz : s.heap.objs.size ≠ z := Nat.ne_of_gt (Heap.lt_size h1)
    refine ⟨_, rfl, wpAny_letOwnedTupleGo_zip (s := { s with heap := h' }) a1 fun h9 zn sb => ?_⟩
    have kp : ∀ c ob, c ∉ [z, TI, TO, i1, i2] → s.heap.get? c = some ob → h9.get? c = some ob := fun c ob hc e => by
      simp only [List.mem_cons, List.not_mem_nil, or_false, not_or] at hc
      exact (sb.2 c hc.1).trans (kk c ob hc.1 hc.2.2.1 hc.2.2.2.1 hc.2.2.2.2 e)
    have hpair : h9.get? s.heap.objs.size = some { cls := .type "tuple", data := .seq #[u1, u2] } := (sb.2 _ hTz).trans a5
    have I2 : Inv X pins σ (upd H s.heap.objs.size (.tup [x, y])) { s with heap := h9, toks := s.toks } := I.turnLaid (o := .tup [x, y]) (t' := s.toks) hf kp (Nat.le_refl _)
      ⟨by show 2 ≤ sizeLine; rw [sizeLine_eq]; decide, [u1, u2], .cons ru1 (.cons ru2 .nil), ⟨_, hpair, rfl, _, rfl⟩⟩
    refine ⟨.ref s.heap.objs.size, _, I2, rfl, ⟨_, I.fresh, rfl, fun xs' ys' g1 g2 => ⟨x, y, by rw [I.list_inj g1 hq1]; exact hx, by rw [I.list_inj g2 hq2]; exact hy, rfl⟩⟩, ⟨zn, ?_, ⟨_, _, (sb.2 _ D.TOz).trans a2⟩, a3.extBut sb.extBut D.i1z, a4.extBut sb.extBut D.i2z⟩, fun c hc => ?_⟩
    · exact (sb.2 _ D.TIz).trans (kk _ _ D.TIz D.TITO D.TIi1 D.TIi2 h2)
    · obtain ⟨o, ho, _⟩ := ob c hc
      rw [upd_ne (Nat.ne_of_lt (Heap.lt_size ho))]
      exact (hf c hc).1
  done := by
    intro X hP hw hK hc i pins s σ H E I hf st hg
    subst hP hw hK
    obtain ⟨xs, ys, hq1, hq2, hend⟩ := hg
    obtain ⟨h1, h2, ⟨p, q, h3⟩, h4, h5⟩ := st
    obtain ⟨its1, rv1, pl1, hz1⟩ := I.list hq1
    obtain ⟨its2, rv2, pl2, hz2⟩ := I.list hq2
    have l1 := rv1.length
    have l2 := rv2.length
    refine wpAny_pyNext_zip_end (I.ok.hd hc) D h1 h2 h3 h4 h5 pl1.isList pl2.isList ?_ fun h' kk => ⟨rfl, I.turnedL (t' := s.toks) hf fun c ob hc e => ?_⟩
    · rcases hend with g | g
      · exact .inl (by simp; omega)
      · exact .inr (by simp; omega)
    · simp only [List.mem_cons, List.not_mem_nil, or_false, not_or] at hc
      exact kk c ob hc.1 hc.2.2.1 hc.2.2.2.1 hc.2.2.2.2 e
  self := fun A i s Q E st h => wpAny_pyIter_zip st.1 h
def iZip (K : PySem.W.Frag) (ta : TA) : TI := fun σ H R => ta σ H fun vs H1 => ∃ a b, vs = [.ref a, .ref b] ∧ (∃ xs, SqL K H1 a xs) ∧ (∃ ys, SqL K H1 b ys) ∧ R (Itz K a b) H1
theorem pi_zip {X : Cx} {elts : List Expr} {k : Nat} {tpos : Pos} {l l2 : Expr} {ta : TA} {p pos : Pos} (hg : Gl X "zip") (hm : X.mg "zip" = none) (ha : PA X [l, l2] ta) (hs : starEach [l, l2] X.env = [(false, eval l X.env), (false, eval l2 X.env)] := by rfl) (hs2 : starEach [l2] X.env = [(false, eval l2 X.env)] := by rfl) :
    PI X (.Tuple elts k tpos) (.Call (.Name "zip" p) [l, l2] [] pos) (iZip X.K ta) := by
  intro pins s σ H R I h
  refine Call_ (ld_blt I hg hm (show bootBuiltins "zip" = some (.type "zip") by decide +kernel) (PyProof.Rows.callWith_type1 (thn (ha pos pins s σ H _ I h) fun us s1 ⟨vs, H1, I1, r1, q1⟩ => ?_) (by rw [hs, hs2]) (by rw [hs2]; rfl)))
  obtain ⟨a, b, e, ⟨xs, hq1⟩, ⟨ys, hq2⟩, q⟩ := q1
  subst e
  obtain ⟨u1, u2, rfl, r1, r2⟩ := r1.two
  cases r1
  cases r2
  obtain ⟨its1, rv1, pl1, hz1⟩ := I1.list hq1
  obtain ⟨its2, rv2, pl2, hz2⟩ := I1.list hq2
  have la : a < s1.heap.objs.size := by obtain ⟨o, ho, _⟩ := pl1.isList; exact Heap.lt_size ho
  have lb : b < s1.heap.objs.size := by obtain ⟨o, ho, _⟩ := pl2.isList; exact Heap.lt_size ho
  refine call_zip_2 pl1.isList pl2.isList fun h' z1 z2 z3 z4 z5 hsz kk => ?_
  have I2 : Inv X pins σ H1 { s1 with heap := h' } := I1.kept (t' := s1.toks) kk
  have T := turn_zip (P := X.prog) (w := X.w) (K := X.K) (elts := elts) (k := k) (pos := tpos) (zipApart_new la lb)
  refine T.self X.A 0 { s1 with heap := h' } _ _ ⟨z1, z2, ⟨_, _, z3⟩, z4, z5⟩ ⟨_, _, _, _, H1, rfl, I2, T, ⟨z1, z2, ⟨_, _, z3⟩, z4, z5⟩, fun c hc => ?_, q⟩
  have hb' : s1.heap.objs.size ≤ c := by
    simp only [List.mem_cons, List.not_mem_nil, or_false] at hc
    rcases hc with rfl | rfl | rfl | rfl | rfl <;> omega
  exact I1.fpOk hb' (I1.hok.fresh hb')

/-! ### lists of truths that differ; a list from behind -/
section
variable {X : Cx}
end
end L2
namespace L2
open PySem PySem.Spec PyProof.Rows
/-! ### a refusal that leaves a frame: what is kept -/
def TbAt (h : Heap) (T : Addr) : Prop := ∃ oT ts, h.get? T = some oT ∧ oT.data = .fields ts ∧ ts[3]? = some .none
/-- all is kept but the frames' slots and the record at a; a new entry stands at T -/
structure Lft (fs : List Addr) (a T : Addr) (h h' : Heap) : Prop where
  keep : ∀ b o, b ∉ fs → b ≠ a → h.get? b = some o → h'.get? b = some o
  slot : ∀ b o, b ∈ fs → h.get? b = some o → ∃ sl, h'.get? b = some { o with slots := sl }
  tb : TbAt h' T
section
variable {M : Model} {A : Around} {E : Value → Shared → Prop} {s : Shared} {base : Heap} {env : Env} {outer : List Env} {L a : Addr} {oe : Obj} {vs : Array Value} {Q : Unit → Shared → Prop}
theorem entry_lft {head : Value} {hadNext : Bool} (hfr : A.frames = some (env :: outer)) (hl : s.heap.FunFrames base (env :: outer)) (hf : env.frame = some L) (he : s.heap.get? a = some oe) (hd : oe.data = .fields vs) (hsz : 1 < vs.size)
    (h : ∀ h', Lft (frs (env :: outer)) a s.heap.objs.size s.heap h' → h'.get? a = some (oe.mapFields (·.setIfInBounds 1 (.ref s.heap.objs.size))) → Q () { s with heap := h' }) :
    wpAny M A (do let x ← frameOf env; let p ← entryPlaceOf L hadNext; let t ← EntryCells.newEntry head x .none (rawInt L) .none p; setField (.ref a) 1 t) (fun _ s' => wpAny M A (setFlight (.ref a) none) Q E s') E s := by
  have na : a ∉ frs (env :: outer) := fun hm => by
    obtain ⟨_, o, ho, hnf⟩ := hl.mem hm
    rw [he] at ho
    cases ho
    exact hnf vs hd
  refine wpAny_bind (wpAny_frameOf_fun hfr hl hf fun k so => wpAny_bind (wpAny_entryPlaceOf fun pl hpl => ?_))
  obtain ⟨s1, s2, s3⟩ := so
  unfold EntryCells.newEntry newFields
  refine wpAny_bind (wpAny_newObj_type ?_ (hpl.sizeOk5 _ _ _ _ _))
  generalize hTB : ({ cls := .type "traceback", dict := none, data := .fields ([head, .ref L, .none, rawInt L, .none] ++ (if pl.isEmpty then List.replicate 6 Value.none else pl)).toArray } : Obj) = TB
  have dTB : TB.data = .fields ([head, .ref L, .none, rawInt L, .none] ++ (if pl.isEmpty then List.replicate 6 Value.none else pl)).toArray := by rw [← hTB]
  have fTB : TB.isFreed = false := by rw [← hTB]; rfl
  have e1 : k.get? a = some oe := (s2 a na).trans he
  have e2 : (k.push TB).get? a = some oe := Heap.get?_push_of_some _ e1
  have nT : k.objs.size ≠ a := Nat.ne_of_gt (Heap.lt_size e1)
  have t2 : (k.push TB).get? k.objs.size = some TB := Heap.get?_push_size _ fTB
  refine wpAny_setField e2 hd hsz ?_
  have d3 := Obj.data_mapFields hd (·.setIfInBounds 1 (Value.ref k.objs.size))
  have e3 := Heap.get?_update_self (Obj.mapFields (·.setIfInBounds 1 (Value.ref k.objs.size))) e2 (Obj.isFreed_of_fields d3)
  have t3 := (Heap.get?_update_other (k.push TB) (Obj.mapFields (·.setIfInBounds 1 (Value.ref k.objs.size))) (Ne.symm nT)).trans t2
  unfold setFlight
  refine wpAny_bind (wpAny_field e3 d3 (x := .ref k.objs.size) (by simp [hsz]) ?_)
  rw [if_pos (show (Value.ref k.objs.size != Value.none) = true by simp)]
  have sz3 : 3 < ([head, .ref L, .none, rawInt L, .none] ++ (if pl.isEmpty then List.replicate 6 Value.none else pl)).toArray.size := by
    simp only [List.size_toArray, List.length_append, List.length_cons, List.length_nil]; omega
  refine wpAny_setField t3 dTB sz3 ?_
  have d4 := Obj.data_mapFields dTB (·.setIfInBounds 3 ((none : Option Addr).elim Value.none fun f => rawInt f))
  have all : ∀ b o, b ≠ a → k.get? b = some o → (((k.push TB).update a (Obj.mapFields (·.setIfInBounds 1 (Value.ref k.objs.size)))).update k.objs.size (Obj.mapFields (·.setIfInBounds 3 ((none : Option Addr).elim Value.none fun f => rawInt f)))).get? b = some o := fun b o nb e => by
    rw [Heap.get?_update_other _ _ (Nat.ne_of_gt (Heap.lt_size e)), Heap.get?_update_other _ _ (Ne.symm nb)]
    exact Heap.get?_push_of_some _ e
  have q := h (((k.push TB).update a (Obj.mapFields (·.setIfInBounds 1 (Value.ref k.objs.size)))).update k.objs.size (Obj.mapFields (·.setIfInBounds 3 ((none : Option Addr).elim Value.none fun f => rawInt f))))
  rw [← s1] at q
  refine q ⟨fun b o nf nb e => all b o nb ((s2 b nf).trans e), fun b o hb e => ?_, ?_⟩ ?_
  · obtain ⟨sl, e'⟩ := s3 b o e
    exact ⟨sl, all b _ (fun z => na (z ▸ hb)) e'⟩
  · exact ⟨_, _, Heap.get?_update_self _ t3 (Obj.isFreed_of_fields d4), d4, by simp [sz3]⟩
  · rw [Heap.get?_update_other _ _ nT]; exact e3
theorem leave_first (hfr : A.frames = some (env :: outer)) (hl : s.heap.FunFrames base (env :: outer)) (hf : env.frame = some L) (he : s.heap.get? a = some oe) (hd : oe.data = .fields vs) (h1 : vs[1]? = some .none)
    (h : ∀ h', Lft (frs (env :: outer)) a s.heap.objs.size s.heap h' → h'.get? a = some (oe.mapFields (·.setIfInBounds 1 (.ref s.heap.objs.size))) → Q () { s with heap := h' }) : wpAny M A (leaving env (.ref a)) Q E s := by
  unfold leaving noteFrame
  simp only [hf]
  refine wpAny_bind (wpAny_bind (wpAny_field he hd h1 ?_))
  rw [if_neg (by decide)]
  exact entry_lft hfr hl hf he hd (Array.getElem?_eq_some_iff.mp h1).1 h
theorem leave_next {T : Addr} (hfr : A.frames = some (env :: outer)) (hl : s.heap.FunFrames base (env :: outer)) (hf : env.frame = some L) (he : s.heap.get? a = some oe) (hd : oe.data = .fields vs) (h1 : vs[1]? = some (.ref T)) (ht : TbAt s.heap T) (nTa : T ≠ a)
    (h : ∀ h' k, (∀ b o, b ≠ T → s.heap.get? b = some o → k.get? b = some o) → TbAt k T → k.objs.size = s.heap.objs.size → Lft (frs (env :: outer)) a s.heap.objs.size k h' → h'.get? a = some (oe.mapFields (·.setIfInBounds 1 (.ref s.heap.objs.size))) → Q () { s with heap := h' }) : wpAny M A (leaving env (.ref a)) Q E s := by
  obtain ⟨oT, ts, hT, dT, t3⟩ := ht
  have s3 : 3 < ts.size := (Array.getElem?_eq_some_iff.mp t3).1
  unfold leaving noteFrame
  simp only [hf]
  refine wpAny_bind (wpAny_bind (wpAny_field he hd h1 ?_))
  rw [if_pos (show (Value.ref T != Value.none) = true by simp)]
  refine wpAny_bind (wpAny_field hT dT t3 ?_)
  rw [if_neg (show ¬ ((Value.none == rawInt L) = true) by simp [rawInt])]
  refine wpAny_bind (wpAny_setField hT dT s3 ?_)
  have oth : ∀ b, b ≠ T → (s.heap.update T (Obj.mapFields (·.setIfInBounds 3 Value.none))).get? b = s.heap.get? b := fun b nb => Heap.get?_update_other _ _ (Ne.symm nb)
  have d4 := Obj.data_mapFields dT (·.setIfInBounds 3 Value.none)
  have tT : TbAt (s.heap.update T (Obj.mapFields (·.setIfInBounds 3 Value.none))) T := ⟨_, _, Heap.get?_update_self _ hT (Obj.isFreed_of_fields d4), d4, by simp [s3]⟩
  have zz : (s.heap.update T (Obj.mapFields (·.setIfInBounds 3 Value.none))).objs.size = s.heap.objs.size := Heap.size_after_update ..
  have nfT : ∀ b o, s.heap.get? b = some o → (∀ ws, o.data ≠ .fields ws) → b ≠ T := fun b o e nf z => by
    rw [z, hT] at e
    cases e
    exact nf ts dT
  refine entry_lft (s := { s with heap := s.heap.update T (Obj.mapFields (·.setIfInBounds 3 Value.none)) }) hfr (hl.of_keeps fun b o e nf => ⟨o, (oth b (nfT b o e nf)).trans e, rfl⟩) hf ((oth a (Ne.symm nTa)).trans he) hd (Array.getElem?_eq_some_iff.mp h1).1 fun h' lf ea => ?_
  exact h h' _ (fun b o nb e => (oth b nb).trans e) tT zz (by rw [← zz]; exact lf) (by rw [← zz]; exact ea)
end
end L2
namespace L2
open PySem PySem.Spec PyProof.Rows
/-! ### a refusal that is under way -/
def TbO (T : Addr) : HO := .ext fun h => TbAt h T
/-- the refusal at a has left a frame: its last entry stands at T -/
def FlyO (a C : Addr) (d : Option Addr) (T : Addr) : HO := .ext fun h => ∃ vs, h.get? a = some { cls := .ref C, dict := d, data := .fields vs } ∧ vs[1]? = some (.ref T)
theorem tbO_ok {P : Program} {w : World} {H : Hp} {h : Heap} {T : Addr} (q : TbAt h T) : ObjOk P w H h T (TbO T) := by
  refine ⟨q, ?_, fun h1 h2 ⟨oT, ts, e, r⟩ k => ⟨oT, ts, k _ e, r⟩⟩
  obtain ⟨oT, ts, e, _⟩ := q
  exact ⟨oT, e⟩
theorem flyO_ok {P : Program} {w : World} {H : Hp} {h : Heap} {a C T : Addr} {d : Option Addr} {vs : Array Value} (q : h.get? a = some { cls := .ref C, dict := d, data := .fields vs }) (h1 : vs[1]? = some (.ref T)) : ObjOk P w H h a (FlyO a C d T) :=
  ⟨⟨vs, q, h1⟩, ⟨_, q⟩, fun _ _ ⟨vs, e, r⟩ k => ⟨vs, k _ e, r⟩⟩
def FlyAt (H : Hp) (a C : Addr) (fs : List (Str × V)) : Prop := ∃ T d, H T = some (TbO T) ∧ T ≠ a ∧ H a = some (FlyO a C d T) ∧ ((d = none ∧ fs = []) ∨ ∃ dx, d = some dx ∧ H dx = some (DctO dx fs) ∧ dx ≠ a ∧ dx ≠ T)
/-- how a refusal lies behind a call -/
def CXE (P : Program) (w : World) : CXT := fun outer H s E e s' => ∃ (a : Addr) (H' : Hp), e = .ref a ∧ s'.os = s.os ∧ AllBare s'.gens ∧ Un (frs outer) [] H H' s.heap s'.heap ∧ HOk P w H' s'.heap ∧ E e none H'
section
variable {P : Program} {w : World} {K : PySem.W.Frag} {mg : Str → Option Value} {base : Heap} {N : List Str} {qual : Str} {scope : Scope} {f : Addr} {cd : Value} {A : Around} {outer : List Env} {s0 : Shared} {H0 : Hp} {E : XK}
variable {pins : List (Addr × Obj)} {σ : St} {H : Hp} {s : Shared}
/-- behind the frame -/
theorem left_ok {a T : Addr} {oa : HO} {k h' : Heap} (I : Inv (cxOf (CXE P w) P w K mg base N qual scope f cd A outer s0 H0 E) pins σ H s) (mu : ∃ φ, H a = some (.ext φ)) (hT : T = s.heap.objs.size) (lf : Lft (frs (envOfC qual scope s0.heap.objs.size f cd :: outer)) a T k h')
    (hk : ∀ b o, (∀ φ, H b ≠ some (.ext φ)) → s.heap.get? b = some o → k.get? b = some o) (hkt : ∀ b o, s.heap.get? b = some o → ∃ o', k.get? b = some o') (hext : ∀ b φ, H b = some (.ext φ) → b ≠ a → φ s.heap → ObjOk P w (upd (upd H a oa) T (TbO T)) h' b (.ext φ))
    (ha : ∃ o, h'.get? a = some o) (hoa : ObjOk P w (upd (upd H a oa) T (TbO T)) h' a oa) :
    Un (frs outer) [] H0 (upd (upd H a oa) T (TbO T)) s0.heap h' ∧ HOk P w (upd (upd H a oa) T (TbO T)) h' := by
  obtain ⟨φa, eA⟩ := mu
  have fT : H T = none := by rw [hT]; exact I.fresh
  have naT : a ≠ T := ne_of_none eA fT
  have top : (cxOf (CXE P w) P w K mg base N qual scope f cd A outer s0 H0 E).stack = envOfC qual scope s0.heap.objs.size f cd :: outer := rfl
  have frN : ∀ b ∈ frs (envOfC qual scope s0.heap.objs.size f cd :: outer), H b = none := fun b hb => I.stkFree b hb
  have sub : ∀ b ∈ frs (envOfC qual scope s0.heap.objs.size f cd :: outer), b ∈ s0.heap.objs.size :: frs outer := fun b hb => I.stkSub b hb
  have sup : ∀ b ∈ frs outer, b ∈ frs (envOfC qual scope s0.heap.objs.size f cd :: outer) := fun b hb => by
    show b ∈ List.filterMap (·.frame) (envOfC qual scope s0.heap.objs.size f cd :: outer)
    rw [List.filterMap_cons]
    exact List.mem_cons_of_mem _ hb
  have zs : s0.heap.objs.size ≤ s.heap.objs.size := I.sz
  have nex : ∀ b, H b = none → ∀ φ, H b ≠ some (.ext φ) := fun b e φ z => by rw [e] at z; cases z
  have u := I.base
  have in0 : ∀ b o, s0.heap.get? b = some o → b ≠ T ∧ b ≠ s0.heap.objs.size := fun b o e => ⟨Nat.ne_of_lt (Nat.lt_of_lt_of_le (Heap.lt_size e) (by rw [hT]; exact zs)), Nat.ne_of_lt (Heap.lt_size e)⟩
  have old : ∀ b u, H b = some u → (∀ φ, u ≠ .ext φ) → upd (upd H a oa) T (TbO T) b = some u := fun b u e nx => by
    rw [upd_ne (ne_of_none e fT), upd_ne (fun z => by rw [z, eA] at e; cases e; exact nx _ rfl)]; exact e
  refine ⟨⟨fun b o e n nf _ => ?_, fun b o e n hf _ => ?_, fun b o e n _ => ?_, fun b o e _ => ?_, fun b xs e => ?_, fun b o u' e => ?_, fun b ps e => ?_⟩, fun b u' e => ?_⟩
  · have e1 := u.keep b o e n nf (fun z => nomatch z)
    have n1 := u.free b o e n (fun z => nomatch z)
    refine lf.keep b o (fun hb => ?_) (ne_of_none eA n1).symm (hk b o (nex b n1) e1)
    rcases List.mem_cons.mp (sub b hb) with z | z
    · exact (in0 b o e).2 z
    · exact nf z
  · obtain ⟨sl, e1⟩ := u.slot b o e n hf (fun z => nomatch z)
    have n1 := u.free b o e n (fun z => nomatch z)
    obtain ⟨sl2, e2⟩ := lf.slot b _ (sup b hf) (hk b _ (nex b n1) e1)
    exact ⟨sl2, e2⟩
  · have n1 := u.free b o e n (fun z => nomatch z)
    rw [upd_ne (in0 b o e).1, upd_ne (ne_of_none eA n1).symm]; exact n1
  · obtain ⟨o1, e1⟩ := u.there b o e (fun z => nomatch z)
    obtain ⟨o2, e2⟩ := hkt b o1 e1
    by_cases hb : b ∈ frs (envOfC qual scope s0.heap.objs.size f cd :: outer)
    · obtain ⟨sl, e3⟩ := lf.slot b o2 hb e2
      exact ⟨_, e3⟩
    · by_cases hba : b = a
      · rw [hba]; exact ha
      · exact ⟨o2, lf.keep b o2 hb hba e2⟩
  · exact old b _ (u.tups b xs e) (fun φ z => nomatch z)
  · exact old b _ (u.frzs b o u' e) (fun φ z => nomatch z)
  · obtain ⟨more, e1⟩ := u.tbls b ps e
    exact ⟨more, old b _ e1 (fun φ z => nomatch z)⟩
  · by_cases hbT : b = T
    · rw [hbT, upd_same] at e
      cases e
      rw [hbT]
      exact tbO_ok lf.tb
    · rw [upd_ne hbT] at e
      by_cases hba : b = a
      · rw [hba, upd_same] at e
        cases e
        rw [hba]
        exact hoa
      · rw [upd_ne hba] at e
        have nb : b ∉ frs (envOfC qual scope s0.heap.objs.size f cd :: outer) := fun hb => by rw [frN b hb] at e; cases e
        by_cases hx : ∃ φ, u' = .ext φ
        · obtain ⟨φ, rfl⟩ := hx
          exact hext b φ e hba (I.hok b _ e).1
        · have nx : ∀ φ, H b ≠ some (.ext φ) := fun φ z => hx ⟨φ, by rw [e] at z; cases z; rfl⟩
          refine (I.hok b u' e).stay (fun c v hc q => ?_) (fun c q => old c _ q (fun φ z => nomatch z)) fun c xs q => old c _ q (fun φ z => nomatch z)
          rcases hc with rfl | hc
          · exact lf.keep c v nb hba (hk c v nx q)
          · exact lf.keep c v (fun hb => by rw [frN c hb] at hc; cases hc) (fun z => by rw [z, eA] at hc; cases hc) (hk c v (fun φ z => by rw [hc] at z; cases z) q)
/-- a new refusal leaves the frame -/
theorem xe_first {a C : Addr} {fs : List (Str × V)} (I : Inv (cxOf (CXE P w) P w K mg base N qual scope f cd A outer s0 H0 E) pins σ H s) (x : XAt H a C fs)
    (hE : ∀ H', FlyAt H' a C fs → (∀ b o, b ≠ a → H b = some o → H' b = some o) → E (.ref a) none H') : (cxOf (CXE P w) P w K mg base N qual scope f cd A outer s0 H0 E).xe (.ref a) s := by
  obtain ⟨t, hx⟩ := x
  have go : ∀ d, H a = some (ExcO a C t d) → ((d = none ∧ fs = []) ∨ ∃ dx, d = some dx ∧ H dx = some (DctO dx fs) ∧ dx ≠ a) → (cxOf (CXE P w) P w K mg base N qual scope f cd A outer s0 H0 E).xe (.ref a) s := fun d ea hd => by
    have ho : s.heap.get? a = some (excObj C t d) := (I.hok a _ ea).1
    show wpAny (model P w) (A.deeper (envOfC qual scope s0.heap.objs.size f cd)) (leaving (envOfC qual scope s0.heap.objs.size f cd) (.ref a)) _ _ s
    refine leave_first (base := base) I.ok.frames I.stack (L := s0.heap.objs.size) rfl ho rfl rfl fun h' lf ea' => ?_
    have eaO : h'.get? a = some { cls := .ref C, dict := d, data := .fields ((#[.ref t, .none, .none, .none, .bool false, .none] : Array Value).setIfInBounds 1 (.ref s.heap.objs.size)) } := ea'
    have fT : H s.heap.objs.size = none := I.fresh
    have naT : a ≠ s.heap.objs.size := ne_of_none ea fT
    have fr : ∀ b u, H b = some u → b ∉ frs (envOfC qual scope s0.heap.objs.size f cd :: outer) := fun b u e hb => by
      rw [show H b = none from I.stkFree b hb] at e; cases e
    obtain ⟨un, ok⟩ := left_ok (oa := FlyO a C d s.heap.objs.size) (k := s.heap) I ⟨_, ea⟩ rfl lf (fun _ _ _ e => e) (fun _ o e => ⟨o, e⟩)
      (fun b φ e nb p => by
        obtain ⟨_, ⟨o, ho'⟩, st⟩ := I.hok b _ e
        exact ⟨st _ _ p fun o q => lf.keep b o (fr b _ e) nb q, ⟨o, lf.keep b o (fr b _ e) nb ho'⟩, st⟩) ⟨_, eaO⟩ (flyO_ok eaO rfl)
    refine ⟨a, _, rfl, I.os, I.bare, un, ok, hE _ ⟨s.heap.objs.size, d, upd_same, Ne.symm naT, by rw [upd_ne naT]; exact upd_same, ?_⟩ fun b o nb e => by rw [upd_ne (ne_of_none e fT), upd_ne nb]; exact e⟩
    rcases hd with hd | ⟨dx, e1, e2, e3⟩
    · exact .inl hd
    · exact .inr ⟨dx, e1, by rw [upd_ne (ne_of_none e2 fT), upd_ne e3]; exact e2, e3, ne_of_none e2 fT⟩
  rcases hx with ⟨h1, h2⟩ | ⟨dx, h1, h2, h3⟩
  · exact go none h1 (.inl ⟨rfl, h2⟩)
  · exact go (some dx) h1 (.inr ⟨dx, rfl, h2, h3⟩)
/-- one that has left a frame leaves the next -/
theorem xe_next {a C : Addr} {fs : List (Str × V)} (I : Inv (cxOf (CXE P w) P w K mg base N qual scope f cd A outer s0 H0 E) pins σ H s) (x : FlyAt H a C fs)
    (hE : ∀ H', FlyAt H' a C fs → (∀ b o, b ≠ a → H b = some o → H' b = some o) → E (.ref a) none H') : (cxOf (CXE P w) P w K mg base N qual scope f cd A outer s0 H0 E).xe (.ref a) s := by
  obtain ⟨T, d, eT, nTa, ea, hd⟩ := x
  obtain ⟨vs, ho, h1⟩ := (I.hok a _ ea).1
  have tT : TbAt s.heap T := (I.hok T _ eT).1
  show wpAny (model P w) (A.deeper (envOfC qual scope s0.heap.objs.size f cd)) (leaving (envOfC qual scope s0.heap.objs.size f cd) (.ref a)) _ _ s
  refine leave_next (base := base) I.ok.frames I.stack (L := s0.heap.objs.size) rfl ho rfl h1 tT nTa fun h' k kk kT kz lf ea' => ?_
  have hsz : 1 < vs.size := (Array.getElem?_eq_some_iff.mp h1).1
  have eaO : h'.get? a = some { cls := .ref C, dict := d, data := .fields (vs.setIfInBounds 1 (.ref s.heap.objs.size)) } := ea'
  have fT : H s.heap.objs.size = none := I.fresh
  have naT : a ≠ s.heap.objs.size := ne_of_none ea fT
  have fr : ∀ b u, H b = some u → b ∉ frs (envOfC qual scope s0.heap.objs.size f cd :: outer) := fun b u e hb => by
    rw [show H b = none from I.stkFree b hb] at e; cases e
  obtain ⟨un, ok⟩ := left_ok (oa := FlyO a C d s.heap.objs.size) (k := k) I ⟨_, ea⟩ rfl lf (fun b o nx e => kk b o (fun z => by subst z; exact nx _ eT) e)
    (fun b o e => by
      by_cases z : b = T
      · obtain ⟨oT, _, e', _⟩ := kT
        exact ⟨oT, by rw [z]; exact e'⟩
      · exact ⟨o, kk b o z e⟩)
    (fun b φ e nb p => by
      by_cases z : b = T
      · rw [z, eT] at e
        cases e
        obtain ⟨oT, ts, e', r⟩ := kT
        have e2 := lf.keep T oT (fr T _ eT) nTa e'
        rw [z]
        exact tbO_ok ⟨oT, ts, e2, r⟩
      · obtain ⟨_, ⟨o, ho'⟩, st⟩ := I.hok b _ e
        exact ⟨st _ _ p fun o q => lf.keep b o (fr b _ e) nb (kk b o z q), ⟨o, lf.keep b o (fr b _ e) nb (kk b o z ho')⟩, st⟩) ⟨_, eaO⟩ (flyO_ok eaO (by simp [hsz]))
  refine ⟨a, _, rfl, I.os, I.bare, un, ok, hE _ ⟨s.heap.objs.size, d, upd_same, Ne.symm naT, by rw [upd_ne naT]; exact upd_same, ?_⟩ fun b o nb e => by rw [upd_ne (ne_of_none e fT), upd_ne nb]; exact e⟩
  rcases hd with hd | ⟨dx, e1, e2, e3, e4⟩
  · exact .inl hd
  · exact .inr ⟨dx, e1, by rw [upd_ne (ne_of_none e2 fT), upd_ne e3]; exact e2, e3, ne_of_none e2 fT⟩
/-- the wish of a def that hands refusals of one class on: what stood at its entry stays -/
def EX (H0 : Hp) (R : Addr → Hp → Prop) : XK := fun e _ H' => ∃ a, e = .ref a ∧ H0 a = none ∧ Same H0 H' ∧ R a H'
end
end L2
namespace L2
open PySem PySem.Spec PyProof.Rows
/-! ### raise -/
section
variable {M : Model} {A : Around} {E : Value → Shared → Prop} {s : Shared} {env : Env}
variable {nm q : Str} {C N : Addr} {bs bm : List Value} {hdct : Bool} {sn : List Str} {sub : List Value} {ab : Bool} {col : Option Bool} {dd : Option Addr} {k0 k1 k2 k3 k5 : Option Value} {newId : String}
theorem raise_made {x : Sem Value} {Q : Flow → Shared → Prop} (hbase : bm.contains (.type "BaseException") = true) (hh : A.handled = none)
    (h : wpAny M A x (fun v s₁ => ∃ a t d, v = .ref a ∧ s₁.heap.get? C = some (excClassObj nm q C N bs bm hdct sn sub ab col dd k0 k1 k2 k3 k5 newId) ∧ s₁.heap.get? a = some (excObj C t d) ∧ E (.ref a) s₁) E s) :
    wpAny M A (raiseStmt env (some x) none) Q E s := by
  have cB : (Value.ref C :: bm).contains (.type "BaseException") = true := by rw [List.contains_cons, hbase, Bool.or_true]
  unfold raiseStmt
  refine wpAny_bind (wpAny_mono h (fun v s₁ h₁ => ?_) fun _ _ y => y)
  obtain ⟨a, t, d, rfl, hC, ha, hE⟩ := h₁
  obtain ⟨hp, g, dr, tk, os⟩ := s₁
  repeat (first | with_reducible refine wpAny_loadPart_at ha ?_ | with_reducible refine wpAny_loadPart_at hC ?_ | (with_reducible refine wpAny_isSubtype_exc hC ?_; rw [cB]) | wp_step)
  exact wpAny_raiseNew_none hh hE
end
section
variable {X : Cx} {C M : Addr}
def tRaise (C : Addr) (te : TE) (RX : Addr → List (Str × V) → Hp → Prop) : TS := fun _ σ H => te σ H fun v H1 => ∃ a fs, v = .ref a ∧ XAt H1 a C fs ∧ RX a fs H1
theorem ps_raise {ex : Expr} {te : TE} {pos : Pos} {RX : Addr → List (Str × V) → Hp → Prop} (xc : XC X.K C M) (hc : X.calm = true) (he : PE X ex te)
    (hx : ∀ pins σ H s a fs, Inv X pins σ H s → XAt H a C fs → RX a fs H → X.xe (.ref a) s) : PS X (.Raise (some ex) none pos) (tRaise C te RX) := by
  intro pins s σ H D I h
  obtain ⟨nm, q, N, bs, sn, sub, ab, col, dd, k0, k1, k2, k3, k5, e⟩ := xc.at_
  rw [arm_exec_Raise]
  have key : wpAny (model X.prog X.w) X.A (raiseStmt X.env (some (do let v ← eval ex X.env; standAt pos; pure v)) none) (SP X pins D) X.xe s := by
    refine raise_made (C := C) (nm := nm) (q := q) (N := N) (bs := bs) (bm := .ref M :: vTail) (hdct := true) (sn := sn) (sub := sub) (ab := ab) (col := col) (dd := dd) (k0 := k0) (k1 := k1) (k2 := k2) (k3 := k3) (k5 := k5) (newId := "ValueError.__new__") (by simp [vTail]) (I.ok.hd hc) (wpAny_bind (thn (he pins s σ H _ I h) fun v s1 ⟨x, H1, I1, rx, a, fs, ex, hX, r⟩ => wpAny_bind (wpAny_standAt (wpAny_pure ?_))))
    subst ex
    cases rx
    have hE := hx pins σ H1 s1 a fs I1 hX r
    obtain ⟨t, hX⟩ := hX
    rcases hX with ⟨h1, _⟩ | ⟨dx, h1, _, _⟩
    · exact ⟨a, t, none, rfl, I1.kIn _ _ e, I1.exc h1, hE⟩
    · exact ⟨a, t, some dx, rfl, I1.kIn _ _ e, I1.exc h1, hE⟩
  first
    | exact wpAny_bind (wpAny_standAt key)
    | (simp only [evalOpt, Option.map]; exact wpAny_bind (wpAny_standAt key))
    | (show wpAny _ _ (do standAt pos; raiseStmt X.env (some (do let v ← eval ex X.env; standAt pos; pure v)) none) _ _ _; exact wpAny_bind (wpAny_standAt key))
end
section
variable {P : Program} {w : World} {K : PySem.W.Frag} {mg : Str → Option Value} {base : Heap}
/-- THE RULE for a def that may hand a refusal on -/
theorem Fun.okX {x qual : Str} {st : Stmt} {f : Addr} {fd : FuncData} {N ps : List Str} {k : Nat} {sp : Sp} (F : Fun K x qual st f fd) (S : FnScope N ps (defScope st)) (len : ∀ vs H Q E, sp vs H Q E → vs.length = ps.length)
    (hbody : ∀ (cdv : Value) (A : Around) (outer : List Env) (s : Shared) (H : Hp) (vs : List V) (Q : VK) (E : XK), Room k (A.deeper (envOfC qual (defScope st) s.heap.objs.size f cdv)) → sp vs H Q E →
      ∃ t, PSs (cxOf (CXE P w) P w K mg base N qual (defScope st) f cdv A outer s H E) (defBody st) t ∧ t { nx := fun _ H' => Q .non H', rt := Q } (start N vs) H) : FnOk P w K mg base (CXE P w) (k + 1) f fd ps sp := by
  obtain ⟨oc, od, kV, doc, pm, an, cdv, ct, osl, rfl, lk, hcd⟩ := F.ex
  exact fn_of lk hcd S len fun A outer s H vs Q E hr hsp => hbody cdv A outer s H vs Q E hr hsp
/-- what a def that raises wants of its own new refusal -/
def RNew (H0 : Hp) (E : XK) (C : Addr) : Addr → List (Str × V) → Hp → Prop := fun a fs H1 => H0 a = none ∧ Same H0 H1 ∧ ∀ H', Same H0 H' → FlyAt H' a C fs → E (.ref a) none H'
theorem raise_new {N : List Str} {qual : Str} {scope : Scope} {f : Addr} {cd : Value} {A : Around} {outer : List Env} {s0 : Shared} {H0 : Hp} {E : XK} {C : Addr} :
    ∀ pins σ H s a fs, Inv (cxOf (CXE P w) P w K mg base N qual scope f cd A outer s0 H0 E) pins σ H s → XAt H a C fs → RNew H0 E C a fs H → (cxOf (CXE P w) P w K mg base N qual scope f cd A outer s0 H0 E).xe (.ref a) s :=
  fun _ _ _ _ a _ I x ⟨na, sm, r⟩ => xe_first I x fun H' fl k => r H' (fun b o q => k b o (ne_of_none q na) (sm b o q)) fl
end
end L2
namespace L2
open PySem PySem.Spec PyProof.Rows
theorem upd_eq {H : Hp} {a : Addr} {o : HO} (h : H a = some o) : upd H a o = H := by
  funext b
  unfold upd
  by_cases z : b = a
  · rw [if_pos z, z, h]
  · rw [if_neg z]
section
variable {M : Model} {A : Around} {E : Value → Shared → Prop} {s : Shared} {base : Heap} {env : Env} {outer : List Env} {L a : Addr} {oe : Obj} {vs : Array Value} {Q : Unit → Shared → Prop}
theorem note_next {T : Addr} (hfr : A.frames = some (env :: outer)) (hl : s.heap.FunFrames base (env :: outer)) (hf : env.frame = some L) (he : s.heap.get? a = some oe) (hd : oe.data = .fields vs) (h1 : vs[1]? = some (.ref T)) (ht : TbAt s.heap T) (nTa : T ≠ a)
    (h : ∀ h' k, (∀ b o, b ≠ T → s.heap.get? b = some o → k.get? b = some o) → TbAt k T → Lft (frs (env :: outer)) a s.heap.objs.size k h' → h'.get? a = some (oe.mapFields (·.setIfInBounds 1 (.ref s.heap.objs.size))) → Q () { s with heap := h' }) :
    wpAny M A (noteFrame (.ref a) env) (fun _ s' => wpAny M A (setFlight (.ref a) none) Q E s') E s := by
  obtain ⟨oT, ts, hT, dT, t3⟩ := ht
  have s3 : 3 < ts.size := (Array.getElem?_eq_some_iff.mp t3).1
  unfold noteFrame
  simp only [hf]
  refine wpAny_bind (wpAny_field he hd h1 ?_)
  rw [if_pos (show (Value.ref T != Value.none) = true by simp)]
  refine wpAny_bind (wpAny_field hT dT t3 ?_)
  rw [if_neg (show ¬ ((Value.none == rawInt L) = true) by simp [rawInt])]
  refine wpAny_bind (wpAny_setField hT dT s3 ?_)
  have oth : ∀ b, b ≠ T → (s.heap.update T (Obj.mapFields (·.setIfInBounds 3 Value.none))).get? b = s.heap.get? b := fun b nb => Heap.get?_update_other _ _ (Ne.symm nb)
  have d4 := Obj.data_mapFields dT (·.setIfInBounds 3 Value.none)
  have tT : TbAt (s.heap.update T (Obj.mapFields (·.setIfInBounds 3 Value.none))) T := ⟨_, _, Heap.get?_update_self _ hT (Obj.isFreed_of_fields d4), d4, by simp [s3]⟩
  have zz : (s.heap.update T (Obj.mapFields (·.setIfInBounds 3 Value.none))).objs.size = s.heap.objs.size := Heap.size_after_update ..
  have nfT : ∀ b o, s.heap.get? b = some o → (∀ ws, o.data ≠ .fields ws) → b ≠ T := fun b o e nf z => by
    rw [z, hT] at e
    cases e
    exact nf ts dT
  refine entry_lft (s := { s with heap := s.heap.update T (Obj.mapFields (·.setIfInBounds 3 Value.none)) }) hfr (hl.of_keeps fun b o e nf => ⟨o, (oth b (nfT b o e nf)).trans e, rfl⟩) hf ((oth a (Ne.symm nTa)).trans he) hd (Array.getElem?_eq_some_iff.mp h1).1 fun h' lf ea => ?_
  exact h h' _ (fun b o nb e => (oth b nb).trans e) tT (by rw [← zz]; exact lf) (by rw [← zz]; exact ea)
end
section
variable {X : Cx} {pins : List (Addr × Obj)} {σ : St} {H : Hp} {s : Shared} {a C : Addr} {fs : List (Str × V)} {A' : Around} {E' : Value → Shared → Prop} {Q : Unit → Shared → Prop}
/-- a refusal lands in the frame that takes it -/
theorem land (I : Inv X pins σ H s) (x : FlyAt H a C fs) (hst : X.stack = X.env :: X.outer) (hf : X.env.frame = some X.env.locals) (hA : A'.frames = X.A.frames)
    (h : ∀ h' H', Inv X pins σ H' { s with heap := h' } → FlyAt H' a C fs → (∀ b o, b ≠ a → H b = some o → H' b = some o) → Q () { s with heap := h' }) :
    wpAny (model X.prog X.w) A' (noteFrame (.ref a) X.env) (fun _ s' => wpAny (model X.prog X.w) A' (setFlight (.ref a) none) Q E' s') E' s := by
  obtain ⟨T, d, eT, nTa, ea, hd⟩ := x
  obtain ⟨vs, ho, h1⟩ := (I.hok a _ ea).1
  have tT : TbAt s.heap T := (I.hok T _ eT).1
  have stk := I.stack
  have frm := I.ok.frames
  rw [hst] at stk frm
  refine note_next (base := X.base) (hA.trans frm) stk hf ho rfl h1 tT nTa fun h' k kk kT lf ea' => ?_
  rw [← hst] at lf
  have hsz : 1 < vs.size := (Array.getElem?_eq_some_iff.mp h1).1
  have eaO : h'.get? a = some { cls := .ref C, dict := d, data := .fields (vs.setIfInBounds 1 (.ref s.heap.objs.size)) } := ea'
  have fT : H s.heap.objs.size = none := I.fresh
  have naT : a ≠ s.heap.objs.size := ne_of_none ea fT
  have fr : ∀ b u, H b = some u → b ∉ frs X.stack := fun b u e hb => by
    rw [I.stkFree b hb] at e; cases e
  have nex : ∀ b, (∀ φ, H b ≠ some (.ext φ)) → b ≠ T := fun b nx z => by subst z; exact nx _ eT
  have old : ∀ b u, H b = some u → (∀ φ, u ≠ .ext φ) → upd (upd H a (FlyO a C d s.heap.objs.size)) s.heap.objs.size (TbO s.heap.objs.size) b = some u := fun b u e nx => by
    rw [upd_ne (ne_of_none e fT), upd_ne (fun z => by rw [z, ea] at e; cases e; exact nx _ rfl)]; exact e
  have non : ∀ b, H b = none → b ≠ a ∧ b ≠ T := fun b n => ⟨(ne_of_none ea n).symm, (ne_of_none eT n).symm⟩
  have un : Un (frs X.stack) [] H (upd (upd H a (FlyO a C d s.heap.objs.size)) s.heap.objs.size (TbO s.heap.objs.size)) s.heap h' := by
    refine ⟨fun b o e n nf _ => lf.keep b o nf (non b n).1 (kk b o (non b n).2 e), fun b o e n hb _ => lf.slot b o hb (kk b o (non b n).2 e), fun b o e n _ => ?_, fun b o e _ => ?_, fun b xs e => old b _ e (fun φ z => nomatch z), fun b o u e => old b _ e (fun φ z => nomatch z), fun b ps e => ⟨#[], by rw [old b _ e (fun φ z => nomatch z)]; simp⟩⟩
    · rw [upd_ne (Nat.ne_of_lt (Heap.lt_size e)), upd_ne (non b n).1]; exact n
    · have e2 : ∃ o2, k.get? b = some o2 := by
        by_cases z : b = T
        · obtain ⟨oT, _, e', _⟩ := kT
          exact ⟨oT, by rw [z]; exact e'⟩
        · exact ⟨o, kk b o z e⟩
      obtain ⟨o2, e2⟩ := e2
      by_cases hb : b ∈ frs X.stack
      · obtain ⟨sl, e3⟩ := lf.slot b o2 hb e2
        exact ⟨_, e3⟩
      · by_cases hba : b = a
        · rw [hba]; exact ⟨_, eaO⟩
        · exact ⟨o2, lf.keep b o2 hb hba e2⟩
  have hok : HOk X.prog X.w (upd (upd H a (FlyO a C d s.heap.objs.size)) s.heap.objs.size (TbO s.heap.objs.size)) h' := fun b u e => by
    by_cases hbT : b = s.heap.objs.size
    · rw [hbT, upd_same] at e
      cases e
      rw [hbT]
      exact tbO_ok lf.tb
    · rw [upd_ne hbT] at e
      by_cases hba : b = a
      · rw [hba, upd_same] at e
        cases e
        rw [hba]
        exact flyO_ok eaO (by simp [hsz])
      · rw [upd_ne hba] at e
        by_cases z : b = T
        · rw [z, eT] at e
          cases e
          obtain ⟨oT, ts, e', r⟩ := kT
          rw [z]
          exact tbO_ok ⟨oT, ts, lf.keep T oT (fr T _ eT) nTa e', r⟩
        · refine (I.hok b u e).stay (fun c v hc q => ?_) (fun c q => old c _ q (fun φ z => nomatch z)) fun c xs q => old c _ q (fun φ z => nomatch z)
          rcases hc with rfl | hc
          · exact lf.keep c v (fr c _ e) hba (kk c v z q)
          · exact lf.keep c v (fr c _ hc) (fun y => by rw [y, ea] at hc; cases hc) (kk c v (fun y => by rw [y, eT] at hc; cases hc) q)
  refine h h' _ (I.call' (s' := { s with heap := h' }) (ch := []) rfl un hok I.bare (fun _ z => nomatch z)) ⟨s.heap.objs.size, d, upd_same, Ne.symm naT, by rw [upd_ne naT]; exact upd_same, ?_⟩ fun b o nb e => by rw [upd_ne (ne_of_none e fT), upd_ne nb]; exact e
  rcases hd with hd | ⟨dx, e1, e2, e3, e4⟩
  · exact .inl hd
  · exact .inr ⟨dx, e1, by rw [upd_ne (ne_of_none e2 fT), upd_ne e3]; exact e2, e3, ne_of_none e2 fT⟩
/-- its flight is over: nothing is changed that counts -/
theorem flight (I : Inv X pins σ H s) (x : FlyAt H a C fs) (h : ∀ h', Inv X pins σ H { s with heap := h' } → Q () { s with heap := h' }) : wpAny (model X.prog X.w) A' (setFlight (.ref a) none) Q E' s := by
  obtain ⟨T, d, eT, nTa, ea, hd⟩ := x
  obtain ⟨vs, ho, h1⟩ := (I.hok a _ ea).1
  obtain ⟨oT, ts, hT, dT, t3⟩ := (I.hok T _ eT).1
  have s3 : 3 < ts.size := (Array.getElem?_eq_some_iff.mp t3).1
  unfold setFlight
  refine wpAny_bind (wpAny_field ho rfl h1 ?_)
  rw [if_pos (show (Value.ref T != Value.none) = true by simp)]
  refine wpAny_setField hT dT s3 ?_
  have d4 := Obj.data_mapFields dT (·.setIfInBounds 3 ((none : Option Addr).elim Value.none fun f => rawInt f))
  have e4 := Heap.get?_update_self (Obj.mapFields (·.setIfInBounds 3 ((none : Option Addr).elim Value.none fun f => rawInt f))) hT (Obj.isFreed_of_fields d4)
  have J := I.write (x := T) (e := T) (o := TbO T) (t' := s.toks) (h' := s.heap.update T (Obj.mapFields (·.setIfInBounds 3 ((none : Option Addr).elim Value.none fun f => rawInt f)))) (by rw [eT]; exact trivial) (.inl rfl) (fun b u nb e => (Heap.get?_update_other _ _ (Ne.symm nb)).trans e) ⟨_, e4⟩ (tbO_ok ⟨_, _, e4, d4, by simp [s3]⟩)
  rw [upd_eq eT] at J
  exact h _ J
/-! ### the suite behind except -/
abbrev Cx.hand (X : Cx) (a : Addr) (E : Value → Shared → Prop) : Cx := { X with A := X.A.mark (some (.ref a)), calm := false, xe := E }
theorem Cx.Ok.hand (ok : X.Ok) (a : Addr) (E : Value → Shared → Prop) : (X.hand a E).Ok :=
  ⟨ok.mod, ok.kind, ok.glob, ok.blt, ok.above, ok.inj, ok.has, ok.cab, fun z => absurd z Bool.false_ne_true, ok.frames, ok.stk, ok.exf, ok.bs, ok.bsz, ok.noex, ok.exfs, ok.funs, ok.frf⟩
theorem Inv.hand (I : Inv X pins σ H s) (a : Addr) (E : Value → Shared → Prop) : Inv (X.hand a E) pins σ H s := ⟨I.ok.hand a E, I.os, I.bare, I.base, I.loc, I.cell, I.free, I.freeC, I.pin, I.hok, I.len⟩
theorem Inv.unhand {a : Addr} {E : Value → Shared → Prop} {σ' : St} {H' : Hp} {s' : Shared} (I : Inv (X.hand a E) pins σ' H' s') (ok : X.Ok) : Inv X pins σ' H' s' := ⟨ok, I.os, I.bare, I.base, I.loc, I.cell, I.free, I.freeC, I.pin, I.hok, I.len⟩
/-- the body behind try: its wish, and what is pinned -/
abbrev Cx.tried (X : Cx) (E : Value → Shared → Prop) (pn : List (Addr × Obj)) : Cx := { X with xe := E, pn := pn }
theorem Inv.tried (I : Inv X pins σ H s) (E : Value → Shared → Prop) : Inv (X.tried E (X.pn ++ pins)) [] σ H s :=
  ⟨⟨I.ok.mod, I.ok.kind, I.ok.glob, I.ok.blt, I.ok.above, I.ok.inj, I.ok.has, I.ok.cab, I.ok.hd, I.ok.frames, I.ok.stk, I.ok.exf, I.ok.bs, I.ok.bsz, I.ok.noex, I.ok.exfs, I.ok.funs, I.ok.frf⟩, I.os, I.bare, I.base, I.loc, I.cell, I.free, I.freeC, fun p hp => I.pin p (by simpa using hp), I.hok, I.len⟩
theorem Inv.untried {E : Value → Shared → Prop} {pins' : List (Addr × Obj)} {σ' : St} {H' : Hp} {s' : Shared} (I : Inv (X.tried E (X.pn ++ pins)) pins' σ' H' s') (ok : X.Ok) : Inv X pins σ' H' s' :=
  ⟨ok, I.os, I.bare, I.base, I.loc, I.cell, I.free, I.freeC, fun p hp => I.pin p (List.mem_append_left _ hp), I.hok, I.len⟩
/-- del x, of a local name that has a value -/
theorem unbind_ok {i : Nat} {n : Str} {v : V} (I : Inv X pins σ H s) (hN : X.N.Nodup) (hi : X.N[i]? = some n) (hk : X.env.scope.names.lookup n = some .local) (hv : σ[i]? = some (some v)) (h : ∀ s', Inv X pins (σ.set i none) H s' → Q () s') :
    wpAny (model X.prog X.w) A' (unbindName X.env n) Q E' s := by
  obtain ⟨m, hn, hl⟩ := id I.loc
  obtain ⟨u, ru, lk⟩ := hl i n v hi hv (.inl hk)
  have hm : m n = some u := by
    rcases lk with ⟨_, e⟩ | ⟨z, _⟩
    · exact e
    · have hk' : X.env.kindOf n = some .local := hk
      rcases z with z | z <;> (rw [hk'] at z; cases z)
  have hiσ : i < σ.length := by rw [I.len]; exact (List.getElem?_eq_some_iff.mp hi).1
  refine wpAny_unbindName_local hk hn hm (by rw [I.ok.kind]; rfl) fun h' u' hn' hs => ?_
  obtain ⟨oL, _, _, hoL, _⟩ := id hn
  have nl : ∀ b o, X.s₀.heap.get? b = some o → b ≠ X.env.locals := fun b o e => Nat.ne_of_lt (Nat.lt_of_lt_of_le (Heap.lt_size e) I.ok.above)
  refine h _ ⟨I.ok, I.os, I.bare, ⟨fun b o e n' hb hx => (hs.2 b (nl b o e)).trans (I.base.keep b o e n' hb hx), fun b o e n' hb hx => ?_, I.base.free, fun b o e hx => ?_, I.base.tups, I.base.frzs, I.base.tbls⟩, ⟨_, hn', fun j y v' e1 e2 e3 => ?_⟩, fun y c e => ?_, I.free, I.freeC, fun p hp => ?_, fun b ob e => ?_, by simpa using I.len⟩
  · obtain ⟨sl, e1⟩ := I.base.slot b o e n' hb hx
    exact ⟨sl, (hs.2 b (nl b o e)).trans e1⟩
  · obtain ⟨o', e1⟩ := I.base.there b o e hx
    exact ⟨o', (hs.2 b (nl b o e)).trans e1⟩
  · by_cases hj : j = i
    · subst hj
      rw [List.getElem?_set_self hiσ] at e2
      cases e2
    · rw [List.getElem?_set_ne (Ne.symm hj)] at e2
      obtain ⟨u2, r2, q⟩ := hl j y v' e1 e2 e3
      refine ⟨u2, r2, ?_⟩
      rcases q with ⟨k, e⟩ | ⟨k, c, e, z⟩
      · refine .inl ⟨k, ?_⟩
        have ny : y ≠ n := fun e => hj (nodup_ix hN e1 (e ▸ hi))
        show (if y = n then u' else m y) = some u2
        rw [if_neg ny]; exact e
      · exact .inr ⟨k, c, e, z.sameBut hs (I.cne y c e)⟩
  · obtain ⟨w', z⟩ := I.cell y c e
    exact ⟨w', z.sameBut hs (I.cne y c e)⟩
  · obtain ⟨e, n', ne, nf, d⟩ := I.pin p hp
    exact ⟨(hs.2 p.1 ne).trans e, n', ne, nf, d⟩
  · refine (I.hok b ob e).stay (fun c w' hc q => (hs.2 c ?_).trans q) (fun _ q => q) fun _ _ q => q
    rintro rfl
    rcases hc with z | z
    · rw [← z, I.free] at e; cases e
    · rw [I.free] at z; cases z
end
end L2
namespace L2
open PySem PySem.Spec PyProof.Rows
/-! ### try, with an except that takes the refusal by its own class -/
/-- what a call in the body says of a refusal -/
def EXT (C : Addr) (RX : Addr → List (Str × V) → Hp → Prop) : XK := fun e _ H' => ∃ a fs, e = .ref a ∧ FlyAt H' a C fs ∧ RX a fs H'
section
variable {X : Cx} {C M : Addr} {RX : Addr → List (Str × V) → Hp → Prop}
theorem SP.untried {pins : List (Addr × Obj)} {E : Value → Shared → Prop} {D : Ends} {f : Flow} {s' : Shared} (ok : X.Ok) (h : SP (X.tried E (X.pn ++ pins)) [] D f s') : SP X pins D f s' := by
  cases f with
  | next => obtain ⟨σ', H', I, q⟩ := h; exact ⟨σ', H', I.untried ok, q⟩
  | brk => obtain ⟨σ', H', I, q⟩ := h; exact ⟨σ', H', I.untried ok, q⟩
  | cont => obtain ⟨σ', H', I, q⟩ := h; exact ⟨σ', H', I.untried ok, q⟩
  | ret u => obtain ⟨v, σ', H', I, r, q⟩ := h; exact ⟨v, σ', H', I.untried ok, r, q⟩
end
end L2
namespace L2
open PySem PySem.Spec PyProof.Rows
/-! ### a refusal that was taken: its fields, its classes -/
section
variable {X : Cx} {C M : Addr}
def tFldF (C : Addr) (ta : TE) (f : Str) : TE := fun σ H Q => ta σ H fun x H1 => ∃ e fs v, x = .ref e ∧ FlyAt H1 e C fs ∧ fs.lookup f = some v ∧ Q v H1
theorem pe_fldF {e : Expr} {f : Str} {ta : TE} {pos : Pos} (xc : XC X.K C M) (hf : PySem.W.findIn X.K (.ref C) f = some none) (he : PE X e ta) (hb : attributeBase e f X.env (eval e X.env) = eval e X.env := by rfl) : PE X (.Attribute e f pos) (tFldF C ta f) := by
  intro pins s σ H Q I h
  refine attr_of hb (thn (he pins s σ H _ I h) fun u s1 ⟨x, H1, I1, rx, q1⟩ => ?_)
  obtain ⟨a, fs, v, rfl, ⟨T, d, eT, nTa, ea, hd⟩, hl, q⟩ := q1
  cases rx
  rcases hd with ⟨_, rfl⟩ | ⟨dx, rfl, h2, _, _⟩
  · cases hl
  · obtain ⟨_, mA, hn, hr, hw⟩ := (I1.hok dx _ h2).1
    obtain ⟨od, hod, hlook⟩ := lookIn_ns hn
    obtain ⟨vs, ho, h1⟩ := (I1.hok a _ ea).1
    have J : PySem.W.InstAt s1.heap a _ C (some od) := ⟨ho, rfl, rfl, hod⟩
    have rv := hr f
    rw [hl] at rv
    obtain ⟨u, eu, ru⟩ := RelO.some_of rv
    unfold getAttr
    exact wpAny_bind (wpAny_mkText (xga_value (s := { s1 with toks := s1.toks + 1 }) I1.kIn J xc.ga xc.gb (xc.isB I1.kIn J) (PySem.W.findObj_own xc.hd hf rfl (by rw [hlook, eu])) (handed_of ru) ⟨v, H1, I1.tok _, ru, q⟩))
end
end L2
namespace L2
open PySem PySem.Spec PyProof.Rows
/-! ### tuples: t + u and t[lo:hi] whatever they are, enumerate(t) -/
section
variable {prog : Program} {w : World} {A : Around} {E : Value → Shared → Prop} {s : Shared}
end
end L2
namespace L2
open PySem PySem.Spec PyProof.Rows
open AutoSeq1 (wpAny_loadPart')
/-! ### enumerate(t), of a tuple -/
section
variable {prog : Program} {w : World} {A : Around} {E : Value → Shared → Prop} {s : Shared}
end
section
variable {prog : Program} {w : World} {A : Around} {E : Value → Shared → Prop} {s : Shared}
end
/-! ### the readings of t + u, t[lo:hi] -/
section
variable {X : Cx}
end
end L2
namespace L2
open PySem PySem.Spec PyProof.Rows
section
variable {X : Cx}
/-- l == [] -/
theorem op_eqLE (hu : X.A.units < cLine) : OpR X (compareOp .Eq) (fun x y H Q => ∃ (a b : Addr) (zs : List V), x = .ref a ∧ y = .ref b ∧ SqL X.K H a zs ∧ SqL X.K H b [] ∧ Q (.bl zs.isEmpty) H) := by
  intro pins s σ H x y v u Q I rx ry h
  obtain ⟨a, b, zs, rfl, rfl, h1, h2, q⟩ := h
  cases rx
  cases ry
  obtain ⟨its1, rv1, pl1, hz1⟩ := I.list h1
  obtain ⟨its2, rv2, pl2, hz2⟩ := I.list h2
  cases rv2
  cases zs with
  | nil =>
    cases rv1
    have rc := SeqAt.RcAt.lists (A := X.A) (s := s) (e := fun _ => true) pl1.isList pl2.isList rfl hu fun j j1 j2 => absurd j1 (by simp)
    exact rc _ _ _ _ ⟨.bl true, H, I, rfl, q⟩
  | cons z r =>
    cases rv1 with
    | cons h1 h2 =>
      have rc := SeqAt.RcAt.lists_lengths (A := X.A) (s := s) pl1.isList pl2.isList (by simp) hu
      exact rc _ _ _ _ ⟨.bl false, H, I, rfl, q⟩
end
end L2
namespace TX
open PySem PySem.Calls
section
variable {prog : Program} {w : World} {A : Around} {E : Value → Shared → Prop} {s : Shared} {a : Addr} {its : Array Value} {n : Nat}
end
end TX
namespace TX
open PySem PySem.Calls
section
variable {prog : Program} {w : World} {A : Around} {E : Value → Shared → Prop} {K : Type} [DecidableEq K] {knd : KeyKind prog w K}
end
end TX
namespace TX
open PySem PySem.Calls
section
variable {prog : Program} {w : World} {A : Around} {E : Value → Shared → Prop} {s : Shared} {K : Type} [DecidableEq K] {knd : KeyKind prog w K}
end
end TX
namespace TX
open PySem PySem.Calls
section
variable {prog : Program} {w : World} {A : Around} {E : Value → Shared → Prop} {s : Shared}
end
end TX
namespace L2
open PySem PySem.Spec PyProof.Rows
section
variable {X : Cx}
/-! ### dict(l), l a list of pairs whose first ones are texts -/
/-! ### lists of texts compared -/
end
end L2
namespace L2
open PySem PySem.Spec PyProof.Rows
section
variable {X : Cx}
/-! ### o[lo:hi] = value, two lists -/
end
end L2
namespace L2
open PySem PySem.Spec PyProof.Rows
section
variable {X : Cx}
end
end L2
namespace L2
open PySem PyProof.Rows
section
variable {X : Cx}
end
end L2
namespace L2
open PySem PySem.Spec PyProof.Rows
section
variable {X : Cx}
/-! ### lists of texts: the first like one taken out, its place -/
end
end L2
namespace L2
open PySem PySem.Spec PyProof.Rows
section
variable {X : Cx} {tg : Expr}
end
/-- a comprehension within a comprehension: the outer one's names as it sees them -/
theorem CompScope.relab {own fr : List Str} {scope outer : Scope} {env : Env} (S : CompScope own fr scope outer) : CompScope own fr scope (relabel outer env) := by
  refine ⟨S.kind, S.nocell, S.names, S.nd, fun y hy hf => ?_, S.frs, S.owns⟩
  have q := relabel_look (env := env) outer.names y.1
  rcases S.outs y hy hf with e | e
  · rw [e] at q; exact .inl q
  · rw [e] at q
    by_cases hc : (NameKind.free == NameKind.free && env.scope.kind == .function && env.kindOf y.1 == some .cell) = true
    · refine .inl (q.trans ?_); simp only [Option.map_some]; rw [if_pos hc]
    · refine .inr (q.trans ?_); simp only [Option.map_some]; rw [if_neg hc]
end L2
namespace L2
open PySem PySem.Spec PyProof.Rows
/-! ### a table's places rise -/
def Rise (xs : Array Nat) : Prop := ∀ i j : Nat, i < j → j < xs.size → xs.getD i 0 < xs.getD j 0
theorem below_go {xs : Array Nat} {j c : Nat} (h1 : ∀ k : Nat, k < c → xs.getD k j < j) (h2 : ∀ k : Nat, c ≤ k → k < xs.size → ¬ xs.getD k j < j) :
    ∀ (fuel lo hi : Nat), lo ≤ c → c ≤ hi → hi ≤ xs.size → hi - lo ≤ fuel → SetTable.below.go xs j fuel lo hi = c
  | 0, lo, hi, a, b, _, d => by
    show lo = c
    omega
  | fuel + 1, lo, hi, a, b, e, d => by
    unfold SetTable.below.go
    by_cases hl : lo < hi
    · rw [if_pos hl]
      dsimp only
      by_cases hm : xs.getD ((lo + hi) / 2) j < j
      · rw [if_pos hm]
        have hc : (lo + hi) / 2 < c := Nat.lt_of_not_le fun z => h2 _ z (by omega) hm
        exact below_go h1 h2 fuel _ hi (by omega) b e (by omega)
      · rw [if_neg hm]
        have hc : c ≤ (lo + hi) / 2 := Nat.le_of_not_lt fun z => hm (h1 _ z)
        exact below_go h1 h2 fuel lo _ a hc (by omega) (by omega)
    · rw [if_neg hl]
      omega
theorem below_at {xs : Array Nat} {j c : Nat} (hc : c ≤ xs.size) (h1 : ∀ k : Nat, k < c → xs.getD k 0 < j) (h2 : ∀ k : Nat, c ≤ k → k < xs.size → j ≤ xs.getD k 0) : SetTable.below xs j = c := by
  unfold SetTable.below
  refine below_go (fun k hk => ?_) (fun k hk hs => ?_) _ 0 _ (Nat.zero_le _) hc (Nat.le_refl _) (by omega)
  · have q := h1 k hk
    rw [Array.getD_eq_getD_getElem?, Array.getElem?_eq_getElem (by omega : k < xs.size)] at q ⊢
    exact q
  · have q := h2 k hk hs
    rw [Array.getD_eq_getD_getElem?, Array.getElem?_eq_getElem hs] at q ⊢
    exact Nat.not_lt.mpr q
theorem Rise.first {xs : Array Nat} (h : Rise xs) : SetTable.below xs 0 = 0 := below_at (Nat.zero_le _) (fun _ z => absurd z (Nat.not_lt_zero _)) fun _ _ _ => Nat.zero_le _
theorem Rise.next {xs : Array Nat} (h : Rise xs) {i : Nat} (hi : i < xs.size) : SetTable.below xs (xs.getD i 0 + 1) = i + 1 := by
  refine below_at hi (fun k hk => ?_) (fun k hk hs => h i k hk hs)
  rcases Nat.lt_or_ge k i with z | z
  · exact Nat.lt_succ_of_lt (h k i z hi)
  · have : k = i := by omega
    rw [this]; exact Nat.lt_succ_self _
/-- where j would go -/
theorem Rise.place {xs : Array Nat} (h : Rise xs) (j : Nat) : ∃ c, c ≤ xs.size ∧ (∀ k : Nat, k < c → xs.getD k 0 < j) ∧ (∀ k : Nat, c ≤ k → k < xs.size → j ≤ xs.getD k 0) ∧ SetTable.below xs j = c := by
  have key : ∀ n : Nat, n ≤ xs.size → ∃ c, c ≤ n ∧ (∀ k : Nat, k < c → xs.getD k 0 < j) ∧ ∀ k : Nat, c ≤ k → k < n → j ≤ xs.getD k 0 := by
    intro n
    induction n with
    | zero => exact fun _ => ⟨0, Nat.le_refl _, fun _ z => absurd z (Nat.not_lt_zero _), fun _ _ z => absurd z (Nat.not_lt_zero _)⟩
    | succ n ih =>
      intro hn
      obtain ⟨c, a, b, d⟩ := ih (by omega)
      by_cases hc : xs.getD n 0 < j
      · refine ⟨n + 1, Nat.le_refl _, fun k hk => ?_, fun k a b => by omega⟩
        rcases Nat.lt_or_ge k n with z | z
        · exact Nat.lt_trans (h k n z (by omega)) hc
        · have : k = n := by omega
          rw [this]; exact hc
      · refine ⟨c, by omega, b, fun k hk hk2 => ?_⟩
        rcases Nat.lt_or_ge k n with z | z
        · exact d k hk z
        · have : k = n := by omega
          rw [this]; exact Nat.le_of_not_lt hc
  obtain ⟨c, a, b, d⟩ := key xs.size (Nat.le_refl _)
  exact ⟨c, a, b, d, below_at a b d⟩
end L2
namespace L2
open PySem PySem.Spec PyProof.Rows
/-! ### .. whatever is put into it -/
theorem getD_lt {xs : Array Nat} {i : Nat} (h : i < xs.size) : xs[i]? = some (xs.getD i 0) := by
  rw [Array.getD_eq_getD_getElem?, Array.getElem?_eq_getElem h]; rfl
theorem rise_range (n : Nat) : Rise (Array.range n) := fun i j h hj => by
  rw [Array.size_range] at hj
  rw [Array.getD_eq_getD_getElem?, Array.getD_eq_getD_getElem?, Array.getElem?_eq_getElem (by rw [Array.size_range]; omega), Array.getElem?_eq_getElem (by rw [Array.size_range]; omega)]
  simpa using h
theorem rise_list {l : List Nat} (h : l.Pairwise (· < ·)) : Rise l.toArray := fun i j hij hj => by
  rw [List.size_toArray] at hj
  rw [Array.getD_eq_getD_getElem?, Array.getD_eq_getD_getElem?, List.getElem?_toArray, List.getElem?_toArray, List.getElem?_eq_getElem (by omega : i < l.length), List.getElem?_eq_getElem hj]
  exact List.pairwise_iff_getElem.mp h i j (by omega) hj hij
theorem put_get {xs : Array Nat} {c j : Nat} (hc : c ≤ xs.size) (i : Nat) : (SetTable.insertAt xs c j).getD i 0 = if i < c then xs.getD i 0 else if i = c then j else xs.getD (i - 1) 0 := by
  unfold SetTable.insertAt
  have hy : (xs.extract 0 c).size = c := by rw [Array.size_extract, Nat.min_eq_left hc, Nat.sub_zero]
  have hz : ((xs.extract 0 c).push j).size = c + 1 := by rw [Array.size_push, hy]
  rw [Array.getD_eq_getD_getElem?]
  by_cases h1 : i < c
  · have h5 := Nat.lt_of_lt_of_le h1 hc
    rw [if_pos h1, Array.getElem?_append_left (by rw [hz]; exact Nat.lt_succ_of_lt h1), Array.getElem?_push_lt (by rw [hy]; exact h1), Array.getElem_extract, Array.getD_eq_getD_getElem?, Array.getElem?_eq_getElem h5]
    simp only [Nat.zero_add]
  · rw [if_neg h1]
    by_cases h2 : i = c
    · subst h2
      rw [if_pos rfl, Array.getElem?_append_left (by rw [hz]; exact Nat.lt_succ_self _)]
      have q := Array.getElem?_push_size (xs := xs.extract 0 i) (x := j)
      rw [hy] at q
      rw [q]; rfl
    · have h6 : c + 1 ≤ i := Nat.lt_of_le_of_ne (Nat.not_lt.mp h1) (Ne.symm h2)
      obtain ⟨d, rfl⟩ := Nat.exists_eq_add_of_le h6
      have e : c + d = c + 1 + d - 1 := by rw [Nat.add_right_comm]; rfl
      rw [if_neg h2, Array.getElem?_append_right (by rw [hz]; exact h6), hz, Array.getD_eq_getD_getElem?, Nat.add_sub_cancel_left, ← e, Array.getElem?_extract]
      by_cases h3 : c + d < xs.size
      · rw [if_pos (by rw [Nat.min_self]; exact Nat.lt_sub_of_add_lt (by rw [Nat.add_comm]; exact h3))]
      · rw [if_neg (by rw [Nat.min_self]; exact fun z => h3 (by have := Nat.add_lt_of_lt_sub z; rw [Nat.add_comm]; exact this)), Array.getElem?_eq_none (Nat.not_lt.mp h3)]
theorem put_size {xs : Array Nat} {c j : Nat} (hc : c ≤ xs.size) : (SetTable.insertAt xs c j).size = xs.size + 1 := by
  unfold SetTable.insertAt
  rw [Array.size_append, Array.size_push, Array.size_extract, Array.size_extract, Nat.min_self, Nat.min_eq_left hc, Nat.sub_zero, Nat.add_right_comm, Nat.add_sub_cancel' hc]
theorem Rise.ins {xs : Array Nat} (h : Rise xs) {j : Nat} (hj : ¬ xs[SetTable.below xs j]? = some j) : Rise (SetTable.insertAt xs (SetTable.below xs j) j) := by
  obtain ⟨c, c1, c2, c3, c4⟩ := h.place j
  rw [c4] at hj ⊢
  intro a b hab hb
  rw [put_size c1] at hb
  have hcj : ∀ k : Nat, c ≤ k → k < xs.size → j < xs.getD k 0 := fun k k1 k2 => by
    rcases Nat.lt_or_ge c k with z | z
    · exact Nat.lt_of_le_of_lt (c3 c (Nat.le_refl _) (by omega)) (h c k z k2)
    · have : k = c := by omega
      subst this
      refine Nat.lt_of_le_of_ne (c3 k k1 k2) fun e => hj ?_
      rw [getD_lt k2, ← e]
  rw [put_get c1, put_get c1]
  by_cases a1 : a < c
  · rw [if_pos a1]
    by_cases b1 : b < c
    · rw [if_pos b1]; exact h a b hab (by omega)
    · rw [if_neg b1]
      by_cases b2 : b = c
      · rw [if_pos b2]; exact c2 a a1
      · rw [if_neg b2]; exact Nat.lt_trans (c2 a a1) (hcj _ (by omega) (by omega))
  · rw [if_neg a1]
    by_cases a2 : a = c
    · rw [if_pos a2, if_neg (by omega), if_neg (by omega)]; exact hcj _ (by omega) (by omega)
    · rw [if_neg a2, if_neg (by omega), if_neg (by omega)]; exact h _ _ (by omega) (by omega)
/-- a slot that a search hands back is none that is taken -/
def FreeS (t : SetTable) (j : Nat) : Prop := ¬ t.place[SetTable.below t.place j]? = some j
theorem free_of {t : SetTable} {j : Nat} (h : ∀ i, t.slot j ≠ .live i) : FreeS t j := fun e => by
  refine h (SetTable.below t.place j) ?_
  unfold SetTable.slot
  dsimp only
  rw [if_pos (by rw [e]; exact beq_self_eq_true _)]
theorem probe_free {t : SetTable} {h h' : Int} (hh : (h' == h) = false) : ∀ (fuel : Nat) (p : SetTable.Probe) (j : Nat) (dm : Option Nat), (∀ d, p.dummy = some d → FreeS t d) → SetTable.probe.go t (fun _ => h') h fuel p = some (.empty j dm) → FreeS t (dm.getD j)
  | 0, p, j, dm, _, e => by
    unfold SetTable.probe.go at e
    cases e
  | fuel + 1, p, j, dm, hd, e => by
    unfold SetTable.probe.go at e
    cases hs : t.slot p.j with
    | empty =>
      rw [hs] at e
      injection e with e
      injection e with e1 e2
      subst e1 e2
      cases hp : p.dummy with
      | none => exact free_of fun i z => by rw [show (none : Option Nat).getD p.j = p.j from rfl, hs] at z; cases z
      | some d => exact hd d hp
    | dummy =>
      rw [hs] at e
      refine probe_free hh fuel _ j dm (fun d hd' => ?_) e
      have q : (t.advance { p with dummy := some p.j }).dummy = some p.j := by
        unfold SetTable.advance
        split <;> rfl
      rw [q] at hd'
      cases hd'
      exact free_of fun i z => by rw [hs] at z; cases z
    | live i =>
      rw [hs] at e
      dsimp only at e
      rw [hh, if_neg (fun z => nomatch z)] at e
      refine probe_free hh fuel _ j dm (fun d hd' => ?_) e
      have q : (t.advance p).dummy = p.dummy := by
        unfold SetTable.advance
        split <;> rfl
      rw [q] at hd'
      exact hd d hd'
theorem rise_lay {t : SetTable} (h : Rise t.place) (es : Array (Int × Value)) (hs : Int) (x : Value) : Rise (layNew t es hs x).2.1.place := by
  unfold layNew
  have or_ : ∀ (t' : SetTable) (n : Nat), Rise t'.place → Rise (t'.orStandIn n).place := fun t' n q => by
    unfold SetTable.orStandIn
    split
    · exact q
    · exact rise_range n
  cases hf : t.freeSlot hs with
  | none => exact rise_range _
  | some p =>
    obtain ⟨slot, wd⟩ := p
    refine or_ _ _ ?_
    show Rise (SetTable.insertAt t.place (SetTable.below t.place slot) slot)
    refine h.ins ?_
    unfold SetTable.freeSlot at hf
    cases hp : t.probe (fun _ => hs + 1) hs (t.probeStart hs) with
    | none => rw [hp] at hf; cases hf
    | some m =>
      rw [hp] at hf
      cases m with
      | candidate _ _ _ => cases hf
      | empty j dm =>
        injection hf with hf
        injection hf with e1 _
        rw [← e1]
        unfold SetTable.probe at hp
        exact probe_free (beq_eq_false_iff_ne.mpr (by omega)) _ _ j dm (fun d z => by cases (show (none : Option Nat) = some d from z)) hp
theorem rise_relay {t : SetTable} (h : Rise t.place) (es : Array (Int × Value)) (n : Nat) : Rise (relayAll t es n).2.1.place := by
  unfold relayAll
  split
  · rename_i t' order e
    have hr : Rise t'.place := by
      unfold SetTable.relaid SetTable.laid at e
      obtain ⟨ow, _, e⟩ := Option.bind_eq_some_iff.mp e
      cases e
      refine rise_list ?_
      rw [List.pairwise_map]
      refine List.Pairwise.filterMap (R := fun a b : Nat => a < b) _ (fun a a' hlt b hb b' hb' => ?_) List.pairwise_lt_range
      obtain ⟨y, _, rfl⟩ := Option.map_eq_some_iff.mp hb
      obtain ⟨y', _, rfl⟩ := Option.map_eq_some_iff.mp hb'
      exact hlt
    dsimp only
    split
    · exact hr
    · exact rise_range _
  · exact rise_range _
end L2
namespace L2
open PySem PySem.Spec PyProof.Rows
instance keyMem (x : Key) (zs : List Key) : Decidable (x ∈ zs) := decidable_of_iff ((zs.any fun y => decide (y = x)) = true) (by simp)
theorem led_lay (t : SetTable) (es : Array (Int × Value)) (h : Int) (x : Value) : (layNew t es h x).2.1.led = t.led := by
  unfold layNew
  cases t.freeSlot h with
  | some p =>
    show ((t.put p.1).1.orStandIn _).led = t.led
    unfold SetTable.orStandIn
    split <;> rfl
  | none => rfl
theorem led_relay (t : SetTable) (es : Array (Int × Value)) (n : Nat) : (relayAll t es n).2.1.led = t.led := by
  unfold relayAll
  split
  · rename_i t' order e
    have hf : t'.led = t.led := by
      unfold SetTable.relaid SetTable.laid at e
      obtain ⟨_, _, e⟩ := Option.bind_eq_some_iff.mp e
      cases e
      rfl
    dsimp only
    split
    · exact hf
    · rfl
  · rfl
theorem key_scan {k : Key} {u : Value} (r : RelV (kV k) u) : u.scannable = true := by
  cases k with
  | inl i => obtain ⟨t, rfl⟩ := r; rfl
  | inr x => obtain ⟨t, rfl⟩ := r; rfl
theorem vals_snoc {zs : List V} {us : List Value} {x : V} {u : Value} (h : Vals zs us) (r : RelV x u) : Vals (zs ++ [x]) (us ++ [u]) := h.append (.cons r .nil)
section
variable {P : Program} {w : World} {A : Around} {E : Value → Shared → Prop} {s : Shared}
/-- a set of numbers and texts, zs in any order -/
def SetK (P : Program) (w : World) (led : Bool) (h : Heap) (a : Addr) (zs : List Key) : Prop :=
  ∃ o es ep t, h.get? a = some o ∧ o.ExactSet ∧ o.data = .set es ep t ∧ ElemsOf (mixKind P w) es.toList ∧ (∃ us : List Value, (es.toList.map (·.2)).Perm us ∧ Vals (zs.map kV) us) ∧ zs.Nodup
    ∧ es.size < scanBound ∧ t.fits es.size = true ∧ t.led = led ∧ Rise t.place
theorem SetK.mem {zs : List Key} {es : Array (Int × Value)} {us : List Value} (hp : (es.toList.map (·.2)).Perm us) (hs : Vals (zs.map kV) us) (x : Key) :
    (∃ e ∈ es.toList, (mixKind P w).is x e.2 = true) ↔ x ∈ zs := by
  constructor
  · rintro ⟨e, he, hk⟩
    obtain ⟨n, hn⟩ := List.getElem?_of_mem (hp.mem_iff.mp (List.mem_map_of_mem he))
    have hl := hs.length
    rw [List.length_map] at hl
    have hz : n < zs.length := by rw [hl]; exact (List.getElem?_eq_some_iff.mp hn).1
    obtain ⟨u, h1, h2⟩ := hs.get (i := n) (x := kV zs[n]) (by rw [List.getElem?_map, List.getElem?_eq_getElem hz]; rfl)
    rw [hn] at h1
    cases Option.some.inj h1
    rw [(mixKind P w).inj _ _ _ hk (kV_is h2)]
    exact List.getElem_mem hz
  · intro hx
    obtain ⟨n, hn⟩ := List.getElem?_of_mem hx
    obtain ⟨u, h1, h2⟩ := hs.get (i := n) (x := kV x) (by rw [List.getElem?_map, hn]; rfl)
    obtain ⟨e, he, h3⟩ := List.mem_map.mp (hp.mem_iff.mpr (List.mem_of_getElem? h1))
    exact ⟨e, he, by rw [h3]; exact kV_is h2⟩
theorem kset_add {led : Bool} {a : Addr} {zs : List Key} {x : Key} {u : Value} {Q : Bool → Shared → Prop} (ru : RelV (kV x) u) (hS : SetK P w led s.heap a zs) (hroom : zs.length + 1 < scanBound)
    (h : ∀ h', Heap.SameBut a s.heap h' → SetK P w led h' a (if x ∈ zs then zs else zs ++ [x]) → Q (!decide (x ∈ zs)) { s with heap := h', toks := s.toks + 1 }) :
    wpAny (model P w) A (setAdd a u) Q E s := by
  obtain ⟨o, es, ep, t, ho, hex, hd, hel, ⟨us, hp, hs⟩, hnd, hb, hf, hled, hpl⟩ := hS
  have hkey : (mixKind P w).is x u = true := kV_is ru
  have hsc := key_scan ru
  have hsz : es.size = zs.length := by
    have e1 := hp.length_eq
    rw [List.length_map, Array.length_toList] at e1
    rw [e1]
    have e2 := hs.length
    rw [List.length_map] at e2
    exact e2.symm
  have hm := SetK.mem (P := P) (w := w) hp hs x
  unfold setAdd
  refine wpAny_holding (wpAny_bind ((mixKind P w).pyHash hkey ?_))
  unfold setAddHashed setAddHashedIn
  refine wpAny_holding (wpAny_bind (wpAny_setState_of (s := { s with toks := s.toks + 1 }) ho hd hf ?_))
  dsimp only
  rw [byScan_of (knd := mixKind P w) hsc hb hel, if_pos rfl]
  unfold setAddByScan
  refine wpAny_bind (wpAny_bind (wpAny_rule (wpAny_bind (wpAny_setScan_of (s := { s with toks := s.toks + 1 }) hkey ho hd hf hel ?_))))
  cases hr : List.findIdx? (fun e => (mixKind P w).is x e.2) es.toList with
  | some j =>
    obtain ⟨hj, hpj, _⟩ := List.findIdx?_eq_some_iff_getElem.mp hr
    have hx : x ∈ zs := hm.mp ⟨es.toList[j], List.getElem_mem hj, hpj⟩
    have q := h s.heap (Heap.SameBut.refl a s.heap) (by rw [if_pos hx]; exact ⟨o, es, ep, t, ho, hex, hd, hel, ⟨us, hp, hs⟩, hnd, hb, hf, hled, hpl⟩)
    rw [decide_eq_true hx] at q
    exact wpAny_pure (wpAny_pure q)
  | none =>
    have hx : x ∉ zs := fun z => by
      obtain ⟨e, he, hk⟩ := hm.mpr z
      have y := List.findIdx?_eq_none_iff.mp hr e he
      rw [hk] at y
      cases y
    have hgw : ∀ (b : Bool) (s₁ : Shared) (Q' : Unit → Shared → Prop), Q' () s₁ → wpAny (model P w) A (match b with | true => rule "set.scan.the-table-gave-way" | false => pure ()) Q' E s₁ := fun b s₁ Q' hq => by
      cases b
      · exact wpAny_pure hq
      · exact wpAny_rule hq
    have l1 := layNew_perm t es ((mixKind P w).hash x) u
    have l2 := layNew_fits t es ((mixKind P w).hash x) u
    have l3 := led_lay t es ((mixKind P w).hash x) u
    have l4 := rise_lay hpl es ((mixKind P w).hash x) u
    generalize layNew t es ((mixKind P w).hash x) u = L at l1 l2 l3 l4 ⊢
    obtain ⟨es1, t1, wasDummy, gave⟩ := L
    dsimp only at l1 l2 l3 l4 ⊢
    rw [Array.toList_push] at l1
    have hsz1 : es1.size = zs.length + 1 := by
      rw [← Array.length_toList, l1.length_eq, List.length_append, Array.length_toList, hsz]; rfl
    have hb1 : es1.size < scanBound := by rw [hsz1]; exact hroom
    have hel1 : ElemsOf (mixKind P w) es1.toList := (hel.push hkey hsc).perm l1
    have fin : ∀ (es2 : Array (Int × Value)) (t2 : SetTable) (o2 : Obj) (ep2 : Nat) (h2 : Heap), es2.toList.Perm es1.toList → t2.fits es2.size = true → t2.led = t.led → Rise t2.place → o2.ExactSet → o2.data = .set es2 ep2 t2 → h2.get? a = some o2 →
        SetK P w led h2 a (if x ∈ zs then zs else zs ++ [x]) := fun es2 t2 o2 ep2 h2 p2 f2 e1 e2 x2 d2 g2 => by
      rw [if_neg hx]
      have hz2 : es2.size = es1.size := by rw [← Array.length_toList, p2.length_eq, Array.length_toList]
      refine ⟨o2, es2, ep2, t2, g2, x2, d2, hel1.perm p2, ⟨us ++ [u], ?_, ?_⟩, ?_, by omega, f2, e1.trans hled, e2⟩
      · refine ((p2.trans l1).map _).trans ?_
        rw [List.map_append]
        exact hp.append_right _
      · rw [List.map_append]; exact vals_snoc hs ru
      · exact List.nodup_append.mpr ⟨hnd, by simp, fun a ha b hb e => hx (by rw [List.mem_singleton] at hb; rw [← hb, ← e]; exact ha)⟩
    refine wpAny_bind (hgw gave _ _ ?_)
    have tail : ∀ (g : Bool → Sem Unit) (t2 : SetTable) (R : Option Bool → Shared → Prop), (∀ (b : Bool) (s₁ : Shared) (Q' : Unit → Shared → Prop), Q' () s₁ → wpAny (model P w) A (g b) Q' E s₁) → Rise t2.place → t2.led = t.led → t2.fits es1.size = true →
        (∀ h', Heap.SameBut a s.heap h' → SetK P w led h' a (if x ∈ zs then zs else zs ++ [x]) → R (some true) { s with heap := h', toks := s.toks + 1 }) →
        wpAny (model P w) A (do
          storeSet a es1 t2
          if (!wasDummy && t2.tooFull) = true then do
              g (relayAll t2 es1 (SetTable.grown es1.size)).2.2
              storeSet a (relayAll t2 es1 (SetTable.grown es1.size)).1 (relayAll t2 es1 (SetTable.grown es1.size)).2.1
              pure (some true)
            else pure (some true)) R E { s with toks := s.toks + 1 } := fun g t2 R hg e2 e1 f2 hR => by
      have ga : ∀ (h0 : Heap) (o0 : Obj) (es0 : Array (Int × Value)) (ep0 : Nat) (t0 : SetTable) (es' : Array (Int × Value)) (t' : SetTable), h0.get? a = some o0 → o0.data = .set es0 ep0 t0 → (h0.update a (Obj.putSet es' t')).get? a = some { o0 with data := .set es' (ep0 + 1) t' } := fun h0 o0 es0 ep0 t0 es' t' q1 q2 => by
        have z := Heap.get?_update_self (Obj.putSet es' t') q1 (by rw [putSet_of es' t' q2]; rfl)
        rw [putSet_of es' t' q2] at z
        exact z
      have g1 := ga s.heap o es ep t es1 t2 ho hd
      refine wpAny_bind (wpAny_storeSet_of (s := { s with toks := s.toks + 1 }) ho hd ?_ (fits_of_scanBound hb1))
      split
      · have r1 := relayAll_perm t2 es1 (SetTable.grown es1.size)
        have r2 := relayAll_fits t2 es1 (SetTable.grown es1.size)
        have r3 := led_relay t2 es1 (SetTable.grown es1.size)
        have hz2 : (relayAll t2 es1 (SetTable.grown es1.size)).1.size = es1.size := by rw [← Array.length_toList, r1.length_eq, Array.length_toList]
        refine wpAny_bind (hg _ _ _ (wpAny_bind (wpAny_storeSet_of (s := { s with heap := s.heap.update a (Obj.putSet es1 t2), toks := s.toks + 1 }) g1 rfl ?_ (fits_of_scanBound (by rw [hz2]; exact hb1)))))
        have np := rise_relay e2 es1 (SetTable.grown es1.size)
        exact wpAny_pure (hR _ ((Heap.SameBut.update s.heap a _).trans (Heap.SameBut.update _ a _)) (fin _ _ { o with data := .set (relayAll t2 es1 (SetTable.grown es1.size)).1 (ep + 1 + 1) (relayAll t2 es1 (SetTable.grown es1.size)).2.1 } (ep + 1 + 1) _ r1 r2 (r3.trans e1) np hex rfl (ga _ { o with data := .set es1 (ep + 1) t2 } es1 (ep + 1) t2 _ _ g1 rfl)))
      · exact wpAny_pure (hR _ (Heap.SameBut.update s.heap a _) (fin es1 t2 { o with data := .set es1 (ep + 1) t2 } (ep + 1) _ (.refl _) f2 e1 e2 hex rfl g1))
    have q : ∀ h', Heap.SameBut a s.heap h' → SetK P w led h' a (if x ∈ zs then zs else zs ++ [x]) → wpAny (model P w) A (pure true) Q E { s with heap := h', toks := s.toks + 1 } := fun h' c1 c2 => by
      have q := h h' c1 c2
      rw [decide_eq_false hx] at q
      exact wpAny_pure q
    cases hp1 : t1.plain
    · rw [if_neg (fun z => nomatch z)]
      refine wpAny_bind (wpAny_pure ?_)
      exact tail _ t1 _ hgw l4 l3 l2 q
    · simp only [if_true]
      rw [hashByValue_scannable 8 hsc]
      refine wpAny_bind (wpAny_pure ?_)
      cases plainKind u
      · exact tail _ { t1 with plain := false } _ hgw l4 l3 (SetTable.fits_plain_off l2) q
      · exact tail _ t1 _ hgw l4 l3 l2 q
end
end L2
namespace L2
open PySem PySem.Spec PyProof.Rows
section
variable {P : Program} {w : World} {A : Around} {E : Value → Shared → Prop} {s : Shared}
theorem setK_new {h : Heap} {a : Addr} (e : h.get? a = some (setO w)) : SetK P w (led0 w) h a [] := by
  refine ⟨_, #[], 0, _, e, ⟨rfl, rfl, rfl⟩, rfl, ?_, ⟨[], List.Perm.refl _, .nil⟩, List.Pairwise.nil, by decide, rfl, rfl, ?_⟩
  · intro _ z
    simp at z
  · intro i j h hj
    exact absurd hj (Nat.not_lt_zero _)
def firstK (l : List Key) : List Key := l.foldl (fun σ v => if v ∈ σ then σ else σ ++ [v]) []
theorem firstK_snoc (l : List Key) (v : Key) : firstK (l ++ [v]) = if v ∈ firstK l then firstK l else firstK l ++ [v] := by
  unfold firstK
  rw [List.foldl_append]
  rfl
theorem firstK_go : ∀ (l σ : List Key), (l.foldl (fun σ v => if v ∈ σ then σ else σ ++ [v]) σ).length ≤ σ.length + l.length
  | [], _ => Nat.le_refl _
  | v :: l, σ => by
    rw [List.foldl_cons, List.length_cons]
    refine Nat.le_trans (firstK_go l _) ?_
    split
    · omega
    · rw [List.length_append, List.length_singleton]; omega
theorem firstK_le (l : List Key) : (firstK l).length ≤ l.length := by
  have q := firstK_go l []
  rw [List.length_nil, Nat.zero_add] at q
  exact q
theorem firstK_mem (l : List Key) : ∀ (σ : List Key) (x : Key), x ∈ l.foldl (fun σ v => if v ∈ σ then σ else σ ++ [v]) σ ↔ x ∈ σ ∨ x ∈ l := by
  induction l with
  | nil => intro σ x; simp
  | cons v l ih =>
    intro σ x
    rw [List.foldl_cons, ih]
    by_cases c : v ∈ σ
    · rw [if_pos c, List.mem_cons]
      exact ⟨fun z => z.imp id .inr, fun z => z.elim .inl fun z => z.elim (fun e => .inl (e ▸ c)) .inr⟩
    · rw [if_neg c, List.mem_append, List.mem_singleton, List.mem_cons]
      exact ⟨fun z => z.elim (fun z => z.imp id .inl) fun z => .inr (.inr z), fun z => z.elim (fun z => .inl (.inl z)) fun z => z.elim (fun z => .inl (.inr z)) .inr⟩
theorem firstK_nodup (l : List Key) : ∀ (σ : List Key), σ.Nodup → (l.foldl (fun σ v => if v ∈ σ then σ else σ ++ [v]) σ).Nodup := by
  induction l with
  | nil => intro σ h; exact h
  | cons v l ih =>
    intro σ h
    rw [List.foldl_cons]
    refine ih _ ?_
    by_cases c : v ∈ σ
    · rw [if_pos c]; exact h
    · rw [if_neg c]
      exact List.nodup_append.mpr ⟨h, List.nodup_cons.mpr ⟨List.not_mem_nil, List.nodup_nil⟩, fun a ha b hb e => c (by rw [← List.mem_singleton.mp hb, ← e]; exact ha)⟩
theorem vals_key : ∀ {us : List Value} {ys : List Key}, Vals (ys.map kV) us → ∀ (i : Nat) (v : Value), us[i]? = some v → ∃ y, ys[i]? = some y ∧ RelV (kV y) v := fun {us ys} r i v e => by
  have hl := r.length
  rw [List.length_map] at hl
  have hi : i < ys.length := by rw [hl]; exact (List.getElem?_eq_some_iff.mp e).1
  obtain ⟨u, h1, h2⟩ := r.get (i := i) (x := kV ys[i]) (by rw [List.getElem?_map, List.getElem?_eq_getElem hi]; rfl)
  rw [e] at h1
  cases Option.some.inj h1
  exact ⟨_, List.getElem?_eq_getElem hi, h2⟩
theorem SetK.keep {led : Bool} {h h' : Heap} {a : Addr} {zs : List Key} (x : SetK P w led h a zs) (k : ∀ o, h.get? a = some o → h'.get? a = some o) : SetK P w led h' a zs := by
  obtain ⟨o, es, ep, t, e, r⟩ := x
  exact ⟨o, es, ep, t, k o e, r⟩
variable {R : Result → Shared → Prop} {I : Addr} {fp wr : List Addr} {G : Array GenState → Array GenState → Prop} {n : Nat} {Pv : Nat → Value → Prop} {St : Nat → Shared → Prop}
theorem loop_setK {led : Bool} (W : WalksS P w A.in1 I fp wr G n Pv St) (S : Addr) (hSf : S ∉ fp) (ys : List Key) (hn : ys.length = n) (hval : ∀ i v, Pv i v → ∃ y, ys[i]? = some y ∧ RelV (kV y) v) (hb : n + 1 < scanBound) :
    ∀ (k i : Nat) (s : Shared), n - i = k → i ≤ n → St i s → SetK P w led s.heap S (firstK (ys.take i)) →
      (∀ s', Moved (S :: wr) G s s' → SetK P w led s'.heap S (firstK ys) → R (.ok (.ret .none)) s') →
      codeAny (model P w) A (.builtin "set.update.loop" ⟨[.ref S, .ref I], []⟩) R s := by
  have hSw : S ∉ wr := fun z => hSf (W.sub _ z)
  have up : ∀ b ∈ wr, b ∈ S :: wr := fun b z => .tail _ z
  intro k
  induction k with
  | zero =>
    intro i s hk hi hst hS hR
    obtain rfl : i = n := by omega
    refine codeAny_builtin F.entry_set_update_loop (by
      rw [PySem.Around.under_plainId F.plain_set_update_loop _]
      refine (show wpAny _ A.in1 (pyNext (.ref I) >>= _) _ _ s from wpAny_bind (W.done s _ _ hst fun s' hm => ?_))
      refine (show wpAny _ A.in1 (ret Value.none) _ _ s' from wpAny_pure (hR s' (hm.mono up) ?_))
      rw [List.take_of_length_le (by omega)] at hS
      exact hS.keep fun o e => hm.heap S o hSw e)
  | succ k ih =>
    intro i s hk hi hst hS hR
    have hlt : i < n := by omega
    refine codeAny_builtin F.entry_set_update_loop (by
      rw [PySem.Around.under_plainId F.plain_set_update_loop _]
      refine (show wpAny _ A.in1 (pyNext (.ref I) >>= _) _ _ s from wpAny_bind (W.item i s _ _ hlt hst fun v s' hP hst' hm => ?_))
      obtain ⟨y, hy, ry⟩ := hval i v hP
      have hS' : SetK P w led s'.heap S (firstK (ys.take i)) := hS.keep fun o e => hm.heap S o hSw e
      refine (show wpAny _ A.in1 (holding [v] (setAdd S v) >>= _) _ _ s' from wpAny_bind (wpAny_holding (kset_add ry hS' ?_ fun h' hsb hS2 => ?_)))
      · have q := firstK_le (ys.take i)
        rw [List.length_take] at q
        omega
      have e1 : ys.take (i + 1) = ys.take i ++ [y] := by rw [List.take_succ, hy]; rfl
      rw [← firstK_snoc, ← e1] at hS2
      refine wpAny_pure ⟨plainId_quiet F.plain_set_update_loop _, ih (i + 1) _ (by omega) hlt (W.frame _ s' _ _ hst' (Nat.le_succ _) fun b z o e => ?_) hS2 fun s'' hm'' hS'' => ?_⟩
      · exact (hsb.2 b fun q : b = S => hSf (q ▸ z)).trans e
      · refine hR s'' (Moved.trans W.gtrans ((hm.mono up).then_heap (Nat.le_succ _) fun b o z e => ?_) hm'') hS''
        exact (hsb.2 b fun q : b = S => z (by rw [q]; exact .head _)).trans e)
set_option maxHeartbeats 8000000 in
theorem init_setK {S l : Addr} {items : Array Value} {ys : List Key} {R : Result → Shared → Prop} (hh : A.handled = none) (hS : s.heap.get? S = some (setO w)) (hl : s.heap.IsList l items) (hs : Vals (ys.map kV) items.toList) (hb : items.size + 1 < scanBound)
    (h : ∀ (h' : Heap) (tk : Nat), SetK P w (led0 w) h' S (firstK ys) → (∀ b o, b ≠ S → s.heap.get? b = some o → h'.get? b = some o) → R (.ok (.ret .none)) { s with heap := h', toks := tk }) :
    codeAny (model P w) A (.call (.builtin "set.__init__") ⟨[.ref S, .ref l], []⟩) R s := by
  have hT : s.TypeIs (.ref S) "set" := ⟨_, hS, rfl⟩
  refine codeAny_call_builtin PySem.F.called_set.init.plain PySem.F.entry_set_init (check_set_init_1 hT ?_)
  obtain ⟨ol, hol, hcl, nl, hdl⟩ := id hl
  have hne : l ≠ S := fun z => by
    rw [z, hS] at hol
    cases hol
    have y : Value.type "set" = Value.type "list" := hcl
    simp at y
  obtain ⟨ocls, odict, odata, oslots⟩ := ol
  obtain rfl : ocls = _ := hcl
  obtain rfl : odata = _ := hdl
  have c1 := PySem.F.sub_list_set
  have c2 := PySem.F.sub_list_frozenset
  have c3 : (Value.type "list" == Value.type "dict") = false := by decide
  unfold Builtin.«set.__init__» noKeywords
  unfold Builtin.Frozenset.updateFrom
  generalize hPI : pyIter = PI
  wp_walk
  subst hPI
  refine wpAny_pyIter_list hl (wpAny_bind (wpAny_runValue ?_))
  have hh3 : A.in1.in1.handled = none := by simp [hh]
  have hlt : l < s.heap.objs.size := Heap.lt_size hol
  have hsl : S < s.heap.objs.size := Heap.lt_size hS
  refine loop_setK (led := led0 w) ((Walks.list hh3 s.heap.objs.size l (Nat.ne_of_lt hlt) items).toS) S ?hf ys ?hn (fun i v e => vals_key hs i v (by rw [Array.getElem?_toList]; exact e)) hb (items.size - 0) 0 _ rfl (Nat.zero_le _) ⟨⟨_, Heap.get?_push_size _ rfl, rfl, rfl⟩, hl.push _⟩ ?hS0 ?hR
  case hf =>
    simp only [List.mem_cons, List.not_mem_nil, or_false, not_or]
    exact ⟨Nat.ne_of_lt hsl, fun z => hne z.symm⟩
  case hn =>
    have q := hs.length
    rw [List.length_map, Array.length_toList] at q
    exact q
  case hS0 => exact setK_new (Heap.get?_push_of_some _ hS)
  case hR =>
    intro s' hm hS'
    obtain ⟨h', g', d', tk', os'⟩ := s'
    obtain rfl : g' = s.gens := hm.gens
    obtain rfl : d' = s.drawn := hm.drawn
    obtain rfl : os' = s.os := hm.os
    refine wpAny_pure (show wpAny _ _ (ret Value.none) _ _ _ from wpAny_pure (h h' tk' hS' fun b o hbS e => ?_))
    refine hm.heap b o (fun z => ?_) (Heap.get?_push_of_some _ e)
    simp only [List.mem_cons, List.not_mem_nil, or_false] at z
    rcases z with z | z
    · exact hbS z
    · exact absurd (Heap.lt_size e) (by rw [z]; exact Nat.lt_irrefl _)
set_option maxHeartbeats 8000000 in
theorem call_setK {l : Addr} {items : Array Value} {ys : List Key} {Q : Value → Shared → Prop} (hh : A.handled = none) (hl : s.heap.IsList l items) (hs : Vals (ys.map kV) items.toList) (hb : items.size + 1 < scanBound)
    (h : ∀ (h' : Heap) (tk : Nat), SetK P w (led0 w) h' s.heap.objs.size (firstK ys) → (∀ b o, s.heap.get? b = some o → h'.get? b = some o) → Q (.ref s.heap.objs.size) { s with heap := h', toks := tk }) :
    wpAny (model P w) A (call (.type "set") [.ref l]) Q E s := by
  obtain ⟨c, tl, hmro⟩ := PySem.F.called_set.mro
  have c1 := PySem.F.called_set.made
  have c2 := PySem.F.called_set.sub
  have c3 := PySem.F.called_set.notType
  have c4 := PySem.F.called_set.canCreate
  have c5 := PySem.F.typeCall_set_1 (.ref l)
  refine wpAny_call (codeAny_of_tree (show wpAny _ _ (callAny (.type "set") _) _ _ _ from wpAny_pure ⟨Code.quiet_builtin _ (by decide +kernel), codeAny_builtin PySem.F.entry_type_call ?_⟩))
  rw [PySem.Around.under_plain (weight_type_call_type "set" [.ref l] []) rfl]
  repeat (any_goals (first | assumption | wp_step))
  refine codeAny_mono (set_new_led (P := P) (E := E) (rest := [.ref l]) (Q₁ := fun obj s₁ => obj = .ref s.heap.objs.size ∧ s₁ = { s with heap := s.heap.push (setO w) }) (PySem.F.newCall_set_1 _) ⟨rfl, rfl⟩) fun r s₁ hr => ?_
  cases r with
  | error e => exact hr
  | ok fl =>
    cases fl with
    | ret obj =>
      obtain ⟨rfl, rfl⟩ := hr
      have hS : (s.heap.push (setO w)).get? s.heap.objs.size = some (setO w) := Heap.get?_push_size _ rfl
      have hT : Shared.TypeIs { s with heap := s.heap.push (setO w) } (.ref s.heap.objs.size) "set" := ⟨_, hS, rfl⟩
      have c6 := PySem.F.called_set.init.lookup
      have c7 := PySem.F.called_set.init.bind (.ref s.heap.objs.size)
      repeat (any_goals (first | assumption | wp_step))
      refine init_setK (s := { s with heap := s.heap.push (setO w) }) (by simp [hh]) hS (hl.push _) hs hb fun h' tk x k => ?_
      refine wpAny_pure (wpAny_pure (h h' tk x fun b o e => k b o (Nat.ne_of_lt (Heap.lt_size e)) (Heap.get?_push_of_some _ e)))
    | _ => exact hr.elim
set_option maxHeartbeats 8000000 in
theorem init_setKT {S l : Addr} {items : Array Value} {ys : List Key} {R : Result → Shared → Prop} (hh : A.handled = none) (hS : s.heap.get? S = some (setO w)) (hl : s.heap.IsTuple l items) (hs : Vals (ys.map kV) items.toList) (hb : items.size + 1 < scanBound)
    (h : ∀ (h' : Heap) (tk : Nat), SetK P w (led0 w) h' S (firstK ys) → (∀ b o, b ≠ S → s.heap.get? b = some o → h'.get? b = some o) → R (.ok (.ret .none)) { s with heap := h', toks := tk }) :
    codeAny (model P w) A (.call (.builtin "set.__init__") ⟨[.ref S, .ref l], []⟩) R s := by
  have hT : s.TypeIs (.ref S) "set" := ⟨_, hS, rfl⟩
  refine codeAny_call_builtin PySem.F.called_set.init.plain PySem.F.entry_set_init (check_set_init_1 hT ?_)
  obtain ⟨ol, hol, hcl, nl, hdl⟩ := id hl
  have hne : l ≠ S := fun z => by
    rw [z, hS] at hol
    cases hol
    have y : Value.type "set" = Value.type "tuple" := hcl
    simp at y
  obtain ⟨ocls, odict, odata, oslots⟩ := ol
  obtain rfl : ocls = _ := hcl
  obtain rfl : odata = _ := hdl
  have c1 := sub_tup_set
  have c2 := sub_tup_frozen
  have c3 : (Value.type "tuple" == Value.type "dict") = false := by decide
  unfold Builtin.«set.__init__» noKeywords
  unfold Builtin.Frozenset.updateFrom
  generalize hPI : pyIter = PI
  wp_walk
  subst hPI
  refine wpAny_pyIter_tuple hl (wpAny_bind (wpAny_runValue ?_))
  have hh3 : A.in1.in1.handled = none := by simp [hh]
  have hlt : l < s.heap.objs.size := Heap.lt_size hol
  have hsl : S < s.heap.objs.size := Heap.lt_size hS
  refine loop_setK (led := led0 w) ((Walks.tuple hh3 s.heap.objs.size l (Nat.ne_of_lt hlt) items).toS) S ?hf ys ?hn (fun i v e => vals_key hs i v (by rw [Array.getElem?_toList]; exact e)) hb (items.size - 0) 0 _ rfl (Nat.zero_le _) ⟨⟨_, Heap.get?_push_size _ rfl, rfl, rfl⟩, hl.push _⟩ ?hS0 ?hR
  case hf =>
    simp only [List.mem_cons, List.not_mem_nil, or_false, not_or]
    exact ⟨Nat.ne_of_lt hsl, fun z => hne z.symm⟩
  case hn =>
    have q := hs.length
    rw [List.length_map, Array.length_toList] at q
    exact q
  case hS0 => exact setK_new (Heap.get?_push_of_some _ hS)
  case hR =>
    intro s' hm hS'
    obtain ⟨h', g', d', tk', os'⟩ := s'
    obtain rfl : g' = s.gens := hm.gens
    obtain rfl : d' = s.drawn := hm.drawn
    obtain rfl : os' = s.os := hm.os
    refine wpAny_pure (show wpAny _ _ (ret Value.none) _ _ _ from wpAny_pure (h h' tk' hS' fun b o hbS e => ?_))
    refine hm.heap b o (fun z => ?_) (Heap.get?_push_of_some _ e)
    simp only [List.mem_cons, List.not_mem_nil, or_false] at z
    rcases z with z | z
    · exact hbS z
    · exact absurd (Heap.lt_size e) (by rw [z]; exact Nat.lt_irrefl _)
set_option maxHeartbeats 8000000 in
theorem call_setKT {l : Addr} {items : Array Value} {ys : List Key} {Q : Value → Shared → Prop} (hh : A.handled = none) (hl : s.heap.IsTuple l items) (hs : Vals (ys.map kV) items.toList) (hb : items.size + 1 < scanBound)
    (h : ∀ (h' : Heap) (tk : Nat), SetK P w (led0 w) h' s.heap.objs.size (firstK ys) → (∀ b o, s.heap.get? b = some o → h'.get? b = some o) → Q (.ref s.heap.objs.size) { s with heap := h', toks := tk }) :
    wpAny (model P w) A (call (.type "set") [.ref l]) Q E s := by
  obtain ⟨c, tl, hmro⟩ := PySem.F.called_set.mro
  have c1 := PySem.F.called_set.made
  have c2 := PySem.F.called_set.sub
  have c3 := PySem.F.called_set.notType
  have c4 := PySem.F.called_set.canCreate
  have c5 := PySem.F.typeCall_set_1 (.ref l)
  refine wpAny_call (codeAny_of_tree (show wpAny _ _ (callAny (.type "set") _) _ _ _ from wpAny_pure ⟨Code.quiet_builtin _ (by decide +kernel), codeAny_builtin PySem.F.entry_type_call ?_⟩))
  rw [PySem.Around.under_plain (weight_type_call_type "set" [.ref l] []) rfl]
  repeat (any_goals (first | assumption | wp_step))
  refine codeAny_mono (set_new_led (P := P) (E := E) (rest := [.ref l]) (Q₁ := fun obj s₁ => obj = .ref s.heap.objs.size ∧ s₁ = { s with heap := s.heap.push (setO w) }) (PySem.F.newCall_set_1 _) ⟨rfl, rfl⟩) fun r s₁ hr => ?_
  cases r with
  | error e => exact hr
  | ok fl =>
    cases fl with
    | ret obj =>
      obtain ⟨rfl, rfl⟩ := hr
      have hS : (s.heap.push (setO w)).get? s.heap.objs.size = some (setO w) := Heap.get?_push_size _ rfl
      have hT : Shared.TypeIs { s with heap := s.heap.push (setO w) } (.ref s.heap.objs.size) "set" := ⟨_, hS, rfl⟩
      have c6 := PySem.F.called_set.init.lookup
      have c7 := PySem.F.called_set.init.bind (.ref s.heap.objs.size)
      repeat (any_goals (first | assumption | wp_step))
      refine init_setKT (s := { s with heap := s.heap.push (setO w) }) (by simp [hh]) hS (hl.push _) hs hb fun h' tk x k => ?_
      refine wpAny_pure (wpAny_pure (h h' tk x fun b o e => k b o (Nat.ne_of_lt (Heap.lt_size e)) (Heap.get?_push_of_some _ e)))
    | _ => exact hr.elim
end
end L2
namespace L2
open PySem PySem.Spec PyProof.Rows
section
variable {P : Program} {w : World} {A : Around} {E : Value → Shared → Prop} {s : Shared} {I S T : Addr} {i ep : Nat} {es : Array (Int × Value)} {t : SetTable} {o : Obj}
theorem nxt_flat {sl i : Nat} (hw : w.params.followText "set-order" = false) (hd : o.data = .set es ep t) (hf : t.fits es.size = true) (hled : t.led = true) (hn : (!t.plain && decide (es.size > 1)) = false) :
    Nxt P w o S sl i ep (match es[SetTable.below t.place sl]?, t.place[SetTable.below t.place sl]? with | some (_, x), some j => some (x, j + 1) | _, _ => none) := by
  intro A E s Q ho q
  unfold setNext
  refine wpAny_bind (wpAny_setState_of ho hd hf ?_)
  refine wpAny_bind (show wpAny _ _ (ask >>= fun a => pure (a.params.followText "set-order")) _ _ _ from wpAny_bind (wpAny_askSetting (wpAny_pure ?_)))
  dsimp only
  rw [if_neg (by rw [show (model P w).w.params.followText "set-order" = false from hw]; simp)]
  refine (show wpAny _ _ (if (!t.plain && decide (es.size > 1)) = true then _ else _) _ _ _ from ?_)
  rw [if_neg (by rw [hn]; exact fun z => nomatch z)]
  refine (show wpAny _ _ ((if (!t.led && !es.isEmpty) = true then unsupported "set:maker-not-led" else pure ()) >>= _) _ _ _ from ?_)
  rw [hled, if_neg (by simp)]
  exact wpAny_bind (wpAny_pure (wpAny_pure q))
theorem led_rise (hw : w.params.followText "set-order" = false) (hd : o.data = .set es ep t) (hf : t.fits es.size = true) (hled : t.led = true) (hn : (!t.plain && decide (es.size > 1)) = false) (hr : Rise t.place) :
    Led P w o S ep (es.toList.map (·.2)) (fun i => if i = 0 then 0 else t.place.getD (i - 1) 0 + 1) := by
  have hp : t.place.size = es.size := by
    simp only [SetTable.fits, Bool.and_eq_true, beq_iff_eq, decide_eq_true_eq] at hf
    exact hf.1
  have hb : ∀ i : Nat, i ≤ es.size → SetTable.below t.place (if i = 0 then 0 else t.place.getD (i - 1) 0 + 1) = i := fun i hi => by
    cases i with
    | zero => exact hr.first
    | succ k => exact hr.next (i := k) (by omega)
  refine ⟨fun i x e => ?_, ?_, rfl⟩
  · rw [List.getElem?_map, Array.getElem?_toList] at e
    obtain ⟨y, e1, rfl⟩ := Option.map_eq_some_iff.mp e
    have hi : i < es.size := (Array.getElem?_eq_some_iff.mp e1).1
    have q := nxt_flat (P := P) (S := S) (sl := if i = 0 then 0 else t.place.getD (i - 1) 0 + 1) (i := i) hw hd hf hled hn
    rw [hb i (by omega), e1, getD_lt (by omega : i < t.place.size)] at q
    exact q
  · have q := nxt_flat (P := P) (S := S) (sl := if (es.toList.map (·.2)).length = 0 then 0 else t.place.getD ((es.toList.map (·.2)).length - 1) 0 + 1) (i := (es.toList.map (·.2)).length) hw hd hf hled hn
    rw [hb _ (by rw [List.length_map, Array.length_toList]; exact Nat.le_refl _), Array.getElem?_eq_none (by rw [List.length_map, Array.length_toList]; exact Nat.le_refl _)] at q
    exact q
theorem ints_perm {us us0 : List Value} (hp : us.Perm us0) : ∀ {zs : List Int}, IntsAre us0 zs → ∃ zs', IntsAre us zs' ∧ zs'.Perm zs := by
  induction hp with
  | nil => intro zs h; exact ⟨zs, h, .refl _⟩
  | cons x _ ih =>
    intro zs h
    cases h with
    | cons n t r =>
      obtain ⟨zs', h1, h2⟩ := ih r
      exact ⟨_, .cons n t h1, h2.cons n⟩
  | swap x y l =>
    intro zs h
    cases h with
    | cons n t r =>
      cases r with
      | cons n' t' r' => exact ⟨_, .cons _ _ (.cons _ _ r'), List.Perm.swap ..⟩
  | trans _ _ ih1 ih2 =>
    intro zs h
    obtain ⟨z1, h1, p1⟩ := ih2 h
    obtain ⟨z2, h2, p2⟩ := ih1 h1
    exact ⟨z2, h2, p2.trans p1⟩
theorem collect_setK {zs : List Key} {Q : List Value → Shared → Prop} (hh : A.handled = none) (hS : SetK P w (led0 w) s.heap S zs)
    (h : ∀ s' us, (∀ b o, s.heap.get? b = some o → s'.heap.get? b = some o) → s'.gens = s.gens → s'.os = s.os → s.heap.objs.size < s'.heap.objs.size → (∃ us0, us.Perm us0 ∧ Vals (zs.map kV) us0) → Q us s') : wpAny (model P w) A (collect (.ref S)) Q E s := by
  obtain ⟨o, es, ep, t, ho, hex, hd, hel, ⟨us0, hp, hs⟩, hnd, hb, hf, hled, hpl⟩ := hS
  have ho0 : (s.heap.push { cls := .type "list", data := .seq ([] : List Value).toArray }).get? S = some o := Heap.get?_push_of_some _ ho
  have hl0 : (s.heap.push { cls := .type "list", data := .seq ([] : List Value).toArray }).get? s.heap.objs.size = some { cls := .type "list", data := .seq ([] : List Value).toArray } := Heap.get?_push_size _ rfl
  have hsz : (s.heap.push { cls := .type "list", data := .seq ([] : List Value).toArray }).objs.size = s.heap.objs.size + 1 := Heap.size_push _ _
  have hSl : S < s.heap.objs.size := Heap.lt_size ho
  have hlen : es.size ≤ sizeLine := fits_of_scanBound hb
  refine collect_set ⟨o, ho, hex.1⟩ (iter_set ho0 hex hd hf hb (fun hq => ?_) fun hq ps d hps => ?_)
  · have hled' : ∃ us sl, Led P w o S ep us sl ∧ us.Perm (es.toList.map (·.2)) := by
      cases hw : w.params.followText "set-order"
      · have hl1 : t.led = true := by rw [hled]; simp [hw]
        rw [hw] at hq
        exact ⟨_, _, led_rise hw hd hf hl1 (by simpa using hq) hpl, .refl _⟩
      · exact ⟨_, _, led_text hw hd hf, (pick_perm _ _).map _⟩
    obtain ⟨us, sl, L, hpu⟩ := hled'
    have hul : us.length ≤ sizeLine := by rw [hpu.length_eq, List.length_map, Array.length_toList]; exact hlen
    refine ⟨_, rfl, ⟨o, Heap.get?_push_of_some _ ho0, hex.1⟩, Heap.get?_push_of_some _ hl0, fun h' c k g => ?_⟩
    refine loop_walk (walk_led (I := (s.heap.push { cls := .type "list", data := .seq ([] : List Value).toArray }).objs.size) L (by simp [hh]) hd hf (by rw [hsz]; exact Nat.ne_of_lt (Nat.lt_succ_of_lt hSl))) hul ⟨?_, ?_⟩ ?_ g fun s' c' kk g1 g2 g3 => ⟨_, _, rfl, g3, h s' us (fun b o' e => ?_) g1 g2 (Heap.lt_size g3) ⟨us0, hpu.trans hp, hs⟩⟩
    · rw [L.zero]
      exact k _ _ (by rw [hsz]; exact Nat.succ_ne_self _) (Heap.get?_push_size _ rfl)
    · exact k _ _ (Nat.ne_of_lt hSl) (Heap.get?_push_of_some _ ho0)
    · rw [hsz]
      intro z
      rcases List.mem_cons.mp z with z | z
      · exact absurd z (Nat.ne_of_lt (Nat.lt_succ_self _))
      · exact absurd (List.mem_singleton.mp z) (Nat.ne_of_gt hSl)
    · have hbl := Heap.lt_size e
      exact kk b o' (Nat.ne_of_lt hbl) (by rw [hsz]; exact Nat.ne_of_lt (Nat.lt_succ_of_lt hbl)) (k b o' (Nat.ne_of_lt hbl) (Heap.get?_push_of_some _ (Heap.get?_push_of_some _ e)))
  · have hsz2 : ((s.heap.push { cls := .type "list", data := .seq ([] : List Value).toArray }).push { cls := .type "tuple", data := .seq (ps.map fun i : Nat => rawInt i).toArray }).objs.size = s.heap.objs.size + 1 + 1 := by rw [Heap.size_push, hsz]
    have hpu : (ps.map fun p => (es.toList.map (·.2)).getD p .none).Perm (es.toList.map (·.2)) := by
      have q := hps.map fun p => (es.toList.map (·.2)).getD p Value.none
      rw [show es.size = (es.toList.map (·.2)).length by rw [List.length_map, Array.length_toList], range_getD] at q
      exact q
    have hpl2 : (ps.map fun p => (es.toList.map (·.2)).getD p .none).length = ps.length := List.length_map _
    have hul : ps.length ≤ sizeLine := by rw [hps.length_eq, List.length_range]; exact hlen
    refine ⟨_, rfl, ⟨o, Heap.get?_push_of_some _ (Heap.get?_push_of_some _ ho0), hex.1⟩, Heap.get?_push_of_some _ (Heap.get?_push_of_some _ hl0), fun h' c k g => ?_⟩
    have W := walk_drawn (P := P) (w := w) (A := A.in1) (I := s.heap.objs.size + 1 + 1) (T := s.heap.objs.size + 1) (n := 0) (by simp [hh]) hd hf hps (Nat.ne_of_lt (Nat.lt_succ_of_lt (Nat.lt_succ_of_lt hSl))) (Nat.ne_of_lt (Nat.lt_succ_self _))
    rw [← hpl2] at W
    rw [hsz] at k ⊢
    refine loop_walk W (by rw [hpl2]; exact hul) ⟨?_, ?_, ?_⟩ ?_ g fun s' c' kk g1 g2 g3 => ⟨_, _, rfl, g3, h s' _ (fun b o' e => ?_) g1 g2 (Heap.lt_size g3) ⟨us0, hpu.trans hp, hs⟩⟩
    · exact k _ _ (Nat.ne_of_gt (Nat.lt_succ_of_lt (Nat.lt_succ_self _))) (by have q := Heap.get?_push_size ((s.heap.push { cls := .type "list", data := .seq ([] : List Value).toArray }).push { cls := .type "tuple", data := .seq (ps.map fun i : Nat => rawInt i).toArray }) (o := setItO (.ref (s.heap.objs.size + 1)) 0 S es.size ep) rfl; rw [hsz2] at q; exact q)
    · exact k _ _ (Nat.ne_of_lt hSl) (Heap.get?_push_of_some _ (Heap.get?_push_of_some _ ho0))
    · exact k _ _ (Nat.succ_ne_self _) (Heap.get?_push_of_some _ (by have q := Heap.get?_push_size (s.heap.push { cls := .type "list", data := .seq ([] : List Value).toArray }) (o := { cls := .type "tuple", data := .seq (ps.map fun i : Nat => rawInt i).toArray }) rfl; rw [hsz] at q; exact q))
    · intro z
      rcases List.mem_cons.mp z with z | z
      · exact absurd z (Nat.ne_of_lt (Nat.lt_succ_of_lt (Nat.lt_succ_self _)))
      · rcases List.mem_cons.mp z with z | z
        · exact absurd z (Nat.ne_of_gt hSl)
        · exact absurd (List.mem_singleton.mp z) (Nat.ne_of_lt (Nat.lt_succ_self _))
    · have hbl := Heap.lt_size e
      exact kk b o' (Nat.ne_of_lt hbl) (Nat.ne_of_lt (Nat.lt_succ_of_lt (Nat.lt_succ_of_lt hbl))) (k b o' (Nat.ne_of_lt hbl) (Heap.get?_push_of_some _ (Heap.get?_push_of_some _ (Heap.get?_push_of_some _ e))))
theorem sorted_setKS {zs : List Str} {Q : Value → Shared → Prop} (hh : A.handled = none) (hS : SetK P w (led0 w) s.heap S (zs.map Sum.inr)) (h64 : zs.length < 64)
    (h : ∀ s' l vs zs', (∀ b o, s.heap.get? b = some o → s'.heap.get? b = some o) → s'.gens = s.gens → s'.os = s.os → s.heap.objs.size ≤ l → (∃ e, s'.heap.get? l = some (seqObj "list" vs e)) → StrsAre vs.toList zs' → zs'.Perm zs → sortedS zs' = true → Q (.ref l) s') :
    wpAny (model P w) A (call (.builtin "sorted") [.ref S]) Q E s := by
  refine Calls.call_function_entry kind_sorted plain_sorted entry_sorted (args_sorted1 _) ?_
  unfold Builtin.«sorted»
  refine wpAny_bind (m := checkCount "sorted" 1 1 _) (wpAny_pure ?_)
  refine wpAny_bind (collect_setK (by simp [hh]) hS fun s1 us k1 g1 o1 z1 ⟨us0, hpu, hv⟩ => ?_)
  rw [List.map_map] at hv
  obtain ⟨zs1, hs1, hp1⟩ := strs_perm hpu (strs_vals hv)
  have hz : us.length = zs.length := by rw [strs_length hs1, hp1.length_eq]
  refine wpAny_bind (wpAny_newList ?_ (by rw [hz]; have := line63; have : (64 : Nat) ≤ sizeLine := by rw [sizeLine_eq]; decide
                                          omega))
  have hoL : (s1.heap.push (seqObj "list" us.toArray 0)).get? s1.heap.objs.size = some (seqObj "list" us.toArray 0) := Heap.get?_push_size _ rfl
  refine wpAny_bind (wpAny_holding (wpAny_call_entry slot_list_sort ⟨_, hoL, rfl⟩ entry_list_sort (list_sort_treeK strKind_oneLt hoL hs1.keysOf (fun v₁ v₂ rest e => keyKind_strs (by rw [← e]; exact hs1)) (by rw [hz]; exact h64) fun st' a1 a2 => ⟨_, rfl, ?_⟩) (args_list_sort _)))
  obtain ⟨ss', b1, b2, b3⟩ := sorted_out_str hs1 a1 a2
  refine wpAny_pure ⟨_, rfl, h _ _ _ ss' (fun b o e => ?_) g1 o1 ?_ (sortedHeap_at hoL) b1 (b2.trans hp1) b3⟩
  · have e1 := k1 b o e
    have hb := Heap.lt_size e1
    rw [sortedHeap_old (Nat.ne_of_lt hb) (by rw [Heap.size_push]; exact Nat.lt_succ_of_lt hb)]
    exact Heap.get?_push_of_some _ e1
  · exact Nat.le_of_lt z1
theorem sorted_setKI {zs : List Int} {Q : Value → Shared → Prop} (hh : A.handled = none) (hS : SetK P w (led0 w) s.heap S (zs.map Sum.inl)) (h64 : zs.length < 64)
    (h : ∀ s' l vs zs', (∀ b o, s.heap.get? b = some o → s'.heap.get? b = some o) → s'.gens = s.gens → s'.os = s.os → s.heap.objs.size ≤ l → (∃ e, s'.heap.get? l = some (seqObj "list" vs e)) → IntsAre vs.toList zs' → zs'.Perm zs → zs'.Pairwise (· ≤ ·) → Q (.ref l) s') :
    wpAny (model P w) A (call (.builtin "sorted") [.ref S]) Q E s := by
  refine Calls.call_function_entry kind_sorted plain_sorted entry_sorted (args_sorted1 _) ?_
  unfold Builtin.«sorted»
  refine wpAny_bind (m := checkCount "sorted" 1 1 _) (wpAny_pure ?_)
  refine wpAny_bind (collect_setK (by simp [hh]) hS fun s1 us k1 g1 o1 z1 ⟨us0, hpu, hv⟩ => ?_)
  rw [List.map_map] at hv
  have hl0 := hv.length
  rw [List.length_map] at hl0
  have hz : us.length = zs.length := by rw [hpu.length_eq]; exact hl0.symm
  obtain ⟨zs1, hs1, hp1⟩ := ints_perm hpu (intsAre_of hv)
  refine wpAny_bind (wpAny_newList ?_ (by rw [hz]; have := line63; have : (64 : Nat) ≤ sizeLine := by rw [sizeLine_eq]; decide
                                          omega))
  have hoL : (s1.heap.push (seqObj "list" us.toArray 0)).get? s1.heap.objs.size = some (seqObj "list" us.toArray 0) := Heap.get?_push_size _ rfl
  refine wpAny_bind (wpAny_holding (wpAny_call_entry slot_list_sort ⟨_, hoL, rfl⟩ entry_list_sort (list_sort_tree hoL hs1 (by rw [hz]; exact h64) fun out ns' b1 b2 b3 => ⟨_, rfl, ?_⟩) (args_list_sort _)))
  refine wpAny_pure ⟨_, rfl, h _ _ _ ns' (fun b o e => ?_) g1 o1 ?_ (sortedHeap_at hoL) b1 (b2.trans hp1) b3⟩
  · have e1 := k1 b o e
    have hb := Heap.lt_size e1
    rw [sortedHeap_old (Nat.ne_of_lt hb) (by rw [Heap.size_push]; exact Nat.lt_succ_of_lt hb)]
    exact Heap.get?_push_of_some _ e1
  · exact Nat.le_of_lt z1
end
end L2
namespace L2
open PySem PySem.Spec PyProof.Rows
theorem inr_mem {z : Str} {zs : List Str} : (Sum.inr z : Key) ∈ zs.map Sum.inr ↔ z ∈ zs := by simp
theorem firstK_inr (l : List Str) : ∀ σ : List Str, (l.map (Sum.inr : Str → Key)).foldl (fun σ v => if v ∈ σ then σ else σ ++ [v]) (σ.map Sum.inr) = (l.foldl (fun σ v => if v ∈ σ then σ else σ ++ [v]) σ).map Sum.inr := by
  induction l with
  | nil => intro σ; rfl
  | cons v l ih =>
    intro σ
    rw [List.map_cons, List.foldl_cons, List.foldl_cons, ← ih]
    by_cases c : v ∈ σ
    · rw [if_pos (inr_mem.mpr c), if_pos c]
    · rw [if_neg (fun z => c (inr_mem.mp z)), if_neg c, List.map_append]; rfl
theorem first_inr (ys : List Str) : firstK (ys.map Sum.inr) = (firstS ys).map Sum.inr := firstK_inr ys []
theorem add_inr {z : Str} {zs : List Str} : (if (Sum.inr z : Key) ∈ zs.map Sum.inr then zs.map Sum.inr else zs.map Sum.inr ++ [Sum.inr z]) = (if z ∈ zs then zs else zs ++ [z]).map (Sum.inr : Str → Key) := by
  by_cases c : z ∈ zs
  · rw [if_pos (inr_mem.mpr c), if_pos c]
  · rw [if_neg (fun q => c (inr_mem.mp q)), if_neg c, List.map_append]; rfl
theorem first_inl (ys : List Int) : ∃ zs : List Int, firstK (ys.map Sum.inl) = zs.map Sum.inl ∧ zs.Nodup ∧ ∀ x, x ∈ zs ↔ x ∈ ys := by
  have hm := firstK_mem (ys.map (Sum.inl : Int → Key)) []
  have hn := firstK_nodup (ys.map (Sum.inl : Int → Key)) [] List.nodup_nil
  have all : ∀ l : List Key, (∀ k ∈ l, ∃ i, k = Sum.inl i) → ∃ zs : List Int, l = zs.map Sum.inl := by
    intro l
    induction l with
    | nil => exact fun _ => ⟨[], rfl⟩
    | cons k l ih =>
      intro h
      obtain ⟨i, rfl⟩ := h k List.mem_cons_self
      obtain ⟨zs, rfl⟩ := ih fun k hk => h k (List.mem_cons_of_mem _ hk)
      exact ⟨i :: zs, rfl⟩
  obtain ⟨zs, e⟩ := all (firstK (ys.map Sum.inl)) fun k hk => by
    rcases (hm k).mp hk with z | z
    · cases z
    · obtain ⟨i, _, rfl⟩ := List.mem_map.mp z
      exact ⟨i, rfl⟩
  refine ⟨zs, e, ?_, fun x => ?_⟩
  · have q : (zs.map (Sum.inl : Int → Key)).Nodup := by rw [← e]; exact hn
    exact (List.pairwise_map.mp q).imp fun h z => h (by rw [z])
  · have q := hm (Sum.inl x)
    rw [show (ys.map (Sum.inl : Int → Key)).foldl (fun σ v => if v ∈ σ then σ else σ ++ [v]) [] = firstK (ys.map Sum.inl) from rfl, e] at q
    simpa using q
section
variable {X : Cx}
/-- a set of texts, a set of numbers -/
def SetQ (P : Program) (w : World) (a : Addr) (zs : List Str) : HO := .ext fun h => SetK P w (led0 w) h a (zs.map Sum.inr)
def SetN (P : Program) (w : World) (a : Addr) (zs : List Int) : HO := .ext fun h => SetK P w (led0 w) h a (zs.map Sum.inl)
theorem SetK.at_ {P : Program} {w : World} {b : Bool} {h : Heap} {a : Addr} {zs : List Key} (x : SetK P w b h a zs) : ∃ o, h.get? a = some o := let ⟨o, _, _, _, e, _⟩ := x; ⟨o, e⟩
theorem setQ_ok {P : Program} {w : World} {H : Hp} {h : Heap} {a : Addr} {zs : List Str} (x : SetK P w (led0 w) h a (zs.map Sum.inr)) : ObjOk P w H h a (SetQ P w a zs) := ⟨x, x.at_, fun _ _ y k => y.keep fun o e => k o e⟩
theorem setN_ok {P : Program} {w : World} {H : Hp} {h : Heap} {a : Addr} {zs : List Int} (x : SetK P w (led0 w) h a (zs.map Sum.inl)) : ObjOk P w H h a (SetN P w a zs) := ⟨x, x.at_, fun _ _ y k => y.keep fun o e => k o e⟩
theorem vals_inr {ys : List Str} {us : List Value} (h : Vals (ys.map V.str) us) : Vals ((ys.map (Sum.inr : Str → Key)).map kV) us := by rw [List.map_map]; exact h
theorem vals_inl {ys : List Int} {us : List Value} (h : Vals (ys.map V.int) us) : Vals ((ys.map (Sum.inl : Int → Key)).map kV) us := by rw [List.map_map]; exact h
/-- set(l), of a list of texts -/
theorem call_setQL (hc : X.calm = true) : CallR X (.type "set") (fun xs H Q => ∃ p ys, xs = [.ref p] ∧ SqL X.K H p (ys.map V.str) ∧ ys.length < 1000 ∧ ∀ l, H l = none → Q (.ref l) (upd H l (SetQ X.prog X.w l (firstS ys)))) := by
  intro pins s σ H xs us Q I r h
  obtain ⟨p, ys, rfl, hq, hz, q⟩ := h
  obtain ⟨u, rfl, rx⟩ := vals1 r
  cases rx
  obtain ⟨its, r', pl, hz'⟩ := I.list hq
  have hlen := r'.length
  rw [List.length_map] at hlen
  refine call_setK (P := X.prog) (w := X.w) ?hh pl.isList (vals_inr r') (by rw [List.size_toArray, ← hlen]; unfold scanBound; omega) fun h' tk x k => ?_
  case hh => exact I.ok.hd hc
  exact ⟨.ref s.heap.objs.size, _, I.laid (t' := tk) k (Nat.le_refl _) (setQ_ok (by rw [← first_inr]; exact x)), rfl, q _ I.fresh⟩
/-- set(l), of a list of numbers -/
theorem call_setNL (hc : X.calm = true) : CallR X (.type "set") (fun xs H Q => ∃ (p : Addr) (ys : List Int), xs = [.ref p] ∧ SqL X.K H p (ys.map V.int) ∧ ys.length < 1000 ∧ ∀ (l : Addr) (zs : List Int), H l = none → zs.Nodup → (∀ x, x ∈ zs ↔ x ∈ ys) → Q (.ref l) (upd H l (SetN X.prog X.w l zs))) := by
  intro pins s σ H xs us Q I r h
  obtain ⟨p, ys, rfl, hq, hz, q⟩ := h
  obtain ⟨u, rfl, rx⟩ := vals1 r
  cases rx
  obtain ⟨its, r', pl, hz'⟩ := I.list hq
  have hlen := r'.length
  rw [List.length_map] at hlen
  refine call_setK (P := X.prog) (w := X.w) ?hh pl.isList (vals_inl r') (by rw [List.size_toArray, ← hlen]; unfold scanBound; omega) fun h' tk x k => ?_
  case hh => exact I.ok.hd hc
  obtain ⟨zs, e1, e2, e3⟩ := first_inl ys
  exact ⟨.ref s.heap.objs.size, _, I.laid (t' := tk) k (Nat.le_refl _) (setN_ok (by rw [← e1]; exact x)), rfl, q _ zs I.fresh e2 e3⟩
/-- sorted(s), of a set of texts -/
theorem call_sortedQ (hc : X.calm = true) : CallR X (.builtin "sorted") (fun xs H Q => ∃ p zs, xs = [.ref p] ∧ H p = some (SetQ X.prog X.w p zs) ∧ zs.length < 64 ∧ ∀ l zs', H l = none → zs'.Perm zs → sortedS zs' = true → Q (.ref l) (upd H l (.lst (zs'.map V.str)))) := by
  intro pins s σ H xs us Q I r h
  obtain ⟨p, zs, rfl, hq, hz, q⟩ := h
  obtain ⟨u, rfl, rx⟩ := vals1 r
  cases rx
  have hS : SetK X.prog X.w (led0 X.w) s.heap p (zs.map Sum.inr) := (I.hok p _ hq).1
  refine sorted_setKS ?hh hS hz fun s' l vs zs' k g o hl ⟨e, he⟩ a1 a2 a3 => ?_
  case hh => exact I.ok.hd hc
  have hz2 : (zs'.map V.str).length ≤ sizeLine := by
    have q : (64 : Nat) ≤ sizeLine := by rw [sizeLine_eq]; decide
    rw [List.length_map, a2.length_eq]
    omega
  have J : Inv X pins σ (upd H l (.lst (zs'.map V.str))) s' :=
    I.call' (ch := []) o (Un.laid k hl (I.hok.fresh hl)) (I.hok.laid k hl (show ObjOk X.prog X.w _ _ _ (.lst (zs'.map V.str)) from ⟨hz2, vs.toList, e, vals_strs a1, he⟩)) (by rw [g]; exact I.bare) (fun _ z => nomatch z)
  exact ⟨.ref l, _, J, rfl, q _ _ (I.hok.fresh hl) a2 a3⟩
/-- sorted(s), of a set of numbers -/
theorem call_sortedN (hc : X.calm = true) : CallR X (.builtin "sorted") (fun xs H Q => ∃ (p : Addr) (zs : List Int), xs = [.ref p] ∧ H p = some (SetN X.prog X.w p zs) ∧ zs.length < 64 ∧ ∀ (l : Addr) (zs' : List Int), H l = none → zs'.Perm zs → zs'.Pairwise (· ≤ ·) → Q (.ref l) (upd H l (.lst (zs'.map V.int)))) := by
  intro pins s σ H xs us Q I r h
  obtain ⟨p, zs, rfl, hq, hz, q⟩ := h
  obtain ⟨u, rfl, rx⟩ := vals1 r
  cases rx
  have hS : SetK X.prog X.w (led0 X.w) s.heap p (zs.map Sum.inl) := (I.hok p _ hq).1
  refine sorted_setKI ?hh hS hz fun s' l vs zs' k g o hl ⟨e, he⟩ a1 a2 a3 => ?_
  case hh => exact I.ok.hd hc
  have hz2 : (zs'.map V.int).length ≤ sizeLine := by
    have q : (64 : Nat) ≤ sizeLine := by rw [sizeLine_eq]; decide
    rw [List.length_map, a2.length_eq]
    omega
  have J : Inv X pins σ (upd H l (.lst (zs'.map V.int))) s' :=
    I.call' (ch := []) o (Un.laid k hl (I.hok.fresh hl)) (I.hok.laid k hl (show ObjOk X.prog X.w _ _ _ (.lst (zs'.map V.int)) from ⟨hz2, vs.toList, e, vals_ints a1, he⟩)) (by rw [g]; exact I.bare) (fun _ z => nomatch z)
  exact ⟨.ref l, _, J, rfl, q _ _ (I.hok.fresh hl) a2 a3⟩
theorem call_setQT (hc : X.calm = true) : CallR X (.type "set") (fun xs H Q => ∃ p ys, xs = [.ref p] ∧ SqT X.K H p (ys.map V.str) ∧ ys.length < 1000 ∧ ∀ l, H l = none → Q (.ref l) (upd H l (SetQ X.prog X.w l (firstS ys)))) := by
  intro pins s σ H xs us Q I r h
  obtain ⟨p, ys, rfl, hq, hz, q⟩ := h
  obtain ⟨u, rfl, rx⟩ := vals1 r
  cases rx
  obtain ⟨its, r', pl, hz'⟩ := I.tuple hq
  have hlen := r'.length
  rw [List.length_map] at hlen
  obtain ⟨o, ho, hc1, n, hd⟩ := pl
  refine call_setKT (P := X.prog) (w := X.w) (I.ok.hd hc) ⟨o, ho, hc1, n, hd⟩ (vals_inr r') (by rw [List.size_toArray, ← hlen]; unfold scanBound; omega) fun h' tk x k => ?_
  exact ⟨.ref s.heap.objs.size, _, I.laid (t' := tk) k (Nat.le_refl _) (setQ_ok (by rw [← first_inr]; exact x)), rfl, q _ I.fresh⟩
theorem call_setQ0 : CallR X (.type "set") (fun xs H Q => xs = [] ∧ ∀ l, H l = none → Q (.ref l) (upd H l (SetQ X.prog X.w l []))) := by
  intro pins s σ H xs us Q I r h
  obtain ⟨rfl, q⟩ := h
  cases r
  refine call_set0 ?_
  exact ⟨.ref s.heap.objs.size, _, I.laid (t' := s.toks) (fun b o e => Heap.get?_push_of_some _ e) (Nat.le_refl _) (setQ_ok (setK_new (Heap.get?_push_size _ rfl))), rfl, q _ I.fresh⟩
theorem call_set_anyQ (hc : X.calm = true) : CallR X (.type "set") (fun xs H Q => ((∃ p ys, xs = [.ref p] ∧ SqL X.K H p (ys.map V.str) ∧ ys.length < 1000 ∧ ∀ l, H l = none → Q (.ref l) (upd H l (SetQ X.prog X.w l (firstS ys)))) ∨
    ∃ p ys, xs = [.ref p] ∧ SqT X.K H p (ys.map V.str) ∧ ys.length < 1000 ∧ ∀ l, H l = none → Q (.ref l) (upd H l (SetQ X.prog X.w l (firstS ys)))) ∨
    ∃ (p : Addr) (ys : List Int), xs = [.ref p] ∧ SqL X.K H p (ys.map V.int) ∧ ys.length < 1000 ∧ ∀ (l : Addr) (zs : List Int), H l = none → zs.Nodup → (∀ x, x ∈ zs ↔ x ∈ ys) → Q (.ref l) (upd H l (SetN X.prog X.w l zs))) := ((call_setQL hc).or (call_setQT hc)).or (call_setNL hc)
theorem call_sorted_setQ (hc : X.calm = true) : CallR X (.builtin "sorted") (fun xs H Q => (∃ p zs, xs = [.ref p] ∧ H p = some (SetQ X.prog X.w p zs) ∧ zs.length < 64 ∧ ∀ l zs', H l = none → zs'.Perm zs → sortedS zs' = true → Q (.ref l) (upd H l (.lst (zs'.map V.str)))) ∨
    ∃ (p : Addr) (zs : List Int), xs = [.ref p] ∧ H p = some (SetN X.prog X.w p zs) ∧ zs.length < 64 ∧ ∀ (l : Addr) (zs' : List Int), H l = none → zs'.Perm zs → zs'.Pairwise (· ≤ ·) → Q (.ref l) (upd H l (.lst (zs'.map V.int)))) := (call_sortedQ hc).or (call_sortedN hc)
theorem SetK.setOf {P : Program} {w : World} {b : Bool} {h : Heap} {a : Addr} {zs : List Key} (x : SetK P w b h a zs) : h.SetOf (mixKind P w) a (fun k => decide (k ∈ zs)) zs.length := by
  obtain ⟨o, es, ep, t, ho, hex, hd, hel, ⟨us, hp, hs⟩, hnd, hb, hf, _, _⟩ := x
  have hsz : es.size = zs.length := by
    have e1 := hp.length_eq
    rw [List.length_map, Array.length_toList] at e1
    have e2 := hs.length
    rw [List.length_map] at e2
    omega
  refine ⟨o, es, ep, t, ho, hex, hd, hel, fun k => ?_, hb, hf, hsz⟩
  rw [SetK.mem (P := P) (w := w) hp hs k]
  exact decide_eq_true_iff
/-- z in s, z not in s -/
theorem op_in_setQ : OpR X (compareOp .In) (fun x y H Q => ∃ z p zs, x = .str z ∧ y = .ref p ∧ H p = some (SetQ X.prog X.w p zs) ∧ Q (.bl (decide (z ∈ zs))) H) := by
  intro pins s σ H x y v u Q I rx ry h
  obtain ⟨z, p, zs, rfl, rfl, hH, q⟩ := h
  obtain ⟨t, rfl⟩ := rx
  cases ry
  have hS : SetK X.prog X.w (led0 X.w) s.heap p (zs.map Sum.inr) := (I.hok p _ hH).1
  exact wpAny_inSet_of (mixKind_str X.prog X.w z t) rfl hS.setOf ⟨.bl _, H, I.tok _, rfl, by rw [decide_eq_decide.mpr (inr_mem (z := z) (zs := zs))]; exact q⟩
/-- s.add(z), the method's call -/
theorem mt_addQ : MtM X "set.add" (fun x vs H Q => ∃ p z zs, x = .ref p ∧ vs = [.str z] ∧ H p = some (SetQ X.prog X.w p zs) ∧ zs.length < 1000 ∧ Q .non (upd H p (SetQ X.prog X.w p (if z ∈ zs then zs else zs ++ [z])))) := by
  intro pins s σ H x vs v us Q I rx rv h
  obtain ⟨p, z, zs, rfl, rfl, hH, hz, q⟩ := h
  cases rx
  obtain ⟨u, rfl, t, rfl⟩ := rv.one
  have hS : SetK X.prog X.w (led0 X.w) s.heap p (zs.map Sum.inr) := (I.hok p _ hH).1
  refine wpAny_call_entry PySem.F.slot_set_add hS.setOf.typeIs PySem.F.entry_set_add ?_ (PySem.F.args_set_add_2 _ _)
  refine (show wpAny _ _ (setAdd p (.str z t) >>= fun _ => ret .none) _ _ _ from wpAny_bind (kset_add (x := Sum.inr z) (u := .str z t) ⟨t, rfl⟩ hS (by rw [List.length_map]; unfold scanBound; omega) fun h' hb x => wpAny_pure ⟨_, rfl, ?_⟩))
  refine ⟨.non, _, I.write (t' := s.toks + 1) (by rw [hH]; exact trivial) (.inl rfl) (fun b o' hb' e => (hb.2 b hb').trans e) x.at_ (setQ_ok (by rw [← add_inr]; exact x)), rfl, q⟩
end
section
variable {X : Cx} {o e : Expr} {es : List Expr} {to : TE} {t : TA} {name : Str} {apos cpos : Pos} {id : String} {r : V → List V → Hp → VK → Prop}
/-- s.m(e, ..), s a set of texts -/
def tBMQ (P : Program) (w : World) (r : V → List V → Hp → VK → Prop) (to : TE) (t : TA) : TE := fun σ H Q => to σ H fun x H1 => (∃ p zs, x = .ref p ∧ H1 p = some (SetQ P w p zs)) ∧ t σ H1 fun xs H2 => r x xs H2 Q
theorem pe_bmQ (slot : Slot "set" name id) (hty : typeOf (.builtin id) = pure (.type "method_descriptor")) (hm : MtM X id r) (ho : PE X o to) (ha : PA X (e :: es) t)
    (hbase : attributeBase o name X.env (eval o X.env) = eval o X.env := by rfl)
    (hfew : ((backTo cpos (starEach (e :: es) X.env)).all (fun x => !x.1) && (backToKw cpos (keywordEach [] X.env)).all (fun x => x.1.isSome) && decide ((e :: es).length + ([] : List Keyword).length + (if ([] : List Keyword).isEmpty then 0 else 1) < 30)) = true := by rfl)
    (hline : (apos.endLine == cpos.line) = true := by rfl) (hs : starEach (e :: es) X.env = (false, eval e X.env) :: starEach es X.env := by rfl) (hplain : (backTo cpos (starEach es X.env)).any (·.1) = false := by rfl) :
    PE X (.Call (.Attribute o name apos) (e :: es) [] cpos) (tBMQ X.prog X.w r to t) := by
  intro pins s σ H Q I h
  refine wpAny_Call_method_late hbase hfew hline rfl (thn (ho pins s σ H _ I h) fun v s1 ⟨x, H1, I1, r1, ⟨p, zs, ep, hH⟩, q1⟩ => ?_)
  subst ep
  cases r1
  have hS : SetK X.prog X.w (led0 X.w) s1.heap p (zs.map Sum.inr) := (I1.hok p _ hH).1
  refine ⟨"set", id, PySem.F.plainAttrs_set, slot, hty, hS.setOf.typeIs, hS.setOf.noDict, ?_⟩
  have hA := ha cpos pins s1 σ H1 _ I1 q1
  rw [hs] at hA ⊢
  refine Calls.callWith_builtin (by show (false || (backTo cpos (starEach es X.env)).any (·.1)) = false; rw [hplain] <;> rfl) (Calls.evalArgs_plain (thn hA fun us s2 ⟨vs, H2, I2, r2, q2⟩ => hm pins s2 σ H2 (.ref p) vs _ us Q I2 rfl r2 q2))
end
end L2
namespace TX
open PySem PySem.Builtin.Str PySem.Calls
section
variable {prog : Program} {w : World} {A : Around} {E : Value → Shared → Prop} {s : Shared}
/-- a text cut at another one: a new list -/
theorem split_call {x y : Str} {t u : Tok} {Q : Value → Shared → Prop} (hy : (y.length == 0) = false) (hsz : x.length + 2 ≤ sizeLine)
    (h : ∀ (l : List (Str × Tok)) (k : Nat), l.map (·.1) = Txt.split x y → Q (.ref s.heap.objs.size) { s with heap := s.heap.push { cls := .type "list", data := .seq (strValues l).toArray }, toks := k }) :
    wpAny (model prog w) A (call (.builtin "str.split") [.str x t, .str y u]) Q E s := by
  have many : (partsBetween x (occurrences x y 0 x.length (x.length + 1)) y.length).length ≤ sizeLine := by
    have q := StrLaws.occ_length_le x y 0 x.length (x.length + 1)
    rw [length_partsBetween]
    omega
  by_cases h1 : (decide (x.length < y.length) || decide (strKind x < strKind y)) = true
  · exact call_meets F.slot_str_split (typeIs_str _ _ _) F.entry_str_split (F.args_str_split_2 _ _) (meets_str_split_cannot_occur x y t u h1)
      (h [(x, t)] s.toks (by unfold Txt.split; rw [if_pos h1]; rfl))
  · have h1' := eq_false_of_ne_true h1
    by_cases h2 : (occurrences x y 0 x.length (x.length + 1)).isEmpty = true
    · exact call_meets F.slot_str_split (typeIs_str _ _ _) F.entry_str_split (F.args_str_split_2 _ _) (meets_str_split_not_found x y t u h1' hy h2)
        (h [(x, t)] s.toks (by unfold Txt.split; rw [if_neg h1, if_pos h2]; rfl))
    · have h2' := eq_false_of_ne_true h2
      have e : Txt.split x y = partsBetween x (occurrences x y 0 x.length (x.length + 1)) y.length := by unfold Txt.split; rw [if_neg h1, if_neg h2]
      refine call_meets F.slot_str_split (typeIs_str _ _ _) F.entry_str_split (F.args_str_split_2 _ _) (meets_str_split_sep x y t u h1' hy h2' (by omega) many) ?_
      rw [← e, strsFrom_eq]
      exact h (numbered s.toks (Txt.split x y)) _ (numbered_texts _ _)
end
/-! ### enumerate with a start -/
end TX
namespace TX
open PySem PySem.Builtin.Str PySem.Calls
section
variable {prog : Program} {w : World} {A : Around} {E : Value → Shared → Prop} {s : Shared}
end
end TX
namespace L2
open PySem PySem.Spec PyProof.Rows
section
variable {X : Cx}
/-! ### a text cut; texts of a tuple joined -/
theorem vals_values : ∀ (l : List (Str × Tok)), Vals ((l.map (·.1)).map V.str) (strValues l)
  | [] => .nil
  | p :: r => .cons ⟨p.2, rfl⟩ (vals_values r)
def rSplit : V → List V → Hp → VK → Prop := fun x xs H Q => ∃ z y, x = .str z ∧ xs = [.str y] ∧ (y.length == 0) = false ∧ z.length + 2 ≤ sizeLine ∧ (Txt.split z y).length ≤ sizeLine ∧ ∀ l, H l = none → Q (.ref l) (upd H l (.lst ((Txt.split z y).map V.str)))
theorem mt_split : MtR X "str.split" rSplit := by
  intro pins s σ H x xs v us Q I rx rs h
  obtain ⟨z, y, rfl, rfl, hy, hz, hl, q⟩ := h
  obtain ⟨t, rfl⟩ := rx
  obtain ⟨u0, rfl, ru⟩ := rs.one
  obtain ⟨u, rfl⟩ := ru
  refine TX.split_call hy hz fun l k e => ?_
  refine ⟨.ref s.heap.objs.size, _, I.laid (t' := k) (fun b o q => Heap.get?_push_of_some _ q) (Nat.le_refl _) (show ObjOk X.prog X.w _ _ _ (.lst ((Txt.split z y).map V.str)) from ⟨by rw [List.length_map]; exact hl, strValues l, 0, by rw [← e]; exact vals_values l, Heap.get?_push_size _ rfl⟩), rfl, q _ I.fresh⟩
end
/-! ### enumerate(l, start=1), unpacked at once -/
end L2
namespace TX
open PySem PySem.Builtin.Str PySem.Calls
theorem meets_enum2 (l : Addr) (t : Tok) (items : Array Value) (n : Nat) (dct : Option Addr) (sl : Array (Option Value)) :
    Meets (Builtin.«enumerate.__new__» ⟨[.type "enumerate", .ref l], [("start", .int 2 t)]⟩) (fun _ R s => s.heap.get? l = some { cls := .type "list", dict := dct, data := .seq items n, slots := sl } ∧
      R (.ok (.ret (.ref (s.heap.push { cls := .type "list_iterator", data := .fields #[.ref l, .int 0 0] }).objs.size)))
        { s with heap := (s.heap.push { cls := .type "list_iterator", data := .fields #[.ref l, .int 0 0] }).push { cls := .type "enumerate", data := .fields #[.none, .bool false, .ref s.heap.objs.size, rawInt 2, .none, .none] } }) :=
  .of_wp fun prog w A R s h => by
    obtain ⟨hp1, g1, d1, tk1, os1⟩ := s
    obtain ⟨hl, hq⟩ := h
    have hsub := sub_enumerate
    have hL1 : Heap.IsList (Shared.heap ⟨hp1, g1, d1, tk1, os1⟩) l items := ⟨_, hl, rfl, n, rfl⟩
    wp_walk using AutoSeq1.wpAny_loadPart' hl
    refine wpAny_stack_any fun _ => wpAny_pure ?_
    split
    · rename_i c1 _ _ _ _ _
      cases (c1 == Value.type "enumerate")
      · wp_walk using AutoSeq1.wpAny_loadPart' hl, wpAny_pyIter_list hL1
        exact ⟨_, rfl, hq⟩
      · wp_walk using AutoSeq1.wpAny_loadPart' hl, wpAny_pyIter_list hL1
        exact ⟨_, rfl, hq⟩
    · wp_walk using AutoSeq1.wpAny_loadPart' hl, wpAny_pyIter_list hL1
      exact ⟨_, rfl, hq⟩
end TX
namespace TX
open PySem PySem.Builtin.Str PySem.Calls
section
variable {prog : Program} {w : World} {A : Around} {E : Value → Shared → Prop} {s : Shared}
theorem kw_check2 (a : Value) (t : Tok) : checkTypeCall "enumerate" ⟨[a], [("start", .int 2 t)]⟩ = pure () := by kernel_rfl
theorem kw_new2 (a : Value) (t : Tok) : checkBuiltinCall "enumerate.__new__" ⟨[.type "enumerate", a], [("start", .int 2 t)]⟩ = pure () := by kernel_rfl
theorem kw_init2 (a b : Value) (t : Tok) : argsOk "object.__init__" ⟨[a, b], [("start", .int 2 t)]⟩ := by
  unfold argsOk
  rw [signature?_of (id := "object.__init__") (n := "__init__".toList.reverse) (o := "object".toList.reverse) (by kernel_rfl) F.owner_object]
  kernel_rfl
theorem init_kw2 {T newId : String} {self b : Value} {t : Tok} (hl : typeLookup (.type T) "__init__" = pure (some (.builtin "object.__init__"))) (hm : Bind.madeBy (.type T) = pure (some newId)) (hne : (some newId != some "object.__new__") = true) :
    Meets (Builtin.«object.__init__» ⟨[self, b], [("start", .int 2 t)]⟩) (fun _ R s => s.TypeIs self T ∧ R (.ok (.ret .none)) s) := by
  refine Meets.of_wp fun prog w A R s ⟨hT, hq⟩ => ?_
  repeat any_goals first | assumption | wp_step
  exact ⟨_, rfl, hq⟩
/-- enumerate(l, start=2) -/
theorem call_enum2 {l : Addr} {items : Array Value} {t : Tok} {Q : Value → Shared → Prop} (hL : s.heap.IsList l items)
    (h : ∀ h', IsEnum h' (s.heap.objs.size + 1) s.heap.objs.size 2 .none → h'.IsListIter s.heap.objs.size l 0 → (∀ b o, s.heap.get? b = some o → h'.get? b = some o) → Q (.ref (s.heap.objs.size + 1)) { s with heap := h' }) :
    wpAny (model prog w) A (call (.type "enumerate") [.ref l] [("start", .int 2 t)]) Q E s := by
  obtain ⟨⟨c, dct, dt, sl⟩, hl, hc, n, hd⟩ := hL
  have hc' : c = .type "list" := hc
  have hd' : dt = .seq items n := hd
  subst hc' hd'
  have ft := F.called_enumerate
  obtain ⟨c, tl, hmro⟩ := ft.mro
  have hmade := ft.made
  have hsub := ft.sub
  have hct := kw_check2 (.ref l) t
  have hcn := kw_new2 (.ref l) t
  have fin : ∀ s' : Shared, s' = { s with heap := (s.heap.push { cls := .type "list_iterator", data := .fields #[.ref l, .int 0 0] }).push { cls := .type "enumerate", data := .fields #[.none, .bool false, .ref s.heap.objs.size, rawInt 2, .none, .none] } } → s'.TypeIs (.ref (s.heap.objs.size + 1)) "enumerate" ∧ Q (.ref (s.heap.objs.size + 1)) s' := fun s' e => by
    subst e
    have hz : (s.heap.push { cls := .type "list_iterator", data := .fields #[.ref l, .int 0 0] }).objs.size = s.heap.objs.size + 1 := Heap.size_push ..
    have en : IsEnum ((s.heap.push { cls := .type "list_iterator", data := .fields #[.ref l, .int 0 0] }).push { cls := .type "enumerate", data := .fields #[.none, .bool false, .ref s.heap.objs.size, rawInt 2, .none, .none] }) (s.heap.objs.size + 1) s.heap.objs.size 2 .none := by
      rw [← hz]
      exact Heap.get?_push_size _ rfl
    refine ⟨⟨_, en, rfl⟩, h _ en ⟨_, Heap.get?_push_of_some _ (Heap.get?_push_size _ rfl), rfl, rfl⟩ fun b o q => Heap.get?_push_of_some _ (Heap.get?_push_of_some _ q)⟩
  have hsz : (s.heap.push { cls := .type "list_iterator", data := .fields #[.ref l, .int 0 0] }).objs.size = s.heap.objs.size + 1 := Heap.size_push ..
  refine wpAny_call (codeAny_of_tree ?_)
  show wpAny _ _ (callAny (.type "enumerate") _) _ _ _
  refine wpAny_pure ⟨Code.quiet_builtin _ (by decide +kernel), codeAny_builtin F.entry_type_call ?_⟩
  rw [Around.under_plain (weight_type_call_type "enumerate" [.ref l] [("start", .int 2 t)]) (units_type_call_type "enumerate" [.ref l] [("start", .int 2 t)])]
  have h1 := ft.notType
  have h2 := ft.canCreate
  repeat any_goals first | assumption | wp_step
  refine codeAny_mono (?_ : codeAny _ _ _ (fun r s' => r = .ok (.ret (.ref (s.heap.objs.size + 1))) ∧ s'.TypeIs (.ref (s.heap.objs.size + 1)) "enumerate" ∧ Q (.ref (s.heap.objs.size + 1)) s') _) fun r s₁ hr => ?_
  · have hN := meets_enum2 l t items n dct sl prog w A.in1 (fun r s' => r = .ok (.ret (.ref (s.heap.objs.size + 1))) ∧ s'.TypeIs (.ref (s.heap.objs.size + 1)) "enumerate" ∧ Q (.ref (s.heap.objs.size + 1)) s') s ⟨hl, by rw [hsz]; exact ⟨rfl, fin _ rfl⟩⟩
    exact codeAny_call_builtin ft.plain F.entry_enumerate_new (wpAny_of_eq hcn hN)
  · obtain ⟨rfl, hT, hq⟩ := hr
    have hli := ft.init.lookup
    have hbi := ft.init.bind (.ref (s.heap.objs.size + 1))
    repeat any_goals first | assumption | wp_step
    refine codeAny_mono (?_ : codeAny _ _ _ (fun r s' => r = .ok (.ret .none) ∧ Q (.ref (s.heap.objs.size + 1)) s') _) fun r₂ s₂ hr₂ => ?_
    · have hI := init_kw2 (T := "enumerate") (self := .ref (s.heap.objs.size + 1)) (b := .ref l) (t := t) ft.init.lookup ft.made (by decide) prog w A.in1 (fun r s' => r = .ok (.ret .none) ∧ Q (.ref (s.heap.objs.size + 1)) s') s₁ ⟨hT, rfl, hq⟩
      exact codeAny_call_builtin ft.init.plain F.entry_object_init (ft.init.check _ _ _ _ _ _ _ _ hT (kw_init2 _ _ _) hI)
    obtain ⟨rfl, hq2⟩ := hr₂
    repeat any_goals first | assumption | wp_step
end
/-- the draws of a list's walk, counted from one -/
theorem draws2 {prog : Program} {w : World} {A : Around} (hh : A.handled = none) (it l : Addr) (hne : l ≠ it) (items : Array Value) :
    Draws prog w A it [it, l] (items.size + 2) (fun k x => 2 ≤ k ∧ items[k - 2]? = some x) (fun k h => 2 ≤ k ∧ h.IsListIter it l (k - 2) ∧ h.IsList l items) where
  live := fun k h ⟨_, ⟨o, e, _⟩, _⟩ => ⟨o, e⟩
  frame := fun k h h' ⟨h1, h2, h3⟩ kp => ⟨h1, h2.at fun o q => kp it (by simp) o q, by
    obtain ⟨o, e, r⟩ := h3
    exact ⟨o, kp l (by simp) o e, r⟩⟩
  item := fun k s Q E hk ⟨h1, h2, h3⟩ hQ => by
    have hlt : k - 2 < items.size := by omega
    have hx : items[k - 2]? = some items[k - 2] := Array.getElem?_eq_getElem hlt
    refine wpAny_nextOf_list_item h2 h3 hx fun h' li sb => hQ _ h' s.toks ⟨h1, hx⟩ ⟨by omega, ?_, ?_⟩ sb
    · rw [show k + 1 - 2 = k - 2 + 1 by omega]
      exact li
    · obtain ⟨o, e, r⟩ := h3
      exact ⟨o, (sb.2 l hne).trans e, r⟩
  done := fun s Q E ⟨h1, h2, h3⟩ hE => wpAny_nextOf_list_end hh h2 h3 (Array.getElem?_eq_none (by omega)) fun h' e eb he => hE h' e eb he
theorem draws_end2 {prog : Program} {w : World} {A : Around} (hh : A.handled = none) (it l : Addr) (items : Array Value) (i : Nat) (hi : items.size ≤ i) :
    Draws prog w A it [it, l] (i + 2) (fun _ _ => True) (fun k h => k = i + 2 ∧ h.IsListIter it l i ∧ h.IsList l items) where
  live := fun k h ⟨_, ⟨o, e, _⟩, _⟩ => ⟨o, e⟩
  frame := fun k h h' ⟨h1, h2, h3⟩ kp => ⟨h1, h2.at fun o q => kp it (by simp) o q, by
    obtain ⟨o, e, r⟩ := h3
    exact ⟨o, kp l (by simp) o e, r⟩⟩
  item := fun k s Q E hk ⟨h1, _, _⟩ _ => absurd h1 (Nat.ne_of_lt hk)
  done := fun s Q E ⟨_, h2, h3⟩ hE => wpAny_nextOf_list_end hh h2 h3 (Array.getElem?_eq_none hi) fun h' e eb he => hE h' e eb he
end TX
namespace L2
open PySem PySem.Spec PyProof.Rows
/-! ### enumerate(l, start=2), unpacked at once -/
def Ite2 (K : PySem.W.Frag) (a : Addr) : It :=
  ⟨fun i H => ∃ xs x, SqL K H a xs ∧ xs[i]? = some x, fun i H v H' => ∃ T, H T = none ∧ v = .ref T ∧ ∀ xs, SqL K H a xs → ∃ x, xs[i]? = some x ∧ H' = upd H T (.tup [.int (i + 2), x]), fun i H => ∃ xs, SqL K H a xs ∧ xs.length ≤ i⟩
theorem turn_enum2 {P : Program} {w : World} {K : PySem.W.Frag} {elts : List Expr} {k : Nat} {pos : Pos} (a e it : Addr) (hne : e ≠ it) (hai : a ≠ it) (hae : a ≠ e) : Turn P w K (.Tuple elts k pos) (Ite2 K a) [e, it] e (fun i h => (∃ old, IsEnum h e it ((i : Int) + 2) old) ∧ h.IsListIter it a i) where
  mem := by simp
  obj := fun i h st b hb => by
    obtain ⟨⟨old, he⟩, o, ho, c, d⟩ := st
    rcases List.mem_cons.mp hb with z | z
    · subst z
      exact ⟨_, he, fun v q => by
        have q' : Data.fields _ = Data.cell v := q
        cases q'⟩
    · have z' : b = it := by simpa using z
      subst z'
      exact ⟨o, ho, fun v q => by rw [d] at q; cases q⟩
  keep := fun i h h' st kk => by
    obtain ⟨⟨old, he⟩, hl⟩ := st
    exact ⟨⟨old, kk e (by simp) _ he⟩, hl.at fun o q => kk it (by simp) o q⟩
  item := by
    intro X hP hw hK hc i pins s σ H E I hf st hg
    subst hP hw hK
    obtain ⟨xs, x, hq, hx⟩ := hg
    obtain ⟨⟨old, he⟩, hl⟩ := st
    obtain ⟨its, rv, pl, hz⟩ := I.list hq
    obtain ⟨u, hu, ru⟩ := rv.get hx
    have hlt : i < its.toArray.size := by
      have := (List.getElem?_eq_some_iff.mp hu).1
      simpa using this
    have D := TX.draws2 (prog := X.prog) (w := X.w) (A := X.A.in1) (I.ok.hd hc) it a hai its.toArray
    refine wpAny_pyNext_enum_itemD (i := i + 2) D he ⟨by omega, hl, pl.isList⟩ (by omega) hne (by simp; exact ⟨hne, Ne.symm hae⟩) fun x' h' tk px eo st' tp hsz kk => ?_
    have ex : x' = u := by
      have p2 := px.2
      rw [Nat.add_sub_cancel] at p2
      have hu' : its.toArray[i]? = some u := by simpa using hu
      exact Option.some.inj (p2.symm.trans hu')
    subst ex
    refine ⟨_, rfl, wpAny_letOwnedTupleGo_enum (s := { s with heap := h', toks := tk + 1 }) eo fun h2 en sb => ?_⟩
    have hTe : s.heap.objs.size ≠ e := Nat.ne_of_gt (Heap.lt_size he)
    have hs' : h2.get? s.heap.objs.size = some { cls := .type "tuple", data := .seq #[.int ((i + 2 : Nat) : Int) tk, x'] } := (sb.2 _ hTe).trans tp
    have kp : ∀ b ob, b ∉ [e, it] → s.heap.get? b = some ob → h2.get? b = some ob := fun b ob hb q => by
      have h1 : b ≠ e := fun z => hb (by simp [z])
      have h2' : b ≠ it := fun z => hb (by simp [z])
      exact (sb.2 b h1).trans (kk b ob h1 h2' q)
    have I2 : Inv X pins σ (upd H s.heap.objs.size (.tup [.int (i + 2), x])) { s with heap := h2, toks := tk + 1 } := I.turnLaid (o := .tup [.int (i + 2), x]) (t' := tk + 1) hf kp (Nat.le_refl _)
      ⟨by show 2 ≤ sizeLine; rw [sizeLine_eq]; decide, [.int ((i + 2 : Nat) : Int) tk, x'], .cons ⟨_, rfl⟩ (.cons ru .nil), ⟨_, hs', rfl, _, rfl⟩⟩
    refine ⟨.ref s.heap.objs.size, _, I2, rfl, ⟨_, I.fresh, rfl, fun ys hy => ⟨x, by rw [I.list_inj hy hq]; exact hx, rfl⟩⟩, ⟨⟨_, en⟩, ?_⟩, fun b hb => ?_⟩
    · have li := st'.2.1
      rw [show i + 2 + 1 - 2 = i + 1 by omega] at li
      exact li.extBut sb.extBut (Ne.symm hne)
    · have hlt : b ≠ s.heap.objs.size := by
        obtain ⟨o, ho, _⟩ : ∃ o, s.heap.get? b = some o ∧ True := by
          rcases List.mem_cons.mp hb with z | z
          · subst z; exact ⟨_, he, trivial⟩
          · have z' : b = it := by simpa using z
            subst z'
            obtain ⟨o, ho, _⟩ := hl
            exact ⟨o, ho, trivial⟩
        exact Nat.ne_of_lt (Heap.lt_size ho)
      rw [upd_ne hlt]
      exact (hf b hb).1
  done := by
    intro X hP hw hK hc i pins s σ H E I hf st hg
    subst hP hw hK
    obtain ⟨xs, hq, hx⟩ := hg
    obtain ⟨⟨old, he⟩, hl⟩ := st
    obtain ⟨its, rv, pl, hz⟩ := I.list hq
    have hlen := rv.length
    have D := TX.draws_end2 (prog := X.prog) (w := X.w) (A := X.A.in1) (I.ok.hd hc) it a its.toArray i (by simp; omega)
    exact wpAny_pyNext_enum_endD D he ⟨rfl, hl, pl.isList⟩ fun h' eb => ⟨rfl, I.turnedL (t' := s.toks) hf fun b ob hb q => eb b ob (fun z => hb (by simp [z])) q⟩
  self := fun A i s Q E st h => by
    obtain ⟨⟨old, he⟩, _⟩ := st
    exact wpAny_pyIter_enum he h
def iEnum2 (K : PySem.W.Frag) (ta : TA) : TI := fun σ H R => ta σ H fun vs H1 => ∃ a, vs = [.ref a] ∧ (∃ xs, SqL K H1 a xs) ∧ R (Ite2 K a) H1
theorem pi_enum2 {X : Cx} {elts : List Expr} {k : Nat} {tpos : Pos} {l : Expr} {ta : TA} {p pos kpos : Pos} {j : Nat} {cpos : Pos} (hg : Gl X "enumerate") (hm : X.mg "enumerate" = none) (ha : PA X [l] ta) (hs : starEach [l] X.env = [(false, eval l X.env)] := by rfl) :
    PI X (.Tuple elts k tpos) (.Call (.Name "enumerate" p) [l] [⟨some "start", .Constant (.int 2) j cpos, kpos⟩] pos) (iEnum2 X.K ta) := by
  intro pins s σ H R I h
  refine wpAny_Call_Name_kw (ld_blt I hg hm (show bootBuiltins "enumerate" = some (.type "enumerate") by decide +kernel) ?_)
  refine PySem.W.callWith_of (P := fun h => X.K.In h) (by rw [hs]; rfl) (fun h _ => ⟨.machine, .inr (.inl rfl), PySem.W.Looks.of_pure rfl⟩) (evalArgs_kw2 rfl (thn (ha pos pins s σ H _ I h) fun us s1 ⟨vs, H1, I1, r1, q1⟩ => ?_) hs)
  refine thn ((pk_cons (X := X) (nm := some "start") (kpos := kpos) pe_int pk_nil) pos pins s1 σ H1 (fun zs H2 => zs = [.int 2] ∧ H2 = H1) I1 ⟨rfl, rfl⟩) fun ws s2 ⟨zs, H2, I2, rz, e1, e2⟩ => ⟨I2.kIn, ?_⟩
  subst e1 e2
  obtain ⟨a, e, ⟨xs, hq⟩, q⟩ := q1
  subst e
  obtain ⟨u, rfl, ru⟩ := r1.one
  cases ru
  obtain ⟨w0, rfl, rw0⟩ := rz.one
  obtain ⟨t, rfl⟩ := rw0
  obtain ⟨its, rv, pl, hz⟩ := I2.list hq
  show wpAny _ _ (call (.type "enumerate") [.ref a] [("start", .int 2 t)]) _ _ _
  refine TX.call_enum2 pl.isList fun h' en li kk => ?_
  have I3 : Inv X pins σ H2 { s2 with heap := h' } := I2.kept (t' := s2.toks) kk
  have hlt : a < s2.heap.objs.size := by
    obtain ⟨o, ho, _⟩ := pl.isList
    exact Heap.lt_size ho
  have T := turn_enum2 (P := X.prog) (w := X.w) (K := X.K) (elts := elts) (k := k) (pos := tpos) a (s2.heap.objs.size + 1) s2.heap.objs.size (Nat.ne_of_gt (Nat.lt_succ_self _)) (Nat.ne_of_lt hlt) (Nat.ne_of_lt (Nat.lt_succ_of_lt hlt))
  refine T.self X.A 0 { s2 with heap := h' } _ _ ⟨⟨_, en⟩, li⟩ ⟨_, _, _, _, H2, rfl, I3, T, ⟨⟨_, en⟩, li⟩, fun b hb => ?_, q⟩
  have hb' : s2.heap.objs.size ≤ b := by
    rcases List.mem_cons.mp hb with z | z
    · subst z; exact Nat.le_succ _
    · have z' : b = s2.heap.objs.size := by simpa using z
      subst z'; exact Nat.le_refl _
  exact I2.fpOk hb' (I2.hok.fresh hb')
end L2
namespace L2
open PySem PySem.Spec PyProof.Rows
section
variable {X : Cx}
/-! ### lists of the same numbers -/
end
end L2
namespace L2
open PySem PySem.Spec PyProof.Rows
/-! ### a comprehension whose one own name is taken by a comprehension within: a cell -/
section
variable {X : Cx}
end
end L2
namespace L2
open PySem PySem.Spec PyProof.Rows
/-! ### repr of lists, tuples, numbers, texts -/
/-- what lies at a value, whatever the heap is that the description fits -/
def DataAt (P : Program) (w : World) (H : Hp) (x : V) (d : PyData) : Prop := ∀ h u, HOk P w H h → RelV x u → ∃ as, Reads h u d as
section
variable {P : Program} {w : World} {H : Hp}
theorem DataAt.int (i : Int) : DataAt P w H (.int i) (.int i) := fun h u _ r => by
  obtain ⟨t, rfl⟩ := r
  exact ⟨_, .int i t⟩
theorem DataAt.str (x : Str) : DataAt P w H (.str x) (.str x) := fun h u _ r => by
  obtain ⟨t, rfl⟩ := r
  exact ⟨_, .str x t⟩
theorem DataAt.bool (b : Bool) : DataAt P w H (.bl b) (.bool b) := fun h u _ r => by
  cases r
  exact ⟨_, .bool b⟩
theorem DataAt.all {xs : List V} {ds : List PyData} (q : Paired (DataAt P w H) xs ds) {h : Heap} (ok : HOk P w H h) : ∀ {us : List Value}, Vals xs us → ∃ as, ReadsAll h us ds as := by
  induction q with
  | nil => intro us r; cases r; exact ⟨_, .nil⟩
  | cons e _ ih =>
    intro us r
    cases r with
    | cons r1 r2 =>
      obtain ⟨as, z1⟩ := e h _ ok r1
      obtain ⟨bs, z2⟩ := ih r2
      exact ⟨_, .cons z1 z2⟩
theorem DataAt.lst {a : Addr} {xs : List V} {ds : List PyData} (e : H a = some (.lst xs)) (q : Paired (DataAt P w H) xs ds) : DataAt P w H (.ref a) (.list ds) := fun h u ok r => by
  cases r
  obtain ⟨_, its, n, rv, z⟩ := ok _ _ e
  obtain ⟨as, zs⟩ := DataAt.all q ok rv
  exact ⟨_, .list z rfl rfl zs⟩
theorem DataAt.tup {a : Addr} {xs : List V} {ds : List PyData} (e : Rd H a (.tup xs)) (q : Paired (DataAt P w H) xs ds) : DataAt P w H (.ref a) (.tuple ds) := fun h u ok r => by
  cases r
  obtain ⟨_, its, rv, o, z, e1, n, e2⟩ := e.ok ok
  obtain ⟨as, zs⟩ := DataAt.all q ok rv
  exact ⟨_, .tuple z e1 e2 zs⟩
/-- what lies at a value, to a depth -/
def DataN (H : Hp) : Nat → V → PyData → Prop
  | 0, x, d => (∃ i, x = .int i ∧ d = .int i) ∨ (∃ s, x = .str s ∧ d = .str s) ∨ ∃ b, x = .bl b ∧ d = .bool b
  | n + 1, x, d => DataN H n x d ∨ ∃ a xs ds, x = .ref a ∧ ((H a = some (.lst xs) ∧ d = .list ds) ∨ (Rd H a (.tup xs) ∧ d = .tuple ds)) ∧ Paired (DataN H n) xs ds
theorem DataN.at : ∀ {n : Nat} {x : V} {d : PyData}, DataN H n x d → DataAt P w H x d := by
  intro n
  induction n with
  | zero =>
    intro x d h
    rcases h with ⟨i, rfl, rfl⟩ | ⟨s, rfl, rfl⟩ | ⟨b, rfl, rfl⟩
    · exact DataAt.int i
    · exact DataAt.str s
    · exact DataAt.bool b
  | succ n ih =>
    intro x d h
    rcases h with h | ⟨a, xs, ds, rfl, h, q⟩
    · exact ih h
    · have q' := Paired.mapP q fun _ _ z => ih z
      rcases h with ⟨h, rfl⟩ | ⟨h, rfl⟩
      · exact DataAt.lst h q'
      · exact DataAt.tup h q'
theorem DataN.up {n : Nat} {x : V} {d : PyData} (h : DataN H n x d) : DataN H (n + 1) x d := .inl h
theorem DataN.int (n : Nat) (i : Int) : DataN H n (.int i) (.int i) := by
  induction n with
  | zero => exact .inl ⟨i, rfl, rfl⟩
  | succ n ih => exact .inl ih
theorem DataN.str (n : Nat) (x : Str) : DataN H n (.str x) (.str x) := by
  induction n with
  | zero => exact .inr (.inl ⟨x, rfl, rfl⟩)
  | succ n ih => exact .inl ih
theorem DataN.tup {n : Nat} {a : Addr} {xs : List V} {ds : List PyData} (h : H a = some (.tup xs)) (q : Paired (DataN H n) xs ds) : DataN H (n + 1) (.ref a) (.tuple ds) := .inr ⟨a, xs, ds, rfl, .inr ⟨.inl h, rfl⟩, q⟩
theorem DataN.tupR {n : Nat} {a : Addr} {xs : List V} {ds : List PyData} (h : Rd H a (.tup xs)) (q : Paired (DataN H n) xs ds) : DataN H (n + 1) (.ref a) (.tuple ds) := .inr ⟨a, xs, ds, rfl, .inr ⟨h, rfl⟩, q⟩
theorem DataN.ints (n : Nat) (is : List Int) : Paired (DataN H n) (is.map V.int) (is.map .int) := by
  induction is with
  | nil => exact .nil
  | cons i r ih => exact .cons (DataN.int n i) ih
theorem DataN.strs (n : Nat) (xs : List Str) : Paired (DataN H n) (xs.map V.str) (xs.map .str) := by
  induction xs with
  | nil => exact .nil
  | cons x r ih => exact .cons (DataN.str n x) ih
/-- small enough to be shown -/
structure Sm (n w : Nat) (d : PyData) : Prop where
  sh : d.showable = true
  nd : d.hasDict = false
  lv : d.leavesShort 13 = true
  dp : d.depth ≤ n
  wt : d.weight ≤ w
theorem Sm.mono {n w n' w' : Nat} {d : PyData} (h : Sm n w d) (a : n ≤ n') (b : w ≤ w') : Sm n' w' d := ⟨h.sh, h.nd, h.lv, Nat.le_trans h.dp a, Nat.le_trans h.wt b⟩
theorem Sm.all {n w : Nat} : ∀ {ds : List PyData}, (∀ d ∈ ds, Sm n w d) → PyData.showableAll ds = true ∧ PyData.hasDictAll ds = false ∧ PyData.leavesShortAll 13 ds = true ∧ PyData.depthAll ds ≤ n ∧ PyData.weightAll ds ≤ ds.length * (w + 1) := by
  intro ds
  induction ds with
  | nil => intro _; exact ⟨rfl, rfl, rfl, Nat.zero_le _, Nat.zero_le _⟩
  | cons d ds ih =>
    intro h
    have h1 := h d (List.mem_cons_self ..)
    obtain ⟨a, b, c, e, f⟩ := ih fun x hx => h x (List.mem_cons_of_mem _ hx)
    refine ⟨?_, ?_, ?_, ?_, ?_⟩
    · rw [PyData.showableAll, h1.sh, a]; rfl
    · rw [PyData.hasDictAll, h1.nd, b]; rfl
    · rw [PyData.leavesShortAll, h1.lv, c]; rfl
    · rw [PyData.depthAll]; exact Nat.max_le.mpr ⟨h1.dp, e⟩
    · rw [PyData.weightAll, List.length_cons, Nat.succ_mul, Nat.add_comm (ds.length * (w + 1))]
      exact Nat.add_le_add (Nat.add_le_add_right h1.wt 1) f
theorem Sm.tuple {n w m : Nat} {ds : List PyData} (h : ∀ d ∈ ds, Sm n w d) (hm : ds.length * (w + 1) ≤ m) : Sm (n + 1) m (.tuple ds) := by
  obtain ⟨a, b, c, e, f⟩ := Sm.all h
  exact ⟨by rw [PyData.showable]; exact a, by rw [PyData.hasDict]; exact b, by rw [PyData.leavesShort]; exact c, by rw [PyData.depth]; exact Nat.succ_le_succ e, by rw [PyData.weight]; exact Nat.le_trans f hm⟩
theorem Sm.int {w : Nat} {i : Int} (h1 : -(100000000000 : Int) ≤ i) (h2 : i ≤ 100000000000) (hw : 40 ≤ w) : Sm 0 w (.int i) := by
  have ha : i.natAbs < 10 ^ 12 := by
    have e : (10 : Nat) ^ 12 = 1000000000000 := by decide
    rw [e]; omega
  have hb : i.natAbs.log2 < 40 := by
    rcases Nat.eq_zero_or_pos i.natAbs with z | z
    · rw [z]; decide
    · refine (Nat.log2_lt (Nat.pos_iff_ne_zero.mp z)).mpr (Nat.lt_trans ha ?_)
      decide
  refine ⟨by rw [PyData.showable]; exact decide_eq_true (Nat.lt_trans hb (by decide)), rfl, ?_, Nat.le_refl _, ?_⟩
  · rw [PyData.leavesShort]
    exact decide_eq_true (PyData.shown_int_le ha)
  · rw [PyData.weight]
    split
    · exact Nat.zero_le _
    · exact Nat.le_trans hb hw
theorem Sm.str {w : Nat} {x : Str} (h : ∀ c ∈ x.cps.toList, c < 4294967296) (hw : x.length ≤ w) : Sm 0 w (.str x) :=
  ⟨rfl, rfl, by
    rw [PyData.leavesShort, List.all_eq_true]
    exact fun c hc => decide_eq_true (h c hc), Nat.le_refl _, by rw [PyData.weight]; exact hw⟩
end
section
variable {X : Cx}
def rRepr : List V → Hp → VK → Prop := fun xs H Q => ∃ (a : Addr) (n : Nat) (d : PyData), xs = [.ref a] ∧ DataN H n (.ref a) d ∧ Sm 8 1048576 d ∧ Q (.str d.shown) H
theorem call_repr (hg : X.A.guards = some []) (hu : X.A.units + 64 < cLine) : CallR X (.builtin "repr") rRepr := by
  intro pins s σ H xs us Q I r h
  obtain ⟨a, n, d, rfl, hd, sm, q⟩ := h
  obtain ⟨u, rfl, rx⟩ := Vals.one r
  cases rx
  obtain ⟨as, rd⟩ := hd.at _ _ I.hok rfl
  have h8 := sm.dp
  exact repr_of_reads' rd sm.sh (fun z => absurd (sm.nd.symm.trans z) Bool.false_ne_true) hg (by omega) (fun _ _ e => e) (fun h' u tk k => ⟨.str d.shown, _, I.kept k, ⟨u, rfl⟩, q⟩)
    (PyData.shown_fits (B := 13) (by decide) (by decide) sm.lv sm.wt)
end
end L2
namespace L2
open PySem PySem.Spec PyProof.Rows
/-! ### try with several excepts -/
/-- what is asked behind a refusal that reaches these handlers -/
def HB (X : Cx) (C : Addr) (hs : List ExceptHandler) (th : Addr → TS) : Prop := ∀ (pins : List (Addr × Obj)) (s : Shared) (σ1 : St) (H2 : Hp) (D : Ends) (a : Addr) (fs : List (Str × V)), Inv X pins σ1 H2 s → FlyAt H2 a C fs → th a D σ1 H2 →
  wpAny (model X.prog X.w) X.A (handleBy (.ref a) X.env hs) (SP X pins D) X.xe s
def tHand (n i : Nat) (ts : TS) (a : Addr) : TS := fun D σ1 H1 => σ1.length = n →
  ts { nx := fun σ2 H2 => D.nx (σ2.set i none) H2, rt := D.rt, bk := fun σ2 H2 => D.bk (σ2.set i none) H2, ct := fun σ2 H2 => D.ct (σ2.set i none) H2 } (σ1.set i (some (.ref a))) H1
def tTryH (C : Addr) (RX : Addr → List (Str × V) → Hp → Prop) (tb : TS) (th : Addr → TS) : TS := fun D σ H => tb D σ H ∧ ∀ a fs H1 σ1, FlyAt H1 a C fs → RX a fs H1 → th a D σ1 H1
section
variable {Md : Model} {A : Around} {E : Value → Shared → Prop} {C M D : Addr}
variable {nm q nm' q' : Str} {N N' : Addr} {bs bs' sub sub' : List Value} {hdct hdct' : Bool} {sn sn' : List Str} {ab ab' : Bool} {col col' : Option Bool} {dd dd' : Option Addr} {k0 k1 k2 k3 k5 j0 j1 j2 j3 j5 : Option Value} {newId newId' : String}
theorem match_other {h : Heap} {g : Array GenState} {d : Drawn} {t : Nat} {os : OsState} {e : Addr} {oe : Obj} {Q : Bool → Shared → Prop} (hC : h.get? C = some (excClassObj nm q C N bs (.ref M :: vTail) hdct sn sub ab col dd k0 k1 k2 k3 k5 newId))
    (hD : h.get? D = some (excClassObj nm' q' D N' bs' (.ref M :: vTail) hdct' sn' sub' ab' col' dd' j0 j1 j2 j3 j5 newId')) (n1 : D ≠ C) (n2 : D ≠ M) (he : h.get? e = some oe) (hcls : oe.cls = .ref C) (hq : Q false ⟨h, g, d, t, os⟩) : wpAny Md A (excMatches (.ref e) (.ref D)) Q E ⟨h, g, d, t, os⟩ := by
  have hB : (Value.ref D :: Value.ref M :: vTail).contains (.type "BaseException") = true := by simp [vTail]
  have hcD : (Value.ref C :: Value.ref M :: vTail).contains (.ref D) = false := by simp [vTail, n1, n2]
  have f := tc_notTuple
  unfold excMatches
  repeat (first | (with_reducible refine wpAny_loadPart_at he ?_; rw [hcls]) | with_reducible refine wpAny_loadPart_at hD ?_ | (with_reducible refine wpAny_isSubtype_exc hD ?_; rw [hB]) | (with_reducible refine wpAny_isSubtype_exc hC ?_; rw [hcD]) | wp_step)
  exact hq
end
section
variable {X : Cx} {C M : Addr} {RX : Addr → List (Str × V) → Hp → Prop}
theorem hb_own {b0 : Stmt} {suite : List Stmt} {t : Expr} {nm : Str} {i n : Nat} {rest : List ExceptHandler} {hpos : Pos} {ts : TS}
    (xc : XC X.K C M) (hN : X.N.Nodup) (hn : X.N.length = n) (hi : X.N[i]? = some nm) (hk : X.env.scope.names.lookup nm = some .local)
    (ht : ∀ a, PE (X.hand a fun _ _ => False) t (tC (.ref C)))
    (hs : ∀ a, PSs (X.hand a fun _ _ => False) (b0 :: suite) ts) :
    HB X C (.ExceptHandler (some t) (some nm) (b0 :: suite) hpos :: rest) (tHand n i ts) := by
  intro pins s σ1 H2 D a fs I2 fl2 hsu
  have ok := I2.ok
  obtain ⟨cn, q, N, bs, sn, sub, ab, col, dd, k0, k1, k2, k3, k5, e⟩ := xc.at_
  have J2 : Inv (X.hand a fun _ _ => False) pins σ1 H2 _ := I2.hand a _
  refine wpAny_handleBy_cons (codeAny_handlers_test (wpAny_mono (ht a pins _ σ1 H2 (fun v H3 => v = .ref C ∧ H3 = H2) J2 ⟨rfl, rfl⟩) (fun c s3 h3 => ?_) fun _ _ x => x.elim)) (by intro q; cases q)
  obtain ⟨v, H3, J3, r3, rfl, rfl⟩ := h3
  cases r3
  obtain ⟨T, d, eT, nTa, ea, hd⟩ := id fl2
  obtain ⟨vs, ho, h1'⟩ := (J3.hok a _ ea).1
  have hC := J3.kIn _ _ e
  obtain ⟨hp, g, dr, tk, os⟩ := s3
  refine wpAny_excMatches_sub_self hC ho rfl (by simp [vTail]) ?_
  refine codeAny_handlers_suite_as ?_
  refine flight (X := X.hand a fun _ _ => False) (Q := _) J3 fl2 fun h4 J4 => ?_
  refine store_ok (X := X.hand a fun _ _ => False) (v := .ref a) J4 hN hi (.inl hk) rfl (fun s5 J5 => ?_) (.inr hk)
  have hl : σ1.length = n := by rw [← hn]; exact I2.len
  refine wpAny_mono (hs a pins s5 _ _ _ J5 (hsu hl)) (fun f s6 h6 => ?_) fun _ _ x => x.elim
  have fin : ∀ σ6 H6, Inv (X.hand a fun _ _ => False) pins σ6 H6 s6 → ∀ {Q : Shared → Prop}, (∀ s', Inv X pins (σ6.set i none) H6 s' → Q s') → wpAny (model X.prog X.w) X.A (do bindName X.env nm .none; unbindBehindTheSuite X.env nm hpos) (fun _ s' => Q s') X.xe s6 := fun σ6 H6 J6 Q hq => by
    refine wpAny_bind (wpAny_bindName (store_ok (v := .non) (J6.unhand ok) hN hi (.inl hk) rfl (fun s7 J7 => ?_) (.inr hk)))
    unfold unbindBehindTheSuite
    refine wpAny_onRaise (unbind_ok (v := .non) J7 hN hi hk ?_ fun s8 J8 => ?_)
    · rw [List.getElem?_set_self]
      rw [J6.len]; exact (List.getElem?_eq_some_iff.mp hi).1
    · rw [List.set_set] at J8
      exact hq s8 J8
  cases f with
  | next => obtain ⟨σ6, H6, J6, q⟩ := h6; exact fin σ6 H6 J6 fun s' J => ⟨_, _, J, q⟩
  | brk => obtain ⟨σ6, H6, J6, q⟩ := h6; exact fin σ6 H6 J6 fun s' J => ⟨_, _, J, q⟩
  | cont => obtain ⟨σ6, H6, J6, q⟩ := h6; exact fin σ6 H6 J6 fun s' J => ⟨_, _, J, q⟩
  | ret u => obtain ⟨v, σ6, H6, J6, r, q⟩ := h6; exact fin σ6 H6 J6 fun s' J => ⟨v, _, _, J, r, q⟩
theorem hb_skip {Dc : Addr} {t : Expr} {nmo : Option Str} {body : List Stmt} {hpos : Pos} {rest : List ExceptHandler} {th : Addr → TS}
    (xc : XC X.K C M) (xd : XC X.K Dc M) (n1 : Dc ≠ C) (n2 : Dc ≠ M) (ht : ∀ a, PE (X.hand a fun _ _ => False) t (tC (.ref Dc))) (hr : HB X C rest th) :
    HB X C (.ExceptHandler (some t) nmo body hpos :: rest) th := by
  intro pins s σ1 H2 D a fs I2 fl2 hsu
  have ok := I2.ok
  obtain ⟨cn, q, N, bs, sn, sub, ab, col, dd, k0, k1, k2, k3, k5, e⟩ := xc.at_
  obtain ⟨dn, dq, dN, db, ds, du, da, dc, de, j0, j1, j2, j3, j5, ed⟩ := xd.at_
  have J2 : Inv (X.hand a fun _ _ => False) pins σ1 H2 _ := I2.hand a _
  refine wpAny_handleBy_cons (codeAny_handlers_test (wpAny_mono (ht a pins _ σ1 H2 (fun v H3 => v = .ref Dc ∧ H3 = H2) J2 ⟨rfl, rfl⟩) (fun c s3 h3 => ?_) fun _ _ x => x.elim)) (by intro q; cases q)
  obtain ⟨v, H3, J3, r3, rfl, rfl⟩ := h3
  cases r3
  obtain ⟨T, d, eT, nTa, ea, hd⟩ := id fl2
  obtain ⟨vs, ho, h1'⟩ := (J3.hok a _ ea).1
  have hC := J3.kIn _ _ e
  have hD := J3.kIn _ _ ed
  obtain ⟨hp, g, dr, tk, os⟩ := s3
  refine match_other hC hD n1 n2 ho rfl ?_
  exact hr pins _ σ1 _ D a fs (J3.unhand ok) fl2 hsu
theorem ps_tryH {body : List Stmt} {h0 : ExceptHandler} {hs : List ExceptHandler} {pos : Pos} {tb : TS} {th : Addr → TS}
    (xc : XC X.K C M) (hst : X.stack = X.env :: X.outer) (hf : X.env.frame = some X.env.locals)
    (hRX : ∀ a fs H H', RX a fs H → (∀ b o, b ≠ a → H b = some o → H' b = some o) → FlyAt H' a C fs → RX a fs H')
    (hb : ∀ E pn, Passes (CXE X.prog X.w) (X.tried E pn) (EXT C RX) → PSs (X.tried E pn) body tb)
    (hh : HB X C (h0 :: hs) th) :
    PS X (.Try body (h0 :: hs) [] [] pos) (tTryH C RX tb th) := by
  intro pins s σ H D I ⟨hbd, hsu⟩
  have ok := I.ok
  refine wpAny_Try_except (wpAny_mono (hb (fun e s' => ∃ σ1 H1 a fs, e = .ref a ∧ Inv X pins σ1 H1 s' ∧ FlyAt H1 a C fs ∧ RX a fs H1) (X.pn ++ pins) ?_ [] s σ H D (I.tried _) hbd) (fun f s1 h1 => ?_) fun e s1 h1 => ?_)
  · intro pins' σ' H' s' e s2 I' h'
    obtain ⟨a, H2, rfl, os, bare, un, hok, a', fs, e1, fl, rx⟩ := h'
    cases e1
    have I2 : Inv (X.tried _ (X.pn ++ pins)) pins' σ' H2 s2 := I'.call' (ch := []) os un hok bare (fun _ z => nomatch z)
    exact ⟨σ', H2, a, fs, rfl, I2.untried ok, fl, rx⟩
  · have h2 := SP.untried ok h1
    cases f with
    | next => exact wpAny_execs_nil h2
    | brk => exact h2
    | cont => exact h2
    | ret u => exact h2
  · obtain ⟨σ1, H1, a, fs, rfl, I1, fl, rx⟩ := h1
    refine land (A' := X.A) I1 fl hst hf rfl fun h2 H2 I2 fl2 k2 => ?_
    exact hh pins _ σ1 H2 D a fs I2 fl2 (hsu a fs H2 σ1 fl2 (hRX a fs H1 H2 rx k2 fl2))
end
end L2
namespace L2
open PySem PySem.Spec PyProof.Rows
/-! ### tuples whose object is known to bear no dict: methods are called on them -/
def TupF (H : Hp) (a : Addr) (xs : List V) : Prop := ∃ o : Obj, H a = some (.frz o (.tup xs)) ∧ o.dict = none ∧ o.cls = .type "tuple"
theorem TupF.same {H H' : Hp} {a : Addr} {xs : List V} (h : TupF H a xs) (k : ∀ b o, H b = some o → H' b = some o) : TupF H' a xs := let ⟨o, e, r⟩ := h; ⟨o, k _ _ e, r⟩
section
variable {X : Cx}
theorem call_tupleF : CallR X (.type "tuple") (fun xs H Q => ∃ p ys, xs = [.ref p] ∧ SqL X.K H p ys ∧ ∀ (l : Addr) (o : Obj), H l = none → o.dict = none → o.cls = .type "tuple" → Q (.ref l) (upd H l (.frz o (.tup ys)))) := by
  intro pins s σ H xs us Q I r h
  obtain ⟨p, ys, rfl, hq, q⟩ := h
  obtain ⟨u, rfl, rx⟩ := vals1 r
  cases rx
  obtain ⟨its, r', pl, hz⟩ := I.list hq
  have hlen := r'.length
  refine call_tuple_list pl.isList (fun h' kp => ?_) (by simp only [List.size_toArray] <;> omega)
  have I1 : Inv X pins σ H { s with heap := h' } := I.kept (t' := s.toks) kp
  have I2 : Inv X pins σ (upd H h'.objs.size (.frz { cls := .type "tuple", data := .seq its.toArray } (.tup ys))) { s with heap := h'.push { cls := .type "tuple", data := .seq its.toArray } } :=
    I1.laid (t' := s.toks) (fun b o e => Heap.get?_push_of_some _ e) (Nat.le_refl _) (show ObjOk X.prog X.w _ _ _ (.frz _ (.tup ys)) from ⟨Heap.get?_push_size _ rfl, hz, its, r', IsTup.new _ _⟩)
  exact ⟨.ref h'.objs.size, _, I2, rfl, q _ _ (I1.hok.fresh (Nat.le_refl _)) rfl rfl⟩
variable {o e : Expr} {es : List Expr} {to : TE} {t : TA} {name : Str} {apos cpos : Pos} {id : String} {r : V → List V → Hp → VK → Prop}
end
end L2
namespace L2
open PySem PySem.Spec PyProof.Rows
section
variable {X : Cx}
/-! ### str of a number, int of a text, int of a truth -/
theorem call_strI : CallR X (.type "str") (fun xs H Q => ∃ i : Int, xs = [.int i] ∧ i.natAbs.log2 < 1920 ∧ Q (.str (toString i)) H) := by
  intro pins s σ H xs us Q I r h
  obtain ⟨i, rfl, hi, q⟩ := h
  obtain ⟨u, rfl, ru⟩ := Vals.one r
  obtain ⟨t, rfl⟩ := ru
  exact P.str_of_int hi ⟨.str _, H, I.tok _, ⟨_, rfl⟩, q⟩
theorem call_intT : CallR X (.type "int") (fun xs H Q => ∃ (x : Str) (n : Int), xs = [.str x] ∧ x.length ≤ 640 ∧ PySem.intText? x = some n ∧ Q (.int n) H) := by
  intro pins s σ H xs us Q I r h
  obtain ⟨x, n, rfl, hl, hn, q⟩ := h
  obtain ⟨u, rfl, ru⟩ := Vals.one r
  obtain ⟨t, rfl⟩ := ru
  exact PySem.W.KIN.call_text hn hl ⟨.int _, H, I.tok _, ⟨_, rfl⟩, q⟩
theorem call_intB : CallR X (.type "int") (fun xs H Q => ∃ b : Bool, xs = [.bl b] ∧ Q (.int (if b then 1 else 0)) H) := by
  intro pins s σ H xs us Q I r h
  obtain ⟨b, rfl, q⟩ := h
  obtain ⟨u, rfl, ru⟩ := Vals.one r
  cases ru
  exact call_int_bool ⟨.int _, H, I.tok _, ⟨_, rfl⟩, q⟩
end
end L2
namespace L2
open PySem PySem.Spec PyProof.Rows
section
variable {X : Cx}
/-! ### x.startswith(y) -/
def rStarts : V → List V → Hp → VK → Prop := fun x xs H Q => ∃ z y, x = .str z ∧ xs = [.str y] ∧ Q (.bl (0 + y.length ≤ z.length && Builtin.Str.subAt z y 0)) H
theorem mt_starts : MtR X "str.startswith" rStarts := by
  intro pins s σ H x xs v us Q I rx rs h
  obtain ⟨z, y, rfl, rfl, q⟩ := h
  obtain ⟨t, rfl⟩ := rx
  obtain ⟨u0, rfl, ru⟩ := rs.one
  obtain ⟨u, rfl⟩ := ru
  refine call_gives F.slot_str_startswith (typeIs_str _ _ _) F.entry_str_startswith (F.args_str_startswith_2 _ _) (gives_str_startswith z y t u) ?_
  exact ⟨.bl _, H, I, rfl, q⟩
end
end L2
namespace L2
open PySem PySem.Spec PyProof.Rows
section
variable {X : Cx}
/-! ### lists of lists of the same numbers, compared -/
end
end L2
namespace L2
open PySem PySem.Spec PyProof.Rows
/-! ### what follows a statement, held by a name -/
theorem lats2 {t1 t2 : TS} {D : Ends} {σ : St} {H : Hp} (h : let D0 : Ends := D; let σ0 : St := σ; let U2 : TS := t2; tSeq t1 U2 D0 σ0 H) : (tSeq t1 t2) D σ H := h
theorem lats3 {t1 t2 t3 : TS} {D : Ends} {σ : St} {H : Hp} (h : let D0 : Ends := D; let σ0 : St := σ; let U3 : TS := t3; let U2 : TS := tSeq t2 U3; tSeq t1 U2 D0 σ0 H) : (tSeq t1 (tSeq t2 t3)) D σ H := h
theorem lats4 {t1 t2 t3 t4 : TS} {D : Ends} {σ : St} {H : Hp} (h : let D0 : Ends := D; let σ0 : St := σ; let U4 : TS := t4; let U3 : TS := tSeq t3 U4; let U2 : TS := tSeq t2 U3; tSeq t1 U2 D0 σ0 H) : (tSeq t1 (tSeq t2 (tSeq t3 t4))) D σ H := h
theorem lats5 {t1 t2 t3 t4 t5 : TS} {D : Ends} {σ : St} {H : Hp} (h : let D0 : Ends := D; let σ0 : St := σ; let U5 : TS := t5; let U4 : TS := tSeq t4 U5; let U3 : TS := tSeq t3 U4; let U2 : TS := tSeq t2 U3; tSeq t1 U2 D0 σ0 H) : (tSeq t1 (tSeq t2 (tSeq t3 (tSeq t4 t5)))) D σ H := h
theorem lats6 {t1 t2 t3 t4 t5 t6 : TS} {D : Ends} {σ : St} {H : Hp} (h : let D0 : Ends := D; let σ0 : St := σ; let U6 : TS := t6; let U5 : TS := tSeq t5 U6; let U4 : TS := tSeq t4 U5; let U3 : TS := tSeq t3 U4; let U2 : TS := tSeq t2 U3; tSeq t1 U2 D0 σ0 H) : (tSeq t1 (tSeq t2 (tSeq t3 (tSeq t4 (tSeq t5 t6))))) D σ H := h
theorem lats7 {t1 t2 t3 t4 t5 t6 t7 : TS} {D : Ends} {σ : St} {H : Hp} (h : let D0 : Ends := D; let σ0 : St := σ; let U7 : TS := t7; let U6 : TS := tSeq t6 U7; let U5 : TS := tSeq t5 U6; let U4 : TS := tSeq t4 U5; let U3 : TS := tSeq t3 U4; let U2 : TS := tSeq t2 U3; tSeq t1 U2 D0 σ0 H) : (tSeq t1 (tSeq t2 (tSeq t3 (tSeq t4 (tSeq t5 (tSeq t6 t7)))))) D σ H := h
theorem lats8 {t1 t2 t3 t4 t5 t6 t7 t8 : TS} {D : Ends} {σ : St} {H : Hp} (h : let D0 : Ends := D; let σ0 : St := σ; let U8 : TS := t8; let U7 : TS := tSeq t7 U8; let U6 : TS := tSeq t6 U7; let U5 : TS := tSeq t5 U6; let U4 : TS := tSeq t4 U5; let U3 : TS := tSeq t3 U4; let U2 : TS := tSeq t2 U3; tSeq t1 U2 D0 σ0 H) : (tSeq t1 (tSeq t2 (tSeq t3 (tSeq t4 (tSeq t5 (tSeq t6 (tSeq t7 t8))))))) D σ H := h
theorem lats9 {t1 t2 t3 t4 t5 t6 t7 t8 t9 : TS} {D : Ends} {σ : St} {H : Hp} (h : let D0 : Ends := D; let σ0 : St := σ; let U9 : TS := t9; let U8 : TS := tSeq t8 U9; let U7 : TS := tSeq t7 U8; let U6 : TS := tSeq t6 U7; let U5 : TS := tSeq t5 U6; let U4 : TS := tSeq t4 U5; let U3 : TS := tSeq t3 U4; let U2 : TS := tSeq t2 U3; tSeq t1 U2 D0 σ0 H) : (tSeq t1 (tSeq t2 (tSeq t3 (tSeq t4 (tSeq t5 (tSeq t6 (tSeq t7 (tSeq t8 t9)))))))) D σ H := h
theorem lats10 {t1 t2 t3 t4 t5 t6 t7 t8 t9 t10 : TS} {D : Ends} {σ : St} {H : Hp} (h : let D0 : Ends := D; let σ0 : St := σ; let U10 : TS := t10; let U9 : TS := tSeq t9 U10; let U8 : TS := tSeq t8 U9; let U7 : TS := tSeq t7 U8; let U6 : TS := tSeq t6 U7; let U5 : TS := tSeq t5 U6; let U4 : TS := tSeq t4 U5; let U3 : TS := tSeq t3 U4; let U2 : TS := tSeq t2 U3; tSeq t1 U2 D0 σ0 H) : (tSeq t1 (tSeq t2 (tSeq t3 (tSeq t4 (tSeq t5 (tSeq t6 (tSeq t7 (tSeq t8 (tSeq t9 t10))))))))) D σ H := h
end L2
namespace KKM
theorem take_snoc {α : Type} {l : List α} {i : Nat} {x : α} (h : l[i]? = some x) : l.take (i + 1) = l.take i ++ [x] := by
  rw [List.take_add_one, h]; rfl
theorem filter_snoc {α : Type} {p : α → Bool} {l : List α} {x : α} : (l ++ [x]).filter p = if p x = true then l.filter p ++ [x] else l.filter p := by
  rw [List.filter_append]
  by_cases h : p x = true <;> simp [h]
end KKM
namespace KK
open PySem L2
def top (i : Nat) : Stmt := PySem.Challenge.pw_meetdesks_k13_texts_of_no_machine.main.body.getD i (.Pass ⟨0, 0, 0, 0⟩)
abbrev sCell : Stmt := top 25
abbrev sFlow : Stmt := top 26
abbrev sDraw : Stmt := top 27
abbrev sNames : Stmt := top 28
/-! ### the drawn numbers' list -/
def FlowAt (H : Hp) (a : Addr) : Prop := ∃ x y z : Int, H a = some (.lst [.int x, .int y, .int z]) ∧ 0 ≤ z ∧ z < 1099511627776
def Ext (a : Addr) (H H' : Hp) : Prop := ∀ b o, b ≠ a → H b = some o → H' b = some o
theorem Ext.trans {a : Addr} {H H1 H2 : Hp} (x : Ext a H H1) (y : Ext a H1 H2) : Ext a H H2 := fun b o n h => y b o n (x b o n h)
theorem Ext.own {a : Addr} {H : Hp} {o : HO} : Ext a H (upd H a o) := fun b u n h => by rw [upd_ne n]; exact h
theorem Ext.new {a p : Addr} {H : Hp} {o : HO} (h : H p = none) : Ext a H (upd H p o) := fun b u _ q => by rw [upd_ne (ne_of_none q h)]; exact q
theorem FlowAt.some {H : Hp} {a : Addr} (f : FlowAt H a) : ∃ o, H a = Option.some o := let ⟨_, _, _, h, _⟩ := f; ⟨_, h⟩
theorem FlowAt.new {a p : Addr} {H : Hp} {o : HO} (f : FlowAt H a) (h : H p = none) : FlowAt (upd H p o) a := by
  obtain ⟨x, y, z, e, r⟩ := f
  exact ⟨x, y, z, by rw [upd_ne (ne_of_none e h)]; exact e, r⟩
theorem FlowAt.set {a p : Addr} {H : Hp} {o : HO} (f : FlowAt H a) (h : a ≠ p) : FlowAt (upd H p o) a := by
  obtain ⟨x, y, z, e, r⟩ := f
  exact ⟨x, y, z, by rw [upd_ne h]; exact e, r⟩
def spDraw : Sp := fun vs H Q _ => ∃ (a : Addr) (m : Int), vs = [.ref a, .int m] ∧ FlowAt H a ∧ 0 < m ∧ m ≤ 100000000000000000000 ∧ ∀ (r : Int) (H' : Hp), 0 ≤ r → r < m → FlowAt H' a → Ext a H H' → Q (.int r) H'
def spCell (K : PySem.W.Frag) : Sp := fun vs H Q _ => ∃ (a : Addr) (ns : List Int) (k : Int), vs = [.ref a, .int k] ∧ SqL K H a (ns.map V.int) ∧ ns.length ≤ 63 ∧ 0 ≤ k ∧ k ≤ 100 ∧ ∀ r : Int, Q (.int r) H
def spFlow (K : PySem.W.Frag) : Sp := fun vs H Q _ => ∃ (a : Addr) (ns : List Int) (k : Int), vs = [.ref a, .int k] ∧ SqL K H a (ns.map V.int) ∧ ns.length ≤ 63 ∧ 0 ≤ k ∧ k ≤ 100 ∧ ∀ (p : Addr) (o : HO), H p = none → FlowAt (upd H p o) p → Q (.ref p) (upd H p o)
section
variable {P : Program} {w : World} {K : PySem.W.Frag} {mg : Str → Option Value} {base : Heap} {f g : Addr} {fd gd : FuncData} {k : Nat}
theorem scDraw : FnScope ["_law_flow_here", "_law_many", "_law_digit", "_law_number"] ["_law_flow_here", "_law_many"] (defScope sDraw) := ⟨rfl, rfl, rfl, by decide +kernel, rfl, by decide +kernel, by decide +kernel⟩
theorem tiny {n : Nat} (h : n ≤ 1000) : n ≤ sizeLine := Nat.le_of_lt (small1000 h)
theorem ok_draw (F : Fun K "_law_draw" "_law_draw" sDraw f fd) : FnOk P w K mg base CX0 (k + 1) f fd ["_law_flow_here", "_law_many"] spDraw := by
  refine F.ok scDraw (fun vs H Q E h => ?_) (fun cdv A outer s H vs Q E hr h => ?_)
  · obtain ⟨a, m, rfl, _⟩ := h
    rfl
  obtain ⟨a, m, rfl, ⟨x, y, z, e, hz0, hz1⟩, m0, m1, q⟩ := h
  have nd := scDraw.nd
  refine ⟨_, pss_cons (ps_if (pt_cmpR op_gt (pe_ix ix_list (pv 0) pe_int (fun _ _ => rfl)) pe_int (nomark _))
      (pss_cons (ps_set (i := 2) nd rfl (Or.inl rfl) (pe_op op_mod (pe_ix ix_list (pv 0) pe_int (fun _ _ => rfl)) (pv 1)))
      (pss_cons (ps_asg (pe_op op_fdivB (pe_ix ix_list (pv 0) pe_int (fun _ _ => rfl)) (pv 1)) (pg_sub (pv 0) pe_int set_list)) (pss_one (ps_ret (pv 2))))) pss_nil)
    (pss_cons (ps_asg (pe_op op_add (pe_ix ix_list (pv 0) pe_int (fun _ _ => rfl)) pe_int) (pg_sub (pv 0) pe_int set_list))
    (pss_cons (ps_set (i := 3) nd rfl (Or.inl rfl) (pe_op op_mod (pe_op op_add (pe_op op_add (pe_op op_mul (pe_ix ix_list (pv 0) pe_int (fun _ _ => rfl)) (pe_op op_add pe_int (pe_op op_mul pe_int (pe_ix ix_list (pv 0) pe_int (fun _ _ => rfl))))) (pe_op op_mul pe_int (pe_ix ix_list (pv 0) pe_int (fun _ _ => rfl)))) pe_int) pe_int))
    (pss_cons (ps_set (i := 3) nd rfl (Or.inl rfl) (pe_op op_mod (pe_op op_mul (pv 3) (pv 3)) pe_int))
    (pss_one (ps_ret (pe_op op_mod (pe_op op_fdivB (pe_op op_mod (pe_op op_mul (pe_op op_add (pv 3) pe_int) (pe_op op_add (pv 3) pe_int)) pe_int) pe_int) (pv 1))))))), ?_⟩
  refine ⟨_, rfl, a, _, _, _, rfl, rfl, SqL.of e, rfl, _, _, rfl, rfl, _, rfl, ?_⟩
  refine ite2 (fun c => ?_) (fun c => ?_)
  · refine ⟨_, rfl, a, _, _, _, rfl, rfl, SqL.of e, rfl, _, rfl, _, _, rfl, rfl, m0, ?_⟩
    refine ⟨_, rfl, a, _, _, _, rfl, rfl, SqL.of e, rfl, _, rfl, _, _, rfl, rfl, ⟨m0, Int.le_trans m1 (by decide)⟩, _, rfl, a, _, _, _, rfl, rfl, e, rfl, ?_⟩
    refine ⟨_, rfl, q _ _ (Int.emod_nonneg _ (by omega)) (Int.emod_lt_of_pos _ m0) ⟨_, _, _, upd_same, hz0, hz1⟩ Ext.own⟩
  · refine ⟨_, rfl, a, _, _, _, rfl, rfl, SqL.of e, rfl, _, _, rfl, rfl, _, rfl, a, _, _, _, rfl, rfl, e, rfl, ?_⟩
    have e2 : upd H a (.lst [.int x, .int (y + 1), .int z]) a = some (.lst [.int x, .int (y + 1), .int z]) := upd_same
    refine ⟨_, rfl, a, _, _, _, rfl, rfl, SqL.of e2, rfl, _, rfl, a, _, _, _, rfl, rfl, SqL.of e2, rfl, _, _, rfl, rfl, .inl ⟨by decide, by decide⟩, _, _, rfl, rfl, _, _, rfl, rfl, .inl ⟨by omega, by omega⟩, _, rfl, a, _, _, _, rfl, rfl, SqL.of e2, rfl, _, _, rfl, rfl, .inl ⟨by decide, by decide⟩, _, _, rfl, rfl, _, _, rfl, rfl, _, _, rfl, rfl, (show (0 : Int) < 2147483629 by decide), ?_⟩
    have b1 := Int.emod_nonneg (z * (48271 + 2 * (y + 1)) + 7919 * (y + 1) + 1) (show (2147483629 : Int) ≠ 0 by decide)
    have b2 := Int.emod_lt_of_pos (z * (48271 + 2 * (y + 1)) + 7919 * (y + 1) + 1) (show (0 : Int) < 2147483629 by decide)
    generalize (z * (48271 + 2 * (y + 1)) + 7919 * (y + 1) + 1) % 2147483629 = n1 at b1 b2 ⊢
    refine ⟨_, rfl, _, rfl, _, _, rfl, rfl, .inl ⟨by omega, by omega⟩, _, _, rfl, rfl, (show (0 : Int) < 2147483587 by decide), ?_⟩
    have b3 := Int.emod_nonneg (n1 * n1) (show (2147483587 : Int) ≠ 0 by decide)
    have b4 := Int.emod_lt_of_pos (n1 * n1) (show (0 : Int) < 2147483587 by decide)
    generalize n1 * n1 % 2147483587 = n2 at b3 b4 ⊢
    refine ⟨_, rfl, _, _, rfl, rfl, _, rfl, _, _, rfl, rfl, _, _, rfl, rfl, .inl ⟨by omega, by omega⟩, _, _, rfl, rfl, (show (0 : Int) < 2147483579 by decide), _, _, rfl, rfl, ⟨by decide, by decide⟩, _, rfl, _, _, rfl, rfl, m0, ?_⟩
    exact q _ _ (Int.emod_nonneg _ (by omega)) (Int.emod_lt_of_pos _ m0) ⟨_, _, _, e2, hz0, hz1⟩ Ext.own
theorem scCell : FnScope ["_law_script", "_law_k", "_law_number"] ["_law_script", "_law_k"] (defScope sCell) := ⟨rfl, rfl, rfl, by decide +kernel, rfl, by decide +kernel, by decide +kernel⟩
theorem at_in {ns : List Int} {k : Int} (h0 : 0 ≤ k) (h1 : k < (ns.length : Int)) : ∃ v : Int, atI (ns.map V.int) k = some (.int v) := by
  have hk : k.toNat < ns.length := by omega
  have ek : k = ((k.toNat : Nat) : Int) := by omega
  refine ⟨ns[k.toNat], ?_⟩
  have q : atI (ns.map V.int) ((k.toNat : Nat) : Int) = some (.int ns[k.toNat]) := atI_nat (by rw [List.getElem?_map, List.getElem?_eq_getElem hk]; rfl)
  rw [← ek] at q
  exact q
theorem ok_cell (F : Fun K "_law_cell" "_law_cell" sCell f fd) (ml : mg "len" = none) : FnOk P w K mg base CX0 (k + 1) f fd ["_law_script", "_law_k"] (spCell K) := by
  refine F.ok scCell (fun vs H Q E h => ?_) (fun cdv A outer s H vs Q E hr h => ?_)
  · obtain ⟨a, ns, i, rfl, _⟩ := h
    rfl
  obtain ⟨a, ns, i, rfl, hS, h63, i0, i1, q⟩ := h
  have nd := scCell.nd
  have hl : (ns.map V.int).length = ns.length := List.length_map _
  refine ⟨_, pss_cons (ps_if (pt_cmpR op_lt (pv 1) (pe_callB call_len_seq rfl ml PySem.boot_len (pa_cons (pv 0) pa_nil)) (nomark _)) (pss_one (ps_ret (pe_ix ix_list (pv 0) (pv 1) (fun _ _ => rfl)))) pss_nil)
    (pss_cons (ps_set (i := 2) nd rfl (Or.inl rfl) (pe_op op_add (pe_op op_mul (pv 1) pe_int) pe_int))
    (pss_cons (ps_if (pt_cmpR op_gt (pe_callB call_len_seq rfl ml PySem.boot_len (pa_cons (pv 0) pa_nil)) pe_int (nomark _))
      (pss_one (ps_set (i := 2) nd rfl (Or.inl rfl) (pe_op op_add (pe_op op_mul (pe_op op_mod (pe_ix ix_list (pv 0) (pe_op op_mod (pe_op op_mul (pv 1) pe_int) (pe_callB call_len_seq rfl ml PySem.boot_len (pa_cons (pv 0) pa_nil))) (fun _ _ => rfl)) pe_int) pe_int) (pe_op op_mul (pv 1) pe_int)))) pss_nil)
    (pss_one (ps_ret (pe_op op_mul (pe_op op_mod (pv 2) pe_int) pe_int))))), ?_⟩
  have fin : ∀ n : Int, (fun (v : V) H1 => Q v H1) (.int (n % 2147483647 * 31)) H := fun n => q _
  have mulok : ∀ n : Int, CMul (n % 2147483647) 31 := fun n => by
    have b1 := Int.emod_nonneg n (show (2147483647 : Int) ≠ 0 by decide)
    have b2 := Int.emod_lt_of_pos n (show (0 : Int) < 2147483647 by decide)
    exact .inl ⟨by omega, by omega⟩
  refine ⟨_, rfl, _, rfl, a, _, rfl, .inl hS, _, _, rfl, rfl, _, rfl, ?_⟩
  rw [hl]
  refine ite2 (fun c => ?_) (fun c => ?_)
  · have c' : i < (ns.length : Int) := of_decide_eq_true c
    obtain ⟨v, hv⟩ := at_in (ns := ns) i0 c'
    exact ⟨_, rfl, _, rfl, a, _, _, _, rfl, rfl, hS, hv, q v⟩
  · refine ⟨_, rfl, _, _, rfl, rfl, .inl ⟨by omega, by omega⟩, _, _, rfl, rfl, ?_⟩
    refine ⟨_, rfl, a, _, rfl, .inl hS, _, _, rfl, rfl, _, rfl, ?_⟩
    rw [hl]
    refine ite2 (fun c2 => ?_) (fun c2 => ?_)
    · have c' : 0 < (ns.length : Int) := of_decide_eq_true c2
      have b1 := Int.emod_nonneg (i * 7) (show (ns.length : Int) ≠ 0 by omega)
      have b2 := Int.emod_lt_of_pos (i * 7) c'
      obtain ⟨v, hv⟩ := at_in (ns := ns) b1 b2
      have b3 := Int.emod_nonneg v (show (2147483629 : Int) ≠ 0 by decide)
      have b4 := Int.emod_lt_of_pos v (show (0 : Int) < 2147483629 by decide)
      refine ⟨_, rfl, _, rfl, _, _, rfl, rfl, .inl ⟨by omega, by omega⟩, _, rfl, a, _, rfl, .inl hS, _, _, rfl, rfl, by rw [hl]; exact c', a, _, _, _, rfl, rfl, hS, by rw [hl]; exact hv, _, _, rfl, rfl, (show (0 : Int) < 2147483629 by decide), _, _, rfl, rfl, .inl ⟨by omega, by omega⟩, _, rfl, _, _, rfl, rfl, .inl ⟨by omega, by omega⟩, _, _, rfl, rfl, ?_⟩
      exact ⟨_, rfl, _, _, rfl, rfl, (show (0 : Int) < 2147483647 by decide), _, _, rfl, rfl, mulok _, q _⟩
    · exact ⟨_, rfl, _, _, rfl, rfl, (show (0 : Int) < 2147483647 by decide), _, _, rfl, rfl, mulok _, q _⟩
theorem scFlow : FnScope ["_law_script", "_law_k", "_law_cell_here", "_law_own"] ["_law_script", "_law_k"] (defScope sFlow) := ⟨rfl, rfl, rfl, by decide +kernel, rfl, by decide +kernel, by decide +kernel⟩
theorem ok_flow (F : Fun K "_law_flow" "_law_flow" sFlow f fd) (G : FnOk P w K mg base CX0 k g gd ["_law_script", "_law_k"] (spCell K)) (bG : Binds K gd ["_law_script", "_law_k"] []) (kG : PySem.W.keepIn K (.ref g) = true) (mG : mg "_law_cell" = some (.ref g)) :
    FnOk P w K mg base CX0 (k + 1) f fd ["_law_script", "_law_k"] (spFlow K) := by
  refine F.ok scFlow (fun vs H Q E h => ?_) (fun cdv A outer s H vs Q E hr h => ?_)
  · obtain ⟨a, ns, i, rfl, _⟩ := h
    rfl
  obtain ⟨a, ns, i, rfl, hS, h63, i0, i1, q⟩ := h
  have nd := scFlow.nd
  refine ⟨_, pss_cons (ps_set (i := 2) nd rfl (Or.inl rfl) (pe_call G hr rfl mG kG bG .nil pass0 (pa_cons (pv 0) (pa_cons (pv 1) pa_nil))))
    (pss_cons (ps_set (i := 3) nd rfl (Or.inl rfl) pe_int)
    (pss_cons (ps_if (pt_cmpR op_ge (pv 2) (pe_op op_pow pe_int pe_int) (nomark _)) (pss_one (ps_set (i := 3) nd rfl (Or.inl rfl) (pv 2))) pss_nil)
    (pss_one (ps_ret (pe_lst (pa_cons (pv 3) (pa_cons pe_int (pa_cons (pe_op op_add (pe_op op_mod (pv 2) pe_int) (pe_op op_mul pe_int (pv 1))) pa_nil)))))))), ?_⟩
  refine ⟨_, rfl, _, rfl, a, ns, i, rfl, hS, h63, i0, i1, fun r => ?_⟩
  have b3 := Int.emod_nonneg r (show (2147483629 : Int) ≠ 0 by decide)
  have b4 := Int.emod_lt_of_pos r (show (0 : Int) < 2147483629 by decide)
  refine ⟨_, rfl, _, _, rfl, rfl, ⟨by decide, by decide, by decide⟩, _, _, rfl, rfl, _, rfl, ?_⟩
  have fin : ∀ (own : Int) (p : Addr), H p = none → Q (.ref p) (upd H p (.lst [.int own, .int 0, .int (r % 2147483629 + 40692 * i)])) := fun own p hp => q p _ hp ⟨_, _, _, upd_same, by omega, by omega⟩
  refine ite2 (fun c => ?_) (fun c => ?_)
  · refine ⟨_, rfl, _, rfl, _, rfl, _, _, rfl, rfl, (show (0 : Int) < 2147483629 by decide), _, rfl, _, _, rfl, rfl, .inl ⟨by decide, by decide⟩, _, _, rfl, rfl, tiny (show 3 ≤ 1000 by decide), fun p hp => fin _ p hp⟩
  · refine ⟨_, rfl, _, rfl, _, _, rfl, rfl, (show (0 : Int) < 2147483629 by decide), _, rfl, _, _, rfl, rfl, .inl ⟨by decide, by decide⟩, _, _, rfl, rfl, tiny (show 3 ≤ 1000 by decide), fun p hp => fin _ p hp⟩
end
end KK
namespace L2
theorem hat_of {N fr : List PySem.Str} {idx : List Nat} (h : idx.map (fun j => N[j]?) = fr.map some) : ∀ (k : Nat) (x : PySem.Str) (j : Nat), fr[k]? = some x → idx[k]? = some j → N[j]? = some x := fun k x j h1 h2 => by
  have e : (idx.map fun j => N[j]?)[k]? = (fr.map some)[k]? := by rw [h]
  rw [List.getElem?_map, List.getElem?_map, h1, h2] at e
  exact Option.some.inj e
theorem pig {α : Type} [DecidableEq α] : ∀ (xs cs : List α), cs.Nodup → xs.length < cs.length → ∃ c, c ∈ cs ∧ c ∉ xs
  | [], [], _, h => by simp at h
  | [], c :: r, _, _ => ⟨c, List.mem_cons_self, by simp⟩
  | x :: r, cs, hn, h => by
    have hl : r.length < (cs.erase x).length := by
      rw [List.length_erase]
      rw [List.length_cons] at h
      split <;> omega
    obtain ⟨c, h1, h2⟩ := pig r (cs.erase x) (hn.erase x) hl
    have h3 := hn.mem_erase_iff.mp h1
    exact ⟨c, h3.2, fun z => (List.mem_cons.mp z).elim h3.1 h2⟩
end L2
namespace KK
open PySem L2 PyProof.Rows
def abc : Str := "abcdefghijklmnopqrstuvwxyz"
theorem abc_at {r : Int} (h0 : 0 ≤ r) (h1 : r < 26) : ∃ c, atI abc.cps.toList r = some c := by
  have hl : abc.cps.toList.length = 26 := by decide +kernel
  have hk : r.toNat < abc.cps.toList.length := by omega
  have ek : r = ((r.toNat : Nat) : Int) := by omega
  have q : atI abc.cps.toList ((r.toNat : Nat) : Int) = some (abc.cps.toList[r.toNat]) := atI_nat (List.getElem?_eq_getElem hk)
  rw [← ek] at q
  exact ⟨_, q⟩
theorem abc_len : abc.length ≤ sizeLine := by rw [sizeLine_eq]; decide +kernel
/-! ### texts of small letters -/
def AZ (y : Str) : Prop := ∀ c ∈ y.cps.toList, c ∈ abc.cps.toList
theorem az_one {c : Nat} (h : c ∈ abc.cps.toList) : AZ ⟨#[c]⟩ := fun d hd => by
  have e : d = c := by simpa using hd
  rw [e]; exact h
theorem az_app {x y : Str} (hx : AZ x) (hy : AZ y) : AZ (x ++ y) := fun c hc => by
  have hc' : c ∈ (x.cps ++ y.cps).toList := hc
  rw [Array.toList_append] at hc'
  exact (List.mem_append.mp hc').elim (hx c) (hy c)
theorem slice_to {x : Str} {j : Int} (h0 : 0 ≤ j) (h1 : j ≤ x.length) : (Txt.slice x none (some j)).cps.toList = x.cps.toList.take j.toNat := by
  have h := PyProof.Rows.slice_closes_to (x := x) (j := j) ⟨h0, h1⟩
  rw [beq_iff_eq.mp h]
  show (x.cps.toList.drop 0).take (j - 0).toNat = _
  rw [List.drop_zero, Int.sub_zero]
theorem slice_from {x : Str} {i : Int} (h0 : 0 ≤ i) (h1 : i ≤ x.length) : (Txt.slice x (some i) none).cps.toList = x.cps.toList.drop i.toNat := by
  rw [PyProof.Rows.slice_from_eq (b := x.length) h0 h1 rfl]
  show (x.cps.toList.drop i.toNat).take _ = _
  apply List.take_of_length_le
  rw [List.length_drop]
  show x.length - _ ≤ _
  omega
theorem len_list (x : Str) : x.length = x.cps.toList.length := rfl
theorem az_to {x : Str} {j : Int} (hx : AZ x) (h0 : 0 ≤ j) (h1 : j ≤ x.length) : AZ (Txt.slice x none (some j)) := fun c hc => by
  rw [slice_to h0 h1] at hc
  exact hx c (List.mem_of_mem_take hc)
theorem az_from {x : Str} {j : Int} (hx : AZ x) (h0 : 0 ≤ j) (h1 : j ≤ x.length) : AZ (Txt.slice x (some j) none) := fun c hc => by
  rw [slice_from h0 h1] at hc
  exact hx c (List.mem_of_mem_drop hc)
theorem len_parts {x : Str} {j : Int} (h0 : 0 ≤ j) (h1 : j ≤ x.length) : (Txt.slice x none (some j)).length + (Txt.slice x (some j) none).length = x.length := by
  rw [len_list (Txt.slice x none (some j)), len_list (Txt.slice x (some j) none), slice_to h0 h1, slice_from h0 h1, List.length_take, List.length_drop, ← len_list]
  omega
theorem join_cons (y : Str) (r : List Str) : (Txt.join "" (y :: r)).cps.toList = y.cps.toList ++ (Txt.join "" r).cps.toList := by
  have e : ∀ l, Txt.join "" l = Str.join "" l := fun l => PySem.StrLaws.glued_eq_join _ _
  rw [e, e]
  cases r with
  | nil =>
    show y.cps.toList = y.cps.toList ++ (Str.join "" []).cps.toList
    have h0 : (Str.join "" []).cps.toList = [] := rfl
    rw [h0, List.append_nil]
  | cons z r =>
    show ((y.cps ++ Str.cps "") ++ (Str.join "" (z :: r)).cps).toList = _
    have h0 : Str.cps "" = #[] := rfl
    rw [h0]
    simp
theorem join_all : ∀ {ys : List Str}, (∀ y ∈ ys, y.length = 1 ∧ AZ y) → (Txt.join "" ys).length = ys.length ∧ AZ (Txt.join "" ys)
  | [], _ => ⟨rfl, fun c hc => by
    have h0 : (Txt.join "" []).cps.toList = [] := rfl
    rw [h0] at hc; cases hc⟩
  | y :: r, h => by
    obtain ⟨h1, h2⟩ := join_all (ys := r) fun z hz => h z (List.mem_cons_of_mem _ hz)
    obtain ⟨h3, h4⟩ := h y List.mem_cons_self
    constructor
    · rw [len_list, join_cons, List.length_append, ← len_list, ← len_list, h1, h3, List.length_cons]; omega
    · intro c hc
      rw [join_cons] at hc
      exact (List.mem_append.mp hc).elim (h4 c) (h2 c)
/-- a name: one to eight small letters -/
def Nm (y : Str) : Prop := 0 < y.length ∧ y.length ≤ 8 ∧ AZ y
theorem at_mem {r : Int} {c : Nat} (h : atI abc.cps.toList r = some c) : c ∈ abc.cps.toList := let ⟨_, _, e, _⟩ := atI_get h; List.mem_of_getElem? e
def Signs (ys : List Str) : Prop := ∀ y ∈ ys, y.length = 1 ∧ AZ y
theorem Signs.snoc {ys : List Str} (h : Signs ys) {y : Str} (e : y.length = 1 ∧ AZ y) : Signs (ys ++ [y]) := fun z hz => (List.mem_append.mp hz).elim (h z) fun q => by rw [List.mem_singleton.mp q]; exact e
theorem signs_sum : ∀ {ys : List Str}, Signs ys → (ys.map (·.length)).sum = ys.length
  | [], _ => rfl
  | y :: r, h => by
    have e1 := (h y List.mem_cons_self).1
    have e2 := signs_sum (ys := r) fun z hz => h z (List.mem_cons_of_mem _ hz)
    rw [List.map_cons, List.sum_cons, e2, e1, List.length_cons]
    omega
def Bd (ys : List Str) : Prop := ∀ y ∈ ys, Nm y
abbrev teSign : TE := tOp rIxS (tVar 2) (tCall spDraw [] E0 (tCons (tVar 1) (tCons (tC (.int 26)) tNil)))
theorem ne_flow {H : Hp} {a D : Addr} (hD : H D = none) (hF : FlowAt H a) : D ≠ a := fun z => by
  obtain ⟨o, ho⟩ := hF.some
  rw [z, ho] at hD; cases hD
theorem ext_at {H H1 H4 : Hp} {a D : Addr} {o : HO} (hD : H D = none) (x : Ext a H H4) : Ext a H (upd H4 D o) := fun b u nb hb => by
  rw [upd_ne (ne_of_none hb hD)]; exact x b u nb hb
/-- signs drawn one by one -/
theorem letters {n : Nat} {D a : Addr} {Q : VK} {H1 : Hp} (hn : n ≤ 8) (hD : H1 D = none) (hF : FlowAt H1 a)
    (hd : ∀ (ys : List Str) (H' : Hp), ys.length = n → Signs ys → FlowAt H' a → Ext a H1 H' → H' D = some (.lst (ys.map V.str)) → Q (.ref D) H') :
    CompLoop (Itr 0 n) D (gName 0) tYes teSign Q [none, some (.ref a), some (.str abc)] H1 := by
  have nD := ne_flow hD hF
  refine comp_range (fun i ys σ H => ∃ (xs : List Str) (v : Option V), ys = xs.map V.str ∧ xs.length = i ∧ Signs xs ∧ σ = [v, some (.ref a), some (.str abc)] ∧ FlowAt H a ∧ Ext a H1 H) ?_ (by omega) ?_ ?_ ?_
  · exact ⟨[], none, rfl, rfl, (by intro _ z; cases z), rfl, hF.new hD, Ext.new hD⟩
  · rintro i ys σ H ⟨xs, v, rfl, rfl, _⟩
    rw [List.length_map]; exact Nat.le_refl _
  · rintro i ys σ H hi hl ⟨xs, v, rfl, rfl, hs, rfl, f, x⟩
    refine ⟨_, rfl, _, rfl, a, 26, rfl, f, by decide, by decide, fun r H4 r0 r1 f4 x4 => ?_⟩
    obtain ⟨c, hc⟩ := abc_at r0 r1
    have hl4 : H4 D = some (.lst (xs.map V.str)) := x4 D _ nD hl
    refine ⟨abc, r, c, rfl, rfl, abc_len, hc, hl4, xs ++ [⟨#[c]⟩], _, by rw [List.map_append]; rfl, by rw [List.length_append]; rfl, hs.snoc ⟨rfl, az_one (at_mem hc)⟩, rfl, f4.set (Ne.symm nD), ext_at (H1 := H1) hD (x.trans x4)⟩
  · rintro ys σ H hl ⟨xs, v, rfl, e, hs, _, f, x⟩
    exact hd xs H e hs f x hl
def wordOf (ys : List Str) : Str := Txt.join "" ys
theorem word_len {ys : List Str} (h : Signs ys) (hl : ys.length ≤ 8) : (wordOf ys).length ≤ 68 ∧ (ys.map (·.length)).sum + ys.length * (Str.length "") ≤ 16777216 := by
  have e := signs_sum h
  refine ⟨?_, ?_⟩
  · have q := (join_all h).1
    show (Txt.join "" ys).length ≤ 68
    omega
  · have e0 : Str.length "" = 0 := by decide
    rw [e, e0]; omega
theorem fold_ge (g : Str) : ∀ (l : List Str) (acc : Array Nat), acc.size ≤ (l.foldl (fun acc p => acc ++ g.cps ++ p.cps) acc).size
  | [], acc => Nat.le_refl _
  | p :: r, acc => by rw [List.foldl_cons]; exact Nat.le_trans (by rw [Array.size_append, Array.size_append]; omega) (fold_ge g r _)
theorem word_pos {ys : List Str} (h : Signs ys) (hne : ys ≠ []) : 0 < (wordOf ys).length := by
  cases ys with
  | nil => exact absurd rfl hne
  | cons y r =>
    have e : y.cps.size = 1 := (h y List.mem_cons_self).1
    have q := fold_ge "" r y.cps
    rw [e] at q
    exact q
theorem Ext.free {a p : Addr} {H H1 : Hp} (x : Ext a H H1) (f : FlowAt H1 a) (h : H1 p = none) : H p = none := by
  cases e : H p with
  | none => rfl
  | some o => rw [x _ _ (ne_flow h f) e] at h; cases h
def spNames : Sp := fun vs H Q _ => ∃ (a : Addr) (m : Int), vs = [.ref a, .int m] ∧ FlowAt H a ∧ 1 ≤ m ∧ m ≤ 6 ∧ ∀ (r : Addr) (ys : List Str) (H' : Hp), (ys.length : Int) = m → Bd ys → ys.Nodup → r ≠ a → H r = none → FlowAt H' a → Ext a H H' → H' r = some (.lst (ys.map V.str)) → Q (.ref r) H'
abbrev NN : List Str := ["_law_flow_here", "_law_many", "_law_some", "_law_found", "_law_k", "_law_name", "_law_word", "_law_at", "_law_first", "_law_long"]
theorem scNames : FnScope NN ["_law_flow_here", "_law_many"] (defScope sNames) := ⟨rfl, rfl, rfl, by decide +kernel, rfl, by decide +kernel, by decide +kernel⟩
theorem flat_strs (ys : List Str) : (ys.map V.str).all flatV = true := by
  rw [List.all_map]; exact List.all_eq_true.mpr fun _ _ => rfl
theorem inV_not {y : Str} {ys : List Str} (h : V.str y ∉ ys.map V.str) : inV (.str y) (ys.map V.str) = false := by
  unfold inV
  rw [List.any_eq_false]
  intro z hz
  obtain ⟨u, hu, rfl⟩ := List.mem_map.mp hz
  intro q
  have q' : (u == y) = true := q
  have e : u = y := by simpa using q'
  exact h (List.mem_map.mpr ⟨u, hu, by rw [e]⟩)
theorem Bd.snoc {ys : List Str} (h : Bd ys) {y : Str} (e : Nm y) : Bd (ys ++ [y]) := fun z hz => (List.mem_append.mp hz).elim (h z) fun q => by rw [List.mem_singleton.mp q]; exact e
theorem Bd.set {ys : List Str} (h : Bd ys) {y : Str} (e : Nm y) (i : Nat) : Bd (ys.set i y) := fun z hz => (List.mem_or_eq_of_mem_set hz).elim (h z) fun q => by rw [q]; exact e
theorem app_len (x y : Str) : (x ++ y).length = x.length + y.length := by
  show (x.cps ++ y.cps).size = x.cps.size + y.cps.size
  simp
theorem line_200 : (1000 : Nat) ≤ sizeLine := by rw [sizeLine_eq]; decide
theorem not_found {ys : List Str} (h : ys.length < 26) : ∃ (j : Nat) (c : Nat), j < 26 ∧ abc.cps[j]? = some c ∧ inV (.str ⟨#[c]⟩) (ys.map V.str) = false := by
  obtain ⟨v, h1, h2⟩ := pig (ys.map V.str) (abc.cps.toList.map fun c => V.str ⟨#[c]⟩) (by decide +kernel) (by rw [List.length_map, List.length_map]; exact Nat.lt_of_lt_of_le h (by decide +kernel))
  obtain ⟨c, hc, rfl⟩ := List.mem_map.mp h1
  obtain ⟨j, hj⟩ := List.getElem?_of_mem hc
  refine ⟨j, c, ?_, by simpa using hj, inV_not h2⟩
  have := (List.getElem?_eq_some_iff.mp hj).1
  exact Nat.lt_of_lt_of_le this (by decide +kernel)
theorem inV_mem {y : Str} {ys : List Str} : inV (.str y) (ys.map V.str) = true ↔ y ∈ ys := by
  unfold inV
  rw [List.any_map, List.any_eq_true]
  constructor
  · rintro ⟨x, hx, q⟩
    have q' : (x == y) = true := q
    have e : x = y := by simpa using q'
    rw [← e]; exact hx
  · intro h
    exact ⟨y, h, show (y == y) = true by simp⟩
theorem inV_nmem {y : Str} {ys : List Str} : inV (.str y) (ys.map V.str) = false ↔ y ∉ ys := by
  rw [← inV_mem]; simp
theorem nodup_snoc {α : Type} {ys : List α} {y : α} (h : ys.Nodup) (n : y ∉ ys) : (ys ++ [y]).Nodup := by
  rw [List.nodup_append]
  refine ⟨h, (by simp), fun a ha b hb e => ?_⟩
  rw [List.mem_singleton.mp hb] at e
  rw [e] at ha
  exact n ha
theorem nodup_set0 {us : List Str} {x : Str} (h : us.Nodup) (n : x ∉ us) : (us.set 0 x).Nodup := by
  cases us with
  | nil => exact h
  | cons u r =>
    rw [List.set_cons_zero]
    rw [List.nodup_cons] at h ⊢
    exact ⟨fun z => n (List.mem_cons_of_mem _ z), h.2⟩
theorem nodup_map_range {f : Nat → Str} {n : Nat} (h : ∀ i j, i < j → j < n → f i ≠ f j) : ((List.range n).map f).Nodup := by
  unfold List.Nodup
  rw [List.pairwise_map]
  refine List.Pairwise.imp_of_mem (R := fun a b => a < b) (fun {a b} _ hb hab => ?_) List.pairwise_lt_range
  exact h a b hab (List.mem_range.mp hb)
def abcC (r : Int) : Nat := abc.cps.toList.getD r.toNat 0
theorem abc_atC {r : Int} (h0 : 0 ≤ r) (h1 : r < 26) : atI abc.cps.toList r = some (abcC r) := by
  have hl : abc.cps.toList.length = 26 := by decide +kernel
  have hk : r.toNat < abc.cps.toList.length := by omega
  have ek : r = ((r.toNat : Nat) : Int) := by omega
  have q : atI abc.cps.toList ((r.toNat : Nat) : Int) = some (abcC r) := atI_nat (by unfold abcC; rw [List.getD_eq_getElem?_getD, List.getElem?_eq_getElem hk]; rfl)
  rw [← ek] at q
  exact q
theorem abcC_inj {r s : Int} (r0 : 0 ≤ r) (r1 : r < 26) (s0 : 0 ≤ s) (s1 : s < 26) (e : abcC r = abcC s) : r = s := by
  have hl : abc.cps.toList.length = 26 := by decide +kernel
  have nd : abc.cps.toList.Nodup := by decide +kernel
  have hr : r.toNat < abc.cps.toList.length := by omega
  have hs : s.toNat < abc.cps.toList.length := by omega
  unfold abcC at e
  rw [List.getD_eq_getElem?_getD, List.getD_eq_getElem?_getD, List.getElem?_eq_getElem hr, List.getElem?_eq_getElem hs] at e
  have := (List.getElem_inj nd).mp e
  omega
theorem abcC_mem {r : Int} (h0 : 0 ≤ r) (h1 : r < 26) : abcC r ∈ abc.cps.toList := at_mem (abc_atC h0 h1)
def famS (word : Str) (at' first : Int) (k : Nat) : Str := Txt.slice word none (some at') ++ ⟨#[abcC ((first + 7 * (0 + (k : Int))) % 26)]⟩ ++ Txt.slice word (some at') none
theorem fam_ne {word : Str} {at' first : Int} {i j : Nat} (h : i < j) (hj : j < 6) : famS word at' first i ≠ famS word at' first j := fun e => by
  have e1 : (famS word at' first i).cps.toList = (famS word at' first j).cps.toList := by rw [e]
  have q : ∀ k : Nat, (famS word at' first k).cps.toList = (Txt.slice word none (some at')).cps.toList ++ ([abcC ((first + 7 * (0 + (k : Int))) % 26)] ++ (Txt.slice word (some at') none).cps.toList) := fun k => by
    show ((Txt.slice word none (some at')).cps ++ #[abcC ((first + 7 * (0 + (k : Int))) % 26)] ++ (Txt.slice word (some at') none).cps).toList = _
    simp
  rw [q i, q j] at e1
  have e2 := List.append_cancel_right (List.append_cancel_left e1)
  have e3 : abcC ((first + 7 * (0 + (i : Int))) % 26) = abcC ((first + 7 * (0 + (j : Int))) % 26) := (List.cons.inj e2).1
  have e4 := abcC_inj (by omega) (by omega) (by omega) (by omega) e3
  omega
theorem fam_nm {word : Str} {at' first : Int} {k : Nat} (hw : AZ word) (hl : word.length ≤ 7) (h0 : 0 ≤ at') (h1 : at' ≤ word.length) : Nm (famS word at' first k) := by
  have l1 := app_len (Txt.slice word none (some at')) ⟨#[abcC ((first + 7 * (0 + (k : Int))) % 26)]⟩
  have l2 := app_len (Txt.slice word none (some at') ++ ⟨#[abcC ((first + 7 * (0 + (k : Int))) % 26)]⟩) (Txt.slice word (some at') none)
  have l3 : Str.length ⟨#[abcC ((first + 7 * (0 + (k : Int))) % 26)]⟩ = 1 := rfl
  have l4 := len_parts (x := word) h0 h1
  have l5 : (famS word at' first k).length = (Txt.slice word none (some at') ++ ⟨#[abcC ((first + 7 * (0 + (k : Int))) % 26)]⟩ ++ Txt.slice word (some at') none).length := rfl
  refine ⟨by omega, by omega, az_app (az_app (az_to hw h0 h1) (az_one (abcC_mem (Int.emod_nonneg _ (by decide)) (Int.emod_lt_of_pos _ (by decide))))) (az_from hw h0 h1)⟩
theorem fam_nodup {word : Str} {at' first : Int} {n : Nat} (hn : n ≤ 6) : ((List.range n).map (famS word at' first)).Nodup := nodup_map_range fun i j h hj => fam_ne h (by omega)
end KK
namespace KK
open PySem L2 PyProof.Rows
section
variable {P : Program} {w : World} {K : PySem.W.Frag} {mg : Str → Option Value} {base : Heap} {f g : Addr} {fd gd : FuncData} {k : Nat}
/-- a sign that is no name so far -/
theorem unused {D q : Addr} {Q : VK} {H1 : Hp} {ys : List Str} (hy : ys.length < 26) (hD : H1 D = none) (hq : H1 q = some (.lst (ys.map V.str)))
    (hd : ∀ (zs : List Str), zs ≠ [] → Signs zs → (∀ z ∈ zs, z ∉ ys) → ∀ H', (∀ b o, H1 b = some o → H' b = some o) → H' D = some (.lst (zs.map V.str)) → Q (.ref D) H') :
    CompLoop (Its abc) D (gName 0) (tTest (tOp (rIn K true) (tVar 0) (tVar 1))) (tVar 0) Q [none, some (.ref q)] H1 := by
  obtain ⟨j0, c0, hj, hc0, hin⟩ := not_found hy
  have nqD : q ≠ D := ne_of_none hq hD
  refine comp_str (fun i zs σ H => ∃ (xs : List Str) (v : Option V), zs = xs.map V.str ∧ xs.length ≤ i ∧ Signs xs ∧ σ = [v, some (.ref q)] ∧ (∀ z ∈ xs, z ∉ ys) ∧ (j0 < i → xs ≠ []) ∧ (∀ b o, H1 b = some o → H b = some o)) ?_ (by decide +kernel) ?_ ?_ ?_
  · exact ⟨[], none, rfl, Nat.le_refl _, (by intro _ z; cases z), rfl, (by intro _ z; cases z), (by intro z; omega), fun b o h => by rw [upd_ne (ne_of_none h hD)]; exact h⟩
  · rintro i zs σ H ⟨xs, v, rfl, h, _⟩
    rw [List.length_map]; exact h
  · rintro i c zs σ H hc hl ⟨xs, v, rfl, hle, hs, rfl, hnm, hne, hk⟩
    refine ⟨_, rfl, _, rfl, q, _, rfl, .inl (SqL.of (hk _ _ hq)), rfl, flat_strs ys, _, rfl, ?_⟩
    refine ite2 (fun b => ?_) (fun b => ?_)
    · refine ⟨_, rfl, hl, xs ++ [⟨#[c]⟩], _, by rw [List.map_append]; rfl, by rw [List.length_append, List.length_singleton]; omega, hs.snoc ⟨rfl, az_one (List.mem_of_getElem? (by rw [Array.getElem?_toList]; exact hc))⟩, rfl, fun z hz => ?_, fun _ z => ?_, fun b o h => ?_⟩
      · rcases List.mem_append.mp hz with hz | hz
        · exact hnm z hz
        · rw [List.mem_singleton.mp hz]
          have b2 : (!inV (.str ⟨#[c]⟩) (ys.map V.str)) = true := by simpa using b
          exact inV_nmem.mp (by simpa using b2)
      · have e := congrArg List.length z
        rw [List.length_append, List.length_singleton] at e
        simp at e
      · rw [upd_ne (ne_of_none h hD)]; exact hk b o h
    · refine ⟨hl, xs, _, rfl, by omega, hs, rfl, hnm, fun h => ?_, hk⟩
      by_cases hi : j0 < i
      · exact hne hi
      · have e : i = j0 := by omega
        subst e
        have e2 : c = c0 := Option.some.inj (hc.symm.trans hc0)
        rw [← e2] at hin
        exact absurd (show (if true = true then !inV (.str ⟨#[c]⟩) (ys.map V.str) else inV (.str ⟨#[c]⟩) (ys.map V.str)) = true by rw [if_pos rfl, hin]; rfl) b
  · rintro zs σ H hl ⟨xs, v, rfl, _, hs, _, hnm, hne, hk⟩
    exact hd xs (hne (Nat.lt_of_lt_of_le hj (by decide +kernel))) hs hnm H hk hl
theorem sl_len (x : Str) (lo hi : Option Int) : (Txt.slice x lo hi).length ≤ x.length := Txt.slice_le x lo hi
/-- names that differ by one sign -/
theorem family {D : Addr} {Q : VK} {H1 : Hp} {word : Str} {at' first : Int} {n : Nat} (hw : word.length ≤ 7) (hz0 : AZ word) (ha0 : 0 ≤ at') (ha1 : at' ≤ word.length) (h0 : 0 ≤ first) (hn : n ≤ 6) (hD : H1 D = none)
    (hd : ∀ (zs : List Str) H', zs.length = n → Bd zs → zs.Nodup → (∀ b o, H1 b = some o → H' b = some o) → H' D = some (.lst (zs.map V.str)) → Q (.ref D) H') :
    CompLoop (Itr 0 n) D (gName 0) tYes (tOp (fun x y H Q => ∃ i j, x = .str i ∧ y = .str j ∧ i.length + j.length ≤ sizeLine ∧ Q (.str (i ++ j)) H)
      (tOp (fun x y H Q => ∃ i j, x = .str i ∧ y = .str j ∧ i.length + j.length ≤ sizeLine ∧ Q (.str (i ++ j)) H) (tSl rSlS (tVar 1) tNoPart (tPart (tVar 2)))
        (tOp rIxS (tVar 3) (tOp (rI (fun _ j => 0 < j) fun i j => .int (i % j)) (tOp (rI0 fun i j => .int (i + j)) (tVar 4) (tOp (rI CMul fun i j => .int (i * j)) (tC (.int 7)) (tVar 0))) (tC (.int 26)))))
      (tSl rSlS (tVar 1) (tPart (tVar 2)) tNoPart)) Q [none, some (.str word), some (.int at'), some (.str abc), some (.int first)] H1 := by
  have hz : word.length ≤ sizeLine := Nat.le_trans (by omega) line_200
  refine comp_range (fun i zs σ H => ∃ (xs : List Str) (v : Option V), zs = xs.map V.str ∧ xs = (List.range i).map (famS word at' first) ∧ xs.length = i ∧ Bd xs ∧ σ = [v, some (.str word), some (.int at'), some (.str abc), some (.int first)] ∧ (∀ b o, H1 b = some o → H b = some o)) ?_ (by omega) ?_ ?_ ?_
  · exact ⟨[], none, rfl, rfl, rfl, (by intro _ z; cases z), rfl, fun b o h => by rw [upd_ne (ne_of_none h hD)]; exact h⟩
  · rintro i zs σ H ⟨xs, v, rfl, _, rfl, _⟩
    rw [List.length_map]; exact Nat.le_refl _
  · rintro i zs σ H hi hl ⟨xs, v, rfl, hfam, rfl, hb, rfl, hk⟩
    have hc := abc_atC (Int.emod_nonneg (first + 7 * (0 + (xs.length : Int))) (show (26 : Int) ≠ 0 by decide)) (Int.emod_lt_of_pos _ (by decide))
    generalize hcc : abcC ((first + 7 * (0 + (xs.length : Int))) % 26) = c at hc
    have l1 := sl_len word none (some at')
    have l2 := sl_len word (some at') none
    have l3 : Str.length ⟨#[c]⟩ = 1 := rfl
    have l4 := app_len (Txt.slice word none (some at')) ⟨#[c]⟩
    have l5 := app_len (Txt.slice word none (some at') ++ ⟨#[c]⟩) (Txt.slice word (some at') none)
    have hs := line_200
    refine ⟨_, rfl, _, rfl, _, rfl, word, rfl, hz, _, rfl, _, rfl, _, rfl, _, _, rfl, rfl, .inl ⟨by decide, by decide⟩, _, _, rfl, rfl, _, _, rfl, rfl, (show (0 : Int) < 26 by decide), abc, _, c, rfl, rfl, abc_len, hc, _, _, rfl, rfl, by omega, ?_⟩
    refine ⟨_, rfl, _, rfl, _, rfl, word, rfl, hz, _, _, rfl, rfl, by omega, hl, xs ++ [_], _, by rw [List.map_append]; rfl, ?fam, by rw [List.length_append]; rfl, hb.snoc ?nm, rfl, fun b o h => ?_⟩
    case nm =>
      rw [← hcc]
      exact fam_nm (word := word) (at' := at') (first := first) (k := xs.length) hz0 hw ha0 ha1
    case fam =>
      rw [List.range_succ, List.map_append, ← hfam, ← hcc]; rfl
    rw [upd_ne (ne_of_none h hD)]; exact hk b o h
  · rintro zs σ H hl ⟨xs, v, rfl, hfam, e, hb, _, hk⟩
    exact hd xs H e hb (by rw [hfam]; exact fam_nodup hn) hk hl
theorem ok_names (F : Fun K "_law_names" "_law_names" sNames f fd) (G : FnOk P w K mg base CX0 k g gd ["_law_flow_here", "_law_many"] spDraw) (bG : Binds K gd ["_law_flow_here", "_law_many"] []) (kG : PySem.W.keepIn K (.ref g) = true) (mG : mg "_law_draw" = some (.ref g))
    (mr : mg "range" = none) (ml : mg "len" = none) : FnOk P w K mg base CX0 (k + 1) f fd ["_law_flow_here", "_law_many"] spNames := by
  refine F.ok scNames (fun vs H Q E h => ?_) (fun cdv A outer s H vs Q E hr h => ?_)
  · obtain ⟨a, m, rfl, _⟩ := h
    rfl
  obtain ⟨a, m, rfl, hF, m1, m6, q⟩ := h
  have nd := scNames.nd
  refine ⟨_, pss_cons (ps_set (i := 2) nd rfl (Or.inr rfl) pe_str)
    (pss_cons (ps_if (pt_cmpR op_eq (pe_call G hr rfl mG kG bG .nil pass0 (pa_cons (pv 0) (pa_cons pe_int pa_nil))) pe_int (nomark _))
      (pss_cons (ps_set (i := 3) nd rfl (Or.inr rfl) (pe_lst pa_nil))
      (pss_cons (ps_for PassesOwn.never rfl (pi_range1 rfl mr (pa_cons (pv 1) pa_nil)) (pg_name (i := 4) nd rfl (Or.inl rfl))
        (pss_cons (ps_set (i := 5) nd rfl (Or.inl rfl) (pe_bm PySem.F.plainAttrs_str PySem.F.slot_str_join PySem.F.type_str_join mt_join pe_str (pa_cons
            (pe_comp (own := ["_law_j"]) (fr := ["_law_flow_here", "_law_some"]) (idx := [0, 2]) rfl (by show CompScope _ _ _ (defScope sNames); exact ⟨rfl, by decide +kernel, by decide +kernel, by decide +kernel, by decide +kernel, by decide +kernel, by decide +kernel⟩)
              (pi_range1 rfl mr (pa_cons (pe_op op_add pe_int (pe_call G hr rfl mG kG bG .nil pass0 (pa_cons (pv 0) (pa_cons pe_int pa_nil)))) pa_nil))
              (fun _ _ _ _ _ => pg_name (i := 0) (by show List.Nodup (["_law_j", "_law_flow_here", "_law_some"] : List Str); decide +kernel) rfl (Or.inl rfl) (Or.inr rfl)) (fun _ _ _ _ _ => pts_nil)
              (fun _ _ _ _ _ => pe_ix ix_str (pv 2) (pe_call G hr rfl mG kG bG .nil pass0 (pa_cons (pv 1) (pa_cons pe_int pa_nil))) (fun _ _ => rfl)) rfl (hat_of rfl)) pa_nil)))
        (pss_cons (ps_if (pt_cmpR op_in_seq (pv 5) (pv 3) rfl)
          (pss_one (ps_set (i := 5) nd rfl (Or.inl rfl) (pe_ix ix_list
            (pe_comp (own := ["_law_one"]) (fr := ["_law_found"]) (idx := [3]) (tc := tTest (tOp (rIn K true) (tVar 0) (tVar 1))) rfl (by show CompScope _ _ _ (defScope sNames); exact ⟨rfl, by decide +kernel, by decide +kernel, by decide +kernel, by decide +kernel, by decide +kernel, by decide +kernel⟩)
              (pi_str (pv 2)) (fun _ _ _ _ _ => pg_name (i := 0) (by show List.Nodup (["_law_one", "_law_found"] : List Str); decide +kernel) rfl (Or.inl rfl) (Or.inr rfl)) (fun _ _ _ _ _ => pts_one (pt_cmpR op_notIn_seq (pv 0) (pv 1) rfl)) (fun _ _ _ _ _ => pv 0) rfl (hat_of rfl))
            pe_int (fun _ _ => rfl)))) pss_nil)
        (pss_one (ps_expr (pe_bm PySem.F.plainAttrs_list PySem.F.slot_list_append PySem.F.type_list_append mt_append (pv 3) (pa_cons (pv 5) pa_nil)))))))
      (pss_one (ps_ret (pv 3))))) pss_nil)
    (pss_cons (ps_set (i := 6) nd rfl (Or.inr rfl) (pe_bm PySem.F.plainAttrs_str PySem.F.slot_str_join PySem.F.type_str_join mt_join pe_str (pa_cons
            (pe_comp (own := ["_law_j"]) (fr := ["_law_flow_here", "_law_some"]) (idx := [0, 2]) rfl (by show CompScope _ _ _ (defScope sNames); exact ⟨rfl, by decide +kernel, by decide +kernel, by decide +kernel, by decide +kernel, by decide +kernel, by decide +kernel⟩)
              (pi_range1 rfl mr (pa_cons (pe_call G hr rfl mG kG bG .nil pass0 (pa_cons (pv 0) (pa_cons pe_int pa_nil))) pa_nil))
              (fun _ _ _ _ _ => pg_name (i := 0) (by show List.Nodup (["_law_j", "_law_flow_here", "_law_some"] : List Str); decide +kernel) rfl (Or.inl rfl) (Or.inr rfl)) (fun _ _ _ _ _ => pts_nil)
              (fun _ _ _ _ _ => pe_ix ix_str (pv 2) (pe_call G hr rfl mG kG bG .nil pass0 (pa_cons (pv 1) (pa_cons pe_int pa_nil))) (fun _ _ => rfl)) rfl (hat_of rfl)) pa_nil)))
    (pss_cons (ps_set (i := 7) nd rfl (Or.inr rfl) (pe_call G hr rfl mG kG bG .nil pass0 (pa_cons (pv 0) (pa_cons (pe_op op_add (pe_callB call_len_str rfl ml PySem.boot_len (pa_cons (pv 6) pa_nil)) pe_int) pa_nil))))
    (pss_cons (ps_set (i := 8) nd rfl (Or.inr rfl) (pe_call G hr rfl mG kG bG .nil pass0 (pa_cons (pv 0) (pa_cons pe_int pa_nil))))
    (pss_cons (ps_set (i := 3) nd rfl (Or.inr rfl)
            (pe_comp (own := ["_law_k"]) (fr := ["_law_word", "_law_at", "_law_some", "_law_first"]) (idx := [6, 7, 2, 8]) rfl (by show CompScope _ _ _ (defScope sNames); exact ⟨rfl, by decide +kernel, by decide +kernel, by decide +kernel, by decide +kernel, by decide +kernel, by decide +kernel⟩)
              (pi_range1 rfl mr (pa_cons (pv 1) pa_nil))
              (fun _ _ _ _ _ => pg_name (i := 0) (by show List.Nodup (["_law_k", "_law_word", "_law_at", "_law_some", "_law_first"] : List Str); decide +kernel) rfl (Or.inl rfl) (Or.inr rfl)) (fun _ _ _ _ _ => pts_nil)
              (fun _ _ _ _ _ => pe_op op_add_str (pe_op op_add_str (pe_slice sl_str (pv 1) po_none (po_some (pv 2))) (pe_ix ix_str (pv 3) (pe_op op_mod (pe_op op_add (pv 4) (pe_op op_mul pe_int (pv 0))) pe_int) (fun _ _ => rfl))) (pe_slice sl_str (pv 1) (po_some (pv 2)) po_none)) rfl (hat_of rfl)))
    (pss_cons (ps_if (pt_cmpR op_eq (pe_call G hr rfl mG kG bG .nil pass0 (pa_cons (pv 0) (pa_cons pe_int pa_nil))) pe_int (nomark _))
      (pss_cons (ps_set (i := 9) nd rfl (Or.inl rfl) (pe_op op_add_str (pv 6) (pe_slice sl_str pe_str (po_some (pe_callB call_len_str rfl ml PySem.boot_len (pa_cons (pv 6) pa_nil))) po_none)))
      (pss_one (ps_if (pt_cmpR op_notIn_seq (pv 9) (pv 3) rfl) (pss_one (ps_asg (pv 9) (pg_sub (pv 3) pe_int set_list))) pss_nil))) pss_nil)
    (pss_one (ps_ret (pv 3))))))))), ?_⟩
  have hmN : m.toNat ≤ 6 := by omega
  refine ⟨_, rfl, a, 3, rfl, hF, by decide, by decide, fun r0 H0 _ _ f0 x0 => ⟨rfl, _, rfl, ?_⟩⟩
  refine ite2 (fun c => ?_) (fun c => ?_)
  · refine ⟨tiny (show 0 ≤ 1000 by decide), fun q0 hq0 => ?_⟩
    have nq := ne_flow hq0 f0
    refine ⟨_, rfl, m, rfl, by omega, by omega, for_range (n := m.toNat) (fun i σ H => ∃ (ys : List Str) (v4 v5 v6 v7 v8 v9 : Option V), σ = [some (.ref a), some (.int m), some (.str abc), some (.ref q0), v4, v5, v6, v7, v8, v9] ∧ ys.length = i ∧ Bd ys ∧ ys.Nodup ∧ FlowAt H a ∧ Ext a H0 H ∧ H q0 = some (.lst (ys.map V.str))) ?_ ?_ ?_⟩
    · exact ⟨[], _, _, _, _, _, _, rfl, rfl, (by intro _ z; cases z), List.nodup_nil, f0.new hq0, Ext.new hq0, upd_same⟩
    · rintro i σ H ii ⟨ys, v4, v5, v6, v7, v8, v9, rfl, rfl, hb, hnd, fl, xl, hl⟩
      refine ⟨rfl, _, rfl, a, 8, rfl, fl, by decide, by decide, fun r1 H1 r10 r11 f1 x1 => ⟨_, _, rfl, rfl, _, rfl, by omega, by omega, fun D hD => letters (by omega) hD f1 fun zs H2 e2 s2 f2 x2 d2 => ?_⟩⟩
      obtain ⟨wl, ws⟩ := word_len s2 (by omega)
      have l2 : H2 q0 = some (.lst (ys.map V.str)) := x2 _ _ nq (x1 _ _ nq hl)
      refine ⟨_, D, zs, rfl, rfl, SqL.of d2, ws, ?_⟩
      have step : ∀ (nm : Str) (H3 : Hp), Nm nm → nm ∉ ys → FlowAt H3 a → Ext a H0 H3 → H3 q0 = some (.lst (ys.map V.str)) → ∃ v, [some (V.ref a), some (.int m), some (.str abc), some (.ref q0), some (.int (0 + (ys.length : Int))), some (.str nm), v6, v7, v8, v9][3]? = some (some v) ∧ (tyV K "list" v H3 ∧ ∃ v', [some (V.ref a), some (.int m), some (.str abc), some (.ref q0), some (.int (0 + (ys.length : Int))), some (.str nm), v6, v7, v8, v9][5]? = some (some v') ∧ rAppend v [v'] H3 fun _ H4 =>
          ∃ (zs : List Str) (v4 v5 v6' v7' v8' v9' : Option V), [some (V.ref a), some (.int m), some (.str abc), some (.ref q0), some (.int (0 + (ys.length : Int))), some (.str nm), v6, v7, v8, v9] = [some (.ref a), some (.int m), some (.str abc), some (.ref q0), v4, v5, v6', v7', v8', v9'] ∧ zs.length = ys.length + 1 ∧ Bd zs ∧ zs.Nodup ∧ FlowAt H4 a ∧ Ext a H0 H4 ∧ H4 q0 = some (.lst (zs.map V.str))) := fun nm H3 hn hni f3 x3 l3 =>
        ⟨_, rfl, .inl ⟨rfl, _, SqL.of l3⟩, _, rfl, q0, _, _, rfl, rfl, l3, Nat.lt_of_lt_of_le (by rw [List.length_map]; omega) line_200, ys ++ [nm], _, _, _, _, _, _, rfl, by rw [List.length_append]; rfl, hb.snoc hn, nodup_snoc hnd hni, f3.set (Ne.symm nq), ext_at (H1 := H0) hq0 x3, by rw [upd_same, List.map_append]; rfl⟩
      refine ⟨_, rfl, _, rfl, q0, _, rfl, .inl (SqL.of l2), rfl, flat_strs ys, _, rfl, ?_⟩
      refine ite2 (fun _ => ?_) (fun cc => ?_)
      · refine ⟨_, rfl, abc, rfl, fun D2 hD2 => unused (by omega) hD2 l2 fun us une us2 unm H4 k4 d4 => ?_⟩
        obtain ⟨u, ur, eu⟩ := List.exists_cons_of_ne_nil une
        subst eu
        refine ⟨D2, _, _, _, rfl, rfl, SqL.of d4, atI_nat (j := 0) (v := V.str u) rfl, ?_⟩
        obtain ⟨x, y, z, ef, hz⟩ := f2
        exact step u H4 (by have us3 := us2 u List.mem_cons_self; exact ⟨by rw [us3.1]; decide, by rw [us3.1]; decide, us3.2⟩) (unm u List.mem_cons_self) ⟨x, y, z, k4 _ _ ef, hz⟩ (fun b o nb hb' => k4 _ _ ((xl.trans (x1.trans x2)) b o nb hb')) (k4 _ _ l2)
      · exact step _ H2 ⟨word_pos s2 (fun z => by rw [z] at e2; have e3 : 0 = _ := e2; omega), by have w1 : (Txt.join "" zs).length = zs.length := (join_all s2).1; show (Txt.join "" zs).length ≤ 8; omega, (join_all s2).2⟩ (inV_nmem.mp (by simpa using cc)) f2 (xl.trans (x1.trans x2)) l2
    · rintro σ H ⟨ys, v4, v5, v6, v7, v8, v9, rfl, e, hb, hnd, fl, xl, hl⟩
      exact ⟨_, rfl, q q0 ys H (by omega) hb hnd nq (x0.free f0 hq0) fl (x0.trans xl) hl⟩
  · refine ⟨rfl, _, rfl, a, 8, rfl, f0, by decide, by decide, fun r1 H1 r10 r11 f1 x1 => ⟨_, rfl, by omega, by omega, fun D hD => letters (by omega) hD f1 fun zs H2 e2 s2 f2 x2 d2 => ?_⟩⟩
    obtain ⟨wl, ws⟩ := word_len s2 (by omega)
    refine ⟨_, D, zs, rfl, rfl, SqL.of d2, ws, ?_⟩
    have wa := (join_all s2).2
    have w7 : (Txt.join "" zs).length ≤ 7 := by have w1 := (join_all s2).1; omega
    change (Txt.join "" zs).length ≤ 68 at wl
    generalize Txt.join "" zs = word at wl wa w7 ⊢
    have wz : word.length ≤ sizeLine := Nat.le_trans (by omega) line_200
    refine ⟨_, rfl, _, rfl, _, rfl, wz, _, _, rfl, rfl, a, _, rfl, f2, by omega, by omega, fun r3 H3 r30 r31 f3 x3 => ?_⟩
    refine ⟨_, rfl, a, 26, rfl, f3, by decide, by decide, fun r4 H4 r40 _ f4 x4 => ?_⟩
    refine ⟨_, rfl, m, rfl, by omega, by omega, fun D2 hD2 => family w7 wa r30 (by omega) r40 hmN hD2 fun us H5 e5 b5 n5 k5 d5 => ?_⟩
    have f5 : FlowAt H5 a := by
      obtain ⟨x, y, z, ef, hz⟩ := f4
      exact ⟨x, y, z, k5 _ _ ef, hz⟩
    have n2 := ne_flow hD2 f4
    have fr : H D2 = none := (x0.trans (x1.trans (x2.trans (x3.trans x4)))).free f4 hD2
    have x5 : Ext a H H5 := fun b o nb hb => k5 _ _ ((x0.trans (x1.trans (x2.trans (x3.trans x4)))) b o nb hb)
    refine ⟨_, rfl, a, 4, rfl, f5, by decide, by decide, fun r6 H6 _ _ f6 x6 => ⟨rfl, _, rfl, ?_⟩⟩
    have d6 := x6 _ _ n2 d5
    refine ite2 (fun _ => ?_) (fun _ => ?_)
    · have ll := sl_len "zzzzzzzz" (some (word.length : Int)) none
      have l8 : Str.length "zzzzzzzz" = 8 := by decide
      have la := app_len word (Txt.slice "zzzzzzzz" (some (word.length : Int)) none)
      have hs := line_200
      have zAZ : AZ "zzzzzzzz" := by intro c hc; revert c; decide +kernel
      have lq := len_parts (x := "zzzzzzzz") (j := (word.length : Int)) (by omega) (by omega)
      have lr := congrArg List.length (slice_to (x := "zzzzzzzz") (j := (word.length : Int)) (by omega) (by omega))
      rw [← len_list, List.length_take, ← len_list] at lr
      have lp : 0 < word.length + (Txt.slice "zzzzzzzz" (some (word.length : Int)) none).length := by
        rcases Nat.eq_zero_or_pos word.length with h | h
        · rw [h]; decide
        · omega
      refine ⟨_, rfl, _, rfl, _, rfl, wz, _, rfl, _, rfl, by omega, _, _, rfl, rfl, by omega, ?_⟩
      refine ⟨_, rfl, _, rfl, D2, _, rfl, .inl (SqL.of d6), rfl, flat_strs us, _, rfl, ?_⟩
      refine ite2 (fun cc => ?_) (fun _ => ?_)
      · refine ⟨_, rfl, _, rfl, D2, _, 0, 0, rfl, rfl, d6, ?_, ?_⟩
        · unfold ixN
          rw [List.length_map, e5, if_pos (by decide), if_pos (by omega)]
          rfl
        · refine ⟨_, rfl, q D2 (us.set 0 (word ++ Txt.slice "zzzzzzzz" (some (word.length : Int)) none)) _ (by rw [List.length_set]; omega) (b5.set ⟨by omega, by omega, az_app wa (az_from zAZ (by omega) (by omega))⟩ 0) (nodup_set0 n5 (inV_nmem.mp (by simpa using cc))) n2 fr (f6.set (Ne.symm n2)) (fun b o nb hb => ?_) ?_⟩
          · have := x6 _ _ nb (x5 b o nb hb)
            by_cases hbd : b = D2
            · exfalso
              rw [hbd] at hb
              have := (x0.trans (x1.trans (x2.trans (x3.trans x4)))) _ _ n2 hb
              rw [hD2] at this; cases this
            · rw [upd_ne hbd]; exact this
          · rw [upd_same, List.map_set]
      · exact ⟨_, rfl, q D2 us H6 (by omega) b5 n5 n2 fr f6 (x5.trans x6) d6⟩
    · exact ⟨_, rfl, q D2 us H6 (by omega) b5 n5 n2 fr f6 (x5.trans x6) d6⟩
end
end KK
namespace L2
open PySem PySem.Spec PyProof.Rows
theorem for_enum {K : PySem.W.Frag} {a : Addr} {xs : List V} {g : TG} {tb : TS} {D : Ends} {σ : St} {H : Hp} (Pv : Nat → St → Hp → Prop) (h0 : Pv 0 σ H) (hl : ∀ i σ H, i ≤ xs.length → Pv i σ H → SqL K H a xs)
    (hs : ∀ i x σ H T, xs[i]? = some x → H T = none → Pv i σ H → g (.ref T) σ (upd H T (.tup [.int i, x])) fun σ2 H2 => tb { D with nx := Pv (i + 1), ct := Pv (i + 1), bk := D.nx } σ2 H2) (hd : ∀ σ H, Pv xs.length σ H → D.nx σ H) :
    ∃ W : Nat → Nat → St → Hp → Prop, (∃ m, W 0 m σ H) ∧ ∀ i m σ H, W i m σ H →
      ((Ite K a).stop i H ∧ D.nx σ H) ∨ ((Ite K a).go i H ∧ ∃ N : St → Hp → Prop, (∀ σ' H', N σ' H' → ∃ m', m' < m ∧ W (i + 1) m' σ' H') ∧ ∀ x H', (Ite K a).yld i H x H' → g x σ H' fun σ2 H2 => tb { D with nx := N, ct := N, bk := D.nx } σ2 H2) := by
  refine ⟨fun i m σ H => m = xs.length - i ∧ i ≤ xs.length ∧ Pv i σ H, ⟨xs.length, by simp, Nat.zero_le _, h0⟩, ?_⟩
  rintro i m σ H ⟨rfl, hi, p⟩
  have q := hl i σ H hi p
  by_cases hlt : i < xs.length
  · refine .inr ⟨⟨xs, xs[i], q, by simp [hlt]⟩, Pv (i + 1), fun σ' H' p' => ⟨xs.length - (i + 1), by omega, rfl, hlt, p'⟩, fun x H' y => ?_⟩
    obtain ⟨T, hT, rfl, y⟩ := y
    obtain ⟨x', hx, rfl⟩ := y xs q
    exact hs i x' σ H T hx hT p
  · have e : i = xs.length := by omega
    subst e
    exact .inl ⟨⟨xs, q, Nat.le_refl _⟩, hd σ H p⟩
end L2
namespace KK
open PySem L2 PyProof.Rows
def spInit1 (C : Addr) (f1 : Str) : Sp := fun vs H Q _ => ∃ (e t : Addr) (v1 : V), vs = [.ref e, v1] ∧ H e = some (ExcO e C t none) ∧ ∀ H', XAt H' e C [(f1, v1)] → (∀ b o, b ≠ e → H b = some o → H' b = some o) → Q .non H'
section
variable {P : Program} {w : World} {K : PySem.W.Frag} {mg : Str → Option Value} {base : Heap} {f C M : Addr} {fd : FuncData} {k : Nat} {st : Stmt} {qual f1 f2 : Str} {p1 p2 p3 p4 p5 p6 p7 p8 : Pos}
theorem ok_init1 (F : Fun K "__init__" qual st f fd) (xc : XC K C M) (a1 : PySem.W.findIn K (.ref C) f1 = some none) (S : FnScope ["self", f1] ["self", f1] (defScope st)) (hb : defBody st = [.Assign [.Attribute (.Name "self" p1) f1 p2] (.Name f1 p3) p4])
    (h0 : (defScope st).names.lookup ("self" : Str) = some .local) (h1 : (defScope st).names.lookup f1 = some .local) (d1 : (f1 == ("__debug__" : Str)) = false) (d2 : (f1 == ("__classdict__" : Str)) = false) : FnOk P w K mg base CX0 (k + 1) f fd ["self", f1] (spInit1 C f1) := by
  refine F.ok S (fun vs H Q E h => ?_) (fun cdv A outer s H vs Q E hr h => ?_)
  · obtain ⟨e, t, v1, rfl, _⟩ := h
    rfl
  obtain ⟨e, t, v1, rfl, he, q⟩ := h
  rw [hb]
  refine ⟨_, pss_one (ps_fldX xc a1 (pv 0 rfl (Or.inl h0)) (pv 1 rfl (Or.inl h1) d1 d2)), ?_⟩
  refine ⟨_, rfl, _, rfl, e, rfl, .inl ⟨t, he, fun dx hd hn => q _ ⟨t, .inr ⟨dx, by rw [upd_ne (Ne.symm hn)]; exact upd_same, upd_same, hn⟩⟩ fun b o nb hb' => ?_⟩⟩
  rw [upd_ne (ne_of_none hb' hd), upd_ne nb]; exact hb'
variable {D : Addr} {cd : ClassData}
end
end KK
namespace KK
open PySem L2 PyProof.Rows KKM
structure Fn (P : Program) (w : World) (K : PySem.W.Frag) (mg : Str → Option Value) (base : Heap) (k : Nat) (x : Str) (ps : List Str) (sp : Sp) (g : Addr) (gd : FuncData) : Prop where
  ok : FnOk P w K mg base CX0 k g gd ps sp
  bn : Binds K gd ps []
  kp : PySem.W.keepIn K (.ref g) = true
  at_ : mg x = some (.ref g)
structure Bt (mg : Str → Option Value) : Prop where
  len_ : mg "len" = none
  range_ : mg "range" = none
  max_ : mg "max" = none
  sorted_ : mg "sorted" = none
  tuple_ : mg "tuple" = none
  set_ : mg "set" = none
  min_ : mg "min" = none
  enumerate_ : mg "enumerate" = none
  zip_ : mg "zip" = none
  repr_ : mg "repr" = none
  list_ : mg "list" = none
  all_ : mg "all" = none
  isinstance_ : mg "isinstance" = none
  ve_ : mg "ValueError" = none
  int_ : mg "int" = none
  bool_ : mg "bool" = none
  str_ : mg "str" = none
  lng : ∃ t, mg "LONGEST_NAME" = some (.int 8 t)
  sml : ∃ t, mg "SMALL_LETTERS" = some (.str abc t)
  fig : ∃ t, mg "FIGURES" = some (.str "0123456789" t)
  mst : ∃ t, mg "MOST_FIGURES" = some (.int 3 t)
/-! ### heaps that keep their tuples -/
theorem _root_.L2.Same.ext {a : Addr} {H H' : Hp} (x : Same H H') : Ext a H H' := fun b o _ q => x b o q
theorem _root_.L2.Same.flow {a : Addr} {H H' : Hp} (x : Same H H') (f : FlowAt H a) : FlowAt H' a := by
  obtain ⟨i, j, k, e, r⟩ := f
  exact ⟨i, j, k, x _ _ e, r⟩
theorem sm_new {H : Hp} {p : Addr} {o : HO} (h : H p = none) : Same H (upd H p o) := fun b u q => by rw [upd_ne (ne_of_none q h)]; exact q
/-- what was new is changed -/
theorem _root_.L2.Same.at {H H' : Hp} {p : Addr} {o : HO} (x : Same H H') (h : H p = none) : Same H (upd H' p o) := fun b u q => by rw [upd_ne (ne_of_none q h)]; exact x b u q
theorem Ext.at {a : Addr} {H H' : Hp} {p : Addr} {o : HO} (x : Ext a H H') (h : H p = none) : Ext a H (upd H' p o) := fun b u n q => by rw [upd_ne (ne_of_none q h)]; exact x b u n q
end KK
namespace KK
open PySem L2 PyProof.Rows KKM
abbrev s_rising : Stmt := top 13
abbrev s_refuse_twice : Stmt := top 14
abbrev s_refuse_steps : Stmt := top 17
abbrev s_refuse_good : Stmt := top 18
abbrev s_Machine___init : Stmt := inClass (top 16) 0
def spInit2 (C : Addr) (f1 f2 : Str) : Sp := fun vs H Q _ => ∃ (e t : Addr) (v1 v2 : V), vs = [.ref e, v1, v2] ∧ H e = some (ExcO e C t none) ∧ ∀ H', XAt H' e C (putF f2 v2 [(f1, v1)]) → (∀ b o, b ≠ e → H b = some o → H' b = some o) → Q .non H'
section
variable {P : Program} {w : World} {K : PySem.W.Frag} {mg : Str → Option Value} {base : Heap} {f C M : Addr} {fd : FuncData} {k : Nat} {st : Stmt} {qual f1 f2 : Str} {p1 p2 p3 p4 p5 p6 p7 p8 : Pos}
theorem ok_init2 (F : Fun K "__init__" qual st f fd) (xc : XC K C M) (a1 : PySem.W.findIn K (.ref C) f1 = some none) (a2 : PySem.W.findIn K (.ref C) f2 = some none) (S : FnScope ["self", f1, f2] ["self", f1, f2] (defScope st))
    (hb : defBody st = [.Assign [.Attribute (.Name "self" p1) f1 p2] (.Name f1 p3) p4, .Assign [.Attribute (.Name "self" p5) f2 p6] (.Name f2 p7) p8])
    (h0 : (defScope st).names.lookup ("self" : Str) = some .local) (h1 : (defScope st).names.lookup f1 = some .local) (h2 : (defScope st).names.lookup f2 = some .local) (d1 : (f1 == ("__debug__" : Str)) = false) (d2 : (f1 == ("__classdict__" : Str)) = false) (d3 : (f2 == ("__debug__" : Str)) = false) (d4 : (f2 == ("__classdict__" : Str)) = false) :
    FnOk P w K mg base CX0 (k + 1) f fd ["self", f1, f2] (spInit2 C f1 f2) := by
  refine F.ok S (fun vs H Q E h => ?_) (fun cdv A outer s H vs Q E hr h => ?_)
  · obtain ⟨e, t, v1, v2, rfl, _⟩ := h
    rfl
  obtain ⟨e, t, v1, v2, rfl, he, q⟩ := h
  rw [hb]
  refine ⟨_, pss_cons (ps_fldX xc a1 (pv 0 rfl (Or.inl h0)) (pv 1 rfl (Or.inl h1) d1 d2)) (pss_one (ps_fldX xc a2 (pv 0 rfl (Or.inl h0)) (pv 2 rfl (Or.inl h2) d3 d4))), ?_⟩
  refine ⟨_, rfl, _, rfl, e, rfl, .inl ⟨t, he, fun dx hd hn => ?_⟩⟩
  refine ⟨_, rfl, _, rfl, e, rfl, .inr ⟨t, dx, _, by rw [upd_ne (Ne.symm hn)]; exact upd_same, upd_same, hn, by show 1 < 900; decide, q _ ⟨t, .inr ⟨dx, by rw [upd_ne (Ne.symm hn), upd_ne (Ne.symm hn)]; exact upd_same, upd_same, hn⟩⟩ fun b o nb hb' => ?_⟩⟩
  rw [upd_ne (ne_of_none hb' hd), upd_ne (ne_of_none hb' hd), upd_ne nb]; exact hb'
end
section
variable {P : Program} {w : World} {K : PySem.W.Frag} {mg : Str → Option Value} {base : Heap} {f g g2 g3 : Addr} {fd gd gd2 gd3 : FuncData} {k : Nat}
def spRisingN (K : PySem.W.Frag) : Sp := fun vs H Q _ => ∃ (p : Addr) (ys : List Int), vs = [.ref p] ∧ SqL K H p (ys.map V.int) ∧ ys.length < 1000 ∧ (∀ zs : List Int, zs.Nodup → (∀ x, x ∈ zs ↔ x ∈ ys) → zs.length < 64) ∧
  ∀ (t : Addr) (zs : List Int) (H' : Hp), zs.Pairwise (· ≤ ·) → zs.Nodup → (∀ x, x ∈ zs ↔ x ∈ ys) → H t = none → Same H H' → H' t = some (.tup (zs.map V.int)) → Q (.ref t) H'
theorem sc_rising : FnScope ["things"] ["things"] (defScope s_rising) := ⟨rfl, rfl, rfl, by decide +kernel, rfl, by decide +kernel, by decide +kernel⟩
theorem ok_rising (F : Fun K "rising" "rising" s_rising f fd) (B : Bt mg) : FnOk P w K mg base CX0 (k + 1) f fd ["things"] (spRisingN K) := by
  refine F.ok sc_rising (fun vs H Q E h => ?_) (fun cdv A outer s H vs Q E hr h => ?_)
  · obtain ⟨p, ys, rfl, _⟩ := h
    rfl
  have nd := sc_rising.nd
  refine ⟨_, (pss_one (ps_ret (pe_callTy call_tuple_of rfl B.tuple_ (by decide +kernel) (pa_cons (pe_callB (call_sorted_setQ rfl) rfl B.sorted_ (by decide +kernel) (pa_cons (pe_callTy (call_set_anyQ rfl) rfl B.set_ (by decide +kernel) (pa_cons (pv 0) pa_nil)) pa_nil)) pa_nil)))), ?_⟩
  try dsimp only [cxOf, Cx.nox, Cx.wish]
  obtain ⟨p, ys, rfl, hS, hl, h64, q⟩ := h
  exact ⟨_, rfl, .inr ⟨p, ys, rfl, hS, hl, fun l zs hl hn hm => .inr ⟨l, zs, rfl, upd_same, h64 zs hn hm, fun l2 zs' hl2 hp hs => ⟨l2, _, rfl, .inl ⟨SqL.of upd_same, fun t ht => q t zs' _ hs (hp.nodup_iff.mpr hn) (fun x => (hp.mem_iff).trans (hm x)) ((sm_new hl).free ((sm_new hl2).free ht)) (((sm_new hl).trans (sm_new hl2)).trans (sm_new ht)) upd_same⟩⟩⟩⟩⟩
def dupG : List Str → List Str → Option Str
  | _, [] => none
  | seen, z :: zs => if z ∈ seen then some z else dupG (seen ++ [z]) zs
theorem dup_step {zs : List Str} {i : Nat} {z : Str} (h : zs[i]? = some z) : dupG (zs.take i) (zs.drop i) = if z ∈ zs.take i then some z else dupG (zs.take (i + 1)) (zs.drop (i + 1)) := by
  obtain ⟨hi, e⟩ := List.getElem?_eq_some_iff.mp h
  rw [List.drop_eq_getElem_cons hi, e, take_snoc h]
  rfl
/-- a refusal's class, its __init__ with one field -/
structure XM1 (P : Program) (w : World) (K : PySem.W.Frag) (mg : Str → Option Value) (base : Heap) (k : Nat) (x f1 : Str) (C M : Addr) (f : Addr) (fd : FuncData) : Prop where
  xc : XC K C M
  hin : PySem.W.findIn K (.ref C) "__init__" = some (some (.ref f))
  hfn : PySem.W.isFn K (.ref f) = true
  ok : FnOk P w K mg base CX0 k f fd ["self", f1] (spInit1 C f1)
  bn : Binds K fd ["self", f1] []
  at_ : mg x = some (.ref C)
  fn : PySem.W.findIn K (.ref C) f1 = some none
structure XM2 (P : Program) (w : World) (K : PySem.W.Frag) (mg : Str → Option Value) (base : Heap) (k : Nat) (x f1 f2 : Str) (C M : Addr) (f : Addr) (fd : FuncData) : Prop where
  xc : XC K C M
  hin : PySem.W.findIn K (.ref C) "__init__" = some (some (.ref f))
  hfn : PySem.W.isFn K (.ref f) = true
  ok : FnOk P w K mg base CX0 k f fd ["self", f1, f2] (spInit2 C f1 f2)
  bn : Binds K fd ["self", f1, f2] []
  at_ : mg x = some (.ref C)
  fn : PySem.W.findIn K (.ref C) f1 = some none
  fn2 : PySem.W.findIn K (.ref C) f2 = some none
structure FnX (P : Program) (w : World) (K : PySem.W.Frag) (mg : Str → Option Value) (base : Heap) (k : Nat) (x : Str) (ps : List Str) (sp : Sp) (g : Addr) (gd : FuncData) : Prop where
  ok : FnOk P w K mg base (CXE P w) k g gd ps sp
  bn : Binds K gd ps []
  kp : PySem.W.keepIn K (.ref g) = true
  at_ : mg x = some (.ref g)
variable {CT M ft : Addr} {ftd : FuncData}
/-- what a def that refuses promises of its refusal -/
abbrev Refuses (H : Hp) (E : XK) (C : Addr) (fs : List (Str × V)) : Prop := ∀ a H', H a = none → Same H H' → FlyAt H' a C fs → E (.ref a) none H'
theorem raised {H H1 : Hp} {E : XK} {f1 : Str} {v : V} {CT : Addr} {vs : List V} (x : Same H H1) (hE : Refuses H E CT [(f1, v)]) :
    ∀ e u, H1 e = none → H1 u = none → u ≠ e → spInit1 CT f1 (.ref e :: [v]) (upd (upd H1 u (.tup vs)) e (ExcO e CT u none)) (fun v H2 => v = .non ∧ ∃ a fs, V.ref e = .ref a ∧ XAt H2 a CT fs ∧ RNew H E CT a fs H2) E0 := fun e u he hu hne =>
  ⟨e, u, v, rfl, upd_same, fun H' hX k => ⟨rfl, e, _, rfl, hX, x.free he, fun b o q => k b o (ne_of_none (x b o q) he) (by rw [upd_ne (ne_of_none (x b o q) he), upd_ne (ne_of_none (x b o q) hu)]; exact x b o q), fun H'' sm fl => hE e H'' (x.free he) sm fl⟩⟩
theorem raised2 {H H1 : Hp} {E : XK} {f1 f2 : Str} {v v2 : V} {CT : Addr} {vs : List V} (x : Same H H1) (hE : Refuses H E CT (putF f2 v2 [(f1, v)])) :
    ∀ e u, H1 e = none → H1 u = none → u ≠ e → spInit2 CT f1 f2 (.ref e :: [v, v2]) (upd (upd H1 u (.tup vs)) e (ExcO e CT u none)) (fun v H2 => v = .non ∧ ∃ a fs, V.ref e = .ref a ∧ XAt H2 a CT fs ∧ RNew H E CT a fs H2) E0 := fun e u he hu hne =>
  ⟨e, u, v, v2, rfl, upd_same, fun H' hX k => ⟨rfl, e, _, rfl, hX, x.free he, fun b o q => k b o (ne_of_none (x b o q) he) (by rw [upd_ne (ne_of_none (x b o q) he), upd_ne (ne_of_none (x b o q) hu)]; exact x b o q), fun H'' sm fl => hE e H'' (x.free he) sm fl⟩⟩
def spTwice (CT : Addr) : Sp := fun vs H Q E => ∃ (p : Addr) (zs : List Str), vs = [.ref p] ∧ H p = some (.lst (zs.map V.str)) ∧ zs.length ≤ 60 ∧ (dupG [] zs = none → ∀ H', Same H H' → Q .non H') ∧ ∀ n, dupG [] zs = some n → Refuses H E CT [("name", .str n)]
theorem sc_twice : FnScope ["names", "seen", "name"] ["names"] (defScope s_refuse_twice) := ⟨rfl, rfl, rfl, by decide +kernel, rfl, by decide +kernel, by decide +kernel⟩
theorem ok_twice (F : Fun K "refuse_twice" "refuse_twice" s_refuse_twice f fd) (B : Bt mg) (xt : XM1 P w K mg base k "Twice" "name" CT M ft ftd) : FnOk P w K mg base (CXE P w) (k + 2) f fd ["names"] (spTwice CT) := by
  refine F.okX sc_twice (fun vs H Q E h => ?_) (fun cdv A outer s H vs Q E hr h => ?_)
  · obtain ⟨p, zs, rfl, _⟩ := h
    rfl
  obtain ⟨p, zs, rfl, hS, h60, q, qe⟩ := h
  have nd := sc_twice.nd
  refine ⟨_, (pss_cons (ps_set (i := 1) nd rfl (Or.inl rfl) (pe_callTy0 call_setQ0 rfl B.set_ (by decide +kernel)))
    (pss_one (ps_for PassesOwn.leaving rfl (pi_list (pv 0)) (pg_name (i := 2) nd rfl (Or.inl rfl)) (pss_cons (ps_if (pt_cmpR op_in_setQ (pv 2) (pv 1) rfl) (pss_one (ps_raise xt.xc rfl (pe_makeX xt.xc xt.hin xt.hfn xt.ok hr rfl xt.at_ xt.bn (pa_cons (pv 2) pa_nil)) raise_new)) pss_nil)
    (pss_one (ps_expr (pe_bmQ PySem.F.slot_set_add PySem.F.type_set_add mt_addQ (pv 1) (pa_cons (pv 2) pa_nil)))))))), ?_⟩
  try dsimp only [cxOf, Cx.nox, Cx.wish]
  refine lats2 ?_
  intro D0 σ0 U2
  refine ⟨rfl, fun l hl => ?_⟩
  refine ⟨_, rfl, p, rfl, ⟨_, SqL.of ((sm_new hl) _ _ hS)⟩, for_list (xs := zs.map V.str) (fun i σ H' => ∃ v : Option V, σ = [some (.ref p), some (.ref l), v] ∧ H' l = some (SetQ P w l (zs.take i)) ∧ dupG (zs.take i) (zs.drop i) = dupG [] zs ∧ Same H H') ?_ ?_ ?_ ?_⟩
  · exact ⟨none, rfl, upd_same, rfl, sm_new hl⟩
  · rintro i σ H1 _ ⟨v, _, _, _, x⟩
    exact SqL.of (x _ _ hS)
  · rintro i y σ H1 hy ⟨v, rfl, h1, hd, x1⟩
    rw [List.getElem?_map] at hy
    obtain ⟨z, hz, rfl⟩ := Option.map_eq_some_iff.mp hy
    have hi : i < zs.length := (List.getElem?_eq_some_iff.mp hz).1
    rw [dup_step hz] at hd
    refine ⟨_, rfl, _, rfl, z, l, _, rfl, rfl, h1, _, rfl, ?_⟩
    by_cases hn : z ∈ zs.take i
    · rw [decide_eq_true hn]
      rw [if_pos hn] at hd
      refine iteT ?_
      exact ⟨_, rfl, by simp, raised x1 (qe z hd.symm)⟩
    · rw [decide_eq_false hn]
      rw [if_neg hn] at hd
      refine iteF ?_
      refine ⟨_, rfl, ⟨l, _, rfl, h1⟩, _, rfl, l, z, _, rfl, rfl, h1, by rw [List.length_take]; omega, _, rfl, ?_, hd, x1.at hl⟩
      rw [upd_same, if_neg hn, take_snoc hz]
      try rfl
  · rintro σ H1 ⟨v, rfl, _, hd, x1⟩
    rw [List.length_map, List.drop_length] at hd
    exact q hd.symm H1 x1
/-! ### what is due of steps and good ones -/
def badN (n x : Int) : Bool := !(decide (0 ≤ x) && decide (x < n))
def stepRow (n : Int) : List Str → List Int → Option Str
  | l :: ls, x :: xs => if badN n x = true then some l else stepRow n ls xs
  | _, _ => none
def stepG (n : Int) (ls : List Str) : Nat → List (List Int) → Option (Nat × Str)
  | _, [] => none
  | i, r :: rs => match stepRow n ls r with
    | some l => some (i, l)
    | none => stepG n ls (i + 1) rs
def goodG (n : Int) : List Int → Option Int
  | [] => none
  | x :: xs => if badN n x = true then some x else goodG n xs
theorem good_step {n : Int} {xs : List Int} {i : Nat} {x : Int} (h : xs[i]? = some x) : goodG n (xs.drop i) = if badN n x = true then some x else goodG n (xs.drop (i + 1)) := by
  obtain ⟨hi, e⟩ := List.getElem?_eq_some_iff.mp h
  rw [List.drop_eq_getElem_cons hi, e]
  rfl
theorem row_step {n : Int} {ls : List Str} {xs : List Int} {i : Nat} {l : Str} {x : Int} (h : ls[i]? = some l) (h' : xs[i]? = some x) : stepRow n (ls.drop i) (xs.drop i) = if badN n x = true then some l else stepRow n (ls.drop (i + 1)) (xs.drop (i + 1)) := by
  obtain ⟨hi, e⟩ := List.getElem?_eq_some_iff.mp h
  obtain ⟨hj, e'⟩ := List.getElem?_eq_some_iff.mp h'
  rw [List.drop_eq_getElem_cons hi, e, List.drop_eq_getElem_cons hj, e']
  rfl
theorem step_step {n : Int} {ls : List Str} {tb : List (List Int)} {i : Nat} {r : List Int} (h : tb[i]? = some r) : stepG n ls i (tb.drop i) = match stepRow n ls r with
    | some l => some (i, l)
    | none => stepG n ls (i + 1) (tb.drop (i + 1)) := by
  obtain ⟨hi, e⟩ := List.getElem?_eq_some_iff.mp h
  rw [List.drop_eq_getElem_cons hi, e]
  rfl
abbrev RowI (H : Hp) (r : Addr) (row : List Int) : Prop := H r = some (.lst (row.map V.int))
structure Tb (H : Hp) (t : Addr) (rs : List Addr) (tb : List (List Int)) (m : Nat) : Prop where
  at_ : H t = some (.lst (rs.map V.ref))
  rows : Paired (RowI H) rs tb
  len : ∀ r ∈ tb, r.length = m
  few : tb.length ≤ 60
theorem Tb.same {H H' : Hp} {t : Addr} {rs : List Addr} {tb : List (List Int)} {m : Nat} (h : Tb H t rs tb m) (x : Same H H') : Tb H' t rs tb m := ⟨x _ _ h.at_, Paired.mapP h.rows fun _ _ z => x _ _ z, h.len, h.few⟩
theorem paired_get {α β : Type} {F : α → β → Prop} {l : List α} {m : List β} (h : Paired F l m) : ∀ {i : Nat} {a : α}, l[i]? = some a → ∃ b, m[i]? = some b ∧ F a b := by
  induction h with
  | nil => intro i a e; cases e
  | cons r _ ih =>
    intro i a e
    cases i with
    | zero => cases e; exact ⟨_, rfl, r⟩
    | succ i => exact ih e
theorem Tb.width {H : Hp} {t : Addr} {rs : List Addr} {tb : List (List Int)} {m : Nat} (h : Tb H t rs tb m) : (rs.map V.ref).length = tb.length := by rw [List.length_map]; exact Paired.length h.rows
def spGood (CG : Addr) : Sp := fun vs H Q E => ∃ (t p : Addr) (rs : List Addr) (tb : List (List Int)) (m : Nat) (xs : List Int), vs = [.ref t, .ref p] ∧ Tb H t rs tb m ∧ H p = some (.lst (xs.map V.int)) ∧
  (goodG tb.length xs = none → ∀ H', Same H H' → Q .non H') ∧ ∀ x, goodG tb.length xs = some x → Refuses H E CG [("state", .int x)]
theorem sc_good : FnScope ["table", "good", "state"] ["table", "good"] (defScope s_refuse_good) := ⟨rfl, rfl, rfl, by decide +kernel, rfl, by decide +kernel, by decide +kernel⟩
theorem ok_good (F : Fun K "refuse_good" "refuse_good" s_refuse_good f fd) (B : Bt mg) (xt : XM1 P w K mg base k "BadGood" "state" CT M ft ftd) : FnOk P w K mg base (CXE P w) (k + 2) f fd ["table", "good"] (spGood CT) := by
  refine F.okX sc_good (fun vs H Q E h => ?_) (fun cdv A outer s H vs Q E hr h => ?_)
  · obtain ⟨t, p, rs, tb, m, xs, rfl, _⟩ := h
    rfl
  obtain ⟨t, p, rs, tb, m, xs, rfl, hT, hS, q, qe⟩ := h
  have nd := sc_good.nd
  refine ⟨_, (pss_one (ps_for PassesOwn.leaving rfl (pi_list (pv 1)) (pg_name (i := 2) nd rfl (Or.inl rfl)) (pss_one (ps_if (pt_not (pt_chain op_le op_lt pe_int (pv 2) (pe_callB call_len_seq rfl B.len_ PySem.boot_len (pa_cons (pv 0) pa_nil)))) (pss_one (ps_raise xt.xc rfl (pe_makeX xt.xc xt.hin xt.hfn xt.ok hr rfl xt.at_ xt.bn (pa_cons (pv 2) pa_nil)) raise_new)) pss_nil)))), ?_⟩
  try dsimp only [cxOf, Cx.nox, Cx.wish]
  refine ⟨_, rfl, p, rfl, ⟨_, SqL.of hS⟩, for_list (xs := xs.map V.int) (fun i σ H' => ∃ v : Option V, σ = [some (.ref t), some (.ref p), v] ∧ goodG tb.length (xs.drop i) = goodG tb.length xs ∧ Same H H') ?_ ?_ ?_ ?_⟩
  · exact ⟨none, rfl, rfl, Same.refl _⟩
  · rintro i σ H1 _ ⟨v, _, _, x⟩
    exact SqL.of (x _ _ hS)
  · rintro i y σ H1 hy ⟨v, rfl, hd, x1⟩
    rw [List.getElem?_map] at hy
    obtain ⟨z, hz, rfl⟩ := Option.map_eq_some_iff.mp hy
    rw [good_step hz] at hd
    have hT1 := hT.same x1
    refine ⟨_, rfl, _, _, rfl, rfl, _, rfl, ?_⟩
    have fin : ∀ b : Bool, badN tb.length z = b → (if b = true then tRaise CT (tMakeX CT (spInit1 CT "state") (tCons (tVar 2) tNil)) (RNew H E CT) { nx := fun σ H' => ∃ v : Option V, σ = [some (V.ref t), some (V.ref p), v] ∧ goodG tb.length (xs.drop (i + 1)) = goodG tb.length xs ∧ Same H H', rt := Q, bk := fun _ H' => Q .non H', ct := fun σ H' => ∃ v : Option V, σ = [some (V.ref t), some (V.ref p), v] ∧ goodG tb.length (xs.drop (i + 1)) = goodG tb.length xs ∧ Same H H' } [some (V.ref t), some (V.ref p), some (.int z)] H1 else ∃ v : Option V, [some (V.ref t), some (V.ref p), some (.int z)] = [some (V.ref t), some (V.ref p), v] ∧ goodG tb.length (xs.drop (i + 1)) = goodG tb.length xs ∧ Same H H1) := fun b hb => by
      rw [hb] at hd
      cases b with
      | true =>
        refine iteT ?_
        exact ⟨_, rfl, by simp, raised x1 (qe z hd.symm)⟩
      | false =>
        refine iteF ?_
        exact ⟨_, rfl, hd, x1⟩
    by_cases h0 : (0 : Int) ≤ z
    · rw [decide_eq_true h0]
      refine iteT ?_
      refine ⟨_, rfl, t, _, rfl, .inl (SqL.of hT1.at_), _, _, rfl, rfl, _, rfl, ?_⟩
      refine fin _ ?_
      rw [badN, decide_eq_true h0, hT.width]; rfl
    · rw [decide_eq_false h0]
      refine iteF ?_
      refine ⟨_, rfl, ?_⟩
      refine fin true ?_
      rw [badN, decide_eq_false h0]; rfl
  · rintro σ H1 ⟨v, rfl, hd, x1⟩
    rw [List.length_map, List.drop_length] at hd
    exact q hd.symm H1 x1
end
end KK
namespace KK
open PySem L2 PyProof.Rows KKM
section
variable {P : Program} {w : World} {K : PySem.W.Frag} {mg : Str → Option Value} {base : Heap} {f g g2 g3 : Addr} {fd gd gd2 gd3 : FuncData} {k : Nat} {CT M ft : Addr} {ftd : FuncData}
abbrev StF (i : Nat) (l : Str) : List (Str × V) := putF "letter" (.str l) [("state", .int (i : Int))]
def spSteps (CT : Addr) : Sp := fun vs H Q E => ∃ (p t : Addr) (ls : List Str) (rs : List Addr) (tb : List (List Int)), vs = [.ref p, .ref t] ∧ H p = some (.lst (ls.map V.str)) ∧ Tb H t rs tb ls.length ∧ ls.length ≤ 60 ∧
  (stepG tb.length ls 0 tb = none → ∀ H', Same H H' → Q .non H') ∧ ∀ i l, stepG tb.length ls 0 tb = some (i, l) → Refuses H E CT (StF i l)
theorem sc_steps : FnScope ["letters", "table", "state", "row", "at", "letter"] ["letters", "table"] (defScope s_refuse_steps) := ⟨rfl, rfl, rfl, by decide +kernel, rfl, by decide +kernel, by decide +kernel⟩
theorem at_i {xs : List Int} {j : Nat} {x : Int} (h : xs[j]? = some x) : atI (xs.map V.int) (j : Int) = some (.int x) := atI_nat (by rw [List.getElem?_map, h]; rfl)
theorem ok_steps (F : Fun K "refuse_steps" "refuse_steps" s_refuse_steps f fd) (B : Bt mg) (xt : XM2 P w K mg base k "BadStep" "state" "letter" CT M ft ftd) : FnOk P w K mg base (CXE P w) (k + 2) f fd ["letters", "table"] (spSteps CT) := by
  refine F.okX sc_steps (fun vs H Q E h => ?_) (fun cdv A outer s H vs Q E hr h => ?_)
  · obtain ⟨p, t, ls, rs, tb, rfl, _⟩ := h
    rfl
  obtain ⟨p, t, ls, rs, tb, rfl, hS, hT, h60, q, qe⟩ := h
  have nd := sc_steps.nd
  refine ⟨_, (pss_one (ps_for PassesOwn.leaving rfl (pi_enum rfl B.enumerate_ (pa_cons (pv 1) pa_nil)) (pg_tup rfl (pgs_cons (pg_name (i := 2) nd rfl (Or.inl rfl)) (pgs_cons (pg_name (i := 3) nd rfl (Or.inl rfl)) pgs_nil))) (pss_one (ps_for PassesOwn.leaving rfl (pi_enum rfl B.enumerate_ (pa_cons (pv 0) pa_nil)) (pg_tup rfl (pgs_cons (pg_name (i := 4) nd rfl (Or.inl rfl)) (pgs_cons (pg_name (i := 5) nd rfl (Or.inl rfl)) pgs_nil))) (pss_one (ps_if (PW.pt (pw_or (pt_cmpR op_ge (pv 4) (pe_callB call_len_seq rfl B.len_ PySem.boot_len (pa_cons (pv 3) pa_nil)) (nomark _)) (pw_or1 (pt_not (pt_chain op_le op_lt pe_int (pe_ix ix_list (pv 3) (pv 4) (fun _ _ => rfl)) (pe_callB call_len_seq rfl B.len_ PySem.boot_len (pa_cons (pv 1) pa_nil))))))) (pss_one (ps_raise xt.xc rfl (pe_makeX xt.xc xt.hin xt.hfn xt.ok hr rfl xt.at_ xt.bn (pa_cons (pv 2) (pa_cons (pv 5) pa_nil))) raise_new)) pss_nil)))))), ?_⟩
  try dsimp only [cxOf, Cx.nox, Cx.wish]
  refine ⟨_, rfl, t, rfl, ⟨_, SqL.of hT.at_⟩, for_enum (xs := rs.map V.ref) (fun i σ H' => ∃ v1 v2 v3 v4 : Option V, σ = [some (.ref p), some (.ref t), v1, v2, v3, v4] ∧ stepG tb.length ls i (tb.drop i) = stepG tb.length ls 0 tb ∧ Same H H') ?_ ?_ ?_ ?_⟩
  · exact ⟨none, none, none, none, rfl, rfl, Same.refl _⟩
  · rintro i σ H1 _ ⟨v1, v2, v3, v4, _, _, x⟩
    exact SqL.of (x _ _ hT.at_)
  · rintro i y σ H0 T hy hT0 ⟨v1, v2, v3, v4, rfl, hd, x0⟩
    rw [List.getElem?_map] at hy
    obtain ⟨r, hr', rfl⟩ := Option.map_eq_some_iff.mp hy
    obtain ⟨row, hrow, hri⟩ := paired_get hT.rows hr'
    have hlen := hT.len row (List.mem_of_getElem? hrow)
    rw [step_step hrow] at hd
    have x1 : Same H (upd H0 T (.tup [.int i, .ref r])) := x0.trans (sm_new hT0)
    have hTt : upd H0 T (.tup [.int i, .ref r]) T = some (.tup [.int i, .ref r]) := upd_same
    generalize upd H0 T (.tup [.int i, .ref r]) = H1 at x1 hTt ⊢
    refine ⟨T, _, rfl, SqT.of hTt, rfl, _, _, rfl, _, _, rfl, rfl, ?_⟩
    refine ⟨_, rfl, p, rfl, ⟨_, SqL.of (x1 _ _ hS)⟩, for_enum (xs := ls.map V.str) (fun j σ H' => ∃ v3 v4 : Option V, σ = [some (.ref p), some (.ref t), some (.int i), some (.ref r), v3, v4] ∧ stepRow tb.length (ls.drop j) (row.drop j) = stepRow tb.length ls row ∧ Same H H') ?_ ?_ ?_ ?_⟩
    · exact ⟨_, _, rfl, rfl, x1⟩
    · rintro j σ H2 _ ⟨v3, v4, _, _, x⟩
      exact SqL.of (x _ _ hS)
    · rintro j y2 σ H2 T2 hy2 hT2 ⟨v3, v4, rfl, hd2, x2⟩
      rw [List.getElem?_map] at hy2
      obtain ⟨l, hl, rfl⟩ := Option.map_eq_some_iff.mp hy2
      have hj : j < row.length := by rw [hlen]; exact (List.getElem?_eq_some_iff.mp hl).1
      have hx : row[j]? = some row[j] := List.getElem?_eq_getElem hj
      generalize row[j] = x at hx
      rw [row_step hl hx] at hd2
      have x3 : Same H (upd H2 T2 (.tup [.int j, .str l])) := x2.trans (sm_new hT2)
      have hTt2 : upd H2 T2 (.tup [.int j, .str l]) T2 = some (.tup [.int j, .str l]) := upd_same
      generalize upd H2 T2 (.tup [.int j, .str l]) = H3 at x3 hTt2 ⊢
      refine ⟨T2, _, rfl, SqT.of hTt2, rfl, _, _, rfl, _, _, rfl, rfl, ?_⟩
      refine ⟨_, rfl, _, rfl, r, _, rfl, .inl (SqL.of (x3 _ _ hri)), _, _, rfl, rfl, _, rfl, ?_⟩
      rw [decide_eq_false (by rw [List.length_map]; omega)]
      refine iteF ?_
      refine ⟨_, rfl, _, rfl, r, _, _, _, rfl, rfl, SqL.of (x3 _ _ hri), at_i hx, _, _, rfl, rfl, _, rfl, ?_⟩
      have bad : badN tb.length x = true → stepG tb.length ls 0 tb = some (i, l) := fun hb => by
        rw [if_pos hb] at hd2
        rw [← hd2] at hd
        exact hd.symm
      by_cases h0 : (0 : Int) ≤ x
      · rw [decide_eq_true h0]
        refine iteT ?_
        refine ⟨_, rfl, t, _, rfl, .inl (SqL.of (x3 _ _ hT.at_)), _, _, rfl, rfl, _, rfl, ?_⟩
        by_cases h1 : x < tb.length
        · rw [hT.width, decide_eq_true h1]
          refine iteF ?_
          rw [if_neg (by rw [badN, decide_eq_true h0, decide_eq_true h1]; exact Bool.false_ne_true)] at hd2
          exact ⟨_, _, rfl, hd2, x3⟩
        · rw [hT.width, decide_eq_false h1]
          refine iteT ?_
          exact ⟨_, rfl, _, rfl, by simp, raised2 x3 (qe i l (bad (by rw [badN, decide_eq_false h1, Bool.and_false]; rfl)))⟩
      · rw [decide_eq_false h0]
        refine iteF ?_
        refine ⟨_, rfl, ?_⟩
        refine iteT ?_
        exact ⟨_, rfl, _, rfl, by simp, raised2 x3 (qe i l (bad (by rw [badN, decide_eq_false h0]; rfl)))⟩
    · rintro σ H2 ⟨v3, v4, rfl, hd2, x2⟩
      rw [List.length_map, List.drop_length] at hd2
      have e : stepRow tb.length ls row = none := hd2.symm
      rw [e] at hd
      exact ⟨_, _, _, _, rfl, hd, x2⟩
  · rintro σ H1 ⟨v1, v2, v3, v4, rfl, hd, x1⟩
    rw [hT.width, List.drop_length] at hd
    exact q hd.symm H1 x1
end
end KK
namespace KK
open PySem L2 PyProof.Rows KKM
section
variable {P : Program} {w : World} {K : PySem.W.Frag} {mg : Str → Option Value} {base : Heap} {f g g2 g3 g4 : Addr} {fd gd gd2 gd3 gd4 : FuncData} {k : Nat} {C CT CB CG M ft : Addr} {ftd : FuncData}
abbrev RowU (H : Hp) (u : Addr) (row : List Int) : Prop := H u = some (.tup (row.map V.int))
/-- a machine as it is made -/
def MoAt (C : Addr) (H : Hp) (x : Addr) (ls : List Str) (tb : List (List Int)) (zs : List Int) : Prop := ∃ (dx tl tt tg : Addr) (us : List Addr), H x = some (.ins C dx [("letters", .ref tl), ("table", .ref tt), ("good", .ref tg)]) ∧ TupF H tl (ls.map V.str) ∧
  H tt = some (.tup (us.map V.ref)) ∧ Paired (RowU H) us tb ∧ H tg = some (.tup (zs.map V.int))
structure MoC (K : PySem.W.Frag) (C : Addr) : Prop where
  cls : Cls K C
  n1 : NoAttr K C "letters"
  n2 : NoAttr K C "table"
  n3 : NoAttr K C "good"
/-- the numbers zs are those of gd, rising, each once -/
structure Ris (gd zs : List Int) : Prop where
  up : zs.Pairwise (· ≤ ·)
  nd : zs.Nodup
  mem : ∀ x, x ∈ zs ↔ x ∈ gd
/-- refusals of any class, with such fields, are handed on -/
theorem pass_any {N : List Str} {qual : Str} {scope : Scope} {f : Addr} {cd : Value} {A : Around} {outer : List Env} {s0 : Shared} {H0 : Hp} {E : XK} {G : Addr → List (Str × V) → Prop} (hE : ∀ a H' C fs, G C fs → H0 a = none → Same H0 H' → FlyAt H' a C fs → E (.ref a) none H') :
    Passes (CXE P w) (cxOf (CXE P w) P w K mg base N qual scope f cd A outer s0 H0 E) (EX H0 fun a H' => ∃ C fs, FlyAt H' a C fs ∧ G C fs) := by
  intro pins σ H s e s' I h
  obtain ⟨a, H', rfl, os, bare, un, hok, a', e1, na, sm, C, fs, fl, hG⟩ := h
  cases e1
  have I' : Inv (cxOf (CXE P w) P w K mg base N qual scope f cd A outer s0 H0 E) pins σ H' s' := I.call' (ch := []) os un hok bare (fun _ z => nomatch z)
  exact xe_next I' fl fun H2 f2 k2 => hE a H2 C fs hG na (fun b o q => k2 b o (ne_of_none q na) (sm b o q)) f2
/-- what is refused first -/
def dueX (CT CB CG : Addr) (ls : List Str) (tb : List (List Int)) (gd : List Int) : Option (Addr × List (Str × V)) :=
  match dupG [] ls with
  | some n => some (CT, [("name", .str n)])
  | none => match stepG tb.length ls 0 tb with
    | some (i, l) => some (CB, StF i l)
    | none => match goodG tb.length gd with
      | some x => some (CG, [("state", .int x)])
      | none => none
def spInit (C CT CB CG : Addr) : Sp := fun vs H Q E => ∃ (x p t g dx : Addr) (ls : List Str) (rs : List Addr) (tb : List (List Int)) (gd : List Int), vs = [.ref x, .ref p, .ref t, .ref g] ∧ H x = some (.ins C dx []) ∧ H p = some (.lst (ls.map V.str)) ∧ Tb H t rs tb ls.length ∧ ls.length ≤ 60 ∧ H g = some (.lst (gd.map V.int)) ∧ gd.length < 60 ∧
  (dueX CT CB CG ls tb gd = none → ∀ H' zs, MoAt C H' x ls tb zs → Ris gd zs → (∀ b o, b ≠ x → H b = some o → H' b = some o) → Q .non H') ∧ ∀ c fs, dueX CT CB CG ls tb gd = some (c, fs) → Refuses H E c fs
theorem sc_init : FnScope ["self", "letters", "table", "good"] ["self", "letters", "table", "good"] (defScope s_Machine___init) := ⟨rfl, rfl, rfl, by decide +kernel, rfl, by decide +kernel, by decide +kernel⟩
theorem paired_app {α β : Type} {F : α → β → Prop} {l l' : List α} {m m' : List β} (h : Paired F l m) (h' : Paired F l' m') : Paired F (l ++ l') (m ++ m') := by
  induction h with
  | nil => exact h'
  | cons r _ ih => exact .cons r ih
/-- the rows as tuples -/
theorem tuples {D t : Addr} {Q : VK} {H1 : Hp} {rs : List Addr} {tb : List (List Int)} {m : Nat} (hD : H1 D = none) (hT : Tb H1 t rs tb m) (hdn : ∀ H' us, Same H1 H' → H' D = some (.lst (us.map V.ref)) → Paired (RowU H') us tb → Q (.ref D) H') :
    CompLoop (Itl K t) D (gName 0) tYes (tCB (fun xs H Q => ∃ p ys, xs = [.ref p] ∧ ((SqL K H p ys ∧ ∀ l, H l = none → Q (.ref l) (upd H l (.tup ys))) ∨ (SqT K H p ys ∧ Q (.ref p) H))) (tCons (tVar 0) tNil)) Q [none] H1 := by
  have hlen := Paired.length hT.rows
  have hf := hT.few
  refine comp_list (xs := rs.map V.ref) (fun i ys σ H => ∃ (v : Option V) (us : List Addr), ys = us.map V.ref ∧ σ = [v] ∧ Same H1 H ∧ Paired (RowU H) us (tb.take i)) ?_ (by rw [List.length_map]; omega) ?_ ?_ ?_ ?_
  · exact ⟨none, [], rfl, rfl, sm_new hD, .nil⟩
  · rintro i ys σ H ⟨v, us, rfl, _, _, h⟩
    have := Paired.length h
    rw [List.length_map, this, List.length_take]; omega
  · rintro i ys σ H ⟨v, us, _, _, x, _⟩
    exact SqL.of (x _ _ hT.at_)
  · rintro i y ys σ H hy hl2 ⟨v, us, rfl, rfl, x, h⟩
    rw [List.getElem?_map] at hy
    obtain ⟨r, hr', rfl⟩ := Option.map_eq_some_iff.mp hy
    obtain ⟨row, hrow, hri⟩ := paired_get hT.rows hr'
    refine ⟨_, rfl, r, _, rfl, .inl ⟨SqL.of (x _ _ hri), fun u hu => ?_⟩⟩
    have nu : D ≠ u := ne_of_none hl2 hu
    refine ⟨by rw [upd_ne nu]; exact hl2, _, us ++ [u], by rw [List.map_append]; rfl, rfl, (x.trans (sm_new hu)).at hD, ?_⟩
    rw [take_snoc hrow]
    have k1 : ∀ b w, RowU H b w → RowU (upd (upd H u (.tup (row.map V.int))) D (.lst (us.map V.ref ++ [.ref u]))) b w := fun b w z => by
      show upd _ D _ b = _
      rw [upd_ne (ne_of z hl2 (fun q => nomatch q)), upd_ne (ne_of_none z hu)]; exact z
    refine paired_app (Paired.mapP h k1) (.cons ?_ .nil)
    show upd _ D _ u = _
    rw [upd_ne (Ne.symm nu)]; exact upd_same
  · rintro ys σ H hl2 ⟨v, us, rfl, _, x, h⟩
    rw [List.length_map, hlen, List.take_length] at h
    exact hdn H us x hl2 h
end
end KK
namespace KK
open PySem L2 PyProof.Rows KKM
section
variable {P : Program} {w : World} {K : PySem.W.Frag} {mg : Str → Option Value} {base : Heap} {f g g2 g3 g4 : Addr} {fd gd gd2 gd3 gd4 : FuncData} {k : Nat} {C CT CB CG M ft : Addr} {ftd : FuncData}
theorem Tb.but {H H' : Hp} {t x : Addr} {rs : List Addr} {tb : List (List Int)} {m : Nat} {o : HO} (h : Tb H t rs tb m) (hx : H x = some o) (ho : ∀ ys, o ≠ .lst ys) (k : ∀ b o, b ≠ x → H b = some o → H' b = some o) : Tb H' t rs tb m :=
  ⟨k _ _ (ne_of h.at_ hx (fun z => ho _ z.symm)) h.at_, Paired.mapP h.rows fun _ _ z => k _ _ (ne_of z hx (fun q => ho _ q.symm)) z, h.len, h.few⟩
theorem few_of {zs ys : List Int} (hn : zs.Nodup) (hm : ∀ x, x ∈ zs ↔ x ∈ ys) (hl : ys.length < 60) : zs.length < 64 := by
  rcases Nat.lt_or_ge zs.length 64 with h | h
  · exact h
  · obtain ⟨c, h1, h2⟩ := pig ys zs hn (by omega)
    exact absurd ((hm c).mp h1) h2
theorem ok_init (F : Fun K "__init__" "Machine.__init__" s_Machine___init f fd) (B : Bt mg) (S : MoC K C) (G_refuse_twice : FnX P w K mg base k "refuse_twice" ["names"] (spTwice CT) g gd) (G_refuse_steps : FnX P w K mg base k "refuse_steps" ["letters", "table"] (spSteps CB) g2 gd2)
    (G_refuse_good : FnX P w K mg base k "refuse_good" ["table", "good"] (spGood CG) g3 gd3) (G_rising : Fn P w K mg base k "rising" ["things"] (spRisingN K) g4 gd4) : FnOk P w K mg base (CXE P w) (k + 1) f fd ["self", "letters", "table", "good"] (spInit C CT CB CG) := by
  refine F.okX sc_init (fun vs H Q E h => ?_) (fun cdv A outer s H vs Q E hr h => ?_)
  · obtain ⟨x, p, t, g, dx, ls, rs, tb, gd, rfl, _⟩ := h
    rfl
  obtain ⟨x, p, t, g, dx, ls, rs, tb, gdl, rfl, hx, hp, hT, h60, hg, hg60, q0, qe⟩ := h
  have nd := sc_init.nd
  have hpass := pass_any (P := P) (w := w) (K := K) (mg := mg) (base := base) (N := ["self", "letters", "table", "good"]) (qual := "Machine.__init__") (scope := defScope s_Machine___init) (f := f) (cd := cdv) (A := A) (outer := outer) (s0 := s) (H0 := H) (E := E) (G := fun c fs => dueX CT CB CG ls tb gdl = some (c, fs)) (fun a H' c fs e na sm fl => qe c fs e a H' na sm fl)
  refine ⟨_, (pss_cons (ps_expr (pe_call G_refuse_twice.ok hr rfl G_refuse_twice.at_ G_refuse_twice.kp G_refuse_twice.bn .nil hpass (pa_cons (pv 1) pa_nil)))
    (pss_cons (ps_expr (pe_call G_refuse_steps.ok hr rfl G_refuse_steps.at_ G_refuse_steps.kp G_refuse_steps.bn .nil hpass (pa_cons (pv 1) (pa_cons (pv 2) pa_nil))))
    (pss_cons (ps_expr (pe_call G_refuse_good.ok hr rfl G_refuse_good.at_ G_refuse_good.kp G_refuse_good.bn .nil hpass (pa_cons (pv 2) (pa_cons (pv 3) pa_nil))))
    (pss_cons (ps_fld (pv 0) (pe_callTy call_tupleF rfl B.tuple_ (by decide +kernel) (pa_cons (pv 1) pa_nil)) rfl)
    (pss_cons (ps_fld (pv 0) (pe_callTy call_tuple_of rfl B.tuple_ (by decide +kernel) (pa_cons (pe_comp (g := (gName 0)) (tc := tYes) (te := (tCB (fun xs H Q => ∃ p ys, xs = [.ref p] ∧ ((SqL K H p ys ∧ ∀ l, H l = none → Q (.ref l) (upd H l (.tup ys))) ∨ (SqT K H p ys ∧ Q (.ref p) H))) (tCons (tVar 0) tNil))) (own := ["row"]) (fr := ([] : List Str)) (idx := []) rfl (by show CompScope _ _ _ (defScope s_Machine___init); exact ⟨rfl, by decide +kernel, by decide +kernel, by decide +kernel, by decide +kernel, by decide +kernel, by decide +kernel⟩) (pi_list (pv 2)) (fun _ _ _ _ _ => (pg_name (i := 0) (by show List.Nodup (["row"] : List Str); decide +kernel) rfl (Or.inl rfl) (Or.inr rfl))) (fun _ _ _ _ _ => pts_nil) (fun _ _ _ _ _ => (pe_callTy call_tuple_of rfl B.tuple_ (by decide +kernel) (pa_cons (pv 0) pa_nil))) rfl (hat_of rfl)) pa_nil)) rfl)
    (pss_one (ps_fld (pv 0) (pe_call G_rising.ok hr rfl G_rising.at_ G_rising.kp G_rising.bn .nil pass0 (pa_cons (pv 3) pa_nil)) rfl))))))), ?_⟩
  try dsimp only [cxOf, Cx.nox, Cx.wish]
  refine lats6 ?_
  intro D0 σ0 U6 U5 U4 U3 U2
  refine ⟨_, rfl, p, ls, rfl, hp, h60, fun d1 H1 x1 => ?_, fun n hn a H' na sm fl => ⟨a, rfl, na, sm, _, _, fl, by rw [dueX, hn]⟩⟩
  have hT1 := hT.same x1
  refine ⟨_, rfl, _, rfl, p, t, ls, rs, tb, rfl, x1 _ _ hp, hT1, h60, fun d2 H2 x2 => ?_, fun i l hn a H' na sm fl => ⟨a, rfl, x1.free na, x1.trans sm, _, _, fl, by rw [dueX, d1]; simp only [hn]⟩⟩
  have x12 := x1.trans x2
  refine ⟨_, rfl, _, rfl, t, g, rs, tb, ls.length, gdl, rfl, hT.same x12, x12 _ _ hg, fun d3 H3 x3 => ?_, fun z hn a H' na sm fl => ⟨a, rfl, x12.free na, x12.trans sm, _, _, fl, by rw [dueX, d1]; simp only [d2, hn]⟩⟩
  have q := q0 (by rw [dueX, d1]; simp only [d2, d3])
  have x13 := x12.trans x3
  clear q0 qe hpass
  refine ⟨_, rfl, p, _, rfl, SqL.of (x13 _ _ hp), fun tl ob htl hob hoc => ?_⟩
  have xx4 := x13.trans (sm_new (o := .frz ob (.tup (ls.map V.str))) htl)
  have ktl : upd H3 tl (.frz ob (.tup (ls.map V.str))) tl = some (.frz ob (.tup (ls.map V.str))) := upd_same
  generalize upd H3 tl (.frz ob (.tup (ls.map V.str))) = H4 at xx4 ktl ⊢
  refine ⟨_, rfl, x, C, dx, [], rfl, xx4 _ _ hx, S.cls, S.n1, by decide, ?_⟩
  have y5 : ∀ b o, b ≠ x → H b = some o → upd H4 x (.ins C dx (putF "letters" (.ref tl) [])) b = some o := fun b o n e => by rw [upd_ne n]; exact xx4 _ _ e
  have ntl : tl ≠ x := ne_of ktl (xx4 _ _ hx) (fun z => nomatch z)
  have k5 : upd H4 x (.ins C dx (putF "letters" (.ref tl) [])) tl = some (.frz ob (.tup (ls.map V.str))) := by rw [upd_ne ntl]; exact ktl
  have k5x : upd H4 x (.ins C dx (putF "letters" (.ref tl) [])) x = some (.ins C dx [("letters", .ref tl)]) := upd_same
  generalize upd H4 x (.ins C dx (putF "letters" (.ref tl) [])) = H5 at y5 k5 k5x ⊢
  have hT5 : Tb H5 t rs tb ls.length := hT.but hx (fun _ z => nomatch z) y5
  refine ⟨_, rfl, t, rfl, ⟨_, SqL.of hT5.at_⟩, fun D hD => tuples (K := K) hD hT5 fun H6 us x6 hD6 hU6 => ⟨D, _, rfl, .inl ⟨SqL.of hD6, fun tt htt => ?_⟩⟩⟩
  have xx7 := x6.trans (sm_new (o := .tup (us.map V.ref)) htt)
  have ktt : upd H6 tt (.tup (us.map V.ref)) tt = some (.tup (us.map V.ref)) := upd_same
  have hU7 : Paired (RowU (upd H6 tt (.tup (us.map V.ref)))) us tb := Paired.mapP hU6 fun _ _ z => (sm_new htt) _ _ z
  generalize upd H6 tt (.tup (us.map V.ref)) = H7 at xx7 ktt hU7 ⊢
  refine ⟨_, rfl, x, C, dx, _, rfl, xx7 _ _ k5x, S.cls, S.n2, (by show 1 < 1000; decide), ?_⟩
  have nt : ∀ {b : Addr} {ys : List V}, H7 b = some (.tup ys) → b ≠ x := fun e => ne_of e (xx7 _ _ k5x) (fun z => nomatch z)
  have y8 : ∀ b o, b ≠ x → H7 b = some o → upd H7 x (.ins C dx (putF "table" (.ref tt) [("letters", .ref tl)])) b = some o := fun b o n e => by rw [upd_ne n]; exact e
  have k8x : upd H7 x (.ins C dx (putF "table" (.ref tt) [("letters", .ref tl)])) x = some (.ins C dx [("letters", .ref tl), ("table", .ref tt)]) := upd_same
  have k8 : upd H7 x (.ins C dx (putF "table" (.ref tt) [("letters", .ref tl)])) tl = some (.frz ob (.tup (ls.map V.str))) := y8 _ _ ntl (xx7 _ _ k5)
  have k8t : upd H7 x (.ins C dx (putF "table" (.ref tt) [("letters", .ref tl)])) tt = some (.tup (us.map V.ref)) := y8 _ _ (nt ktt) ktt
  have hU8 : Paired (RowU (upd H7 x (.ins C dx (putF "table" (.ref tt) [("letters", .ref tl)])))) us tb := Paired.mapP hU7 fun _ _ z => y8 _ _ (nt z) z
  have z8 : ∀ b o, b ≠ x → H b = some o → upd H7 x (.ins C dx (putF "table" (.ref tt) [("letters", .ref tl)])) b = some o := fun b o n e => y8 _ _ n (xx7 _ _ (y5 _ _ n e))
  clear y8
  generalize upd H7 x (.ins C dx (putF "table" (.ref tt) [("letters", .ref tl)])) = H8 at k8x k8 k8t hU8 z8 ⊢
  refine ⟨_, rfl, g, gdl, rfl, SqL.of (z8 _ _ (ne_of hg hx (fun z => nomatch z)) hg), by omega, fun zs hn hm => few_of hn hm hg60, fun tg zs H9 up ndz mem htg x9 h9 => ?_⟩
  refine ⟨_, rfl, x, C, dx, _, rfl, x9 _ _ k8x, S.cls, S.n3, (by show 2 < 1000; decide), ?_⟩
  have nt9 : ∀ {b : Addr} {ys : List V}, H9 b = some (.tup ys) → b ≠ x := fun e => ne_of e (x9 _ _ k8x) (fun z => nomatch z)
  have y10 : ∀ b o, b ≠ x → H9 b = some o → upd H9 x (.ins C dx (putF "good" (.ref tg) [("letters", .ref tl), ("table", .ref tt)])) b = some o := fun b o n e => by rw [upd_ne n]; exact e
  refine q _ zs ⟨dx, tl, tt, tg, us, upd_same, ⟨ob, y10 _ _ ntl (x9 _ _ k8), hob, hoc⟩, y10 _ _ (nt9 (x9 _ _ k8t)) (x9 _ _ k8t), Paired.mapP hU8 fun _ _ z => y10 _ _ (nt9 (x9 _ _ z)) (x9 _ _ z), y10 _ _ (nt9 h9) h9⟩ ⟨up, ndz, mem⟩ fun b o n e => y10 _ _ n (x9 _ _ (z8 _ _ n e))
end
end KK
namespace KK
open PySem L2 PyProof.Rows KKM
abbrev s_law_machine : Stmt := top 29
abbrev s_is_name : Stmt := top 10
abbrev s_words_of : Stmt := top 11
abbrev s_number_in : Stmt := top 12
abbrev s_read_machine : Stmt := top 21
abbrev s_letters_in : Stmt := top 22
abbrev s_steps_in : Stmt := top 23
abbrev s_law_text : Stmt := top 30
abbrev s_law_signs : Stmt := top 31
abbrev s_law_moved : Stmt := top 32
abbrev s_law_spoilt : Stmt := top 33
abbrev s_law_all_of : Stmt := top 34
abbrev s_law_is_name : Stmt := top 35
abbrev s_law_is_number : Stmt := top 36
abbrev s_law_due : Stmt := top 37
abbrev s_law_told : Stmt := top 38
abbrev s_law : Stmt := top 39
section
variable {P : Program} {w : World} {K : PySem.W.Frag} {mg : Str → Option Value} {base : Heap} {f g g2 g3 g4 : Addr} {fd gd gd2 gd3 gd4 : FuncData} {k : Nat} {C CT CB CG M ft : Addr} {ftd : FuncData}
def Bi (x : Int) : Prop := -10 ≤ x ∧ x ≤ 1000000000
/-- a flow, letters, a table and good ones, each an object of its own -/
structure MA (H : Hp) (a l t g : Addr) (rs : List Addr) (ls : List Str) (tb : List (List Int)) (gd : List Int) : Prop where
  fl : FlowAt H a
  hl : H l = some (.lst (ls.map V.str))
  hT : Tb H t rs tb ls.length
  hg : H g = some (.lst (gd.map V.int))
  nd : (a :: l :: t :: g :: rs).Nodup
  l1 : 1 ≤ ls.length
  l6 : ls.length ≤ 6
  nm : ∀ z ∈ ls, Nm z
  t1 : 1 ≤ tb.length
  t8 : tb.length ≤ 24
  ti : ∀ r ∈ tb, ∀ x ∈ r, Bi x
  gi : ∀ x ∈ gd, Bi x
theorem paired_on {α β : Type} {F G : α → β → Prop} {l : List α} {m : List β} (h : Paired F l m) : (∀ a b, a ∈ l → F a b → G a b) → Paired G l m := by
  induction h with
  | nil => exact fun _ => .nil
  | cons r _ ih => exact fun k => .cons (k _ _ (List.mem_cons_self ..) r) (ih fun a b ha z => k a b (List.mem_cons_of_mem _ ha) z)
/-- a row of drawn numbers -/
theorem drawn {D a l : Addr} {Q : VK} {H1 : Hp} {m : Int} {ls : List Str} (h0 : 0 < m) (h8 : m ≤ 24) (hD : H1 D = none) (hF : FlowAt H1 a) (hl : H1 l = some (.lst (ls.map V.str))) (nl : l ≠ a) (h6 : ls.length ≤ 6)
    (hdn : ∀ (row : List Int) (H' : Hp), row.length = ls.length → (∀ x ∈ row, 0 ≤ x ∧ x < m) → FlowAt H' a → Ext a H1 H' → H' D = some (.lst (row.map V.int)) → Q (.ref D) H') :
    CompLoop (Itl K l) D (gName 0) tYes (tCall spDraw [] E0 (tCons (tVar 1) (tCons (tVar 2) tNil))) Q [none, some (.ref a), some (.int m)] H1 := by
  have nD := ne_flow hD hF
  have nDl : D ≠ l := fun e => by rw [e, hl] at hD; cases hD
  refine comp_list (xs := ls.map V.str) (fun i ys σ H => ∃ (row : List Int) (v : Option V), ys = row.map V.int ∧ row.length = i ∧ (∀ x ∈ row, 0 ≤ x ∧ x < m) ∧ σ = [v, some (.ref a), some (.int m)] ∧ FlowAt H a ∧ Ext a H1 H) ?_ (by rw [List.length_map]; omega) ?_ ?_ ?_ ?_
  · exact ⟨[], none, rfl, rfl, (by intro _ z; cases z), rfl, hF.new hD, Ext.new hD⟩
  · rintro i ys σ H ⟨row, v, rfl, e, _⟩
    rw [List.length_map, e]; exact Nat.le_refl _
  · rintro i ys σ H ⟨row, v, _, _, _, _, _, x⟩
    exact SqL.of (x _ _ nl hl)
  · rintro i y ys σ H hy hl2 ⟨row, v, rfl, e, hb, rfl, fl, x⟩
    refine ⟨_, rfl, _, rfl, a, m, rfl, fl, h0, by omega, fun r H4 r0 r1 f4 x4 => ⟨x4 _ _ nD hl2, row ++ [r], _, by rw [List.map_append]; rfl, by rw [List.length_append, e]; rfl, fun z hz => ?_, rfl, f4.set (Ne.symm nD), ?_⟩⟩
    · rcases List.mem_append.mp hz with h | h
      · exact hb z h
      · rw [List.mem_singleton.mp h]; exact ⟨r0, r1⟩
    · exact (x.trans x4).at hD
  · rintro ys σ H hl2 ⟨row, v, rfl, e, hb, _, fl, x⟩
    rw [List.length_map] at e
    exact hdn row H e hb fl x hl2
/-- rows of drawn numbers -/
theorem table_of {D a l : Addr} {Q : VK} {H1 : Hp} {m : Int} {n : Nat} {ls : List Str} (h0 : 0 < m) (h8 : m ≤ 24) (hn : n ≤ 24) (hD : H1 D = none) (hF : FlowAt H1 a) (hl : H1 l = some (.lst (ls.map V.str))) (nl : l ≠ a) (h6 : ls.length ≤ 6)
    (hdn : ∀ (rs : List Addr) (tb : List (List Int)) (H' : Hp), rs.length = n → Paired (RowI H') rs tb → (∀ r ∈ tb, r.length = ls.length ∧ ∀ x ∈ r, 0 ≤ x ∧ x < m) → rs.Nodup → (∀ u ∈ rs, H1 u = none) → D ∉ rs → FlowAt H' a → Ext a H1 H' → H' D = some (.lst (rs.map V.ref)) → Q (.ref D) H') :
    CompLoop (Itr 0 n) D (gName 0) tYes (tComp (iList K (tVar 3)) 1 [1, 2] (gName 0) tYes (tCall spDraw [] E0 (tCons (tVar 1) (tCons (tVar 2) tNil)))) Q [none, some (.ref a), some (.int m), some (.ref l)] H1 := by
  have nD := ne_flow hD hF
  refine comp_range (fun i ys σ H => ∃ (rs : List Addr) (tb : List (List Int)) (v : Option V), ys = rs.map V.ref ∧ rs.length = i ∧ Paired (RowI H) rs tb ∧ (∀ r ∈ tb, r.length = ls.length ∧ ∀ x ∈ r, 0 ≤ x ∧ x < m) ∧ rs.Nodup ∧ (∀ u ∈ rs, H1 u = none) ∧ D ∉ rs ∧ σ = [v, some (.ref a), some (.int m), some (.ref l)] ∧ FlowAt H a ∧ Ext a H1 H) ?_ (by omega) ?_ ?_ ?_
  · exact ⟨[], [], none, rfl, rfl, .nil, (by intro _ z; cases z), List.nodup_nil, (by intro _ z; cases z), (by intro z; cases z), rfl, hF.new hD, Ext.new hD⟩
  · rintro i ys σ H ⟨rs, tb, v, rfl, e, _⟩
    rw [List.length_map, e]; exact Nat.le_refl _
  · rintro i ys σ H hi hl2 ⟨rs, tb, v, rfl, e, hP, hb, hnd, hfr, hDn, rfl, fl, x⟩
    have hll : H l = some (.lst (ls.map V.str)) := x _ _ nl hl
    refine ⟨_, rfl, l, rfl, ⟨_, SqL.of hll⟩, fun D2 hD2 => drawn (K := K) h0 h8 hD2 fl hll nl h6 fun row H4 e4 b4 f4 x4 h4 => ?_⟩
    have nDD : D ≠ D2 := ne_of_none hl2 hD2
    have nua : ∀ u ∈ rs, u ≠ a := fun u hu => ne_flow (hfr u hu) hF
    have hD1 : H1 D2 = none := x.free fl hD2
    have nin : D2 ∉ rs := fun hu => by
      obtain ⟨j, hj⟩ := List.getElem?_of_mem hu
      obtain ⟨_, _, z⟩ := paired_get hP hj
      have z' : H D2 = _ := z
      rw [hD2] at z'; cases z'
    refine ⟨x4 _ _ nD hl2, rs ++ [D2], tb ++ [row], _, by rw [List.map_append]; rfl, by rw [List.length_append, e]; rfl, paired_app (paired_on hP fun u w hu z => ?_) (.cons ?_ .nil), fun r hr => ?_, nodup_snoc hnd nin, fun u hu => ?_, fun hu => ?_, rfl, f4.set (Ne.symm nD), (x.trans x4).at hD⟩
    · show upd H4 D _ u = _
      rw [upd_ne (show u ≠ D from fun q => hDn (q ▸ hu))]; exact x4 _ _ (nua u hu) z
    · show upd H4 D _ D2 = _
      rw [upd_ne (Ne.symm nDD)]; exact h4
    · rcases List.mem_append.mp hr with h | h
      · exact hb r h
      · rw [List.mem_singleton.mp h]; exact ⟨e4, b4⟩
    · rcases List.mem_append.mp hu with h | h
      · exact hfr u h
      · rw [List.mem_singleton.mp h]; exact hD1
    · rcases List.mem_append.mp hu with h | h
      · exact hDn h
      · exact nDD (List.mem_singleton.mp h)
  · rintro ys σ H hl2 ⟨rs, tb, v, rfl, e, hP, hb, hnd, hfr, hDn, _, fl, x⟩
    exact hdn rs tb H e hP hb hnd hfr hDn fl x hl2
/-- the states that are good -/
theorem goods {D a : Addr} {Q : VK} {H1 : Hp} {n : Nat} (hn : n ≤ 24) (hD : H1 D = none) (hF : FlowAt H1 a)
    (hdn : ∀ (gd : List Int) (H' : Hp), gd.length ≤ 24 → gd.Pairwise (· < ·) → (∀ x ∈ gd, 0 ≤ x ∧ x < n) → (∀ x ∈ gd, Bi x) → FlowAt H' a → Ext a H1 H' → H' D = some (.lst (gd.map V.int)) → Q (.ref D) H') :
    CompLoop (Itr 0 n) D (gName 0) (tTest (tOp rEq (tCall spDraw [] E0 (tCons (tVar 1) (tCons (tC (.int 2)) tNil))) (tC (.int 0)))) (tVar 0) Q [none, some (.ref a)] H1 := by
  have nD := ne_flow hD hF
  refine comp_range (fun i ys σ H => ∃ (gd : List Int) (v : Option V), ys = gd.map V.int ∧ gd.length ≤ i ∧ (gd.Pairwise (· < ·) ∧ ∀ x ∈ gd, 0 ≤ x ∧ x < i) ∧ σ = [v, some (.ref a)] ∧ FlowAt H a ∧ Ext a H1 H) ?_ (by omega) ?_ ?_ ?_
  · exact ⟨[], none, rfl, Nat.le_refl _, ⟨List.Pairwise.nil, (by intro _ z; cases z)⟩, rfl, hF.new hD, Ext.new hD⟩
  · rintro i ys σ H ⟨gd, v, rfl, e, _⟩
    rw [List.length_map]; exact e
  · rintro i ys σ H hi hl2 ⟨gd, v, rfl, e, hb, rfl, fl, x⟩
    refine ⟨_, rfl, a, 2, rfl, fl, by decide, by decide, fun r H4 r0 r1 f4 x4 => ⟨rfl, _, rfl, ?_⟩⟩
    refine ite2 (fun _ => ?_) (fun _ => ?_)
    · refine ⟨_, rfl, x4 _ _ nD hl2, gd ++ [0 + (i : Int)], _, by rw [List.map_append]; rfl, by rw [List.length_append]; simp only [List.length_cons, List.length_nil]; omega, ⟨?_, fun z hz => ?_⟩, rfl, f4.set (Ne.symm nD), (x.trans x4).at hD⟩
      · refine List.pairwise_append.mpr ⟨hb.1, List.pairwise_singleton _ _, fun u hu v hv => ?_⟩
        rw [List.mem_singleton.mp hv]
        have := hb.2 u hu
        omega
      · rcases List.mem_append.mp hz with h | h
        · have := hb.2 z h
          omega
        · rw [List.mem_singleton.mp h]; omega
    · exact ⟨x4 _ _ nD hl2, gd, _, rfl, by omega, ⟨hb.1, fun z hz => by have := hb.2 z hz; omega⟩, rfl, f4, x.trans x4⟩
  · rintro ys σ H hl2 ⟨gd, v, rfl, e, hb, _, fl, x⟩
    exact hdn gd H (by omega) hb.1 hb.2 (fun z hz => by have := hb.2 z hz; rw [Bi]; omega) fl x hl2
end
end KK
namespace KK
open PySem L2 PyProof.Rows KKM
section
variable {P : Program} {w : World} {K : PySem.W.Frag} {mg : Str → Option Value} {base : Heap} {f g g2 g3 g4 : Addr} {fd gd gd2 gd3 gd4 : FuncData} {k : Nat} {C CT CB CG M ft : Addr} {ftd : FuncData}
def spMachine : Sp := fun vs H Q _ => ∃ (a l : Addr) (m : Int) (ls : List Str), vs = [.ref a, .int m, .ref l] ∧ FlowAt H a ∧ H l = some (.lst (ls.map V.str)) ∧ l ≠ a ∧ 1 ≤ m ∧ m ≤ 24 ∧ 1 ≤ ls.length ∧ ls.length ≤ 6 ∧ (∀ z ∈ ls, Nm z) ∧
  ∀ (p t g : Addr) (rs : List Addr) (tb : List (List Int)) (gd : List Int) (H' : Hp), MA H' a l t g rs ls tb gd → (tb.length : Int) = m → (∀ r ∈ tb, ∀ x ∈ r, 0 ≤ x ∧ x < tb.length) → gd.length ≤ 24 → gd.Pairwise (· < ·) → (∀ x ∈ gd, 0 ≤ x ∧ x < tb.length) → (∀ b ∈ t :: g :: rs, H b = none) → Ext a H H' → H' p = some (.tup [.ref t, .ref g]) → Q (.ref p) H'
theorem sc_machine : FnScope ["_law_flow_here", "_law_many", "_law_letters", "_law_table"] ["_law_flow_here", "_law_many", "_law_letters"] (defScope s_law_machine) := ⟨rfl, rfl, rfl, by decide +kernel, rfl, by decide +kernel, by decide +kernel⟩
theorem ok_machine (F : Fun K "_law_machine" "_law_machine" s_law_machine f fd) (B : Bt mg) (G__law_draw : Fn P w K mg base k "_law_draw" ["_law_flow_here", "_law_many"] spDraw g gd) : FnOk P w K mg base CX0 (k + 1) f fd ["_law_flow_here", "_law_many", "_law_letters"] spMachine := by
  refine F.ok sc_machine (fun vs H Q E h => ?_) (fun cdv A outer s H vs Q E hr h => ?_)
  · obtain ⟨a, l, m, ls, rfl, _⟩ := h
    rfl
  obtain ⟨a, l, m, ls, rfl, hF, hl, nl, h1, h8, l1, l6, hnm, q⟩ := h
  have nd := sc_machine.nd
  refine ⟨_, (pss_cons (ps_setC (i := 3) nd rfl (Or.inl rfl) (g := (gName 0)) (tc := tYes) (te := (tComp (iList K (tVar 3)) 1 [1, 2] (gName 0) tYes (tCall spDraw [] E0 (tCons (tVar 1) (tCons (tVar 2) tNil))))) (own := ["_law_state"]) (fr := ["_law_flow_here", "_law_many", "_law_letters"]) (idx := [0, 1, 2]) rfl (by show CompScope _ _ _ (defScope s_law_machine); exact ⟨rfl, by decide +kernel, by decide +kernel, by decide +kernel, by decide +kernel, by decide +kernel, by decide +kernel⟩) (pi_range1 rfl B.range_ (pa_cons (pv 1) pa_nil)) (fun _ _ _ _ _ => (pg_name (i := 0) (by show List.Nodup (["_law_state", "_law_flow_here", "_law_many", "_law_letters"] : List Str); decide +kernel) rfl (Or.inl rfl) (Or.inr rfl))) (fun _ _ _ _ _ => pts_nil) (fun _ _ _ _ _ => (pe_comp (g := (gName 0)) (tc := tYes) (te := (tCall spDraw [] E0 (tCons (tVar 1) (tCons (tVar 2) tNil)))) (own := ["_law_letter"]) (fr := ["_law_flow_here", "_law_many"]) (idx := [1, 2]) rfl (CompScope.relab ⟨rfl, by decide +kernel, by decide +kernel, by decide +kernel, by decide +kernel, by decide +kernel, by decide +kernel⟩) (pi_list (pv 3)) (fun _ _ _ _ _ => (pg_name (i := 0) (by show List.Nodup (["_law_letter", "_law_flow_here", "_law_many"] : List Str); decide +kernel) rfl (Or.inl rfl) (Or.inr rfl))) (fun _ _ _ _ _ => pts_nil) (fun _ _ _ _ _ => (pe_call G__law_draw.ok hr rfl G__law_draw.at_ G__law_draw.kp G__law_draw.bn .nil pass0 (pa_cons (pv 1) (pa_cons (pv 2) pa_nil)))) rfl (hat_of rfl))) rfl (hat_of rfl))
    (pss_one (ps_ret (pe_tup (pa_cons (pv 3) (pa_cons (pe_comp (g := (gName 0)) (tc := (tTest (tOp rEq (tCall spDraw [] E0 (tCons (tVar 1) (tCons (tC (.int 2)) tNil))) (tC (.int 0))))) (te := (tVar 0)) (own := ["_law_state"]) (fr := ["_law_flow_here"]) (idx := [0]) rfl (by show CompScope _ _ _ (defScope s_law_machine); exact ⟨rfl, by decide +kernel, by decide +kernel, by decide +kernel, by decide +kernel, by decide +kernel, by decide +kernel⟩) (pi_range1 rfl B.range_ (pa_cons (pv 1) pa_nil)) (fun _ _ _ _ _ => (pg_name (i := 0) (by show List.Nodup (["_law_state", "_law_flow_here"] : List Str); decide +kernel) rfl (Or.inl rfl) (Or.inr rfl))) (fun _ _ _ _ _ => pts_one (pt_cmpR op_eq (pe_call G__law_draw.ok hr rfl G__law_draw.at_ G__law_draw.kp G__law_draw.bn .nil pass0 (pa_cons (pv 1) (pa_cons pe_int pa_nil))) pe_int (nomark _))) (fun _ _ _ _ _ => (pv 0)) rfl (hat_of rfl)) pa_nil)))))), ?_⟩
  try dsimp only [cxOf, Cx.nox, Cx.wish]
  refine lats2 ?_
  intro D0 σ0 U2
  refine ⟨_, rfl, m, rfl, by omega, by omega, fun D hD => table_of (K := K) (by omega) h8 (by omega) hD hF hl nl l6 fun rs tb H2 e2 hP hb hnd hfr hDn f2 x2 hD2 => ?_⟩
  have nD := ne_flow hD hF
  refine ⟨_, rfl, _, rfl, m, rfl, by omega, by omega, fun D3 hD3 => goods (by omega) hD3 f2 fun gdl H3 g8 gp gb gi f3 x3 h3 => ⟨tiny (show 2 ≤ 1000 by decide), fun p hp => ?_⟩⟩
  have nua : ∀ u ∈ rs, u ≠ a := fun u hu => ne_flow (hfr u hu) hF
  have nD3 := ne_flow hD3 f2
  have nDl : l ≠ D := ne_of_none hl hD
  have nD3l : l ≠ D3 := ne_of_none (x2 _ _ nl hl) hD3
  have nDD : D ≠ D3 := ne_of_none hD2 hD3
  have at2 : ∀ u ∈ rs, ∃ o, H2 u = some o := fun u hu => by
    obtain ⟨j, hj⟩ := List.getElem?_of_mem hu
    obtain ⟨_, _, z⟩ := paired_get hP hj
    exact ⟨_, z⟩
  have nlr : l ∉ rs := fun hu => by rw [hfr l hu] at hl; cases hl
  have n3r : D3 ∉ rs := fun hu => by
    obtain ⟨o, z⟩ := at2 _ hu
    rw [hD3] at z; cases z
  have x3p : Same H3 (upd H3 p (.tup [.ref D, .ref D3])) := sm_new hp
  have lrs := Paired.length hP
  refine q p D D3 rs tb gdl _ ⟨Same.flow x3p f3, x3p _ _ (x3 _ _ nl (x2 _ _ nl hl)), ⟨x3p _ _ (x3 _ _ nD hD2), paired_on hP fun u w hu z => x3p _ _ (x3 _ _ (nua u hu) z), fun r hr => (hb r hr).1, by omega⟩, x3p _ _ h3, ?_, l1, l6, hnm, by omega, by omega, fun r hr x hx => ?_, gi⟩ (by omega) (fun r hr x hx => by have := (hb r hr).2 x hx; omega) g8 gp (fun x hx => by have := gb x hx; omega) (fun b hb' => ?_) ?_ upd_same
  · simp only [List.nodup_cons, List.mem_cons, not_or]
    exact ⟨⟨Ne.symm nl, Ne.symm nD, Ne.symm nD3, fun hu => nua a hu rfl⟩, ⟨nDl, nD3l, nlr⟩, ⟨nDD, hDn⟩, n3r, hnd⟩
  · have := (hb r hr).2 x hx
    rw [Bi]; omega
  · rcases List.mem_cons.mp hb' with rfl | hb'
    · exact hD
    rcases List.mem_cons.mp hb' with rfl | hb'
    · exact x2.free f2 hD3
    · exact hfr b hb'
  · exact x2.trans (x3.trans (Same.ext x3p))
end
end KK
namespace TX
open PySem PySem.Builtin.Str
/-- the places of a sign -/
def pos (c : Nat) : Nat → List Nat → List Nat
  | _, [] => []
  | k, a :: r => if a = c then k :: pos c (k + 1) r else pos c (k + 1) r
theorem pos_none {c : Nat} : ∀ (l : List Nat) (k : Nat), c ∉ l → pos c k l = []
  | [], _, _ => rfl
  | a :: r, k, h => by
    have h1 : ¬ a = c := fun e => h (by rw [e]; exact List.mem_cons_self)
    rw [pos, if_neg h1]
    exact pos_none r (k + 1) fun z => h (List.mem_cons_of_mem _ z)
theorem pos_app {c : Nat} {t : List Nat} : ∀ (l : List Nat) (k : Nat), c ∉ l → pos c k (l ++ c :: t) = (k + l.length) :: pos c (k + l.length + 1) t
  | [], k, _ => by
    show pos c k (c :: t) = _
    rw [pos, if_pos rfl]; rfl
  | a :: r, k, h => by
    have h1 : ¬ a = c := fun e => h (by rw [e]; exact List.mem_cons_self)
    show pos c k (a :: (r ++ c :: t)) = _
    rw [pos, if_neg h1, pos_app r (k + 1) fun z => h (List.mem_cons_of_mem _ z), List.length_cons]
    have e : k + 1 + r.length = k + (r.length + 1) := by omega
    rw [e]
theorem subAt_one {x : Str} {c i : Nat} : subAt x ⟨#[c]⟩ i = decide (x.cps[i]? = some c) := by
  unfold subAt
  have hl : (⟨#[c]⟩ : Str).length = 1 := rfl
  rw [hl, Bool.eq_iff_iff, beq_iff_eq, decide_eq_true_iff]
  constructor
  · intro h
    have h2 : (x.cps.extract i (i + 1))[0]? = some c := by rw [h]; rfl
    rw [Array.getElem?_extract] at h2
    split at h2
    · exact h2
    · cases h2
  · intro h
    have hi : i < x.cps.size := by
      rcases Nat.lt_or_ge i x.cps.size with q | q
      · exact q
      · rw [Array.getElem?_eq_none q] at h; cases h
    apply Array.ext
    · rw [Array.size_extract]
      show min (i + 1) x.cps.size - i = 1
      omega
    · intro j h1 h2
      have h3 : j < 1 := h2
      have e : j = 0 := by omega
      subst e
      rw [Array.getElem_extract]
      rw [Array.getElem?_eq_getElem hi] at h
      exact Option.some.inj h
theorem occ_go {x : Str} {c : Nat} : ∀ (t : List Nat) (k : Nat) (st : Array Nat × Nat), (∀ j, t[j]? = x.cps[k + j]?) → k + t.length = x.length → st.fst.size ≤ k → st.snd ≤ k →
    (forIn (m := Id) (List.range' k (t.length + 1)) st (StrLaws.occBody x ⟨#[c]⟩ x.length (x.length + 1))).run.fst.toList = st.fst.toList ++ pos c k t
  | [], k, st, _, hl, _, _ => by
    have h1 : ¬ (((st.fst.size < x.length + 1 ∧ st.snd ≤ k) ∧ k + (⟨#[c]⟩ : Str).length ≤ x.length) ∧ subAt x ⟨#[c]⟩ k = true) := fun z => by
      have z2 : k + 1 ≤ x.length := z.1.2
      have z3 : k + 0 = x.length := hl
      omega
    show (forIn (m := Id) [k] st _).run.fst.toList = _
    rw [pos, List.append_nil]
    simp only [List.forIn_cons, List.forIn_nil, StrLaws.occBody, if_neg h1]
    rfl
  | a :: r, k, st, ht, hl, h1, h2 => by
    have h0 : x.cps[k]? = some a := by
      have := ht 0
      rw [Nat.add_zero] at this
      exact this.symm
    have hl2 : k + (r.length + 1) = x.length := hl
    have hr : ∀ j, r[j]? = x.cps[k + 1 + j]? := fun j => by
      have := ht (j + 1)
      rw [show k + (j + 1) = k + 1 + j by omega] at this
      exact this
    rw [List.length_cons, List.range'_succ]
    by_cases hc : a = c
    · subst hc
      have hq : (((st.fst.size < x.length + 1 ∧ st.snd ≤ k) ∧ k + (⟨#[a]⟩ : Str).length ≤ x.length) ∧ subAt x ⟨#[a]⟩ k = true) := ⟨⟨⟨by omega, h2⟩, by show k + 1 ≤ x.length; omega⟩, by rw [subAt_one]; exact decide_eq_true h0⟩
      simp only [List.forIn_cons, StrLaws.occBody, if_pos hq]
      have g := occ_go (x := x) (c := a) r (k + 1) (st.fst.push k, k + 1) hr (by omega) (by rw [Array.size_push]; omega) (Nat.le_refl _)
      refine Eq.trans g ?_
      rw [pos, if_pos rfl, Array.toList_push, List.append_assoc]
      rfl
    · have hq : ¬ (((st.fst.size < x.length + 1 ∧ st.snd ≤ k) ∧ k + (⟨#[c]⟩ : Str).length ≤ x.length) ∧ subAt x ⟨#[c]⟩ k = true) := fun z => by
        have z2 := z.2
        rw [subAt_one] at z2
        have z3 := of_decide_eq_true z2
        rw [h0] at z3
        exact hc (Option.some.inj z3)
      simp only [List.forIn_cons, StrLaws.occBody, if_neg hq]
      have g := occ_go (x := x) (c := c) r (k + 1) (st.fst, st.snd) hr (by omega) (by show st.fst.size ≤ k + 1; omega) (by show st.snd ≤ k + 1; omega)
      refine Eq.trans g ?_
      rw [pos, if_neg hc]
theorem occ_one {x : Str} {c : Nat} : occurrences x ⟨#[c]⟩ 0 x.length (x.length + 1) = pos c 0 x.cps.toList := by
  rw [StrLaws.occ_eq]
  have hl : x.length = x.cps.toList.length := rfl
  have g := occ_go (x := x) (c := c) x.cps.toList 0 (#[], 0) (fun j => by rw [Nat.zero_add]; exact Array.getElem?_toList) (by rw [Nat.zero_add]; exact hl.symm) (Nat.le_refl _) (Nat.le_refl _)
  rw [Nat.sub_zero, hl]
  exact g
theorem split_eq {x y : Str} (hy : (y.length == 0) = false) : Txt.split x y = partsBetween x (occurrences x y 0 x.length (x.length + 1)) y.length := by
  unfold Txt.split
  split
  · rename_i h
    rw [PySem.W.occ_nil_of_no x y _ fun i hi => ?_, PySem.W.parts_nil]
    rcases Bool.or_eq_true_iff.mp h with h | h
    · have := of_decide_eq_true h; omega
    · cases e : subAt x y i
      · rfl
      · have := PySem.W.kind_le x y e; have := of_decide_eq_true h; omega
  · split
    · rename_i h; rw [List.isEmpty_iff.mp h, PySem.W.parts_nil]
    · rfl
/-- the signs of texts that are joined -/
def jl (c : Nat) : List Str → List Nat
  | [] => []
  | [y] => y.cps.toList
  | y :: r => y.cps.toList ++ c :: jl c r
theorem join_toList {c : Nat} : ∀ ys : List Str, (Str.join ⟨#[c]⟩ ys).cps.toList = jl c ys
  | [] => rfl
  | [_] => rfl
  | y :: z :: r => by
    have h := join_toList (c := c) (z :: r)
    show ((y.cps ++ #[c]) ++ (Str.join ⟨#[c]⟩ (z :: r)).cps).toList = y.cps.toList ++ c :: jl c (z :: r)
    rw [Array.toList_append, Array.toList_append, h, List.append_assoc]
    rfl
theorem sub_eq {x : Str} {P y T : List Nat} {i j : Nat} (h : x.cps.toList = P ++ (y ++ T)) (hi : i = P.length) (hj : j = P.length + y.length) : strSub x i j = ⟨⟨y⟩⟩ := by
  subst hi hj
  unfold strSub
  congr 1
  apply Array.ext'
  rw [Array.toList_extract, h]
  simp [List.extract, List.drop_append, List.take_append]
theorem parts_go {x : Str} {c : Nat} : ∀ (ys : List Str) (P : List Nat), ys ≠ [] → (∀ y ∈ ys, c ∉ y.cps.toList) → x.cps.toList = P ++ jl c ys →
    (((P.length :: (pos c P.length (jl c ys)).map (· + 1)).zip (pos c P.length (jl c ys) ++ [x.length])).map fun (i, j) => strSub x i j) = ys
  | [], _, h, _, _ => absurd rfl h
  | [y], P, _, hc, hx => by
    have h1 : c ∉ y.cps.toList := hc y List.mem_cons_self
    show (((P.length :: (pos c P.length y.cps.toList).map (· + 1)).zip (pos c P.length y.cps.toList ++ [x.length])).map fun (i, j) => strSub x i j) = [y]
    rw [pos_none _ _ h1]
    show [strSub x P.length x.length] = [y]
    have hl : x.length = P.length + y.cps.toList.length := by
      have : x.cps.toList.length = (P ++ y.cps.toList).length := by rw [hx]; rfl
      rw [List.length_append] at this
      exact this
    rw [sub_eq (P := P) (y := y.cps.toList) (T := []) (by rw [List.append_nil]; exact hx) rfl hl]
  | y :: z :: r, P, _, hc, hx => by
    have h1 : c ∉ y.cps.toList := hc y List.mem_cons_self
    have e : jl c (y :: z :: r) = y.cps.toList ++ c :: jl c (z :: r) := rfl
    rw [e] at hx ⊢
    rw [pos_app _ _ h1]
    have ih := parts_go (x := x) (c := c) (z :: r) (P ++ y.cps.toList ++ [c]) (by intro z; cases z) (fun w hw => hc w (List.mem_cons_of_mem _ hw)) (by rw [hx]; simp)
    have el : (P ++ y.cps.toList ++ [c]).length = P.length + y.cps.toList.length + 1 := by rw [List.length_append, List.length_append]; rfl
    rw [el] at ih
    show strSub x P.length (P.length + y.cps.toList.length) :: _ = y :: z :: r
    rw [sub_eq (P := P) (y := y.cps.toList) (T := c :: jl c (z :: r)) hx rfl rfl]
    exact congrArg (y :: ·) ih
theorem split_join {c : Nat} {ys : List Str} (hne : ys ≠ []) (hc : ∀ y ∈ ys, c ∉ y.cps.toList) : Txt.split (Txt.join ⟨#[c]⟩ ys) ⟨#[c]⟩ = ys := by
  rw [split_eq rfl, occ_one]
  have e : Txt.join ⟨#[c]⟩ ys = Str.join ⟨#[c]⟩ ys := StrLaws.glued_eq_join _ _
  rw [e, join_toList]
  have g := parts_go (x := Str.join ⟨#[c]⟩ ys) (c := c) ys [] hne hc (join_toList ys)
  exact g
end TX
namespace KK
open PySem L2 PyProof.Rows KKM
/-! ### texts: rows of words -/
theorem str_ext {a b : Str} (h : a.cps.toList = b.cps.toList) : a = b := by
  obtain ⟨⟨a⟩⟩ := a
  obtain ⟨⟨b⟩⟩ := b
  cases h
  rfl
theorem join_toL (c : Nat) (ys : List Str) : (Txt.join ⟨#[c]⟩ ys).cps.toList = TX.jl c ys := by
  rw [show Txt.join ⟨#[c]⟩ ys = Str.join ⟨#[c]⟩ ys from StrLaws.glued_eq_join _ _]
  exact TX.join_toList ys
theorem sp_blank : (" " : Str) = ⟨#[32]⟩ := by decide +kernel
theorem sp_feed : ("\n" : Str) = ⟨#[10]⟩ := by decide +kernel
theorem jl_cons (c : Nat) (y : Str) {ys : List Str} (h : ys ≠ []) : TX.jl c (y :: ys) = y.cps.toList ++ c :: TX.jl c ys := by
  cases ys with
  | nil => exact absurd rfl h
  | cons z r => rfl
theorem jl_split (c : Nat) (l : List Nat) : ∃ ys : List Str, ys ≠ [] ∧ (∀ y ∈ ys, c ∉ y.cps.toList) ∧ TX.jl c ys = l := by
  induction l with
  | nil =>
    refine ⟨[⟨#[]⟩], List.cons_ne_nil _ _, fun y hy => ?_, rfl⟩
    rw [List.mem_singleton.mp hy]
    exact fun z => by cases z
  | cons d l ih =>
    obtain ⟨ys, hne, hc, e⟩ := ih
    by_cases h : d = c
    · refine ⟨⟨#[]⟩ :: ys, List.cons_ne_nil _ _, fun y hy => ?_, ?_⟩
      · rcases List.mem_cons.mp hy with rfl | hy
        · exact fun z => by cases z
        · exact hc y hy
      · rw [jl_cons c _ hne, e, h]; rfl
    · obtain ⟨y, r, rfl⟩ := List.exists_cons_of_ne_nil hne
      refine ⟨⟨⟨d :: y.cps.toList⟩⟩ :: r, List.cons_ne_nil _ _, fun z hz => ?_, ?_⟩
      · rcases List.mem_cons.mp hz with rfl | hz
        · intro q
          rcases List.mem_cons.mp q with q | q
          · exact h q.symm
          · exact hc y (List.mem_cons_self ..) q
        · exact hc z (List.mem_cons_of_mem _ hz)
      · cases r with
        | nil => show d :: y.cps.toList = d :: l; rw [← e]; rfl
        | cons u v => show (d :: y.cps.toList) ++ c :: TX.jl c (u :: v) = d :: l; rw [← e]; rfl
theorem text_parts (c : Nat) (t : Str) : ∃ ys : List Str, ys ≠ [] ∧ (∀ y ∈ ys, c ∉ y.cps.toList) ∧ t = Txt.join ⟨#[c]⟩ ys := by
  obtain ⟨ys, h1, h2, h3⟩ := jl_split c t.cps.toList
  exact ⟨ys, h1, h2, str_ext (by rw [join_toL, h3])⟩
theorem mem_jl {c d : Nat} {y : Str} : ∀ {ys : List Str}, y ∈ ys → d ∈ y.cps.toList → d ∈ TX.jl c ys := by
  intro ys
  induction ys with
  | nil => intro h; cases h
  | cons z r ih =>
    intro h hd
    cases r with
    | nil => rw [List.mem_singleton.mp h] at hd; exact hd
    | cons u v =>
      rw [jl_cons c z (List.cons_ne_nil u v)]
      rcases List.mem_cons.mp h with rfl | h
      · exact List.mem_append_left _ hd
      · exact List.mem_append_right _ (List.mem_cons_of_mem _ (ih h hd))
theorem jl_no {c d : Nat} (hcd : d ≠ c) {ys : List Str} : (∀ y ∈ ys, d ∉ y.cps.toList) → d ∉ TX.jl c ys := by
  induction ys with
  | nil => intro _ z; cases z
  | cons z r ih =>
    intro h
    cases r with
    | nil => exact h z (List.mem_cons_self ..)
    | cons u v =>
      rw [jl_cons c z (List.cons_ne_nil u v)]
      intro q
      rcases List.mem_append.mp q with q | q
      · exact h z (List.mem_cons_self ..) q
      · rcases List.mem_cons.mp q with q | q
        · exact hcd q
        · exact ih (fun y hy => h y (List.mem_cons_of_mem _ hy)) q
def rowW (ws : List Str) : Str := Txt.join " " ws
def textW (wss : List (List Str)) : Str := Txt.join "\n" (wss.map rowW)
structure WOk (wss : List (List Str)) : Prop where
  ne : wss ≠ []
  rne : ∀ ws ∈ wss, ws ≠ []
  nb : ∀ ws ∈ wss, ∀ y ∈ ws, 32 ∉ y.cps.toList
  nf : ∀ ws ∈ wss, ∀ y ∈ ws, 10 ∉ y.cps.toList
theorem row_words {r : Str} (h : 10 ∉ r.cps.toList) : ∃ ws : List Str, ws ≠ [] ∧ (∀ y ∈ ws, 32 ∉ y.cps.toList) ∧ (∀ y ∈ ws, 10 ∉ y.cps.toList) ∧ r = rowW ws := by
  obtain ⟨ws, h1, h2, h3⟩ := text_parts 32 r
  refine ⟨ws, h1, h2, fun y hy q => h ?_, by rw [rowW, sp_blank]; exact h3⟩
  rw [h3, join_toL]
  exact mem_jl hy q
theorem rows_words : ∀ {rs : List Str}, (∀ y ∈ rs, 10 ∉ y.cps.toList) → ∃ wss : List (List Str), rs = wss.map rowW ∧ ∀ ws ∈ wss, ws ≠ [] ∧ (∀ y ∈ ws, 32 ∉ y.cps.toList) ∧ ∀ y ∈ ws, 10 ∉ y.cps.toList := by
  intro rs
  induction rs with
  | nil => exact fun _ => ⟨[], rfl, fun _ h => by cases h⟩
  | cons r rs ih =>
    intro h
    obtain ⟨wss, e, hw⟩ := ih fun y hy => h y (List.mem_cons_of_mem _ hy)
    obtain ⟨ws, h1, h2, h3, h4⟩ := row_words (h r (List.mem_cons_self ..))
    refine ⟨ws :: wss, by rw [List.map_cons, ← e, ← h4], fun x hx => ?_⟩
    rcases List.mem_cons.mp hx with rfl | hx
    · exact ⟨h1, h2, h3⟩
    · exact hw x hx
theorem text_words (t : Str) : ∃ wss, WOk wss ∧ t = textW wss := by
  obtain ⟨rs, h1, h2, h3⟩ := text_parts 10 t
  obtain ⟨wss, e, hw⟩ := rows_words h2
  refine ⟨wss, ⟨fun z => h1 (by rw [e, z]; rfl), fun ws h => (hw ws h).1, fun ws h => (hw ws h).2.1, fun ws h => (hw ws h).2.2⟩, ?_⟩
  rw [textW, sp_feed, ← e]
  exact h3
theorem split_row {ws : List Str} (h1 : ws ≠ []) (h2 : ∀ y ∈ ws, 32 ∉ y.cps.toList) : Txt.split (rowW ws) " " = ws := by
  rw [rowW, sp_blank]
  exact TX.split_join h1 h2
theorem row_nf {ws : List Str} (h : ∀ y ∈ ws, 10 ∉ y.cps.toList) : 10 ∉ (rowW ws).cps.toList := by
  rw [rowW, sp_blank, join_toL]
  exact jl_no (by decide) h
theorem split_text {wss : List (List Str)} (W : WOk wss) : Txt.split (textW wss) "\n" = wss.map rowW := by
  rw [textW, sp_feed]
  refine TX.split_join (fun z => W.ne (List.map_eq_nil_iff.mp z)) fun y hy => ?_
  obtain ⟨ws, h, rfl⟩ := List.mem_map.mp hy
  exact row_nf (W.nf ws h)
/-! ### how long they are -/
def tot (ys : List Str) : Nat := (ys.map fun y => y.length + 1).sum
theorem tot_cons (y : Str) (ys : List Str) : tot (y :: ys) = y.length + 1 + tot ys := rfl
theorem tot_app (xs ys : List Str) : tot (xs ++ ys) = tot xs + tot ys := by unfold tot; rw [List.map_append, List.sum_append]
theorem tot_mem {y : Str} : ∀ {ys : List Str}, y ∈ ys → y.length + 1 ≤ tot ys := by
  intro ys
  induction ys with
  | nil => intro h; cases h
  | cons z r ih =>
    intro h
    rw [tot_cons]
    rcases List.mem_cons.mp h with rfl | h
    · omega
    · have := ih h; omega
theorem tot_len (ys : List Str) : ys.length ≤ tot ys := by
  induction ys with
  | nil => exact Nat.le_refl _
  | cons z r ih => rw [tot_cons, List.length_cons]; omega
theorem tot_sub {xs ys : List Str} (h : List.Sublist xs ys) : tot xs ≤ tot ys := by
  induction h with
  | slnil => exact Nat.le_refl _
  | cons a _ ih => rw [tot_cons]; omega
  | cons_cons a _ ih => rw [tot_cons, tot_cons]; omega
theorem tot_set {ys : List Str} {j : Nat} {y : Str} : tot (ys.set j y) ≤ tot ys + (y.length + 1) := by
  induction ys generalizing j with
  | nil => exact Nat.zero_le _
  | cons z r ih =>
    cases j with
    | zero => rw [List.set_cons_zero, tot_cons, tot_cons]; omega
    | succ j => rw [List.set_cons_succ, tot_cons, tot_cons]; have := ih (j := j); omega
theorem len_jl (c : Nat) {ys : List Str} (h : ys ≠ []) : (TX.jl c ys).length + 1 = tot ys := by
  induction ys with
  | nil => exact absurd rfl h
  | cons z r ih =>
    cases r with
    | nil => rfl
    | cons u v =>
      rw [jl_cons c z (List.cons_ne_nil u v), List.length_append, List.length_cons, tot_cons, ← ih (List.cons_ne_nil u v)]
      show z.length + _ + 1 = _
      omega
theorem len_join (c : Nat) {ys : List Str} (h : ys ≠ []) : (Txt.join ⟨#[c]⟩ ys).length + 1 = tot ys := by
  rw [← len_jl c h, ← join_toL]
  rfl
theorem count_jl {c : Nat} {ys : List Str} (h : ys ≠ []) : (∀ y ∈ ys, c ∉ y.cps.toList) → (TX.jl c ys).count c + 1 = ys.length := by
  induction ys with
  | nil => exact absurd rfl h
  | cons z r ih =>
    intro hc
    have hz := List.count_eq_zero.mpr (hc z (List.mem_cons_self ..))
    cases r with
    | nil => show z.cps.toList.count c + 1 = 1; rw [hz]
    | cons u v =>
      have := ih (List.cons_ne_nil u v) fun y hy => hc y (List.mem_cons_of_mem _ hy)
      rw [jl_cons c z (List.cons_ne_nil u v), List.count_append, List.count_cons_self, hz, List.length_cons, ← this]
      omega
def feeds (t : Str) : Nat := t.cps.toList.count 10
theorem feeds_rows {rs : List Str} (h : rs ≠ []) (hc : ∀ y ∈ rs, 10 ∉ y.cps.toList) : feeds (Txt.join "\n" rs) + 1 = rs.length := by
  rw [feeds, sp_feed, join_toL]
  exact count_jl h hc
theorem feeds_text {wss : List (List Str)} (W : WOk wss) : feeds (textW wss) + 1 = wss.length := by
  rw [textW, feeds_rows (fun z => W.ne (List.map_eq_nil_iff.mp z)) fun y hy => ?_, List.length_map]
  obtain ⟨ws, h, rfl⟩ := List.mem_map.mp hy
  exact row_nf (W.nf ws h)
/-- the words of a text are not longer than it -/
theorem row_len {wss : List (List Str)} (W : WOk wss) {ws : List Str} (h : ws ∈ wss) : (rowW ws).length ≤ (textW wss).length := by
  have a := len_join 10 (ys := wss.map rowW) (fun z => W.ne (List.map_eq_nil_iff.mp z))
  have b := tot_mem (List.mem_map_of_mem h (f := rowW))
  rw [textW, sp_feed]
  omega
theorem wd_tot {ws : List Str} (hne : ws ≠ []) : tot ws = (rowW ws).length + 1 := by
  rw [rowW, sp_blank]
  exact (len_join 32 hne).symm
/-! ### names and numbers -/
def nmB (y : Str) : Bool := decide (1 ≤ y.length) && decide (y.length ≤ 8) && y.cps.toList.all fun c => decide (c ∈ abc.cps.toList)
def figs : Str := "0123456789"
def numB (y : Str) : Bool := decide (1 ≤ y.length) && decide (y.length ≤ 3) && (y.cps.toList.all fun c => decide (c ∈ figs.cps.toList)) && (decide (y = "0") || !decide (y.cps.toList.head? = some 48))
def numV (y : Str) : Int := (PySem.intText? y).getD 0
theorem nm_iff {y : Str} : nmB y = true ↔ Nm y := by
  unfold nmB Nm AZ
  rw [Bool.and_eq_true, Bool.and_eq_true, decide_eq_true_iff, decide_eq_true_iff, List.all_eq_true, and_assoc]
  exact and_congr Iff.rfl (and_congr Iff.rfl ⟨fun h c hc => of_decide_eq_true (h c hc), fun h c hc => decide_eq_true (h c hc)⟩)
theorem figs_list : figs.cps.toList = [48, 49, 50, 51, 52, 53, 54, 55, 56, 57] := by decide +kernel
abbrev tens : List Nat := [48, 49, 50, 51, 52, 53, 54, 55, 56, 57]
theorem num1 : ∀ a ∈ tens, ∃ n : Int, PySem.intText? ⟨#[a]⟩ = some n ∧ 0 ≤ n ∧ n < 1000 := by
  have h : ∀ a ∈ tens, (match PySem.intText? ⟨#[a]⟩ with | some n => decide (0 ≤ n) && decide (n < 1000) | none => false) = true := by decide +kernel
  intro a ha
  have := h a ha
  cases e : PySem.intText? ⟨#[a]⟩ with
  | none => rw [e] at this; cases this
  | some n => rw [e] at this; exact ⟨n, rfl, of_decide_eq_true (Bool.and_eq_true_iff.mp this).1, of_decide_eq_true (Bool.and_eq_true_iff.mp this).2⟩
theorem num2 : ∀ a ∈ tens, ∀ b ∈ tens, ∃ n : Int, PySem.intText? ⟨#[a, b]⟩ = some n ∧ 0 ≤ n ∧ n < 1000 := by
  have h : ∀ a ∈ tens, ∀ b ∈ tens, (match PySem.intText? ⟨#[a, b]⟩ with | some n => decide (0 ≤ n) && decide (n < 1000) | none => false) = true := by decide +kernel
  intro a ha b hb
  have := h a ha b hb
  cases e : PySem.intText? ⟨#[a, b]⟩ with
  | none => rw [e] at this; cases this
  | some n => rw [e] at this; exact ⟨n, rfl, of_decide_eq_true (Bool.and_eq_true_iff.mp this).1, of_decide_eq_true (Bool.and_eq_true_iff.mp this).2⟩
theorem num3 : ∀ a ∈ tens, ∀ b ∈ tens, ∀ c ∈ tens, ∃ n : Int, PySem.intText? ⟨#[a, b, c]⟩ = some n ∧ 0 ≤ n ∧ n < 1000 := by
  have h : ∀ a ∈ tens, ∀ b ∈ tens, ∀ c ∈ tens, (match PySem.intText? ⟨#[a, b, c]⟩ with | some n => decide (0 ≤ n) && decide (n < 1000) | none => false) = true := by decide +kernel
  intro a ha b hb c hc
  have := h a ha b hb c hc
  cases e : PySem.intText? ⟨#[a, b, c]⟩ with
  | none => rw [e] at this; cases this
  | some n => rw [e] at this; exact ⟨n, rfl, of_decide_eq_true (Bool.and_eq_true_iff.mp this).1, of_decide_eq_true (Bool.and_eq_true_iff.mp this).2⟩
theorem num_val {y : Str} (h1 : 1 ≤ y.length) (h3 : y.length ≤ 3) (hf : ∀ c ∈ y.cps.toList, c ∈ figs.cps.toList) : PySem.intText? y = some (numV y) ∧ 0 ≤ numV y ∧ numV y < 1000 := by
  suffices h : ∃ n : Int, PySem.intText? y = some n ∧ 0 ≤ n ∧ n < 1000 by
    obtain ⟨n, e, a, b⟩ := h
    unfold numV
    rw [e]
    exact ⟨rfl, a, b⟩
  rw [figs_list] at hf
  obtain ⟨⟨l⟩⟩ := y
  have hl : (⟨⟨l⟩⟩ : Str).length = l.length := rfl
  rw [hl] at h1 h3
  have hf' : ∀ c ∈ l, c ∈ tens := hf
  match l, h1, h3, hf' with
  | [a], _, _, hf => exact num1 a (hf a (by simp))
  | [a, b], _, _, hf => exact num2 a (hf a (by simp)) b (hf b (by simp))
  | [a, b, c], _, _, hf => exact num3 a (hf a (by simp)) b (hf b (by simp)) c (hf c (by simp))
  | [], h1, _, _ => exact absurd h1 (by decide)
  | _ :: _ :: _ :: _ :: _, _, h3, _ => exact absurd h3 (by simp only [List.length_cons]; omega)
theorem numB_val {y : Str} (h : numB y = true) : PySem.intText? y = some (numV y) ∧ 0 ≤ numV y ∧ numV y < 1000 := by
  unfold numB at h
  simp only [Bool.and_eq_true, decide_eq_true_iff, List.all_eq_true] at h
  exact num_val h.1.1.1 h.1.1.2 h.1.2
end KK
namespace KK
open PySem L2 PyProof.Rows KKM
theorem kit_ss (K : PySem.W.Frag) : PySem.W.kitOne K (.type "str") (.type "str") = some true := by kernel_rfl
theorem lineM {n : Nat} (h : n ≤ 1000000) : n ≤ sizeLine := Nat.le_trans h (by rw [sizeLine_eq]; decide)
section
variable {P : Program} {w : World} {K : PySem.W.Frag} {mg : Str → Option Value} {base : Heap} {f g g2 g3 : Addr} {fd gd gd2 gd3 : FuncData} {k : Nat} {C : Addr}
def allIn (z y : Str) : Bool := y.cps.toList.all fun c => decide (c ∈ z.cps.toList)
theorem signs_in {D : Addr} {Q : VK} {H1 : Hp} {z y : Str} (h8 : y.length ≤ 100000) (hD : H1 D = none) (hdn : ∀ H', Same H1 H' → H' D = some (.lst ((y.cps.toList.map fun c => decide (c ∈ z.cps.toList)).map V.bl)) → Q (.ref D) H') :
    CompLoop (Its y) D (gName 0) tYes (tOp (fun x y H Q => ∃ i j, x = .str i ∧ y = .str j ∧ Q (.bl (!(Builtin.Str.occurrences j i 0 j.length 1).isEmpty)) H) (tVar 0) (tC (.str z))) Q [none] H1 := by
  refine comp_str (fun i ys σ H => ∃ v : Option V, ys = ((y.cps.toList.take i).map fun c => decide (c ∈ z.cps.toList)).map V.bl ∧ σ = [v] ∧ Same H1 H) ?_ ?_ ?_ ?_ ?_
  · exact ⟨none, rfl, rfl, sm_new hD⟩
  · show y.length ≤ 100000
    omega
  · rintro i ys σ H ⟨v, rfl, _⟩
    rw [List.length_map, List.length_map, List.length_take]; exact Nat.min_le_left _ _
  · rintro i c ys σ H hc hl2 ⟨v, rfl, rfl, x⟩
    have hm : y.cps.toList[i]? = some c := by rw [Array.getElem?_toList]; exact hc
    refine ⟨_, rfl, _, _, rfl, rfl, hl2, _, ?_, rfl, x.at hD⟩
    rw [StrLaws.found_one, take_snoc hm, List.map_append, List.map_append]; rfl
  · rintro ys σ H hl2 ⟨v, rfl, _, x⟩
    have e : y.cps.toList.take y.cps.size = y.cps.toList := List.take_of_length_le (by rw [Array.length_toList]; exact Nat.le_refl _)
    rw [e] at hl2
    exact hdn H x hl2
theorem all_of_map (z y : Str) : (y.cps.toList.map fun c => decide (c ∈ z.cps.toList)).all id = allIn z y := by
  rw [List.all_map]; rfl
def spIsName : Sp := fun vs H Q _ => ∃ y, vs = [.str y] ∧ y.length ≤ 1000000 ∧ ∀ H', Same H H' → Q (.bl (nmB y)) H'
theorem sc_is_name : FnScope ["word"] ["word"] (defScope s_is_name) := ⟨rfl, rfl, rfl, by decide +kernel, rfl, by decide +kernel, by decide +kernel⟩
theorem ok_is_name (F : Fun K "is_name" "is_name" s_is_name f fd) (B : Bt mg) : FnOk P w K mg base CX0 (k + 1) f fd ["word"] spIsName := by
  refine F.ok sc_is_name (fun vs H Q E h => ?_) (fun cdv A outer s H vs Q E hr h => ?_)
  · obtain ⟨y, rfl, _⟩ := h
    rfl
  obtain ⟨y, rfl, hy, q⟩ := h
  have nd := sc_is_name.nd
  obtain ⟨t1, hLN⟩ := B.lng
  obtain ⟨t2, hSM⟩ := B.sml
  have hz := lineM hy
  have q0 := q H (Same.refl _)
  refine ⟨_, (pss_cons (ps_if (PW.pt (pw_or (pt_not (pt_val (pe_callB call_isi2 rfl B.isinstance_ boot_isinstance (pa_cons (pv 0) (pa_cons (pe_bltn (v := .ty "str") (u := .type "str") rfl B.str_ (by decide +kernel) rfl) pa_nil))) (fun _ => rfl))) (pw_or1 (pt_not (pt_chain op_le op_le pe_int (pe_callB call_len_str rfl B.len_ PySem.boot_len (pa_cons (pv 0) pa_nil)) (pe_glob (v := .int 8) rfl hLN ⟨_, rfl⟩)))))) (pss_one (ps_ret pe_bl)) pss_nil)
    (pss_one (ps_ret (pe_callB (call_allB rfl) rfl B.all_ (by decide +kernel) (pa_cons (pe_comp (g := (gName 0)) (tc := tYes) (te := (tOp (fun x y H Q => ∃ i j, x = .str i ∧ y = .str j ∧ Q (.bl (!(Builtin.Str.occurrences j i 0 j.length 1).isEmpty)) H) (tVar 0) (tC (.str abc)))) (own := ["sign"]) (fr := ([] : List Str)) (idx := []) rfl (by show CompScope _ _ _ (defScope s_is_name); exact ⟨rfl, by decide +kernel, by decide +kernel, by decide +kernel, by decide +kernel, by decide +kernel, by decide +kernel⟩) (pi_str (pv 0)) (fun _ _ _ _ _ => (pg_name (i := 0) (by show List.Nodup (["sign"] : List Str); decide +kernel) rfl (Or.inl rfl) (Or.inr rfl))) (fun _ _ _ _ _ => pts_nil) (fun _ _ _ _ _ => (pe_cmpR op_in_str (pv 0) (pe_glob (v := .str abc) rfl hSM ⟨_, rfl⟩) rfl)) rfl (hat_of rfl)) pa_nil))))), ?_⟩
  try dsimp only [cxOf, Cx.nox, Cx.wish]
  refine lats2 ?_
  intro D0 σ0 U2
  refine ⟨_, rfl, _, _, .type "str", _, true, rfl, .str y, rfl, fun _ h => h, kit_ss K, _, rfl, ?_⟩
  refine iteF ?_
  refine ⟨_, rfl, _, rfl, hz, _, _, rfl, rfl, _, rfl, ?_⟩
  by_cases h1 : 1 ≤ y.length
  · rw [decide_eq_true (show (1 : Int) ≤ (y.length : Nat) by omega)]
    refine iteT ?_
    refine ⟨_, _, rfl, rfl, _, rfl, ?_⟩
    by_cases h8 : y.length ≤ 8
    · rw [decide_eq_true (show ((y.length : Nat) : Int) ≤ 8 by omega)]
      refine iteF ?_
      refine ⟨_, rfl, y, rfl, fun D hD => signs_in (by omega) hD fun H2 x2 hD2 => ⟨D, _, rfl, SqL.of hD2, ?_⟩⟩
      rw [all_of_map]
      have := q H2 x2
      unfold nmB at this
      rw [decide_eq_true h1, decide_eq_true h8] at this
      exact this
    · rw [decide_eq_false (show ¬ ((y.length : Nat) : Int) ≤ 8 by omega)]
      refine iteT ?_
      unfold nmB at q0
      rw [decide_eq_false h8, Bool.and_false, Bool.false_and] at q0
      exact q0
  · rw [decide_eq_false (show ¬ (1 : Int) ≤ (y.length : Nat) by omega)]
    refine iteF ?_
    refine ⟨false, rfl, iteT ?_⟩
    unfold nmB at q0
    rw [decide_eq_false h1, Bool.false_and, Bool.false_and] at q0
    exact q0
def spWords (K : PySem.W.Frag) : Sp := fun vs H Q _ => ∃ ws : List Str, vs = [.str (rowW ws)] ∧ ws ≠ [] ∧ (∀ y ∈ ws, 32 ∉ y.cps.toList) ∧ (rowW ws).length ≤ 900000 ∧ (("" : Str) ∈ ws → ∀ H', Same H H' → Q .non H') ∧ (("" : Str) ∉ ws → ∀ l H', H l = none → Same H H' → H' l = some (.lst (ws.map V.str)) → Q (.ref l) H')
theorem sc_words_of : FnScope ["row", "words"] ["row"] (defScope s_words_of) := ⟨rfl, rfl, rfl, by decide +kernel, rfl, by decide +kernel, by decide +kernel⟩
theorem ok_words_of (F : Fun K "words_of" "words_of" s_words_of f fd) (B : Bt mg) : FnOk P w K mg base CX0 (k + 1) f fd ["row"] (spWords K) := by
  refine F.ok sc_words_of (fun vs H Q E h => ?_) (fun cdv A outer s H vs Q E hr h => ?_)
  · obtain ⟨ws, rfl, _⟩ := h
    rfl
  obtain ⟨ws, rfl, hne, hb, hl, q1, q2⟩ := h
  have nd := sc_words_of.nd
  have ht := wd_tot hne
  have htl := tot_len ws
  refine ⟨_, (pss_cons (ps_set (i := 1) nd rfl (Or.inl rfl) (pe_bm PySem.F.plainAttrs_str PySem.F.slot_str_split PySem.F.type_str_split mt_split (pv 0) (pa_cons pe_str pa_nil)))
    (pss_cons (ps_if (pt_cmpR op_in_seq pe_str (pv 1) rfl) (pss_one (ps_ret pe_non)) pss_nil)
    (pss_one (ps_ret (pv 1))))), ?_⟩
  try dsimp only [cxOf, Cx.nox, Cx.wish]
  refine lats3 ?_
  intro D0 σ0 U3 U2
  refine ⟨_, rfl, rfl, _, _, rfl, rfl, rfl, lineM (by omega), by rw [split_row hne hb]; exact lineM (by omega), fun l hl => ?_⟩
  rw [split_row hne hb]
  refine ⟨_, rfl, l, _, rfl, .inl (SqL.of upd_same), rfl, flat_strs ws, _, rfl, ?_⟩
  by_cases hin : ("" : Str) ∈ ws
  · rw [show (if false = true then !inV (.str "") (ws.map V.str) else inV (.str "") (ws.map V.str)) = true from inV_mem.mpr hin]
    refine iteT ?_
    exact q1 hin _ (sm_new hl)
  · rw [show (if false = true then !inV (.str "") (ws.map V.str) else inV (.str "") (ws.map V.str)) = false from inV_nmem.mpr hin]
    refine iteF ?_
    exact ⟨_, rfl, q2 hin l _ hl (sm_new hl) upd_same⟩
def spNum : Sp := fun vs H Q _ => ∃ y, vs = [.str y, .int 3] ∧ y.length ≤ 1000000 ∧ ∀ H', Same H H' → Q (if numB y = true then .int (numV y) else .non) H'
theorem sc_num : FnScope ["word", "most"] ["word", "most"] (defScope s_number_in) := ⟨rfl, rfl, rfl, by decide +kernel, rfl, by decide +kernel, by decide +kernel⟩
theorem zero_one {c : Nat} : (⟨#[c]⟩ : Str) = "0" ↔ c = 48 := by
  have z4 : ("0" : Str).cps.toList = [48] := by decide +kernel
  constructor
  · intro z
    have z3 : (⟨#[c]⟩ : Str).cps.toList = ("0" : Str).cps.toList := congrArg (fun y : Str => y.cps.toList) z
    rw [z4] at z3
    exact (List.cons.inj z3).1
  · intro z
    subst z
    exact str_ext z4.symm
theorem ok_num (F : Fun K "number_in" "number_in" s_number_in f fd) (B : Bt mg) : FnOk P w K mg base CX0 (k + 1) f fd ["word", "most"] spNum := by
  refine F.ok sc_num (fun vs H Q E h => ?_) (fun cdv A outer s H vs Q E hr h => ?_)
  · obtain ⟨y, rfl, _⟩ := h
    rfl
  obtain ⟨y, rfl, hy, q⟩ := h
  have nd := sc_num.nd
  obtain ⟨t1, hFG⟩ := B.fig
  have hz := lineM hy
  have no : numB y = false → ∀ H', Same H H' → Q .non H' := fun e H' x => by
    have := q H' x
    rw [e] at this
    exact this
  refine ⟨_, (pss_cons (ps_if (pt_not (pt_chain op_le op_le pe_int (pe_callB call_len_str rfl B.len_ PySem.boot_len (pa_cons (pv 0) pa_nil)) (pv 1))) (pss_one (ps_ret pe_non)) pss_nil)
    (pss_cons (ps_if (pt_not (pt_val (pe_callB (call_allB rfl) rfl B.all_ (by decide +kernel) (pa_cons (pe_comp (g := (gName 0)) (tc := tYes) (te := (tOp (fun x y H Q => ∃ i j, x = .str i ∧ y = .str j ∧ Q (.bl (!(Builtin.Str.occurrences j i 0 j.length 1).isEmpty)) H) (tVar 0) (tC (.str figs)))) (own := ["sign"]) (fr := ([] : List Str)) (idx := []) rfl (by show CompScope _ _ _ (defScope s_number_in); exact ⟨rfl, by decide +kernel, by decide +kernel, by decide +kernel, by decide +kernel, by decide +kernel, by decide +kernel⟩) (pi_str (pv 0)) (fun _ _ _ _ _ => (pg_name (i := 0) (by show List.Nodup (["sign"] : List Str); decide +kernel) rfl (Or.inl rfl) (Or.inr rfl))) (fun _ _ _ _ _ => pts_nil) (fun _ _ _ _ _ => (pe_cmpR op_in_str (pv 0) (pe_glob (v := .str figs) rfl hFG ⟨_, rfl⟩) rfl)) rfl (hat_of rfl)) pa_nil)) (fun _ => rfl))) (pss_one (ps_ret pe_non)) pss_nil)
    (pss_cons (ps_if (PW.pt (pw_and (pt_cmpR op_eq (pe_ix ix_str (pv 0) pe_int (fun _ _ => rfl)) pe_str (nomark _)) (pw_and1 (pt_cmpR op_ne (pv 0) pe_str (nomark _))))) (pss_one (ps_ret pe_non)) pss_nil)
    (pss_one (ps_ret (pe_callTy call_intT rfl B.int_ (by decide +kernel) (pa_cons (pv 0) pa_nil))))))), ?_⟩
  try dsimp only [cxOf, Cx.nox, Cx.wish]
  refine lats4 ?_
  intro D0 σ0 U4 U3 U2
  refine ⟨_, rfl, _, rfl, hz, _, _, rfl, rfl, _, rfl, ?_⟩
  by_cases h1 : 1 ≤ y.length
  · rw [decide_eq_true (show (1 : Int) ≤ (y.length : Nat) by omega)]
    refine iteT ?_
    refine ⟨_, rfl, _, _, rfl, rfl, _, rfl, ?_⟩
    by_cases h3 : y.length ≤ 3
    · rw [decide_eq_true (show ((y.length : Nat) : Int) ≤ 3 by omega)]
      refine iteF ?_
      refine ⟨_, rfl, y, rfl, fun D hD => signs_in (by omega) hD fun H2 x2 hD2 => ⟨D, _, rfl, SqL.of hD2, _, rfl, ?_⟩⟩
      rw [all_of_map]
      cases hf : allIn figs y with
      | false =>
        refine iteT ?_
        refine no ?_ H2 x2
        unfold allIn at hf
        unfold numB
        rw [hf, Bool.and_false, Bool.false_and]
      | true =>
        refine iteF ?_
        have hf' : ∀ c ∈ y.cps.toList, c ∈ figs.cps.toList := fun c hc => of_decide_eq_true (List.all_eq_true.mp hf c hc)
        obtain ⟨hv, _, _⟩ := num_val h1 h3 hf'
        have nb : numB y = (decide (y = "0") || !decide (y.cps.toList.head? = some 48)) := by
          unfold allIn at hf
          unfold numB
          rw [hf, decide_eq_true h1, decide_eq_true h3]; rfl
        obtain ⟨c, hc⟩ : ∃ c, y.cps.toList[0]? = some c := ⟨_, List.getElem?_eq_getElem (show 0 < y.cps.toList.length by rw [Array.length_toList]; exact h1)⟩
        have hh : y.cps.toList.head? = some c := by rw [List.head?_eq_getElem?, hc]
        have fin : numB y = true → U4 D0 σ0 H2 := fun e => ⟨_, rfl, y, numV y, rfl, by omega, hv, by have := q H2 x2; rw [e] at this; exact this⟩
        refine ⟨_, rfl, y, 0, c, rfl, rfl, hz, atI_nat hc, rfl, _, rfl, ?_⟩
        by_cases e0 : c = 48
        · rw [decide_eq_true (congrArg V.str (zero_one.mpr e0))]
          refine iteT ?_
          refine ⟨_, rfl, rfl, _, rfl, ?_⟩
          by_cases ey : y = "0"
          · rw [decide_eq_true (congrArg V.str ey)]
            exact iteF (fin (by rw [nb, decide_eq_true ey]; rfl))
          · rw [decide_eq_false (fun z => ey (V.str.inj z))]
            exact iteT (no (by rw [nb, decide_eq_false ey, hh, e0, decide_eq_true rfl]; rfl) H2 x2)
        · rw [decide_eq_false (fun z => e0 (zero_one.mp (V.str.inj z)))]
          refine iteF ?_
          exact fin (by rw [nb, hh, decide_eq_false (fun z => e0 (Option.some.inj z)), Bool.not_false, Bool.or_true])
    · rw [decide_eq_false (show ¬ ((y.length : Nat) : Int) ≤ 3 by omega)]
      refine iteT ?_
      refine no ?_ H (Same.refl _)
      unfold numB
      rw [decide_eq_false h3, Bool.and_false, Bool.false_and, Bool.false_and]
  · rw [decide_eq_false (show ¬ (1 : Int) ≤ (y.length : Nat) by omega)]
    refine iteF ?_
    refine ⟨false, rfl, iteT ?_⟩
    refine no ?_ H (Same.refl _)
    unfold numB
    rw [decide_eq_false h1, Bool.false_and, Bool.false_and, Bool.false_and]
/-! ### the law's own -/
theorem signs_out {D : Addr} {Q : VK} {H1 : Hp} {z y : Str} (h8 : y.length ≤ 100000) (hD : H1 D = none) (hdn : ∀ H' zs, Same H1 H' → zs.isEmpty = allIn z y → H' D = some (.lst zs) → Q (.ref D) H') :
    CompLoop (Its y) D (gName 0) (tTest (tOp (fun x y H Q => ∃ i j, x = .str i ∧ y = .str j ∧ Q (.bl (!(!(Builtin.Str.occurrences j i 0 j.length 1).isEmpty))) H) (tVar 0) (tVar 1))) (tVar 0) Q [none, some (.str z)] H1 := by
  refine comp_str (fun i ys σ H => ∃ v : Option V, ys.isEmpty = ((y.cps.toList.take i).all fun c => decide (c ∈ z.cps.toList)) ∧ ys.length ≤ i ∧ σ = [v, some (.str z)] ∧ Same H1 H) ?_ ?_ ?_ ?_ ?_
  · exact ⟨none, rfl, Nat.le_refl _, rfl, sm_new hD⟩
  · show y.length ≤ 100000
    omega
  · rintro i ys σ H ⟨v, _, h, _⟩
    exact h
  · rintro i c ys σ H hc hl2 ⟨v, he, hle, rfl, x⟩
    have hm : y.cps.toList[i]? = some c := by rw [Array.getElem?_toList]; exact hc
    refine ⟨_, rfl, _, rfl, _, _, rfl, rfl, _, rfl, ?_⟩
    rw [StrLaws.found_one]
    by_cases hin : c ∈ z.cps.toList
    · rw [decide_eq_true hin]
      refine iteF ?_
      refine ⟨hl2, _, ?_, by omega, rfl, x⟩
      rw [he, take_snoc hm, List.all_append, List.all_cons, List.all_nil, decide_eq_true hin, Bool.and_true, Bool.and_true]
    · rw [decide_eq_false hin]
      refine iteT ?_
      refine ⟨_, rfl, hl2, _, ?_, by rw [List.length_append]; simp only [List.length_cons, List.length_nil]; omega, rfl, x.at hD⟩
      rw [take_snoc hm, List.all_append, List.all_cons, List.all_nil, decide_eq_false hin, Bool.false_and, Bool.and_false]
      cases ys <;> rfl
  · rintro ys σ H hl2 ⟨v, he, _, _, x⟩
    have e : y.cps.toList.take y.cps.size = y.cps.toList := List.take_of_length_le (by rw [Array.length_toList]; exact Nat.le_refl _)
    rw [e] at he
    exact hdn H ys x he hl2
def spAllOf : Sp := fun vs H Q _ => ∃ y z, vs = [.str y, .str z] ∧ y.length ≤ 100000 ∧ ∀ H', Same H H' → Q (.bl (allIn z y)) H'
theorem sc_all_of : FnScope ["_law_word", "_law_signs_here"] ["_law_word", "_law_signs_here"] (defScope s_law_all_of) := ⟨rfl, rfl, rfl, by decide +kernel, rfl, by decide +kernel, by decide +kernel⟩
theorem ok_all_of (F : Fun K "_law_all_of" "_law_all_of" s_law_all_of f fd) (B : Bt mg) : FnOk P w K mg base CX0 (k + 1) f fd ["_law_word", "_law_signs_here"] spAllOf := by
  refine F.ok sc_all_of (fun vs H Q E h => ?_) (fun cdv A outer s H vs Q E hr h => ?_)
  · obtain ⟨y, z, rfl, _⟩ := h
    rfl
  obtain ⟨y, z, rfl, hy, q⟩ := h
  have nd := sc_all_of.nd
  refine ⟨_, (pss_one (ps_ret (pe_cmpR (op_eqLE (hu0_of hr)) (pe_comp (g := (gName 0)) (tc := (tTest (tOp (fun x y H Q => ∃ i j, x = .str i ∧ y = .str j ∧ Q (.bl (!(!(Builtin.Str.occurrences j i 0 j.length 1).isEmpty))) H) (tVar 0) (tVar 1)))) (te := (tVar 0)) (own := ["_law_sign"]) (fr := ["_law_signs_here"]) (idx := [1]) rfl (by show CompScope _ _ _ (defScope s_law_all_of); exact ⟨rfl, by decide +kernel, by decide +kernel, by decide +kernel, by decide +kernel, by decide +kernel, by decide +kernel⟩) (pi_str (pv 0)) (fun _ _ _ _ _ => (pg_name (i := 0) (by show List.Nodup (["_law_sign", "_law_signs_here"] : List Str); decide +kernel) rfl (Or.inl rfl) (Or.inr rfl))) (fun _ _ _ _ _ => pts_one (pt_cmpR op_notIn_str (pv 0) (pv 1) rfl)) (fun _ _ _ _ _ => (pv 0)) rfl (hat_of rfl)) (pe_lst pa_nil) (nomark _)))), ?_⟩
  try dsimp only [cxOf, Cx.nox, Cx.wish]
  refine ⟨_, rfl, y, rfl, fun D hD => signs_out hy hD fun H2 zs x2 e hD2 => ⟨tiny (show 0 ≤ 1000 by decide), fun p hp => ?_⟩⟩
  refine ⟨D, p, zs, rfl, rfl, SqL.of ((sm_new hp) _ _ hD2), SqL.of upd_same, ?_⟩
  rw [e]
  exact q _ (x2.trans (sm_new hp))
def spIsName2 : Sp := fun vs H Q _ => ∃ y, vs = [.str y] ∧ y.length ≤ 100000 ∧ ∀ H', Same H H' → Q (.bl (nmB y)) H'
theorem sc_isn2 : FnScope ["_law_word"] ["_law_word"] (defScope s_law_is_name) := ⟨rfl, rfl, rfl, by decide +kernel, rfl, by decide +kernel, by decide +kernel⟩
theorem ok_isn2 (F : Fun K "_law_is_name" "_law_is_name" s_law_is_name f fd) (B : Bt mg) (G__law_all_of : Fn P w K mg base k "_law_all_of" ["_law_word", "_law_signs_here"] spAllOf g gd) : FnOk P w K mg base CX0 (k + 1) f fd ["_law_word"] spIsName2 := by
  refine F.ok sc_isn2 (fun vs H Q E h => ?_) (fun cdv A outer s H vs Q E hr h => ?_)
  · obtain ⟨y, rfl, _⟩ := h
    rfl
  obtain ⟨y, rfl, hy, q⟩ := h
  have nd := sc_isn2.nd
  have q0 := q H (Same.refl _)
  refine ⟨_, (pss_one (ps_ret (pe_and (pe_chain op_lt op_lt pe_int (pe_callB call_len_str rfl B.len_ PySem.boot_len (pa_cons (pv 0) pa_nil)) pe_int) (pe_one (pe_call G__law_all_of.ok hr rfl G__law_all_of.at_ G__law_all_of.kp G__law_all_of.bn .nil pass0 (pa_cons (pv 0) (pa_cons pe_str pa_nil))))))), ?_⟩
  try dsimp only [cxOf, Cx.nox, Cx.wish]
  refine ⟨_, rfl, _, rfl, lineM (by omega), _, _, rfl, rfl, _, rfl, ?_⟩
  by_cases h1 : 1 ≤ y.length
  · rw [decide_eq_true (show (0 : Int) < (y.length : Nat) by omega)]
    refine iteT ?_
    refine ⟨_, _, rfl, rfl, _, rfl, ?_⟩
    by_cases h8 : y.length ≤ 8
    · rw [decide_eq_true (show ((y.length : Nat) : Int) < 9 by omega)]
      refine iteT ?_
      refine ⟨_, rfl, y, abc, rfl, hy, fun H2 x2 => ?_⟩
      have := q H2 x2
      unfold nmB at this
      rw [decide_eq_true h1, decide_eq_true h8] at this
      exact this
    · rw [decide_eq_false (show ¬ ((y.length : Nat) : Int) < 9 by omega)]
      refine iteF ?_
      unfold nmB at q0
      rw [decide_eq_false h8, Bool.and_false, Bool.false_and] at q0
      exact q0
  · rw [decide_eq_false (show ¬ (0 : Int) < (y.length : Nat) by omega)]
    refine iteF ?_
    refine ⟨false, rfl, iteF ?_⟩
    unfold nmB at q0
    rw [decide_eq_false h1, Bool.false_and, Bool.false_and] at q0
    exact q0
def spIsNum2 : Sp := fun vs H Q _ => ∃ y, vs = [.str y] ∧ y.length ≤ 100000 ∧ ∀ H', Same H H' → Q (.bl (numB y)) H'
theorem sc_isu2 : FnScope ["_law_word"] ["_law_word"] (defScope s_law_is_number) := ⟨rfl, rfl, rfl, by decide +kernel, rfl, by decide +kernel, by decide +kernel⟩
theorem ok_isu2 (F : Fun K "_law_is_number" "_law_is_number" s_law_is_number f fd) (B : Bt mg) (G__law_all_of : Fn P w K mg base k "_law_all_of" ["_law_word", "_law_signs_here"] spAllOf g gd) : FnOk P w K mg base CX0 (k + 1) f fd ["_law_word"] spIsNum2 := by
  refine F.ok sc_isu2 (fun vs H Q E h => ?_) (fun cdv A outer s H vs Q E hr h => ?_)
  · obtain ⟨y, rfl, _⟩ := h
    rfl
  obtain ⟨y, rfl, hy, q⟩ := h
  have nd := sc_isu2.nd
  have q0 := q H (Same.refl _)
  refine ⟨_, (pss_one (ps_ret (pe_and (pe_chain op_lt op_lt pe_int (pe_callB call_len_str rfl B.len_ PySem.boot_len (pa_cons (pv 0) pa_nil)) pe_int) (pe_and (pe_call G__law_all_of.ok hr rfl G__law_all_of.at_ G__law_all_of.kp G__law_all_of.bn .nil pass0 (pa_cons (pv 0) (pa_cons pe_str pa_nil))) (pe_one (pe_or (pe_cmpR op_eq (pv 0) pe_str (nomark _)) (pe_one (pe_cmpR op_ne (pe_ix ix_str (pv 0) pe_int (fun _ _ => rfl)) pe_str (nomark _))))))))), ?_⟩
  try dsimp only [cxOf, Cx.nox, Cx.wish]
  refine ⟨_, rfl, _, rfl, lineM (by omega), _, _, rfl, rfl, _, rfl, ?_⟩
  by_cases h1 : 1 ≤ y.length
  · rw [decide_eq_true (show (0 : Int) < (y.length : Nat) by omega)]
    refine iteT ?_
    refine ⟨_, _, rfl, rfl, _, rfl, ?_⟩
    by_cases h3 : y.length ≤ 3
    · rw [decide_eq_true (show ((y.length : Nat) : Int) < 4 by omega)]
      refine iteT ?_
      refine ⟨_, rfl, y, figs, rfl, hy, fun H2 x2 => ⟨_, rfl, ?_⟩⟩
      have q2 := q H2 x2
      cases hf : allIn figs y with
      | false =>
        refine iteF ?_
        unfold allIn at hf
        unfold numB at q2
        rw [hf, Bool.and_false, Bool.false_and] at q2
        exact q2
      | true =>
        refine iteT ?_
        have nb : numB y = (decide (y = "0") || !decide (y.cps.toList.head? = some 48)) := by
          unfold allIn at hf
          unfold numB
          rw [hf, decide_eq_true h1, decide_eq_true h3]; rfl
        rw [nb] at q2
        obtain ⟨c, hc⟩ : ∃ c, y.cps.toList[0]? = some c := ⟨_, List.getElem?_eq_getElem (show 0 < y.cps.toList.length by rw [Array.length_toList]; exact h1)⟩
        have hh : y.cps.toList.head? = some c := by rw [List.head?_eq_getElem?, hc]
        refine ⟨_, rfl, rfl, _, rfl, ?_⟩
        by_cases ey : y = "0"
        · rw [decide_eq_true (congrArg V.str ey)]
          refine iteT ?_
          rw [decide_eq_true ey, Bool.true_or] at q2
          exact q2
        · rw [decide_eq_false (fun z => ey (V.str.inj z))]
          refine iteF ?_
          refine ⟨_, rfl, y, 0, c, rfl, rfl, lineM (by omega), atI_nat hc, rfl, ?_⟩
          rw [decide_eq_false ey, Bool.false_or, hh] at q2
          have e : decide (V.str ⟨#[c]⟩ = V.str "0") = decide (some c = some 48) := by
            by_cases e0 : c = 48
            · rw [decide_eq_true (congrArg V.str (zero_one.mpr e0)), decide_eq_true (congrArg some e0)]
            · rw [decide_eq_false (fun z => e0 (zero_one.mp (V.str.inj z))), decide_eq_false (fun z => e0 (Option.some.inj z))]
          rw [e]
          exact q2
    · rw [decide_eq_false (show ¬ ((y.length : Nat) : Int) < 4 by omega)]
      refine iteF ?_
      unfold numB at q0
      rw [decide_eq_false h3, Bool.and_false, Bool.false_and, Bool.false_and] at q0
      exact q0
  · rw [decide_eq_false (show ¬ (0 : Int) < (y.length : Nat) by omega)]
    refine iteF ?_
    refine ⟨false, rfl, iteF ?_⟩
    unfold numB at q0
    rw [decide_eq_false h1, Bool.false_and, Bool.false_and, Bool.false_and] at q0
    exact q0
end
end KK
namespace KK
open PySem L2 PyProof.Rows KKM
section
variable {P : Program} {w : World} {K : PySem.W.Frag} {mg : Str → Option Value} {base : Heap} {f g g2 g3 : Addr} {fd gd gd2 gd3 : FuncData} {k : Nat} {C : Addr}
theorem all_by {sp : Sp} {p : Str → Bool} (hsp : ∀ (y : Str) (H : Hp) (Q : VK), y.length ≤ 90000 → (∀ H', Same H H' → Q (.bl (p y)) H') → sp [.str y] H Q E0) {D l : Addr} {Q : VK} {H1 : Hp} {ys : List Str} (hN : ∀ y ∈ ys, y.length ≤ 90000) (h8 : ys.length ≤ 90001) (hD : H1 D = none) (hl : SqL K H1 l (ys.map V.str)) (hdn : ∀ H', Same H1 H' → H' D = some (.lst ((ys.map p).map V.bl)) → Q (.ref D) H') :
    CompLoop (Itl K l) D (gName 0) tYes (tCall sp [] E0 (tCons (tVar 0) tNil)) Q [none] H1 := by
  refine comp_list (xs := ys.map V.str) (fun i zs σ H => ∃ v : Option V, zs = ((ys.take i).map p).map V.bl ∧ σ = [v] ∧ Same H1 H) ?_ (by rw [List.length_map]; omega) ?_ ?_ ?_ ?_
  · exact ⟨none, rfl, rfl, sm_new hD⟩
  · rintro i zs σ H ⟨v, rfl, _⟩
    rw [List.length_map, List.length_map, List.length_take]; exact Nat.min_le_left _ _
  · rintro i zs σ H ⟨v, _, _, x⟩
    exact x.seq hl
  · rintro i y zs σ H hy hl2 ⟨v, rfl, rfl, x⟩
    rw [List.getElem?_map] at hy
    obtain ⟨z, hz, rfl⟩ := Option.map_eq_some_iff.mp hy
    refine ⟨_, rfl, hsp z _ _ (hN z (List.mem_of_getElem? hz)) fun H2 x2 => ⟨x2 _ _ hl2, _, ?_, rfl, (x.trans x2).at hD⟩⟩
    rw [take_snoc hz, List.map_append, List.map_append]; rfl
  · rintro zs σ H hl2 ⟨v, rfl, _, x⟩
    rw [List.length_map, List.take_length] at hl2
    exact hdn H x hl2
theorem all_mapB (p : Str → Bool) (ys : List Str) : (ys.map p).all id = ys.all p := by rw [List.all_map]; rfl
theorem by_isn (y : Str) (H : Hp) (Q : VK) (h : y.length ≤ 90000) (q : ∀ H', Same H H' → Q (.bl (nmB y)) H') : spIsName [.str y] H Q E0 := ⟨y, rfl, by omega, q⟩
theorem by_isn2 (y : Str) (H : Hp) (Q : VK) (h : y.length ≤ 90000) (q : ∀ H', Same H H' → Q (.bl (nmB y)) H') : spIsName2 [.str y] H Q E0 := ⟨y, rfl, by omega, q⟩
theorem by_isu2 (y : Str) (H : Hp) (Q : VK) (h : y.length ≤ 90000) (q : ∀ H', Same H H' → Q (.bl (numB y)) H') : spIsNum2 [.str y] H Q E0 := ⟨y, rfl, by omega, q⟩
theorem cut_1 (x : V) (xs : List V) : cutV (x :: xs) (some 1) none = xs := by
  unfold cutV
  rw [HT.sIx_none, show (1 : Int) = ((1 : Nat) : Int) from rfl, HT.sIx_nat]
  rw [List.length_cons, Nat.min_eq_left (Nat.succ_le_succ (Nat.zero_le _))]
  exact List.take_of_length_le (Nat.le_refl _)
theorem nm_letters : nmB "letters" = true := by decide +kernel
theorem nm_empty : nmB "" = false := by decide +kernel
theorem num_empty : numB "" = false := by decide +kernel
def lettersW : List Str → Option (List Str)
  | [] => none
  | w0 :: ls => if (decide (w0 = "letters") && !ls.isEmpty && ls.all nmB) = true then some ls else none
theorem lettersW_cons (w0 : Str) (ls : List Str) : lettersW (w0 :: ls) = if (decide (w0 = "letters") && !ls.isEmpty && ls.all nmB) = true then some ls else none := rfl
theorem letters_empty {ws : List Str} (h : ("" : Str) ∈ ws) : lettersW ws = none := by
  cases ws with
  | nil => rfl
  | cons w0 ls =>
    rw [lettersW_cons]
    rw [if_neg]
    intro z
    simp only [Bool.and_eq_true, decide_eq_true_iff, List.all_eq_true] at z
    rcases List.mem_cons.mp h with h | h
    · rw [← h] at z
      exact absurd z.1.1 (by decide +kernel)
    · have := z.2 _ h
      rw [nm_empty] at this
      cases this
structure RowOk (ws : List Str) : Prop where
  ne : ws ≠ []
  nb : ∀ y ∈ ws, 32 ∉ y.cps.toList
  len : (rowW ws).length ≤ 80000
theorem RowOk.wl {ws : List Str} (h : RowOk ws) : ∀ y ∈ ws, y.length ≤ 90000 := fun y hy => by
  have a := wd_tot h.ne
  have b := tot_mem hy
  have c := h.len
  omega
theorem RowOk.cnt {ws : List Str} (h : RowOk ws) : ws.length ≤ 80001 := by
  have a := wd_tot h.ne
  have b := tot_len ws
  have c := h.len
  omega
def spLettersIn (K : PySem.W.Frag) : Sp := fun vs H Q _ => ∃ ws : List Str, vs = [.str (rowW ws)] ∧ RowOk ws ∧ (lettersW ws = none → ∀ H', Same H H' → Q .non H') ∧ (∀ ls, lettersW ws = some ls → ∀ l H', H l = none → Same H H' → H' l = some (.lst (ls.map V.str)) → Q (.ref l) H')
theorem sc_letin : FnScope ["row", "words"] ["row"] (defScope s_letters_in) := ⟨rfl, rfl, rfl, by decide +kernel, rfl, by decide +kernel, by decide +kernel⟩
theorem ok_letin (F : Fun K "letters_in" "letters_in" s_letters_in f fd) (B : Bt mg) (G_words_of : Fn P w K mg base k "words_of" ["row"] (spWords K) g gd) (G_is_name : Fn P w K mg base k "is_name" ["word"] spIsName g2 gd2) : FnOk P w K mg base CX0 (k + 1) f fd ["row"] (spLettersIn K) := by
  refine F.ok sc_letin (fun vs H Q E h => ?_) (fun cdv A outer s H vs Q E hr h => ?_)
  · obtain ⟨ws, rfl, _⟩ := h
    rfl
  obtain ⟨ws, rfl, R, q1, q2⟩ := h
  have nd := sc_letin.nd
  have hrl := R.len
  refine ⟨_, (pss_cons (ps_set (i := 1) nd rfl (Or.inl rfl) (pe_call G_words_of.ok hr rfl G_words_of.at_ G_words_of.kp G_words_of.bn .nil pass0 (pa_cons (pv 0) pa_nil)))
    (pss_cons (ps_if (PW.pt (pw_or (pt_cmpR op_isN (pv 1) pe_non (nomark _)) (pw_or (pt_cmpR op_ne (pe_ix ix_list (pv 1) pe_int (fun _ _ => rfl)) pe_str (nomark _)) (pw_or1 (pt_cmpR op_lt (pe_callB call_len_seq rfl B.len_ PySem.boot_len (pa_cons (pv 1) pa_nil)) pe_int (nomark _)))))) (pss_one (ps_ret pe_non)) pss_nil)
    (pss_cons (ps_if (pt_not (pt_val (pe_callB (call_allB rfl) rfl B.all_ (by decide +kernel) (pa_cons (pe_comp (g := (gName 0)) (tc := tYes) (te := (tCall spIsName [] E0 (tCons (tVar 0) tNil))) (own := ["word"]) (fr := ([] : List Str)) (idx := []) rfl (by show CompScope _ _ _ (defScope s_letters_in); exact ⟨rfl, by decide +kernel, by decide +kernel, by decide +kernel, by decide +kernel, by decide +kernel, by decide +kernel⟩) (pi_list (pv 1)) (fun _ _ _ _ _ => (pg_name (i := 0) (by show List.Nodup (["word"] : List Str); decide +kernel) rfl (Or.inl rfl) (Or.inr rfl))) (fun _ _ _ _ _ => pts_nil) (fun _ _ _ _ _ => (pe_call G_is_name.ok hr rfl G_is_name.at_ G_is_name.kp G_is_name.bn .nil pass0 (pa_cons (pv 0) pa_nil))) rfl (hat_of rfl)) pa_nil)) (fun _ => rfl))) (pss_one (ps_ret pe_non)) pss_nil)
    (pss_one (ps_ret (pe_slice sl_list (pv 1) (po_some pe_int) po_none)))))), ?_⟩
  try dsimp only [cxOf, Cx.nox, Cx.wish]
  refine lats4 ?_
  intro D0 σ0 U4 U3 U2
  refine ⟨_, rfl, ws, rfl, R.ne, R.nb, by omega, fun he H1 x1 => ?_, fun hne l H1 hl x1 h1 => ?_⟩
  · refine ⟨_, rfl, rfl, true, congrArg V.bl (decide_eq_true rfl), ?_⟩
    exact iteT (q1 (letters_empty he) H1 x1)
  refine ⟨_, rfl, rfl, false, congrArg V.bl (decide_eq_false fun z => nomatch z), ?_⟩
  refine iteF ?_
  obtain ⟨w0, ls, rfl⟩ := List.exists_cons_of_ne_nil R.ne
  refine ⟨_, rfl, l, _, 0, .str w0, rfl, rfl, SqL.of h1, atI_nat (j := 0) rfl, rfl, _, rfl, ?_⟩
  by_cases hw : w0 = "letters"
  · rw [decide_eq_true (congrArg V.str hw)]
    refine iteF ?_
    refine ⟨_, rfl, l, _, rfl, .inl (SqL.of h1), _, _, rfl, rfl, _, rfl, ?_⟩
    by_cases hls : ls = []
    · rw [decide_eq_true (show (((w0 :: ls).map V.str).length : Int) < 2 by rw [hls]; show (1 : Int) < 2; decide)]
      refine iteT ?_
      refine q1 ?_ H1 x1
      subst hls
      rw [lettersW_cons]
      rw [List.isEmpty_nil, Bool.not_true, Bool.and_false, Bool.false_and]; rfl
    · have hpos := List.length_pos_iff.mpr hls
      rw [decide_eq_false (by rw [List.length_map, List.length_cons]; omega)]
      refine iteF ?_
      refine ⟨_, rfl, l, rfl, ⟨_, SqL.of h1⟩, fun D hD => all_by (K := K) by_isn R.wl (by have := R.cnt; omega) hD (SqL.of h1) fun H2 x2 hD2 => ⟨D, _, rfl, SqL.of hD2, _, rfl, ?_⟩⟩
      rw [all_mapB]
      have hall : (w0 :: ls).all nmB = ls.all nmB := by rw [List.all_cons, hw, nm_letters, Bool.true_and]
      rw [hall]
      have hlw : lettersW (w0 :: ls) = if ls.all nmB = true then some ls else none := by
        rw [lettersW_cons]
        rw [decide_eq_true hw, show ls.isEmpty = false from List.isEmpty_eq_false_iff.mpr hls]; rfl
      have x12 := x1.trans x2
      cases ha : ls.all nmB with
      | false =>
        refine iteT ?_
        exact q1 (by rw [hlw, ha]; rfl) H2 x12
      | true =>
        refine iteF ?_
        refine ⟨_, rfl, 1, rfl, l, _, rfl, SqL.of (x2 _ _ h1), fun p hp => ?_⟩
        rw [show cutV ((w0 :: ls).map V.str) (some 1) none = ls.map V.str from cut_1 _ _]
        exact q2 ls (by rw [hlw, ha]; rfl) p _ (x12.free hp) (x12.trans (sm_new hp)) upd_same
  · rw [decide_eq_false (fun z => hw (V.str.inj z))]
    refine iteT ?_
    refine q1 ?_ H1 x1
    rw [lettersW_cons]
    rw [decide_eq_false hw]
    rfl
def stepsW (many : Nat) : List Str → Option (List Int)
  | [] => none
  | w0 :: us => if ((decide (w0 = "good") || decide (w0 = "plain")) && decide (us.length = many) && us.all numB) = true then some (us.map numV) else none
theorem stepsW_cons (many : Nat) (w0 : Str) (us : List Str) : stepsW many (w0 :: us) = if ((decide (w0 = "good") || decide (w0 = "plain")) && decide (us.length = many) && us.all numB) = true then some (us.map numV) else none := rfl
theorem steps_empty {many : Nat} {ws : List Str} (h : ("" : Str) ∈ ws) : stepsW many ws = none := by
  cases ws with
  | nil => rfl
  | cons w0 us =>
    rw [stepsW_cons]
    rw [if_neg]
    intro z
    simp only [Bool.and_eq_true, Bool.or_eq_true, decide_eq_true_iff, List.all_eq_true] at z
    rcases List.mem_cons.mp h with h | h
    · rw [← h] at z
      exact absurd z.1.1 (by decide +kernel)
    · have := z.2 _ h
      rw [num_empty] at this
      cases this
def numO (u : Str) : V := if numB u = true then .int (numV u) else .non
theorem nums_by {D l : Addr} {Q : VK} {H1 : Hp} {ys : List Str} (hN : ∀ y ∈ ys, y.length ≤ 90000) (h8 : ys.length ≤ 90001) (hD : H1 D = none) (hl : SqL K H1 l (ys.map V.str)) (hdn : ∀ H', Same H1 H' → H' D = some (.lst (ys.map numO)) → Q (.ref D) H') :
    CompLoop (Itl K l) D (gName 0) tYes (tCall spNum [] E0 (tCons (tVar 0) (tCons (tC (.int 3)) tNil))) Q [none] H1 := by
  refine comp_list (xs := ys.map V.str) (fun i zs σ H => ∃ v : Option V, zs = (ys.take i).map numO ∧ σ = [v] ∧ Same H1 H) ?_ (by rw [List.length_map]; omega) ?_ ?_ ?_ ?_
  · exact ⟨none, rfl, rfl, sm_new hD⟩
  · rintro i zs σ H ⟨v, rfl, _⟩
    rw [List.length_map, List.length_take]; exact Nat.min_le_left _ _
  · rintro i zs σ H ⟨v, _, _, x⟩
    exact x.seq hl
  · rintro i y zs σ H hy hl2 ⟨v, rfl, rfl, x⟩
    rw [List.getElem?_map] at hy
    obtain ⟨z, hz, rfl⟩ := Option.map_eq_some_iff.mp hy
    refine ⟨_, rfl, z, rfl, Nat.le_trans (hN z (List.mem_of_getElem? hz)) (by decide), fun H2 x2 => ⟨x2 _ _ hl2, _, ?_, rfl, (x.trans x2).at hD⟩⟩
    rw [take_snoc hz, List.map_append]; rfl
  · rintro zs σ H hl2 ⟨v, rfl, _, x⟩
    rw [List.length_map, List.take_length] at hl2
    exact hdn H x hl2
theorem numO_flat (us : List Str) : (us.map numO).all flatV = true := by
  rw [List.all_eq_true]
  intro x hx
  obtain ⟨y, _, rfl⟩ := List.mem_map.mp hx
  unfold numO
  split <;> rfl
theorem numO_non (us : List Str) : inV .non (us.map numO) = !us.all numB := by
  induction us with
  | nil => rfl
  | cons u us ih =>
    have e : inV .non ((u :: us).map numO) = (eqV (numO u) .non || inV .non (us.map numO)) := rfl
    rw [e, ih, List.all_cons]
    unfold numO
    cases numB u with
    | true => rfl
    | false => rfl
theorem numO_ints {us : List Str} (h : us.all numB = true) : us.map numO = (us.map numV).map V.int := by
  rw [List.map_map]
  refine List.map_congr_left fun u hu => ?_
  unfold numO
  rw [List.all_eq_true.mp h u hu]; rfl
def spStepsIn (K : PySem.W.Frag) : Sp := fun vs H Q _ => ∃ (ws : List Str) (many : Nat), vs = [.str (rowW ws), .int (many : Nat)] ∧ RowOk ws ∧ (stepsW many ws = none → ∀ H', Same H H' → Q .non H') ∧ (∀ xs, stepsW many ws = some xs → ∀ l H', H l = none → Same H H' → H' l = some (.lst (xs.map V.int)) → Q (.ref l) H')
theorem sc_stin : FnScope ["row", "many", "words", "steps"] ["row", "many"] (defScope s_steps_in) := ⟨rfl, rfl, rfl, by decide +kernel, rfl, by decide +kernel, by decide +kernel⟩
theorem ok_stin (F : Fun K "steps_in" "steps_in" s_steps_in f fd) (B : Bt mg) (G_words_of : Fn P w K mg base k "words_of" ["row"] (spWords K) g gd) (G_number_in : Fn P w K mg base k "number_in" ["word", "most"] spNum g2 gd2) : FnOk P w K mg base CX0 (k + 1) f fd ["row", "many"] (spStepsIn K) := by
  refine F.ok sc_stin (fun vs H Q E h => ?_) (fun cdv A outer s H vs Q E hr h => ?_)
  · obtain ⟨ws, many, rfl, _⟩ := h
    rfl
  obtain ⟨ws, many, rfl, R, q1, q2⟩ := h
  have nd := sc_stin.nd
  have hrl := R.len
  obtain ⟨t1, hMF⟩ := B.mst
  refine ⟨_, (pss_cons (ps_set (i := 2) nd rfl (Or.inl rfl) (pe_call G_words_of.ok hr rfl G_words_of.at_ G_words_of.kp G_words_of.bn .nil pass0 (pa_cons (pv 0) pa_nil)))
    (pss_cons (ps_if (PW.pt (pw_or (pt_cmpR op_isN (pv 2) pe_non (nomark _)) (pw_or1 (pt_cmpR op_notIn_seq (pe_ix ix_list (pv 2) pe_int (fun _ _ => rfl)) (pe_tup (pa_cons pe_str (pa_cons pe_str pa_nil))) rfl)))) (pss_one (ps_ret pe_non)) pss_nil)
    (pss_cons (ps_setC (i := 3) nd rfl (Or.inl rfl) (g := (gName 0)) (tc := tYes) (te := (tCall spNum [] E0 (tCons (tVar 0) (tCons (tC (.int 3)) tNil)))) (own := ["word"]) (fr := ([] : List Str)) (idx := []) rfl (by show CompScope _ _ _ (defScope s_steps_in); exact ⟨rfl, by decide +kernel, by decide +kernel, by decide +kernel, by decide +kernel, by decide +kernel, by decide +kernel⟩) (pi_list (pe_slice sl_list (pv 2) (po_some pe_int) po_none)) (fun _ _ _ _ _ => (pg_name (i := 0) (by show List.Nodup (["word"] : List Str); decide +kernel) rfl (Or.inl rfl) (Or.inr rfl))) (fun _ _ _ _ _ => pts_nil) (fun _ _ _ _ _ => (pe_call G_number_in.ok hr rfl G_number_in.at_ G_number_in.kp G_number_in.bn .nil pass0 (pa_cons (pv 0) (pa_cons (pe_glob (v := .int 3) rfl hMF ⟨_, rfl⟩) pa_nil)))) rfl (hat_of rfl))
    (pss_cons (ps_if (PW.pt (pw_or (pt_cmpR op_ne (pe_callB call_len_seq rfl B.len_ PySem.boot_len (pa_cons (pv 3) pa_nil)) (pv 1) (nomark _)) (pw_or1 (pt_cmpR op_in_seq pe_non (pv 3) rfl)))) (pss_one (ps_ret pe_non)) pss_nil)
    (pss_one (ps_ret (pv 3))))))), ?_⟩
  try dsimp only [cxOf, Cx.nox, Cx.wish]
  refine lats5 ?_
  intro D0 σ0 U5 U4 U3 U2
  refine ⟨_, rfl, ws, rfl, R.ne, R.nb, by omega, fun he H1 x1 => ?_, fun hne l H1 hl x1 h1 => ?_⟩
  · refine ⟨_, rfl, rfl, true, congrArg V.bl (decide_eq_true rfl), ?_⟩
    exact iteT (q1 (steps_empty he) H1 x1)
  refine ⟨_, rfl, rfl, false, congrArg V.bl (decide_eq_false fun z => nomatch z), ?_⟩
  refine iteF ?_
  obtain ⟨w0, us, rfl⟩ := List.exists_cons_of_ne_nil R.ne
  refine ⟨_, rfl, l, _, 0, .str w0, rfl, rfl, SqL.of h1, atI_nat (j := 0) rfl, tiny (show 2 ≤ 1000 by decide), fun pt hpt => ?_⟩
  have x2 := sm_new (o := .tup [V.str "good", V.str "plain"]) hpt
  have k2 : upd H1 pt (.tup [V.str "good", V.str "plain"]) pt = some (.tup [V.str "good", V.str "plain"]) := upd_same
  generalize upd H1 pt (.tup [V.str "good", V.str "plain"]) = H2 at x2 k2 ⊢
  refine ⟨pt, _, rfl, .inr (SqT.of k2), rfl, by decide, _, rfl, ?_⟩
  rw [show [V.str "good", V.str "plain"] = [("good" : Str), "plain"].map V.str from rfl]
  have hor : inV (.str w0) ([("good" : Str), "plain"].map V.str) = (decide (w0 = "good") || decide (w0 = "plain")) := by
    rw [Bool.eq_iff_iff, inV_mem, Bool.or_eq_true, decide_eq_true_iff, decide_eq_true_iff]
    simp
  rw [hor]
  cases hgp : (decide (w0 = "good") || decide (w0 = "plain")) with
  | false =>
    refine iteT ?_
    refine q1 ?_ H2 (x1.trans x2)
    rw [stepsW_cons]
    rw [hgp]
    rfl
  | true =>
    refine iteF ?_
    refine ⟨_, rfl, 1, rfl, l, _, rfl, SqL.of (x2 _ _ h1), fun p3 hp3 => ?_⟩
    rw [show cutV ((w0 :: us).map V.str) (some 1) none = us.map V.str from cut_1 _ _]
    have x3 := sm_new (o := .lst (us.map V.str)) hp3
    have k3 : upd H2 p3 (.lst (us.map V.str)) p3 = some (.lst (us.map V.str)) := upd_same
    generalize upd H2 p3 (.lst (us.map V.str)) = H3 at x3 k3 ⊢
    have x13 := (x1.trans x2).trans x3
    have hcn := R.cnt
    rw [List.length_cons] at hcn
    refine ⟨p3, rfl, ⟨_, SqL.of k3⟩, fun D hD => nums_by (K := K) (fun y hy => R.wl y (List.mem_cons_of_mem _ hy)) (by omega) hD (SqL.of k3) fun H4 x4 h4 => ?_⟩
    have x14 := x13.trans x4
    have hsw : stepsW many (w0 :: us) = if (decide (us.length = many) && us.all numB) = true then some (us.map numV) else none := by
      rw [stepsW_cons]
      rw [hgp, Bool.true_and]
    refine ⟨_, rfl, D, _, rfl, .inl (SqL.of h4), _, rfl, rfl, _, rfl, ?_⟩
    rw [List.length_map]
    by_cases hm : us.length = many
    · rw [decide_eq_true (by rw [hm] : V.int (us.length : Nat) = V.int (many : Nat))]
      refine iteF ?_
      refine ⟨_, rfl, D, _, rfl, .inl (SqL.of h4), rfl, numO_flat us, _, rfl, ?_⟩
      rw [show (if false = true then !inV .non (us.map numO) else inV .non (us.map numO)) = !us.all numB from numO_non us]
      cases ha : us.all numB with
      | false =>
        refine iteT ?_
        exact q1 (by rw [hsw, ha, Bool.and_false]; rfl) H4 x14
      | true =>
        refine iteF ?_
        rw [numO_ints ha] at h4
        exact ⟨_, rfl, q2 _ (by rw [hsw, ha, decide_eq_true hm]; rfl) D H4 (x13.free hD) x14 h4⟩
    · rw [decide_eq_false (fun z => hm (by have := V.int.inj z; omega) : ¬ V.int (us.length : Nat) = V.int (many : Nat))]
      refine iteT ?_
      exact q1 (by rw [hsw, decide_eq_false hm]; rfl) H4 x14
end
end KK
namespace KK
open PySem L2 PyProof.Rows KKM
/-- a first word and the others behind it -/
theorem join_first {w v : Str} {ys : List Str} (hv : v.cps.toList = w.cps.toList ++ [32]) (hne : ys ≠ []) : v ++ Txt.join " " ys = Txt.join " " (w :: ys) := by
  rw [sp_blank]
  refine str_ext ?_
  rw [join_toL]
  obtain ⟨y, r, rfl⟩ := List.exists_cons_of_ne_nil hne
  show _ = w.cps.toList ++ 32 :: TX.jl 32 (y :: r)
  rw [← join_toL 32 (y :: r), show (v ++ Txt.join ⟨#[32]⟩ (y :: r)).cps.toList = v.cps.toList ++ (Txt.join ⟨#[32]⟩ (y :: r)).cps.toList from Array.toList_append .., hv, List.append_assoc]
  rfl
theorem good_first {ls : List Str} (h : ls ≠ []) : "good " ++ Txt.join " " ls = Txt.join " " ("good" :: ls) := join_first (by decide +kernel) h
theorem plain_first {ls : List Str} (h : ls ≠ []) : "plain " ++ Txt.join " " ls = Txt.join " " ("plain" :: ls) := join_first (by decide +kernel) h
theorem starts_app (v t : Str) : (0 + v.length ≤ (v ++ t).length && Builtin.Str.subAt (v ++ t) v 0) = true := by
  have e1 : (v ++ t).length = v.length + t.length := Array.size_append ..
  have e2 : (v ++ t).cps.extract 0 (0 + v.length) = v.cps := by
    have e3 : (v ++ t).cps = v.cps ++ t.cps := rfl
    rw [e3, Nat.zero_add]
    refine Array.toList_inj.mp ?_
    rw [Array.toList_extract, Array.toList_append]
    simp [Str.length]
  unfold Builtin.Str.subAt
  rw [e2, e1]
  simp
theorem starts_good {ls : List Str} (h : ls ≠ []) : (0 + ("good " : Str).length ≤ (Txt.join " " ("good" :: ls)).length && Builtin.Str.subAt (Txt.join " " ("good" :: ls)) "good " 0) = true := by
  rw [← good_first h]
  exact starts_app _ _
/-- a row that begins otherwise -/
theorem starts_plain {ls : List Str} (h : ls ≠ []) : (0 + ("good " : Str).length ≤ (Txt.join " " ("plain" :: ls)).length && Builtin.Str.subAt (Txt.join " " ("plain" :: ls)) "good " 0) = false := by
  rw [← plain_first h, Bool.and_eq_false_iff]
  right
  unfold Builtin.Str.subAt
  rw [beq_eq_false_iff_ne]
  intro z
  have z1 := congrArg (fun a : Array Nat => a[0]?) z
  have g0 : ("good " : Str).cps[0]? = some 103 := by decide +kernel
  have p0 : ("plain " : Str).cps[0]? = some 112 := by decide +kernel
  have e3 : ("plain " ++ Txt.join " " ls : Str).cps = ("plain " : Str).cps ++ (Txt.join " " ls).cps := rfl
  have l6 : ("plain " : Str).cps.size = 6 := by decide +kernel
  have l5 : ("good " : Str).length = 5 := by decide +kernel
  rw [g0, e3, l5, Array.getElem?_extract, Array.getElem?_append_left (by omega), p0] at z1
  simp at z1
theorem for_enum2 {K : PySem.W.Frag} {a : Addr} {xs : List V} {g : TG} {tb : TS} {D : Ends} {σ : L2.St} {H : Hp} (Pv : Nat → L2.St → Hp → Prop) (h0 : Pv 0 σ H) (hl : ∀ i σ H, i ≤ xs.length → Pv i σ H → SqL K H a xs)
    (hs : ∀ i x σ H T, xs[i]? = some x → H T = none → Pv i σ H → g (.ref T) σ (upd H T (.tup [.int (i + 2), x])) fun σ2 H2 => tb { D with nx := Pv (i + 1), ct := Pv (i + 1), bk := D.nx } σ2 H2) (hd : ∀ σ H, Pv xs.length σ H → D.nx σ H) :
    ∃ W : Nat → Nat → L2.St → Hp → Prop, (∃ m, W 0 m σ H) ∧ ∀ i m σ H, W i m σ H →
      ((Ite2 K a).stop i H ∧ D.nx σ H) ∨ ((Ite2 K a).go i H ∧ ∃ N : L2.St → Hp → Prop, (∀ σ' H', N σ' H' → ∃ m', m' < m ∧ W (i + 1) m' σ' H') ∧ ∀ x H', (Ite2 K a).yld i H x H' → g x σ H' fun σ2 H2 => tb { D with nx := N, ct := N, bk := D.nx } σ2 H2) := by
  refine ⟨fun i m σ H => m = xs.length - i ∧ i ≤ xs.length ∧ Pv i σ H, ⟨xs.length, by simp, Nat.zero_le _, h0⟩, ?_⟩
  rintro i m σ H ⟨rfl, hi, p⟩
  have q := hl i σ H hi p
  by_cases hlt : i < xs.length
  · refine .inr ⟨⟨xs, xs[i], q, by simp [hlt]⟩, Pv (i + 1), fun σ' H' p' => ⟨xs.length - (i + 1), by omega, rfl, hlt, p'⟩, fun x H' y => ?_⟩
    obtain ⟨T, hT, rfl, y⟩ := y
    obtain ⟨x', hx, rfl⟩ := y xs q
    exact hs i x' σ H T hx hT p
  · have e : i = xs.length := by omega
    subst e
    exact .inl ⟨⟨xs, q, Nat.le_refl _⟩, hd σ H p⟩
section
variable {P : Program} {w : World} {K : PySem.W.Frag} {mg : Str → Option Value} {base : Heap} {f g g2 g3 g4 : Addr} {fd gd gd2 gd3 gd4 : FuncData} {k : Nat} {C CT CB CG CN M ft : Addr} {ftd : FuncData}
structure MakeM (P : Program) (w : World) (K : PySem.W.Frag) (mg : Str → Option Value) (base : Heap) (k : Nat) (C CT CB CG : Addr) (g : Addr) (gd : FuncData) : Prop where
  mak : Mk K C g
  mo : MoC K C
  ok : FnOk P w K mg base (CXE P w) k g gd ["self", "letters", "table", "good"] (spInit C CT CB CG)
  bn : Binds K gd ["self", "letters", "table", "good"] []
  at_ : mg "Machine" = some (.ref C)
theorem ris_same {gd a b : List Int} (h : Ris gd a) (h' : Ris gd b) : a = b := by
  have p : a.Perm b := (List.perm_ext_iff_of_nodup h.nd h'.nd).mpr fun x => (h.mem x).trans (h'.mem x).symm
  exact p.eq_of_pairwise (le := fun a b => a ≤ b) (fun x y _ _ h1 h2 => Int.le_antisymm h1 h2) h.up h'.up
theorem ris_up {gd : List Int} (h : gd.Pairwise (· < ·)) : Ris gd gd := ⟨h.imp fun {a b} z => Int.le_of_lt z, h.imp fun {a b} z => Int.ne_of_lt z, fun _ => Iff.rfl⟩
/-! ### what is read -/
def gdP (b : Nat → Bool) (i : Nat) : List Int := ((List.range i).filter b).map fun j : Nat => (j : Int)
theorem gd_snoc (b : Nat → Bool) (i : Nat) : gdP b (i + 1) = if b i = true then gdP b i ++ [(i : Int)] else gdP b i := by
  unfold gdP
  rw [List.range_succ, filter_snoc]
  split
  · rw [List.map_append]; rfl
  · rfl
theorem gd_in {b : Nat → Bool} {i : Nat} : ∀ x ∈ gdP b i, 0 ≤ x ∧ x < i := fun x hx => by
  obtain ⟨j, hj, rfl⟩ := List.mem_map.mp hx
  have := List.mem_range.mp (List.mem_filter.mp hj).1
  omega
theorem gd_up (b : Nat → Bool) (i : Nat) : (gdP b i).Pairwise (· < ·) := by
  unfold gdP
  refine List.pairwise_map.mpr (List.Pairwise.imp (fun {a b} h => Int.ofNat_lt.mpr h) (List.Pairwise.filter _ List.pairwise_lt_range))
theorem gd_len (b : Nat → Bool) (i : Nat) : (gdP b i).length ≤ i := by
  unfold gdP
  rw [List.length_map]
  exact Nat.le_trans (List.length_filter_le ..) (by rw [List.length_range]; exact Nat.le_refl _)
def goodW : List Str → Bool
  | [] => false
  | w0 :: _ => decide (w0 = "good")
def goodAt (rows : List (List Str)) (j : Nat) : Bool := ((rows[j]?).map goodW).getD false
theorem good_at {rows : List (List Str)} {j : Nat} {ws : List Str} (h : rows[j]? = some ws) : goodAt rows j = goodW ws := by unfold goodAt; rw [h]; rfl
def gdW (rows : List (List Str)) : List Int := gdP (goodAt rows) rows.length
def firstBad (many : Nat) : Nat → List (List Str) → Option Nat
  | _, [] => none
  | i, ws :: r => match stepsW many ws with
    | none => some i
    | some _ => firstBad many (i + 1) r
theorem bad_step {many : Nat} {rows : List (List Str)} {i : Nat} {ws : List Str} (h : rows[i]? = some ws) : firstBad many i (rows.drop i) = match stepsW many ws with
    | none => some i
    | some _ => firstBad many (i + 1) (rows.drop (i + 1)) := by
  obtain ⟨hi, e⟩ := List.getElem?_eq_some_iff.mp h
  rw [List.drop_eq_getElem_cons hi, e]
  rfl
def tbW (many : Nat) (rows : List (List Str)) : List (List Int) := rows.map fun ws => (stepsW many ws).getD []
theorem steps_inv {many : Nat} {ws : List Str} {xs : List Int} (h : stepsW many ws = some xs) : ∃ w0 us, ws = w0 :: us ∧ (w0 = "good" ∨ w0 = "plain") ∧ us.length = many ∧ us.all numB = true ∧ xs = us.map numV := by
  cases ws with
  | nil => cases h
  | cons w0 us =>
    rw [stepsW_cons] at h
    split at h
    · rename_i z
      simp only [Bool.and_eq_true, Bool.or_eq_true, decide_eq_true_iff] at z
      exact ⟨w0, us, rfl, z.1.1, z.1.2, z.2, (Option.some.inj h).symm⟩
    · cases h
theorem letters_inv {ws ls : List Str} (h : lettersW ws = some ls) : ws = ("letters" : Str) :: ls ∧ ls ≠ [] ∧ ∀ z ∈ ls, Nm z := by
  cases ws with
  | nil => cases h
  | cons w0 us =>
    rw [lettersW_cons] at h
    split at h
    · rename_i z
      cases h
      simp only [Bool.and_eq_true, decide_eq_true_iff, List.all_eq_true] at z
      exact ⟨by rw [z.1.1], fun e => by rw [e] at z; exact absurd z.1.2 (by decide), fun y hy => nm_iff.mp (z.2 y hy)⟩
    · cases h
theorem starts_row {many : Nat} {ws : List Str} {xs : List Int} (h : stepsW many ws = some xs) (h1 : 1 ≤ many) : (0 + ("good " : Str).length ≤ (rowW ws).length && Builtin.Str.subAt (rowW ws) "good " 0) = goodW ws := by
  obtain ⟨w0, us, rfl, hw, hl, _⟩ := steps_inv h
  have hne : us ≠ [] := fun e => by rw [e] at hl; rw [← hl] at h1; exact absurd h1 (by decide)
  rcases hw with rfl | rfl
  · exact starts_good hne
  · exact (starts_plain hne).trans (show goodW (("plain" : Str) :: us) = false from decide_eq_false (show ¬ ("plain" : Str) = "good" by decide +kernel)).symm
def rdX (CN CT CB CG : Addr) : List (List Str) → Option (Addr × List (Str × V))
  | [] => none
  | w0 :: rows => match lettersW w0 with
    | none => some (CN, [("line", .int 1)])
    | some ls => match firstBad ls.length 0 rows with
      | some i => some (CN, [("line", .int ((i : Int) + 2))])
      | none => if rows.isEmpty = true then some (CN, [("line", .int 2)]) else dueX CT CB CG ls (tbW ls.length rows) (gdW rows)
structure TxtOk (wss : List (List Str)) : Prop where
  w : WOk wss
  len : (textW wss).length ≤ 80000
  few : wss.length ≤ 40
  l7 : ∀ ws rows, wss = ws :: rows → ws.length ≤ 7
theorem TxtOk.row {wss : List (List Str)} (T : TxtOk wss) {ws : List Str} (h : ws ∈ wss) : RowOk ws := ⟨T.w.rne ws h, T.w.nb ws h, Nat.le_trans (row_len T.w h) T.len⟩
def spRead (C CN CT CB CG : Addr) : Sp := fun vs H Q E => ∃ (ws : List Str) (rows : List (List Str)), vs = [.str (textW (ws :: rows))] ∧ TxtOk (ws :: rows) ∧
  (∀ ls, lettersW ws = some ls → firstBad ls.length 0 rows = none → rows.isEmpty = false → dueX CT CB CG ls (tbW ls.length rows) (gdW rows) = none → ∀ x H', MoAt C H' x ls (tbW ls.length rows) (gdW rows) → Same H H' → Q (.ref x) H') ∧ ∀ c fs, rdX CN CT CB CG (ws :: rows) = some (c, fs) → Refuses H E c fs
theorem sc_read : FnScope ["text", "rows", "letters", "table", "good", "line", "row", "steps"] ["text"] (defScope s_read_machine) := ⟨rfl, rfl, rfl, by decide +kernel, rfl, by decide +kernel, by decide +kernel⟩
theorem ok_read (F : Fun K "read_machine" "read_machine" s_read_machine f fd) (B : Bt mg) (xt : XM1 P w K mg base k "NoText" "line" CN M ft ftd) (G_letters_in : Fn P w K mg base (k + 1) "letters_in" ["row"] (spLettersIn K) g gd) (G_steps_in : Fn P w K mg base (k + 1) "steps_in" ["row", "many"] (spStepsIn K) g2 gd2) (M_Machine : MakeM P w K mg base k C CT CB CG g3 gd3) :
    FnOk P w K mg base (CXE P w) (k + 2) f fd ["text"] (spRead C CN CT CB CG) := by
  refine F.okX sc_read (fun vs H Q E h => ?_) (fun cdv A outer s H vs Q E hr h => ?_)
  · obtain ⟨ws, rows, rfl, _⟩ := h
    rfl
  obtain ⟨ws, rows, rfl, T, q, qe⟩ := h
  have nd := sc_read.nd
  have hpass := pass_any (P := P) (w := w) (K := K) (mg := mg) (base := base) (N := ["text", "rows", "letters", "table", "good", "line", "row", "steps"]) (qual := "read_machine") (scope := defScope s_read_machine) (f := f) (cd := cdv) (A := A) (outer := outer) (s0 := s) (H0 := H) (E := E) (G := fun c fs => rdX CN CT CB CG (ws :: rows) = some (c, fs)) (fun a H' c fs e na sm fl => qe c fs e a H' na sm fl)
  have tlen := T.len
  have tfew := T.few
  rw [List.length_cons] at tfew
  have hs := line_200
  refine ⟨_, (pss_cons (ps_set (i := 1) nd rfl (Or.inl rfl) (pe_bm PySem.F.plainAttrs_str PySem.F.slot_str_split PySem.F.type_str_split mt_split (pv 0) (pa_cons pe_str pa_nil)))
    (pss_cons (ps_set (i := 2) nd rfl (Or.inl rfl) (pe_call G_letters_in.ok hr rfl G_letters_in.at_ G_letters_in.kp G_letters_in.bn .nil pass0 (pa_cons (pe_ix ix_list (pv 1) pe_int (fun _ _ => rfl)) pa_nil)))
    (pss_cons (ps_if (pt_cmpR op_isN (pv 2) pe_non (nomark _)) (pss_one (ps_raise xt.xc rfl (pe_makeX xt.xc xt.hin xt.hfn xt.ok hr rfl xt.at_ xt.bn (pa_cons pe_int pa_nil)) raise_new)) pss_nil)
    (pss_cons (ps_set (i := 3) nd rfl (Or.inl rfl) (pe_lst pa_nil))
    (pss_cons (ps_set (i := 4) nd rfl (Or.inl rfl) (pe_lst pa_nil))
    (pss_cons (ps_for PassesOwn.leaving rfl (pi_enum2 rfl B.enumerate_ (pa_cons (pe_slice sl_list (pv 1) (po_some pe_int) po_none) pa_nil)) (pg_tup rfl (pgs_cons (pg_name (i := 5) nd rfl (Or.inl rfl)) (pgs_cons (pg_name (i := 6) nd rfl (Or.inl rfl)) pgs_nil))) (pss_cons (ps_set (i := 7) nd rfl (Or.inl rfl) (pe_call G_steps_in.ok hr rfl G_steps_in.at_ G_steps_in.kp G_steps_in.bn .nil pass0 (pa_cons (pv 6) (pa_cons (pe_callB call_len_seq rfl B.len_ PySem.boot_len (pa_cons (pv 2) pa_nil)) pa_nil))))
    (pss_cons (ps_if (pt_cmpR op_isN (pv 7) pe_non (nomark _)) (pss_one (ps_raise xt.xc rfl (pe_makeX xt.xc xt.hin xt.hfn xt.ok hr rfl xt.at_ xt.bn (pa_cons (pv 5) pa_nil)) raise_new)) pss_nil)
    (pss_cons (ps_if (pt_val (pe_bm PySem.F.plainAttrs_str PySem.F.slot_str_startswith PySem.F.type_str_startswith mt_starts (pv 6) (pa_cons pe_str pa_nil)) (fun _ => rfl)) (pss_one (ps_expr (pe_bm PySem.F.plainAttrs_list PySem.F.slot_list_append PySem.F.type_list_append mt_append (pv 4) (pa_cons (pe_callB call_len_seq rfl B.len_ PySem.boot_len (pa_cons (pv 3) pa_nil)) pa_nil)))) pss_nil)
    (pss_one (ps_expr (pe_bm PySem.F.plainAttrs_list PySem.F.slot_list_append PySem.F.type_list_append mt_append (pv 3) (pa_cons (pv 7) pa_nil))))))))
    (pss_cons (ps_if (pt_not (pt_truth (pv 3) (fun _ => rfl))) (pss_one (ps_raise xt.xc rfl (pe_makeX xt.xc xt.hin xt.hfn xt.ok hr rfl xt.at_ xt.bn (pa_cons (pe_op op_add (pe_callB call_len_seq rfl B.len_ PySem.boot_len (pa_cons (pv 1) pa_nil)) pe_int) pa_nil)) raise_new)) pss_nil)
    (pss_one (ps_ret (pe_make M_Machine.mak M_Machine.ok hr rfl M_Machine.at_ M_Machine.bn .nil hpass (pa_cons (pv 2) (pa_cons (pv 3) (pa_cons (pv 4) pa_nil))))))))))))), ?_⟩
  try dsimp only [cxOf, Cx.nox, Cx.wish]
  refine lats8 ?_
  intro D0 σ0 U8 U7 U6 U5 U4 U3 U2
  refine ⟨_, rfl, rfl, _, _, rfl, rfl, rfl, lineM (by omega), by rw [split_text T.w, List.length_map, List.length_cons]; exact lineM (by omega), fun l hl => ?_⟩
  rw [split_text T.w, show (ws :: rows).map rowW = rowW ws :: rows.map rowW from rfl]
  have x1 := sm_new (o := .lst ((rowW ws :: rows.map rowW).map V.str)) hl
  have k1 : upd H l (.lst ((rowW ws :: rows.map rowW).map V.str)) l = some (.lst ((rowW ws :: rows.map rowW).map V.str)) := upd_same
  generalize upd H l (.lst ((rowW ws :: rows.map rowW).map V.str)) = H1 at x1 k1 ⊢
  refine ⟨_, rfl, l, _, 0, .str (rowW ws), rfl, rfl, SqL.of k1, atI_nat (j := 0) rfl, ws, rfl, T.row (List.mem_cons_self ..), fun hno H2 x2 => ?_, fun ls hls ll H2 fll x2 k2 => ?_⟩
  · refine ⟨_, rfl, rfl, true, congrArg V.bl (decide_eq_true rfl), ?_⟩
    refine iteT ?_
    exact ⟨by simp, raised (x1.trans x2) (qe CN _ (by simp only [rdX, hno]))⟩
  obtain ⟨e0, hlne, hnm⟩ := letters_inv hls
  have l1 : 1 ≤ ls.length := List.length_pos_iff.mpr hlne
  have l6 : ls.length ≤ 6 := by
    have := T.l7 ws rows rfl
    rw [e0, List.length_cons] at this
    omega
  have hrd : rdX CN CT CB CG (ws :: rows) = match firstBad ls.length 0 rows with
      | some i => some (CN, [("line", .int ((i : Int) + 2))])
      | none => if rows.isEmpty = true then some (CN, [("line", .int 2)]) else dueX CT CB CG ls (tbW ls.length rows) (gdW rows) := by simp only [rdX, hls]
  refine ⟨_, rfl, rfl, false, congrArg V.bl (decide_eq_false fun z => nomatch z), ?_⟩
  refine iteF ?_
  refine ⟨tiny (show 0 ≤ 1000 by decide), fun tA htA => ?_⟩
  have x3 := sm_new (o := .lst []) htA
  have k3 : upd H2 tA (.lst []) tA = some (.lst []) := upd_same
  generalize upd H2 tA (.lst []) = H3 at x3 k3 ⊢
  refine ⟨tiny (show 0 ≤ 1000 by decide), fun gA hgA => ?_⟩
  have x4 := sm_new (o := .lst []) hgA
  have k4 : upd H3 gA (.lst []) gA = some (.lst []) := upd_same
  have ntg : tA ≠ gA := ne_of_none k3 hgA
  generalize upd H3 gA (.lst []) = H4 at x4 k4 ⊢
  have y4 := (x2.trans x3).trans x4
  refine ⟨_, rfl, 1, rfl, l, _, rfl, SqL.of (y4 _ _ k1), fun pR hpR => ?_⟩
  rw [show cutV ((rowW ws :: rows.map rowW).map V.str) (some 1) none = (rows.map rowW).map V.str from cut_1 _ _]
  have x5 := sm_new (o := .lst ((rows.map rowW).map V.str)) hpR
  have k5 : upd H4 pR (.lst ((rows.map rowW).map V.str)) pR = some (.lst ((rows.map rowW).map V.str)) := upd_same
  have npt : tA ≠ pR := ne_of_none (x4 _ _ k3) hpR
  have npg : gA ≠ pR := ne_of_none k4 hpR
  generalize upd H4 pR (.lst ((rows.map rowW).map V.str)) = H5 at x5 k5 ⊢
  have x02 := x1.trans x2
  have h0t : H tA = none := x02.free htA
  have h0g : H gA = none := (x02.trans x3).free hgA
  have ntl : ll ≠ tA := ne_of_none k2 htA
  have ngl : ll ≠ gA := ne_of_none (x3 _ _ k2) hgA
  have nlt : l ≠ tA := ne_of_none (x2 _ _ k1) htA
  have nlg : l ≠ gA := ne_of_none (x3 _ _ (x2 _ _ k1)) hgA
  have x45 := x4.trans x5
  have k1' := x5 _ _ (y4 _ _ k1)
  refine ⟨pR, rfl, ⟨_, SqL.of k5⟩, for_enum2 (xs := (rows.map rowW).map V.str) (fun i σ H' => ∃ (v5 v6 v7 : Option V) (rs : List Addr), σ = [some (.str (textW (ws :: rows))), some (.ref l), some (.ref ll), some (.ref tA), some (.ref gA), v5, v6, v7] ∧ H' tA = some (.lst (rs.map V.ref)) ∧ H' gA = some (.lst ((gdP (goodAt rows) i).map V.int)) ∧ Paired (RowI H') rs (tbW ls.length (rows.take i)) ∧ firstBad ls.length i (rows.drop i) = firstBad ls.length 0 rows ∧ (∀ r ∈ tbW ls.length (rows.take i), r.length = ls.length) ∧ tA ∉ rs ∧ gA ∉ rs ∧ H' ll = some (.lst (ls.map V.str)) ∧ H' pR = some (.lst ((rows.map rowW).map V.str)) ∧ H' l = some (.lst ((rowW ws :: rows.map rowW).map V.str)) ∧ Same H H') ?_ ?_ ?_ ?_⟩
  · exact ⟨none, none, none, [], rfl, x45 _ _ k3, x5 _ _ k4, .nil, rfl, (by intro _ z; cases z), (by intro z; cases z), (by intro z; cases z), x45 _ _ (x3 _ _ k2), k5, k1', (x02.trans x3).trans x45⟩
  · rintro i σ H6 _ ⟨v5, v6, v7, rs, _, _, _, _, _, _, _, _, _, h1, _⟩
    exact SqL.of h1
  · rintro i y σ H0 T0 hy hT0 ⟨v5, v6, v7, rs, rfl, g1, g2, g3, gb, gn, g4, g5, g6, g7, g8, x0⟩
    rw [List.getElem?_map, List.getElem?_map] at hy
    obtain ⟨tx, htx, rfl⟩ := Option.map_eq_some_iff.mp hy
    obtain ⟨c, hc, rfl⟩ := Option.map_eq_some_iff.mp htx
    have hm : c ∈ rows := List.mem_of_getElem? hc
    have hi : i < rows.length := (List.getElem?_eq_some_iff.mp hc).1
    rw [bad_step hc] at gb
    have xT := sm_new (o := .tup [.int (i + 2), .str (rowW c)]) hT0
    have hTt : upd H0 T0 (.tup [.int (i + 2), .str (rowW c)]) T0 = some (.tup [.int (i + 2), .str (rowW c)]) := upd_same
    generalize upd H0 T0 (.tup [.int (i + 2), .str (rowW c)]) = H1' at xT hTt ⊢
    refine ⟨T0, _, rfl, SqT.of hTt, rfl, _, _, rfl, _, _, rfl, rfl, ?_⟩
    refine ⟨_, rfl, _, rfl, ll, _, rfl, .inl (SqL.of (xT _ _ g6)), c, ls.length, by rw [List.length_map]; rfl, T.row (List.mem_cons_of_mem _ hm), fun hno H2' x2' => ?_, fun xs hxs ls' H2' hls' x2' h2' => ?_⟩
    · refine ⟨_, rfl, rfl, true, congrArg V.bl (decide_eq_true rfl), ?_⟩
      refine iteT ?_
      rw [hno] at gb
      exact ⟨_, rfl, by simp, raised (x0.trans (xT.trans x2')) (qe CN _ (by rw [hrd, ← gb]))⟩
    rw [hxs] at gb
    refine ⟨_, rfl, rfl, false, congrArg V.bl (decide_eq_false fun z => nomatch z), ?_⟩
    refine iteF ?_
    have x02' := xT.trans x2'
    have ntn : tA ≠ ls' := ne_of_none (xT _ _ g1) hls'
    have ngn : gA ≠ ls' := ne_of_none (xT _ _ g2) hls'
    have hrsl := Paired.length g3
    rw [tbW, List.length_map, List.length_take] at hrsl
    have hgl := gd_len (goodAt rows) i
    have hxl : xs.length = ls.length := by
      obtain ⟨_, us, _, _, e1, _, e2⟩ := steps_inv hxs
      rw [e2, List.length_map, e1]
    have htb : tbW ls.length (rows.take (i + 1)) = tbW ls.length (rows.take i) ++ [xs] := by
      rw [take_snoc hc, show tbW ls.length (rows.take i ++ [c]) = tbW ls.length (rows.take i) ++ [(stepsW ls.length c).getD []] from List.map_append .., hxs]; rfl
    have fin : ∀ Hf : Hp, (∀ b o, b ≠ tA → b ≠ gA → H2' b = some o → Hf b = some o) → Paired (RowI Hf) (rs ++ [ls']) (tbW ls.length (rows.take (i + 1))) ∧ firstBad ls.length (i + 1) (rows.drop (i + 1)) = firstBad ls.length 0 rows ∧ (∀ r ∈ tbW ls.length (rows.take (i + 1)), r.length = ls.length) ∧ tA ∉ rs ++ [ls'] ∧ gA ∉ rs ++ [ls'] ∧ Hf ll = some (.lst (ls.map V.str)) ∧ Hf pR = some (.lst ((rows.map rowW).map V.str)) ∧ Hf l = some (.lst ((rowW ws :: rows.map rowW).map V.str)) := fun Hf kf => by
      refine ⟨?_, gb, fun r hr => ?_, fun hb => ?_, fun hb => ?_, kf _ _ ntl ngl (x02' _ _ g6), kf _ _ (Ne.symm npt) (Ne.symm npg) (x02' _ _ g7), kf _ _ nlt nlg (x02' _ _ g8)⟩
      · rw [htb]
        refine paired_app (paired_on g3 fun u w hu z => kf _ _ (fun e => g4 (e ▸ hu)) (fun e => g5 (e ▸ hu)) (x02' _ _ z)) (.cons (kf _ _ (Ne.symm ntn) (Ne.symm ngn) h2') .nil)
      · rw [htb] at hr
        rcases List.mem_append.mp hr with h | h
        · exact gn r h
        · rw [List.mem_singleton.mp h]; exact hxl
      · rcases List.mem_append.mp hb with h | h
        · exact g4 h
        · exact ntn (List.mem_singleton.mp h)
      · rcases List.mem_append.mp hb with h | h
        · exact g5 h
        · exact ngn (List.mem_singleton.mp h)
    have gs := gd_snoc (goodAt rows) i
    rw [good_at hc] at gs
    refine ⟨_, rfl, rfl, _, _, rfl, rfl, _, rfl, ?_⟩
    rw [starts_row hxs l1]
    cases hb : goodW c with
    | true =>
      rw [hb, if_pos rfl] at gs
      refine iteT ?_
      refine ⟨_, rfl, .inl ⟨rfl, _, SqL.of (x02' _ _ g2)⟩, _, rfl, tA, _, rfl, .inl (SqL.of (x02' _ _ g1)), gA, _, _, rfl, rfl, x02' _ _ g2, Nat.lt_of_lt_of_le (show _ < 1000 by rw [List.length_map]; omega) hs, ?_⟩
      have e8 : upd H2' gA (.lst ((gdP (goodAt rows) i).map V.int ++ [V.int ((rs.map V.ref).length : Nat)])) gA = some (.lst ((gdP (goodAt rows) (i + 1)).map V.int)) := by
        rw [upd_same, gs, List.map_append, List.length_map, hrsl, Nat.min_eq_left (by omega)]; rfl
      have x8 : ∀ b o, b ≠ gA → H2' b = some o → upd H2' gA (.lst ((gdP (goodAt rows) i).map V.int ++ [V.int ((rs.map V.ref).length : Nat)])) b = some o := fun b o n e => by rw [upd_ne n]; exact e
      have y8 : Same H (upd H2' gA (.lst ((gdP (goodAt rows) i).map V.int ++ [V.int ((rs.map V.ref).length : Nat)]))) := (x0.trans x02').at h0g
      generalize upd H2' gA (.lst ((gdP (goodAt rows) i).map V.int ++ [V.int ((rs.map V.ref).length : Nat)])) = H8 at e8 x8 y8 ⊢
      have t8 := x8 _ _ ntg (x02' _ _ g1)
      refine ⟨_, rfl, .inl ⟨rfl, _, SqL.of t8⟩, _, rfl, tA, _, _, rfl, rfl, t8, Nat.lt_of_lt_of_le (show _ < 1000 by rw [List.length_map]; omega) hs, _, _, _, rs ++ [ls'], rfl, by rw [upd_same, List.map_append]; rfl, by rw [upd_ne (Ne.symm ntg)]; exact e8, ?_⟩
      obtain ⟨f1, f2, f3, f4, f5, f6, f7, f8⟩ := fin (upd H8 tA (.lst (rs.map V.ref ++ [V.ref ls']))) fun b o n1 n2 e => by rw [upd_ne n1]; exact x8 _ _ n2 e
      exact ⟨f1, f2, f3, f4, f5, f6, f7, f8, y8.at h0t⟩
    | false =>
      rw [hb, if_neg Bool.false_ne_true] at gs
      refine iteF ?_
      have t8 := x02' _ _ g1
      refine ⟨_, rfl, .inl ⟨rfl, _, SqL.of t8⟩, _, rfl, tA, _, _, rfl, rfl, t8, Nat.lt_of_lt_of_le (show _ < 1000 by rw [List.length_map]; omega) hs, _, _, _, rs ++ [ls'], rfl, by rw [upd_same, List.map_append]; rfl, by rw [upd_ne (Ne.symm ntg), gs]; exact x02' _ _ g2, ?_⟩
      obtain ⟨f1, f2, f3, f4, f5, f6, f7, f8⟩ := fin (upd H2' tA (.lst (rs.map V.ref ++ [V.ref ls']))) fun b o n1 n2 e => by rw [upd_ne n1]; exact e
      exact ⟨f1, f2, f3, f4, f5, f6, f7, f8, (x0.trans x02').at h0t⟩
  · rintro σ H6 ⟨v5, v6, v7, rs, rfl, g1, g2, g3, gb, gn, g4, g5, g6, g7, g8, x0⟩
    rw [List.length_map, List.length_map] at g2 g3 gb gn
    rw [List.take_length] at g3 gn
    rw [List.drop_length] at gb
    have gb' : firstBad ls.length 0 rows = none := gb.symm
    have hrl := Paired.length g3
    rw [tbW, List.length_map] at hrl
    have hemp : (rs.map V.ref).isEmpty = rows.isEmpty := by
      cases rs with
      | nil => cases rows with
        | nil => rfl
        | cons => cases hrl
      | cons => cases rows with
        | nil => cases hrl
        | cons => rfl
    refine ⟨_, rfl, !(rs.map V.ref).isEmpty, .inl ⟨_, SqL.of g1, rfl⟩, ?_⟩
    rw [hemp]
    cases hr0 : rows.isEmpty with
    | true =>
      refine iteT ?_
      have er : rows = [] := List.isEmpty_iff.mp hr0
      refine ⟨_, rfl, l, _, rfl, .inl (SqL.of g8), _, _, rfl, rfl, by simp, raised x0 (qe CN _ ?_)⟩
      rw [hrd, gb']
      simp only [hr0]
      rw [er]
      rfl
    | false =>
      refine iteF ?_
      refine ⟨_, rfl, _, rfl, _, rfl, fun x dx hx hdx ndx => ?_⟩
      have y8 : Same H6 (upd (upd H6 dx (.own x)) x (.ins C dx [])) := (sm_new hdx).trans (sm_new (by rw [upd_ne (Ne.symm ndx)]; exact hx))
      have h8 : upd (upd H6 dx (.own x)) x (.ins C dx []) x = some (.ins C dx []) := upd_same
      generalize upd (upd H6 dx (.own x)) x (.ins C dx []) = H8 at y8 h8 ⊢
      have hT : Tb H6 tA rs (tbW ls.length rows) ls.length := ⟨g1, g3, gn, by rw [tbW, List.length_map]; omega⟩
      refine ⟨x, ll, tA, gA, dx, ls, rs, tbW ls.length rows, gdW rows, rfl, h8, y8 _ _ g6, hT.same y8, by omega, y8 _ _ g2, Nat.lt_of_le_of_lt (gd_len _ _) (by omega), fun hd H9 zs hM hR x9 => ⟨rfl, ?_⟩, fun c fs hn a H' na sm fl => ?_⟩
      · rw [ris_same hR (ris_up (gd_up _ _))] at hM
        exact q ls hls gb' hr0 hd x H9 hM (x0.trans fun b o e => x9 b o (ne_of_none e hx) (y8 _ _ e))
      · have y := x0.trans y8
        exact ⟨a, rfl, y.free na, y.trans sm, c, fs, fl, by rw [hrd, gb']; simp only [hr0]; exact hn⟩
end
end KK
namespace KK
open PySem L2 PyProof.Rows KKM
section
variable {P : Program} {w : World} {K : PySem.W.Frag} {mg : Str → Option Value} {base : Heap} {f g g2 g3 g4 : Addr} {fd gd gd2 gd3 gd4 : FuncData} {k j : Nat} {C CT CB CG CN M ft fb fn : Addr} {ftd fbd fnd : FuncData}
theorem good_good {n : Int} : ∀ {xs : List Int}, (∀ x ∈ xs, 0 ≤ x ∧ x < n) → goodG n xs = none := by
  intro xs
  induction xs with
  | nil => intro _; rfl
  | cons x xs ih =>
    intro h
    unfold goodG
    obtain ⟨a, b⟩ := h x (List.mem_cons_self ..)
    rw [if_neg (by rw [badN, decide_eq_true a, decide_eq_true b]; exact Bool.false_ne_true)]
    exact ih fun y hy => h y (List.mem_cons_of_mem _ hy)
def madeD (ls : List Str) (tb : List (List Int)) (zs : List Int) : PyData := .tuple [.str "made", .tuple (ls.map .str), .tuple (tb.map fun r => .tuple (r.map .int)), .tuple (zs.map .int)]
theorem rows_data {H : Hp} {us : List Addr} {tb : List (List Int)} (h : Paired (RowU H) us tb) (n : Nat) : Paired (DataN H (n + 1)) (us.map V.ref) (tb.map fun r => .tuple (r.map .int)) := by
  induction h with
  | nil => exact .nil
  | cons r _ ih => exact .cons (DataN.tup r (DataN.ints n _)) ih
theorem pe_as {X : Cx} {e : Expr} (R : TE) (h : PE X e R) : PE X e R := h
theorem lenS {α : Type} {n : Nat} {l : List α} (h : l.length = n + 1) : ∃ a t, l = a :: t ∧ t.length = n := by
  cases l with
  | nil => cases h
  | cons a t => exact ⟨a, t, rfl, Nat.succ.inj h⟩
theorem len4 {σ : L2.St} (h : List.length σ = 4) : ∃ a b c d, σ = [a, b, c, d] := by
  obtain ⟨a, s1, e1, h⟩ := lenS h
  obtain ⟨b, s2, e2, h⟩ := lenS h
  obtain ⟨c, s3, e3, h⟩ := lenS h
  obtain ⟨d, s4, e4, h⟩ := lenS h
  exact ⟨a, b, c, d, by rw [e1, e2, e3, e4, List.length_eq_zero_iff.mp h]⟩
/-! ### what comes of a text -/
inductive Out where
  | text (v : Int)
  | twice (n : Str)
  | step (i : Nat) (l : Str)
  | made (ls : List Str) (tb : List (List Int)) (gd : List Int)
def outM (ls : List Str) (tb : List (List Int)) (gd : List Int) : Out :=
  match dupG [] ls with
  | some n => .twice n
  | none => match stepG tb.length ls 0 tb with
    | some (i, l) => .step i l
    | none => .made ls tb gd
def outW (ws : List Str) (rows : List (List Str)) : Out :=
  match lettersW ws with
  | none => .text 1
  | some ls => match firstBad ls.length 0 rows with
    | some i => .text ((i : Int) + 2)
    | none => if rows.isEmpty = true then .text 2 else outM ls (tbW ls.length rows) (gdW rows)
def dataO : Out → PyData
  | .text v => .tuple [.str "text", .int v]
  | .twice n => .tuple [.str "twice", .str n]
  | .step i l => .tuple [.str "step", .int (i : Int), .str l]
  | .made ls tb gd => madeD ls tb gd
def refO (CN CT CB : Addr) : Out → Option (Addr × List (Str × V))
  | .text v => some (CN, [("line", .int v)])
  | .twice n => some (CT, [("name", .str n)])
  | .step i l => some (CB, StF i l)
  | .made .. => none
theorem due_out {ls : List Str} {tb : List (List Int)} {gd : List Int} (h : goodG tb.length gd = none) : dueX CT CB CG ls tb gd = refO CN CT CB (outM ls tb gd) := by
  unfold dueX outM
  cases e1 : dupG [] ls with
  | some n => rfl
  | none =>
    cases e2 : stepG tb.length ls 0 tb with
    | some x => obtain ⟨i, l⟩ := x; simp only [e2]; rfl
    | none => simp only [e2, h]; rfl
theorem goods_in (ls : List Str) (rows : List (List Str)) : goodG (tbW ls.length rows).length (gdW rows) = none := good_good fun x hx => by
  have := gd_in x hx
  rw [tbW, List.length_map]
  exact this
theorem rd_out (ws : List Str) (rows : List (List Str)) : rdX CN CT CB CG (ws :: rows) = refO CN CT CB (outW ws rows) := by
  cases e1 : lettersW ws with
  | none => simp only [rdX, outW, e1]; rfl
  | some ls =>
    cases e2 : firstBad ls.length 0 rows with
    | some i => simp only [rdX, outW, e1, e2]; rfl
    | none =>
      simp only [rdX, outW, e1, e2]
      split
      · rfl
      · exact due_out (goods_in ls rows)
theorem out_made {ws : List Str} {rows : List (List Str)} {ls : List Str} (h1 : lettersW ws = some ls) (h2 : firstBad ls.length 0 rows = none) (h3 : rows.isEmpty = false) (h4 : dueX CT CB CG ls (tbW ls.length rows) (gdW rows) = none) : outW ws rows = .made ls (tbW ls.length rows) (gdW rows) := by
  unfold outW
  simp only [h1, h2, h3]
  rw [due_out (CN := CT) (goods_in ls rows)] at h4
  show outM _ _ _ = _
  unfold outM at h4 ⊢
  cases e1 : dupG [] ls with
  | some n => rw [e1] at h4; cases h4
  | none =>
    rw [e1] at h4
    cases e2 : stepG (tbW ls.length rows).length ls 0 (tbW ls.length rows) with
    | some x => obtain ⟨i, l⟩ := x; simp only [e2] at h4; cases h4
    | none => simp only [e2]
def spTold (CN CT CB CG CC : Addr) : Sp := fun vs H Q _ => ∃ (ws : List Str) (rows : List (List Str)), vs = [.str (textW (ws :: rows))] ∧ TxtOk (ws :: rows) ∧ (∀ c fs, rdX CN CT CB CG (ws :: rows) = some (c, fs) → c = CC) ∧ ∀ (r : Addr) (H' : Hp), Same H H' → DataN H' 3 (.ref r) (dataO (outW ws rows)) → Q (.ref r) H'
theorem sc_told : FnScope ["_law_text_here", "_law_machine_here", "e", "_law_found"] ["_law_text_here"] (defScope s_law_told) := ⟨rfl, rfl, rfl, by decide +kernel, rfl, by decide +kernel, by decide +kernel⟩
theorem made_data {H : Hp} {z tl tt tg : Addr} {us : List Addr} {ls : List Str} {tb : List (List Int)} {zs : List Int} (hz : H z = none) (b2 : TupF H tl (ls.map V.str)) (b3 : H tt = some (.tup (us.map V.ref))) (b4 : Paired (RowU H) us tb) (b5 : H tg = some (.tup (zs.map V.int))) :
    DataN (upd H z (.tup [.str "made", .ref tl, .ref tt, .ref tg])) 3 (.ref z) (madeD ls tb zs) := by
  have x10 := sm_new (o := .tup [.str "made", .ref tl, .ref tt, .ref tg]) hz
  exact DataN.tup upd_same (.cons (DataN.str 2 "made") (.cons (DataN.up (DataN.tupR (let ⟨o, e, _⟩ := b2.same x10; .inr ⟨o, e⟩) (DataN.strs 0 _))) (.cons (DataN.tup (x10 _ _ b3) (rows_data (Paired.mapP b4 fun _ _ z => x10 _ _ z) 0)) (.cons (DataN.up (DataN.tup (x10 _ _ b5) (DataN.ints 0 _))) .nil))))
theorem ok_toldN (F : Fun K "_law_told" "_law_told" s_law_told f fd) (xn : XM1 P w K mg base j "NoText" "line" CN M fn fnd) (xt : XM1 P w K mg base j "Twice" "name" CT M ft ftd) (xb : XM2 P w K mg base j "BadStep" "state" "letter" CB M fb fbd) (nNT : CN ≠ CT) (nNB : CN ≠ CB) (nTB : CT ≠ CB) (nNM : CN ≠ M) (nTM : CT ≠ M)
    (S : MoC K C) (G_read_machine : FnX P w K mg base (k + 1) "read_machine" ["text"] (spRead C CN CT CB CG) g gd) : FnOk P w K mg base CX0 (k + 2) f fd ["_law_text_here"] (spTold CN CT CB CG CN) := by
  refine F.ok sc_told (fun vs H Q E h => ?_) (fun cdv A outer s H vs Q E hr h => ?_)
  · obtain ⟨ws, rows, rfl, _⟩ := h
    rfl
  obtain ⟨ws, rows, rfl, T, hc, q⟩ := h
  have nd := sc_told.nd
  have hRX : ∀ a fs H1 H2, (H a = none ∧ Same H H1 ∧ rdX CN CT CB CG (ws :: rows) = some (CN, fs)) → (∀ b o, b ≠ a → H1 b = some o → H2 b = some o) → FlyAt H2 a CN fs → (H a = none ∧ Same H H2 ∧ rdX CN CT CB CG (ws :: rows) = some (CN, fs)) := fun a fs H1 H2 ⟨na, sm, g⟩ k _ => ⟨na, fun b o e => k b o (ne_of_none e na) (sm b o e), g⟩
  refine ⟨_, (pss_cons (ps_tryH xn.xc rfl rfl hRX (fun E pn hpass => (pss_cons (ps_set (i := 1) nd rfl (Or.inl rfl) (pe_as (tCall (spRead C CN CT CB CG) [] (EXT CN fun a fs H1 => H a = none ∧ Same H H1 ∧ rdX CN CT CB CG (ws :: rows) = some (CN, fs)) (tCons (tVar 0) tNil)) (pe_call G_read_machine.ok hr rfl G_read_machine.at_ G_read_machine.kp G_read_machine.bn .nil hpass (pa_cons (pv 0) pa_nil))))
      (pss_one (ps_ret (pe_as (tTup (tCons (tC (.str "made")) (tCons (tFld K (tVar 1) "letters") (tCons (tFld K (tVar 1) "table") (tCons (tFld K (tVar 1) "good") tNil))))) (pe_tup (pa_cons pe_str (pa_cons (pe_fld (pv 1) rfl) (pa_cons (pe_fld (pv 1) rfl) (pa_cons (pe_fld (pv 1) rfl) pa_nil))))))))))
      (hb_own (i := 2) xn.xc nd rfl rfl rfl (fun a => pe_glob (v := .ref CN) rfl xn.at_ rfl) (fun a => (pss_one (ps_set (i := 3) nd rfl (Or.inl rfl) (pe_as (tTup (tCons (tC (.str "text")) (tCons (tFldF CN (tVar 2) "line") tNil))) (pe_tup (pa_cons pe_str (pa_cons (pe_fldF xn.xc xn.fn (pv 2)) pa_nil)))))))))
    (pss_one (ps_ret (pv 3)))), ?_⟩
  refine ⟨?_, ?_⟩
  · refine ⟨_, rfl, ws, rows, rfl, T, fun ls h1 h2 h3 h4 x H9 hM y9 => ?_, fun c fs hn a H' na sm fl => ?_⟩
    · obtain ⟨dx', tl, tt, tg, us, b1, b2, b3, b4, b5⟩ := hM
      refine ⟨_, rfl, x, C, dx', _, _, rfl, b1, S.cls, S.n1, rfl, _, rfl, x, C, dx', _, _, rfl, b1, S.cls, S.n2, rfl, _, rfl, x, C, dx', _, _, rfl, b1, S.cls, S.n3, rfl, tiny (show 4 ≤ 1000 by decide), fun z hz => ?_⟩
      refine q z _ (y9.trans (sm_new hz)) ?_
      rw [out_made h1 h2 h3 h4]
      exact made_data hz b2 b3 b4 b5
    · have e := hc c fs hn
      subst e
      exact ⟨a, _, rfl, fl, na, sm, hn⟩
  · rintro a fs H1 σ1 fl ⟨na, sm, hn⟩ hl
    obtain ⟨s0, s1, s2, s3, rfl⟩ := len4 hl
    rw [rd_out] at hn
    cases eo : outW ws rows with
    | text v =>
      rw [eo] at hn
      cases hn
      refine ⟨_, rfl, a, _, .int v, rfl, fl, rfl, tiny (show 2 ≤ 1000 by decide), fun z hz => ⟨_, rfl, q z _ (sm.trans (sm_new hz)) ?_⟩⟩
      rw [eo]
      exact DataN.up (DataN.up (DataN.tup upd_same (.cons (DataN.str 0 "text") (.cons (DataN.int 0 v) .nil))))
    | twice n =>
      rw [eo] at hn
      exact absurd (congrArg Prod.fst (Option.some.inj hn)) (nNT.symm)
    | step i l =>
      rw [eo] at hn
      exact absurd (congrArg Prod.fst (Option.some.inj hn)) (nNB.symm)
    | made ls tb gd =>
      rw [eo] at hn
      cases hn
theorem ok_toldT (F : Fun K "_law_told" "_law_told" s_law_told f fd) (xn : XM1 P w K mg base j "NoText" "line" CN M fn fnd) (xt : XM1 P w K mg base j "Twice" "name" CT M ft ftd) (xb : XM2 P w K mg base j "BadStep" "state" "letter" CB M fb fbd) (nNT : CN ≠ CT) (nNB : CN ≠ CB) (nTB : CT ≠ CB) (nNM : CN ≠ M) (nTM : CT ≠ M)
    (S : MoC K C) (G_read_machine : FnX P w K mg base (k + 1) "read_machine" ["text"] (spRead C CN CT CB CG) g gd) : FnOk P w K mg base CX0 (k + 2) f fd ["_law_text_here"] (spTold CN CT CB CG CT) := by
  refine F.ok sc_told (fun vs H Q E h => ?_) (fun cdv A outer s H vs Q E hr h => ?_)
  · obtain ⟨ws, rows, rfl, _⟩ := h
    rfl
  obtain ⟨ws, rows, rfl, T, hc, q⟩ := h
  have nd := sc_told.nd
  have hRX : ∀ a fs H1 H2, (H a = none ∧ Same H H1 ∧ rdX CN CT CB CG (ws :: rows) = some (CT, fs)) → (∀ b o, b ≠ a → H1 b = some o → H2 b = some o) → FlyAt H2 a CT fs → (H a = none ∧ Same H H2 ∧ rdX CN CT CB CG (ws :: rows) = some (CT, fs)) := fun a fs H1 H2 ⟨na, sm, g⟩ k _ => ⟨na, fun b o e => k b o (ne_of_none e na) (sm b o e), g⟩
  refine ⟨_, (pss_cons (ps_tryH xt.xc rfl rfl hRX (fun E pn hpass => (pss_cons (ps_set (i := 1) nd rfl (Or.inl rfl) (pe_as (tCall (spRead C CN CT CB CG) [] (EXT CT fun a fs H1 => H a = none ∧ Same H H1 ∧ rdX CN CT CB CG (ws :: rows) = some (CT, fs)) (tCons (tVar 0) tNil)) (pe_call G_read_machine.ok hr rfl G_read_machine.at_ G_read_machine.kp G_read_machine.bn .nil hpass (pa_cons (pv 0) pa_nil))))
      (pss_one (ps_ret (pe_as (tTup (tCons (tC (.str "made")) (tCons (tFld K (tVar 1) "letters") (tCons (tFld K (tVar 1) "table") (tCons (tFld K (tVar 1) "good") tNil))))) (pe_tup (pa_cons pe_str (pa_cons (pe_fld (pv 1) rfl) (pa_cons (pe_fld (pv 1) rfl) (pa_cons (pe_fld (pv 1) rfl) pa_nil))))))))))
      (hb_skip xt.xc xn.xc nNT nNM (fun a => pe_glob (v := .ref CN) rfl xn.at_ rfl) (hb_own (i := 2) xt.xc nd rfl rfl rfl (fun a => pe_glob (v := .ref CT) rfl xt.at_ rfl) (fun a => (pss_one (ps_set (i := 3) nd rfl (Or.inl rfl) (pe_as (tTup (tCons (tC (.str "twice")) (tCons (tFldF CT (tVar 2) "name") tNil))) (pe_tup (pa_cons pe_str (pa_cons (pe_fldF xt.xc xt.fn (pv 2)) pa_nil))))))))))
    (pss_one (ps_ret (pv 3)))), ?_⟩
  refine ⟨?_, ?_⟩
  · refine ⟨_, rfl, ws, rows, rfl, T, fun ls h1 h2 h3 h4 x H9 hM y9 => ?_, fun c fs hn a H' na sm fl => ?_⟩
    · obtain ⟨dx', tl, tt, tg, us, b1, b2, b3, b4, b5⟩ := hM
      refine ⟨_, rfl, x, C, dx', _, _, rfl, b1, S.cls, S.n1, rfl, _, rfl, x, C, dx', _, _, rfl, b1, S.cls, S.n2, rfl, _, rfl, x, C, dx', _, _, rfl, b1, S.cls, S.n3, rfl, tiny (show 4 ≤ 1000 by decide), fun z hz => ?_⟩
      refine q z _ (y9.trans (sm_new hz)) ?_
      rw [out_made h1 h2 h3 h4]
      exact made_data hz b2 b3 b4 b5
    · have e := hc c fs hn
      subst e
      exact ⟨a, _, rfl, fl, na, sm, hn⟩
  · rintro a fs H1 σ1 fl ⟨na, sm, hn⟩ hl
    obtain ⟨s0, s1, s2, s3, rfl⟩ := len4 hl
    rw [rd_out] at hn
    cases eo : outW ws rows with
    | text v =>
      rw [eo] at hn
      exact absurd (congrArg Prod.fst (Option.some.inj hn)) (nNT)
    | twice n =>
      rw [eo] at hn
      cases hn
      refine ⟨_, rfl, a, _, .str n, rfl, fl, rfl, tiny (show 2 ≤ 1000 by decide), fun z hz => ⟨_, rfl, q z _ (sm.trans (sm_new hz)) ?_⟩⟩
      rw [eo]
      exact DataN.up (DataN.up (DataN.tup upd_same (.cons (DataN.str 0 "twice") (.cons (DataN.str 0 n) .nil))))
    | step i l =>
      rw [eo] at hn
      exact absurd (congrArg Prod.fst (Option.some.inj hn)) (nTB.symm)
    | made ls tb gd =>
      rw [eo] at hn
      cases hn
theorem ok_toldB (F : Fun K "_law_told" "_law_told" s_law_told f fd) (xn : XM1 P w K mg base j "NoText" "line" CN M fn fnd) (xt : XM1 P w K mg base j "Twice" "name" CT M ft ftd) (xb : XM2 P w K mg base j "BadStep" "state" "letter" CB M fb fbd) (nNT : CN ≠ CT) (nNB : CN ≠ CB) (nTB : CT ≠ CB) (nNM : CN ≠ M) (nTM : CT ≠ M)
    (S : MoC K C) (G_read_machine : FnX P w K mg base (k + 1) "read_machine" ["text"] (spRead C CN CT CB CG) g gd) : FnOk P w K mg base CX0 (k + 2) f fd ["_law_text_here"] (spTold CN CT CB CG CB) := by
  refine F.ok sc_told (fun vs H Q E h => ?_) (fun cdv A outer s H vs Q E hr h => ?_)
  · obtain ⟨ws, rows, rfl, _⟩ := h
    rfl
  obtain ⟨ws, rows, rfl, T, hc, q⟩ := h
  have nd := sc_told.nd
  have hRX : ∀ a fs H1 H2, (H a = none ∧ Same H H1 ∧ rdX CN CT CB CG (ws :: rows) = some (CB, fs)) → (∀ b o, b ≠ a → H1 b = some o → H2 b = some o) → FlyAt H2 a CB fs → (H a = none ∧ Same H H2 ∧ rdX CN CT CB CG (ws :: rows) = some (CB, fs)) := fun a fs H1 H2 ⟨na, sm, g⟩ k _ => ⟨na, fun b o e => k b o (ne_of_none e na) (sm b o e), g⟩
  refine ⟨_, (pss_cons (ps_tryH xb.xc rfl rfl hRX (fun E pn hpass => (pss_cons (ps_set (i := 1) nd rfl (Or.inl rfl) (pe_as (tCall (spRead C CN CT CB CG) [] (EXT CB fun a fs H1 => H a = none ∧ Same H H1 ∧ rdX CN CT CB CG (ws :: rows) = some (CB, fs)) (tCons (tVar 0) tNil)) (pe_call G_read_machine.ok hr rfl G_read_machine.at_ G_read_machine.kp G_read_machine.bn .nil hpass (pa_cons (pv 0) pa_nil))))
      (pss_one (ps_ret (pe_as (tTup (tCons (tC (.str "made")) (tCons (tFld K (tVar 1) "letters") (tCons (tFld K (tVar 1) "table") (tCons (tFld K (tVar 1) "good") tNil))))) (pe_tup (pa_cons pe_str (pa_cons (pe_fld (pv 1) rfl) (pa_cons (pe_fld (pv 1) rfl) (pa_cons (pe_fld (pv 1) rfl) pa_nil))))))))))
      (hb_skip xb.xc xn.xc nNB nNM (fun a => pe_glob (v := .ref CN) rfl xn.at_ rfl) (hb_skip xb.xc xt.xc nTB nTM (fun a => pe_glob (v := .ref CT) rfl xt.at_ rfl) (hb_own (i := 2) xb.xc nd rfl rfl rfl (fun a => pe_glob (v := .ref CB) rfl xb.at_ rfl) (fun a => (pss_one (ps_set (i := 3) nd rfl (Or.inl rfl) (pe_as (tTup (tCons (tC (.str "step")) (tCons (tFldF CB (tVar 2) "state") (tCons (tFldF CB (tVar 2) "letter") tNil)))) (pe_tup (pa_cons pe_str (pa_cons (pe_fldF xb.xc xb.fn (pv 2)) (pa_cons (pe_fldF xb.xc xb.fn2 (pv 2)) pa_nil))))))))))))
    (pss_one (ps_ret (pv 3)))), ?_⟩
  refine ⟨?_, ?_⟩
  · refine ⟨_, rfl, ws, rows, rfl, T, fun ls h1 h2 h3 h4 x H9 hM y9 => ?_, fun c fs hn a H' na sm fl => ?_⟩
    · obtain ⟨dx', tl, tt, tg, us, b1, b2, b3, b4, b5⟩ := hM
      refine ⟨_, rfl, x, C, dx', _, _, rfl, b1, S.cls, S.n1, rfl, _, rfl, x, C, dx', _, _, rfl, b1, S.cls, S.n2, rfl, _, rfl, x, C, dx', _, _, rfl, b1, S.cls, S.n3, rfl, tiny (show 4 ≤ 1000 by decide), fun z hz => ?_⟩
      refine q z _ (y9.trans (sm_new hz)) ?_
      rw [out_made h1 h2 h3 h4]
      exact made_data hz b2 b3 b4 b5
    · have e := hc c fs hn
      subst e
      exact ⟨a, _, rfl, fl, na, sm, hn⟩
  · rintro a fs H1 σ1 fl ⟨na, sm, hn⟩ hl
    obtain ⟨s0, s1, s2, s3, rfl⟩ := len4 hl
    rw [rd_out] at hn
    cases eo : outW ws rows with
    | text v =>
      rw [eo] at hn
      exact absurd (congrArg Prod.fst (Option.some.inj hn)) (nNB)
    | twice n =>
      rw [eo] at hn
      exact absurd (congrArg Prod.fst (Option.some.inj hn)) (nTB)
    | step i l =>
      rw [eo] at hn
      cases hn
      refine ⟨_, rfl, a, _, .int (i : Int), rfl, fl, rfl, _, rfl, a, _, .str l, rfl, fl, rfl, tiny (show 3 ≤ 1000 by decide), fun z hz => ⟨_, rfl, q z _ (sm.trans (sm_new hz)) ?_⟩⟩
      rw [eo]
      exact DataN.up (DataN.up (DataN.tup upd_same (.cons (DataN.str 0 "step") (.cons (DataN.int 0 _) (.cons (DataN.str 0 l) .nil)))))
    | made ls tb gd =>
      rw [eo] at hn
      cases hn
end
end KK
namespace KK
open PySem L2 PyProof.Rows KKM
/-! ### feeds of parts -/
theorem feeds_app (x y : Str) : feeds (x ++ y) = feeds x + feeds y := by
  show (x.cps ++ y.cps).toList.count 10 = _
  rw [Array.toList_append, List.count_append]; rfl
theorem feeds_le (x : Str) : feeds x ≤ x.length := List.count_le_length
theorem feeds_to {x : Str} {j : Int} (h0 : 0 ≤ j) (h1 : j ≤ x.length) : feeds (Txt.slice x none (some j)) ≤ feeds x := by
  unfold feeds
  rw [slice_to h0 h1]
  exact List.Sublist.count_le 10 (List.take_sublist _ _)
theorem beyond {n : Nat} {i : Int} (h : (n : Int) < i) : Builtin.Str.strSliceIndices (some i) none 1 n = [] := by
  refine List.length_eq_zero_iff.mp ?_
  unfold Builtin.Str.strSliceIndices sliceRange
  simp only [show (1 : Int) > 0 by decide, if_true, List.length_map, List.length_range]
  (split <;> (try split) <;> (try split) <;> (try simp only [Int.ediv_one]) <;> omega)
theorem feeds_from {x : Str} {i : Int} (h0 : 0 ≤ i) : feeds (Txt.slice x (some i) none) ≤ feeds x := by
  by_cases h1 : i ≤ x.length
  · unfold feeds
    rw [slice_from h0 h1]
    exact List.Sublist.count_le 10 (List.drop_sublist _ _)
  · unfold Txt.slice
    rw [beyond (by omega)]
    split
    · exact Nat.le_refl _
    · exact Nat.zero_le _
theorem tot_sum (ys : List Str) : (ys.map (·.length)).sum + ys.length * 1 = tot ys := by
  induction ys with
  | nil => rfl
  | cons y r ih => rw [tot_cons, ← ih, List.map_cons, List.sum_cons, List.length_cons]; omega
theorem sum_blank {ys : List Str} (h : tot ys ≤ 1000000) : (ys.map (·.length)).sum + ys.length * Str.length " " ≤ 16777216 := by
  rw [sp_blank]
  show _ + _ * 1 ≤ _
  rw [tot_sum]; omega
theorem sum_feed {ys : List Str} (h : tot ys ≤ 1000000) : (ys.map (·.length)).sum + ys.length * Str.length "\n" ≤ 16777216 := by
  rw [sp_feed]
  show _ + _ * 1 ≤ _
  rw [tot_sum]; omega
theorem len_le (c : Nat) (ys : List Str) : (Txt.join ⟨#[c]⟩ ys).length ≤ tot ys := by
  by_cases h : ys = []
  · subst h; exact Nat.zero_le _
  · have := len_join c h; omega
theorem tot_cut {ys : List Str} (n : Nat) : tot (ys.take n) + tot (ys.drop n) = tot ys := by rw [← tot_app, List.take_append_drop]
theorem tot_drop (ys : List Str) (n : Nat) : tot (ys.drop (n + 1)) ≤ tot (ys.drop n) := by
  refine tot_sub ?_
  rw [show n + 1 = n + 1 from rfl, ← List.drop_drop]
  exact List.drop_sublist _ _
theorem cut_to (xs : List V) (k : Nat) : cutV xs none (some (k : Int)) = xs.take k := by
  unfold cutV
  rw [HT.sIx_none, HT.sIx_nat, List.drop_zero, Nat.sub_zero]
  rw [List.take_eq_take_iff]; omega
theorem cut_fr (xs : List V) (k : Nat) : cutV xs (some (k : Int)) none = xs.drop k := by
  unfold cutV
  rw [HT.sIx_none, HT.sIx_nat]
  rcases Nat.le_total k xs.length with h | h
  · rw [Nat.min_eq_left h]
    exact List.take_of_length_le (by rw [List.length_drop]; exact Nat.le_refl _)
  · rw [Nat.min_eq_right h, Nat.sub_self, List.take_zero, List.drop_eq_nil_of_le h]
theorem cut_mid (xs : List V) {k : Nat} (h : k < xs.length) : cutV xs (some (k : Int)) (some ((k : Int) + 1)) = (xs.drop k).take 1 := by
  unfold cutV
  rw [show (k : Int) + 1 = ((k + 1 : Nat) : Int) from rfl, HT.sIx_nat, HT.sIx_nat, Nat.min_eq_left (by omega), Nat.min_eq_left (by omega), Nat.add_sub_cancel_left]
theorem ix_of {n : Nat} {r : Int} (h0 : 0 ≤ r) (h1 : r < n) : ixN n r = some r.toNat := by
  unfold ixN
  rw [if_pos h0, if_pos h1]
section
variable {P : Program} {w : World} {K : PySem.W.Frag} {mg : Str → Option Value} {base : Heap} {f g g2 g3 g4 : Addr} {fd gd gd2 gd3 gd4 : FuncData} {k j : Nat} {C CT CB CG CN M ft fb fn : Addr} {ftd fbd fnd : FuncData}
theorem same_ext {a : Addr} {H0 H H' : Hp} (x : Same H0 H) (na : H0 a = none) (y : Ext a H H') : Same H0 H' := fun b o e => y b o (ne_of_none e na) (x b o e)
/-! ### a thing out, twice, or exchanged -/
def spMoved : Sp := fun vs H Q _ => ∃ (a l : Addr) (ys : List Str), vs = [.ref a, .ref l] ∧ FlowAt H a ∧ H l = some (.lst (ys.map V.str)) ∧ l ≠ a ∧ 1 ≤ ys.length ∧ ys.length ≤ 100000 ∧
  ∀ (r : Addr) (zs : List Str) (H' : Hp), zs.length ≤ ys.length + 1 → (∀ z ∈ zs, z ∈ ys) → tot zs ≤ 3 * tot ys → FlowAt H' a → Ext a H H' → H' r = some (.lst (zs.map V.str)) → Q (.ref r) H'
theorem sc_moved : FnScope ["_law_flow_here", "_law_some", "_law_form", "_law_at", "_law_far", "_law_found"] ["_law_flow_here", "_law_some"] (defScope s_law_moved) := ⟨rfl, rfl, rfl, by decide +kernel, rfl, by decide +kernel, by decide +kernel⟩
theorem ok_moved (F : Fun K "_law_moved" "_law_moved" s_law_moved f fd) (B : Bt mg) (G__law_draw : Fn P w K mg base k "_law_draw" ["_law_flow_here", "_law_many"] spDraw g gd) : FnOk P w K mg base CX0 (k + 1) f fd ["_law_flow_here", "_law_some"] spMoved := by
  refine F.ok sc_moved (fun vs H Q E h => ?_) (fun cdv A outer s H vs Q E hr h => ?_)
  · obtain ⟨a, l, ys, rfl, _⟩ := h
    rfl
  obtain ⟨a, l, ys, rfl, hF, hl, nl, y1, yM, q⟩ := h
  have nd := sc_moved.nd
  refine ⟨_, (pss_cons (ps_set (i := 2) nd rfl (Or.inl rfl) (pe_call G__law_draw.ok hr rfl G__law_draw.at_ G__law_draw.kp G__law_draw.bn .nil pass0 (pa_cons (pv 0) (pa_cons pe_int pa_nil))))
    (pss_cons (ps_par (i := 3) (j := 4) rfl nd rfl rfl (by decide) rfl rfl (pa_cons (pe_call G__law_draw.ok hr rfl G__law_draw.at_ G__law_draw.kp G__law_draw.bn .nil pass0 (pa_cons (pv 0) (pa_cons (pe_callB call_len_seq rfl B.len_ PySem.boot_len (pa_cons (pv 1) pa_nil)) pa_nil))) (pa_cons (pe_call G__law_draw.ok hr rfl G__law_draw.at_ G__law_draw.kp G__law_draw.bn .nil pass0 (pa_cons (pv 0) (pa_cons (pe_callB call_len_seq rfl B.len_ PySem.boot_len (pa_cons (pv 1) pa_nil)) pa_nil))) pa_nil)) rfl)
    (pss_cons (ps_if (pt_cmpR op_eq (pv 2) pe_int (nomark _)) (pss_one (ps_ret (pe_op op_cat (pe_slice sl_list (pv 1) po_none (po_some (pv 3))) (pe_slice sl_list (pv 1) (po_some (pe_op op_add (pv 3) pe_int)) po_none)))) pss_nil)
    (pss_cons (ps_if (pt_cmpR op_eq (pv 2) pe_int (nomark _)) (pss_one (ps_ret (pe_op op_cat (pe_op op_cat (pe_slice sl_list (pv 1) po_none (po_some (pv 3))) (pe_slice sl_list (pv 1) (po_some (pv 3)) (po_some (pe_op op_add (pv 3) pe_int)))) (pe_slice sl_list (pv 1) (po_some (pv 3)) po_none)))) pss_nil)
    (pss_cons (ps_set (i := 5) nd rfl (Or.inl rfl) (pe_callTy call_list_of rfl B.list_ (by decide +kernel) (pa_cons (pv 1) pa_nil)))
    (pss_cons (ps_asg (pe_tup (pa_cons (pe_ix ix_list (pv 1) (pv 4) (fun _ _ => rfl)) (pa_cons (pe_ix ix_list (pv 1) (pv 3) (fun _ _ => rfl)) pa_nil))) (pg_tup rfl (pgs_cons (pg_sub (pv 5) (pv 3) set_list) (pgs_cons (pg_sub (pv 5) (pv 4) set_list) pgs_nil))))
    (pss_one (ps_ret (pv 5))))))))), ?_⟩
  try dsimp only [cxOf, Cx.nox, Cx.wish]
  refine lats7 ?_
  intro D0 σ0 U7 U6 U5 U4 U3 U2
  refine ⟨_, rfl, a, 3, rfl, hF, by decide, by decide, fun r1 H1 _ _ f1 x1 => ?_⟩
  have h1 := x1 _ _ nl hl
  refine ⟨_, rfl, _, rfl, l, _, rfl, .inl (SqL.of h1), a, _, rfl, f1, by rw [List.length_map]; omega, by rw [List.length_map]; omega, fun r2 H2 a0 a1 f2 x2 => ?_⟩
  have h2 := x2 _ _ nl h1
  refine ⟨_, rfl, _, rfl, l, _, rfl, .inl (SqL.of h2), a, _, rfl, f2, by rw [List.length_map]; omega, by rw [List.length_map]; omega, fun r3 H3 b0 b1 f3 x3 => ⟨_, _, rfl, ?_⟩⟩
  have h3 := x3 _ _ nl h2
  have x13 := (x1.trans x2).trans x3
  obtain ⟨n, rfl⟩ := Int.eq_ofNat_of_zero_le a0
  obtain ⟨m, rfl⟩ := Int.eq_ofNat_of_zero_le b0
  rw [List.length_map] at a1 b1
  have hn : n < ys.length := by omega
  have hm : m < ys.length := by omega
  have hc := tot_cut (ys := ys) n
  refine ⟨_, rfl, rfl, _, rfl, ite2 (fun _ => ?_) (fun _ => ?_)⟩
  · refine ⟨_, rfl, _, rfl, _, rfl, l, _, rfl, SqL.of h3, fun p4 hp4 => ?_⟩
    rw [cut_to, ← List.map_take]
    have x4 := sm_new (o := .lst ((ys.take n).map V.str)) hp4
    have k4 : upd H3 p4 (.lst ((ys.take n).map V.str)) p4 = some (.lst ((ys.take n).map V.str)) := upd_same
    generalize upd H3 p4 (.lst ((ys.take n).map V.str)) = H4 at x4 k4 ⊢
    refine ⟨_, rfl, _, rfl, _, _, rfl, rfl, _, rfl, l, _, rfl, SqL.of (x4 _ _ h3), fun p5 hp5 => ?_⟩
    rw [show (n : Int) + 1 = ((n + 1 : Nat) : Int) from rfl, cut_fr, ← List.map_drop]
    have x5 := sm_new (o := .lst ((ys.drop (n + 1)).map V.str)) hp5
    refine ⟨p4, p5, _, _, rfl, rfl, x5 _ _ k4, upd_same, lineM (by rw [List.length_map, List.length_map, List.length_take, List.length_drop]; omega), fun p6 hp6 => ?_⟩
    rw [← List.map_append]
    have x46 := (x4.trans x5).trans (sm_new (o := .lst ((ys.take n ++ ys.drop (n + 1)).map V.str)) hp6)
    refine q p6 _ _ (by rw [List.length_append, List.length_take, List.length_drop]; omega) (fun z hz => ?_) ?_ (x46.flow f3) (x13.trans x46.ext) upd_same
    · rcases List.mem_append.mp hz with h | h
      · exact List.mem_of_mem_take h
      · exact List.mem_of_mem_drop h
    · have := tot_drop ys n
      rw [tot_app]; omega
  refine ⟨_, rfl, rfl, _, rfl, ite2 (fun _ => ?_) (fun _ => ?_)⟩
  · refine ⟨_, rfl, _, rfl, _, rfl, l, _, rfl, SqL.of h3, fun p4 hp4 => ?_⟩
    rw [cut_to, ← List.map_take]
    have x4 := sm_new (o := .lst ((ys.take n).map V.str)) hp4
    have k4 : upd H3 p4 (.lst ((ys.take n).map V.str)) p4 = some (.lst ((ys.take n).map V.str)) := upd_same
    generalize upd H3 p4 (.lst ((ys.take n).map V.str)) = H4 at x4 k4 ⊢
    refine ⟨_, rfl, _, rfl, _, rfl, _, rfl, _, _, rfl, rfl, _, rfl, l, _, rfl, SqL.of (x4 _ _ h3), fun p5 hp5 => ?_⟩
    rw [cut_mid _ (by rw [List.length_map]; exact hn), ← List.map_drop, ← List.map_take]
    have x5 := sm_new (o := .lst (((ys.drop n).take 1).map V.str)) hp5
    have k5 : upd H4 p5 (.lst (((ys.drop n).take 1).map V.str)) p5 = some (.lst (((ys.drop n).take 1).map V.str)) := upd_same
    generalize upd H4 p5 (.lst (((ys.drop n).take 1).map V.str)) = H5 at x5 k5 ⊢
    refine ⟨p4, p5, _, _, rfl, rfl, x5 _ _ k4, k5, lineM (by rw [List.length_map, List.length_map, List.length_take, List.length_take, List.length_drop]; omega), fun p6 hp6 => ?_⟩
    rw [← List.map_append]
    have x6 := sm_new (o := .lst ((ys.take n ++ (ys.drop n).take 1).map V.str)) hp6
    have k6 : upd H5 p6 (.lst ((ys.take n ++ (ys.drop n).take 1).map V.str)) p6 = some (.lst ((ys.take n ++ (ys.drop n).take 1).map V.str)) := upd_same
    generalize upd H5 p6 (.lst ((ys.take n ++ (ys.drop n).take 1).map V.str)) = H6 at x6 k6 ⊢
    refine ⟨_, rfl, _, rfl, _, rfl, l, _, rfl, SqL.of (x6 _ _ (x5 _ _ (x4 _ _ h3))), fun p7 hp7 => ?_⟩
    rw [cut_fr, ← List.map_drop]
    have x7 := sm_new (o := .lst ((ys.drop n).map V.str)) hp7
    refine ⟨p6, p7, _, _, rfl, rfl, x7 _ _ k6, upd_same, lineM (by rw [List.length_map, List.length_map, List.length_append, List.length_take, List.length_take, List.length_drop]; omega), fun p8 hp8 => ?_⟩
    rw [← List.map_append]
    have x48 := (x4.trans (x5.trans (x6.trans x7))).trans (sm_new (o := .lst ((ys.take n ++ (ys.drop n).take 1 ++ ys.drop n).map V.str)) hp8)
    refine q p8 _ _ (by rw [List.length_append, List.length_append, List.length_take, List.length_take, List.length_drop]; omega) (fun z hz => ?_) ?_ (x48.flow f3) (x13.trans x48.ext) upd_same
    · rcases List.mem_append.mp hz with h | h
      · rcases List.mem_append.mp h with h | h
        · exact List.mem_of_mem_take h
        · exact List.mem_of_mem_drop (List.mem_of_mem_take h)
      · exact List.mem_of_mem_drop h
    · have := tot_sub (List.take_sublist 1 (ys.drop n))
      rw [tot_app, tot_app]; omega
  refine ⟨_, rfl, l, _, rfl, .inl (SqL.of h3), fun F0 hF0 => ?_⟩
  have x4 := sm_new (o := .lst (ys.map V.str)) hF0
  have k4 : upd H3 F0 (.lst (ys.map V.str)) F0 = some (.lst (ys.map V.str)) := upd_same
  have nF : F0 ≠ a := ne_flow hF0 f3
  have hFn : H3 F0 = none := hF0
  generalize upd H3 F0 (.lst (ys.map V.str)) = H4 at x4 k4 ⊢
  have em : ys[m]? = some ys[m] := List.getElem?_eq_getElem hm
  have en : ys[n]? = some ys[n] := List.getElem?_eq_getElem hn
  refine ⟨_, rfl, _, rfl, l, _, _, .str ys[m], rfl, rfl, SqL.of (x4 _ _ h3), atI_nat (by rw [List.getElem?_map, em]; rfl), _, rfl, _, rfl, l, _, _, .str ys[n], rfl, rfl, SqL.of (x4 _ _ h3), atI_nat (by rw [List.getElem?_map, en]; rfl), tiny (show 2 ≤ 1000 by decide), fun pt hpt => ?_⟩
  have x5 := sm_new (o := .tup [.str ys[m], .str ys[n]]) hpt
  have k5 : upd H4 pt (.tup [.str ys[m], .str ys[n]]) pt = some (.tup [.str ys[m], .str ys[n]]) := upd_same
  generalize upd H4 pt (.tup [.str ys[m], .str ys[n]]) = H5 at x5 k5 ⊢
  have k45 := x5 _ _ k4
  refine ⟨pt, _, rfl, SqT.of k5, rfl, _, _, rfl, _, rfl, _, rfl, F0, _, _, n, rfl, rfl, k45, by rw [List.length_map]; exact ix_of (by omega) (by omega), ?_⟩
  rw [show (ys.map V.str).set n (V.str ys[m]) = (ys.set n ys[m]).map V.str from List.map_set.symm]
  have k6 : upd H5 F0 (.lst ((ys.set n ys[m]).map V.str)) F0 = some (.lst ((ys.set n ys[m]).map V.str)) := upd_same
  refine ⟨_, _, rfl, _, rfl, _, rfl, F0, _, _, m, rfl, rfl, k6, by rw [List.length_map, List.length_set]; exact ix_of (by omega) (by omega), rfl, ?_⟩
  rw [show ((ys.set n ys[m]).map V.str).set m (V.str ys[n]) = ((ys.set n ys[m]).set m ys[n]).map V.str from List.map_set.symm]
  have x45 := x4.trans x5
  have fF : FlowAt (upd (upd H5 F0 (.lst ((ys.set n ys[m]).map V.str))) F0 (.lst (((ys.set n ys[m]).set m ys[n]).map V.str))) a := ((x45.flow f3).set (Ne.symm nF)).set (Ne.symm nF)
  have yF : Same H3 (upd (upd H5 F0 (.lst ((ys.set n ys[m]).map V.str))) F0 (.lst (((ys.set n ys[m]).set m ys[n]).map V.str))) := (x45.at hFn).at hFn
  refine ⟨_, rfl, q F0 ((ys.set n ys[m]).set m ys[n]) _ (by rw [List.length_set, List.length_set]; omega) (fun z hz => ?_) ?_ fF (x13.trans yF.ext) upd_same⟩
  · rcases List.mem_or_eq_of_mem_set hz with h | h
    · rcases List.mem_or_eq_of_mem_set h with h | h
      · exact h
      · rw [h]; exact List.getElem_mem hm
    · rw [h]; exact List.getElem_mem hn
  · have t1 := tot_set (ys := ys.set n ys[m]) (j := m) (y := ys[n])
    have t2 := tot_set (ys := ys) (j := n) (y := ys[m])
    have t3 := tot_mem (List.getElem_mem hm)
    have t4 := tot_mem (List.getElem_mem hn)
    omega
end
end KK
namespace KK
open PySem L2 PyProof.Rows KKM
section
variable {P : Program} {w : World} {K : PySem.W.Frag} {mg : Str → Option Value} {base : Heap} {f g g2 g3 g4 : Addr} {fd gd gd2 gd3 gd4 : FuncData} {k j : Nat} {C CT CB CG CN M ft fb fn : Addr} {ftd fbd fnd : FuncData}
def spSigns : Sp := fun vs H Q _ => vs = [] ∧ ∀ y : Str, 1 ≤ y.length → y.length ≤ 1000 → Q (.str y) H
theorem sc_signs : FnScope ["_law_signs_here"] [] (defScope s_law_signs) := ⟨rfl, rfl, rfl, by decide +kernel, rfl, by decide +kernel, by decide +kernel⟩
theorem ok_signs (F : Fun K "_law_signs" "_law_signs" s_law_signs f fd) : FnOk P w K mg base CX0 (k + 1) f fd [] spSigns := by
  refine F.ok sc_signs (fun vs H Q E h => ?_) (fun cdv A outer s H vs Q E hr h => ?_)
  · obtain ⟨rfl, _⟩ := h
    rfl
  obtain ⟨rfl, q⟩ := h
  have nd := sc_signs.nd
  refine ⟨_, (pss_cons (ps_set (i := 0) nd rfl (Or.inl rfl) pe_str)
    (pss_one (ps_ret (pe_op op_add_str (pv 0) pe_str)))), ?_⟩
  try dsimp only [cxOf, Cx.nox, Cx.wish]
  refine lats2 ?_
  intro D0 σ0 U2
  refine ⟨_, rfl, _, _, rfl, rfl, tiny (by decide +kernel), q _ (by decide +kernel) (by decide +kernel)⟩
theorem pickS {xs : List Str} {r : Int} (h0 : 0 ≤ r) (h1 : r < xs.length) : ∃ x : Str, atI (xs.map V.str) r = some (.str x) ∧ x ∈ xs := by
  obtain ⟨n, rfl⟩ := Int.eq_ofNat_of_zero_le h0
  have hn : n < xs.length := by omega
  exact ⟨xs[n], atI_nat (by rw [List.getElem?_map, List.getElem?_eq_getElem hn]; rfl), List.getElem_mem hn⟩
theorem pickC {y : Str} {r : Int} (h0 : 0 ≤ r) (h1 : r < y.length) : ∃ c, atI y.cps.toList r = some c := by
  obtain ⟨n, rfl⟩ := Int.eq_ofNat_of_zero_le h0
  have hn : n < y.cps.toList.length := by rw [Array.length_toList]; have : ((n : Nat) : Int) < (y.cps.size : Nat) := h1; omega
  exact ⟨_, atI_nat (List.getElem?_eq_getElem hn)⟩
theorem one_feeds {y : Str} (h : y.length ≤ 1) : feeds y ≤ 1 := Nat.le_trans (feeds_le y) h
theorem app_len' (x y : Str) : (x ++ y).length = x.length + y.length := Array.size_append ..
abbrev oddW : List Str := ["01", "00", "+1", "1_0", "-0", "-1", "999", "1000", "Good", "letters", "good", "", "abcdefghi", "7", "x"]
theorem odd_ok : ∀ z ∈ oddW, z.length ≤ 9 ∧ 10 ∉ z.cps.toList := by decide +kernel
def spSpoilt : Sp := fun vs H Q _ => ∃ (a : Addr) (t : Str), vs = [.ref a, .str t] ∧ FlowAt H a ∧ t.length ≤ 30000 ∧
  ∀ (t' : Str) (H' : Hp), t'.length ≤ 4 * t.length + 20 → feeds t' ≤ 2 * feeds t + 1 → FlowAt H' a → Ext a H H' → Q (.str t') H'
theorem sc_spoilt : FnScope ["_law_flow_here", "_law_text_here", "_law_form", "_law_at", "_law_signs_here", "_law_sign", "_law_rows", "_law_row", "_law_words", "_law_odd"] ["_law_flow_here", "_law_text_here"] (defScope s_law_spoilt) := ⟨rfl, rfl, rfl, by decide +kernel, rfl, by decide +kernel, by decide +kernel⟩
theorem pa_strs {X : Cx} : ∀ cs : List (Str × Pos), PA X (cs.map fun c => .Constant (.str c.1) 0 c.2) (cs.foldr (fun c t => tCons (tC (.str c.1)) t) tNil)
  | [] => pa_nil
  | c :: r => pa_cons pe_str (pa_strs r) (by rfl)
theorem ps_strs {X : Cx} {i : Nat} {x : Str} (cs : List (Str × Pos)) {pos pos' pos2 : Pos} (hN : X.N.Nodup) (hi : X.N[i]? = some x) (hx : Loc X.env.scope x) (hf : X.fn x = true ∨ X.env.scope.names.lookup x = some .local) : PS X (.Assign [.Name x pos'] (.List (cs.map fun c => .Constant (.str c.1) 0 c.2) pos2) pos) (tAsg (tLst (cs.foldr (fun c t => tCons (tC (.str c.1)) t) tNil)) (gName i)) := ps_set hN hi hx (pe_lst (pa_strs cs)) (by rfl) hf
def oddP : List (Str × Pos) := [("01", ⟨181, 20, 181, 24⟩), ("00", ⟨181, 26, 181, 30⟩), ("+1", ⟨181, 32, 181, 36⟩), ("1_0", ⟨181, 38, 181, 43⟩), ("-0", ⟨181, 45, 181, 49⟩), ("-1", ⟨181, 51, 181, 55⟩), ("999", ⟨181, 57, 181, 62⟩), ("1000", ⟨181, 64, 181, 70⟩), ("Good", ⟨181, 72, 181, 78⟩), ("letters", ⟨181, 80, 181, 89⟩), ("good", ⟨181, 91, 181, 97⟩), ("", ⟨181, 99, 181, 101⟩), ("abcdefghi", ⟨181, 103, 181, 114⟩), ("7", ⟨181, 116, 181, 119⟩), ("x", ⟨181, 121, 181, 124⟩)]
theorem odd_ex : ∃ cs : List (Str × Pos), (cs.map fun c => Expr.Constant (.str c.1) 0 c.2) = [.Constant (.str "01") 0 ⟨181, 20, 181, 24⟩, .Constant (.str "00") 0 ⟨181, 26, 181, 30⟩, .Constant (.str "+1") 0 ⟨181, 32, 181, 36⟩, .Constant (.str "1_0") 0 ⟨181, 38, 181, 43⟩, .Constant (.str "-0") 0 ⟨181, 45, 181, 49⟩, .Constant (.str "-1") 0 ⟨181, 51, 181, 55⟩, .Constant (.str "999") 0 ⟨181, 57, 181, 62⟩, .Constant (.str "1000") 0 ⟨181, 64, 181, 70⟩, .Constant (.str "Good") 0 ⟨181, 72, 181, 78⟩, .Constant (.str "letters") 0 ⟨181, 80, 181, 89⟩, .Constant (.str "good") 0 ⟨181, 91, 181, 97⟩, .Constant (.str "") 0 ⟨181, 99, 181, 101⟩, .Constant (.str "abcdefghi") 0 ⟨181, 103, 181, 114⟩, .Constant (.str "7") 0 ⟨181, 116, 181, 119⟩, .Constant (.str "x") 0 ⟨181, 121, 181, 124⟩] ∧ (cs.foldr (fun c t => tCons (tC (.str c.1)) t) tNil) = (tCons (tC (.str "01")) (tCons (tC (.str "00")) (tCons (tC (.str "+1")) (tCons (tC (.str "1_0")) (tCons (tC (.str "-0")) (tCons (tC (.str "-1")) (tCons (tC (.str "999")) (tCons (tC (.str "1000")) (tCons (tC (.str "Good")) (tCons (tC (.str "letters")) (tCons (tC (.str "good")) (tCons (tC (.str "")) (tCons (tC (.str "abcdefghi")) (tCons (tC (.str "7")) (tCons (tC (.str "x")) tNil))))))))))))))) := ⟨oddP, rfl, rfl⟩
def elseS : List Stmt := match (defBody s_law_spoilt)[7]? with | some (Stmt.If _ _ b _) => b | _ => []
theorem elseW (B : Bt mg) (G__law_draw : Fn P w K mg base (k + 1) "_law_draw" ["_law_flow_here", "_law_many"] spDraw g gd) (G__law_signs : Fn P w K mg base (k + 1) "_law_signs" [] spSigns g2 gd2) (G__law_moved : Fn P w K mg base (k + 1) "_law_moved" ["_law_flow_here", "_law_some"] spMoved g3 gd3)
    {cdv : Value} {A : Around} {outer : List Env} {s : Shared} {H : Hp} {E : XK} (nd : List.Nodup (["_law_flow_here", "_law_text_here", "_law_form", "_law_at", "_law_signs_here", "_law_sign", "_law_rows", "_law_row", "_law_words", "_law_odd"] : List Str)) (hr : Room (k + 1) (A.deeper (envOfC "_law_spoilt" (defScope s_law_spoilt) s.heap.objs.size f cdv))) :
    ∃ u, u = (tSeq (tAsg (tLst (tCons (tC (.str "01")) (tCons (tC (.str "00")) (tCons (tC (.str "+1")) (tCons (tC (.str "1_0")) (tCons (tC (.str "-0")) (tCons (tC (.str "-1")) (tCons (tC (.str "999")) (tCons (tC (.str "1000")) (tCons (tC (.str "Good")) (tCons (tC (.str "letters")) (tCons (tC (.str "good")) (tCons (tC (.str "")) (tCons (tC (.str "abcdefghi")) (tCons (tC (.str "7")) (tCons (tC (.str "x")) tNil)))))))))))))))) (gName 9)) (tSeq (tAsg (tOp (rIxL K) (tVar 9) (tCall spDraw [] E0 (tCons (tVar 0) (tCons (tC (.int 15)) tNil)))) (gSub (tVar 8) (tCall spDraw [] E0 (tCons (tVar 0) (tCons (tCB (fun xs H Q => ∃ p ys, xs = [.ref p] ∧ (SqL K H p ys ∨ SqT K H p ys) ∧ Q (.int ys.length) H) (tCons (tVar 8) tNil)) tNil))) rSetL)) (tAsg (tBM K "str" (rJoin K) (tC (.str " ")) (tCons (tVar 8) tNil)) (gSub (tVar 6) (tVar 7) rSetL)))) ∧ PSs (cxOf CX0 P w K mg base ["_law_flow_here", "_law_text_here", "_law_form", "_law_at", "_law_signs_here", "_law_sign", "_law_rows", "_law_row", "_law_words", "_law_odd"] "_law_spoilt" (defScope s_law_spoilt) f cdv A outer s H E).nox elseS u := by
  refine ⟨_, rfl, ?_⟩
  obtain ⟨cs, h1, h2⟩ := odd_ex
  have b := ps_strs (X := (cxOf CX0 P w K mg base ["_law_flow_here", "_law_text_here", "_law_form", "_law_at", "_law_signs_here", "_law_sign", "_law_rows", "_law_row", "_law_words", "_law_odd"] "_law_spoilt" (defScope s_law_spoilt) f cdv A outer s H E).nox) (i := 9) (x := "_law_odd") cs (pos := ⟨181, 8, 181, 125⟩) (pos' := ⟨181, 8, 181, 16⟩) (pos2 := ⟨181, 19, 181, 125⟩) nd rfl (Or.inl rfl) (by first | exact .inl rfl | exact .inr rfl)
  rw [h1, h2] at b
  refine pss_cons ?_ ?_
  · assumption
  · refine pss_cons ?_ ?_
    · exact (ps_asg (pe_ix ix_list (pv 9) (pe_call G__law_draw.ok hr rfl G__law_draw.at_ G__law_draw.kp G__law_draw.bn .nil pass0 (pa_cons (pv 0) (pa_cons pe_int pa_nil))) (fun _ _ => rfl)) (pg_sub (pv 8) (pe_call G__law_draw.ok hr rfl G__law_draw.at_ G__law_draw.kp G__law_draw.bn .nil pass0 (pa_cons (pv 0) (pa_cons (pe_callB call_len_seq rfl B.len_ PySem.boot_len (pa_cons (pv 8) pa_nil)) pa_nil))) set_list))
    · refine pss_one ?_
      exact (ps_asg (pe_bm (T := "str") (name := "join") (id := "str.join") PySem.F.plainAttrs_str PySem.F.slot_str_join PySem.F.type_str_join mt_join pe_str (pa_cons (pv 8) pa_nil)) (pg_sub (pv 6) (pv 7) set_list))
end
end KK
namespace KK
open PySem L2 PyProof.Rows KKM
section
variable {P : Program} {w : World} {K : PySem.W.Frag} {mg : Str → Option Value} {base : Heap} {f g g2 g3 g4 : Addr} {fd gd gd2 gd3 gd4 : FuncData} {k j : Nat} {C CT CB CG CN M ft fb fn : Addr} {ftd fbd fnd : FuncData}
theorem ok_spoilt (F : Fun K "_law_spoilt" "_law_spoilt" s_law_spoilt f fd) (B : Bt mg) (G__law_draw : Fn P w K mg base (k + 1) "_law_draw" ["_law_flow_here", "_law_many"] spDraw g gd) (G__law_signs : Fn P w K mg base (k + 1) "_law_signs" [] spSigns g2 gd2) (G__law_moved : Fn P w K mg base (k + 1) "_law_moved" ["_law_flow_here", "_law_some"] spMoved g3 gd3) :
    FnOk P w K mg base CX0 (k + 2) f fd ["_law_flow_here", "_law_text_here"] spSpoilt := by
  refine F.ok sc_spoilt (fun vs H Q E h => ?_) (fun cdv A outer s H vs Q E hr h => ?_)
  · obtain ⟨a, t, rfl, _⟩ := h
    rfl
  obtain ⟨a, t, rfl, hF, tM, q⟩ := h
  have nd := sc_spoilt.nd
  have hz : t.length ≤ sizeLine := lineM (by omega)
  obtain ⟨uE, huE, hE⟩ := elseW (P := P) (w := w) (base := base) (outer := outer) (H := H) (E := E) B G__law_draw G__law_signs G__law_moved nd hr
  subst huE
  refine ⟨_, (pss_cons (ps_set (i := 2) nd rfl (Or.inl rfl) (pe_call G__law_draw.ok hr rfl G__law_draw.at_ G__law_draw.kp G__law_draw.bn .nil pass0 (pa_cons (pv 0) (pa_cons pe_int pa_nil))))
    (pss_cons (ps_set (i := 3) nd rfl (Or.inl rfl) (pe_call G__law_draw.ok hr rfl G__law_draw.at_ G__law_draw.kp G__law_draw.bn .nil pass0 (pa_cons (pv 0) (pa_cons (pe_op op_add (pe_callB call_len_str rfl B.len_ PySem.boot_len (pa_cons (pv 1) pa_nil)) pe_int) pa_nil))))
    (pss_cons (ps_if (pt_cmpR op_lt (pv 2) pe_int (nomark _)) (pss_cons (ps_set (i := 4) nd rfl (Or.inl rfl) (pe_ix ix_list (pe_lst (pa_cons (pe_call0 G__law_signs.ok hr rfl G__law_signs.at_ G__law_signs.kp G__law_signs.bn .nil pass0) (pa_cons pe_str pa_nil))) (pe_call G__law_draw.ok hr rfl G__law_draw.at_ G__law_draw.kp G__law_draw.bn .nil pass0 (pa_cons (pv 0) (pa_cons pe_int pa_nil))) (fun _ _ => rfl)))
    (pss_cons (ps_set (i := 5) nd rfl (Or.inl rfl) (pe_ix ix_str (pv 4) (pe_call G__law_draw.ok hr rfl G__law_draw.at_ G__law_draw.kp G__law_draw.bn .nil pass0 (pa_cons (pv 0) (pa_cons (pe_callB call_len_str rfl B.len_ PySem.boot_len (pa_cons (pv 4) pa_nil)) pa_nil))) (fun _ _ => rfl)))
    (pss_one (ps_ret (pe_op op_add_str (pe_op op_add_str (pe_slice sl_str (pv 1) po_none (po_some (pv 3))) (pe_ix ix_list (pe_lst (pa_cons (pv 5) (pa_cons pe_str (pa_cons (pv 5) pa_nil)))) (pv 2) (fun _ _ => rfl))) (pe_slice sl_str (pv 1) (po_some (pe_op op_add (pv 3) (pe_callTy call_intB rfl B.int_ (by decide +kernel) (pa_cons (pe_cmpR op_gt (pv 2) pe_int (nomark _)) pa_nil)))) po_none)))))) pss_nil)
    (pss_cons (ps_set (i := 6) nd rfl (Or.inl rfl) (pe_bm (T := "str") (name := "split") (id := "str.split") PySem.F.plainAttrs_str PySem.F.slot_str_split PySem.F.type_str_split mt_split (pv 1) (pa_cons pe_str pa_nil)))
    (pss_cons (ps_if (pt_cmpR op_eq (pv 2) pe_int (nomark _)) (pss_one (ps_ret (pe_bm (T := "str") (name := "join") (id := "str.join") PySem.F.plainAttrs_str PySem.F.slot_str_join PySem.F.type_str_join mt_join pe_str (pa_cons (pe_call G__law_moved.ok hr rfl G__law_moved.at_ G__law_moved.kp G__law_moved.bn .nil pass0 (pa_cons (pv 0) (pa_cons (pv 6) pa_nil))) pa_nil)))) pss_nil)
    (pss_cons (ps_set (i := 7) nd rfl (Or.inl rfl) (pe_call G__law_draw.ok hr rfl G__law_draw.at_ G__law_draw.kp G__law_draw.bn .nil pass0 (pa_cons (pv 0) (pa_cons (pe_callB call_len_seq rfl B.len_ PySem.boot_len (pa_cons (pv 6) pa_nil)) pa_nil))))
    (pss_cons (ps_set (i := 8) nd rfl (Or.inl rfl) (pe_bm (T := "str") (name := "split") (id := "str.split") PySem.F.plainAttrs_str PySem.F.slot_str_split PySem.F.type_str_split mt_split (pe_ix ix_list (pv 6) (pv 7) (fun _ _ => rfl)) (pa_cons pe_str pa_nil)))
    (pss_cons (ps_if (pt_cmpR op_eq (pv 2) pe_int (nomark _)) (pss_one (ps_asg (pe_bm (T := "str") (name := "join") (id := "str.join") PySem.F.plainAttrs_str PySem.F.slot_str_join PySem.F.type_str_join mt_join pe_str (pa_cons (pe_call G__law_moved.ok hr rfl G__law_moved.at_ G__law_moved.kp G__law_moved.bn .nil pass0 (pa_cons (pv 0) (pa_cons (pv 8) pa_nil))) pa_nil)) (pg_sub (pv 6) (pv 7) set_list))) (by assumption))
    (pss_one (ps_ret (pe_bm (T := "str") (name := "join") (id := "str.join") PySem.F.plainAttrs_str PySem.F.slot_str_join PySem.F.type_str_join mt_join pe_str (pa_cons (pv 6) pa_nil)))))))))))), ?_⟩
  try dsimp only [cxOf, Cx.nox, Cx.wish]
  refine lats9 ?_
  intro D0 σ0 U9 U8 U7 U6 U5 U4 U3 U2
  refine ⟨_, rfl, a, 6, rfl, hF, by decide, by decide, fun r1 H1 a0 a1 f1 x1 => ?_⟩
  refine ⟨_, rfl, _, rfl, _, rfl, hz, _, _, rfl, rfl, a, _, rfl, f1, by omega, by omega, fun r2 H2 b0 b1 f2 x2 => ?_⟩
  have x12 := x1.trans x2
  refine ⟨_, rfl, _, _, rfl, rfl, _, rfl, ite2 (fun h3 => ?_) (fun h3 => ?_)⟩
  · refine ⟨rfl, fun sg sg1 sgM => ⟨tiny (show 2 ≤ 1000 by decide), fun p3 hp3 => ?_⟩⟩
    have x3 := sm_new (o := .lst [.str sg, .str "0123456789 \n"]) hp3
    have k3 : upd H2 p3 (.lst [.str sg, .str "0123456789 \n"]) p3 = some (.lst ([sg, "0123456789 \n"].map V.str)) := upd_same
    have f3 := x3.flow f2
    have n3 : p3 ≠ a := ne_flow hp3 f2
    generalize upd H2 p3 (.lst [.str sg, .str "0123456789 \n"]) = H3 at x3 k3 f3 ⊢
    refine ⟨_, rfl, a, 2, rfl, f3, by decide, by decide, fun r4 H4 c0 c1 f4 x4 => ?_⟩
    obtain ⟨si, hsi, hsm⟩ := pickS (xs := [sg, "0123456789 \n"]) c0 c1
    have hs1 : 1 ≤ si.length ∧ si.length ≤ 1000 := by
      rcases List.mem_cons.mp hsm with rfl | hsm
      · exact ⟨sg1, sgM⟩
      · rw [List.mem_singleton.mp hsm]; exact ⟨by decide +kernel, by decide +kernel⟩
    refine ⟨p3, _, _, _, rfl, rfl, SqL.of (x4 _ _ n3 k3), hsi, ?_⟩
    have hsz : si.length ≤ sizeLine := tiny hs1.2
    refine ⟨_, rfl, _, rfl, _, rfl, _, rfl, hsz, a, _, rfl, f4, by omega, by omega, fun r5 H5 d0 d1 f5 x5 => ?_⟩
    obtain ⟨c, hc⟩ := pickC d0 d1
    refine ⟨si, _, c, rfl, rfl, hsz, hc, ?_⟩
    have x35 := x12.trans (x3.ext.trans (x4.trans x5))
    have e1 := Txt.slice_le t none (some r2)
    have x5H : Ext a H H5 := x35
    have l1 : (⟨#[c]⟩ : Str).length = 1 := rfl
    refine ⟨_, rfl, _, rfl, _, rfl, t, rfl, hz, ?_⟩
    refine ⟨_, rfl, _, rfl, tiny (show 3 ≤ 1000 by decide), fun p6 hp6 => ?_⟩
    have x6 := sm_new (o := .lst [.str ⟨#[c]⟩, .str "", .str ⟨#[c]⟩]) hp6
    have k6 : upd H5 p6 (.lst [.str ⟨#[c]⟩, .str "", .str ⟨#[c]⟩]) p6 = some (.lst ([(⟨#[c]⟩ : Str), "", ⟨#[c]⟩].map V.str)) := upd_same
    have f6 := x6.flow f5
    generalize upd H5 p6 (.lst [.str ⟨#[c]⟩, .str "", .str ⟨#[c]⟩]) = H6 at x6 k6 f6 ⊢
    have h3' : r1 < 3 := of_decide_eq_true h3
    obtain ⟨y, hy, hym⟩ := pickS (xs := [(⟨#[c]⟩ : Str), "", ⟨#[c]⟩]) a0 (by show r1 < 3; exact h3')
    have hyl : y.length ≤ 1 := by
      rcases List.mem_cons.mp hym with rfl | hym
      · exact Nat.le_refl _
      rcases List.mem_cons.mp hym with rfl | hym
      · decide
      · rw [List.mem_singleton.mp hym]; exact Nat.le_refl _
    refine ⟨_, rfl, p6, _, _, _, rfl, rfl, SqL.of k6, hy, _, _, rfl, rfl, lineM (by omega), ?_⟩
    refine ⟨_, rfl, _, rfl, _, rfl, _, _, rfl, rfl, _, rfl, _, _, rfl, rfl, _, rfl, t, rfl, hz, ?_⟩
    have hb : ∀ b : Bool, 0 ≤ r2 + (if b = true then (1 : Int) else 0) := fun b => by cases b <;> simp <;> omega
    generalize decide (r1 > 0) = bb
    have e2 := Txt.slice_le t (some (r2 + (if bb = true then (1 : Int) else 0))) none
    have e3 := app_len' (Txt.slice t none (some r2)) y
    have e4 := app_len' (Txt.slice t none (some r2) ++ y) (Txt.slice t (some (r2 + (if bb = true then (1 : Int) else 0))) none)
    refine ⟨_, _, rfl, rfl, lineM (by omega), q _ H6 (by omega) ?_ f6 (x5H.trans x6.ext)⟩
    have g1 := feeds_to (x := t) b0 (by omega)
    have g2 := feeds_from (x := t) (hb bb)
    have g3 := one_feeds hyl
    rw [feeds_app, feeds_app]
    omega
  · obtain ⟨wss, W, rfl⟩ := text_words t
    have hrl : (textW wss).length + 1 = tot (wss.map rowW) := by
      rw [textW, sp_feed]; exact len_join 10 fun z => W.ne (List.map_eq_nil_iff.mp z)
    have hrn := tot_len (wss.map rowW)
    have hft := feeds_text W
    have hw1 : 1 ≤ wss.length := List.length_pos_iff.mpr W.ne
    have hnf : ∀ y ∈ wss.map rowW, 10 ∉ y.cps.toList := fun y hy => by
      obtain ⟨ws, h, rfl⟩ := List.mem_map.mp hy
      exact row_nf (W.nf ws h)
    rw [List.length_map] at hrn
    refine ⟨_, rfl, rfl, _, _, rfl, rfl, rfl, lineM (by omega), by rw [split_text W, List.length_map]; exact lineM (by omega), fun L hL => ?_⟩
    rw [split_text W]
    have x3 := sm_new (o := .lst ((wss.map rowW).map V.str)) hL
    have k3 : upd H2 L (.lst ((wss.map rowW).map V.str)) L = some (.lst ((wss.map rowW).map V.str)) := upd_same
    have f3 := x3.flow f2
    have nL : L ≠ a := ne_flow hL f2
    have hL0 : H L = none := x12.free f2 hL
    generalize upd H2 L (.lst ((wss.map rowW).map V.str)) = H3 at x3 k3 f3 ⊢
    have x13 := x12.trans x3.ext
    have cont : ∀ (v8 v9 : Option V) (r7 : Int) (nr : Str) (i : Nat) (H' : Hp), 10 ∉ nr.cps.toList → nr.length ≤ 3 * (textW wss).length + 14 → FlowAt H' a → Ext a H H' → H' L = some (.lst (((wss.map rowW).set i nr).map V.str)) →
        U9 D0 [some (.ref a), some (.str (textW wss)), some (.int r1), some (.int r2), none, none, some (.ref L), some (.int r7), v8, v9] H' := fun v8 v9 r7 nr i H' hn hl f' x' h' => by
      have t1 := tot_set (ys := wss.map rowW) (j := i) (y := nr)
      have hne : (wss.map rowW).set i nr ≠ [] := fun z => by
        have := congrArg List.length z
        rw [List.length_set, List.length_map] at this
        have z2 : ([] : List Str).length = 0 := rfl
        omega
      have t2 := len_join 10 hne
      refine ⟨rfl, _, rfl, _, L, _, rfl, rfl, SqL.of h', sum_feed (by omega), q _ H' ?_ ?_ f' x'⟩
      · rw [sp_feed]; omega
      · have t3 := feeds_rows hne fun y hy => (List.mem_or_eq_of_mem_set hy).elim (hnf y) fun e => e ▸ hn
        rw [List.length_set, List.length_map] at t3
        omega
    refine ⟨_, rfl, rfl, _, rfl, ite2 (fun _ => ?_) (fun _ => ?_)⟩
    · refine ⟨rfl, _, rfl, _, rfl, a, L, wss.map rowW, rfl, f3, k3, nL, by rw [List.length_map]; omega, by rw [List.length_map]; omega, fun r zs H4 zl zm zt f4 x4 h4 => ?_⟩
      rw [List.length_map] at zl
      refine ⟨_, r, zs, rfl, rfl, SqL.of h4, sum_feed (by omega), q _ H4 ?_ ?_ f4 (x13.trans x4)⟩
      · have := len_le 10 zs
        rw [sp_feed]; omega
      · by_cases hz0 : zs = []
        · subst hz0
          rw [sp_feed]
          exact Nat.zero_le _
        · have := feeds_rows hz0 fun y hy => hnf y (zm y hy)
          omega
    refine ⟨_, rfl, _, rfl, L, _, rfl, .inl (SqL.of k3), a, _, rfl, f3, by rw [List.length_map, List.length_map]; omega, by rw [List.length_map, List.length_map]; omega, fun r7 H7 g0 g1 f7 x7 => ?_⟩
    obtain ⟨i, rfl⟩ := Int.eq_ofNat_of_zero_le g0
    rw [List.length_map, List.length_map] at g1
    have hi : i < wss.length := by omega
    have ei : wss[i]? = some wss[i] := List.getElem?_eq_getElem hi
    have hmi : wss[i] ∈ wss := List.getElem_mem hi
    have k7 := x7 _ _ nL k3
    have hrow := row_len W hmi
    have hwt := wd_tot (W.rne _ hmi)
    have hwn := tot_len wss[i]
    refine ⟨_, rfl, _, rfl, L, _, _, .str (rowW wss[i]), rfl, rfl, SqL.of k7, atI_nat (by rw [List.getElem?_map, List.getElem?_map, ei]; rfl), rfl, _, _, rfl, rfl, rfl, lineM (by omega), by rw [split_row (W.rne _ hmi) (W.nb _ hmi)]; exact lineM (by omega), fun L8 hL8 => ?_⟩
    rw [split_row (W.rne _ hmi) (W.nb _ hmi)]
    have x8 := sm_new (o := .lst (wss[i].map V.str)) hL8
    have k8 : upd H7 L8 (.lst (wss[i].map V.str)) L8 = some (.lst (wss[i].map V.str)) := upd_same
    have f8 := x8.flow f7
    have n8 : L8 ≠ a := ne_flow hL8 f7
    have nL8 : L ≠ L8 := ne_of_none k7 hL8
    generalize upd H7 L8 (.lst (wss[i].map V.str)) = H8 at x8 k8 f8 ⊢
    have x18 := (x13.trans x7).trans x8.ext
    have kL := x8 _ _ k7
    have hwl : 1 ≤ wss[i].length := List.length_pos_iff.mpr (W.rne _ hmi)
    refine ⟨_, rfl, rfl, _, rfl, ite2 (fun _ => ?_) (fun _ => ?_)⟩
    · refine ⟨rfl, _, rfl, _, rfl, a, L8, wss[i], rfl, f8, k8, n8, hwl, by omega, fun r zs H9 zl zm zt f9 x9 h9 => ?_⟩
      have kL9 := x9 _ _ nL kL
      refine ⟨_, r, zs, rfl, rfl, SqL.of h9, sum_blank (by omega), _, rfl, _, rfl, L, _, _, i, rfl, rfl, kL9, by rw [List.length_map, List.length_map]; exact ix_of (by omega) (by omega), ?_⟩
      refine cont _ none _ (Txt.join " " zs) i _ ?_ ?_ (f9.set (Ne.symm nL)) ((x18.trans x9).at hL0) (by rw [upd_same, List.map_set])
      · rw [sp_blank, join_toL]
        exact jl_no (by decide) fun y hy => W.nf _ hmi y (zm y hy)
      · have := len_le 32 zs
        rw [sp_blank]; omega
    · refine ⟨tiny (show 15 ≤ 1000 by decide), fun p9 hp9 => ?_⟩
      have x9 := sm_new (o := .lst (oddW.map V.str)) hp9
      have k9 : upd H8 p9 (.lst (oddW.map V.str)) p9 = some (.lst (oddW.map V.str)) := upd_same
      have f9 := x9.flow f8
      have n9 : p9 ≠ a := ne_flow hp9 f8
      have n98 : L8 ≠ p9 := ne_of_none k8 hp9
      rw [show ([V.str "01", .str "00", .str "+1", .str "1_0", .str "-0", .str "-1", .str "999", .str "1000", .str "Good", .str "letters", .str "good", .str "", .str "abcdefghi", .str "7", .str "x"] : List V) = oddW.map V.str from rfl]
      generalize upd H8 p9 (.lst (oddW.map V.str)) = H9 at x9 k9 f9 ⊢
      refine ⟨_, rfl, _, rfl, a, 15, rfl, f9, by decide, by decide, fun r10 H10 c0 c1 f10 x10 => ?_⟩
      obtain ⟨od, hod, hodm⟩ := pickS (xs := oddW) c0 c1
      obtain ⟨ol, onf⟩ := odd_ok od hodm
      have k10 := x10 _ _ n8 (x9 _ _ k8)
      have kL10 := x10 _ _ nL (x9 _ _ kL)
      refine ⟨p9, _, _, _, rfl, rfl, SqL.of (x10 _ _ n9 k9), hod, ?_⟩
      refine ⟨_, rfl, _, rfl, _, rfl, L8, _, rfl, .inl (SqL.of k10), a, _, rfl, f10, by rw [List.length_map]; omega, by rw [List.length_map]; omega, fun r11 H11 d0 d1 f11 x11 => ?_⟩
      rw [List.length_map] at d1
      have k11 := x11 _ _ n8 k10
      have kL11 := x11 _ _ nL kL10
      refine ⟨L8, _, _, r11.toNat, rfl, rfl, k11, by rw [List.length_map]; exact ix_of d0 d1, ?_⟩
      rw [show (wss[i].map V.str).set r11.toNat (V.str od) = (wss[i].set r11.toNat od).map V.str from List.map_set.symm]
      have t1 := tot_set (ys := wss[i]) (j := r11.toNat) (y := od)
      have x12' : Ext a H (upd H11 L8 (.lst ((wss[i].set r11.toNat od).map V.str))) := ((x18.trans x9.ext).trans (x10.trans x11)).at ((x13.trans x7).free f7 hL8)
      refine ⟨rfl, _, rfl, _, L8, _, rfl, rfl, SqL.of upd_same, sum_blank (by omega), _, rfl, _, rfl, L, _, _, i, rfl, rfl, by rw [upd_ne nL8]; exact kL11, by rw [List.length_map, List.length_map]; exact ix_of (by omega) (by omega), ?_⟩
      refine cont _ _ _ (Txt.join " " (wss[i].set r11.toNat od)) i _ ?_ ?_ ((f11.set (Ne.symm n8)).set (Ne.symm nL)) (x12'.at hL0) (by rw [upd_same, List.map_set])
      · rw [sp_blank, join_toL]
        exact jl_no (by decide) fun y hy => (List.mem_or_eq_of_mem_set hy).elim (fun h => W.nf _ hmi y h) fun e => e ▸ onf
      · have := len_le 32 (wss[i].set r11.toNat od)
        rw [sp_blank]; omega
end
end KK
namespace KK
open PySem L2 PyProof.Rows KKM
section
variable {P : Program} {w : World} {K : PySem.W.Frag} {mg : Str → Option Value} {base : Heap} {f g g2 g3 g4 : Addr} {fd gd gd2 gd3 gd4 : FuncData} {k j : Nat} {C CT CB CG CN M ft fb fn : Addr} {ftd fbd fnd : FuncData}
theorem lineL {n : Nat} (h : n < 1000000) : n < sizeLine := Nat.lt_of_lt_of_le h (by rw [sizeLine_eq]; decide)
theorem flat_ints (ys : List Int) : (ys.map V.int).all flatV = true := by
  rw [List.all_eq_true]
  intro x hx
  obtain ⟨y, _, rfl⟩ := List.mem_map.mp hx
  rfl
def numI (x : Int) : Str := Str.ofString (toString x)
theorem num_wd : ∀ n : Nat, n < 24 → (numI (n : Int)).length ≤ 8 ∧ 32 ∉ (numI (n : Int)).cps.toList ∧ 10 ∉ (numI (n : Int)).cps.toList ∧ ((n : Int)).natAbs.log2 < 1920 := by decide +kernel
theorem num_ok {x : Int} (h0 : 0 ≤ x) (h1 : x < 24) : (numI x).length ≤ 8 ∧ 32 ∉ (numI x).cps.toList ∧ 10 ∉ (numI x).cps.toList ∧ x.natAbs.log2 < 1920 := by
  obtain ⟨n, rfl⟩ := Int.eq_ofNat_of_zero_le h0
  exact num_wd n (by omega)
theorem strs_lst {D t : Addr} {Q : VK} {H1 : Hp} {ns : List Int} (hN : ∀ n ∈ ns, 0 ≤ n ∧ n < 24) (h8 : ns.length ≤ 8) (hD : H1 D = none) (ht : H1 t = some (.lst (ns.map V.int))) (hdn : ∀ H', Same H1 H' → H' D = some (.lst ((ns.map numI).map V.str)) → Q (.ref D) H') :
    CompLoop (Itl K t) D (gName 0) tYes (tCB (fun xs H Q => ∃ i : Int, xs = [.int i] ∧ i.natAbs.log2 < 1920 ∧ Q (.str (toString i)) H) (tCons (tVar 0) tNil)) Q [none] H1 := by
  refine comp_list (xs := ns.map V.int) (fun i zs σ H => ∃ v : Option V, zs = ((ns.take i).map numI).map V.str ∧ σ = [v] ∧ Same H1 H) ?_ (by rw [List.length_map]; omega) ?_ ?_ ?_ ?_
  · exact ⟨none, rfl, rfl, sm_new hD⟩
  · rintro i zs σ H ⟨v, rfl, _⟩
    rw [List.length_map, List.length_map, List.length_take]; exact Nat.min_le_left _ _
  · rintro i zs σ H ⟨v, _, _, x⟩
    exact SqL.of (x _ _ ht)
  · rintro i y zs σ H hy hl2 ⟨v, rfl, rfl, x⟩
    rw [List.getElem?_map] at hy
    obtain ⟨n, hn, rfl⟩ := Option.map_eq_some_iff.mp hy
    have hb := hN n (List.mem_of_getElem? hn)
    refine ⟨_, rfl, n, rfl, (num_ok hb.1 hb.2).2.2.2, hl2, _, ?_, rfl, x.at hD⟩
    rw [take_snoc hn, List.map_append, List.map_append]; rfl
  · rintro zs σ H hl2 ⟨v, rfl, _, x⟩
    rw [List.length_map, List.take_length] at hl2
    exact hdn H x hl2
theorem pick2 {b : Bool} {u v : Str} : atI [V.str u, V.str v] (if b = true then 1 else 0) = some (.str (if b = true then v else u)) := by
  cases b with
  | true => exact atI_nat (j := 1) rfl
  | false => exact atI_nat (j := 0) rfl
theorem word_first {b : Bool} {ys : List Str} (h : ys ≠ []) : (if b = true then "good " else "plain " : Str) ++ Txt.join " " ys = rowW ((if b = true then "good" else "plain") :: ys) := by
  cases b with
  | true => exact good_first h
  | false => exact plain_first h
theorem letters_first {ls : List Str} (h : ls ≠ []) : "letters " ++ Txt.join " " ls = rowW (("letters" : Str) :: ls) := join_first (by decide +kernel) h
theorem tot8 {ys : List Str} (h : ∀ y ∈ ys, y.length ≤ 8) : tot ys ≤ 9 * ys.length := by
  induction ys with
  | nil => exact Nat.le_refl _
  | cons y r ih =>
    have h1 := h y (List.mem_cons_self ..)
    have h2 := ih fun z hz => h z (List.mem_cons_of_mem _ hz)
    rw [tot_cons, List.length_cons]; omega
structure RG (c : List Str) : Prop where
  ne : c ≠ []
  nb : ∀ y ∈ c, 32 ∉ y.cps.toList
  nf : ∀ y ∈ c, 10 ∉ y.cps.toList
  l8 : ∀ y ∈ c, y.length ≤ 8
  few : c.length ≤ 7
theorem RG.len {c : List Str} (h : RG c) : (rowW c).length ≤ 62 := by
  have a := tot8 h.l8
  have b := wd_tot h.ne
  have c7 := h.few
  omega
theorem RG.cons {w0 : Str} {c : List Str} (h0 : 32 ∉ w0.cps.toList ∧ 10 ∉ w0.cps.toList ∧ w0.length ≤ 8) (h : ∀ y ∈ c, 32 ∉ y.cps.toList ∧ 10 ∉ y.cps.toList ∧ y.length ≤ 8) (l : c.length ≤ 6) : RG (w0 :: c) := by
  have key : ∀ y ∈ w0 :: c, 32 ∉ y.cps.toList ∧ 10 ∉ y.cps.toList ∧ y.length ≤ 8 := fun y hy => (List.mem_cons.mp hy).elim (fun e => e ▸ h0) (h y)
  exact ⟨List.cons_ne_nil _ _, fun y hy => (key y hy).1, fun y hy => (key y hy).2.1, fun y hy => (key y hy).2.2, by rw [List.length_cons]; omega⟩
theorem abc_no : 32 ∉ abc.cps.toList ∧ 10 ∉ abc.cps.toList := by decide +kernel
theorem nm_rg {y : Str} (h : Nm y) : 32 ∉ y.cps.toList ∧ 10 ∉ y.cps.toList ∧ y.length ≤ 8 := ⟨fun z => abc_no.1 (h.2.2 _ z), fun z => abc_no.2 (h.2.2 _ z), h.2.1⟩
def spText : Sp := fun vs H Q _ => ∃ (l t g : Addr) (rs : List Addr) (ls : List Str) (tb : List (List Int)) (gd : List Int), vs = [.ref l, .ref t, .ref g] ∧ H l = some (.lst (ls.map V.str)) ∧ Tb H t rs tb ls.length ∧ H g = some (.lst (gd.map V.int)) ∧ (∀ z ∈ ls, Nm z) ∧ 1 ≤ ls.length ∧ ls.length ≤ 6 ∧ tb.length ≤ 24 ∧ (∀ r ∈ tb, ∀ x ∈ r, 0 ≤ x ∧ x < 24) ∧
  ∀ (ws : List Str) (rows : List (List Str)) (H' : Hp), WOk (ws :: rows) → rows.length = tb.length → ws.length = ls.length + 1 → (textW (ws :: rows)).length ≤ 2000 → Same H H' → Q (.str (textW (ws :: rows))) H'
theorem sc_text : FnScope ["_law_letters", "_law_table", "_law_good", "_law_rows", "_law_state", "_law_steps"] ["_law_letters", "_law_table", "_law_good"] (defScope s_law_text) := ⟨rfl, rfl, rfl, by decide +kernel, rfl, by decide +kernel, by decide +kernel⟩
theorem ok_text (F : Fun K "_law_text" "_law_text" s_law_text f fd) (B : Bt mg) : FnOk P w K mg base CX0 (k + 1) f fd ["_law_letters", "_law_table", "_law_good"] spText := by
  refine F.ok sc_text (fun vs H Q E h => ?_) (fun cdv A outer s H vs Q E hr h => ?_)
  · obtain ⟨l, t, g, rs, ls, tb, gdl, rfl, _⟩ := h
    rfl
  obtain ⟨l, t, g, rs, ls, tb, gdl, rfl, hl, hT, hg, nm, l1, l6, t24, ent, q⟩ := h
  have nd := sc_text.nd
  have hlne : ls ≠ [] := fun z => by rw [z] at l1; exact absurd l1 (by decide)
  have R0 : RG (("letters" : Str) :: ls) := RG.cons (by decide +kernel) (fun y hy => nm_rg (nm y hy)) l6
  refine ⟨_, (pss_cons (ps_set (i := 3) nd rfl (Or.inl rfl) (pe_lst (pa_cons (pe_op op_add_str pe_str (pe_bm (T := "str") (name := "join") (id := "str.join") PySem.F.plainAttrs_str PySem.F.slot_str_join PySem.F.type_str_join mt_join pe_str (pa_cons (pv 0) pa_nil))) pa_nil)))
    (pss_cons (ps_for PassesOwn.never rfl (pi_enum rfl B.enumerate_ (pa_cons (pv 1) pa_nil)) (pg_tup rfl (pgs_cons (pg_name (i := 4) nd rfl (Or.inl rfl)) (pgs_cons (pg_name (i := 5) nd rfl (Or.inl rfl)) pgs_nil))) (pss_one (ps_expr (pe_bm (T := "list") (name := "append") (id := "list.append") PySem.F.plainAttrs_list PySem.F.slot_list_append PySem.F.type_list_append mt_append (pv 3) (pa_cons (pe_op op_add_str (pe_ix ix_list (pe_lst (pa_cons pe_str (pa_cons pe_str pa_nil))) (pe_callTy call_intB rfl B.int_ (by decide +kernel) (pa_cons (pe_cmpR op_in_seq (pv 4) (pv 2) rfl) pa_nil)) (fun _ _ => rfl)) (pe_bm (T := "str") (name := "join") (id := "str.join") PySem.F.plainAttrs_str PySem.F.slot_str_join PySem.F.type_str_join mt_join pe_str (pa_cons (pe_comp (g := (gName 0)) (tc := tYes) (te := (tCB (fun xs H Q => ∃ i : Int, xs = [.int i] ∧ i.natAbs.log2 < 1920 ∧ Q (.str (toString i)) H) (tCons (tVar 0) tNil))) (own := ["_law_goal"]) (fr := ([] : List Str)) (idx := []) rfl (by show CompScope _ _ _ (defScope s_law_text); exact ⟨rfl, by decide +kernel, by decide +kernel, by decide +kernel, by decide +kernel, by decide +kernel, by decide +kernel⟩) (pi_list (pv 5)) (fun _ _ _ _ _ => (pg_name (i := 0) (by show List.Nodup (["_law_goal"] : List Str); decide +kernel) rfl (Or.inl rfl) (Or.inr rfl))) (fun _ _ _ _ _ => pts_nil) (fun _ _ _ _ _ => (pe_callTy call_strI rfl B.str_ (by decide +kernel) (pa_cons (pv 0) pa_nil))) rfl (hat_of rfl)) pa_nil))) pa_nil)))))
    (pss_one (ps_ret (pe_bm (T := "str") (name := "join") (id := "str.join") PySem.F.plainAttrs_str PySem.F.slot_str_join PySem.F.type_str_join mt_join pe_str (pa_cons (pv 3) pa_nil)))))), ?_⟩
  try dsimp only [cxOf, Cx.nox, Cx.wish]
  refine lats3 ?_
  intro D0 σ0 U3 U2
  have tl : tot ls ≤ 54 := by have := tot8 fun y hy => (nm y hy).2.1; omega
  have jl := len_le 32 ls
  refine ⟨rfl, _, rfl, _, l, ls, rfl, rfl, SqL.of hl, sum_blank (by omega), _, _, rfl, rfl, ?_⟩
  have jl' : (Txt.join " " ls).length ≤ 54 := by rw [sp_blank]; omega
  have ll8 : ("letters " : Str).length = 8 := by decide +kernel
  refine ⟨lineM (by omega), tiny (show 1 ≤ 1000 by decide), fun R hR => ?_⟩
  rw [letters_first hlne]
  have x3 := sm_new (o := .lst [V.str (rowW (("letters" : Str) :: ls))]) hR
  have h3 : upd H R (.lst [V.str (rowW (("letters" : Str) :: ls))]) R = some (.lst [V.str (rowW (("letters" : Str) :: ls))]) := upd_same
  generalize upd H R (.lst [V.str (rowW (("letters" : Str) :: ls))]) = H3 at x3 h3 ⊢
  refine ⟨_, rfl, t, rfl, ⟨_, SqL.of (x3 _ _ hT.at_)⟩, for_enum (xs := rs.map V.ref) (fun i σ H' => ∃ (v2 v3 : Option V) (cs : List (List Str)), σ = [some (.ref l), some (.ref t), some (.ref g), some (.ref R), v2, v3] ∧ H' R = some (.lst (((("letters" : Str) :: ls) :: cs).map rowW |>.map V.str)) ∧ cs.length = i ∧ (∀ c ∈ cs, RG c) ∧ Same H H') ?_ ?_ ?_ ?_⟩
  · exact ⟨none, none, [], rfl, h3, rfl, (by intro _ z; cases z), x3⟩
  · rintro i σ H0 _ ⟨v2, v3, cs, _, _, _, _, x0⟩
    exact SqL.of (x0 _ _ hT.at_)
  · rintro i y σ H0 T0 hy hT0 ⟨v2, v3, cs, rfl, g1, ecs, hcs, x0⟩
    rw [List.getElem?_map] at hy
    obtain ⟨u, hu, rfl⟩ := Option.map_eq_some_iff.mp hy
    obtain ⟨row, hrow, hri⟩ := paired_get hT.rows hu
    have hrm := List.mem_of_getElem? hrow
    have hlen := hT.len row hrm
    have hi : i < tb.length := (List.getElem?_eq_some_iff.mp hrow).1
    have hne : row.map numI ≠ [] := fun z => by
      have z1 := congrArg List.length z
      rw [List.length_map, hlen] at z1
      have z2 : ([] : List Str).length = 0 := rfl
      omega
    have x4 := x0.trans (sm_new (o := .tup [.int i, .ref u]) hT0)
    have x04 := sm_new (o := .tup [.int i, .ref u]) hT0
    have hTt : upd H0 T0 (.tup [.int i, .ref u]) T0 = some (.tup [.int i, .ref u]) := upd_same
    generalize upd H0 T0 (.tup [.int i, .ref u]) = H4 at x4 x04 hTt ⊢
    refine ⟨T0, _, rfl, SqT.of hTt, rfl, _, _, rfl, _, _, rfl, rfl, ?_⟩
    refine ⟨_, rfl, .inl ⟨rfl, _, SqL.of (x04 _ _ g1)⟩, tiny (show 2 ≤ 1000 by decide), fun p hp => ?_⟩
    have x5 := sm_new (o := .lst [V.str "plain ", V.str "good "]) hp
    have h5 : upd H4 p (.lst [V.str "plain ", V.str "good "]) p = some (.lst [V.str "plain ", V.str "good "]) := upd_same
    generalize upd H4 p (.lst [V.str "plain ", V.str "good "]) = H5 at x5 h5 ⊢
    have x45 := x4.trans x5
    refine ⟨_, rfl, _, rfl, g, _, rfl, .inl (SqL.of (x45 _ _ hg)), rfl, flat_ints _, _, rfl, ?_⟩
    generalize (if false = true then !inV (.int (i : Int)) (gdl.map V.int) else inV (.int (i : Int)) (gdl.map V.int)) = bb
    refine ⟨p, _, _, _, rfl, rfl, SqL.of h5, pick2, rfl, ?_⟩
    refine ⟨_, rfl, u, rfl, ⟨_, SqL.of (x45 _ _ hri)⟩, fun D hD => strs_lst (K := K) (ent row hrm) (by omega) hD (x45 _ _ hri) fun H6 x6 h6 => ?_⟩
    have x46 := x04.trans (x5.trans x6)
    have hw2 : ∀ y ∈ row.map numI, 32 ∉ y.cps.toList ∧ 10 ∉ y.cps.toList ∧ y.length ≤ 8 := fun y hy => by
      obtain ⟨n, hn, rfl⟩ := List.mem_map.mp hy
      have hb := ent row hrm n hn
      have := num_ok hb.1 hb.2
      exact ⟨this.2.1, this.2.2.1, this.1⟩
    have t2 : tot (row.map numI) ≤ 54 := by
      have := tot8 fun y hy => (hw2 y hy).2.2
      rw [List.length_map, hlen] at this
      omega
    have j2 : (Txt.join " " (row.map numI)).length ≤ 54 := by have := len_le 32 (row.map numI); rw [sp_blank]; omega
    have a2 : (if bb = true then "good " else "plain " : Str).length ≤ 8 := by cases bb <;> decide
    refine ⟨_, D, _, rfl, rfl, SqL.of h6, sum_blank (by omega), _, _, rfl, rfl, lineM (by omega), ?_⟩
    rw [word_first hne]
    have RR : RG ((if bb = true then "good" else "plain" : Str) :: row.map numI) := RG.cons (by cases bb <;> decide +kernel) hw2 (by rw [List.length_map]; omega)
    refine ⟨R, _, _, rfl, rfl, x46 _ _ g1, lineL (by rw [List.length_map, List.length_map, List.length_cons]; omega), _, _, cs ++ [((if bb = true then "good" else "plain" : Str) :: row.map numI)], rfl, ?_, by rw [List.length_append, ecs]; rfl, fun c hc => ?_, (x0.trans x46).at hR⟩
    · rw [upd_same, List.map_cons, List.map_cons, List.map_cons, List.map_cons, List.map_append, List.map_append]; rfl
    · rcases List.mem_append.mp hc with h | h
      · exact hcs c h
      · rw [List.mem_singleton.mp h]; exact RR
  · rintro σ H8 ⟨v2, v3, cs, rfl, g1, ecs, hcs, x0⟩
    have hl := Paired.length hT.rows
    rw [List.length_map, hl] at ecs
    have hall : ∀ c ∈ (("letters" : Str) :: ls) :: cs, RG c := fun c hc => (List.mem_cons.mp hc).elim (fun e => e ▸ R0) (hcs c)
    have W : WOk ((("letters" : Str) :: ls) :: cs) := ⟨List.cons_ne_nil _ _, fun c hc => (hall c hc).ne, fun c hc => (hall c hc).nb, fun c hc => (hall c hc).nf⟩
    have tt : ∀ css : List (List Str), (∀ c ∈ css, RG c) → tot (css.map rowW) ≤ 63 * css.length := fun css => by
      induction css with
      | nil => intro _; exact Nat.le_refl _
      | cons c r ih =>
        intro h
        have h1 := (h c (List.mem_cons_self ..)).len
        have h2 := ih fun z hz => h z (List.mem_cons_of_mem _ hz)
        rw [List.map_cons, tot_cons, List.length_cons]; omega
    have t1 := tt _ hall
    rw [List.length_cons] at t1
    have t2 := len_le 10 (((("letters" : Str) :: ls) :: cs).map rowW)
    exact ⟨rfl, _, rfl, _, R, _, rfl, rfl, SqL.of g1, sum_feed (by omega), q _ cs H8 W ecs (by rw [List.length_cons]) (by rw [textW, sp_feed]; omega) x0⟩
end
end KK
namespace L2
open PySem PySem.Spec PyProof.Rows
theorem for_zip {K : PySem.W.Frag} {a b : Addr} {xs ys : List V} {g : TG} {tb : TS} {D : Ends} {σ : St} {H : Hp} (Pv : Nat → St → Hp → Prop) (he : xs.length = ys.length) (h0 : Pv 0 σ H) (hl : ∀ i σ H, i ≤ xs.length → Pv i σ H → SqL K H a xs ∧ SqL K H b ys)
    (hs : ∀ i x y σ H T, xs[i]? = some x → ys[i]? = some y → H T = none → Pv i σ H → g (.ref T) σ (upd H T (.tup [x, y])) fun σ2 H2 => tb { D with nx := Pv (i + 1), ct := Pv (i + 1), bk := D.nx } σ2 H2) (hd : ∀ σ H, Pv xs.length σ H → D.nx σ H) :
    ∃ W : Nat → Nat → St → Hp → Prop, (∃ m, W 0 m σ H) ∧ ∀ i m σ H, W i m σ H →
      ((Itz K a b).stop i H ∧ D.nx σ H) ∨ ((Itz K a b).go i H ∧ ∃ N : St → Hp → Prop, (∀ σ' H', N σ' H' → ∃ m', m' < m ∧ W (i + 1) m' σ' H') ∧ ∀ x H', (Itz K a b).yld i H x H' → g x σ H' fun σ2 H2 => tb { D with nx := N, ct := N, bk := D.nx } σ2 H2) := by
  refine ⟨fun i m σ H => m = xs.length - i ∧ i ≤ xs.length ∧ Pv i σ H, ⟨xs.length, by simp, Nat.zero_le _, h0⟩, ?_⟩
  rintro i m σ H ⟨rfl, hi, p⟩
  obtain ⟨q, q'⟩ := hl i σ H hi p
  by_cases hlt : i < xs.length
  · have hlt' : i < ys.length := by omega
    refine .inr ⟨?_, Pv (i + 1), fun σ' H' p' => ⟨xs.length - (i + 1), by omega, rfl, hlt, p'⟩, fun x H' y => ?_⟩
    · exact ⟨xs, ys, xs[i], ys[i], q, q', by simp [hlt], by simp [hlt']⟩
    · obtain ⟨T, hT, rfl, y⟩ := y
      obtain ⟨x', y', hx, hy, rfl⟩ := y xs ys q q'
      exact hs i x' y' σ H T hx hy hT p
  · have e : i = xs.length := by omega
    subst e
    exact .inl ⟨⟨xs, ys, q, q', by omega⟩, hd σ H p⟩
end L2
namespace KK
open PySem L2 PyProof.Rows KKM
section
variable {P : Program} {w : World} {K : PySem.W.Frag} {mg : Str → Option Value} {base : Heap} {f g g2 g3 g4 : Addr} {fd gd gd2 gd3 gd4 : FuncData} {k j : Nat} {C CT CB CG CN M ft fb fn : Addr} {ftd fbd fnd : FuncData}
/-- the rows' words, as lists -/
abbrev RowS (H : Hp) (r : Addr) (ws : List Str) : Prop := H r = some (.lst (ws.map V.str))
theorem words_by {D l : Addr} {Q : VK} {H1 : Hp} {wss : List (List Str)} (hR : ∀ ws ∈ wss, RowOk ws) (h40 : wss.length ≤ 1000) (hD : H1 D = none) (hl : H1 l = some (.lst ((wss.map rowW).map V.str))) (hdn : ∀ H' rs, Same H1 H' → H' D = some (.lst (rs.map V.ref)) → Paired (RowS H') rs wss → Q (.ref D) H') :
    CompLoop (Itl K l) D (gName 0) tYes (tBM K "str" rSplit (tVar 0) (tCons (tC (.str " ")) tNil)) Q [none] H1 := by
  refine comp_list (xs := (wss.map rowW).map V.str) (fun i ys σ H => ∃ (v : Option V) (rs : List Addr), ys = rs.map V.ref ∧ σ = [v] ∧ Same H1 H ∧ Paired (RowS H) rs (wss.take i) ∧ D ∉ rs) ?_ (by rw [List.length_map, List.length_map]; omega) ?_ ?_ ?_ ?_
  · exact ⟨none, [], rfl, rfl, sm_new hD, .nil, (by intro z; cases z)⟩
  · rintro i ys σ H ⟨v, rs, rfl, _, _, h, _⟩
    have := Paired.length h
    rw [List.length_map, this, List.length_take]; exact Nat.min_le_left _ _
  · rintro i ys σ H ⟨v, rs, _, _, x, _⟩
    exact SqL.of (x _ _ hl)
  · rintro i y ys σ H hy hl2 ⟨v, rs, rfl, rfl, x, h, hDn⟩
    rw [List.getElem?_map, List.getElem?_map] at hy
    obtain ⟨z, hz, rfl⟩ := Option.map_eq_some_iff.mp hy
    obtain ⟨ws, hws, rfl⟩ := Option.map_eq_some_iff.mp hz
    have R := hR ws (List.mem_of_getElem? hws)
    have hrl := R.len
    have hcn := R.cnt
    refine ⟨_, rfl, rfl, _, _, rfl, rfl, rfl, lineM (by omega), by rw [split_row R.ne R.nb]; exact lineM (by omega), fun u hu => ?_⟩
    rw [split_row R.ne R.nb]
    have nu : D ≠ u := ne_of_none hl2 hu
    refine ⟨by rw [upd_ne nu]; exact hl2, _, rs ++ [u], by rw [List.map_append]; rfl, rfl, (x.trans (sm_new hu)).at hD, ?_, fun hb => ?_⟩
    · rw [take_snoc hws]
      refine paired_app (paired_on h fun b w hb z => ?_) (.cons ?_ .nil)
      · show upd _ D _ b = _
        rw [upd_ne (show b ≠ D from fun q => hDn (q ▸ hb)), upd_ne (ne_of_none z hu)]; exact z
      · show upd _ D _ u = _
        rw [upd_ne (Ne.symm nu)]; exact upd_same
    · rcases List.mem_append.mp hb with h | h
      · exact hDn h
      · exact nu (List.mem_singleton.mp h)
  · rintro ys σ H hl2 ⟨v, rs, rfl, _, x, h, hDn⟩
    rw [List.length_map, List.length_map, List.take_length] at h
    exact hdn H rs x hl2 h
/-- the numbers of a row -/
theorem ints_in {D l : Addr} {Q : VK} {H1 : Hp} {us : List Str} (hN : us.all numB = true) (h8 : us.length ≤ 90000) (hD : H1 D = none) (hl : H1 l = some (.lst (us.map V.str))) (hdn : ∀ H', Same H1 H' → H' D = some (.lst ((us.map numV).map V.int)) → Q (.ref D) H') :
    CompLoop (Itl K l) D (gName 0) tYes (tCB (fun xs H Q => ∃ (x : Str) (n : Int), xs = [.str x] ∧ x.length ≤ 640 ∧ PySem.intText? x = some n ∧ Q (.int n) H) (tCons (tVar 0) tNil)) Q [none] H1 := by
  refine comp_list (xs := us.map V.str) (fun i zs σ H => ∃ v : Option V, zs = ((us.take i).map numV).map V.int ∧ σ = [v] ∧ Same H1 H) ?_ (by rw [List.length_map]; omega) ?_ ?_ ?_ ?_
  · exact ⟨none, rfl, rfl, sm_new hD⟩
  · rintro i zs σ H ⟨v, rfl, _⟩
    rw [List.length_map, List.length_map, List.length_take]; exact Nat.min_le_left _ _
  · rintro i zs σ H ⟨v, _, _, x⟩
    exact SqL.of (x _ _ hl)
  · rintro i y zs σ H hy hl2 ⟨v, rfl, rfl, x⟩
    rw [List.getElem?_map] at hy
    obtain ⟨z, hz, rfl⟩ := Option.map_eq_some_iff.mp hy
    have hb := List.all_eq_true.mp hN z (List.mem_of_getElem? hz)
    have hv := numB_val hb
    have h3 : z.length ≤ 3 := by
      unfold numB at hb
      simp only [Bool.and_eq_true, decide_eq_true_iff] at hb
      exact hb.1.1.2
    refine ⟨_, rfl, z, numV z, rfl, by omega, hv.1, hl2, _, ?_, rfl, x.at hD⟩
    rw [take_snoc hz, List.map_append, List.map_append]; rfl
  · rintro zs σ H hl2 ⟨v, rfl, _, x⟩
    rw [List.length_map, List.take_length] at hl2
    exact hdn H x hl2
theorem ints_by {D l : Addr} {Q : VK} {H1 : Hp} {m : Nat} {rs : List Addr} {rows : List (List Str)} (hG : ∀ ws ∈ rows, ∃ xs, stepsW m ws = some xs) (m9 : m ≤ 90000) (h40 : rows.length ≤ 1000) (hD : H1 D = none) (hl : H1 l = some (.lst (rs.map V.ref))) (hP : Paired (RowS H1) rs rows) (hdn : ∀ H' vs, Same H1 H' → H' D = some (.lst (vs.map V.ref)) → Paired (RowI H') vs (tbW m rows) → Q (.ref D) H') :
    CompLoop (Itl K l) D (gName 0) tYes (tComp (iList K (tSl (rSlL K) (tVar 0) (tPart (tC (.int 1))) tNoPart)) 1 [] (gName 0) tYes (tCB (fun xs H Q => ∃ (x : Str) (n : Int), xs = [.str x] ∧ x.length ≤ 640 ∧ PySem.intText? x = some n ∧ Q (.int n) H) (tCons (tVar 0) tNil))) Q [none] H1 := by
  have hlen := Paired.length hP
  refine comp_list (xs := rs.map V.ref) (fun i ys σ H => ∃ (v : Option V) (vs : List Addr), ys = vs.map V.ref ∧ σ = [v] ∧ Same H1 H ∧ Paired (RowI H) vs (tbW m (rows.take i)) ∧ D ∉ vs) ?_ (by rw [List.length_map]; omega) ?_ ?_ ?_ ?_
  · exact ⟨none, [], rfl, rfl, sm_new hD, .nil, (by intro z; cases z)⟩
  · rintro i ys σ H ⟨v, vs, rfl, _, _, h, _⟩
    have := Paired.length h
    rw [tbW, List.length_map, List.length_take] at this
    rw [List.length_map, this]; exact Nat.min_le_left _ _
  · rintro i ys σ H ⟨v, vs, _, _, x, _⟩
    exact SqL.of (x _ _ hl)
  · rintro i y ys σ H hy hl2 ⟨v, vs, rfl, rfl, x, h, hDn⟩
    rw [List.getElem?_map] at hy
    obtain ⟨r, hr', rfl⟩ := Option.map_eq_some_iff.mp hy
    obtain ⟨ws, hws, hri⟩ := paired_get hP hr'
    obtain ⟨xs, hxs⟩ := hG ws (List.mem_of_getElem? hws)
    obtain ⟨w0, us, rfl, _, hul, hua, rfl⟩ := steps_inv hxs
    refine ⟨_, rfl, 1, rfl, r, _, rfl, SqL.of (x _ _ hri), fun p hp => ?_⟩
    rw [show cutV ((w0 :: us).map V.str) (some 1) none = us.map V.str from cut_1 _ _]
    have x2 := sm_new (o := .lst (us.map V.str)) hp
    have k2 : upd H p (.lst (us.map V.str)) p = some (.lst (us.map V.str)) := upd_same
    have np : D ≠ p := ne_of_none hl2 hp
    have hl3 := x2 _ _ hl2
    generalize upd H p (.lst (us.map V.str)) = H2 at x2 k2 hl3 ⊢
    refine ⟨p, rfl, ⟨_, SqL.of k2⟩, fun u hu => ints_in (K := K) hua (by omega) hu k2 fun H3 x3 h3 => ?_⟩
    have nu : D ≠ u := ne_of_none hl3 hu
    have x23 := x2.trans x3
    refine ⟨x3 _ _ hl3, _, vs ++ [u], by rw [List.map_append]; rfl, rfl, (x.trans x23).at hD, ?_, fun hb => ?_⟩
    · rw [take_snoc hws, show tbW m (rows.take i ++ [w0 :: us]) = tbW m (rows.take i) ++ [(stepsW m (w0 :: us)).getD []] from List.map_append .., hxs]
      refine paired_app (paired_on h fun b w hb z => ?_) (.cons ?_ .nil)
      · show upd _ D _ b = _
        rw [upd_ne (show b ≠ D from fun q => hDn (q ▸ hb))]; exact x23 _ _ z
      · show upd _ D _ u = _
        rw [upd_ne (Ne.symm nu)]; exact h3
    · rcases List.mem_append.mp hb with h | h
      · exact hDn h
      · exact nu (List.mem_singleton.mp h)
  · rintro ys σ H hl2 ⟨v, vs, rfl, _, x, h, hDn⟩
    rw [List.length_map, hlen, List.take_length] at h
    exact hdn H vs x hl2 h
theorem good_by {D l : Addr} {Q : VK} {H1 : Hp} {r0 : Addr} {rs : List Addr} {rows : List (List Str)} (hne : ∀ c ∈ rows, c ≠ []) (h40 : rows.length ≤ 1000) (hD : H1 D = none) (hl : H1 l = some (.lst ((r0 :: rs).map V.ref))) (hP : Paired (RowS H1) rs rows) (hdn : ∀ H', Same H1 H' → H' D = some (.lst ((gdW rows).map V.int)) → Q (.ref D) H') :
    CompLoop (Itr 0 rows.length) D (gName 0) (tTest (tOp rEq (tOp (rIxL K) (tOp (rIxL K) (tVar 1) (tOp (rI0 fun i j => .int (i + j)) (tVar 0) (tC (.int 1)))) (tC (.int 0))) (tC (.str "good")))) (tVar 0) Q [none, some (.ref l)] H1 := by
  have hlen := Paired.length hP
  refine comp_range (fun i zs σ H => ∃ v : Option V, zs = (gdP (goodAt rows) i).map V.int ∧ σ = [v, some (.ref l)] ∧ Same H1 H) ?_ (by omega) ?_ ?_ ?_
  · exact ⟨none, rfl, rfl, sm_new hD⟩
  · rintro i zs σ H ⟨v, rfl, _⟩
    rw [List.length_map]; exact gd_len _ i
  · rintro i zs σ H hi hl2 ⟨v, rfl, rfl, x0⟩
    have hir : i < rs.length := by omega
    have er : rs[i]? = some rs[i] := List.getElem?_eq_getElem hir
    obtain ⟨c, hc, hri⟩ := paired_get hP er
    obtain ⟨w1, us, rfl⟩ := List.exists_cons_of_ne_nil (hne c (List.mem_of_getElem? hc))
    rw [Int.zero_add]
    refine ⟨_, rfl, _, rfl, _, _, rfl, rfl, l, _, _, .ref rs[i], rfl, rfl, SqL.of (x0 _ _ hl), atI_nat (j := i + 1) (by rw [List.getElem?_map, List.getElem?_cons_succ, er]; rfl), rs[i], _, 0, .str w1, rfl, rfl, SqL.of (x0 _ _ hri), atI_nat (j := 0) rfl, rfl, _, rfl, ?_⟩
    have gs := gd_snoc (goodAt rows) i
    rw [good_at hc] at gs
    have eg : decide (V.str w1 = V.str "good") = goodW (w1 :: us) := by
      show _ = decide (w1 = "good")
      by_cases e : w1 = "good"
      · rw [decide_eq_true (congrArg V.str e), decide_eq_true e]
      · rw [decide_eq_false (fun z => e (V.str.inj z)), decide_eq_false e]
    rw [eg]
    cases hb : goodW (w1 :: us) with
    | true =>
      rw [hb, if_pos rfl] at gs
      refine iteT ?_
      exact ⟨_, rfl, hl2, _, by rw [gs, List.map_append]; rfl, rfl, x0.at hD⟩
    | false =>
      rw [hb, if_neg Bool.false_ne_true] at gs
      refine iteF ?_
      exact ⟨hl2, _, by rw [gs], rfl, x0⟩
  · rintro zs σ H hl2 ⟨v, rfl, _, x0⟩
    exact hdn H x0 hl2
theorem all_good {m : Nat} {rows : List (List Str)} (h : firstBad m 0 rows = none) : ∀ ws ∈ rows, ∃ xs, stepsW m ws = some xs := by
  have key : ∀ (l : List (List Str)) (i : Nat), firstBad m i l = none → ∀ ws ∈ l, ∃ xs, stepsW m ws = some xs := fun l => by
    induction l with
    | nil => intro i _ ws hw; cases hw
    | cons c r ih =>
      intro i h ws hw
      unfold firstBad at h
      cases e : stepsW m c with
      | none => rw [e] at h; cases h
      | some xs =>
        rw [e] at h
        rcases List.mem_cons.mp hw with rfl | hw
        · exact ⟨xs, e⟩
        · exact ih (i + 1) h ws hw
  exact key rows 0 h
def spDue : Sp := fun vs H Q _ => ∃ (ws : List Str) (rows : List (List Str)), vs = [.str (textW (ws :: rows))] ∧ TxtOk (ws :: rows) ∧ ∀ (r : Addr) (H' : Hp), Same H H' → DataN H' 3 (.ref r) (dataO (outW ws rows)) → Q (.ref r) H'
theorem sc_due : FnScope ["_law_text_here", "_law_rows", "_law_letters", "_law_at", "_law_words", "_law_fine", "_law_letter", "_law_table", "_law_state", "_law_steps", "_law_goal", "_law_good"] ["_law_text_here"] (defScope s_law_due) := ⟨rfl, rfl, rfl, by decide +kernel, rfl, by decide +kernel, by decide +kernel⟩
theorem ok_due (F : Fun K "_law_due" "_law_due" s_law_due f fd) (B : Bt mg) (G__law_is_name : Fn P w K mg base k "_law_is_name" ["_law_word"] spIsName2 g gd) (G__law_is_number : Fn P w K mg base k "_law_is_number" ["_law_word"] spIsNum2 g2 gd2) : FnOk P w K mg base CX0 (k + 1) f fd ["_law_text_here"] spDue := by
  refine F.ok sc_due (fun vs H Q E h => ?_) (fun cdv A outer s H vs Q E hr h => ?_)
  · obtain ⟨ws, rows, rfl, _⟩ := h
    rfl
  obtain ⟨ws, rows, rfl, T, q⟩ := h
  have nd := sc_due.nd
  have tlen := T.len
  have tfew := T.few
  rw [List.length_cons] at tfew
  refine ⟨_, (pss_cons (ps_set (i := 1) nd rfl (Or.inr rfl) (pe_comp (g := (gName 0)) (tc := tYes) (te := (tBM K "str" rSplit (tVar 0) (tCons (tC (.str " ")) tNil))) (own := ["_law_row"]) (fr := ([] : List Str)) (idx := []) rfl (by show CompScope _ _ _ (defScope s_law_due); exact ⟨rfl, by decide +kernel, by decide +kernel, by decide +kernel, by decide +kernel, by decide +kernel, by decide +kernel⟩) (pi_list (pe_bm (T := "str") (name := "split") (id := "str.split") PySem.F.plainAttrs_str PySem.F.slot_str_split PySem.F.type_str_split mt_split (pv 0) (pa_cons pe_str pa_nil))) (fun _ _ _ _ _ => (pg_name (i := 0) (by show List.Nodup (["_law_row"] : List Str); decide +kernel) rfl (Or.inl rfl) (Or.inr rfl))) (fun _ _ _ _ _ => pts_nil) (fun _ _ _ _ _ => (pe_bm (T := "str") (name := "split") (id := "str.split") PySem.F.plainAttrs_str PySem.F.slot_str_split PySem.F.type_str_split mt_split (pv 0) (pa_cons pe_str pa_nil))) rfl (hat_of rfl)))
    (pss_cons (ps_set (i := 2) nd rfl (Or.inl rfl) (pe_slice sl_list (pe_ix ix_list (pv 1) pe_int (fun _ _ => rfl)) (po_some pe_int) po_none))
    (pss_cons (ps_if (PW.pt (pw_or (pt_cmpR op_ne (pe_ix ix_list (pe_ix ix_list (pv 1) pe_int (fun _ _ => rfl)) pe_int (fun _ _ => rfl)) pe_str (nomark _)) (pw_or (pt_cmpR (op_eqLE (hu0_of hr)) (pv 2) (pe_lst pa_nil) (nomark _)) (pw_or1 (pt_not (pt_val (pe_callB (call_allB rfl) rfl B.all_ (by decide +kernel) (pa_cons (pe_comp (g := (gName 0)) (tc := tYes) (te := (tCall spIsName2 [] E0 (tCons (tVar 0) tNil))) (own := ["_law_word"]) (fr := ([] : List Str)) (idx := []) rfl (by show CompScope _ _ _ (defScope s_law_due); exact ⟨rfl, by decide +kernel, by decide +kernel, by decide +kernel, by decide +kernel, by decide +kernel, by decide +kernel⟩) (pi_list (pv 2)) (fun _ _ _ _ _ => (pg_name (i := 0) (by show List.Nodup (["_law_word"] : List Str); decide +kernel) rfl (Or.inl rfl) (Or.inr rfl))) (fun _ _ _ _ _ => pts_nil) (fun _ _ _ _ _ => (pe_call G__law_is_name.ok hr rfl G__law_is_name.at_ G__law_is_name.kp G__law_is_name.bn .nil pass0 (pa_cons (pv 0) pa_nil))) rfl (hat_of rfl)) pa_nil)) (fun _ => rfl))))))) (pss_one (ps_ret (pe_tup (pa_cons pe_str (pa_cons pe_int pa_nil))))) pss_nil)
    (pss_cons (ps_for PassesOwn.never rfl (pi_enum rfl B.enumerate_ (pa_cons (pe_slice sl_list (pv 1) (po_some pe_int) po_none) pa_nil)) (pg_tup rfl (pgs_cons (pg_name (i := 3) nd rfl (Or.inl rfl)) (pgs_cons (pg_name (i := 4) nd rfl (Or.inl rfl)) pgs_nil))) (pss_cons (ps_set (i := 5) nd rfl (Or.inl rfl) (pe_and (pe_cmpR op_in_seq (pe_ix ix_list (pv 4) pe_int (fun _ _ => rfl)) (pe_tup (pa_cons pe_str (pa_cons pe_str pa_nil))) rfl) (pe_one (pe_cmpR op_eq (pe_callB call_len_seq rfl B.len_ PySem.boot_len (pa_cons (pv 4) pa_nil)) (pe_op op_add pe_int (pe_callB call_len_seq rfl B.len_ PySem.boot_len (pa_cons (pv 2) pa_nil))) (nomark _)))))
    (pss_one (ps_if (PW.pt (pw_or (pt_not (pt_val (pv 5) (fun _ => rfl))) (pw_or1 (pt_not (pt_val (pe_callB (call_allB rfl) rfl B.all_ (by decide +kernel) (pa_cons (pe_comp (g := (gName 0)) (tc := tYes) (te := (tCall spIsNum2 [] E0 (tCons (tVar 0) tNil))) (own := ["_law_word"]) (fr := ([] : List Str)) (idx := []) rfl (by show CompScope _ _ _ (defScope s_law_due); exact ⟨rfl, by decide +kernel, by decide +kernel, by decide +kernel, by decide +kernel, by decide +kernel, by decide +kernel⟩) (pi_list (pe_slice sl_list (pv 4) (po_some pe_int) po_none)) (fun _ _ _ _ _ => (pg_name (i := 0) (by show List.Nodup (["_law_word"] : List Str); decide +kernel) rfl (Or.inl rfl) (Or.inr rfl))) (fun _ _ _ _ _ => pts_nil) (fun _ _ _ _ _ => (pe_call G__law_is_number.ok hr rfl G__law_is_number.at_ G__law_is_number.kp G__law_is_number.bn .nil pass0 (pa_cons (pv 0) pa_nil))) rfl (hat_of rfl)) pa_nil)) (fun _ => rfl)))))) (pss_one (ps_ret (pe_tup (pa_cons pe_str (pa_cons (pe_op op_add (pv 3) pe_int) pa_nil))))) pss_nil))))
    (pss_cons (ps_if (pt_cmpR op_eq (pe_callB call_len_seq rfl B.len_ PySem.boot_len (pa_cons (pv 1) pa_nil)) pe_int (nomark _)) (pss_one (ps_ret (pe_tup (pa_cons pe_str (pa_cons pe_int pa_nil))))) pss_nil)
    (pss_cons (ps_for PassesOwn.never rfl (pi_enum rfl B.enumerate_ (pa_cons (pv 2) pa_nil)) (pg_tup rfl (pgs_cons (pg_name (i := 3) nd rfl (Or.inl rfl)) (pgs_cons (pg_name (i := 6) nd rfl (Or.inl rfl)) pgs_nil))) (pss_one (ps_if (pt_cmpR op_in_seq (pv 6) (pe_slice sl_list (pv 2) po_none (po_some (pv 3))) rfl) (pss_one (ps_ret (pe_tup (pa_cons pe_str (pa_cons (pv 6) pa_nil))))) pss_nil)))
    (pss_cons (ps_setC (i := 7) nd rfl (Or.inl rfl) (g := (gName 0)) (tc := tYes) (te := (tComp (iList K (tSl (rSlL K) (tVar 0) (tPart (tC (.int 1))) tNoPart)) 1 [] (gName 0) tYes (tCB (fun xs H Q => ∃ (x : Str) (n : Int), xs = [.str x] ∧ x.length ≤ 640 ∧ PySem.intText? x = some n ∧ Q (.int n) H) (tCons (tVar 0) tNil)))) (own := ["_law_words"]) (fr := ([] : List Str)) (idx := []) rfl (by show CompScope _ _ _ (defScope s_law_due); exact ⟨rfl, by decide +kernel, by decide +kernel, by decide +kernel, by decide +kernel, by decide +kernel, by decide +kernel⟩) (pi_list (pe_slice sl_list (pv 1) (po_some pe_int) po_none)) (fun _ _ _ _ _ => (pg_name (i := 0) (by show List.Nodup (["_law_words"] : List Str); decide +kernel) rfl (Or.inl rfl) (Or.inr rfl))) (fun _ _ _ _ _ => pts_nil) (fun _ _ _ _ _ => (pe_comp (g := (gName 0)) (tc := tYes) (te := (tCB (fun xs H Q => ∃ (x : Str) (n : Int), xs = [.str x] ∧ x.length ≤ 640 ∧ PySem.intText? x = some n ∧ Q (.int n) H) (tCons (tVar 0) tNil))) (own := ["_law_word"]) (fr := ([] : List Str)) (idx := []) rfl (CompScope.relab ⟨rfl, by decide +kernel, by decide +kernel, by decide +kernel, by decide +kernel, by decide +kernel, by decide +kernel⟩) (pi_list (pe_slice sl_list (pv 0) (po_some pe_int) po_none)) (fun _ _ _ _ _ => (pg_name (i := 0) (by show List.Nodup (["_law_word"] : List Str); decide +kernel) rfl (Or.inl rfl) (Or.inr rfl))) (fun _ _ _ _ _ => pts_nil) (fun _ _ _ _ _ => (pe_callTy call_intT rfl B.int_ (by decide +kernel) (pa_cons (pv 0) pa_nil))) rfl (hat_of rfl))) rfl (hat_of rfl))
    (pss_cons (ps_for PassesOwn.never rfl (pi_enum rfl B.enumerate_ (pa_cons (pv 7) pa_nil)) (pg_tup rfl (pgs_cons (pg_name (i := 8) nd rfl (Or.inl rfl)) (pgs_cons (pg_name (i := 9) nd rfl (Or.inl rfl)) pgs_nil))) (pss_one (ps_for PassesOwn.never rfl (pi_zip rfl B.zip_ (pa_cons (pv 2) (pa_cons (pv 9) pa_nil))) (pg_tup rfl (pgs_cons (pg_name (i := 6) nd rfl (Or.inl rfl)) (pgs_cons (pg_name (i := 10) nd rfl (Or.inl rfl)) pgs_nil))) (pss_one (ps_if (pt_cmpR op_ge (pv 10) (pe_callB call_len_seq rfl B.len_ PySem.boot_len (pa_cons (pv 7) pa_nil)) (nomark _)) (pss_one (ps_ret (pe_tup (pa_cons pe_str (pa_cons (pv 8) (pa_cons (pv 6) pa_nil)))))) pss_nil)))))
    (pss_cons (ps_setC (i := 11) nd rfl (Or.inl rfl) (g := (gName 0)) (tc := (tTest (tOp rEq (tOp (rIxL K) (tOp (rIxL K) (tVar 1) (tOp (rI0 fun i j => .int (i + j)) (tVar 0) (tC (.int 1)))) (tC (.int 0))) (tC (.str "good"))))) (te := (tVar 0)) (own := ["_law_state"]) (fr := ["_law_rows"]) (idx := [1]) rfl (by show CompScope _ _ _ (defScope s_law_due); exact ⟨rfl, by decide +kernel, by decide +kernel, by decide +kernel, by decide +kernel, by decide +kernel, by decide +kernel⟩) (pi_range1 rfl B.range_ (pa_cons (pe_callB call_len_seq rfl B.len_ PySem.boot_len (pa_cons (pv 7) pa_nil)) pa_nil)) (fun _ _ _ _ _ => (pg_name (i := 0) (by show List.Nodup (["_law_state", "_law_rows"] : List Str); decide +kernel) rfl (Or.inl rfl) (Or.inr rfl))) (fun _ _ _ _ _ => pts_one (pt_cmpR op_eq (pe_ix ix_list (pe_ix ix_list (pv 1) (pe_op op_add (pv 0) pe_int) (fun _ _ => rfl)) pe_int (fun _ _ => rfl)) pe_str (nomark _))) (fun _ _ _ _ _ => (pv 0)) rfl (hat_of rfl))
    (pss_one (ps_ret (pe_tup (pa_cons pe_str (pa_cons (pe_callTy call_tuple_of rfl B.tuple_ (by decide +kernel) (pa_cons (pv 2) pa_nil)) (pa_cons (pe_callTy call_tuple_of rfl B.tuple_ (by decide +kernel) (pa_cons (pe_comp (g := (gName 0)) (tc := tYes) (te := (tCB (fun xs H Q => ∃ p ys, xs = [.ref p] ∧ ((SqL K H p ys ∧ ∀ l, H l = none → Q (.ref l) (upd H l (.tup ys))) ∨ (SqT K H p ys ∧ Q (.ref p) H))) (tCons (tVar 0) tNil))) (own := ["_law_steps"]) (fr := ([] : List Str)) (idx := []) rfl (by show CompScope _ _ _ (defScope s_law_due); exact ⟨rfl, by decide +kernel, by decide +kernel, by decide +kernel, by decide +kernel, by decide +kernel, by decide +kernel⟩) (pi_list (pv 7)) (fun _ _ _ _ _ => (pg_name (i := 0) (by show List.Nodup (["_law_steps"] : List Str); decide +kernel) rfl (Or.inl rfl) (Or.inr rfl))) (fun _ _ _ _ _ => pts_nil) (fun _ _ _ _ _ => (pe_callTy call_tuple_of rfl B.tuple_ (by decide +kernel) (pa_cons (pv 0) pa_nil))) rfl (hat_of rfl)) pa_nil)) (pa_cons (pe_callTy call_tuple_of rfl B.tuple_ (by decide +kernel) (pa_cons (pv 11) pa_nil)) pa_nil)))))))))))))))), ?_⟩
  try dsimp only [cxOf, Cx.nox, Cx.wish]
  refine lats10 ?_
  intro D0 σ0 U10 U9 U8 U7 U6 U5 U4 U3 U2
  have txt : ∀ (v : Int) (H' : Hp), Same H H' → outW ws rows = .text v → ∀ r, H' r = none → Q (.ref r) (upd H' r (.tup [.str "text", .int v])) := fun v H' x e r hr' => by
    refine q r _ (x.trans (sm_new hr')) ?_
    rw [e]
    exact DataN.up (DataN.up (DataN.tup upd_same (.cons (DataN.str 0 "text") (.cons (DataN.int 0 v) .nil))))
  refine ⟨_, rfl, rfl, _, _, rfl, rfl, rfl, lineM (by omega), by rw [split_text T.w, List.length_map, List.length_cons]; exact lineM (by omega), fun l hl => ?_⟩
  rw [split_text T.w]
  have x1 := sm_new (o := .lst (((ws :: rows).map rowW).map V.str)) hl
  have k1 : upd H l (.lst (((ws :: rows).map rowW).map V.str)) l = some (.lst (((ws :: rows).map rowW).map V.str)) := upd_same
  generalize upd H l (.lst (((ws :: rows).map rowW).map V.str)) = H1 at x1 k1 ⊢
  refine ⟨l, rfl, ⟨_, SqL.of k1⟩, fun D hD => words_by (K := K) (fun c hc => T.row hc) (by rw [List.length_cons]; omega) hD k1 fun H2 rs0 x2 hD2 hP2 => ?_⟩
  cases hP2 with | cons hr0 hP =>
  rename_i r0 rs
  have x12 := x1.trans x2
  obtain ⟨w0, us, rfl⟩ := List.exists_cons_of_ne_nil (T.w.rne ws (List.mem_cons_self ..))
  have R0 := T.row (List.mem_cons_self (a := w0 :: us) (l := rows))
  have hr0' : H2 r0 = some (.lst ((w0 :: us).map V.str)) := hr0
  refine ⟨_, rfl, D, _, 0, .ref r0, rfl, rfl, SqL.of hD2, atI_nat (j := 0) rfl, 1, rfl, r0, _, rfl, SqL.of hr0', fun ll hll => ?_⟩
  rw [show cutV ((w0 :: us).map V.str) (some 1) none = us.map V.str from cut_1 _ _]
  have x3 := sm_new (o := .lst (us.map V.str)) hll
  have k3 : upd H2 ll (.lst (us.map V.str)) ll = some (.lst (us.map V.str)) := upd_same
  generalize upd H2 ll (.lst (us.map V.str)) = H3 at x3 k3 ⊢
  have x13 := x12.trans x3
  have hcn := R0.cnt
  rw [List.length_cons] at hcn
  refine ⟨_, rfl, D, _, 0, .ref r0, rfl, rfl, SqL.of (x3 _ _ hD2), atI_nat (j := 0) rfl, r0, _, 0, .str w0, rfl, rfl, SqL.of (x3 _ _ hr0'), atI_nat (j := 0) rfl, rfl, _, rfl, ?_⟩
  have hlw : lettersW (w0 :: us) = if (decide (w0 = "letters") && !us.isEmpty && us.all nmB) = true then some us else none := rfl
  have out1 : lettersW (w0 :: us) = none → outW (w0 :: us) rows = .text 1 := fun e => by simp only [outW, e]
  by_cases hw : w0 = "letters"
  case neg =>
    rw [decide_eq_false (fun z => hw (V.str.inj z))]
    refine iteT ?_
    exact ⟨tiny (show 2 ≤ 1000 by decide), txt 1 H3 x13 (out1 (by rw [hlw, decide_eq_false hw]; rfl))⟩
  rw [decide_eq_true (congrArg V.str hw)]
  refine iteF ?_
  refine ⟨_, rfl, tiny (show 0 ≤ 1000 by decide), fun p4 hp4 => ?_⟩
  have x4 := sm_new (o := .lst []) hp4
  have k4 : upd H3 p4 (.lst []) p4 = some (.lst []) := upd_same
  generalize upd H3 p4 (.lst []) = H4 at x4 k4 ⊢
  have x14 := x13.trans x4
  refine ⟨ll, p4, _, rfl, rfl, SqL.of (x4 _ _ k3), SqL.of k4, _, rfl, ?_⟩
  by_cases hus : us = []
  case pos =>
    rw [show (us.map V.str).isEmpty = true by rw [hus]; rfl]
    refine iteT ?_
    exact ⟨tiny (show 2 ≤ 1000 by decide), txt 1 H4 x14 (out1 (by rw [hlw, hus, List.isEmpty_nil, Bool.not_true, Bool.and_false, Bool.false_and]; rfl))⟩
  have hpos := List.length_pos_iff.mpr hus
  rw [show (us.map V.str).isEmpty = false by rw [List.isEmpty_eq_false_iff]; exact fun z => hus (List.map_eq_nil_iff.mp z)]
  refine iteF ?_
  refine ⟨_, rfl, ll, rfl, ⟨_, SqL.of (x4 _ _ k3)⟩, fun D5 hD5 => all_by (K := K) by_isn2 (fun y hy => R0.wl y (List.mem_cons_of_mem _ hy)) (by omega) hD5 (SqL.of (x4 _ _ k3)) fun H5 x5 h5 => ⟨D5, _, rfl, SqL.of h5, _, rfl, ?_⟩⟩
  rw [all_mapB]
  have x15 := x14.trans x5
  cases hall : us.all nmB
  case false =>
    refine iteT ?_
    exact ⟨tiny (show 2 ≤ 1000 by decide), txt 1 H5 x15 (out1 (by rw [hlw, hall, Bool.and_false]; rfl))⟩
  refine iteF ?_
  have hls : lettersW (w0 :: us) = some us := by
    rw [hlw, hall, decide_eq_true hw, show us.isEmpty = false from List.isEmpty_eq_false_iff.mpr hus]; rfl
  have hout : outW (w0 :: us) rows = match firstBad us.length 0 rows with
      | some i => .text ((i : Int) + 2)
      | none => if rows.isEmpty = true then .text 2 else outM us (tbW us.length rows) (gdW rows) := by
    simp only [outW, hls] <;> rfl
  have l6 : us.length ≤ 6 := by
    have := T.l7 (w0 :: us) rows rfl
    rw [List.length_cons] at this
    omega
  have w25 := x3.trans (x4.trans x5)
  have hD5' := w25 _ _ hD2
  have hP5 : Paired (RowS H5) rs rows := Paired.mapP hP fun _ _ z => w25 _ _ z
  have k5 := x5 _ _ (x4 _ _ k3)
  have hrl := Paired.length hP5
  clear x1 k1 x2 x3 x4 x5 w25 k4 x12 x13 x14 hP hr0 hr0' h5 hD2 k3
  refine ⟨_, rfl, 1, rfl, D, _, rfl, SqL.of hD5', fun p6 hp6 => ?_⟩
  rw [show cutV ((r0 :: rs).map V.ref) (some 1) none = rs.map V.ref from cut_1 _ _]
  have x6 := sm_new (o := .lst (rs.map V.ref)) hp6
  have k6 : upd H5 p6 (.lst (rs.map V.ref)) p6 = some (.lst (rs.map V.ref)) := upd_same
  generalize upd H5 p6 (.lst (rs.map V.ref)) = H6 at x6 k6 ⊢
  have x16 := x15.trans x6
  refine ⟨p6, rfl, ⟨_, SqL.of k6⟩, for_enum (xs := rs.map V.ref) (fun i σ H' => ∃ (v3 v4 v5 : Option V), σ = [some (.str (textW ((w0 :: us) :: rows))), some (.ref D), some (.ref ll), v3, v4, v5, none, none, none, none, none, none] ∧ firstBad us.length i (rows.drop i) = firstBad us.length 0 rows ∧ Same H6 H') ?_ ?_ ?_ ?_⟩
  · exact ⟨none, none, none, rfl, rfl, Same.refl _⟩
  · rintro i σ H0 _ ⟨v3, v4, v5, _, _, x⟩
    exact SqL.of (x _ _ k6)
  · rintro i y σ H0 T0 hy hT0 ⟨v3, v4, v5, rfl, gb, x0⟩
    rw [List.getElem?_map] at hy
    obtain ⟨u, hu, rfl⟩ := Option.map_eq_some_iff.mp hy
    obtain ⟨c, hc, hri⟩ := paired_get hP5 hu
    have hm : c ∈ rows := List.mem_of_getElem? hc
    have RC := T.row (List.mem_cons_of_mem (w0 :: us) hm)
    have hcc := RC.cnt
    obtain ⟨w1, vs, rfl⟩ := List.exists_cons_of_ne_nil RC.ne
    rw [List.length_cons] at hcc
    rw [bad_step hc] at gb
    have xT := x0.trans (sm_new (o := .tup [.int i, .ref u]) hT0)
    have hTt : upd H0 T0 (.tup [.int i, .ref u]) T0 = some (.tup [.int i, .ref u]) := upd_same
    generalize upd H0 T0 (.tup [.int i, .ref u]) = H7 at xT hTt ⊢
    have hu7 : H7 u = some (.lst ((w1 :: vs).map V.str)) := xT _ _ (x6 _ _ hri)
    have bad : stepsW us.length (w1 :: vs) = none → outW (w0 :: us) rows = .text ((i : Int) + 2) := fun e => by
      rw [e] at gb
      rw [hout, ← gb]
    have hsw : stepsW us.length (w1 :: vs) = if ((decide (w1 = "good") || decide (w1 = "plain")) && decide (vs.length = us.length) && vs.all numB) = true then some (vs.map numV) else none := rfl
    refine ⟨T0, _, rfl, SqT.of hTt, rfl, _, _, rfl, _, _, rfl, rfl, ?_⟩
    refine ⟨_, rfl, u, _, 0, .str w1, rfl, rfl, SqL.of hu7, atI_nat (j := 0) rfl, tiny (show 2 ≤ 1000 by decide), fun pt hpt => ?_⟩
    have x8 := sm_new (o := .tup [V.str "good", V.str "plain"]) hpt
    have k8 : upd H7 pt (.tup [V.str "good", V.str "plain"]) pt = some (.tup [V.str "good", V.str "plain"]) := upd_same
    generalize upd H7 pt (.tup [V.str "good", V.str "plain"]) = H8 at x8 k8 ⊢
    have x68 := xT.trans x8
    have x18 := x16.trans x68
    refine ⟨pt, _, rfl, .inr (SqT.of k8), rfl, by decide, _, rfl, ?_⟩
    rw [show [V.str "good", V.str "plain"] = [("good" : Str), "plain"].map V.str from rfl]
    have hor : inV (.str w1) ([("good" : Str), "plain"].map V.str) = (decide (w1 = "good") || decide (w1 = "plain")) := by
      rw [Bool.eq_iff_iff, inV_mem, Bool.or_eq_true, decide_eq_true_iff, decide_eq_true_iff]
      simp
    rw [show (if false = true then !inV (.str w1) ([("good" : Str), "plain"].map V.str) else inV (.str w1) ([("good" : Str), "plain"].map V.str)) = (decide (w1 = "good") || decide (w1 = "plain")) from hor]
    cases hgp : (decide (w1 = "good") || decide (w1 = "plain"))
    case false =>
      refine iteF ?_
      refine ⟨_, rfl, _, rfl, iteT ?_⟩
      exact ⟨_, rfl, _, _, rfl, rfl, tiny (show 2 ≤ 1000 by decide), txt _ H8 x18 (bad (by rw [hsw, hgp]; rfl))⟩
    refine iteT ?_
    refine ⟨_, rfl, u, _, rfl, .inl (SqL.of (x8 _ _ hu7)), _, rfl, ll, _, rfl, .inl (SqL.of (x68 _ _ (x6 _ _ k5))), _, _, rfl, rfl, rfl, ?_⟩
    rw [List.length_map, List.length_map]
    show gName 5 (V.bl (decide (V.int ((vs.length + 1 : Nat) : Int) = V.int (1 + (us.length : Nat))))) _ H8 _
    by_cases hvl : vs.length = us.length
    case neg =>
      rw [decide_eq_false (fun z => hvl (by have := V.int.inj z; omega) : ¬ V.int ((vs.length + 1 : Nat) : Int) = V.int (1 + (us.length : Nat)))]
      refine ⟨_, rfl, _, rfl, iteT ?_⟩
      exact ⟨_, rfl, _, _, rfl, rfl, tiny (show 2 ≤ 1000 by decide), txt _ H8 x18 (bad (by rw [hsw, hgp, decide_eq_false hvl]; rfl))⟩
    rw [decide_eq_true (by rw [hvl]; congr 1; omega : V.int ((vs.length + 1 : Nat) : Int) = V.int (1 + (us.length : Nat)))]
    refine ⟨_, rfl, _, rfl, iteF ?_⟩
    refine ⟨_, rfl, 1, rfl, u, _, rfl, SqL.of (x8 _ _ hu7), fun p9 hp9 => ?_⟩
    rw [show cutV ((w1 :: vs).map V.str) (some 1) none = vs.map V.str from cut_1 _ _]
    have x9 := sm_new (o := .lst (vs.map V.str)) hp9
    have k9 : upd H8 p9 (.lst (vs.map V.str)) p9 = some (.lst (vs.map V.str)) := upd_same
    generalize upd H8 p9 (.lst (vs.map V.str)) = H9 at x9 k9 ⊢
    refine ⟨p9, rfl, ⟨_, SqL.of k9⟩, fun D9 hD9 => all_by (K := K) by_isu2 (fun y hy => RC.wl y (List.mem_cons_of_mem _ hy)) (by omega) hD9 (SqL.of k9) fun H10 x10 h10 => ⟨D9, _, rfl, SqL.of h10, _, rfl, ?_⟩⟩
    rw [all_mapB]
    have x610 := x68.trans (x9.trans x10)
    cases hva : vs.all numB
    case false =>
      refine iteT ?_
      exact ⟨_, rfl, _, _, rfl, rfl, tiny (show 2 ≤ 1000 by decide), txt _ H10 (x16.trans x610) (bad (by rw [hsw, hva, Bool.and_false]; rfl))⟩
    refine iteF ?_
    rw [hsw, hgp, hva, decide_eq_true hvl] at gb
    exact ⟨_, _, _, rfl, gb, x610⟩
  · rintro σ H7 ⟨v3, v4, v5, rfl, gb, x7⟩
    rw [List.length_map, hrl, List.drop_length] at gb
    have gb' : firstBad us.length 0 rows = none := gb.symm
    have x67 := x6.trans x7
    have x17 := x15.trans x67
    rw [gb'] at hout
    refine ⟨_, rfl, D, _, rfl, .inl (SqL.of (x67 _ _ hD5')), rfl, _, rfl, ?_⟩
    rw [List.length_map, List.length_cons]
    cases hr0 : rows.isEmpty
    case true =>
      have er : rows = [] := List.isEmpty_iff.mp hr0
      rw [decide_eq_true (show V.int ((rs.length + 1 : Nat) : Int) = V.int 1 by rw [hrl, er]; rfl)]
      refine iteT ?_
      exact ⟨tiny (show 2 ≤ 1000 by decide), txt 2 H7 x17 (by rw [hout, hr0]; rfl)⟩
    have hrp : 1 ≤ rows.length := by
      cases rows with
      | nil => cases hr0
      | cons => exact Nat.succ_le_succ (Nat.zero_le _)
    rw [decide_eq_false (fun z => by have := V.int.inj z; omega : ¬ V.int ((rs.length + 1 : Nat) : Int) = V.int 1)]
    refine iteF ?_
    simp only [hr0] at hout
    have hout : outW (w0 :: us) rows = outM us (tbW us.length rows) (gdW rows) := hout
    have hD7 := x67 _ _ hD5'
    have k7 := x67 _ _ k5
    have hP7 : Paired (RowS H7) rs rows := Paired.mapP hP5 fun _ _ z => x67 _ _ z
    clear x6 x7 x67 x16 k6 k5 hD5' hP5 gb txt
    refine ⟨_, rfl, ll, rfl, ⟨_, SqL.of k7⟩, for_enum (xs := us.map V.str) (fun i σ H' => ∃ v3 v4 v5 v6 : Option V, σ = [some (.str (textW ((w0 :: us) :: rows))), some (.ref D), some (.ref ll), v3, v4, v5, v6, none, none, none, none, none] ∧ dupG (us.take i) (us.drop i) = dupG [] us ∧ Same H7 H') ?_ ?_ ?_ ?_⟩
    · exact ⟨_, _, _, none, rfl, rfl, Same.refl _⟩
    · rintro i σ H1 _ ⟨v3, v4, v5, v6, _, _, x⟩
      exact SqL.of (x _ _ k7)
    · rintro i y σ H0 T0 hy hT0 ⟨v3, v4, v5, v6, rfl, hd, x0⟩
      rw [List.getElem?_map] at hy
      obtain ⟨z, hz, rfl⟩ := Option.map_eq_some_iff.mp hy
      rw [dup_step hz] at hd
      have x1 : Same H7 (upd H0 T0 (.tup [.int i, .str z])) := x0.trans (sm_new hT0)
      have hTt : upd H0 T0 (.tup [.int i, .str z]) T0 = some (.tup [.int i, .str z]) := upd_same
      generalize upd H0 T0 (.tup [.int i, .str z]) = H1 at x1 hTt ⊢
      refine ⟨T0, _, rfl, SqT.of hTt, rfl, _, _, rfl, _, _, rfl, rfl, ?_⟩
      refine ⟨_, rfl, _, rfl, _, rfl, _, rfl, ll, _, rfl, SqL.of (x1 _ _ k7), fun p2 hp2 => ?_⟩
      rw [cut_to, ← List.map_take]
      have x2 := x1.trans (sm_new (o := .lst ((us.take i).map V.str)) hp2)
      have k2 : upd H1 p2 (.lst ((us.take i).map V.str)) p2 = some (.lst ((us.take i).map V.str)) := upd_same
      generalize upd H1 p2 (.lst ((us.take i).map V.str)) = H2' at x2 k2 ⊢
      refine ⟨p2, _, rfl, .inl (SqL.of k2), rfl, flat_strs _, _, rfl, ?_⟩
      by_cases hn : z ∈ us.take i
      · rw [if_pos hn] at hd
        rw [show (if false = true then !inV (.str z) ((us.take i).map V.str) else inV (.str z) ((us.take i).map V.str)) = true from inV_mem.mpr hn]
        refine iteT ?_
        refine ⟨_, rfl, tiny (show 2 ≤ 1000 by decide), fun r hr' => q r _ (x17.trans (x2.trans (sm_new hr'))) ?_⟩
        rw [hout, outM, ← hd]
        exact DataN.up (DataN.up (DataN.tup upd_same (.cons (DataN.str 0 "twice") (.cons (DataN.str 0 z) .nil))))
      · rw [if_neg hn] at hd
        rw [show (if false = true then !inV (.str z) ((us.take i).map V.str) else inV (.str z) ((us.take i).map V.str)) = false from inV_nmem.mpr hn]
        refine iteF ?_
        exact ⟨_, _, _, _, rfl, hd, x2⟩
    · rintro σ H8 ⟨v3, v4, v5, v6, rfl, hd1, x8⟩
      rw [List.length_map, List.drop_length] at hd1
      have d1 : dupG [] us = none := hd1.symm
      clear hd1
      have hD8 := x8 _ _ hD7
      have k8 := x8 _ _ k7
      have hP8 : Paired (RowS H8) rs rows := Paired.mapP hP7 fun _ _ z => x8 _ _ z
      have x18 := x17.trans x8
      refine ⟨_, rfl, 1, rfl, D, _, rfl, SqL.of hD8, fun p9 hp9 => ?_⟩
      rw [show cutV ((r0 :: rs).map V.ref) (some 1) none = rs.map V.ref from cut_1 _ _]
      have x9 := sm_new (o := .lst (rs.map V.ref)) hp9
      have k9 : upd H8 p9 (.lst (rs.map V.ref)) p9 = some (.lst (rs.map V.ref)) := upd_same
      generalize upd H8 p9 (.lst (rs.map V.ref)) = H9 at x9 k9 ⊢
      refine ⟨p9, rfl, ⟨_, SqL.of k9⟩, fun tA htA => ints_by (K := K) (all_good gb') (by omega) (by omega) htA k9 (Paired.mapP hP8 fun _ _ z => x9 _ _ z) fun H10 vs x10 h10 hP10 => ?_⟩
      have x810 := x9.trans x10
      have x110 := x18.trans x810
      have hD10 := x810 _ _ hD8
      have k10 := x810 _ _ k8
      have hPr : Paired (RowS H10) rs rows := Paired.mapP hP8 fun _ _ z => x810 _ _ z
      have htl : (tbW us.length rows).length = rows.length := List.length_map ..
      have hT : Tb H10 tA vs (tbW us.length rows) us.length := ⟨h10, hP10, fun r hr => by
        obtain ⟨c, hc, rfl⟩ := List.mem_map.mp hr
        obtain ⟨xs, hxs⟩ := all_good gb' c hc
        obtain ⟨_, vs', _, _, e1, _, e2⟩ := steps_inv hxs
        rw [hxs, e2]
        show (vs'.map numV).length = _
        rw [List.length_map, e1], by omega⟩
      have hge : ∀ r ∈ tbW us.length rows, ∀ x ∈ r, 0 ≤ x := fun r hr x hx => by
        obtain ⟨c, hc, rfl⟩ := List.mem_map.mp hr
        obtain ⟨xs, hxs⟩ := all_good gb' c hc
        obtain ⟨_, vs', _, _, _, e1, e2⟩ := steps_inv hxs
        rw [hxs, e2] at hx
        obtain ⟨z, hz, rfl⟩ := List.mem_map.mp hx
        exact (numB_val (List.all_eq_true.mp e1 z hz)).2.1
      clear x8 x9 x10 x810 k9 hP7 hP8 hP10 h10 hD8 hD7 k7 k8 x17 x18
      refine ⟨_, rfl, tA, rfl, ⟨_, SqL.of hT.at_⟩, for_enum (xs := vs.map V.ref) (fun i σ H' => ∃ v3 v4 v5 v6 v8 v9 v10 : Option V, σ = [some (.str (textW ((w0 :: us) :: rows))), some (.ref D), some (.ref ll), v3, v4, v5, v6, some (.ref tA), v8, v9, v10, none] ∧ stepG (tbW us.length rows).length us i ((tbW us.length rows).drop i) = stepG (tbW us.length rows).length us 0 (tbW us.length rows) ∧ Same H10 H') ?_ ?_ ?_ ?_⟩
      · exact ⟨_, _, _, _, none, none, none, rfl, rfl, Same.refl _⟩
      · rintro i σ H1 _ ⟨_, _, _, _, _, _, _, _, _, x⟩
        exact SqL.of (x _ _ hT.at_)
      · rintro i y σ H0 T0 hy hT0 ⟨v3, v4, v5, v6, v8, v9, v10, rfl, hd, x0⟩
        rw [List.getElem?_map] at hy
        obtain ⟨r, hr', rfl⟩ := Option.map_eq_some_iff.mp hy
        obtain ⟨row, hrow, hri⟩ := paired_get hT.rows hr'
        have hrm := List.mem_of_getElem? hrow
        have hlen := hT.len row hrm
        rw [step_step hrow] at hd
        have x2 : Same H10 (upd H0 T0 (.tup [.int i, .ref r])) := x0.trans (sm_new hT0)
        have hTt : upd H0 T0 (.tup [.int i, .ref r]) T0 = some (.tup [.int i, .ref r]) := upd_same
        generalize upd H0 T0 (.tup [.int i, .ref r]) = H2' at x2 hTt ⊢
        refine ⟨T0, _, rfl, SqT.of hTt, rfl, _, _, rfl, _, _, rfl, rfl, ?_⟩
        refine ⟨_, rfl, _, rfl, ll, r, rfl, ⟨_, SqL.of (x2 _ _ k10)⟩, ⟨_, SqL.of (x2 _ _ hri)⟩, for_zip (xs := us.map V.str) (ys := row.map V.int) (fun j σ H' => ∃ v3 v4 v5 v6 v10 : Option V, σ = [some (.str (textW ((w0 :: us) :: rows))), some (.ref D), some (.ref ll), v3, v4, v5, v6, some (.ref tA), some (.int i), some (.ref r), v10, none] ∧ stepRow (tbW us.length rows).length (us.drop j) (row.drop j) = stepRow (tbW us.length rows).length us row ∧ Same H10 H') (by rw [List.length_map, List.length_map, hlen]) ?_ ?_ ?_ ?_⟩
        · exact ⟨_, _, _, _, _, rfl, rfl, x2⟩
        · rintro j σ H3 _ ⟨_, _, _, _, _, _, _, x⟩
          exact ⟨SqL.of (x _ _ k10), SqL.of (x _ _ hri)⟩
        · rintro j y1 y2 σ H3 T2 hy1 hy2 hT2 ⟨u3, u4, u5, u6, u10, rfl, hd2, x3⟩
          rw [List.getElem?_map] at hy1 hy2
          obtain ⟨lt, hlt, rfl⟩ := Option.map_eq_some_iff.mp hy1
          obtain ⟨x, hx, rfl⟩ := Option.map_eq_some_iff.mp hy2
          rw [row_step hlt hx] at hd2
          have x4 : Same H10 (upd H3 T2 (.tup [.str lt, .int x])) := x3.trans (sm_new hT2)
          have hTt2 : upd H3 T2 (.tup [.str lt, .int x]) T2 = some (.tup [.str lt, .int x]) := upd_same
          generalize upd H3 T2 (.tup [.str lt, .int x]) = H4 at x4 hTt2 ⊢
          have h0 := hge row hrm x (List.mem_of_getElem? hx)
          refine ⟨T2, _, rfl, SqT.of hTt2, rfl, _, _, rfl, _, _, rfl, rfl, ?_⟩
          refine ⟨_, rfl, _, rfl, tA, _, rfl, .inl (SqL.of (x4 _ _ hT.at_)), _, _, rfl, rfl, _, rfl, ?_⟩
          rw [hT.width]
          by_cases h1 : x < (tbW us.length rows).length
          · rw [decide_eq_false (by omega)]
            refine iteF ?_
            rw [if_neg (by rw [badN, decide_eq_true h0, decide_eq_true h1]; exact Bool.false_ne_true)] at hd2
            exact ⟨_, _, _, _, _, rfl, hd2, x4⟩
          · rw [decide_eq_true (by omega)]
            refine iteT ?_
            rw [if_pos (by rw [badN, decide_eq_false h1, Bool.and_false]; rfl)] at hd2
            rw [← hd2] at hd
            refine ⟨_, rfl, _, rfl, tiny (show 3 ≤ 1000 by decide), fun z hz => q z _ (x110.trans (x4.trans (sm_new hz))) ?_⟩
            have hd' : stepG (tbW us.length rows).length us 0 (tbW us.length rows) = some (i, lt) := hd.symm
            rw [hout]
            simp only [outM, d1, hd']
            exact DataN.up (DataN.up (DataN.tup upd_same (.cons (DataN.str 0 "step") (.cons (DataN.int 0 _) (.cons (DataN.str 0 lt) .nil)))))
        · rintro σ H3 ⟨u3, u4, u5, u6, u10, rfl, hd2, x3⟩
          rw [List.length_map, List.drop_length] at hd2
          have e : stepRow (tbW us.length rows).length us row = none := hd2.symm
          rw [e] at hd
          exact ⟨_, _, _, _, _, _, _, rfl, hd, x3⟩
      · rintro σ H11 ⟨v3, v4, v5, v6, v8, v9, v10, rfl, hd, x11⟩
        rw [hT.width, List.drop_length] at hd
        have d2 : stepG (tbW us.length rows).length us 0 (tbW us.length rows) = none := hd.symm
        clear hd
        have hout : outW (w0 :: us) rows = .made us (tbW us.length rows) (gdW rows) := by
          rw [hout]
          simp only [outM, d1, d2]
        have x111 := x110.trans x11
        refine ⟨_, rfl, tA, _, rfl, .inl (SqL.of (x11 _ _ hT.at_)), _, rfl, by rw [hT.width]; omega, by rw [hT.width]; omega, fun gA hgA => ?_⟩
        rw [show (((vs.map V.ref).length : Nat) : Int).toNat = rows.length by rw [hT.width, htl]; omega]
        refine good_by (K := K) (r0 := r0) (fun c hc => T.w.rne c (List.mem_cons_of_mem _ hc)) (by omega) hgA (x11 _ _ hD10) (Paired.mapP hPr fun _ _ z => x11 _ _ z) fun H12 x12 h12 => ?_
        have x1112 := x11.trans x12
        have x112 := x111.trans x12
        refine ⟨_, rfl, ll, _, rfl, .inl ⟨SqL.of (x1112 _ _ k10), fun tl htl' => ?_⟩⟩
        have x13 := sm_new (o := .tup (us.map V.str)) htl'
        have k13 : upd H12 tl (.tup (us.map V.str)) tl = some (.tup (us.map V.str)) := upd_same
        generalize upd H12 tl (.tup (us.map V.str)) = H13 at x13 k13 ⊢
        refine ⟨_, rfl, tA, rfl, ⟨_, SqL.of (x13 _ _ (x1112 _ _ hT.at_))⟩, fun D14 hD14 => tuples (K := K) hD14 (hT.same (x1112.trans x13)) fun H14 vs14 x14 hD14' hU14 => ⟨D14, _, rfl, .inl ⟨SqL.of hD14', fun tt htt => ?_⟩⟩⟩
        have x15 := sm_new (o := .tup (vs14.map V.ref)) htt
        have k15 : upd H14 tt (.tup (vs14.map V.ref)) tt = some (.tup (vs14.map V.ref)) := upd_same
        have hU15 : Paired (RowU (upd H14 tt (.tup (vs14.map V.ref)))) vs14 (tbW us.length rows) := Paired.mapP hU14 fun _ _ z => x15 _ _ z
        generalize upd H14 tt (.tup (vs14.map V.ref)) = H15 at x15 k15 hU15 ⊢
        have x1315 := x14.trans x15
        refine ⟨_, rfl, gA, _, rfl, .inl ⟨SqL.of (x1315 _ _ (x13 _ _ h12)), fun tg htg => ?_⟩⟩
        have x16 := sm_new (o := .tup ((gdW rows).map V.int)) htg
        have k16 : upd H15 tg (.tup ((gdW rows).map V.int)) tg = some (.tup ((gdW rows).map V.int)) := upd_same
        generalize upd H15 tg (.tup ((gdW rows).map V.int)) = H16 at x16 k16 ⊢
        refine ⟨tiny (show 4 ≤ 1000 by decide), fun z hz => ?_⟩
        have x17 := sm_new (o := .tup [.str "made", .ref tl, .ref tt, .ref tg]) hz
        refine q z _ (x112.trans (x13.trans (x1315.trans (x16.trans x17)))) ?_
        rw [hout]
        exact DataN.tup upd_same (.cons (DataN.str 2 "made") (.cons (DataN.up (DataN.tup (x17 _ _ (x16 _ _ (x1315 _ _ k13))) (DataN.strs 0 _))) (.cons (DataN.tup (x17 _ _ (x16 _ _ k15)) (rows_data (Paired.mapP hU15 fun _ _ z => x17 _ _ (x16 _ _ z)) 0)) (.cons (DataN.up (DataN.tup (x17 _ _ k16) (DataN.ints 0 _))) .nil))))
end
end KK
namespace KK
open PySem L2 PyProof.Rows KKM
section
variable {P : Program} {w : World} {K : PySem.W.Frag} {mg : Str → Option Value} {base : Heap} {f g g2 g3 g4 g5 g6 g7 g8 : Addr} {fd gd gd2 gd3 gd4 gd5 gd6 gd7 gd8 : FuncData} {k j : Nat} {C CT CB CG CN M ft fb fn : Addr} {ftd fbd fnd : FuncData}
theorem latg9 {t1 t2 t3 t4 t5 t6 t7 t8 t9 : TS} {D : Ends} {σ : L2.St} {H : Hp} {i : Nat} {v : V} (h : let D0 : Ends := D; let σ0 : L2.St := σ.set i (some v); let U9 : TS := t9; let U8 : TS := tSeq t8 U9; let U7 : TS := tSeq t7 U8; let U6 : TS := tSeq t6 U7; let U5 : TS := tSeq t5 U6; let U4 : TS := tSeq t4 U5; let U3 : TS := tSeq t3 U4; let U2 : TS := tSeq t2 U3; tSeq t1 U2 D0 σ0 H) : gName i v σ H fun σ2 H2 => (tSeq t1 (tSeq t2 (tSeq t3 (tSeq t4 (tSeq t5 (tSeq t6 (tSeq t7 (tSeq t8 t9)))))))) D σ2 H2 := h
theorem dup_in : ∀ {zs seen : List Str} {n : Str}, dupG seen zs = some n → n ∈ zs := by
  intro zs
  induction zs with
  | nil => intro seen n h; cases h
  | cons z r ih =>
    intro seen n h
    unfold dupG at h
    split at h
    · cases h; exact List.mem_cons_self ..
    · exact List.mem_cons_of_mem _ (ih h)
theorem row_in {m : Int} : ∀ {ls : List Str} {xs : List Int} {l : Str}, stepRow m ls xs = some l → l ∈ ls := by
  intro ls
  induction ls with
  | nil => intro xs l h; cases xs <;> cases h
  | cons z r ih =>
    intro xs l h
    cases xs with
    | nil => cases h
    | cons x xs =>
      unfold stepRow at h
      split at h
      · cases h; exact List.mem_cons_self ..
      · exact List.mem_cons_of_mem _ (ih h)
theorem step_in {m : Int} {ls : List Str} : ∀ {tb : List (List Int)} {i j : Nat} {l : Str}, stepG m ls i tb = some (j, l) → l ∈ ls ∧ j < i + tb.length := by
  intro tb
  induction tb with
  | nil => intro i j l h; cases h
  | cons r t ih =>
    intro i j l h
    unfold stepG at h
    cases e : stepRow m ls r with
    | some l' => rw [e] at h; cases h; exact ⟨row_in e, by rw [List.length_cons]; omega⟩
    | none =>
      rw [e] at h
      have := ih h
      exact ⟨this.1, by rw [List.length_cons]; omega⟩
theorem abc_small {c : Nat} (h : c ∈ abc.cps.toList) : c < 4294967296 := by
  revert c
  decide +kernel
theorem nm_small {z : Str} (h : Nm z) : Sm 0 200 (.str z) := Sm.str (fun c hc => abc_small (h.2.2 c hc)) (Nat.le_trans h.2.1 (by decide))
theorem int_small {x : Int} (h0 : 0 ≤ x) (h1 : x < 100000) : Sm 0 200 (.int x) := Sm.int (by omega) (by omega) (by decide)
theorem tag_small : ∀ z ∈ [("text" : Str), "twice", "step", "made"], (∀ c ∈ z.cps.toList, c < 4294967296) ∧ z.length ≤ 200 := by decide +kernel
theorem tag_sm {z : Str} (h : z ∈ [("text" : Str), "twice", "step", "made"]) : Sm 0 200 (.str z) := Sm.str (tag_small z h).1 (tag_small z h).2
theorem mem2 {p : PyData → Prop} {a b : PyData} (ha : p a) (hb : p b) : ∀ x ∈ [a, b], p x := fun x hx => by
  simp only [List.mem_cons, List.not_mem_nil, or_false] at hx
  rcases hx with rfl | rfl
  · exact ha
  · exact hb
theorem mem3 {p : PyData → Prop} {a b c : PyData} (ha : p a) (hb : p b) (hc : p c) : ∀ x ∈ [a, b, c], p x := fun x hx => by
  simp only [List.mem_cons, List.not_mem_nil, or_false] at hx
  rcases hx with rfl | rfl | rfl
  · exact ha
  · exact hb
  · exact hc
theorem mem4 {p : PyData → Prop} {a b c d : PyData} (ha : p a) (hb : p b) (hc : p c) (hd : p d) : ∀ x ∈ [a, b, c, d], p x := fun x hx => by
  simp only [List.mem_cons, List.not_mem_nil, or_false] at hx
  rcases hx with rfl | rfl | rfl | rfl
  · exact ha
  · exact hb
  · exact hc
  · exact hd
theorem made_sm {ls : List Str} {tb : List (List Int)} {gd : List Int} (nm : ∀ z ∈ ls, Nm z) (l6 : ls.length ≤ 6) (t40 : tb.length ≤ 40) (len : ∀ r ∈ tb, r.length ≤ 6) (ent : ∀ r ∈ tb, ∀ x ∈ r, 0 ≤ x ∧ x < 1000) (g40 : gd.length ≤ 40) (gin : ∀ x ∈ gd, 0 ≤ x ∧ x < 1000) : Sm 8 1048576 (madeD ls tb gd) := by
  unfold madeD
  refine (Sm.tuple (n := 2) (w := 50000) (m := 200004) (mem4 ((tag_sm (by simp)).mono (by decide) (by decide)) ((Sm.tuple (n := 0) (w := 200) (m := 1206) (fun d hd => ?_) (by rw [List.length_map]; omega)).mono (by decide) (by decide)) (Sm.tuple (n := 1) (w := 1206) (m := 50000) (fun d hd => ?_) (by rw [List.length_map]; omega)) ((Sm.tuple (n := 0) (w := 200) (m := 8040) (fun d hd => ?_) (by rw [List.length_map]; omega)).mono (by decide) (by decide))) (show 4 * (50000 + 1) ≤ 200004 by decide)).mono (by decide) (by decide)
  · obtain ⟨z, hz, rfl⟩ := List.mem_map.mp hd
    exact nm_small (nm z hz)
  · obtain ⟨r, hr, rfl⟩ := List.mem_map.mp hd
    refine Sm.tuple (n := 0) (w := 200) (m := 1206) (fun d hd => ?_) (by rw [List.length_map]; have := len r hr; omega)
    obtain ⟨z, hz, rfl⟩ := List.mem_map.mp hd
    have := ent r hr z hz
    exact int_small this.1 (by omega)
  · obtain ⟨z, hz, rfl⟩ := List.mem_map.mp hd
    have := gin z hz
    exact int_small this.1 (by omega)
theorem bad_lt {m : Nat} : ∀ {rows : List (List Str)} {i b : Nat}, firstBad m i rows = some b → b < i + rows.length := by
  intro rows
  induction rows with
  | nil => intro i b h; cases h
  | cons c r ih =>
    intro i b h
    unfold firstBad at h
    cases e : stepsW m c with
    | none => rw [e] at h; cases h; rw [List.length_cons]; omega
    | some xs =>
      rw [e] at h
      have := ih h
      rw [List.length_cons]; omega
theorem out_sm {ws : List Str} {rows : List (List Str)} (T : TxtOk (ws :: rows)) : Sm 8 1048576 (dataO (outW ws rows)) := by
  have tfew := T.few
  rw [List.length_cons] at tfew
  have two : ∀ {a b : PyData}, Sm 0 200 a → Sm 0 200 b → Sm 8 1048576 (.tuple [a, b]) := fun ha hb => (Sm.tuple (n := 0) (w := 200) (m := 402) (mem2 ha hb) (show 2 * (200 + 1) ≤ 402 by decide)).mono (by decide) (by decide)
  cases e1 : lettersW ws with
  | none =>
    simp only [outW, e1]
    exact two (tag_sm (by simp)) (int_small (by decide) (by decide))
  | some ls =>
    obtain ⟨e0, hlne, hnm⟩ := letters_inv e1
    have l6 : ls.length ≤ 6 := by
      have := T.l7 ws rows rfl
      rw [e0, List.length_cons] at this
      omega
    cases e2 : firstBad ls.length 0 rows with
    | some i =>
      simp only [outW, e1, e2]
      have := bad_lt e2
      exact two (tag_sm (by simp)) (int_small (by omega) (by omega))
    | none =>
      simp only [outW, e1, e2]
      split
      · exact two (tag_sm (by simp)) (int_small (by decide) (by decide))
      · unfold outM
        cases e3 : dupG [] ls with
        | some n => exact two (tag_sm (by simp)) (nm_small (hnm n (dup_in e3)))
        | none =>
          cases e4 : stepG (tbW ls.length rows).length ls 0 (tbW ls.length rows) with
          | some x =>
            obtain ⟨i, l⟩ := x
            simp only [e4]
            have h4 := step_in e4
            rw [tbW, List.length_map] at h4
            exact (Sm.tuple (n := 0) (w := 200) (m := 603) (mem3 (tag_sm (by simp)) (int_small (by omega) (by omega)) (nm_small (hnm l h4.1))) (show 3 * (200 + 1) ≤ 603 by decide)).mono (by decide) (by decide)
          | none =>
            simp only [e4]
            have hg := all_good e2
            refine made_sm hnm l6 (by rw [tbW, List.length_map]; omega) (fun r hr => ?_) (fun r hr x hx => ?_) (Nat.le_trans (gd_len _ _) (by omega)) (fun x hx => by have := gd_in x hx; omega)
            · obtain ⟨c, hc, rfl⟩ := List.mem_map.mp hr
              obtain ⟨xs, hxs⟩ := hg c hc
              obtain ⟨_, vs', _, _, a1, _, a2⟩ := steps_inv hxs
              rw [hxs, a2]
              show (vs'.map numV).length ≤ 6
              rw [List.length_map, a1]; exact l6
            · obtain ⟨c, hc, rfl⟩ := List.mem_map.mp hr
              obtain ⟨xs, hxs⟩ := hg c hc
              obtain ⟨_, vs', _, _, _, a1, a2⟩ := steps_inv hxs
              rw [hxs, a2] at hx
              obtain ⟨z, hz, rfl⟩ := List.mem_map.mp hx
              exact (numB_val (List.all_eq_true.mp a1 z hz)).2
theorem _root_.L2.FnOk.or {CX : CXT} {ps : List Str} {sp sp' : Sp} (F : FnOk P w K mg base CX k f fd ps sp) (G : FnOk P w K mg base CX k f fd ps sp') : FnOk P w K mg base CX k f fd ps (fun vs H Q E => sp vs H Q E ∨ sp' vs H Q E) :=
  ⟨fun vs H Q E q => q.elim (F.len vs H Q E) (G.len vs H Q E), fun A outer s H args us vs Q E hr he hb hv hs => hs.elim (F.run A outer s H args us vs Q E hr he hb hv) (G.run A outer s H args us vs Q E hr he hb hv)⟩
def spToldA (CN CT CB CG : Addr) : Sp := fun vs H Q E => (spTold CN CT CB CG CN vs H Q E ∨ spTold CN CT CB CG CT vs H Q E) ∨ spTold CN CT CB CG CB vs H Q E
theorem told_any {ws : List Str} {rows : List (List Str)} {H : Hp} {Q : VK} {E : XK} (T : TxtOk (ws :: rows)) (q : ∀ (r : Addr) (H' : Hp), Same H H' → DataN H' 3 (.ref r) (dataO (outW ws rows)) → Q (.ref r) H') : spToldA CN CT CB CG [.str (textW (ws :: rows))] H Q E := by
  cases e : outW ws rows with
  | text v => exact .inl (.inl ⟨ws, rows, rfl, T, fun c fs h => by rw [rd_out, e] at h; cases h; rfl, q⟩)
  | twice n => exact .inl (.inr ⟨ws, rows, rfl, T, fun c fs h => by rw [rd_out, e] at h; cases h; rfl, q⟩)
  | step i l => exact .inr ⟨ws, rows, rfl, T, fun c fs h => by rw [rd_out, e] at h; cases h; rfl, q⟩
  | made ls tb gd => exact .inr ⟨ws, rows, rfl, T, fun c fs h => (by rw [rd_out, e] at h; cases h), q⟩
def spLaw (K : PySem.W.Frag) : Sp := fun vs H Q _ => ∃ (a : Addr) (ns : List Int), vs = [.ref a] ∧ SqL K H a (ns.map V.int) ∧ ns.length ≤ 63 ∧ ∀ H', Q (.bl true) H'
theorem sc_law : FnScope ["_law_script", "_law_k", "_law_flow_here", "_law_spoils", "_law_letters", "_law_table", "_law_good", "_law_text_here", "_law_turn", "_law_due_here"] ["_law_script"] (defScope s_law) := ⟨rfl, rfl, rfl, by decide +kernel, rfl, by decide +kernel, by decide +kernel⟩
theorem ok_law (F : Fun K "law" "law" s_law f fd) (B : Bt mg) (G__law_flow : Fn P w K mg base (k + 1) "_law_flow" ["_law_script", "_law_k"] (spFlow K) g gd) (G__law_draw : Fn P w K mg base (k + 1) "_law_draw" ["_law_flow_here", "_law_many"] spDraw g2 gd2) (G__law_names : Fn P w K mg base (k + 1) "_law_names" ["_law_flow_here", "_law_many"] spNames g3 gd3) (G__law_machine : Fn P w K mg base (k + 1) "_law_machine" ["_law_flow_here", "_law_many", "_law_letters"] spMachine g4 gd4)
    (G__law_text : Fn P w K mg base (k + 1) "_law_text" ["_law_letters", "_law_table", "_law_good"] spText g5 gd5) (G__law_spoilt : Fn P w K mg base (k + 1) "_law_spoilt" ["_law_flow_here", "_law_text_here"] spSpoilt g6 gd6) (G__law_due : Fn P w K mg base (k + 1) "_law_due" ["_law_text_here"] spDue g7 gd7) (G__law_told : Fn P w K mg base (k + 1) "_law_told" ["_law_text_here"] (spToldA CN CT CB CG) g8 gd8) :
    FnOk P w K mg base CX0 (k + 2) f fd ["_law_script"] (spLaw K) := by
  refine F.ok sc_law (fun vs H Q E h => ?_) (fun cdv A outer s H vs Q E hr h => ?_)
  · obtain ⟨z, ns, rfl, _⟩ := h
    rfl
  obtain ⟨z, ns, rfl, hS, h63, q⟩ := h
  have nd := sc_law.nd
  refine ⟨_, (pss_cons (ps_for PassesOwn.never rfl (pi_range1 rfl B.range_ (pa_cons (pe_callB (call_max2 rfl) rfl B.max_ (by decide +kernel) (pa_cons pe_int (pa_cons (pe_callB (call_min2 rfl) rfl B.min_ (by decide +kernel) (pa_cons pe_int (pa_cons (pe_callB call_len_seq rfl B.len_ PySem.boot_len (pa_cons (pv 0) pa_nil)) pa_nil))) pa_nil))) pa_nil)) (pg_name (i := 1) nd rfl (Or.inl rfl)) (pss_cons (ps_set (i := 2) nd rfl (Or.inl rfl) (pe_call G__law_flow.ok hr rfl G__law_flow.at_ G__law_flow.kp G__law_flow.bn .nil pass0 (pa_cons (pv 0) (pa_cons (pv 1) pa_nil))))
    (pss_cons (ps_set (i := 3) nd rfl (Or.inl rfl) (pe_call G__law_draw.ok hr rfl G__law_draw.at_ G__law_draw.kp G__law_draw.bn .nil pass0 (pa_cons (pv 2) (pa_cons pe_int pa_nil))))
    (pss_cons (ps_set (i := 4) nd rfl (Or.inl rfl) (pe_call G__law_names.ok hr rfl G__law_names.at_ G__law_names.kp G__law_names.bn .nil pass0 (pa_cons (pv 2) (pa_cons (pe_op op_add pe_int (pe_call G__law_draw.ok hr rfl G__law_draw.at_ G__law_draw.kp G__law_draw.bn .nil pass0 (pa_cons (pv 2) (pa_cons pe_int pa_nil)))) pa_nil))))
    (pss_cons (ps_asg (pe_call G__law_machine.ok hr rfl G__law_machine.at_ G__law_machine.kp G__law_machine.bn .nil pass0 (pa_cons (pv 2) (pa_cons (pe_op op_add pe_int (pe_call G__law_draw.ok hr rfl G__law_draw.at_ G__law_draw.kp G__law_draw.bn .nil pass0 (pa_cons (pv 2) (pa_cons pe_int pa_nil)))) (pa_cons (pv 4) pa_nil)))) (pg_tup rfl (pgs_cons (pg_name (i := 5) nd rfl (Or.inl rfl)) (pgs_cons (pg_name (i := 6) nd rfl (Or.inl rfl)) pgs_nil))))
    (pss_cons (ps_set (i := 7) nd rfl (Or.inl rfl) (pe_call G__law_text.ok hr rfl G__law_text.at_ G__law_text.kp G__law_text.bn .nil pass0 (pa_cons (pv 4) (pa_cons (pv 5) (pa_cons (pv 6) pa_nil)))))
    (pss_cons (ps_for PassesOwn.never rfl (pi_range1 rfl B.range_ (pa_cons (pv 3) pa_nil)) (pg_name (i := 8) nd rfl (Or.inl rfl)) (pss_one (ps_set (i := 7) nd rfl (Or.inl rfl) (pe_call G__law_spoilt.ok hr rfl G__law_spoilt.at_ G__law_spoilt.kp G__law_spoilt.bn .nil pass0 (pa_cons (pv 2) (pa_cons (pv 7) pa_nil))))))
    (pss_cons (ps_if (pt_cmpR op_gt (pe_callB call_len_seq rfl B.len_ PySem.boot_len (pa_cons (pe_bm (T := "str") (name := "split") (id := "str.split") PySem.F.plainAttrs_str PySem.F.slot_str_split PySem.F.type_str_split mt_split (pe_ix ix_list (pe_bm (T := "str") (name := "split") (id := "str.split") PySem.F.plainAttrs_str PySem.F.slot_str_split PySem.F.type_str_split mt_split (pv 7) (pa_cons pe_str pa_nil)) pe_int (fun _ _ => rfl)) (pa_cons pe_str pa_nil)) pa_nil)) pe_int (nomark _)) (pss_one (ps_set (i := 7) nd rfl (Or.inl rfl) (pe_call G__law_text.ok hr rfl G__law_text.at_ G__law_text.kp G__law_text.bn .nil pass0 (pa_cons (pv 4) (pa_cons (pv 5) (pa_cons (pv 6) pa_nil)))))) pss_nil)
    (pss_cons (ps_set (i := 9) nd rfl (Or.inl rfl) (pe_callB (call_repr hr.gd hr.units) rfl B.repr_ (by decide +kernel) (pa_cons (pe_call G__law_due.ok hr rfl G__law_due.at_ G__law_due.kp G__law_due.bn .nil pass0 (pa_cons (pv 7) pa_nil)) pa_nil)))
    (pss_one (ps_if (PW.pt (pw_or (pt_cmpR op_ne (pe_callB (call_repr hr.gd hr.units) rfl B.repr_ (by decide +kernel) (pa_cons (pe_call G__law_told.ok hr rfl G__law_told.at_ G__law_told.kp G__law_told.bn .nil pass0 (pa_cons (pv 7) pa_nil)) pa_nil)) (pv 9) (nomark _)) (pw_or1 (pt_cmpR op_ne (pe_callB (call_repr hr.gd hr.units) rfl B.repr_ (by decide +kernel) (pa_cons (pe_call G__law_told.ok hr rfl G__law_told.at_ G__law_told.kp G__law_told.bn .nil pass0 (pa_cons (pv 7) pa_nil)) pa_nil)) (pv 9) (nomark _))))) (pss_one (ps_ret pe_bl)) pss_nil)))))))))))
    (pss_one (ps_ret pe_bl))), ?_⟩
  try dsimp only [cxOf, Cx.nox, Cx.wish]
  refine lats2 ?_
  intro D0 σ0 U2
  refine ⟨_, rfl, z, _, rfl, .inl hS, 4, _, rfl, 1, _, rfl, _, rfl, by split <;> omega, ?_⟩
  refine ⟨by split <;> split <;> omega, for_range (fun i σ H' => ∃ v1 v2 v3 v4 v5 v6 v7 v8 v9 : Option V, σ = [some (.ref z), v1, v2, v3, v4, v5, v6, v7, v8, v9] ∧ SqL K H' z (ns.map V.int)) ?_ ?_ ?_⟩
  · exact ⟨_, _, _, _, _, _, _, _, _, rfl, hS⟩
  · rintro i σ H0 hi ⟨v1, v2, v3, v4, v5, v6, v7, v8, v9, rfl, hS0⟩
    have hi' : i ≤ 4 := by
      have h1 : (if (if ((ns.map V.int).length : Int) < 4 then ((ns.map V.int).length : Int) else 4) > 1 then (if ((ns.map V.int).length : Int) < 4 then ((ns.map V.int).length : Int) else 4) else 1) ≤ 4 := by split <;> split <;> omega
      omega
    refine latg9 ?_
    intro D1 σ1 W9 W8 W7 W6 W5 W4 W3 W2
    have cont : ∀ (b1 b2 b3 b4 b5 b6 b8 b9 : Option V) (ws : List Str) (rows : List (List Str)) (H' : Hp), TxtOk (ws :: rows) → Same H0 H' → W8 D1 [some (.ref z), b1, b2, b3, b4, b5, b6, some (.str (textW (ws :: rows))), b8, b9] H' := fun b1 b2 b3 b4 b5 b6 b8 b9 ws rows H' T x => by
      refine ⟨_, rfl, ws, rows, rfl, T, fun r1 H1 x1 d1 => ⟨r1, 3, _, rfl, d1, out_sm T, ?_⟩⟩
      refine ⟨_, rfl, told_any T fun r2 H2 x2 d2 => ⟨r2, 3, _, rfl, d2, out_sm T, _, rfl, rfl, false, congrArg V.bl (by rw [decide_eq_true rfl]; rfl), iteF ?_⟩⟩
      refine ⟨_, rfl, told_any T fun r3 H3 x3 d3 => ⟨r3, 3, _, rfl, d3, out_sm T, _, rfl, rfl, false, congrArg V.bl (by rw [decide_eq_true rfl]; rfl), iteF ?_⟩⟩
      exact ⟨_, _, _, _, _, _, _, _, _, rfl, (x.trans (x1.trans (x2.trans x3))).seq hS0⟩
    refine ⟨_, rfl, _, rfl, z, ns, _, rfl, hS0, h63, by omega, by omega, fun a o2 ha hF => ?_⟩
    have x1 : Same H0 (upd H0 a o2) := sm_new ha
    generalize upd H0 a o2 = H1 at hF x1 ⊢
    refine ⟨_, rfl, a, 3, rfl, hF, by decide, by decide, fun sp H2 sp0 sp1 f2 x2 => ?_⟩
    have y2 := same_ext x1 ha x2
    refine ⟨_, rfl, _, rfl, a, 4, rfl, f2, by decide, by decide, fun r3 H3 r30 r31 f3 x3 => ⟨_, _, rfl, rfl, a, _, rfl, f3, by omega, by omega, fun l ls H4 e4 b4 n4 nl frl f4 x4 h4 => ?_⟩⟩
    have y4 := same_ext (same_ext y2 ha x3) ha x4
    refine ⟨_, rfl, _, rfl, a, 8, rfl, f4, by decide, by decide, fun r5 H5 r50 r51 f5 x5 => ⟨_, _, rfl, rfl, _, rfl, a, l, _, ls, rfl, f5, x5 _ _ nl h4, nl, by omega, by omega, by omega, by omega, b4, fun p t g rs tb gdl H6 M6 tbl ent g24 up gin fr6 x6 h6 => ?_⟩⟩
    have y6 := same_ext (same_ext y4 ha x5) ha x6
    have l4 : ls.length ≤ 4 := by omega
    have l1 : 1 ≤ ls.length := by omega
    have tb8 : tb.length ≤ 8 := by omega
    have ent24 : ∀ r ∈ tb, ∀ x ∈ r, 0 ≤ x ∧ x < 24 := fun r hr x hx => by have := ent r hr x hx; omega
    have mnd := M6.nd
    simp only [List.nodup_cons, List.mem_cons, not_or] at mnd
    obtain ⟨⟨nal, nat', nag, nars⟩, _⟩ := mnd
    have f6 := M6.fl
    refine ⟨p, _, rfl, SqT.of h6, rfl, _, _, rfl, _, _, rfl, rfl, ?_⟩
    have parts : ∀ H', Ext a H6 H' → H' l = some (.lst (ls.map V.str)) ∧ Tb H' t rs tb ls.length ∧ H' g = some (.lst (gdl.map V.int)) := fun H' x =>
      ⟨x _ _ (Ne.symm nal) M6.hl, ⟨x _ _ (Ne.symm nat') M6.hT.at_, paired_on M6.hT.rows fun u w hu z => x _ _ (fun e => nars (e ▸ hu)) z, M6.hT.len, M6.hT.few⟩, x _ _ (Ne.symm nag) M6.hg⟩
    refine ⟨_, rfl, _, rfl, _, rfl, l, t, g, rs, ls, tb, gdl, rfl, M6.hl, M6.hT, M6.hg, b4, l1, by omega, by omega, ent24, fun ws rows H7 W7' rl wl tl x7 => ?_⟩
    have y7 := y6.trans x7
    have f7 := x7.flow f6
    have ft := feeds_text W7'
    rw [List.length_cons] at ft
    have fin : ∀ (v8' : Option V) (tx : Str) (H8 : Hp), tx.length ≤ 32100 → feeds tx ≤ 35 → FlowAt H8 a → Ext a H6 H8 → W7 D1 [some (.ref z), some (.int (0 + (i : Int))), some (.ref a), some (.int sp), some (.ref l), some (.ref t), some (.ref g), some (.str tx), v8', v9] H8 := fun v8' tx H8 hlx hfx f8 x8 => by
      obtain ⟨wss, W8', rfl⟩ := text_words tx
      have ft8 := feeds_text W8'
      obtain ⟨ws8, rows8, rfl⟩ := List.exists_cons_of_ne_nil W8'.ne
      have y8 := same_ext y6 ha x8
      have hm8 : ws8 ∈ ws8 :: rows8 := List.mem_cons_self ..
      have hr8 := row_len W8' hm8
      have ht8 := wd_tot (W8'.rne _ hm8)
      have hn8 := tot_len ws8
      refine ⟨_, rfl, rfl, _, _, rfl, rfl, rfl, lineM (by omega), by rw [split_text W8', List.length_map]; exact lineM (by omega), fun L hL => ?_⟩
      rw [split_text W8']
      have x9 := sm_new (o := .lst (((ws8 :: rows8).map rowW).map V.str)) hL
      have k9 : upd H8 L (.lst (((ws8 :: rows8).map rowW).map V.str)) L = some (.lst (((ws8 :: rows8).map rowW).map V.str)) := upd_same
      generalize upd H8 L (.lst (((ws8 :: rows8).map rowW).map V.str)) = H9 at x9 k9 ⊢
      refine ⟨L, _, 0, .str (rowW ws8), rfl, rfl, SqL.of k9, atI_nat (j := 0) rfl, rfl, _, _, rfl, rfl, rfl, lineM (by omega), by rw [split_row (W8'.rne _ hm8) (W8'.nb _ hm8)]; exact lineM (by omega), fun L2 hL2 => ?_⟩
      rw [split_row (W8'.rne _ hm8) (W8'.nb _ hm8)]
      have x10 := x9.trans (sm_new (o := .lst (ws8.map V.str)) hL2)
      have k10 : upd H9 L2 (.lst (ws8.map V.str)) L2 = some (.lst (ws8.map V.str)) := upd_same
      generalize upd H9 L2 (.lst (ws8.map V.str)) = H10 at x10 k10 ⊢
      have y10 := y8.trans x10
      refine ⟨L2, _, rfl, .inl (SqL.of k10), _, _, rfl, rfl, _, rfl, ?_⟩
      rw [List.length_map]
      by_cases h7 : ws8.length ≤ 7
      · rw [decide_eq_false (by omega)]
        refine iteF ?_
        refine cont _ _ _ _ _ _ _ _ ws8 rows8 H10 ⟨W8', by omega, by omega, fun c r e => by cases e; exact h7⟩ y10
      · rw [decide_eq_true (by omega)]
        refine iteT ?_
        have x610 : Ext a H6 H10 := x8.trans x10.ext
        obtain ⟨p1, p2, p3⟩ := parts H10 x610
        refine ⟨_, rfl, _, rfl, _, rfl, l, t, g, rs, ls, tb, gdl, rfl, p1, p2, p3, b4, l1, by omega, by omega, ent24, fun ws' rows' H11 W11 rl' wl' tl' x11 => ?_⟩
        refine cont _ _ _ _ _ _ _ _ ws' rows' H11 ⟨W11, by omega, by rw [List.length_cons]; omega, fun c r e => by cases e; omega⟩ (y10.trans x11)
    refine ⟨_, rfl, _, rfl, by omega, by omega, for_range (fun j σ H' => ∃ (v8' : Option V) (tx : Str), σ = [some (.ref z), some (.int (0 + (i : Int))), some (.ref a), some (.int sp), some (.ref l), some (.ref t), some (.ref g), some (.str tx), v8', v9] ∧ ((j = 0 ∧ tx.length ≤ 2000 ∧ feeds tx ≤ 8) ∨ (j = 1 ∧ tx.length ≤ 8020 ∧ feeds tx ≤ 17) ∨ (j = 2 ∧ tx.length ≤ 32100 ∧ feeds tx ≤ 35)) ∧ FlowAt H' a ∧ Ext a H6 H') ?_ ?_ ?_⟩
    · exact ⟨_, _, rfl, .inl ⟨rfl, tl, by omega⟩, f7, x7.ext⟩
    · rintro j σ H8 hj ⟨v8', tx, rfl, hb, f8, x8⟩
      refine ⟨_, rfl, _, rfl, a, tx, rfl, f8, by omega, fun tx' H9 hl9 hf9 f9 x9 => ⟨_, tx', rfl, ?_, f9, x8.trans x9⟩⟩
      rcases hb with ⟨e, h1, h2⟩ | ⟨e, h1, h2⟩ | ⟨e, h1, h2⟩
      · exact .inr (.inl ⟨by omega, by omega, by omega⟩)
      · exact .inr (.inr ⟨by omega, by omega, by omega⟩)
      · exfalso
        omega
    · rintro σ H8 ⟨v8', tx, rfl, hb, f8, x8⟩
      exact fin v8' tx H8 (by omega) (by omega) f8 x8
  · rintro σ H1 ⟨_, _, _, _, _, _, _, _, _, rfl, _⟩
    exact q _
end
end KK
namespace KK
open PySem L2 PyProof.Rows
abbrev s_Twice___init : Stmt := inClass (top 3) 0
abbrev s_BadStep___init : Stmt := inClass (top 4) 0
abbrev s_BadGood___init : Stmt := inClass (top 5) 0
abbrev s_NoText___init : Stmt := inClass (top 2) 0
theorem us0 {α : Type} {C : List α → Prop} (h : C []) (us : List α) (hl : us.length = 0) : C us := by
  rw [List.length_eq_zero_iff.mp hl]; exact h
theorem us1 {α : Type} {C : List α → Prop} (h : ∀ a, C [a]) (us : List α) (hl : us.length = 1) : C us := by
  cases us with
  | nil => cases hl
  | cons a t =>
    obtain rfl := List.length_eq_zero_iff.mp (Nat.succ.inj hl)
    exact h a
theorem us2 {α : Type} {C : List α → Prop} (h : ∀ a b, C [a, b]) (us : List α) (hl : us.length = 2) : C us := by
  cases us with
  | nil => cases hl
  | cons a t => exact us1 (C := fun t => C (a :: t)) (h a) t (Nat.succ.inj hl)
theorem us3 {α : Type} {C : List α → Prop} (h : ∀ a b c, C [a, b, c]) (us : List α) (hl : us.length = 3) : C us := by
  cases us with
  | nil => cases hl
  | cons a t => exact us2 (C := fun t => C (a :: t)) (h a) t (Nat.succ.inj hl)
theorem us4 {α : Type} {C : List α → Prop} (h : ∀ a b c d, C [a, b, c, d]) (us : List α) (hl : us.length = 4) : C us := by
  cases us with
  | nil => cases hl
  | cons a t => exact us3 (C := fun t => C (a :: t)) (h a) t (Nat.succ.inj hl)
set_option maxHeartbeats 40000000 in
theorem all_mk {l : PySem.W.OpenLaw} {w : World} {K : PySem.W.Frag} {h : Heap} {mg : Str → Option Value} {fa : Addr} (X : K.In h) (G : h.Ns mainGlobals mg) (hfa : mg "law" = some (.ref fa))
    {f_cell : Addr} {od_cell an_cell : Option Addr} {sl_cell : Array (Option Value)} {oc_cell kV_cell dc_cell pm_cell cd_cell ct_cell : Value}
    {f_flow : Addr} {od_flow an_flow : Option Addr} {sl_flow : Array (Option Value)} {oc_flow kV_flow dc_flow pm_flow cd_flow ct_flow : Value}
    {f_draw : Addr} {od_draw an_draw : Option Addr} {sl_draw : Array (Option Value)} {oc_draw kV_draw dc_draw pm_draw cd_draw ct_draw : Value}
    {f_nam : Addr} {od_nam an_nam : Option Addr} {sl_nam : Array (Option Value)} {oc_nam kV_nam dc_nam pm_nam cd_nam ct_nam : Value}
    {f_mac : Addr} {od_mac an_mac : Option Addr} {sl_mac : Array (Option Value)} {oc_mac kV_mac dc_mac pm_mac cd_mac ct_mac : Value}
    {f_txt : Addr} {od_txt an_txt : Option Addr} {sl_txt : Array (Option Value)} {oc_txt kV_txt dc_txt pm_txt cd_txt ct_txt : Value}
    {f_sig : Addr} {od_sig an_sig : Option Addr} {sl_sig : Array (Option Value)} {oc_sig kV_sig dc_sig pm_sig cd_sig ct_sig : Value}
    {f_mov : Addr} {od_mov an_mov : Option Addr} {sl_mov : Array (Option Value)} {oc_mov kV_mov dc_mov pm_mov cd_mov ct_mov : Value}
    {f_spo : Addr} {od_spo an_spo : Option Addr} {sl_spo : Array (Option Value)} {oc_spo kV_spo dc_spo pm_spo cd_spo ct_spo : Value}
    {f_alf : Addr} {od_alf an_alf : Option Addr} {sl_alf : Array (Option Value)} {oc_alf kV_alf dc_alf pm_alf cd_alf ct_alf : Value}
    {f_inm : Addr} {od_inm an_inm : Option Addr} {sl_inm : Array (Option Value)} {oc_inm kV_inm dc_inm pm_inm cd_inm ct_inm : Value}
    {f_inu : Addr} {od_inu an_inu : Option Addr} {sl_inu : Array (Option Value)} {oc_inu kV_inu dc_inu pm_inu cd_inu ct_inu : Value}
    {f_due : Addr} {od_due an_due : Option Addr} {sl_due : Array (Option Value)} {oc_due kV_due dc_due pm_due cd_due ct_due : Value}
    {f_tol : Addr} {od_tol an_tol : Option Addr} {sl_tol : Array (Option Value)} {oc_tol kV_tol dc_tol pm_tol cd_tol ct_tol : Value}
    {f_law : Addr} {od_law an_law : Option Addr} {sl_law : Array (Option Value)} {oc_law kV_law dc_law pm_law cd_law ct_law : Value}
    {f_isn : Addr} {od_isn an_isn : Option Addr} {sl_isn : Array (Option Value)} {oc_isn kV_isn dc_isn pm_isn cd_isn ct_isn : Value}
    {f_wor : Addr} {od_wor an_wor : Option Addr} {sl_wor : Array (Option Value)} {oc_wor kV_wor dc_wor pm_wor cd_wor ct_wor : Value}
    {f_num : Addr} {od_num an_num : Option Addr} {sl_num : Array (Option Value)} {oc_num kV_num dc_num pm_num cd_num ct_num : Value}
    {f_ris : Addr} {od_ris an_ris : Option Addr} {sl_ris : Array (Option Value)} {oc_ris kV_ris dc_ris pm_ris cd_ris ct_ris : Value}
    {f_twi : Addr} {od_twi an_twi : Option Addr} {sl_twi : Array (Option Value)} {oc_twi kV_twi dc_twi pm_twi cd_twi ct_twi : Value}
    {f_ste : Addr} {od_ste an_ste : Option Addr} {sl_ste : Array (Option Value)} {oc_ste kV_ste dc_ste pm_ste cd_ste ct_ste : Value}
    {f_goo : Addr} {od_goo an_goo : Option Addr} {sl_goo : Array (Option Value)} {oc_goo kV_goo dc_goo pm_goo cd_goo ct_goo : Value}
    {f_rea : Addr} {od_rea an_rea : Option Addr} {sl_rea : Array (Option Value)} {oc_rea kV_rea dc_rea pm_rea cd_rea ct_rea : Value}
    {f_lin : Addr} {od_lin an_lin : Option Addr} {sl_lin : Array (Option Value)} {oc_lin kV_lin dc_lin pm_lin cd_lin ct_lin : Value}
    {f_sin : Addr} {od_sin an_sin : Option Addr} {sl_sin : Array (Option Value)} {oc_sin kV_sin dc_sin pm_sin cd_sin ct_sin : Value}
    {C_Machine : Addr}
    {f_ini : Addr} {od_ini an_ini : Option Addr} {sl_ini : Array (Option Value)} {oc_ini kV_ini dc_ini pm_ini cd_ini ct_ini : Value}
    {cM : Addr}
    {cT : Addr} {nmT quT : Str} {NT : Addr} {bsT subT : List Value} {snT : List Str} {abT : Bool} {colT : Option Bool} {ddT : Option Addr} {uT vT wT xT yT : Option Value} {gT : Addr}
    {od_gT an_gT : Option Addr} {sl_gT : Array (Option Value)} {oc_gT kV_gT dc_gT pm_gT cd_gT ct_gT : Value}
    {cB : Addr} {nmB quB : Str} {NB : Addr} {bsB subB : List Value} {snB : List Str} {abB : Bool} {colB : Option Bool} {ddB : Option Addr} {uB vB wB xB yB : Option Value} {gB : Addr}
    {od_gB an_gB : Option Addr} {sl_gB : Array (Option Value)} {oc_gB kV_gB dc_gB pm_gB cd_gB ct_gB : Value}
    {cG : Addr} {nmG quG : Str} {NG : Addr} {bsG subG : List Value} {snG : List Str} {abG : Bool} {colG : Option Bool} {ddG : Option Addr} {uG vG wG xG yG : Option Value} {gG : Addr}
    {od_gG an_gG : Option Addr} {sl_gG : Array (Option Value)} {oc_gG kV_gG dc_gG pm_gG cd_gG ct_gG : Value}
    {cN : Addr} {nmN quN : Str} {NN : Addr} {bsN subN : List Value} {snN : List Str} {abN : Bool} {colN : Option Bool} {ddN : Option Addr} {uN vN wN xN yN : Option Value} {gN : Addr}
    {od_gN an_gN : Option Addr} {sl_gN : Array (Option Value)} {oc_gN kV_gN dc_gN pm_gN cd_gN ct_gN : Value}
    {nmM quM : Str} {NM : Addr} {bsM subM : List Value} {snM : List Str} {abM : Bool} {colM : Option Bool} {ddM : Option Addr} {uM vM wM xM yM : Option Value}
    {tLN tSM tFG tMF : Tok} {aSM aFG : Str}
    (a_cell : PySem.W.nsIn K mainGlobals "_law_cell" = some (some (.ref f_cell)))
    (l_cell : K.lookup f_cell = some ⟨oc_cell, od_cell, .func (PySem.W.fnOf "_law_cell" "_law_cell" (defArgs sCell) (defBody sCell) (defScope sCell) .none kV_cell dc_cell pm_cell an_cell cd_cell ct_cell), sl_cell⟩)
    (c_cell : PySem.W.codeIn K cd_cell "_law_cell" = true)
    (k_cell : PySem.W.keepIn K (.ref f_cell) = true)
    (a_flow : PySem.W.nsIn K mainGlobals "_law_flow" = some (some (.ref f_flow)))
    (l_flow : K.lookup f_flow = some ⟨oc_flow, od_flow, .func (PySem.W.fnOf "_law_flow" "_law_flow" (defArgs sFlow) (defBody sFlow) (defScope sFlow) .none kV_flow dc_flow pm_flow an_flow cd_flow ct_flow), sl_flow⟩)
    (c_flow : PySem.W.codeIn K cd_flow "_law_flow" = true)
    (k_flow : PySem.W.keepIn K (.ref f_flow) = true)
    (a_draw : PySem.W.nsIn K mainGlobals "_law_draw" = some (some (.ref f_draw)))
    (l_draw : K.lookup f_draw = some ⟨oc_draw, od_draw, .func (PySem.W.fnOf "_law_draw" "_law_draw" (defArgs sDraw) (defBody sDraw) (defScope sDraw) .none kV_draw dc_draw pm_draw an_draw cd_draw ct_draw), sl_draw⟩)
    (c_draw : PySem.W.codeIn K cd_draw "_law_draw" = true)
    (k_draw : PySem.W.keepIn K (.ref f_draw) = true)
    (a_nam : PySem.W.nsIn K mainGlobals "_law_names" = some (some (.ref f_nam)))
    (l_nam : K.lookup f_nam = some ⟨oc_nam, od_nam, .func (PySem.W.fnOf "_law_names" "_law_names" (defArgs sNames) (defBody sNames) (defScope sNames) .none kV_nam dc_nam pm_nam an_nam cd_nam ct_nam), sl_nam⟩)
    (c_nam : PySem.W.codeIn K cd_nam "_law_names" = true)
    (k_nam : PySem.W.keepIn K (.ref f_nam) = true)
    (a_mac : PySem.W.nsIn K mainGlobals "_law_machine" = some (some (.ref f_mac)))
    (l_mac : K.lookup f_mac = some ⟨oc_mac, od_mac, .func (PySem.W.fnOf "_law_machine" "_law_machine" (defArgs s_law_machine) (defBody s_law_machine) (defScope s_law_machine) .none kV_mac dc_mac pm_mac an_mac cd_mac ct_mac), sl_mac⟩)
    (c_mac : PySem.W.codeIn K cd_mac "_law_machine" = true)
    (k_mac : PySem.W.keepIn K (.ref f_mac) = true)
    (a_txt : PySem.W.nsIn K mainGlobals "_law_text" = some (some (.ref f_txt)))
    (l_txt : K.lookup f_txt = some ⟨oc_txt, od_txt, .func (PySem.W.fnOf "_law_text" "_law_text" (defArgs s_law_text) (defBody s_law_text) (defScope s_law_text) .none kV_txt dc_txt pm_txt an_txt cd_txt ct_txt), sl_txt⟩)
    (c_txt : PySem.W.codeIn K cd_txt "_law_text" = true)
    (k_txt : PySem.W.keepIn K (.ref f_txt) = true)
    (a_sig : PySem.W.nsIn K mainGlobals "_law_signs" = some (some (.ref f_sig)))
    (l_sig : K.lookup f_sig = some ⟨oc_sig, od_sig, .func (PySem.W.fnOf "_law_signs" "_law_signs" (defArgs s_law_signs) (defBody s_law_signs) (defScope s_law_signs) .none kV_sig dc_sig pm_sig an_sig cd_sig ct_sig), sl_sig⟩)
    (c_sig : PySem.W.codeIn K cd_sig "_law_signs" = true)
    (k_sig : PySem.W.keepIn K (.ref f_sig) = true)
    (a_mov : PySem.W.nsIn K mainGlobals "_law_moved" = some (some (.ref f_mov)))
    (l_mov : K.lookup f_mov = some ⟨oc_mov, od_mov, .func (PySem.W.fnOf "_law_moved" "_law_moved" (defArgs s_law_moved) (defBody s_law_moved) (defScope s_law_moved) .none kV_mov dc_mov pm_mov an_mov cd_mov ct_mov), sl_mov⟩)
    (c_mov : PySem.W.codeIn K cd_mov "_law_moved" = true)
    (k_mov : PySem.W.keepIn K (.ref f_mov) = true)
    (a_spo : PySem.W.nsIn K mainGlobals "_law_spoilt" = some (some (.ref f_spo)))
    (l_spo : K.lookup f_spo = some ⟨oc_spo, od_spo, .func (PySem.W.fnOf "_law_spoilt" "_law_spoilt" (defArgs s_law_spoilt) (defBody s_law_spoilt) (defScope s_law_spoilt) .none kV_spo dc_spo pm_spo an_spo cd_spo ct_spo), sl_spo⟩)
    (c_spo : PySem.W.codeIn K cd_spo "_law_spoilt" = true)
    (k_spo : PySem.W.keepIn K (.ref f_spo) = true)
    (a_alf : PySem.W.nsIn K mainGlobals "_law_all_of" = some (some (.ref f_alf)))
    (l_alf : K.lookup f_alf = some ⟨oc_alf, od_alf, .func (PySem.W.fnOf "_law_all_of" "_law_all_of" (defArgs s_law_all_of) (defBody s_law_all_of) (defScope s_law_all_of) .none kV_alf dc_alf pm_alf an_alf cd_alf ct_alf), sl_alf⟩)
    (c_alf : PySem.W.codeIn K cd_alf "_law_all_of" = true)
    (k_alf : PySem.W.keepIn K (.ref f_alf) = true)
    (a_inm : PySem.W.nsIn K mainGlobals "_law_is_name" = some (some (.ref f_inm)))
    (l_inm : K.lookup f_inm = some ⟨oc_inm, od_inm, .func (PySem.W.fnOf "_law_is_name" "_law_is_name" (defArgs s_law_is_name) (defBody s_law_is_name) (defScope s_law_is_name) .none kV_inm dc_inm pm_inm an_inm cd_inm ct_inm), sl_inm⟩)
    (c_inm : PySem.W.codeIn K cd_inm "_law_is_name" = true)
    (k_inm : PySem.W.keepIn K (.ref f_inm) = true)
    (a_inu : PySem.W.nsIn K mainGlobals "_law_is_number" = some (some (.ref f_inu)))
    (l_inu : K.lookup f_inu = some ⟨oc_inu, od_inu, .func (PySem.W.fnOf "_law_is_number" "_law_is_number" (defArgs s_law_is_number) (defBody s_law_is_number) (defScope s_law_is_number) .none kV_inu dc_inu pm_inu an_inu cd_inu ct_inu), sl_inu⟩)
    (c_inu : PySem.W.codeIn K cd_inu "_law_is_number" = true)
    (k_inu : PySem.W.keepIn K (.ref f_inu) = true)
    (a_due : PySem.W.nsIn K mainGlobals "_law_due" = some (some (.ref f_due)))
    (l_due : K.lookup f_due = some ⟨oc_due, od_due, .func (PySem.W.fnOf "_law_due" "_law_due" (defArgs s_law_due) (defBody s_law_due) (defScope s_law_due) .none kV_due dc_due pm_due an_due cd_due ct_due), sl_due⟩)
    (c_due : PySem.W.codeIn K cd_due "_law_due" = true)
    (k_due : PySem.W.keepIn K (.ref f_due) = true)
    (a_tol : PySem.W.nsIn K mainGlobals "_law_told" = some (some (.ref f_tol)))
    (l_tol : K.lookup f_tol = some ⟨oc_tol, od_tol, .func (PySem.W.fnOf "_law_told" "_law_told" (defArgs s_law_told) (defBody s_law_told) (defScope s_law_told) .none kV_tol dc_tol pm_tol an_tol cd_tol ct_tol), sl_tol⟩)
    (c_tol : PySem.W.codeIn K cd_tol "_law_told" = true)
    (k_tol : PySem.W.keepIn K (.ref f_tol) = true)
    (a_law : PySem.W.nsIn K mainGlobals "law" = some (some (.ref f_law)))
    (l_law : K.lookup f_law = some ⟨oc_law, od_law, .func (PySem.W.fnOf "law" "law" (defArgs s_law) (defBody s_law) (defScope s_law) .none kV_law dc_law pm_law an_law cd_law ct_law), sl_law⟩)
    (c_law : PySem.W.codeIn K cd_law "law" = true)
    (k_law : PySem.W.keepIn K (.ref f_law) = true)
    (a_isn : PySem.W.nsIn K mainGlobals "is_name" = some (some (.ref f_isn)))
    (l_isn : K.lookup f_isn = some ⟨oc_isn, od_isn, .func (PySem.W.fnOf "is_name" "is_name" (defArgs s_is_name) (defBody s_is_name) (defScope s_is_name) .none kV_isn dc_isn pm_isn an_isn cd_isn ct_isn), sl_isn⟩)
    (c_isn : PySem.W.codeIn K cd_isn "is_name" = true)
    (k_isn : PySem.W.keepIn K (.ref f_isn) = true)
    (a_wor : PySem.W.nsIn K mainGlobals "words_of" = some (some (.ref f_wor)))
    (l_wor : K.lookup f_wor = some ⟨oc_wor, od_wor, .func (PySem.W.fnOf "words_of" "words_of" (defArgs s_words_of) (defBody s_words_of) (defScope s_words_of) .none kV_wor dc_wor pm_wor an_wor cd_wor ct_wor), sl_wor⟩)
    (c_wor : PySem.W.codeIn K cd_wor "words_of" = true)
    (k_wor : PySem.W.keepIn K (.ref f_wor) = true)
    (a_num : PySem.W.nsIn K mainGlobals "number_in" = some (some (.ref f_num)))
    (l_num : K.lookup f_num = some ⟨oc_num, od_num, .func (PySem.W.fnOf "number_in" "number_in" (defArgs s_number_in) (defBody s_number_in) (defScope s_number_in) .none kV_num dc_num pm_num an_num cd_num ct_num), sl_num⟩)
    (c_num : PySem.W.codeIn K cd_num "number_in" = true)
    (k_num : PySem.W.keepIn K (.ref f_num) = true)
    (a_ris : PySem.W.nsIn K mainGlobals "rising" = some (some (.ref f_ris)))
    (l_ris : K.lookup f_ris = some ⟨oc_ris, od_ris, .func (PySem.W.fnOf "rising" "rising" (defArgs s_rising) (defBody s_rising) (defScope s_rising) .none kV_ris dc_ris pm_ris an_ris cd_ris ct_ris), sl_ris⟩)
    (c_ris : PySem.W.codeIn K cd_ris "rising" = true)
    (k_ris : PySem.W.keepIn K (.ref f_ris) = true)
    (a_twi : PySem.W.nsIn K mainGlobals "refuse_twice" = some (some (.ref f_twi)))
    (l_twi : K.lookup f_twi = some ⟨oc_twi, od_twi, .func (PySem.W.fnOf "refuse_twice" "refuse_twice" (defArgs s_refuse_twice) (defBody s_refuse_twice) (defScope s_refuse_twice) .none kV_twi dc_twi pm_twi an_twi cd_twi ct_twi), sl_twi⟩)
    (c_twi : PySem.W.codeIn K cd_twi "refuse_twice" = true)
    (k_twi : PySem.W.keepIn K (.ref f_twi) = true)
    (a_ste : PySem.W.nsIn K mainGlobals "refuse_steps" = some (some (.ref f_ste)))
    (l_ste : K.lookup f_ste = some ⟨oc_ste, od_ste, .func (PySem.W.fnOf "refuse_steps" "refuse_steps" (defArgs s_refuse_steps) (defBody s_refuse_steps) (defScope s_refuse_steps) .none kV_ste dc_ste pm_ste an_ste cd_ste ct_ste), sl_ste⟩)
    (c_ste : PySem.W.codeIn K cd_ste "refuse_steps" = true)
    (k_ste : PySem.W.keepIn K (.ref f_ste) = true)
    (a_goo : PySem.W.nsIn K mainGlobals "refuse_good" = some (some (.ref f_goo)))
    (l_goo : K.lookup f_goo = some ⟨oc_goo, od_goo, .func (PySem.W.fnOf "refuse_good" "refuse_good" (defArgs s_refuse_good) (defBody s_refuse_good) (defScope s_refuse_good) .none kV_goo dc_goo pm_goo an_goo cd_goo ct_goo), sl_goo⟩)
    (c_goo : PySem.W.codeIn K cd_goo "refuse_good" = true)
    (k_goo : PySem.W.keepIn K (.ref f_goo) = true)
    (a_rea : PySem.W.nsIn K mainGlobals "read_machine" = some (some (.ref f_rea)))
    (l_rea : K.lookup f_rea = some ⟨oc_rea, od_rea, .func (PySem.W.fnOf "read_machine" "read_machine" (defArgs s_read_machine) (defBody s_read_machine) (defScope s_read_machine) .none kV_rea dc_rea pm_rea an_rea cd_rea ct_rea), sl_rea⟩)
    (c_rea : PySem.W.codeIn K cd_rea "read_machine" = true)
    (k_rea : PySem.W.keepIn K (.ref f_rea) = true)
    (a_lin : PySem.W.nsIn K mainGlobals "letters_in" = some (some (.ref f_lin)))
    (l_lin : K.lookup f_lin = some ⟨oc_lin, od_lin, .func (PySem.W.fnOf "letters_in" "letters_in" (defArgs s_letters_in) (defBody s_letters_in) (defScope s_letters_in) .none kV_lin dc_lin pm_lin an_lin cd_lin ct_lin), sl_lin⟩)
    (c_lin : PySem.W.codeIn K cd_lin "letters_in" = true)
    (k_lin : PySem.W.keepIn K (.ref f_lin) = true)
    (a_sin : PySem.W.nsIn K mainGlobals "steps_in" = some (some (.ref f_sin)))
    (l_sin : K.lookup f_sin = some ⟨oc_sin, od_sin, .func (PySem.W.fnOf "steps_in" "steps_in" (defArgs s_steps_in) (defBody s_steps_in) (defScope s_steps_in) .none kV_sin dc_sin pm_sin an_sin cd_sin ct_sin), sl_sin⟩)
    (c_sin : PySem.W.codeIn K cd_sin "steps_in" = true)
    (k_sin : PySem.W.keepIn K (.ref f_sin) = true)
    (ca_Machine : PySem.W.nsIn K mainGlobals "Machine" = some (some (.ref C_Machine)))
    (cm_Machine : PySem.W.makesIn K C_Machine = true)
    (ck_Machine : PySem.W.keepIn K (.ref C_Machine) = true)
    (cg_Machine : PySem.W.plainGet K C_Machine Str.empty = true)
    (ch_Machine : PySem.W.hasDictIn K C_Machine = true)
    (co_Machine : PySem.W.plainOver K C_Machine = true)
    (cs_Machine : PySem.W.findIn K (.ref C_Machine) "__setattr__" = some (some (.builtin "object.__setattr__")))
    (cf_Machine_letters : PySem.W.findIn K (.ref C_Machine) "letters" = some none)
    (cf_Machine_table : PySem.W.findIn K (.ref C_Machine) "table" = some none)
    (cf_Machine_good : PySem.W.findIn K (.ref C_Machine) "good" = some none)
    (ma_ini : PySem.W.findIn K (.ref C_Machine) "__init__" = some (some (.ref f_ini)))
    (mb_ini : PySem.W.isFn K (.ref f_ini) = true)
    (l_ini : K.lookup f_ini = some ⟨oc_ini, od_ini, .func (PySem.W.fnOf "__init__" "Machine.__init__" (defArgs s_Machine___init) (defBody s_Machine___init) (defScope s_Machine___init) .none kV_ini dc_ini pm_ini an_ini cd_ini ct_ini), sl_ini⟩)
    (c_ini : PySem.W.codeIn K cd_ini "Machine.__init__" = true)
    (k_ini : PySem.W.keepIn K (.ref f_ini) = true)
    (aM : PySem.W.nsIn K mainGlobals "MeetError" = some (some (.ref cM)))
    (kg : PySem.W.specialIn K (.builtin "object.__class__") "__get__" = some (some (.builtin "getset_descriptor.__get__")))
    (kt : PySem.W.takesIn K (.builtin "object.__class__") = some true)
    (caT : PySem.W.nsIn K mainGlobals "Twice" = some (some (.ref cT)))
    (cbT : K.lookup cT = some (excClassObj nmT quT cT NT bsT (.ref cM :: vTail) true snT subT abT colT ddT uT vT wT xT yT "ValueError.__new__"))
    (ccT : PySem.W.findIn K (.ref cT) "__getattribute__" = some (some (.builtin "BaseException.__getattribute__")))
    (cxT : PySem.W.findIn K (.ref cT) "__getattr__" = some none)
    (cdT : PySem.W.hasDictIn K cT = true)
    (ceT : PySem.W.findIn K (.ref cT) "__setattr__" = some (some (.builtin "object.__setattr__")))
    (cfT : PySem.W.findIn K (.ref cT) "__class__" = some (some (.builtin "object.__class__")))
    (cgT : PySem.W.mroIn K cT (.type "object") = some true)
    (chT : PySem.W.keepIn K (.ref cT) = true)
    (gaT : PySem.W.findIn K (.ref cT) "__init__" = some (some (.ref gT)))
    (gbT : PySem.W.isFn K (.ref gT) = true)
    (l_gT : K.lookup gT = some ⟨oc_gT, od_gT, .func (PySem.W.fnOf "__init__" "Twice.__init__" (defArgs s_Twice___init) (defBody s_Twice___init) (defScope s_Twice___init) .none kV_gT dc_gT pm_gT an_gT cd_gT ct_gT), sl_gT⟩)
    (c_gT : PySem.W.codeIn K cd_gT "Twice.__init__" = true)
    (k_gT : PySem.W.keepIn K (.ref gT) = true)
    (hnT : PySem.W.findIn K (.ref cT) "name" = some none)
    (caB : PySem.W.nsIn K mainGlobals "BadStep" = some (some (.ref cB)))
    (cbB : K.lookup cB = some (excClassObj nmB quB cB NB bsB (.ref cM :: vTail) true snB subB abB colB ddB uB vB wB xB yB "ValueError.__new__"))
    (ccB : PySem.W.findIn K (.ref cB) "__getattribute__" = some (some (.builtin "BaseException.__getattribute__")))
    (cxB : PySem.W.findIn K (.ref cB) "__getattr__" = some none)
    (cdB : PySem.W.hasDictIn K cB = true)
    (ceB : PySem.W.findIn K (.ref cB) "__setattr__" = some (some (.builtin "object.__setattr__")))
    (cfB : PySem.W.findIn K (.ref cB) "__class__" = some (some (.builtin "object.__class__")))
    (cgB : PySem.W.mroIn K cB (.type "object") = some true)
    (chB : PySem.W.keepIn K (.ref cB) = true)
    (gaB : PySem.W.findIn K (.ref cB) "__init__" = some (some (.ref gB)))
    (gbB : PySem.W.isFn K (.ref gB) = true)
    (l_gB : K.lookup gB = some ⟨oc_gB, od_gB, .func (PySem.W.fnOf "__init__" "BadStep.__init__" (defArgs s_BadStep___init) (defBody s_BadStep___init) (defScope s_BadStep___init) .none kV_gB dc_gB pm_gB an_gB cd_gB ct_gB), sl_gB⟩)
    (c_gB : PySem.W.codeIn K cd_gB "BadStep.__init__" = true)
    (k_gB : PySem.W.keepIn K (.ref gB) = true)
    (hnB : PySem.W.findIn K (.ref cB) "state" = some none)
    (hnB2 : PySem.W.findIn K (.ref cB) "letter" = some none)
    (caG : PySem.W.nsIn K mainGlobals "BadGood" = some (some (.ref cG)))
    (cbG : K.lookup cG = some (excClassObj nmG quG cG NG bsG (.ref cM :: vTail) true snG subG abG colG ddG uG vG wG xG yG "ValueError.__new__"))
    (ccG : PySem.W.findIn K (.ref cG) "__getattribute__" = some (some (.builtin "BaseException.__getattribute__")))
    (cxG : PySem.W.findIn K (.ref cG) "__getattr__" = some none)
    (cdG : PySem.W.hasDictIn K cG = true)
    (ceG : PySem.W.findIn K (.ref cG) "__setattr__" = some (some (.builtin "object.__setattr__")))
    (cfG : PySem.W.findIn K (.ref cG) "__class__" = some (some (.builtin "object.__class__")))
    (cgG : PySem.W.mroIn K cG (.type "object") = some true)
    (chG : PySem.W.keepIn K (.ref cG) = true)
    (gaG : PySem.W.findIn K (.ref cG) "__init__" = some (some (.ref gG)))
    (gbG : PySem.W.isFn K (.ref gG) = true)
    (l_gG : K.lookup gG = some ⟨oc_gG, od_gG, .func (PySem.W.fnOf "__init__" "BadGood.__init__" (defArgs s_BadGood___init) (defBody s_BadGood___init) (defScope s_BadGood___init) .none kV_gG dc_gG pm_gG an_gG cd_gG ct_gG), sl_gG⟩)
    (c_gG : PySem.W.codeIn K cd_gG "BadGood.__init__" = true)
    (k_gG : PySem.W.keepIn K (.ref gG) = true)
    (hnG : PySem.W.findIn K (.ref cG) "state" = some none)
    (caN : PySem.W.nsIn K mainGlobals "NoText" = some (some (.ref cN)))
    (cbN : K.lookup cN = some (excClassObj nmN quN cN NN bsN (.ref cM :: vTail) true snN subN abN colN ddN uN vN wN xN yN "ValueError.__new__"))
    (ccN : PySem.W.findIn K (.ref cN) "__getattribute__" = some (some (.builtin "BaseException.__getattribute__")))
    (cxN : PySem.W.findIn K (.ref cN) "__getattr__" = some none)
    (cdN : PySem.W.hasDictIn K cN = true)
    (ceN : PySem.W.findIn K (.ref cN) "__setattr__" = some (some (.builtin "object.__setattr__")))
    (cfN : PySem.W.findIn K (.ref cN) "__class__" = some (some (.builtin "object.__class__")))
    (cgN : PySem.W.mroIn K cN (.type "object") = some true)
    (chN : PySem.W.keepIn K (.ref cN) = true)
    (gaN : PySem.W.findIn K (.ref cN) "__init__" = some (some (.ref gN)))
    (gbN : PySem.W.isFn K (.ref gN) = true)
    (l_gN : K.lookup gN = some ⟨oc_gN, od_gN, .func (PySem.W.fnOf "__init__" "NoText.__init__" (defArgs s_NoText___init) (defBody s_NoText___init) (defScope s_NoText___init) .none kV_gN dc_gN pm_gN an_gN cd_gN ct_gN), sl_gN⟩)
    (c_gN : PySem.W.codeIn K cd_gN "NoText.__init__" = true)
    (k_gN : PySem.W.keepIn K (.ref gN) = true)
    (hnN : PySem.W.findIn K (.ref cN) "line" = some none)
    (cbM : K.lookup cM = some (excClassObj nmM quM cM NM bsM vTail true snM subM abM colM ddM uM vM wM xM yM "ValueError.__new__"))
    (gLN : PySem.W.nsIn K mainGlobals "LONGEST_NAME" = some (some (.int 8 tLN)))
    (gSM : PySem.W.nsIn K mainGlobals "SMALL_LETTERS" = some (some (.str aSM tSM)))
    (gFG : PySem.W.nsIn K mainGlobals "FIGURES" = some (some (.str aFG tFG)))
    (gMF : PySem.W.nsIn K mainGlobals "MOST_FIGURES" = some (some (.int 3 tMF)))
    (z_len : PySem.W.nsIn K mainGlobals "len" = some none)
    (z_range : PySem.W.nsIn K mainGlobals "range" = some none)
    (z_max : PySem.W.nsIn K mainGlobals "max" = some none)
    (z_sorted : PySem.W.nsIn K mainGlobals "sorted" = some none)
    (z_tuple : PySem.W.nsIn K mainGlobals "tuple" = some none)
    (z_set : PySem.W.nsIn K mainGlobals "set" = some none)
    (z_min : PySem.W.nsIn K mainGlobals "min" = some none)
    (z_enumerate : PySem.W.nsIn K mainGlobals "enumerate" = some none)
    (z_zip : PySem.W.nsIn K mainGlobals "zip" = some none)
    (z_repr : PySem.W.nsIn K mainGlobals "repr" = some none)
    (z_list : PySem.W.nsIn K mainGlobals "list" = some none)
    (z_all : PySem.W.nsIn K mainGlobals "all" = some none)
    (z_isinstance : PySem.W.nsIn K mainGlobals "isinstance" = some none)
    (z_ValueError : PySem.W.nsIn K mainGlobals "ValueError" = some none)
    (z_int : PySem.W.nsIn K mainGlobals "int" = some none)
    (z_bool : PySem.W.nsIn K mainGlobals "bool" = some none)
    (z_str : PySem.W.nsIn K mainGlobals "str" = some none)
    (eSM : aSM = abc) (eFG : aFG = figs) (nd : (cM :: cT :: cB :: cG :: [cN]).Nodup) :
    ∃ fd : FuncData, (∀ (s : Shared) (v : Value), BindsTo s fd ⟨[v], []⟩ [("_law_script", v)]) ∧ ∀ base : Heap, K.In base → base.Ns mainGlobals mg → FnOk l.prog w K mg base CX0 12 fa fd ["_law_script"] (spLaw K) := by
  have e := hfa.symm.trans (PySem.W.mg_of X G a_law)
  cases e
  have F_cell := fun_mk (st := sCell) l_cell c_cell k_cell
  have F_flow := fun_mk (st := sFlow) l_flow c_flow k_flow
  have F_draw := fun_mk (st := sDraw) l_draw c_draw k_draw
  have F_nam := fun_mk (st := sNames) l_nam c_nam k_nam
  have F_mac := fun_mk (st := s_law_machine) l_mac c_mac k_mac
  have F_txt := fun_mk (st := s_law_text) l_txt c_txt k_txt
  have F_sig := fun_mk (st := s_law_signs) l_sig c_sig k_sig
  have F_mov := fun_mk (st := s_law_moved) l_mov c_mov k_mov
  have F_spo := fun_mk (st := s_law_spoilt) l_spo c_spo k_spo
  have F_alf := fun_mk (st := s_law_all_of) l_alf c_alf k_alf
  have F_inm := fun_mk (st := s_law_is_name) l_inm c_inm k_inm
  have F_inu := fun_mk (st := s_law_is_number) l_inu c_inu k_inu
  have F_due := fun_mk (st := s_law_due) l_due c_due k_due
  have F_tol := fun_mk (st := s_law_told) l_tol c_tol k_tol
  have F_law := fun_mk (st := s_law) l_law c_law k_law
  have F_isn := fun_mk (st := s_is_name) l_isn c_isn k_isn
  have F_wor := fun_mk (st := s_words_of) l_wor c_wor k_wor
  have F_num := fun_mk (st := s_number_in) l_num c_num k_num
  have F_ris := fun_mk (st := s_rising) l_ris c_ris k_ris
  have F_twi := fun_mk (st := s_refuse_twice) l_twi c_twi k_twi
  have F_ste := fun_mk (st := s_refuse_steps) l_ste c_ste k_ste
  have F_goo := fun_mk (st := s_refuse_good) l_goo c_goo k_goo
  have F_rea := fun_mk (st := s_read_machine) l_rea c_rea k_rea
  have F_lin := fun_mk (st := s_letters_in) l_lin c_lin k_lin
  have F_sin := fun_mk (st := s_steps_in) l_sin c_sin k_sin
  have F_ini := fun_mk (st := s_Machine___init) l_ini c_ini k_ini
  have b_cell := F_cell.binds (ps := ["_law_script", "_law_k"]) fun _ _ _ _ _ _ us hl => by
    apply us2 ?_ us hl
    intros
    rfl
  have b_flow := F_flow.binds (ps := ["_law_script", "_law_k"]) fun _ _ _ _ _ _ us hl => by
    apply us2 ?_ us hl
    intros
    rfl
  have b_draw := F_draw.binds (ps := ["_law_flow_here", "_law_many"]) fun _ _ _ _ _ _ us hl => by
    apply us2 ?_ us hl
    intros
    rfl
  have b_nam := F_nam.binds (ps := ["_law_flow_here", "_law_many"]) fun _ _ _ _ _ _ us hl => by
    apply us2 ?_ us hl
    intros
    rfl
  have b_mac := F_mac.binds (ps := ["_law_flow_here", "_law_many", "_law_letters"]) fun _ _ _ _ _ _ us hl => by
    apply us3 ?_ us hl
    intros
    rfl
  have b_txt := F_txt.binds (ps := ["_law_letters", "_law_table", "_law_good"]) fun _ _ _ _ _ _ us hl => by
    apply us3 ?_ us hl
    intros
    rfl
  have b_sig := F_sig.binds (ps := []) fun _ _ _ _ _ _ us hl => by
    apply us0 ?_ us hl
    intros
    rfl
  have b_mov := F_mov.binds (ps := ["_law_flow_here", "_law_some"]) fun _ _ _ _ _ _ us hl => by
    apply us2 ?_ us hl
    intros
    rfl
  have b_spo := F_spo.binds (ps := ["_law_flow_here", "_law_text_here"]) fun _ _ _ _ _ _ us hl => by
    apply us2 ?_ us hl
    intros
    rfl
  have b_alf := F_alf.binds (ps := ["_law_word", "_law_signs_here"]) fun _ _ _ _ _ _ us hl => by
    apply us2 ?_ us hl
    intros
    rfl
  have b_inm := F_inm.binds (ps := ["_law_word"]) fun _ _ _ _ _ _ us hl => by
    apply us1 ?_ us hl
    intros
    rfl
  have b_inu := F_inu.binds (ps := ["_law_word"]) fun _ _ _ _ _ _ us hl => by
    apply us1 ?_ us hl
    intros
    rfl
  have b_due := F_due.binds (ps := ["_law_text_here"]) fun _ _ _ _ _ _ us hl => by
    apply us1 ?_ us hl
    intros
    rfl
  have b_tol := F_tol.binds (ps := ["_law_text_here"]) fun _ _ _ _ _ _ us hl => by
    apply us1 ?_ us hl
    intros
    rfl
  have b_isn := F_isn.binds (ps := ["word"]) fun _ _ _ _ _ _ us hl => by
    apply us1 ?_ us hl
    intros
    rfl
  have b_wor := F_wor.binds (ps := ["row"]) fun _ _ _ _ _ _ us hl => by
    apply us1 ?_ us hl
    intros
    rfl
  have b_num := F_num.binds (ps := ["word", "most"]) fun _ _ _ _ _ _ us hl => by
    apply us2 ?_ us hl
    intros
    rfl
  have b_ris := F_ris.binds (ps := ["things"]) fun _ _ _ _ _ _ us hl => by
    apply us1 ?_ us hl
    intros
    rfl
  have b_twi := F_twi.binds (ps := ["names"]) fun _ _ _ _ _ _ us hl => by
    apply us1 ?_ us hl
    intros
    rfl
  have b_ste := F_ste.binds (ps := ["letters", "table"]) fun _ _ _ _ _ _ us hl => by
    apply us2 ?_ us hl
    intros
    rfl
  have b_goo := F_goo.binds (ps := ["table", "good"]) fun _ _ _ _ _ _ us hl => by
    apply us2 ?_ us hl
    intros
    rfl
  have b_rea := F_rea.binds (ps := ["text"]) fun _ _ _ _ _ _ us hl => by
    apply us1 ?_ us hl
    intros
    rfl
  have b_lin := F_lin.binds (ps := ["row"]) fun _ _ _ _ _ _ us hl => by
    apply us1 ?_ us hl
    intros
    rfl
  have b_sin := F_sin.binds (ps := ["row", "many"]) fun _ _ _ _ _ _ us hl => by
    apply us2 ?_ us hl
    intros
    rfl
  have b_ini := F_ini.binds (ps := ["self", "letters", "table", "good"]) fun _ _ _ _ _ _ us hl => by
    apply us4 ?_ us hl
    intros
    rfl
  have B : Bt mg := ⟨PySem.W.mg_none_of X G z_len, PySem.W.mg_none_of X G z_range, PySem.W.mg_none_of X G z_max, PySem.W.mg_none_of X G z_sorted, PySem.W.mg_none_of X G z_tuple, PySem.W.mg_none_of X G z_set, PySem.W.mg_none_of X G z_min, PySem.W.mg_none_of X G z_enumerate, PySem.W.mg_none_of X G z_zip, PySem.W.mg_none_of X G z_repr, PySem.W.mg_none_of X G z_list, PySem.W.mg_none_of X G z_all, PySem.W.mg_none_of X G z_isinstance, PySem.W.mg_none_of X G z_ValueError, PySem.W.mg_none_of X G z_int, PySem.W.mg_none_of X G z_bool, PySem.W.mg_none_of X G z_str, ⟨_, PySem.W.mg_of X G gLN⟩, ⟨_, eSM ▸ PySem.W.mg_of X G gSM⟩, ⟨_, eFG ▸ PySem.W.mg_of X G gFG⟩, ⟨_, PySem.W.mg_of X G gMF⟩⟩
  refine ⟨PySem.W.fnOf "law" "law" (defArgs s_law) (defBody s_law) (defScope s_law) .none kV_law dc_law pm_law an_law cd_law ct_law, fun s v => .of_eq rfl, fun base _ _ => ?_⟩
  have xcT : XC K cT cM := ⟨⟨_, _, _, _, _, _, _, _, _, _, _, _, _, _, cbT⟩, ccT, cxT, cdT, ceT, cfT, kg, kt, cgT, chT⟩
  have F_gT := fun_mk (st := s_Twice___init) l_gT c_gT k_gT
  have b_gT := F_gT.binds (ps := ["self", "name"]) fun _ _ _ _ _ _ us hl => by
    apply us2 ?_ us hl
    intros
    rfl
  have T0T := ok_init1 (P := l.prog) (w := w) (mg := mg) (base := base) (k := 0) (C := cT) (M := cM) (f1 := "name") F_gT xcT hnT ⟨rfl, rfl, rfl, by decide +kernel, rfl, by decide +kernel, by decide +kernel⟩ rfl (by decide +kernel) (by decide +kernel) (by decide) (by decide)
  have xtT : XM1 l.prog w K mg base 1 "Twice" "name" cT cM gT _ := ⟨xcT, gaT, gbT, T0T, b_gT, PySem.W.mg_of X G caT, hnT⟩
  have xcB : XC K cB cM := ⟨⟨_, _, _, _, _, _, _, _, _, _, _, _, _, _, cbB⟩, ccB, cxB, cdB, ceB, cfB, kg, kt, cgB, chB⟩
  have F_gB := fun_mk (st := s_BadStep___init) l_gB c_gB k_gB
  have b_gB := F_gB.binds (ps := ["self", "state", "letter"]) fun _ _ _ _ _ _ us hl => by
    apply us3 ?_ us hl
    intros
    rfl
  have T0B := ok_init2 (P := l.prog) (w := w) (mg := mg) (base := base) (k := 0) (C := cB) (M := cM) (f1 := "state") (f2 := "letter") F_gB xcB hnB hnB2 ⟨rfl, rfl, rfl, by decide +kernel, rfl, by decide +kernel, by decide +kernel⟩ rfl (by decide +kernel) (by decide +kernel) (by decide +kernel) (by decide) (by decide) (by decide) (by decide)
  have xtB : XM2 l.prog w K mg base 1 "BadStep" "state" "letter" cB cM gB _ := ⟨xcB, gaB, gbB, T0B, b_gB, PySem.W.mg_of X G caB, hnB, hnB2⟩
  have xcG : XC K cG cM := ⟨⟨_, _, _, _, _, _, _, _, _, _, _, _, _, _, cbG⟩, ccG, cxG, cdG, ceG, cfG, kg, kt, cgG, chG⟩
  have F_gG := fun_mk (st := s_BadGood___init) l_gG c_gG k_gG
  have b_gG := F_gG.binds (ps := ["self", "state"]) fun _ _ _ _ _ _ us hl => by
    apply us2 ?_ us hl
    intros
    rfl
  have T0G := ok_init1 (P := l.prog) (w := w) (mg := mg) (base := base) (k := 0) (C := cG) (M := cM) (f1 := "state") F_gG xcG hnG ⟨rfl, rfl, rfl, by decide +kernel, rfl, by decide +kernel, by decide +kernel⟩ rfl (by decide +kernel) (by decide +kernel) (by decide) (by decide)
  have xtG : XM1 l.prog w K mg base 1 "BadGood" "state" cG cM gG _ := ⟨xcG, gaG, gbG, T0G, b_gG, PySem.W.mg_of X G caG, hnG⟩
  have xcN : XC K cN cM := ⟨⟨_, _, _, _, _, _, _, _, _, _, _, _, _, _, cbN⟩, ccN, cxN, cdN, ceN, cfN, kg, kt, cgN, chN⟩
  have F_gN := fun_mk (st := s_NoText___init) l_gN c_gN k_gN
  have b_gN := F_gN.binds (ps := ["self", "line"]) fun _ _ _ _ _ _ us hl => by
    apply us2 ?_ us hl
    intros
    rfl
  have T0N := ok_init1 (P := l.prog) (w := w) (mg := mg) (base := base) (k := 0) (C := cN) (M := cM) (f1 := "line") F_gN xcN hnN ⟨rfl, rfl, rfl, by decide +kernel, rfl, by decide +kernel, by decide +kernel⟩ rfl (by decide +kernel) (by decide +kernel) (by decide) (by decide)
  have xtN : XM1 l.prog w K mg base 1 "NoText" "line" cN cM gN _ := ⟨xcN, gaN, gbN, T0N, b_gN, PySem.W.mg_of X G caN, hnN⟩
  have D1 := ok_draw (P := l.prog) (w := w) (mg := mg) (base := base) (k := 0) F_draw
  have C1 := ok_cell (P := l.prog) (w := w) (mg := mg) (base := base) (k := 0) F_cell B.len_
  have W1 := ok_flow F_flow C1 b_cell k_cell (PySem.W.mg_of X G a_cell)
  have Y1 := ok_names F_nam D1 b_draw k_draw (PySem.W.mg_of X G a_draw) B.range_ B.len_
  have G_draw : Fn l.prog w K mg base 1 _ _ _ _ _ := ⟨D1, b_draw, k_draw, PySem.W.mg_of X G a_draw⟩
  have R1 := ok_rising (P := l.prog) (w := w) (mg := mg) (base := base) (k := 2) F_ris B
  have T1 := ok_twice F_twi B xtT
  have S1 := ok_steps F_ste B xtB
  have O1 := ok_good F_goo B xtG
  have G_twi : FnX l.prog w K mg base 3 _ _ _ _ _ := ⟨T1, b_twi, k_twi, PySem.W.mg_of X G a_twi⟩
  have G_ste : FnX l.prog w K mg base 3 _ _ _ _ _ := ⟨S1, b_ste, k_ste, PySem.W.mg_of X G a_ste⟩
  have G_goo : FnX l.prog w K mg base 3 _ _ _ _ _ := ⟨O1, b_goo, k_goo, PySem.W.mg_of X G a_goo⟩
  have G_ris : Fn l.prog w K mg base 3 _ _ _ _ _ := ⟨R1, b_ris, k_ris, PySem.W.mg_of X G a_ris⟩
  have S : MoC K C_Machine := ⟨⟨cg_Machine, ch_Machine, co_Machine, cs_Machine⟩, cf_Machine_letters, cf_Machine_table, cf_Machine_good⟩
  have I1 := ok_init F_ini B S G_twi G_ste G_goo G_ris
  have M4 : MakeM l.prog w K mg base 4 C_Machine cT cB cG f_ini _ := ⟨⟨cm_Machine, ma_ini, mb_ini, ck_Machine⟩, S, I1, b_ini, PySem.W.mg_of X G ca_Machine⟩
  have M10 : MakeM l.prog w K mg base 10 C_Machine cT cB cG f_ini _ := ⟨⟨cm_Machine, ma_ini, mb_ini, ck_Machine⟩, S, I1.mono (by decide), b_ini, PySem.W.mg_of X G ca_Machine⟩
  have xtN4 : XM1 l.prog w K mg base 4 "NoText" "line" cN cM gN _ := ⟨xcN, gaN, gbN, T0N.mono (by decide), b_gN, PySem.W.mg_of X G caN, hnN⟩
  have A1 := ok_is_name (P := l.prog) (w := w) (mg := mg) (base := base) (k := 0) F_isn B
  have A2 := ok_words_of (P := l.prog) (w := w) (mg := mg) (base := base) (k := 0) F_wor B
  have A3 := ok_num (P := l.prog) (w := w) (mg := mg) (base := base) (k := 0) F_num B
  have G_isn : Fn l.prog w K mg base 1 _ _ _ _ _ := ⟨A1, b_isn, k_isn, PySem.W.mg_of X G a_isn⟩
  have G_wor : Fn l.prog w K mg base 1 _ _ _ _ _ := ⟨A2, b_wor, k_wor, PySem.W.mg_of X G a_wor⟩
  have G_num : Fn l.prog w K mg base 1 _ _ _ _ _ := ⟨A3, b_num, k_num, PySem.W.mg_of X G a_num⟩
  have A4 := ok_letin F_lin B G_wor G_isn
  have A5 := ok_stin F_sin B G_wor G_num
  have G_lin : Fn l.prog w K mg base 5 _ _ _ _ _ := ⟨A4.mono (by decide), b_lin, k_lin, PySem.W.mg_of X G a_lin⟩
  have G_sin : Fn l.prog w K mg base 5 _ _ _ _ _ := ⟨A5.mono (by decide), b_sin, k_sin, PySem.W.mg_of X G a_sin⟩
  have A6 := ok_read F_rea B xtN4 G_lin G_sin M4
  have A8 := ok_text (P := l.prog) (w := w) (mg := mg) (base := base) (k := 0) F_txt B
  have B1 := ok_machine F_mac B G_draw
  have E1 := ok_all_of (P := l.prog) (w := w) (mg := mg) (base := base) (k := 0) F_alf B
  have G_alf : Fn l.prog w K mg base 1 _ _ _ _ _ := ⟨E1, b_alf, k_alf, PySem.W.mg_of X G a_alf⟩
  have E2 := ok_isn2 F_inm B G_alf
  have E3 := ok_isu2 F_inu B G_alf
  have G_inm : Fn l.prog w K mg base 2 _ _ _ _ _ := ⟨E2, b_inm, k_inm, PySem.W.mg_of X G a_inm⟩
  have G_inu : Fn l.prog w K mg base 2 _ _ _ _ _ := ⟨E3, b_inu, k_inu, PySem.W.mg_of X G a_inu⟩
  have E4 := ok_due F_due B G_inm G_inu
  have E5 := ok_signs (P := l.prog) (w := w) (mg := mg) (base := base) (k := 0) F_sig
  have E6 := ok_moved F_mov B G_draw
  have c1 : Fn l.prog w K mg base 3 _ _ _ _ _ := ⟨D1.mono (by decide), b_draw, k_draw, PySem.W.mg_of X G a_draw⟩
  have c2 : Fn l.prog w K mg base 3 _ _ _ _ _ := ⟨E5.mono (by decide), b_sig, k_sig, PySem.W.mg_of X G a_sig⟩
  have c3 : Fn l.prog w K mg base 3 _ _ _ _ _ := ⟨E6.mono (by decide), b_mov, k_mov, PySem.W.mg_of X G a_mov⟩
  have E7 := ok_spoilt F_spo B c1 c2 c3
  have c4 : FnX l.prog w K mg base 6 _ _ _ _ _ := ⟨A6, b_rea, k_rea, PySem.W.mg_of X G a_rea⟩
  have nNT : cN ≠ cT := fun z => by simp [z] at nd
  have nNB : cN ≠ cB := fun z => by simp [z] at nd
  have nTB : cT ≠ cB := fun z => by simp [z] at nd
  have nNM : cN ≠ cM := fun z => by simp [z] at nd
  have nTM : cT ≠ cM := fun z => by simp [z] at nd
  have TO : FnOk l.prog w K mg base CX0 7 _ _ _ (spToldA cN cT cB cG) := ((ok_toldN F_tol xtN xtT xtB nNT nNB nTB nNM nTM S c4).or (ok_toldT F_tol xtN xtT xtB nNT nNB nTB nNM nTM S c4)).or (ok_toldB F_tol xtN xtT xtB nNT nNB nTB nNM nTM S c4)
  have Z1 : Fn l.prog w K mg base 11 _ _ _ _ _ := ⟨W1.mono (by decide), b_flow, k_flow, PySem.W.mg_of X G a_flow⟩
  have Z2 : Fn l.prog w K mg base 11 _ _ _ _ _ := ⟨D1.mono (by decide), b_draw, k_draw, PySem.W.mg_of X G a_draw⟩
  have Z3 : Fn l.prog w K mg base 11 _ _ _ _ _ := ⟨Y1.mono (by decide), b_nam, k_nam, PySem.W.mg_of X G a_nam⟩
  have Z4 : Fn l.prog w K mg base 11 _ _ _ _ _ := ⟨B1.mono (by decide), b_mac, k_mac, PySem.W.mg_of X G a_mac⟩
  have Z5 : Fn l.prog w K mg base 11 _ _ _ _ _ := ⟨A8.mono (by decide), b_txt, k_txt, PySem.W.mg_of X G a_txt⟩
  have Z6 : Fn l.prog w K mg base 11 _ _ _ _ _ := ⟨E7.mono (by decide), b_spo, k_spo, PySem.W.mg_of X G a_spo⟩
  have Z7 : Fn l.prog w K mg base 11 _ _ _ _ _ := ⟨E4.mono (by decide), b_due, k_due, PySem.W.mg_of X G a_due⟩
  have Z8 : Fn l.prog w K mg base 11 _ _ _ _ _ := ⟨TO.mono (by decide), b_tol, k_tol, PySem.W.mg_of X G a_tol⟩
  exact ok_law F_law B Z1 Z2 Z3 Z4 Z5 Z6 Z7 Z8
theorem walk {l : PySem.W.OpenLaw} {q : Program} {loose : List Str} {XP : (Str → Option Value) → Heap → Prop} {YP : World → Heap → Prop} {d : DefRec} {K : Params → PySem.W.Frag} (hn : l.most = some 63) (hdf : d.params.defaults = [])
    (hY : ∀ (w : World) (h : Heap), YP w h → (K w.params).In h)
    (F : ∀ (w : World) (mg : Str → Option Value) (fa : Addr) (h : Heap), (K w.params).In h → h.Ns mainGlobals mg → mg d.name = some (.ref fa) →
      ∃ fd : FuncData, (∀ (s : Shared) (u : Value), BindsTo s fd ⟨[u], []⟩ [("_law_script", u)]) ∧ ∀ base : Heap, (K w.params).In base → base.Ns mainGlobals mg → FnOk l.prog w (K w.params) mg base CX0 12 fa fd ["_law_script"] (spLaw (K w.params))) :
    PySem.W.WalkO q loose XP YP l.row.toRowW d [] (fun f vs => PySem.call f vs) :=
  L2.walk_of (n := 63) (k := 12) (x := "_law_script") (CX := fun _ => CX0) (sp := fun w => spLaw (K w.params)) hn (by decide) hdf ⟨rfl, by decide, by decide, rfl⟩ hY F (fun _ _ a ns hl _ hS => ⟨a, ns, rfl, hS, hl, fun _ => rfl⟩) fun _ _ _ _ _ z => z
end KK
open PySem PySem.W PyProof.Rows
def PySem.W.Fast.tw2977551783676407500 : Program := PySem.Challenge.pw_meetdesks_k13_texts_of_no_machine
theorem PySem.W.Fast.te2977551783676407500 : PySem.Challenge.pw_meetdesks_k13_texts_of_no_machine = PySem.W.Fast.tw2977551783676407500 := rfl
set_option maxRecDepth 100000 in
set_option maxHeartbeats 0 in
theorem PySem.Challenge.cw_meetdesks_k13_texts_of_no_machine_holds : PySem.Challenge.rw_meetdesks_k13_texts_of_no_machine.Holds := by
  w_on; o_law; k_head; (case hw => w_witness2)
  k_fill
  refine KK.walk (l := PySem.Challenge.rw_meetdesks_k13_texts_of_no_machine) rfl rfl (fun w h Y => PySem.W.kIn_of Y) ?F
  case F =>
    intro w mg fa h KX G hmg
    refine' KK.all_mk KX G hmg ?a_cell ?l_cell ?c_cell ?k_cell ?a_flow ?l_flow ?c_flow ?k_flow ?a_draw ?l_draw ?c_draw ?k_draw ?a_nam ?l_nam ?c_nam ?k_nam ?a_mac ?l_mac ?c_mac ?k_mac ?a_txt ?l_txt ?c_txt ?k_txt ?a_sig ?l_sig ?c_sig ?k_sig ?a_mov ?l_mov ?c_mov ?k_mov ?a_spo ?l_spo ?c_spo ?k_spo ?a_alf ?l_alf ?c_alf ?k_alf ?a_inm ?l_inm ?c_inm ?k_inm ?a_inu ?l_inu ?c_inu ?k_inu ?a_due ?l_due ?c_due ?k_due ?a_tol ?l_tol ?c_tol ?k_tol ?a_law ?l_law ?c_law ?k_law ?a_isn ?l_isn ?c_isn ?k_isn ?a_wor ?l_wor ?c_wor ?k_wor ?a_num ?l_num ?c_num ?k_num ?a_ris ?l_ris ?c_ris ?k_ris ?a_twi ?l_twi ?c_twi ?k_twi ?a_ste ?l_ste ?c_ste ?k_ste ?a_goo ?l_goo ?c_goo ?k_goo ?a_rea ?l_rea ?c_rea ?k_rea ?a_lin ?l_lin ?c_lin ?k_lin ?a_sin ?l_sin ?c_sin ?k_sin ?ca_Machine ?cm_Machine ?ck_Machine ?cg_Machine ?ch_Machine ?co_Machine ?cs_Machine ?cf_Machine_letters ?cf_Machine_table ?cf_Machine_good ?ma_ini ?mb_ini ?l_ini ?c_ini ?k_ini ?aM ?kg ?kt ?caT ?cbT ?ccT ?cxT ?cdT ?ceT ?cfT ?cgT ?chT ?gaT ?gbT ?l_gT ?c_gT ?k_gT ?hnT ?caB ?cbB ?ccB ?cxB ?cdB ?ceB ?cfB ?cgB ?chB ?gaB ?gbB ?l_gB ?c_gB ?k_gB ?hnB ?hnB2 ?caG ?cbG ?ccG ?cxG ?cdG ?ceG ?cfG ?cgG ?chG ?gaG ?gbG ?l_gG ?c_gG ?k_gG ?hnG ?caN ?cbN ?ccN ?cxN ?cdN ?ceN ?cfN ?cgN ?chN ?gaN ?gbN ?l_gN ?c_gN ?k_gN ?hnN ?cbM ?gLN ?gSM ?gFG ?gMF ?z_len ?z_range ?z_max ?z_sorted ?z_tuple ?z_set ?z_min ?z_enumerate ?z_zip ?z_repr ?z_list ?z_all ?z_isinstance ?z_ValueError ?z_int ?z_bool ?z_str ?eSM ?eFG ?nd
    (case a_cell => k_is)
    (case l_cell => k_is)
    (case c_cell => k_is)
    (case k_cell => k_is)
    (case a_flow => k_is)
    (case l_flow => k_is)
    (case c_flow => k_is)
    (case k_flow => k_is)
    (case a_draw => k_is)
    (case l_draw => k_is)
    (case c_draw => k_is)
    (case k_draw => k_is)
    (case a_nam => k_is)
    (case l_nam => k_is)
    (case c_nam => k_is)
    (case k_nam => k_is)
    (case a_mac => k_is)
    (case l_mac => k_is)
    (case c_mac => k_is)
    (case k_mac => k_is)
    (case a_txt => k_is)
    (case l_txt => k_is)
    (case c_txt => k_is)
    (case k_txt => k_is)
    (case a_sig => k_is)
    (case l_sig => k_is)
    (case c_sig => k_is)
    (case k_sig => k_is)
    (case a_mov => k_is)
    (case l_mov => k_is)
    (case c_mov => k_is)
    (case k_mov => k_is)
    (case a_spo => k_is)
    (case l_spo => k_is)
    (case c_spo => k_is)
    (case k_spo => k_is)
    (case a_alf => k_is)
    (case l_alf => k_is)
    (case c_alf => k_is)
    (case k_alf => k_is)
    (case a_inm => k_is)
    (case l_inm => k_is)
    (case c_inm => k_is)
    (case k_inm => k_is)
    (case a_inu => k_is)
    (case l_inu => k_is)
    (case c_inu => k_is)
    (case k_inu => k_is)
    (case a_due => k_is)
    (case l_due => k_is)
    (case c_due => k_is)
    (case k_due => k_is)
    (case a_tol => k_is)
    (case l_tol => k_is)
    (case c_tol => k_is)
    (case k_tol => k_is)
    (case a_law => k_is)
    (case l_law => k_is)
    (case c_law => k_is)
    (case k_law => k_is)
    (case a_isn => k_is)
    (case l_isn => k_is)
    (case c_isn => k_is)
    (case k_isn => k_is)
    (case a_wor => k_is)
    (case l_wor => k_is)
    (case c_wor => k_is)
    (case k_wor => k_is)
    (case a_num => k_is)
    (case l_num => k_is)
    (case c_num => k_is)
    (case k_num => k_is)
    (case a_ris => k_is)
    (case l_ris => k_is)
    (case c_ris => k_is)
    (case k_ris => k_is)
    (case a_twi => k_is)
    (case l_twi => k_is)
    (case c_twi => k_is)
    (case k_twi => k_is)
    (case a_ste => k_is)
    (case l_ste => k_is)
    (case c_ste => k_is)
    (case k_ste => k_is)
    (case a_goo => k_is)
    (case l_goo => k_is)
    (case c_goo => k_is)
    (case k_goo => k_is)
    (case a_rea => k_is)
    (case l_rea => k_is)
    (case c_rea => k_is)
    (case k_rea => k_is)
    (case a_lin => k_is)
    (case l_lin => k_is)
    (case c_lin => k_is)
    (case k_lin => k_is)
    (case a_sin => k_is)
    (case l_sin => k_is)
    (case c_sin => k_is)
    (case k_sin => k_is)
    (case ca_Machine => k_is)
    (case cm_Machine => k_is)
    (case ck_Machine => k_is)
    (case cg_Machine => k_is)
    (case ch_Machine => k_is)
    (case co_Machine => k_is)
    (case cs_Machine => k_is)
    (case cf_Machine_letters => k_is)
    (case cf_Machine_table => k_is)
    (case cf_Machine_good => k_is)
    (case ma_ini => k_is)
    (case mb_ini => k_is)
    (case l_ini => k_is)
    (case c_ini => k_is)
    (case k_ini => k_is)
    (case aM => k_is)
    (case kg => k_is)
    (case kt => k_is)
    (case caT => k_is)
    (case cbT => k_is)
    (case ccT => k_is)
    (case cxT => k_is)
    (case cdT => k_is)
    (case ceT => k_is)
    (case cfT => k_is)
    (case cgT => k_is)
    (case chT => k_is)
    (case gaT => k_is)
    (case gbT => k_is)
    (case l_gT => k_is)
    (case c_gT => k_is)
    (case k_gT => k_is)
    (case hnT => k_is)
    (case caB => k_is)
    (case cbB => k_is)
    (case ccB => k_is)
    (case cxB => k_is)
    (case cdB => k_is)
    (case ceB => k_is)
    (case cfB => k_is)
    (case cgB => k_is)
    (case chB => k_is)
    (case gaB => k_is)
    (case gbB => k_is)
    (case l_gB => k_is)
    (case c_gB => k_is)
    (case k_gB => k_is)
    (case hnB => k_is)
    (case hnB2 => k_is)
    (case caG => k_is)
    (case cbG => k_is)
    (case ccG => k_is)
    (case cxG => k_is)
    (case cdG => k_is)
    (case ceG => k_is)
    (case cfG => k_is)
    (case cgG => k_is)
    (case chG => k_is)
    (case gaG => k_is)
    (case gbG => k_is)
    (case l_gG => k_is)
    (case c_gG => k_is)
    (case k_gG => k_is)
    (case hnG => k_is)
    (case caN => k_is)
    (case cbN => k_is)
    (case ccN => k_is)
    (case cxN => k_is)
    (case cdN => k_is)
    (case ceN => k_is)
    (case cfN => k_is)
    (case cgN => k_is)
    (case chN => k_is)
    (case gaN => k_is)
    (case gbN => k_is)
    (case l_gN => k_is)
    (case c_gN => k_is)
    (case k_gN => k_is)
    (case hnN => k_is)
    (case cbM => k_is)
    (case gLN => k_is)
    (case gSM => k_is)
    (case gFG => k_is)
    (case gMF => k_is)
    (case z_len => k_is)
    (case z_range => k_is)
    (case z_max => k_is)
    (case z_sorted => k_is)
    (case z_tuple => k_is)
    (case z_set => k_is)
    (case z_min => k_is)
    (case z_enumerate => k_is)
    (case z_zip => k_is)
    (case z_repr => k_is)
    (case z_list => k_is)
    (case z_all => k_is)
    (case z_isinstance => k_is)
    (case z_ValueError => k_is)
    (case z_int => k_is)
    (case z_bool => k_is)
    (case z_str => k_is)
    (case eSM => decide +kernel)
    (case eFG => decide +kernel)
    (case nd => decide)
